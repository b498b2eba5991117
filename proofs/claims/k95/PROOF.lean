import PyProof.Rows.All
import Wide.FinOn
import Lean
import KE.KDictOf
import KE.KFromBytes
import KE.KIsAll
import KE.KItem
import KE.KItemsList
import KE.KRevIter
import PySem.Challenge.RW_sumwires_k95_whole_heard_and_written
section
variable {α β γ δ ε ζ η θ ι : Sort _}{G:Prop}
theorem exx2{P:α→β→Prop}(h:∃a b,P a b)(k:∀a b,P a b→G):G:=h.elim fun a h=>Exists.elim h (k a)
theorem eyy2{P:α→β→Prop}(a:α)(b:β)(h:P a b):∃a b,P a b:=⟨a,b,h⟩
theorem exx3{P:α→β→γ→Prop}(h:∃a b c,P a b c)(k:∀a b c,P a b c→G):G:=h.elim fun a h=>exx2 h (k a)
theorem eyy3{P:α→β→γ→Prop}(a:α)(b:β)(c:γ)(h:P a b c):∃a b c,P a b c:=⟨a,b,c,h⟩
theorem exx4{P:α→β→γ→δ→Prop}(h:∃a b c d,P a b c d)(k:∀a b c d,P a b c d→G):G:=h.elim fun a h=>exx3 h (k a)
theorem eyy4{P:α→β→γ→δ→Prop}(a:α)(b:β)(c:γ)(d:δ)(h:P a b c d):∃a b c d,P a b c d:=⟨a,b,c,d,h⟩
theorem exx5{P:α→β→γ→δ→ε→Prop}(h:∃a b c d e,P a b c d e)(k:∀a b c d e,P a b c d e→G):G:=h.elim fun a h=>exx4 h (k a)
theorem eyy5{P:α→β→γ→δ→ε→Prop}(a:α)(b:β)(c:γ)(d:δ)(e:ε)(h:P a b c d e):∃a b c d e,P a b c d e:=⟨a,b,c,d,e,h⟩
theorem exx6{P:α→β→γ→δ→ε→ζ→Prop}(h:∃a b c d e f,P a b c d e f)(k:∀a b c d e f,P a b c d e f→G):G:=h.elim fun a h=>exx5 h (k a)
theorem eyy6{P:α→β→γ→δ→ε→ζ→Prop}(a:α)(b:β)(c:γ)(d:δ)(e:ε)(f:ζ)(h:P a b c d e f):∃a b c d e f,P a b c d e f:=⟨a,b,c,d,e,f,h⟩
theorem exx7{P:α→β→γ→δ→ε→ζ→η→Prop}(h:∃a b c d e f g,P a b c d e f g)(k:∀a b c d e f g,P a b c d e f g→G):G:=h.elim fun a h=>exx6 h (k a)
theorem eyy7{P:α→β→γ→δ→ε→ζ→η→Prop}(a:α)(b:β)(c:γ)(d:δ)(e:ε)(f:ζ)(g:η)(h:P a b c d e f g):∃a b c d e f g,P a b c d e f g:=⟨a,b,c,d,e,f,g,h⟩
theorem exx8{P:α→β→γ→δ→ε→ζ→η→θ→Prop}(h:∃a b c d e f g i,P a b c d e f g i)(k:∀a b c d e f g i,P a b c d e f g i→G):G:=h.elim fun a h=>exx7 h (k a)
theorem eyy8{P:α→β→γ→δ→ε→ζ→η→θ→Prop}(a:α)(b:β)(c:γ)(d:δ)(e:ε)(f:ζ)(g:η)(i:θ)(h:P a b c d e f g i):∃a b c d e f g i,P a b c d e f g i:=⟨a,b,c,d,e,f,g,i,h⟩
theorem exx9{P:α→β→γ→δ→ε→ζ→η→θ→ι→Prop}(h:∃a b c d e f g i j,P a b c d e f g i j)(k:∀a b c d e f g i j,P a b c d e f g i j→G):G:=h.elim fun a h=>exx8 h (k a)
theorem eyy9{P:α→β→γ→δ→ε→ζ→η→θ→ι→Prop}(a:α)(b:β)(c:γ)(d:δ)(e:ε)(f:ζ)(g:η)(i:θ)(j:ι)(h:P a b c d e f g i j):∃a b c d e f g i j,P a b c d e f g i j:=⟨a,b,c,d,e,f,g,i,j,h⟩
end
section
variable {G A B C D E F H I J K L M:Prop}
theorem axx3(h:A∧B∧C)(k:A→B→C→G):G:=k h.1 h.2.1 h.2.2
theorem ayy3(a:A)(b:B)(c:C):A∧B∧C:=⟨a,b,c⟩
theorem axx4(h:A∧B∧C∧D)(k:A→B→C→D→G):G:=axx3 h.2 (k h.1)
theorem ayy4(a:A)(b:B)(c:C)(d:D):A∧B∧C∧D:=⟨a,b,c,d⟩
theorem axx5(h:A∧B∧C∧D∧E)(k:A→B→C→D→E→G):G:=axx4 h.2 (k h.1)
theorem ayy5(a:A)(b:B)(c:C)(d:D)(e:E):A∧B∧C∧D∧E:=⟨a,b,c,d,e⟩
theorem axx6(h:A∧B∧C∧D∧E∧F)(k:A→B→C→D→E→F→G):G:=axx5 h.2 (k h.1)
theorem ayy6(a:A)(b:B)(c:C)(d:D)(e:E)(f:F):A∧B∧C∧D∧E∧F:=⟨a,b,c,d,e,f⟩
theorem axx7(h:A∧B∧C∧D∧E∧F∧H)(k:A→B→C→D→E→F→H→G):G:=axx6 h.2 (k h.1)
theorem ayy7(a:A)(b:B)(c:C)(d:D)(e:E)(f:F)(g:H):A∧B∧C∧D∧E∧F∧H:=⟨a,b,c,d,e,f,g⟩
theorem axx8(h:A∧B∧C∧D∧E∧F∧H∧I)(k:A→B→C→D→E→F→H→I→G):G:=axx7 h.2 (k h.1)
theorem ayy8(a:A)(b:B)(c:C)(d:D)(e:E)(f:F)(g:H)(i:I):A∧B∧C∧D∧E∧F∧H∧I:=⟨a,b,c,d,e,f,g,i⟩
theorem axx9(h:A∧B∧C∧D∧E∧F∧H∧I∧J)(k:A→B→C→D→E→F→H→I→J→G):G:=axx8 h.2 (k h.1)
theorem ayy9(a:A)(b:B)(c:C)(d:D)(e:E)(f:F)(g:H)(i:I)(j:J):A∧B∧C∧D∧E∧F∧H∧I∧J:=⟨a,b,c,d,e,f,g,i,j⟩
theorem axx10(h:A∧B∧C∧D∧E∧F∧H∧I∧J∧K)(k:A→B→C→D→E→F→H→I→J→K→G):G:=axx9 h.2 (k h.1)
theorem ayy10(a:A)(b:B)(c:C)(d:D)(e:E)(f:F)(g:H)(i:I)(j:J)(l:K):A∧B∧C∧D∧E∧F∧H∧I∧J∧K:=⟨a,b,c,d,e,f,g,i,j,l⟩
theorem axx11(h:A∧B∧C∧D∧E∧F∧H∧I∧J∧K∧L)(k:A→B→C→D→E→F→H→I→J→K→L→G):G:=axx10 h.2 (k h.1)
theorem ayy11(a:A)(b:B)(c:C)(d:D)(e:E)(f:F)(g:H)(i:I)(j:J)(l:K)(m:L):A∧B∧C∧D∧E∧F∧H∧I∧J∧K∧L:=⟨a,b,c,d,e,f,g,i,j,l,m⟩
theorem axx12(h:A∧B∧C∧D∧E∧F∧H∧I∧J∧K∧L∧M)(k:A→B→C→D→E→F→H→I→J→K→L→M→G):G:=axx11 h.2 (k h.1)
theorem ayy12(a:A)(b:B)(c:C)(d:D)(e:E)(f:F)(g:H)(i:I)(j:J)(l:K)(m:L)(n:M):A∧B∧C∧D∧E∧F∧H∧I∧J∧K∧L∧M:=⟨a,b,c,d,e,f,g,i,j,l,m,n⟩
end
open Lean in
local macro_rules
  | `(tactic| obtain ⟨$ps,*⟩ := $t:term) => do
    let ps := ps.getElems
    let n := ps.size
    if n < 3 then Macro.throwUnsupported
    -- what a pattern is bound to, and what is done behind
    let one (i : Nat) (p : TSyntax `Lean.Parser.Tactic.rcasesPatLo) : MacroM (TSyntax `term × Option (TSyntax `tactic)) := do
      let z := mkIdent (Name.mkSimple s!"zz{i}")
      match p with
      | `(Lean.Parser.Tactic.rcasesPatLo| $x:ident) => if x.getId == `rfl then return (z, some (← `(tactic| subst $z:term))) else return (x, none)
      | `(Lean.Parser.Tactic.rcasesPatLo| _) => return (← `(_), none)
      | `(Lean.Parser.Tactic.rcasesPatLo| $q:rcasesPatMed) => return (z, some (← `(tactic| obtain $q:rcasesPatMed := $z:term)))
      | _ => Macro.throwUnsupported
    let mut alts : Array (TSyntax ``Lean.Parser.Tactic.tacticSeq) := #[]
    let clr : TSyntax `tactic ← if t.raw.isIdent then `(tactic| try clear $(⟨t.raw⟩):ident) else `(tactic| skip)
    let w := mkIdent `ww
    for ex in [true, false] do
      for k in [0:n] do
        let i := if ex then n - 1 - k else n - k
        if i < 1 || i > (if ex then 9 else 12) || (!ex && i < 3) then continue
        let f := mkIdent (if ex then if i == 1 then `Exists.elim else Name.mkSimple s!"exx{i}" else Name.mkSimple s!"axx{i}")
        let m := if ex then i else if i == n then i else i - 1
        let mut bs : Array (TSyntax `term) := #[]
        let mut post : Array (TSyntax `tactic) := #[]
        for j in [0:m] do
          let (b, q) ← one j ps[j]!
          bs := bs.push b
          if let some q := q then post := post.push q
        if m < n then
          if m + 1 == n then
            let (b, q) ← one m ps[m]!
            bs := bs.push b
            if let some q := q then post := post.push q
          else
            bs := bs.push w
            let rest := ps.extract m n
            post := post.push (← `(tactic| obtain ⟨$rest,*⟩ := $w:term))
        alts := alts.push (← `(Lean.Parser.Tactic.tacticSeq| refine $f $t ?_; $clr:tactic; intro $bs*; $post;*))
    alts := alts.push (← `(Lean.Parser.Tactic.tacticSeq| rcases $t:term with ⟨$ps,*⟩))
    `(tactic| first $[| $alts]*)
open Lean in
local macro_rules
  | `(tactic| rintro $rs:rintroPat*) => do
    let mut out : Array (TSyntax `tactic) := #[]
    let mut any := false
    for r in rs do
      match r with
      | `(rintroPat| $x:ident) => if x.getId == `rfl then out := out.push (← `(tactic| (intro zz; subst zz))) else out := out.push (← `(tactic| intro $x:ident))
      | `(rintroPat| _) => out := out.push (← `(tactic| intro _))
      | `(rintroPat| ⟨$ps,*⟩) =>
        if ps.getElems.size ≥ 3 then any := true
        out := out.push (← `(tactic| (intro zz; obtain ⟨$ps,*⟩ := zz)))
      | _ => Macro.throwUnsupported
    if !any then Macro.throwUnsupported
    `(tactic| ($[$out:tactic];*))
open Lean in
local macro_rules
  | `(tactic| refine ⟨$xs,*⟩) => do
    let xs := xs.getElems
    let n := xs.size
    if n < 4 then Macro.throwUnsupported
    let mut alts : Array (TSyntax ``Lean.Parser.Tactic.tacticSeq) := #[]
    for k in [0:n] do
      let i := n - 1 - k
      if i > 9 then continue
      let ws := xs.extract 0 i
      let rs := xs.extract i n
      let m := n - i
      let cs : List (TSyntax `term) ← if m == 1 then pure [rs[0]!] else if m == 2 || m > 12 then pure [← `(⟨$rs,*⟩)] else pure [← `($(mkIdent (Name.mkSimple s!"ayy{m}")) $rs*), ← `(⟨$rs,*⟩)]
      for c in cs do
        if i == 0 then
          if m > 2 then alts := alts.push (← `(Lean.Parser.Tactic.tacticSeq| refine ($c)))
        else if i == 1 then alts := alts.push (← `(Lean.Parser.Tactic.tacticSeq| refine Exists.intro $(ws[0]!) $c))
        else alts := alts.push (← `(Lean.Parser.Tactic.tacticSeq| refine $(mkIdent (Name.mkSimple s!"eyy{i}")) $ws* $c))
    alts := alts.push (← `(Lean.Parser.Tactic.tacticSeq| refine (⟨$xs,*⟩)))
    `(tactic| first $[| $alts]*)
  | `(tactic| exact ⟨$xs,*⟩) => do
    let xs := xs.getElems
    if xs.size < 4 then Macro.throwUnsupported
    `(tactic| (refine ⟨$xs,*⟩))
open Option renaming some→a',none→gn,map_eq_some_iff→YR,isSome_map→ag3,map_some→ak8,getD_none→an1
open List renaming length_map→bx,getElem?_eq_some_iff→bA,getD_eq_getElem?_getD→bB,getElem?_eq_getElem→cn,mem_of_getElem?→dt,map_append→ee,length_append→eX,mem_singleton→gA,mem_append→hB,getElem?_map→hH,mem_map→ic,Nodup→kv,range→lx,mem_append_right→lA,take_length→mc,getElem?_append_left→mu,replicate→n',getElem?_append_right→ov,mem_append_left→qb,length_take→tu,mem_cons_of_mem→W1,mem_cons_self→W6,length_range→W7,mem_cons→WH,length_singleton→WS,map_map→WT,size_toArray→WU,length→X3,getElem?_eq_none→X7,length_cons→Xa,mem_range→Xd,mem_iff_getElem→Xe,map_cons→Xk,mem_iff_getElem?→Xm,getElem?_range→Xu,getElem?_take_of_lt→Xx,nodup_append→Xz,length_replicate→XD,take_of_length_le→XN,range_succ→XR,mem_filter→Y4,append_nil→Y8,singleton_append→Y9,foldl_append→Ya,filter_append→Yb,map_congr_left→Ye,getElem?_zip_eq_some→Yf,map_singleton→Yl,length_filter_le→Yn,replicate_succ→Yq,getElem_mem→YB,all_eq_true→YC,zip→YL,ext_getElem?→YM,replicate_succ'→YQ,map_take→Za,getElem?_drop→Zb,not_mem_nil→Zf,length_drop→Zg,any_eq_true→Zh,flatten_replicate_singleton→Zm,length_zip→Zw,find?_cons→Zx,lookup→Zy,take_append_of_le_length→ZA,eq_nil_of_length_eq_zero→ZC,lookup_cons→ZH,filter_cons→ZI,pairwise_map→ZY,getElem_take→ZZ,flatten_cons→Z',append_assoc→aa0,nodup_cons→aa4,eq_of_mem_replicate→aa8,map→ab5,pairwise_lt_range→ac0,filter_eq_nil_iff→ac1,map_id→ac5,of_mem_zip→ac6,forIn_cons→ac7,take_append_drop→ac8,take_succ→ad2,mem_of_mem_take→ad3,map_drop→ad8,any_cons→ae0,map_fst_zip→ae4,getElem_map→ae5,filterMap_cons→ae6,mem_range'→ag1,length_nil→ag2,map_nil→ah7,all_cons→ai0,pairwise_iff_getElem→ak5,pairwise_singleton→am0,getElem?_replicate→am1,filter_append_perm→am2,range_succ_eq_map→am6,getElem?_set_self→am7,range'→an7,reverse_reverse→ao2,pairwise_append→ao3,getElem?_set_ne→ao4,getElem?_of_mem→ao5,filter_eq_self→ap4,foldl→ap8,count→ap9,mem_replicate→aq4,mem_filterMap→aq5,map_replicate→aq6,all_replicate→aq7,take_add_one→ar6,reverse_cons→ar7,getElem?_inj→ar8,filter_congr→ar9,take_append→as6,map_snd_zip→as7,take_range→at4,foldl_cons→at5,filter_map→at6,take_left→au1,forIn_nil→au2,drop_zero→au3,sum_cons→av2,all_map→aw0
open PySem.W renaming Frag→b',mg_of→WM,findIn→WW,keepIn→XM,fnOf→X',mg_none_of→Y6,emptyDict→Yc,instObj→Yr,mroIn→Yu,callWith_K→YG,specialIn→YN,codeIn→YS,methodCall_KW→Zl,plainGet→aa5,lookIn→ac3,plainGet_of→ac9,excIn→ad1,isFn→ae8,methodObj→af0,hasDictIn→af1,handedIn→af5,takesIn→ag8,takerIn→ag9,cellsFrom_some→ak1,plainOver→an9,readsIn→aq0,makesIn→aq1,isClsIn→aq2,findCls→aq3,OpenLaw→aq8,typeIn→ar3,nsIn→at0
open _root_ renaming List→ef,decide_eq_false→f',decide_eq_true→hE,absurd→hQ,if_neg→oT,if_pos→zt,congrArg→Wy,of_decide_eq_true→WE,Option→WG,beq_eq_false_iff_ne→WY,Bool→X1,decide_eq_true_eq→XA,beq_self_eq_true→Y2,String→Yo,beq_iff_eq→ad4,ne_true_of_eq_false→ag7,of_decide_eq_false→ai5,or_false→ai9,if_true→am4,Array→an0
open PySem renaming Addr→eO,wpAny_bind→gs,FuncData→iv,sizeLine→la,sizeLine_eq→ra,Shared→vr,wpAny→vu,Value→xo,starEach→zx,wpAny_pure→W4,boot_len→W8,Str→Wz,model→WA,Program→WJ,mainGlobals→WZ,Around→X2,World→X5,Value→Xi,Heap→Xj,mem_of_lookup→XG,Expr→XS,wpAny_field→Y0,Str→Yt,wpAny_truthy_bool→YD,wpAny_pyIter_enum→YE,wpAny_passesOwn→YV,wpAny_mono→Z3,Addr→Z4,wpAny_holding→Ze,codeAny_builtin→Zi,wpAny_Call_Name_kw→Zo,wpAny_callSpecial?_slot→Zs,wpAny_seqItems→Zt,Stmt→ZD,call_meets→ZK,wpAny_call_entry→ZL,Spec→ZS,wpAny_loadPart'→aa1,wpAny_setField→ab0,wpAny_pyIter_tuple→ab2,tupleKind_room_in1→ab3,wpAny_pyIter_list→ab8,wpAny_newObj_type→ab9,codeAny_mono→ad5,Scope→ad6,wpAny_updateSeq→ae2,wpAny_execs_nil→ae3,builtinLookup_eq_fast→ae9,Shared→af4,plainId_quiet→ai1,typeIs_str→ai4,wpAny_pyIter_zip→aj9,wpAny_execs_cons→ak0,wpAny_specialOf→al7,typeLookup_type→al8,Within→al9,call→ap0,wpAny_comprehension_free→ap2,wpAny_typeOf→aq9,Obj→ar0,wpAny_nextOf_list_item→ar1,wpAny_isTrue_Compare1→as4,wpAny_of_eq→as9,call_enumerate_list→at7,wpAny_rule→au6,wpAny_call→au7,wpAny_Name→au8,typeIs_int→au9,wpAny_assign_Name→av4
open Nat renaming lt_of_lt_of_le→eP,pow_le_pow_right→gB,eq_of_testBit_eq→k',le_refl→p',two_pow_pos→W3,testBit_two_pow→W9,testBit_lt_two_pow→Wx,testBit_xor→WN,mod_two_eq_zero_or_one→WQ,pow_lt_pow_right→WV,ne_of_lt→W',shiftRight_eq_div_pow→X9,zero_testBit→Xf,lt_of_le_of_lt→Xl,testBit_two_pow_self→Xp,xor_assoc→Xv,and_comm→Xy,zero_add→XH,xor_zero→XI,lt_log2_self→XO,xor_self→XU,pow_succ→XX,ne_of_gt→XY,zero_le→XZ,lt_succ_self→Y5,and_zero→Y7,lt_irrefl→Yg,strongRecOn→Yh,le_trans→Yi,min_eq_left→Yk,zero_xor→Yy,zero_and→Yz,le_of_lt→YA,testBit_and→YI,not_lt_zero→YJ,log2_self_le→Z0,le_add_right→Z1,lt_pow_two_of_testBit→Z2,xor_comm→Z8,mul_comm→Z9,sub_self→Zq,le_of_not_lt→Zr,and_two_pow_sub_one_eq_mod→Zu,mul_le_mul→Zv,mul_le_mul_right→ZF,and_le_left→ZJ,testBit_div_two→ZQ,testBit_zero→ZW,testBit_succ→ZX,mul_left_comm→aa6,lt_succ_of_lt→aa7,pow_add→aa9,div_add_mod→ab1,exists_eq_add_of_le→ab6,testBit_shiftLeft→ad0,pow_zero→ad7,lt_trans→ad9,le_succ→ae7,xor_mod_two_pow→af2,lt_of_le_of_ne→af7,and_one_is_mod→af8,lt_trichotomy→ah0,testBit_eq_decide_div_mod_eq→ah1,pow_one→ah4,one_mul→ah5,mul_one→ah6,succ_mul→ah8,min_self→ah9,shiftLeft_eq→ai6,log2_lt→aj8,sub_zero→ak7,le_of_eq→ak9,add_comm→al0,testBit_shiftRight→an2,le_log2→an5,le_of_ble_eq_true→ao1,div_lt_of_lt_mul→ap3,zero_shiftLeft→ar4,xor_lt_two_pow→ar5,lt_of_not_le→at1,and_le_right→at3,le_antisymm→au0,mul_assoc→av9
open PySem.Heap renaming get?_push_of_some→gz,lt_size→i',get?_push_size→v',get?_update_other→XC,get?_update_self→Yp,get?_none_of_le→YX,size_push→Zk,SameBut→ZO
open Bool renaming false_ne_true→hF,false_and→X8,and_eq_true→Xc,true_and→Y1,and_false→Y3,eq_iff_iff→Yv,false_xor→YF,xor_false→YW,not_eq_true'→as1
open Int renaming toNat_natCast→wq,eq_ofNat_of_zero_le→YH,zero_add→YK,natCast_nonneg→Zc,fdiv_eq_ediv_of_nonneg→aa2,toNat→ae1,natAbs_natCast→af9,fmod_eq_emod_of_nonneg→ak6,one_mul→ap1,emod_lt_of_pos→as0,emod_nonneg→au5
open PyProof.Rows renaming boot_list→W2,callWith_type1→X0,boot_tuple→X4,boot_isinstance→Xn,boot_str→Z6,boot_all→Z7,boot_dict→ai2,boot_zip→ai7,boot_any→ai8,Call_→ap7,subscriptTail_builtinR→ar2,Subscript_→av0
open PySem.PassesOwn renaming never→W5
open Option.some renaming inj→WB
open PySem.F renaming plainAttrs_list→WC,excBase_ValueError→WX,type_int_bit_length→Xg,slot_int_bit_length→Xh,type_list_extend→Xq,type_list_append→Xr,slot_list_extend→Xs,slot_list_append→Xt,plainAttrs_int→XB,plainAttrs_str→Zd,type_str_split→ak2,slot_str_split→ak3,type_str_join→al5,slot_str_join→al6
open PySem.Value renaming ref→WD,none→XF,type→ZR,str→ag5,int→al1,bool→ao8,isStrOf→at8,isInt→av6,float→av7,bytes→av8
open PySem.Builtin.Int renaming intBits→WI
open Ne renaming symm→WK
open Sum renaming inr→WO,inl→XT
open PySem.Builtin renaming bitAnd→X6,bitXor→Xb,bitNot→Yj,bitOr→as8
open False renaming elim→Xo
open PySem.Builtin.SmallTypes renaming nextOf→Xw,ownedTupleIsFree→aa3
open PySem.NameKind renaming free→XJ,cell→Zn
open PySem.Obj renaming mapSeq→XQ,mapFields→Z5,data_mapFields→af6,isFreed_of_fields→ao0,cls_mapFields→as5
open PySem.Builtin.List renaming listExtendWith→Yd,listTooLong→YU,listSameRef→ag4,listUpdate→ah2,listItems→ai3
open Array renaming getElem?_eq_some_iff→Ym,length_toList→Y',getElem?_eq_getElem→aj7,forIn_toList→ap5,toList→av3
open PySem.Heap.SameBut renaming update→Ys
open PySem.Txt renaming split→Yw,join→ao7
open Classical renaming propDecidable→Yx,byContradiction→ZM,choose_spec→ab4,epsilon_spec→aj1,epsilon→am9,choose→an3
open PySem.WalksT renaming enumerateD→YO,zip2→ag6
open PySem.Around renaming under_plainId→YT,under→al2
open ForInStep renaming yield→YY
open PySem.Str renaming ofString→YZ,join→ZE,empty→ZU
open List.cons renaming inj→Zj
open Or renaming inr→Zp,inl→ZN
open Nat.succ renaming inj→Zz
open List.Pairwise renaming imp_of_mem→ZG,map→ac4,nil→aj5
open PySem.Builtin.Str renaming occurrences→ZT,strKind→aj6
open Sum.inr renaming inj→ZV
open True renaming intro→ab7
open PySem.EntryCells renaming newEntry→ac2
open PySem.Calls renaming spliced_cons→af3,spliced_nil→ag0,Name_function_global→aj2,callWith_builtin→am3,evalArgs_plain→an4
open PySem.Builtin.Dict renaming updateFrom→ah3
open PySem.Walks renaming list→aj0
open Prod renaming ext→aj3,fst→an6
open PySem.Paired renaming length→aj4,snoc→av1
open PyProof renaming noPylong_small→ak4
open PySem.SeqAt.EqAt renaming str_int→al3,int_str→al4,same→as3,of_refs→aw1
open PySem.Code renaming isFrame→am5,builtin→aw2
open PySem.Heap.DictOf renaming new→am8
open PySem.StrLaws renaming found_one→an8
open List.Perm renaming trans→ao6
open PySem.SeqAt renaming EqAt→ao9
open Iff renaming rfl→as2
open Sum.inl renaming inj→at9
open PySem.IsRange renaming new→au4
open PySem.W.WShape renaming has→av5
abbrev A':=ef (Nat×Nat)
abbrev B':=ef Yt
abbrev C':=ef Nat
abbrev Cr:=Xi->af4->Prop
abbrev E':=ef (Z4×ar0)
abbrev F':=ef Xi
abbrev G':=Yt->WG Xi
abbrev K':=an0 Xi
abbrev L':=an0 (WG Xi)
abbrev Ls:=Unit->af4->Prop
abbrev M':=ef Z4
abbrev P':=ef Int
abbrev Q':=WG Z4
abbrev R':=Yt->X1
abbrev S':=PySem.Result->af4->Prop
abbrev Tn:=ef (Yt×Z4)
abbrev U':=ef (Yt×Xi)
abbrev V':=WG Xi
set_option Elab.async false
set_option hygiene false in
local macro_rules
|`(@A)=>`((by omega))
|`(@C)=>`((by decide))
|`(@D)=>`((by walk_at "o"))
|`(@H)=>`((by decide +kernel))
|`(@G)=>`((by walk_at "b"))
|`(@E)=>`((by simp))
|`(@I)=>`((aC (K:=K) rfl))
|`(@F)=>`((by rfl))
set_option hygiene false in
local macro_rules
|`(!A $a $b $c)=>`((aV $a $b $c (λ_ _=>rfl)))
|`(!j $a $b)=>`((aa (pv $a) $b))
|`(!C $a $b)=>`((λ_ _ _ _ _=>⟨$a,aO,$b⟩))
local macro_rules | `(tactic| lia) => `(tactic| walk_at "l2")
set_option linter.all false
set_option maxRecDepth 100000
variable {C D S Y Z a dx i1 i2 l p t θ ι τ:Z4} {α:an0 (WG Xi)} {g':an0 PySem.GenState} {items ys:an0 Xi} {neg sK:X1} {env:PySem.Env} {e iter lB lT tg value:PySem.Expr} {fd:PySem.FuncData} {fy h':PySem.Heap} {sh:Int} {hC pins:ef (Z4×ar0)} {Op:ef (ef Yt)} {B2 es p1 p2 ψ:A'} {hs ws:ef (Yt×Z4)} {sums:ef (Yt×ef Yt)} {ch fp:ef Z4} {outer:ef PySem.Env} {pT β:ef PySem.Expr} {ns:P'} {as fx ks rows ts:C'} {pp:ef PySem.Stmt} {N ON pre:ef Yt} {bv its us:ef Xi} {G c d i j q r row x y:Nat} {υ:ar0} {an wE wP:WG Z4} {apos cpos nw oe ol ot pos pos' tpos:PySem.Pos} {prog:PySem.Program} {osc scope ζ:PySem.Scope} {lv s s':af4} {hJ z:Yt} {NE f:Yt->X1} {mA mg:Yt->WG Xi} {T qQ:Yo} {ct dv jp kf kh u γ δ χ:Xi}
namespace L2
open PySem PySem.Spec PyProof.Rows
noncomputable abbrev Key:=Sum Int Wz
noncomputable def Ce:Key->xo->X1
 | .inl k,v=>av6 k v
 | .inr x,v=>at8 x v
noncomputable def keyH (w:X5):Key->Int
 | .inl k=>hashInt k
 | .inr x=>hashStr w x
theorem dy:∀{k:Key} {v:xo},Ce k v=true->(∃i t,k=XT i/\v=al1 i t)∨(∃x t,k=WO x/\v=ag5 x t)
 | .inl i,v,h=>by
   obtain⟨t,e⟩:=Value.isInt_shape (k:=i) (v:=v) h;exact .inl ⟨i,t,rfl,e⟩
 | .inr x,v,h=>by
   obtain⟨t,e⟩:=Value.isStrOf_shape (x:=x) (v:=v) h;exact .inr ⟨x,t,rfl,e⟩
theorem KP (i:Int) (t:Tok):Ce (.inl i) (.int i t)=true:=by simp[Ce,av6]
theorem KO (x:Wz) (t:Tok):Ce (.inr x) (.str x t)=true:=by simp[Ce,at8]
theorem UI (a b:Int):decide ((XT a:Key)=XT b)=(a == b):=by
 by_cases e:a=b
 ·subst e;simp
 ·have h:¬(XT a:Key)=XT b:=λq=>e (at9 q);rw[f' h];exact(WY.mpr e).symm
theorem UF (a b:Wz):decide ((WO a:Key)=WO b)=decide (a=b):=by
 by_cases e:a=b
 ·subst e;simp
 ·have h:¬(WO a:Key)=WO b:=λq=>e (ZV q);rw[f' h,f' e]
theorem UH (a:Int) (b:Wz):decide ((XT a:Key)=WO b)=false:=f' (λq=>nomatch q)
theorem UG (a:Wz) (b:Int):decide ((WO a:Key)=XT b)=false:=f' (λq=>nomatch q)
noncomputable def dO (prog:WJ) (w:X5):PySem.KeyKind prog w Key where
 is:=Ce
 hash:=keyH w
 inj:=λv a b ha hb=>by
  rcases dy ha with ⟨i,t,rfl,rfl⟩ | ⟨x,t,rfl,rfl⟩
  ·rcases dy hb with ⟨j,u,rfl,e⟩ | ⟨y,u,rfl,e⟩
   ·injection e with Y _;rw[Y]
   ·exact nomatch e
  ·rcases dy hb with ⟨j,u,rfl,e⟩ | ⟨y,u,rfl,e⟩
   ·exact nomatch e
   ·injection e with Y _;rw[Y]
 byValue:=λk v h=>by
  rcases dy h with ⟨i,t,rfl,rfl⟩ | ⟨x,t,rfl,rfl⟩<;>rfl
 pyHash:=λZ h=>by
  rcases dy Z with ⟨i,t,rfl,rfl⟩ | ⟨x,t,rfl,rfl⟩
  ·exact wpAny_pyHash_int h
  ·exact wpAny_pyHash_str h
 eqBool:=fun ρ Z h=>by
  rcases dy ρ with ⟨i,t,rfl,rfl⟩ | ⟨x,t,rfl,rfl⟩
  ·rcases dy Z with ⟨j,u,rfl,rfl⟩ | ⟨y,u,rfl,rfl⟩
   ·rw[UI] at h;exact wpAny_eqBool_int h
   ·rw[UH] at h;exact al4 i t y u _ _ _ _ h
  ·rcases dy Z with ⟨j,u,rfl,rfl⟩ | ⟨y,u,rfl,rfl⟩
   ·rw[UG] at h;exact al3 x t j u _ _ _ _ h
   ·rw[UF] at h;exact wpAny_eqBool_str h
 «strs»:=λk x t v h=>by
  rcases dy h with ⟨i,u,rfl,e⟩ | ⟨y,u,rfl,e⟩
  ·exact nomatch e
  ·injection e with Y _
   subst Y
   cases v<;>rfl
theorem EC (prog:WJ) (w:X5) (i:Int) (t:Tok):(dO prog w).is (.inl i) (.int i t)=true:=KP i t
theorem EB (prog:WJ) (w:X5) (x:Wz) (t:Tok):(dO prog w).is (.inr x) (.str x t)=true:=KO x t
inductive V where
 | non | bl (b:X1) | int (i:Int) | str (x:Wz) | byt (b:an0 UInt8) | flt (b:UInt64) | ref (a:eO) | ty (n:Yo)
 deriving DecidableEq
variable {kvs:ef (Key×V)} {AT At:ef (Wz×V)} {am dvs vs:ef V} {v:V}
noncomputable def RelV:V->xo->Prop
 | .non,u=>u=XF
 | .bl b,u=>u=ao8 b
 | .int i,u=>∃t,u=al1 i t
 | .str x,u=>∃t,u=ag5 x t
 | .byt b,u=>∃t,u=av8 b t
 | .flt b,u=>∃t,u=av7 b t
 | .ref a,u=>u=WD a
 | .ty n,u=>u=ZR n
noncomputable abbrev Vals:ef V->F'->Prop:=Paired RelV
theorem Vals.length {xs:ef V} (r:Vals xs us):xs.length=us.length:=aj4 r
theorem Vals.get:∀{xs:ef V} {us:F'} {i:Nat} {x:V},Vals xs us->xs[i]? =a' x->∃u,us[i]? =a' u/\RelV x u
 | _,_,_,_,.nil,e=>by simp at e
 | _,_,0,_,.cons r _,e=>by simp at e;subst e;exact⟨_,rfl,r⟩
 | _,_,i + 1,x,.cons _ t,e=>by
   obtain⟨u,h1,h2⟩:=Vals.get (i:=i) (x:=x) t (by simpa using e);exact⟨u,by simpa using h1,h2⟩
theorem Vals.append:∀{xs ys:ef V} {us ws:F'},Vals xs us->Vals ys ws->Vals (xs++ys) (us++ws)
 | _,_,_,_,.nil,s=>s
 | _,_,_,_,.cons r t,s=> .cons r (Vals.append t s)
theorem Vals.take:∀{xs:ef V} {us:F'} (n:Nat),Vals xs us->Vals (xs.take n) (us.take n)
 | _,_,0,_=> .nil
 | _,_,_ + 1,.nil=> .nil
 | _,_,n + 1,.cons r t=> .cons r (Vals.take n t)
theorem Vals.drop:∀{xs:ef V} {us:F'} (n:Nat),Vals xs us->Vals (xs.drop n) (us.drop n)
 | _,_,0,r=>r
 | _,_,_ + 1,.nil=> .nil
 | _,_,n + 1,.cons _ t=>Vals.drop n t
noncomputable def RelO:WG V->V'->Prop
 | some v,a' u=>RelV v u
 | none,gn=>True
 | _,_=>False
noncomputable def KV {κ:Type}:ef (κ×V)->ef (κ×xo)->Prop:=Paired λ(p:κ×V) (q:κ×xo)=>p.1=q.1/\RelV p.2 q.2
noncomputable def kV:Key->V
 | .inl i=> .int i
 | .inr x=> .str x
inductive HO where
 | lst (xs:ef V)
 | tup (xs:ef V)
 | dK (kvs:ef (Key×V)) | dT (kvs:ef (ef Key×V))
 | set (S:Int->X1) (n:Nat)
 | ins (C dx:eO) (fs:ef (Wz×V))
 | own (x:eO)
 | xd (fs:ef (Wz×V))
 | met (f x:eO)
 | rng (lo hi:Int)
 | frz (o:Obj) (u:HO)
 | tbl (ps:K')
 | ext (φ:Xj->Prop)
variable {eH o:HO} {ob:Nat->HO}
noncomputable abbrev Hp:=eO->WG HO
variable {H H' H1 H2:Hp}
noncomputable def upd (H:Hp) (a:eO) (o:HO):Hp:=λb=>if b=a then a' o else H b
theorem ax:upd H a o a=a' o:=by unfold upd;rw[zt rfl]
theorem aG {b:eO} (h:b≠a):upd H a o b=H b:=by unfold upd;rw[oT h]
theorem cF {b:eO} {u:HO} (h:H a=a' o) (h':H b=a' u) (d:o≠u):a≠b:=by
 intro e;subst e;rw[h] at h';exact d (WB h')
theorem ao {b:eO} (h:H a=a' o) (h':H b=gn):a≠b:=by
 intro e;subst e;rw[h] at h';cases h'
section
variable (P:WJ) (w:X5)
noncomputable def iy (H:Hp) (h:Xj) (a:eO):HO->Prop
 | .lst xs=>xs.length<=la/\∃(its:F') (n:Nat),Vals xs its/\h.get? a=a' {cls:= .type "list",data:= .seq its.toArray n}
 | .tup xs=>xs.length<=la/\∃its:F',Vals xs its/\IsTup h a its.toArray
 | .dK kvs=>kvs.length<=la/\(a == sysModules)=false/\∃vs,KV kvs vs/\h.DictOf (dO P w) a vs
 | .dT kvs=>kvs.length<=la/\(a == sysModules)=false/\∃xs:ef (ef Key×eO×xo),
   Paired (λ(p:ef Key×V) (q:ef Key×eO×xo)=>p.1=q.1/\H q.2.1=a' (.tup (p.1.map kV))/\RelV p.2 q.2.2) kvs xs/\
   ∃o es ep,h.get? a=a' o/\o.ExactDict/\o.data= .dict es ep/\es.toList=xs.map (entryOfKey (tupleKind (dO P w)))/\(xs.map (·.1)).Nodup
 | .set S n=>h.SetOf (intKind P w) a S n
 | .ins C dx fs=>H dx=a' (.own a)/\fs.length<=1000/\dx≠a/\h.get? a=a' (Yr C dx)/\
   ∃mA,h.Ns1 dx mA/\(∀f,RelO (fs.lookup f) (mA f))/\al9 mA (fs.map (·.1))
 | .own _=>∃o,h.get? a=a' o
 | .xd fs=>∃mA,h.Ns1 a mA/\∀f,RelO (fs.lookup f) (mA f)
 | .rng lo hi=>∃t u v,h.get? a=a' {cls:= .type "range",data:= .fields #[.int lo t,.int hi u,.int 1 v]}
 | .frz o u=>h.get? a=a' o/\iy H h a u
 | .tbl ps=>h.get? a=a' {cls:= .none,data:= .fields ps}
 | .met f x=>h.get? a=a' (af0 (.ref f) (.ref x))
 | .ext φ=>φ h/\(∃o,h.get? a=a' o)/\∀h1 h2:Xj,φ h1->(∀o,h1.get? a=a' o->h2.get? a=a' o)->φ h2
def HOk (H:Hp) (h:Xj):Prop:=∀a o,H a=a' o->iy P w H h a o
end
section
variable {P:WJ} {w:X5} {H H':Hp} {h h':Xj} {a:eO} {o:HO}
theorem iy.lt (x:iy P w H h a o):a < h.objs.size:=by
 cases o with
 | lst xs=>obtain⟨_,_,_,_,e⟩:=x;exact i' e
 | tup xs=>obtain⟨_,_,_,p⟩:=x;exact p.lt
 | dK kvs=>obtain⟨_,_,_,_,o,_,_,e,_⟩:=x;exact i' e
 | dT kvs=>obtain⟨_,_,_,_,o,_,_,e,_⟩:=x;exact i' e
 | set S n=>obtain⟨o,_,_,_,e,_⟩:=x;exact i' e
 | ins C dx fs=>obtain⟨_,_,_,e,_⟩:=x;exact i' e
 | own y=>obtain⟨_,e⟩:=x;exact i' e
 | xd fs=>obtain⟨_,⟨_,_,_,e,_⟩,_⟩:=x;exact i' e
 | rng lo hi=>obtain⟨_,_,_,e⟩:=x;exact i' e
 | frz ob u=>obtain⟨e,_⟩:=x;exact i' e
 | tbl ps=>exact i' (show h.get? a=a' _ from x)
 | met f y=>exact i' (show h.get? a=a' _ from x)
 | ext φ=>obtain⟨_,⟨_,e⟩,_⟩:=x;exact i' e
theorem Paired.mapP {α β:Type} {F G:α->β->Prop}:∀{l₁:ef α} {l₂:ef β},Paired F l₁ l₂->(∀a b,F a b->G a b)->Paired G l₁ l₂
 | _,_,.nil,_=> .nil
 | _,_,.cons r t,f=> .cons (f _ _ r) (Paired.mapP t f)
theorem iy.stay (x:iy P w H h a o) (k:∀b u,(b=a∨H b=a' (.own a))->h.get? b=a' u->h'.get? b=a' u)
  (ho:∀b,H b=a' (.own a)->H' b=a' (.own a)) (ht:∀b xs,H b=a' (.tup xs)->H' b=a' (.tup xs)):iy P w H' h' a o:=by
 induction o with
 | lst xs=>obtain⟨z,its,n,r,e⟩:=x;exact⟨z,its,n,r,k _ _ (.inl rfl) e⟩
 | tup xs=>obtain⟨z,its,r,ob,e,c⟩:=x;exact⟨z,its,r,ob,k _ _ (.inl rfl) e,c⟩
 | dK kvs=>obtain⟨z,y,vs,r,ob,es,ep,e,c⟩:=x;exact⟨z,y,vs,r,ob,es,ep,k _ _ (.inl rfl) e,c⟩
 | dT kvs=>
   obtain⟨z,y,xs,r,ob,es,ep,e,c⟩:=x;exact⟨z,y,xs,Paired.mapP r λp q z=>⟨z.1,ht _ _ z.2.1,z.2.2⟩,ob,es,ep,k _ _ (.inl rfl) e,c⟩
 | set S n=>obtain⟨ob,es,ep,t,e,c⟩:=x;exact⟨ob,es,ep,t,k _ _ (.inl rfl) e,c⟩
 | ins C dx fs=>
   obtain⟨d,z,ne,e,mA,⟨od,es,ep,Y,c⟩,r⟩:=x;exact⟨ho _ d,z,ne,k _ _ (.inl rfl) e,mA,⟨od,es,ep,k _ _ (.inr d) Y,c⟩,r⟩
 | own y=>obtain⟨ob,e⟩:=x;exact⟨ob,k _ _ (.inl rfl) e⟩
 | xd fs=>obtain⟨mA,⟨od,es,ep,e,c⟩,r⟩:=x;exact⟨mA,⟨od,es,ep,k _ _ (.inl rfl) e,c⟩,r⟩
 | rng lo hi=>obtain⟨t,u,v,e⟩:=x;exact⟨t,u,v,k _ _ (.inl rfl) e⟩
 | frz ob u ih=>obtain⟨e,q⟩:=x;exact⟨k _ _ (.inl rfl) e,ih q⟩
 | tbl ps=>
   have e:h.get? a=a' {cls:= .none,data:= .fields ps}:=x;show h'.get? a=a' {cls:= .none,data:= .fields ps};exact k a _ (.inl rfl) e
 | met f y=>
   have e:h.get? a=a' (af0 (.ref f) (.ref y)):=x;show h'.get? a=a' (af0 (.ref f) (.ref y));exact k a _ (.inl rfl) e
 | ext φ=>obtain⟨p,⟨o,e⟩,st⟩:=x;exact⟨st _ _ p λo q=>k _ _ (.inl rfl) q,⟨o,k _ _ (.inl rfl) e⟩,st⟩
theorem HOk.lt (x:HOk P w H h) (e:H a=a' o):a < h.objs.size:=(x a o e).lt
theorem HOk.fresh (x:HOk P w H h) (e:h.objs.size<=a):H a=none:=by
 cases q:H a with
 | none=>rfl
 | some u=>exact hQ (eP (x.lt q) e) (Yg _)
theorem HOk.kept (x:HOk P w H h) (k:∀b u,h.get? b=a' u->h'.get? b=a' u):HOk P w H h':=λa o e=>
 (x a o e).stay (λb u _ q=>k b u q) (λ_ q=>q) λ_ _ q=>q
theorem HOk.laid (x:HOk P w H h) (k:∀b u,h.get? b=a' u->h'.get? b=a' u) (Y:h.objs.size<=a) (ι:iy P w (upd H a o) h' a o):HOk P w (upd H a o) h':=λb u e=>by
 have hn:=x.fresh Y;by_cases hb:b=a
 ·subst hb;rw[ax] at e;cases e;exact ι
 ·rw[aG hb] at e;exact(x b u e).stay (λc v _ q=>k c v q) (λc q=>by rw[aG (ao q hn)];exact q) λc xs q=>by rw[aG (ao q hn)];exact q
end
def Rd (H:Hp) (a:eO) (u:HO):Prop:=H a=a' u∨∃o,H a=a' (.frz o u)
theorem Rd.ok {P:WJ} {w:X5} {h:Xj} {u:HO} (r:Rd H a u) (x:HOk P w H h):iy P w H h a u:=by
 rcases r with r | ⟨o,r⟩
 ·exact x a u r
 ·obtain⟨_,q⟩:=x a _ r;exact q
noncomputable def Mut:WG HO->Prop
 | some (.lst _)=>True
 | some (.dK _)=>True
 | some (.dT _)=>True
 | some (.set _ _)=>True
 | some (.ins _ _ _)=>True
 | some (.ext _)=>True
 | _=>False
section
variable {P:WJ} {w:X5} {H:Hp} {h h':Xj} {x e:eO} {o':HO}
theorem HOk.write (ok:HOk P w H h) (β:Mut (H x)) (he:e=x∨H e=a' (.own x)) (k:∀b u,b≠e->h.get? b=a' u->h'.get? b=a' u) (θ:∃u,h'.get? e=a' u)
  (ι:iy P w (upd H x o') h' x o'):HOk P w (upd H x o') h':=λb u q=>by
 have Z:∀c y,H c=a' (.own y)->c≠x:=λc y r z=>by subst z;rw[r] at β;exact β
 have α:∀c xs,H c=a' (.tup xs)->c≠x:=λc xs r z=>by subst z;rw[r] at β;exact β
 by_cases hb:b=x
 ·subst hb;rw[ax] at q;cases q;exact ι
 ·rw[aG hb] at q;by_cases Y:b=e
  ·have φ:H b=a' (.own x):=by
    rcases he with z | z
    ·exact hQ (Y.trans z) hb
    ·rw[Y];exact z
   rw[q] at φ;cases φ;obtain⟨v,γ⟩:=θ;exact⟨v,by rw[Y];exact γ⟩
  ·refine(ok b u q).stay (λc v hc r=>k c v ?_ r) (λc r=>by rw[aG (Z c b r)];exact r) λc xs r=>by rw[aG (α c xs r)];exact r
   rcases hc with rfl | hc
   ·exact Y
   ·rintro rfl;rcases he with z | z
    ·exact Z c b hc z
    ·rw[hc] at z;cases z;exact hb rfl
end
structure Un (fs ex:M') (H H':Hp) (h h':Xj):Prop where
 keep:∀b o,h.get? b=a' o->H b=gn->b∉fs->b∉ex->h'.get? b=a' o
 slot:∀b o,h.get? b=a' o->H b=gn->b∈fs->b∉ex->∃sl,h'.get? b=a' {o with slots:=sl}
 free:∀b o,h.get? b=a' o->H b=gn->b∉ex->H' b=gn
 there:∀b o,h.get? b=a' o->b∉ex->∃o',h'.get? b=a' o'
 tups:∀b xs,H b=a' (.tup xs)->H' b=a' (.tup xs)
 frzs:∀b o u,H b=a' (.frz o u)->H' b=a' (.frz o u)
 tbls:∀b ps,H b=a' (.tbl ps)->∃more,H' b=a' (.tbl (ps++more))
section
variable {fs fs' ex ex':M'} {H H1 H2:Hp} {h h1 h2 h':Xj} {a x e:eO} {o:HO}
theorem Un.any (u:Un fs ex H H1 h h1) {b:eO} (q:h.get? b=a' υ) (n:H b=gn) (hx:b∉ex):∃ρ,h1.get? b=a' {υ with slots:=ρ}:=by
 by_cases hb:b∈fs
 ·exact u.slot b υ q n hb hx
 ·exact⟨υ.slots,u.keep b υ q n hb hx⟩
theorem Un.kept (k:∀b u,h.get? b=a' u->h'.get? b=a' u):Un fs ex H H h h':=
 ⟨λb ob q _ _ _=>k b ob q,λb ob q _ _ _=>⟨ob.slots,k b ob q⟩,λ_ _ _ n _=>n,λb ob q _=>⟨ob,k b ob q⟩,λ_ _ q=>q,λ_ _ _ q=>q,λ_ ps q=>⟨#[],by rw[q];simp⟩⟩
theorem Un.refl:Un fs ex H H h h:=Un.kept λ_ _ q=>q
theorem Un.laid (k:∀b u,h.get? b=a' u->h'.get? b=a' u) (Y:h.objs.size<=a) (hn:H a=gn):Un fs ex H (upd H a o) h h' where
 keep:=λb u q _ _ _=>k b u q
 slot:=λb u q _ _ _=>⟨u.slots,k b u q⟩
 free:=λb u q n _=>by rw[aG (W' (eP (i' q) Y))];exact n
 there:=λb u q _=>⟨u,k b u q⟩
 tups:=λb xs q=>by rw[aG (ao q hn)];exact q
 frzs:=λb u xs q=>by rw[aG (ao q hn)];exact q
 tbls:=λb ps q=>⟨#[],by rw[aG (ao q hn),q];simp⟩
theorem Un.write (Z:Mut (H x)) (he:e=x∨H e=a' (.own x)) (k:∀b u,b≠e->h.get? b=a' u->h'.get? b=a' u) (θ:∃u,h'.get? e=a' u):Un fs ex H (upd H x o) h h':=by
 have α:∀b,H b=gn->b≠x:=λb n z=>by subst z;rw[n] at Z;exact Z
 have hb:∀b,H b=gn->b≠e:=λb n z=>by
  subst z;rcases he with r | r
  ·exact α b n r
  ·rw[n] at r;cases r
 have hm:∀b u,H b=a' u->¬Mut (a' u)->b≠x:=λb u q nm z=>by subst z;rw[q] at Z;exact nm Z
 refine⟨λb u q n _ _=>k b u (hb b n) q,λb u q n _ _=>⟨u.slots,k b u (hb b n) q⟩,λb u q n _=>by rw[aG (α b n)];exact n,λb u q _=>?_,
  λb xs q=>by rw[aG (hm b _ q λz=>z)];exact q,λb u xs q=>by rw[aG (hm b _ q λz=>z)];exact q,λb ps q=>⟨#[],by rw[aG (hm b _ q λz=>z),q];simp⟩⟩
 by_cases Y:b=e
 ·subst Y;exact θ
 ·exact⟨u,k b u Y q⟩
end
noncomputable def trk (h:Xj) (H:Hp):M':=(lx h.objs.size).filter λa=>(H a).isSome
noncomputable def hidT (h:Xj) (H:Hp):Heap:=PySem.W.hideAll h (trk h H)
theorem KZ (h:Xj) (H:Hp):(hidT h H).objs.size=h.objs.size:=PySem.W.hideAll_size _ _
theorem Oe {h:Xj} {b:eO} {o:Obj} (e:h.get? b=a' o) (n:H b=gn):(hidT h H).get? b=a' o:=
 PySem.W.hideAll_get _ e λhm=>by
  have q:(H b).isSome=true:=(Y4.mp hm).2;rw[n] at q;simp at q
theorem Rl {h:Xj} {b:eO} {o:Obj} (e:(hidT h H).get? b=a' o):h.get? b=a' o/\H b=none:=by
 have Y:h.get? b=a' o:=PySem.W.of_hideAll (trk h H) e;refine⟨Y,?_⟩;cases q:H b with
 | none=>rfl
 | some x=>
   have hm:b∈trk h H:=Y4.mpr ⟨Xd.mpr (i' Y),by simp[q]⟩;have z:(hidT h H).get? b=none:=PySem.W.hideAll_none (trk h H) hm;rw[z] at e;cases e
noncomputable def R9 (g h:Xj) (L:eO):E':=(lx h.objs.size).filterMap λa=>if a=L∨(g.get? a).isSome=true then gn else (h.get? a).map λo=>(a,o)
noncomputable def rest (g h:Xj) (L d:eO):E':=(R9 g h L).filter λp=>decide (p.1≠d)
structure Mod (K:b') (mg:G') (base:Xj):Prop where
 kin:K.In base
 glob:base.Ns WZ mg
 blt:∃mb,base.Ns builtinsNs mb/\∀x:Wz,x≠"__name__"->mb x=bootBuiltins x
 nolimit:base.NoLimit
structure Cx where
 prog:WJ
 w:X5
 K:b'
 mg:G'
 base:Xj
 A:X2
 N:B'
 s₀:vr
 H₀:Hp
 env:Env
 outer:ef Env
 stack:ef Env
 ex:M'
 fn:R'
 calm:X1
 pn:E'
 xe:Cr
variable {X:Cx}
noncomputable def frs (l:ef Env):M':=l.filterMap (·.frame)
noncomputable abbrev Cx.fs (X:Cx):M':=frs X.outer
def Vis (ζ:ad6) (x:Wz):Prop:=ζ.names.lookup x=a' .local∨ζ.names.lookup x=a' .cell∨ζ.names.lookup x=a' .free
def Loc (ζ:ad6) (x:Wz):Prop:=ζ.names.lookup x=a' .local∨ζ.names.lookup x=a' .cell
def Look (env:Env) (h:Xj) (m:G') (x:Wz) (u:xo):Prop:=
 (env.kindOf x=a' .local/\m x=a' u)∨((env.kindOf x=a' .cell∨env.kindOf x=a' .free)/\∃c,env.cells.lookup x=a' c/\h.IsCell c (a' u))
structure Cx.Ok (X:Cx):Prop where
 mod:Mod X.K X.mg X.base
 kind:X.env.scope.kind= .function
 glob:X.env.globals=WZ
 blt:X.env.builtins=builtinsNs
 above:X.s₀.heap.objs.size<=X.env.locals
 inj:∀x y c,X.env.cells.lookup x=a' c->X.env.cells.lookup y=a' c->x=y
 has:∀x,(X.env.kindOf x=a' .cell∨X.env.kindOf x=a' .free)->∃c,X.env.cells.lookup x=a' c
 cab:∀x c,X.fn x=true->X.env.cells.lookup x=a' c->X.s₀.heap.objs.size<=c
 hd:X.calm=true->X.A.handled=gn
 frames:X.A.frames=a' X.stack
 stk:X.stack=X.outer∨(X.stack=X.env::X.outer/\X.env.frame=a' X.env.locals)
 exf:∀b∈X.ex,b≠X.env.locals/\∀x c,X.env.cells.lookup x=a' c->c≠b
 bs:∀b o,X.base.get? b=a' o->X.s₀.heap.get? b=a' o/\X.H₀ b=gn
 bsz:X.base.objs.size<=X.s₀.heap.objs.size
 noex:∀b o,X.base.get? b=a' o->b∉X.ex
 exfs:∀b∈X.ex,b∉X.fs
 funs:X.s₀.heap.FunFrames X.base X.outer
 frf:∀b∈X.fs,X.H₀ b=gn
structure Inv (X:Cx) (pins:E') (σ:ef (WG V)) (H:Hp) (s:vr):Prop where
 ok:X.Ok
 os:s.os=X.s₀.os
 bare:AllBare s.gens
 base:Un X.fs X.ex X.H₀ H X.s₀.heap s.heap
 loc:∃m,s.heap.Ns X.env.locals m/\∀(i:Nat) (x:Wz) (v:V),X.N[i]? =a' x->σ[i]? =a' (a' v)->Vis X.env.scope x->∃u,RelV v u/\Look X.env s.heap m x u
 cell:∀x c,X.env.cells.lookup x=a' c->∃v,s.heap.IsCell c v
 free:H X.env.locals=gn
 freeC:∀x c,X.env.cells.lookup x=a' c->H c=gn
 pin:∀p∈X.pn++pins,s.heap.get? p.1=a' p.2/\H p.1=gn/\p.1≠X.env.locals/\p.1∉X.fs/\∀v,p.2.data≠.cell v
 hok:HOk X.prog X.w H s.heap
 len:σ.length=X.N.length
section
variable {X:Cx} {pins:E'} {σ:ef (WG V)} {H H':Hp} {s:vr} {h':Xj}
theorem Cx.Ok.nofr (ok:X.Ok) {b:eO} {o:Obj} (e:X.base.get? b=a' o):b∉X.fs:=λhb=>by
 have:=(ok.funs.mem hb).1;rw[e] at this;cases this
theorem Inv.bs (I:Inv X pins σ H s):∀b o,X.base.get? b=a' o->s.heap.get? b=a' o/\H b=none:=λb o e=>
 ⟨I.base.keep b o (I.ok.bs b o e).1 (I.ok.bs b o e).2 (I.ok.nofr e) (I.ok.noex b o e),I.base.free b o (I.ok.bs b o e).1 (I.ok.bs b o e).2 (I.ok.noex b o e)⟩
theorem Inv.bk (I:Inv X pins σ H s):∀b o,X.base.get? b=a' o->s.heap.get? b=a' o:=λb o e=>(I.bs b o e).1
theorem Inv.mod (I:Inv X pins σ H s):Mod X.K X.mg X.base:=I.ok.mod
theorem Inv.kIn (I:Inv X pins σ H s):X.K.In s.heap:=I.ok.mod.kin.keeps I.bk
theorem Inv.lt (I:Inv X pins σ H s):X.env.locals < s.heap.objs.size:=let ⟨_,hn,_⟩:=I.loc;hn.lt
theorem Inv.sz (I:Inv X pins σ H s):X.s₀.heap.objs.size<=s.heap.objs.size:=Yi I.ok.above (YA I.lt)
theorem Inv.nofs (I:Inv X pins σ H s) (h:s.heap.objs.size<=a):a∉X.fs:=λhb=>by
 obtain⟨_,o,ho,_⟩:=I.ok.funs.mem hb;exact hQ (eP (i' ho) (Yi I.sz h)) (Yg _)
theorem Inv.cne (I:Inv X pins σ H s):∀x c,X.env.cells.lookup x=a' c->c≠X.env.locals:=λx c e z=>by
 obtain⟨v,o,ho,hd⟩:=I.cell x c e;obtain⟨m,⟨o',es,ep,η,Y,_⟩,_⟩:=I.loc;rw[z,η] at ho;cases ho;rw[Y] at hd;cases hd
theorem Inv.funs (I:Inv X pins σ H s):s.heap.FunFrames X.base X.outer:=by
 have all:∀(l:ef Env),(∀b∈frs l,b∈X.fs)->X.s₀.heap.FunFrames X.base l->s.heap.FunFrames X.base l:=by
  intro l
  induction l with
  | nil=>intro _ _;trivial
  | cons env r ih=>
    intro hs hl;obtain⟨hk,⟨L,o,hf,hn,ho,hd⟩,Z⟩:=hl;have Y:L∈X.fs:=hs L (by unfold frs;rw[ae6,hf];exact W6);obtain⟨ρ,e⟩:=I.base.slot L o ho (I.ok.frf L Y) Y λz=>I.ok.exfs L z Y;exact⟨hk,⟨L,_,hf,hn,e,hd⟩,ih (λb hb=>hs b (by unfold frs;rw[ae6,hf];exact W1 _ hb)) Z⟩
 exact all X.outer (λ_ hb=>hb) I.ok.funs
theorem Inv.stack (I:Inv X pins σ H s):s.heap.FunFrames X.base X.stack:=by
 rcases I.ok.stk with e | ⟨e,hf⟩
 ·rw[e];exact I.funs
 ·rw[e];obtain⟨m,hn,_⟩:=I.loc;refine .cons (by rw[I.ok.kind];decide) hf hn ?_ I.funs;exact YX (Yi I.ok.bsz I.ok.above)
theorem Inv.stkSub (I:Inv X pins σ H s):∀b∈frs X.stack,b∈X.env.locals::X.fs:=λb hb=>by
 rcases I.ok.stk with e | ⟨e,hf⟩
 ·rw[e] at hb;exact W1 _ hb
 ·rw[e] at hb;unfold frs at hb;rw[ae6,hf] at hb;exact hb
theorem Inv.stkFree (I:Inv X pins σ H s):∀b∈frs X.stack,H b=none:=λb hb=>by
 rcases WH.mp (I.stkSub b hb) with e | hb
 ·rw[e];exact I.free
 ·obtain⟨_,o,ho,_⟩:=I.ok.funs.mem hb;exact I.base.free b o ho (I.ok.frf b hb) λz=>I.ok.exfs b z hb
theorem Inv.step {t':Nat} {d':Drawn} (I:Inv X pins σ H s)
  (α:∀b∈ch,(b∈X.ex∨X.s₀.heap.objs.size<=b)/\b≠X.env.locals/\(∀x c,X.env.cells.lookup x=a' c->c≠b)/\∀p∈X.pn++pins,p.1≠b)
  (keep:∀b o,b≠X.env.locals->b∉X.fs->b∉ch->s.heap.get? b=a' o->H b=gn->h'.get? b=a' o)
  (slot:∀b o,b≠X.env.locals->b∈X.fs->b∉ch->s.heap.get? b=a' o->H b=gn->∃ρ,h'.get? b=a' {o with slots:=ρ}) (free:∀b o,b∉ch->s.heap.get? b=a' o->H b=gn->H' b=gn)
  (there:∀b o,b∉ch->s.heap.get? b=a' o->∃o',h'.get? b=a' o')
  (tups:∀b xs,H b=a' (.tup xs)->H' b=a' (.tup xs)) (frzs:∀b o u,H b=a' (.frz o u)->H' b=a' (.frz o u)) (tbls:∀b ps,H b=a' (.tbl ps)->∃more,H' b=a' (.tbl (ps++more)))
  (ns:∀m,s.heap.Ns X.env.locals m->h'.Ns X.env.locals m) (hok:HOk X.prog X.w H' h') (ο:AllBare g'):
  Inv X pins σ H' {s with heap:=h',gens:=g',drawn:=d',toks:=t'}:=by
 have δ:∀b o,X.s₀.heap.get? b=a' o->b≠X.env.locals:=λb o e=>W' (eP (i' e) I.ok.above)
 have ζ:∀b o,X.s₀.heap.get? b=a' o->b∉X.ex->b∉ch:=λb o e Y hb=>by
  rcases(α b hb).1 with z | z
  ·exact Y z
  ·exact hQ (eP (i' e) z) (Yg _)
 have β:∀x c,X.env.cells.lookup x=a' c->∀v,s.heap.IsCell c v->h'.IsCell c v:=λx c e v ⟨o,ho,hd⟩=>by
  have Z:c∉ch:=λz=>(α c z).2.2.1 x c e rfl;by_cases ν:c∈X.fs
  ·obtain⟨ρ,q⟩:=slot c o (I.cne x c e) ν Z ho (I.freeC x c e);exact⟨_,q,hd⟩
  ·exact⟨o,keep c o (I.cne x c e) ν Z ho (I.freeC x c e),hd⟩
 refine⟨I.ok,I.os,ο,⟨λb o e n hb Y=>?_,λb o e n hb Y=>?_,λb o e n Y=>?_,λb o e Y=>?_,λb xs e=>tups b xs (I.base.tups b xs e),λb o xs e=>frzs b o xs (I.base.frzs b o xs e),λb ps e=>?_⟩,?_,λx c e=>?_,?_,λx c e=>?_,λp ι=>?_,hok,I.len⟩
 ·exact keep b o (δ b o e) hb (ζ b o e Y) (I.base.keep b o e n hb Y) (I.base.free b o e n Y)
 ·obtain⟨ρ,γ⟩:=I.base.slot b o e n hb Y;obtain⟨η,ε⟩:=slot b _ (δ b o e) hb (ζ b o e Y) γ (I.base.free b o e n Y);exact⟨η,ε⟩
 ·obtain⟨o',γ⟩:=I.base.there b o e Y;exact free b o' (ζ b o e Y) γ (I.base.free b o e n Y)
 ·obtain⟨o',γ⟩:=I.base.there b o e Y;exact there b o' (ζ b o e Y) γ
 ·obtain⟨ψ,γ⟩:=I.base.tbls b ps e;obtain⟨ξ,ε⟩:=tbls b _ γ;exact⟨ψ++ξ,by rw[ε,Array.append_assoc]⟩
 ·obtain⟨m,hn,hl⟩:=I.loc;refine⟨m,ns m hn,λi x v γ ε π=>?_⟩;obtain⟨u,r,l⟩:=hl i x v γ ε π;refine⟨u,r,?_⟩;rcases l with l | ⟨k,c,e,z⟩
  ·exact .inl l
  ·exact .inr ⟨k,c,e,β x c e _ z⟩
 ·obtain⟨v,z⟩:=I.cell x c e;exact⟨v,β x c e v z⟩
 ·obtain⟨m,⟨o,_,_,ho,_⟩,_⟩:=I.loc;exact free _ o (λz=>(α _ z).2.1 rfl) ho I.free
 ·obtain⟨v,o,ho,hd⟩:=I.cell x c e;exact free c o (λz=>(α c z).2.2.1 x c e rfl) ho (I.freeC x c e)
 ·obtain⟨e,n,ne,θ,d⟩:=I.pin p ι;have Z:p.1∉ch:=λz=>(α p.1 z).2.2.2 p ι rfl;exact⟨keep p.1 p.2 ne θ Z e n,free p.1 p.2 Z e n,ne,θ,d⟩
theorem Inv.un {t':Nat} (I:Inv X pins σ H s) (u:Un X.fs [] H H' s.heap h') (hok:HOk X.prog X.w H' h'):Inv X pins σ H' {s with heap:=h',toks:=t'}:=by
 obtain⟨m,⟨o,es,ep,ho,r⟩,_⟩:=id I.loc;obtain⟨ρ,α⟩:=u.any ho I.free @E
 exact I.step (g':=s.gens) (d':=s.drawn) (ch:=[]) (λ_ z=>nomatch z) (λb o _ hb _ e n=>u.keep b o e n hb @E) (λb o _ hb _ e n=>u.slot b o e n hb @E) (λb o _ e n=>u.free b o e n @E) (λb o _ e=>u.there b o e @E) u.tups u.frzs u.tbls (fun ω hm=>by
  obtain⟨o',Y,Z,η,r'⟩:=hm;rw[ho] at η;cases η;exact⟨_,Y,Z,α,r'⟩) hok I.bare
theorem Inv.call {t':Nat} {d':Drawn} (I:Inv X pins σ H s) (u:Un (frs X.stack) ch H H' s.heap h') (hok:HOk X.prog X.w H' h') (δ:AllBare g')
  (Z:∀b∈ch,(b∈X.ex∨X.s₀.heap.objs.size<=b)/\b≠X.env.locals/\(∀x c,X.env.cells.lookup x=a' c->c≠b)/\∀p∈X.pn++pins,p.1≠b):
  Inv X pins σ H' {s with heap:=h',gens:=g',drawn:=d',toks:=t'}:=by
 obtain⟨m,⟨o,es,ep,ho,r⟩,_⟩:=id I.loc;obtain⟨ρ,α⟩:=u.any ho I.free λz=>(Z _ z).2.1 rfl
 exact I.step (ch:=ch) Z (λb o α hb Y e n=>u.keep b o e n (λz=>(WH.mp (I.stkSub b z)).elim α hb) Y) (λb o _ _ Y e n=>u.any e n Y) (λb o Y e n=>u.free b o e n Y) (λb o Y e=>u.there b o e Y) u.tups u.frzs u.tbls (fun ω hm=>by
  obtain⟨o',β,γ,η,r'⟩:=hm;rw[ho] at η;cases η;exact⟨_,β,γ,α,r'⟩) hok δ
theorem Inv.turned {t':Nat} (I:Inv X pins σ H s) (k:∀b o,b≠Y->s.heap.get? b=a' o->h'.get? b=a' o) (hn:H Y=gn) (β:Y≠X.env.locals)
  (h1:Y∈X.ex∨X.s₀.heap.objs.size<=Y) (h2:∀x c,X.env.cells.lookup x=a' c->c≠Y) (γ:∀p∈X.pn++pins,p.1≠Y):Inv X pins σ H {s with heap:=h',toks:=t'}:=by
 have α:∀b u,H b=a' u->b≠Y:=λb u e z=>by rw[z,hn] at e;cases e
 refine I.step (g':=s.gens) (d':=s.drawn) (ch:=[Y]) (λb hb=>?_) (λb o _ _ Z e _=>k b o (λz=>Z (by simp[z])) e) (λb o _ _ Z e _=>⟨o.slots,k b o (λz=>Z (by simp[z])) e⟩) (λ_ _ _ _ n=>n)
  (λb o Z e=>⟨o,k b o (λz=>Z (by simp[z])) e⟩) (λ_ _ e=>e) (λ_ _ _ e=>e) (λb ps e=>⟨#[],by rw[e];simp⟩) (λm hm=>?_) (λb u e=>?_) I.bare
 ·have e:b=Y:=by simpa using hb
  subst e;exact⟨h1,β,h2,γ⟩
 ·obtain⟨o,es,ep,ho,r⟩:=hm;exact⟨o,es,ep,k _ o (WK β) ho,r⟩
 ·refine(I.hok b u e).stay (λc v Z q=>k c v ?_ q) (λ_ q=>q) λ_ _ q=>q;rcases Z with z | z
  ·rw[z];exact α b u e
  ·exact α c _ z
theorem Inv.tok (I:Inv X pins σ H s) (t:Nat):Inv X pins σ H {s with toks:=t}:=I.un (h':=s.heap) (t':=t) Un.refl I.hok
theorem Inv.kept {t':Nat} (I:Inv X pins σ H s) (k:∀b u,s.heap.get? b=a' u->h'.get? b=a' u):Inv X pins σ H {s with heap:=h',toks:=t'}:=I.un (Un.kept k) (I.hok.kept k)
theorem Inv.laid {t':Nat} (I:Inv X pins σ H s) (k:∀b u,s.heap.get? b=a' u->h'.get? b=a' u) (Y:s.heap.objs.size<=a) (ι:iy X.prog X.w (upd H a o) h' a o):
  Inv X pins σ (upd H a o) {s with heap:=h',toks:=t'}:=I.un (Un.laid k Y (I.hok.fresh Y)) (I.hok.laid k Y ι)
theorem Inv.write {x e:eO} {t':Nat} (I:Inv X pins σ H s) (Y:Mut (H x)) (he:e=x∨H e=a' (.own x)) (k:∀b u,b≠e->s.heap.get? b=a' u->h'.get? b=a' u) (θ:∃u,h'.get? e=a' u)
  (ι:iy X.prog X.w (upd H x o) h' x o):Inv X pins σ (upd H x o) {s with heap:=h',toks:=t'}:=I.un (Un.write Y he k θ) (I.hok.write Y he k θ ι)
theorem Inv.weak {σ':ef (WG V)} (I:Inv X pins σ H s) (hl:σ'.length=σ.length) (w:∀(i:Nat) v,σ'[i]? =a' (a' v)->σ[i]? =a' (a' v)):Inv X pins σ' H s:=
 ⟨I.ok,I.os,I.bare,I.base,let ⟨m,hn,ι⟩:=I.loc;⟨m,hn,λi x v α Z Y=>ι i x v α (w i v Z) Y⟩,I.cell,I.free,I.freeC,I.pin,I.hok,hl.trans I.len⟩
theorem Inv.pins_of (I:Inv X pins σ H s) (h:∀p∈hC,s.heap.get? p.1=a' p.2/\H p.1=gn/\p.1≠X.env.locals/\p.1∉X.fs/\∀v,p.2.data≠.cell v):Inv X hC σ H s:=
 ⟨I.ok,I.os,I.bare,I.base,I.loc,I.cell,I.free,I.freeC,λp Z=>(hB.mp Z).elim (λz=>I.pin p (qb _ z)) (h p),I.hok,I.len⟩
theorem FJ (Y:N.Nodup) {x:Wz} (a:N[i]? =a' x) (b:N[j]? =a' x):i=j:=by
 obtain⟨h1,α⟩:=bA.mp a;obtain⟨h2,Z⟩:=bA.mp b;exact(List.getElem_inj Y).mp (α.trans Z.symm)
theorem BB {M:Model} {A:X2} {E:Cr} {x:Wz} {Q:Ls} (I:Inv X pins σ H s) (hN:X.N.Nodup) (hi:X.N[i]? =a' x) (hx:Loc X.env.scope x) (r:RelV v u)
  (h:∀s',Inv X pins (σ.set i (a' v)) H s'->(∃a,ZO a s.heap s'.heap/\(a=X.env.locals∨X.env.cells.lookup x=a' a))->Q () s') (hf:X.fn x=true∨X.env.scope.names.lookup x=a' .local:=by first | exact .inl rfl | exact .inr rfl | assumption):vu M A (storeName X.env x u) Q E s:=by
 obtain⟨m,hn,hl⟩:=id I.loc;have ο:(X.env.scope.kind == .class||(X.env.scope.kind == .module&&X.env.locals != X.env.globals))=false:=by rw[I.ok.kind];rfl
 have δ:i < σ.length:=by rw[I.len];exact(bA.mp hi).1
 have cne:=I.cne
 have Y:∀{a:eO} {h':Xj},(∃o,s.heap.get? a=a' o/\H a=gn)->ZO a s.heap h'->HOk X.prog X.w H h':=λ{a h'} ha hs b ob e=>by
  obtain⟨_,_,α⟩:=ha;refine(I.hok b ob e).stay (λc υ hc q=>(hs.2 c ?_).trans q) (λ_ q=>q) λ_ _ q=>q;rintro rfl;rcases hc with rfl | hc
  ·rw[α] at e;cases e
  ·rw[α] at hc;cases hc
 rcases hx with hk | hk
 ·refine wpAny_storeName_local hk hn (λh' ν hs=>?_) ο;obtain⟨θ,_,_,a0,_⟩:=id hn;refine h _ ⟨I.ok,I.os,I.bare,⟨λb o e n hb hx=>?_,λb o e n hb hx=>?_,I.base.free,λb o e hx=>?_,I.base.tups,I.base.frzs,I.base.tbls⟩,⟨_,ν,λj y ψ Z β e3=>?_⟩,λy c e=>?_,I.free,I.freeC,λp hp=>?_,Y ⟨θ,a0,I.free⟩ hs,by simpa using I.len⟩ ⟨_,hs,.inl rfl⟩
  ·exact(hs.2 b (W' (eP (i' e) I.ok.above))).trans (I.base.keep b o e n hb hx)
  ·obtain⟨ρ,Z⟩:=I.base.slot b o e n hb hx;exact⟨ρ,(hs.2 b (W' (eP (i' e) I.ok.above))).trans Z⟩
  ·obtain⟨o',Z⟩:=I.base.there b o e hx;exact⟨o',(hs.2 b (W' (eP (i' e) I.ok.above))).trans Z⟩
  ·by_cases ε:j=i
   ·subst ε;rw[hi] at Z;cases Z;rw[am7 δ] at β;cases β;exact⟨u,r,.inl ⟨hk,by simp⟩⟩
   ·rw[ao4 (WK ε)] at β;obtain⟨χ,r',q⟩:=hl j y ψ Z β e3;refine⟨χ,r',?_⟩;rcases q with ⟨k,e⟩ | ⟨k,c,e,z⟩
    ·refine .inl ⟨k,?_⟩;have:y≠x:=λe=>ε (FJ hN Z (e ▸ hi));simp[this,e]
    ·exact .inr ⟨k,c,e,z.sameBut hs (cne y c e)⟩
  ·obtain⟨υ,z⟩:=I.cell y c e;exact⟨υ,z.sameBut hs (cne y c e)⟩
  ·obtain⟨e,n,ne,ω,d⟩:=I.pin p hp;exact⟨(hs.2 p.1 ne).trans e,n,ne,ω,d⟩
 ·have ζ:X.fn x=true:=by
   rcases hf with z | z
   ·exact z
   ·rw[z] at hk;cases hk
  obtain⟨c,hc⟩:=I.ok.has x (.inl hk);obtain⟨υ,z⟩:=I.cell x c hc;refine wpAny_storeName_cell I.ok.kind hk hc z (λh' τ hs=>?_);obtain⟨oc,ξ,ι⟩:=id z;refine h {s with heap:=h'} ⟨I.ok,I.os,I.bare,⟨λb o e n hb hx=>?_,λb o e n hb hx=>?_,I.base.free,λb o e hx=>?_,I.base.tups,I.base.frzs,I.base.tbls⟩,⟨m,hn.sameBut hs (WK (cne x c hc)),λj y ψ Z β e3=>?_⟩,λy γ e=>?_,I.free,I.freeC,λp hp=>?_,Y ⟨oc,ξ,I.freeC x c hc⟩ hs,by simpa using I.len⟩ ⟨c,hs,.inr hc⟩
  ·exact(hs.2 b (W' (eP (i' e) (I.ok.cab x c ζ hc)))).trans (I.base.keep b o e n hb hx)
  ·obtain⟨ρ,Z⟩:=I.base.slot b o e n hb hx;exact⟨ρ,(hs.2 b (W' (eP (i' e) (I.ok.cab x c ζ hc)))).trans Z⟩
  ·obtain⟨o',Z⟩:=I.base.there b o e hx;exact⟨o',(hs.2 b (W' (eP (i' e) (I.ok.cab x c ζ hc)))).trans Z⟩
  ·by_cases ε:j=i
   ·subst ε;rw[hi] at Z;cases Z;rw[am7 δ] at β;cases β;exact⟨u,r,.inr ⟨.inl hk,c,hc,τ⟩⟩
   ·rw[ao4 (WK ε)] at β;obtain⟨χ,r',q⟩:=hl j y ψ Z β e3;refine⟨χ,r',?_⟩;rcases q with q | ⟨k,γ,e,z'⟩
    ·exact .inl q
    ·refine .inr ⟨k,γ,e,z'.sameBut hs ?_⟩;rintro rfl;exact ε (FJ hN Z (I.ok.inj _ _ _ e hc ▸ hi))
  ·by_cases π:γ=c
   ·subst π;exact⟨_,τ⟩
   ·obtain⟨η,z2⟩:=I.cell y γ e;exact⟨η,z2.sameBut hs π⟩
  ·obtain⟨e,n,ne,ω,d⟩:=I.pin p hp;refine⟨(hs.2 p.1 ?_).trans e,n,ne,ω,d⟩;intro q;rw[q,ξ] at e;have φ:oc=p.2:=WB e;exact d υ (by rw[<-φ];exact ι)
theorem Fs {M:Model} {A:X2} {E:Cr} {x:Wz} {Q:Ls} (I:Inv X pins σ H s) (Y:X.N.Nodup) (hi:X.N[i]? =a' x) (hx:Loc X.env.scope x) (r:RelV v u)
  (h:∀s',Inv X pins (σ.set i (a' v)) H s'->Q () s') (hf:X.fn x=true∨X.env.scope.names.lookup x=a' .local:=by first | exact .inl rfl | exact .inr rfl | assumption):vu M A (storeName X.env x u) Q E s:=
 BB I Y hi hx r (λs' θ _=>h s' θ) hf
theorem Inv.call' (I:Inv X pins σ H s) (ho:s'.os=s.os) (u:Un (frs X.stack) ch H H' s.heap s'.heap) (hok:HOk X.prog X.w H' s'.heap) (Z:AllBare s'.gens)
  (Y:∀b∈ch,(b∈X.ex∨X.s₀.heap.objs.size<=b)/\b≠X.env.locals/\(∀x c,X.env.cells.lookup x=a' c->c≠b)/\∀p∈X.pn++pins,p.1≠b):Inv X pins σ H' s':=by
 obtain⟨h',g',d',t',o'⟩:=s';have e:o'=s.os:=ho;subst e;exact I.call (g':=g') (t':=t') (d':=d') u hok Z Y
end
noncomputable abbrev XK:=xo->Q'->Hp->Prop
variable {E:XK}
noncomputable abbrev St:=ef (WG V)
variable {oD σ:St}
noncomputable abbrev VK:=V->Hp->Prop
variable {Q:VK}
noncomputable abbrev TE:=St->Hp->VK->Prop
variable {oL ta te tl to ξ:TE}
noncomputable abbrev TT:=St->Hp->(X1->Hp->Prop)->Prop
variable {tc:TT}
noncomputable abbrev TA:=St->Hp->(ef V->Hp->Prop)->Prop
variable {sw:TA}
structure Ends where
 nx:St->Hp->Prop
 rt:VK
 bk:St->Hp->Prop:=λ_ _=>False
 ct:St->Hp->Prop:=λ_ _=>False
variable {pi:Ends}
noncomputable abbrev TS:=Ends->St->Hp->Prop
variable {px tb:TS}
def EP (X:Cx) (pins:E') (σ:St) (Q:VK) (u:xo) (s':vr):Prop:=∃v H',Inv X pins σ H' s'/\RelV v u/\Q v H'
def TP (X:Cx) (pins:E') (σ:St) (Q:X1->Hp->Prop) (b:X1) (s':vr):Prop:=∃H',Inv X pins σ H' s'/\Q b H'
def AP (X:Cx) (pins:E') (σ:St) (Q:ef V->Hp->Prop) (us:F') (s':vr):Prop:=∃vs H',Inv X pins σ H' s'/\Vals vs us/\Q vs H'
def SP (X:Cx) (pins:E') (D:Ends) (f:Flow) (s':vr):Prop:=
 match f with
 | .next=>∃σ' H',Inv X pins σ' H' s'/\D.nx σ' H'
 | .brk=>∃σ' H',Inv X pins σ' H' s'/\D.bk σ' H'
 | .cont=>∃σ' H',Inv X pins σ' H' s'/\D.ct σ' H'
 | .ret u=>∃v σ' H',Inv X pins σ' H' s'/\RelV v u/\D.rt v H'
def PE (X:Cx) (e:XS) (t:TE):Prop:=
 ∀(pins:E') (s:vr) (σ:St) (H:Hp) (Q:VK),Inv X pins σ H s->t σ H Q->vu (WA X.prog X.w) X.A (eval e X.env) (EP X pins σ Q) X.xe s
def PT (X:Cx) (e:XS) (t:TT):Prop:=
 ∀(pins:E') (s:vr) (σ:St) (H:Hp) (Q:X1->Hp->Prop),Inv X pins σ H s->t σ H Q->vu (WA X.prog X.w) X.A (isTrue e X.env (eval e X.env)) (TP X pins σ Q) X.xe s
def PW (X:Cx) (e:XS) (t:TT):Prop:=
 ∀(Y:Sem xo) (pins:E') (s:vr) (σ:St) (H:Hp) (Q:X1->Hp->Prop),Inv X pins σ H s->t σ H Q->vu (WA X.prog X.w) X.A (isTrue e X.env Y) (TP X pins σ Q) X.xe s
theorem PW.pt {t:TT} (h:PW X e t):PT X e t:=h _
def PA (X:Cx) (es:ef XS) (t:TA):Prop:=
 ∀(pos:Pos) (pins:E') (s:vr) (σ:St) (H:Hp) (Q:ef V->Hp->Prop),Inv X pins σ H s->t σ H Q->vu (WA X.prog X.w) X.A (spliced (backTo pos (zx es X.env))) (AP X pins σ Q) X.xe s
def PS (X:Cx) (st:ZD) (t:TS):Prop:=
 ∀(pins:E') (s:vr) (σ:St) (H:Hp) (D:Ends),Inv X pins σ H s->t D σ H->vu (WA X.prog X.w) X.A (exec st X.env) (SP X pins D) X.xe s
def PSs (X:Cx) (st:ef ZD) (t:TS):Prop:=
 ∀(pins:E') (s:vr) (σ:St) (H:Hp) (D:Ends),Inv X pins σ H s->t D σ H->vu (WA X.prog X.w) X.A (execs st X.env) (SP X pins D) X.xe s
theorem thn {α:Type} {t:Sem α} {Q Y:α->vr->Prop} {M:Model} {A:X2} {E:Cr} (h:vu M A t Q E s) (τ:∀a s,Q a s->Y a s):vu M A t Y E s:=Z3 h τ λ_ _ x=>x
section
variable {X:Cx}
noncomputable def tVar (i:Nat):TE:=fun σ H Q=>∃v,σ[i]? =a' (a' v)/\Q v H
noncomputable abbrev tC (v:V):TE:=λ_ H Q=>Q v H
theorem T7 {x:Wz} (γ:X.N[i]? =a' x) (β:Vis X.env.scope x) (hd:(x == ("__debug__":Wz))=false:=by decide) (Z:(x == ("__classdict__":Wz))=false:=by decide):PE X (.Name x pos) (tVar i):=by
 intro pins s σ H Q I h;obtain⟨v,e,h⟩:=h;obtain⟨m,hn,hl⟩:=I.loc;obtain⟨u,r,l⟩:=hl i x v γ e β;have fin:EP X pins σ Q u s:=⟨v,H,I,r,h⟩;rcases l with ⟨hk,hm⟩ | ⟨hk,c,α,Y⟩
 ·exact au8 (wpAny_loadName_local I.ok.kind hk hn hm fin) hd
 ·rcases hk with hk | hk
  ·exact au8 (wpAny_loadName_cell I.ok.kind hk α Y fin) hd
  ·exact au8 (wpAny_loadName_free I.ok.kind hk α Y fin Z) hd
theorem ah {i j pos}:PE X (.Constant (.int i) j pos) (tC (.int i)):=λ_ _ _ H _ I h=>wpAny_Constant_int ⟨.int i,H,I.tok _,⟨_,rfl⟩,h⟩
theorem yD {b j pos}:PE X (.Constant (.bool b) j pos) (tC (.bl b)):=λ_ _ _ H _ I h=>Constant_bool ⟨.bl b,H,I,rfl,h⟩
theorem Pi {j pos}:PE X (.Constant .none j pos) (tC .non):=λ_ _ _ H _ I h=>Constant_none ⟨.non,H,I,rfl,h⟩
theorem bI {x j pos}:PE X (.Constant (.str x) j pos) (tC (.str x)):=λ_ _ _ H _ I h=>Calls.Constant_str ⟨.str x,H,I.tok _,⟨_,rfl⟩,h⟩
def Gl (X:Cx) (x:Wz):Prop:=X.env.kindOf x=a' .globalImplicit
theorem uB {E:Cr} {x:Wz} {Q:Cr} (I:Inv X pins σ H s) (Y:Gl X x) (hm:X.mg x=a' u) (h:Q u s)
  (hd:(x == ("__debug__":Wz))=false:=by decide):vu (WA X.prog X.w) X.A (eval (.Name x pos) X.env) Q E s:=
 aj2 I.ok.kind Y (Calls.loadGlobal_global (by rw[I.ok.glob];exact I.mod.glob.keeps I.bk) hm h) hd
theorem oW {E:Cr} {x:Wz} {Q:Cr} (I:Inv X pins σ H s) (Z:Gl X x) (hm:X.mg x=gn) (Y:bootBuiltins x=a' u) (h:Q u s)
  (hn:x≠"__name__":=by decide) (hd:(x == ("__debug__":Wz))=false:=by decide):vu (WA X.prog X.w) X.A (eval (.Name x pos) X.env) Q E s:=by
 obtain⟨ι,h1,h2⟩:=I.mod.blt;exact aj2 I.ok.kind Z (Calls.loadGlobal_builtin (by rw[I.ok.glob];exact I.mod.glob.keeps I.bk) hm (by rw[I.ok.blt];exact h1.keeps I.bk) ((h2 x hn).trans Y) h) hd
theorem jw {x:Wz} (Y:Gl X x) (hm:X.mg x=a' u) (r:RelV v u) (hd:(x == ("__debug__":Wz))=false:=by decide):PE X (.Name x pos) (tC v):=
 λ_ _ _ H _ I h=>uB I Y hm ⟨v,H,I,r,h⟩ hd
theorem rp {x:Wz} (Z:Gl X x) (hm:X.mg x=gn) (Y:bootBuiltins x=a' u) (r:RelV v u) (hn:x≠"__name__":=by decide) (hd:(x == ("__debug__":Wz))=false:=by decide):PE X (.Name x pos) (tC v):=
 λ_ _ _ H _ I h=>oW I Z hm Y ⟨v,H,I,r,h⟩ hn hd
variable {a b:XS} {ta tb:TE} {pos:Pos}
def PC (X:Cx) (α:CmpOp) (a b:XS) (t:TE):Prop:=
 ∀(pins:E') (s:vr) (σ:St) (H:Hp) (Q:VK),Inv X pins σ H s->t σ H Q->
  vu (WA X.prog X.w) X.A (eval a X.env) (λv Z=>vu (WA X.prog X.w) X.A (eval b X.env) (λu Y=>vu (WA X.prog X.w) X.A (compareOp α v u) (EP X pins σ Q) X.xe Y) X.xe Z) X.xe s
noncomputable abbrev tB (t:TE):TT:=fun σ H Q=>t σ H λx H1=>∃c,x= .bl c/\Q c H1
theorem Ub {Y:CmpOp} {t:TE} (h:PC X Y a b t) (h1:behindInMarks Y b=false:=by first | exact nobehind _ (by decide) (by decide) | rfl):PE X (.Compare a [Y] [b] pos) t:=λpins s σ H Q I hw=>wpAny_Compare1 (h pins s σ H Q I hw) h1
theorem JX {Y:CmpOp} {t:TE} (h:PC X Y a b t) (h1:behindInMarks Y b=false:=by first | exact nobehind _ (by decide) (by decide) | rfl):PT X (.Compare a [Y] [b] pos) (tB t):=by
 intro pins s σ H Q I hw;refine as4 (thn (h pins s σ H _ I hw) λv ε h1=>thn h1 λu δ h2=>thn h2 λc γ ⟨x,H1,β,Z,α⟩=>?_) h1;obtain⟨d,rfl,q⟩:=α;cases Z;exact YD ⟨H1,β,q⟩
theorem gj {t:TE} (h:PE X e t) (he:∀Y,isTrue e X.env Y=(do let v <-Y;standAt e.pos;holding [v] (truthy v)):=by intro _;rfl):PT X e (tB t):=by
 intro pins s σ H Q I hw;refine isTrue_plain (thn (h pins s σ H _ I hw) λv γ ⟨x,H1,β,Z,α⟩=>?_) (he _);obtain⟨d,rfl,q⟩:=α;cases Z;exact YD ⟨H1,β,q⟩
variable {tA tB':TT} {rest:ef XS}
noncomputable abbrev tAnd (t u:TT):TT:=fun σ H Q=>t σ H λc H1=>if c=true then u σ H1 Q else Q false H1
noncomputable abbrev tOr (t u:TT):TT:=fun σ H Q=>t σ H λc H1=>if c=true then Q true H1 else u σ H1 Q
noncomputable abbrev tNot (t:TT):TT:=fun σ H Q=>t σ H λc H1=>Q (!c) H1
theorem Q9 (ha:PT X a tA):PW X (.BoolOp .And [a] pos) tA:=by
 intro Y pins s σ H Q I h;refine isTrue_and (thn (ha pins s σ H Q I h) λc Z e=>?_);cases c with
 | true=>exact isTrue_and_nil e
 | false=>exact e
theorem mx (ha:PT X a tA):PW X (.BoolOp .Or [a] pos) tA:=by
 intro Y pins s σ H Q I h;refine isTrue_or (thn (ha pins s σ H Q I h) λc Z e=>?_);cases c with
 | false=>exact isTrue_or_nil e
 | true=>exact e
theorem TZ (ha:PT X a tA) (hb:PW X (.BoolOp .And (b::rest) pos) tB'):PW X (.BoolOp .And (a::b::rest) pos) (tAnd tA tB'):=by
 intro α pins s σ H Q I h;refine isTrue_and (thn (ha pins s σ H _ I h) λc β ⟨H1,Z,Y⟩=>?_);cases c with
 | true=>exact hb α pins β σ H1 Q Z Y
 | false=>exact⟨H1,Z,Y⟩
theorem og (ha:PT X a tA) (hb:PW X (.BoolOp .Or (b::rest) pos) tB'):PW X (.BoolOp .Or (a::b::rest) pos) (tOr tA tB'):=by
 intro α pins s σ H Q I h;refine isTrue_or (thn (ha pins s σ H _ I h) λc β ⟨H1,Z,Y⟩=>?_);cases c with
 | true=>exact⟨H1,Z,Y⟩
 | false=>exact hb α pins β σ H1 Q Z Y
theorem h7 (ha:PT X a tA):PT X (.UnaryOp .Not a pos) (tNot tA):=by
 intro pins s σ H Q I h;exact isTrue_not (ha pins s σ H (λc H1=>Q (!c) H1) I h)
noncomputable abbrev VJ (ta tb:TE):TE:=fun σ H Q=>ta σ H λx H1=>∃c,x= .bl c/\if c=true then tb σ H1 Q else Q (.bl false) H1
noncomputable abbrev VG (ta:TE):TE:=fun σ H Q=>ta σ H λx H1=>∃c,x= .bl c/\Q (.bl (!c)) H1
theorem zC {op} {t:TE} (h:PE X a t):PE X (.BoolOp op [a] pos) t:=λpins s σ H Q I hw=>BoolOp_one (h pins s σ H Q I hw)
theorem wJ (ha:PE X a ta) (hb:PE X (.BoolOp .And (b::rest) pos) tb):PE X (.BoolOp .And (a::b::rest) pos) (VJ ta tb):=by
 intro pins s σ H Q I h;refine BoolOp_and (thn (ha pins s σ H _ I h) λv α ⟨x,H1,Z,β,Y⟩=>?_);obtain⟨c,rfl,Y⟩:=Y;cases β;refine YD ?_;cases c with
 | true=>exact hb pins α σ H1 Q Z Y
 | false=>exact⟨.bl false,H1,Z,rfl,Y⟩
theorem T9 (ha:PE X a ta):PE X (.UnaryOp .Not a pos) (VG ta):=by
 intro pins s σ H Q I h;refine UnaryOp_ (thn (ha pins s σ H _ I h) λv β ⟨x,H1,α,Z,Y⟩=>?_);obtain⟨c,rfl,Y⟩:=Y;cases Z;exact not_of (YD ⟨.bl (!c),H1,α,rfl,Y⟩)
noncomputable abbrev tIf (t:TT) (ta tb:TE):TE:=fun σ H Q=>t σ H λc H1=>if c=true then ta σ H1 Q else tb σ H1 Q
theorem FD {c:XS} (hc:PT X c tA) (ha:PE X a ta) (hb:PE X b tb):PE X (.IfExp c a b pos) (tIf tA ta tb):=by
 intro pins s σ H Q I h;refine wpAny_IfExp (thn (hc pins s σ H _ I h) λd Y ⟨H1,α,Z⟩=>?_);cases d with
 | true=>exact ha pins Y σ H1 Q α Z
 | false=>exact hb pins Y σ H1 Q α Z
end
def SqL (K:b') (H:Hp) (a:eO) (xs:ef V):Prop:=
 Rd H a (.lst xs)∨
  ∃(o:Obj) (its:K') (n:Nat),K.lookup a=a' o/\o.cls= .type "list"/\o.dict=gn/\o.data= .seq its n/\its.size<=la/\Vals xs its.toList
def SqT (K:b') (H:Hp) (a:eO) (xs:ef V):Prop:=
 Rd H a (.tup xs)∨
  ∃(o:Obj) (its:K') (n:Nat),K.lookup a=a' o/\o.cls= .type "tuple"/\o.data= .seq its n/\its.size<=la/\Vals xs its.toList
noncomputable def absV:xo->WG V
 | .none=>a' .non
 | .bool b=>a' (.bl b)
 | .int i _=>a' (.int i)
 | .str x _=>a' (.str x)
 | .bytes b _=>a' (.byt b)
 | .float b _=>a' (.flt b)
 | .ref a=>a' (.ref a)
 | .type n=>a' (.ty n)
 | _=>gn
theorem RelV.abs {x:V} (r:RelV x u):absV u=a' x:=by
 cases x with
 | non=>cases r;rfl
 | bl _=>cases r;rfl
 | int _=>obtain⟨t,rfl⟩:=r;rfl
 | str _=>obtain⟨t,rfl⟩:=r;rfl
 | byt _=>obtain⟨t,rfl⟩:=r;rfl
 | flt _=>obtain⟨t,rfl⟩:=r;rfl
 | ref _=>cases r;rfl
 | ty _=>cases r;rfl
theorem RelV.inj {x y:V} (r:RelV x u) (q:RelV y u):x=y:=WB (r.abs.symm.trans q.abs)
theorem Vals.inj:∀{xs ys:ef V} {us:F'},Vals xs us->Vals ys us->xs=ys
 | _,_,_,.nil,.nil=>rfl
 | _,_,_,.cons r t,.cons r' t'=>by rw[r.inj r',Vals.inj t t']
section
variable {X:Cx} {pins:E'} {σ:St} {H:Hp} {s:vr} {a:eO} {xs ys:ef V}
theorem SqL.of {K:b'} (h:H a=a' (.lst xs)):SqL K H a xs:= .inl (.inl h)
theorem SqT.of {K:b'} (h:H a=a' (.tup xs)):SqT K H a xs:= .inl (.inl h)
theorem Inv.list (I:Inv X pins σ H s) (h:SqL X.K H a xs):∃its:F',Vals xs its/\PlainL s.heap a its.toArray/\xs.length<=sizeLine:=by
 rcases h with h | ⟨o,its,n,hk,Y,hd,hs,hz,r⟩
 ·obtain⟨z,its,n,r,e⟩:=h.ok I.hok;exact⟨its,r,⟨_,n,e,rfl,rfl,rfl⟩,z⟩
 ·refine⟨its.toList,r,⟨o,n,I.kIn a o hk,Y,hd,by simpa using hs⟩,?_⟩;have e:=r.length;simp only[Y'] at e;omega
theorem Inv.tuple (I:Inv X pins σ H s) (h:SqT X.K H a xs):∃its:F',Vals xs its/\IsTup s.heap a its.toArray/\xs.length<=sizeLine:=by
 rcases h with h | ⟨o,its,n,hk,Y,hs,hz,r⟩
 ·obtain⟨z,its,r,p⟩:=h.ok I.hok;exact⟨its,r,p,z⟩
 ·refine⟨its.toList,r,⟨o,I.kIn a o hk,Y,n,by simpa using hs⟩,?_⟩;have e:=r.length;simp only[Y'] at e;omega
theorem Inv.list_inj (I:Inv X pins σ H s) (h:SqL X.K H a xs) (h':SqL X.K H a ys):xs=ys:=by
 obtain⟨its,r,⟨o,n,e,_,_,d⟩,_⟩:=I.list h;obtain⟨its',r',⟨o',α,Y,_,_,d'⟩,_⟩:=I.list h';rw[e] at Y;cases Y;rw[d] at d';injection d' with Z _
 have:its=its':=by simpa using Wy av3 Z
 subst this;exact r.inj r'
theorem Inv.tuple_inj (I:Inv X pins σ H s) (h:SqT X.K H a xs) (h':SqT X.K H a ys):xs=ys:=by
 obtain⟨its,r,⟨o,e,_,n,d⟩,_⟩:=I.tuple h;obtain⟨its',r',⟨o',Y,_,α,d'⟩,_⟩:=I.tuple h';rw[e] at Y;cases Y;rw[d] at d';injection d' with Z _
 have:its=its':=by simpa using Wy av3 Z
 subst this;exact r.inj r'
end
noncomputable abbrev Cx.wish (X:Cx) (E:Cr):Cx:={X with xe:=E}
noncomputable abbrev Cx.nox (X:Cx):Cx:=X.wish λ_ _=>False
theorem Cx.Ok.wish (ok:X.Ok) (E:Cr):(X.wish E).Ok:=
 ⟨ok.mod,ok.kind,ok.glob,ok.blt,ok.above,ok.inj,ok.has,ok.cab,ok.hd,ok.frames,ok.stk,ok.exf,ok.bs,ok.bsz,ok.noex,ok.exfs,ok.funs,ok.frf⟩
theorem Cx.Ok.unwish {E:Cr} (ok:(X.wish E).Ok):X.Ok:=
 ⟨ok.mod,ok.kind,ok.glob,ok.blt,ok.above,ok.inj,ok.has,ok.cab,ok.hd,ok.frames,ok.stk,ok.exf,ok.bs,ok.bsz,ok.noex,ok.exfs,ok.funs,ok.frf⟩
section
variable {X:Cx} {pins:E'} {σ:St} {H:Hp} {s:vr} {E:Cr}
theorem Inv.wish (I:Inv X pins σ H s) (E:Cr):Inv (X.wish E) pins σ H s:=⟨I.ok.wish E,I.os,I.bare,I.base,I.loc,I.cell,I.free,I.freeC,I.pin,I.hok,I.len⟩
theorem Inv.unwish (I:Inv (X.wish E) pins σ H s):Inv X pins σ H s:=⟨I.ok.unwish,I.os,I.bare,I.base,I.loc,I.cell,I.free,I.freeC,I.pin,I.hok,I.len⟩
theorem SP.unwish {f:Flow} (h:SP (X.wish E) pins pi f s'):SP X pins pi f s':=by
 cases f with
 | next=>obtain⟨σ',H',I,q⟩:=h;exact⟨σ',H',I.unwish,q⟩
 | brk=>obtain⟨σ',H',I,q⟩:=h;exact⟨σ',H',I.unwish,q⟩
 | cont=>obtain⟨σ',H',I,q⟩:=h;exact⟨σ',H',I.unwish,q⟩
 | ret u=>obtain⟨v,σ',H',I,r,q⟩:=h;exact⟨v,σ',H',I.unwish,r,q⟩
theorem PSs.nox {st:ef ZD} {t:TS} (h:PSs X.nox st t):PSs X st t:=λpins s σ H D I hw=>
 Z3 (h pins s σ H D (I.wish _) hw) (λ_ _ q=>q.unwish) λ_ _ z=>Xo z
end
section
variable {X:Cx} {st:ZD} {rest:ef ZD} {t u:TS} {e:XS} {te:TE} {pos:Pos}
noncomputable def SM:TS:=λD σ H=>D.nx σ H
noncomputable def tSeq (t u:TS):TS:=λD σ H=>t {D with nx:=u D} σ H
theorem bg:PSs X [] SM:=λ_ _ σ H _ I h=>ae3 ⟨σ,H,I,h⟩
theorem ae (h1:PS X st t) (h2:PSs X rest u):PSs X (st::rest) (tSeq t u):=by
 intro pins s σ H D I h;refine ak0 (thn (h1 pins s σ H {D with nx:=u D} I h) λf Y q=>?_);cases f with
 | next=>
   obtain⟨σ',H',θ,q⟩:=q;exact h2 pins Y σ' H' D θ q
 | ret v=>exact q
 | brk=>exact q
 | cont=>exact q
theorem ai (h1:PS X st t):PSs X [st] t:=by
 intro pins s σ H D I h;refine ak0 (thn (h1 pins s σ H D I h) λf Y q=>?_);cases f with
 | next=>exact ae3 q
 | ret v=>exact q
 | brk=>exact q
 | cont=>exact q
theorem Inv.quiet (I:Inv X pins σ H s):interactive X.env=false:=by simp[interactive,I.ok.kind]
noncomputable abbrev VH (te:TE):TS:=λD σ H=>te σ H λ_ H1=>D.nx σ H1
theorem bL (he:PE X e te) (hs:swapsWith e gn pos.line X.env=pure false:=by rfl):PS X (.Expr e pos) (VH te):=by
 intro pins s σ H D I h;exact wpAny_Expr_any (thn (he pins s σ H _ I h) λv α ⟨x,H1,Z,β,Y⟩=>⟨σ,H1,Z,Y⟩) I.quiet hs
noncomputable abbrev tRet (te:TE):TS:=λD σ H=>te σ H D.rt
theorem aD (he:PE X e te):PS X (.Return (a' e) pos) (tRet te):=by
 intro pins s σ H D I h;exact wpAny_Return_some (thn (he pins s σ H _ I h) λv β ⟨x,H1,α,Y,Z⟩=>⟨x,σ,H1,α,Y,Z⟩)
noncomputable abbrev tIfS (c:TT) (t u:TS):TS:=λD σ H=>c σ H λb H1=>if b=true then t D σ H1 else u D σ H1
theorem du {c:XS} {a b:ef ZD} (hc:PT X c tc) (ha:PSs X a t) (hb:PSs X b u):PS X (.If c a b pos) (tIfS tc t u):=by
 intro pins s σ H D I h;refine wpAny_If (thn (hc pins s σ H _ I h) λd Y ⟨H1,α,Z⟩=>?_);cases d with
 | true=>exact ha pins Y σ H1 D α Z
 | false=>exact hb pins Y σ H1 D α Z
end
noncomputable abbrev TG:=V->St->Hp->(St->Hp->Prop)->Prop
noncomputable abbrev TGs:=ef V->St->Hp->(St->Hp->Prop)->Prop
variable {qE:TGs}
def PG (X:Cx) (Y:XS) (t:TG):Prop:=
 ∀(pins:E') (s:vr) (σ:St) (H:Hp) (v:V) (u:xo) (Q:St->Hp->Prop),Inv X pins σ H s->RelV v u->t v σ H Q->
  vu (WA X.prog X.w) X.A (assign Y X.env u) (λ_ s'=>∃σ' H',Inv X pins σ' H' s'/\Q σ' H') X.xe s
def PGs (X:Cx) (ts:ef XS) (t:TGs):Prop:=
 ∀(pins:E') (s:vr) (σ:St) (H:Hp) (vs:ef V) (us:F') (Q:St->Hp->Prop),Inv X pins σ H s->Vals vs us->t vs σ H Q->
  vu (WA X.prog X.w) X.A (assignInOrder ((assignEach ts X.env).map (·.2)) us) (λ_ s'=>∃σ' H',Inv X pins σ' H' s'/\Q σ' H') X.xe s
section
variable {X:Cx} {pos:Pos}
noncomputable def Lk (i:Nat):TG:=λv σ H Q=>Q (σ.set i (a' v)) H
theorem ar {x:Wz} (Y:X.N.Nodup) (hi:X.N[i]? =a' x) (hx:Loc X.env.scope x) (hf:X.fn x=true∨X.env.scope.names.lookup x=a' .local:=by first | exact .inl rfl | exact .inr rfl | assumption):PG X (.Name x pos) (Lk i):=by
 intro pins s σ H v u Q I r h;exact av4 (Fs I Y hi hx r (λs' θ=>⟨_,H,θ,h⟩) hf)
noncomputable def gNil:TGs:=λvs σ H Q=>vs=[]/\Q σ H
noncomputable def RO (t:TG) (u:TGs):TGs:=λvs σ H Q=>∃v r,vs=v::r/\t v σ H fun σ' H'=>u r σ' H' Q
theorem iE:PGs X [] gNil:=by
 intro pins s σ H vs us Q I r h;obtain⟨e,h⟩:=h;subst e;cases r;exact assignInOrder_nil ⟨σ,H,I,h⟩
theorem bD {t:TG} {u:TGs} (h1:PG X e t) (h2:PGs X β u)
  (hs:(assignEach (e::β) X.env).map (·.2)=assign e X.env::(assignEach β X.env).map (·.2):=by rfl):PGs X (e::β) (RO t u):=by
 intro pins s σ H vs us Q I r h;obtain⟨v,ε,γ,h⟩:=h;subst γ;cases r with
 | cons r α=>
   rw[hs];refine assignInOrder_cons (thn (h1 pins s σ H _ _ _ I r h) λ_ Z ⟨Y,H1,δ,es⟩=>?_);exact h2 pins Z Y H1 _ _ Q δ α es
noncomputable def gTup (K:b') (n:Nat) (t:TGs):TG:=λv σ H Q=>∃a xs,v= .ref a/\SqT K H a xs/\xs.length=n/\t xs σ H Q
theorem wH {k:Nat} {t:TGs} {n:Nat} (hc:X.calm=true) (h:PGs X β t)
  (hn:(assignEach β X.env).length=n:=by rfl) (Y:(assignEach β X.env).findIdx? (·.1)=none:=by rfl):PG X (.Tuple β k pos) (gTup X.K n t):=by
 intro pins s σ H v u Q I r hw;obtain⟨a,xs,γ,es,hl,hw⟩:=hw;subst γ;cases r;obtain⟨its,Z,ht,hz⟩:=I.tuple es;refine assign_Tuple_tuple (I.ok.hd hc) ht (by simp[hn,<-hl,Z.length]) Y λh' α=>?_;have δ:Inv X pins σ H {s with heap:=h'}:=I.kept (t':=s.toks) λb o e=>α b o (W' (i' e)) e;exact h pins _ σ H xs _ Q δ (by simpa using Z) hw
noncomputable abbrev tAsg (te:TE) (g:TG):TS:=λD σ H=>te σ H λx H1=>g x σ H1 D.nx
theorem JY {g:TG} (he:PE X e te) (β:PG X tg g) (hs:swapsWithSole [tg] e pos.line X.env=pure false:=by rfl) (hw:swappedStores [tg] e X.env=pure none:=by rfl)
  (h1:(assignEach [tg] X.env).map (·.2)=[assign tg X.env]:=by rfl):PS X (.Assign [tg] e pos) (tAsg te g):=by
 intro pins s σ H D I h;refine wpAny_Assign_stores (thn (he pins s σ H _ I h) λv Y ⟨x,H1,γ,Z,α⟩=>?_) hs hw;rw[h1];exact thn (β pins Y σ H1 x v _ γ Z α) λ_ δ q=>q
theorem az {x:Wz} (α:X.N.Nodup) (hi:X.N[i]? =a' x) (hx:Loc X.env.scope x) (he:PE X e te) (hs:swapsWith e (a' (.Name x pos')) pos.line X.env=pure false:=by rfl) (hf:X.fn x=true∨X.env.scope.names.lookup x=a' .local:=by first | exact .inl rfl | exact .inr rfl | assumption):
  PS X (.Assign [.Name x pos'] e pos) (tAsg te (Lk i)):=by
 intro pins s σ H D I h;refine wpAny_Assign_Name (thn (he pins s σ H _ I h) λv ε ⟨y,H1,γ,Y,Z⟩=>?_) hs;exact Fs γ α hi hx Y (fun δ β=>⟨_,H1,β,Z⟩) hf
end
section
variable {X:Cx} {pos:Pos}
noncomputable def SL (c:TT) (tb:TS):TS:=λD σ H=>∃W:Nat->St->Hp->Prop,(∃m,W m σ H)/\∀m σ H,W m σ H->
 c σ H λb H1=>if b=true then ∃N:St->Hp->Prop,(∀σ' H',N σ' H'->∃ω,ω < m/\W ω σ' H')/\tb {D with nx:=N,ct:=N,bk:=D.nx} σ H1 else D.nx σ H1
theorem jJ {c:XS} (θ:PassesOwn (WA X.prog X.w) X.A X.env X.xe) (hc:PT X c tc) (hb:PSs X pp tb):PS X (.While c pp [] pos) (SL tc tb):=by
 intro pins s σ H D I h;obtain⟨W,⟨ρ,w0⟩,β⟩:=h;refine wpAny_While (codeAny_whileLoop (λn s'=>∃σ' H',Inv X pins σ' H' s'/\W n σ' H') ?_ ρ ⟨σ,H,I,w0⟩);rintro n π ⟨Z,H1,τ,ξ⟩;refine YV θ (thn (hc pins π Z H1 _ τ (β n Z H1 ξ)) λb ο ⟨H2,ν,ε⟩=>?_);cases b with
 | true=>
   obtain⟨N,ι,ε⟩:=ε;rw[zt rfl];refine YV θ (thn (hb pins ο Z H2 _ ν ε) λf φ γ=>?_);cases f with
   | next=>
     obtain⟨Y,δ,υ,η⟩:=γ;obtain⟨ω,hm,ζ⟩:=ι Y δ η;exact⟨ω,hm,Y,δ,υ,ζ⟩
   | cont=>
     obtain⟨Y,δ,υ,η⟩:=γ;obtain⟨ω,hm,ζ⟩:=ι Y δ η;exact⟨ω,hm,Y,δ,υ,ζ⟩
   | brk=>exact γ
   | ret v=>exact γ
 | false=>
   rw[oT hF];exact ae3 ⟨Z,H2,ν,ε⟩
end
structure It where
 go:Nat->Hp->Prop
 yld:Nat->Hp->V->Hp->Prop
 stop:Nat->Hp->Prop
def FpOk (X:Cx) (pins:E') (H:Hp) (b:eO):Prop:=
 H b=gn/\b≠X.env.locals/\b∉X.fs/\(b∈X.ex∨X.s₀.heap.objs.size<=b)/\(∀x c,X.env.cells.lookup x=a' c->c≠b)/\∀p∈X.pn++pins,p.1≠b
theorem Inv.fpOk {b:eO} (I:Inv X pins σ H s) (hb:s.heap.objs.size<=b) (hn:H' b=gn):FpOk X pins H' b:=by
 refine⟨hn,XY (eP I.lt hb),I.nofs hb,.inr (Yi I.sz hb),λx c e z=>?_,λp Y z=>?_⟩
 ·obtain⟨v,q⟩:=I.cell x c e;exact hQ (eP q.lt (by rw[z];exact hb)) (Yg _)
 ·exact hQ (eP (i' (I.pin p Y).1) (by rw[z];exact hb)) (Yg _)
structure Turn (P:WJ) (w:X5) (K:b') (tg:XS) (J:It) (fp:M') (it:eO) (tn:Nat->Xj->Prop):Prop where
 mem:it∈fp
 obj:∀i h,tn i h->∀b∈fp,∃o,h.get? b=a' o/\∀v,o.data≠.cell v
 keep:∀i h h',tn i h->(∀b∈fp,∀o,h.get? b=a' o->h'.get? b=a' o)->tn i h'
 item:∀(X:Cx),X.prog=P->X.w=w->X.K=K->X.calm=true->∀(i:Nat) (pins:E') (s:vr) (σ:St) (H:Hp) (E:Cr),Inv X pins σ H s->(∀b∈fp,FpOk X pins H b)->tn i s.heap->J.go i H->
  vu (WA P w) X.A (pyNext (.ref it)) (λr s1=>∃u,r=a' u/\
   vu (WA P w) X.A (letOwnedTupleGo tg (.ref it) u) (λ_ s2=>∃x H',Inv X pins σ H' s2/\RelV x u/\J.yld i H x H'/\tn (i + 1) s2.heap/\∀b∈fp,H' b=gn) E s1) E s
 done:∀(X:Cx),X.prog=P->X.w=w->X.K=K->X.calm=true->∀(i:Nat) (pins:E') (s:vr) (σ:St) (H:Hp) (E:Cr),Inv X pins σ H s->(∀b∈fp,FpOk X pins H b)->tn i s.heap->J.stop i H->
  vu (WA P w) X.A (pyNext (.ref it)) (λr s1=>r=gn/\Inv X pins σ H s1) E s
 self:∀(A:X2) (i:Nat) (s:vr) (Q:Cr) (E:Cr),tn i s.heap->Q (.ref it) s->vu (WA P w) A (pyIter (.ref it)) Q E s
noncomputable abbrev TI:=St->Hp->(It->Hp->Prop)->Prop
variable {sA wi:TI}
def PIE (X:Cx) (pins:E') (σ:St) (tg:XS) (R:It->Hp->Prop) (Y:xo) (α:vr):Prop:=
 ∃(β:eO) (fp:M') (Z:Nat->Xj->Prop) (J:It) (H':Hp),Y= .ref β/\Inv X pins σ H' α/\Turn X.prog X.w X.K tg J fp β Z/\Z 0 α.heap/\(∀b∈fp,FpOk X pins H' b)/\R J H'
def PI (X:Cx) (tg iter:XS) (Y:TI):Prop:=
 ∀(pins:E') (s:vr) (σ:St) (H:Hp) (R:It->Hp->Prop),Inv X pins σ H s->Y σ H R->
  vu (WA X.prog X.w) X.A (eval iter X.env) (λv Z=>vu (WA X.prog X.w) X.A (pyIter v) (PIE X pins σ tg R) X.xe Z) X.xe s
theorem Og {M:Model} {A:X2} {E:Cr} {o:Obj} {n:Yo} {vs:K'} {Q:Ls} (ho:s.heap.get? Y=a' o) (hc:o.cls= .type n) (hd:o.data= .fields vs)
  (hn:["enumerate","zip","dict_itemiterator","dict_reverseitemiterator","odict_iterator","itertools.zip_longest","itertools.pairwise"].contains n=false) (τ:Q () s):vu M A (letOwnedTupleGo tg (.ref Y) u) Q E s:=by
 unfold letOwnedTupleGo
 cases tg<;>first
  | exact W4 τ
  | (cases u<;>first
    | exact W4 τ
    | (refine gs (wpAny_load ho ?_)
       rw[hc,hd];show vu M A (if (["enumerate","zip","dict_itemiterator","dict_reverseitemiterator","odict_iterator","itertools.zip_longest","itertools.pairwise"].contains n&&vs[0]? == a' (rawInt _))=true then _ else _) Q E s;rw[oT (by intro h;rw[hn,X8] at h;cases h)];exact W4 τ))
noncomputable def Itl (K:b') (a:eO):It:=
 ⟨λi H=>∃xs x,SqL K H a xs/\xs[i]? =a' x,λi H x H'=>H'=H/\∀xs,SqL K H a xs->xs[i]? =a' x,λi H=>∃xs,SqL K H a xs/\xs.length<=i⟩
noncomputable def Itt (K:b') (a:eO):It:=
 ⟨λi H=>∃xs x,SqT K H a xs/\xs[i]? =a' x,λi H x H'=>H'=H/\∀xs,SqT K H a xs->xs[i]? =a' x,λi H=>∃xs,SqT K H a xs/\xs.length<=i⟩
noncomputable def Itr (lo:Int) (n:Nat):It:=⟨λi _=>i < n,λi H x H'=>H'=H/\x= .int (lo + i),λi _=>n<=i⟩
theorem IW {P:WJ} {w:X5} {K:b'} (a Y:eO):Turn P w K tg (Itl K a) [Y] Y (λi h=>h.IsListIter Y a i) where
 mem:=by simp
 obj:=λi h st b hb=>by
  have e:b=Y:=by simpa using hb
  subst e;obtain⟨o,e,c,d⟩:=st;exact⟨o,e,λv z=>by rw[d] at z;cases z⟩
 keep:=λi h h' st k=>st.at λo e=>k Y @E o e
 item:=by
  intro X ε hw ζ π i pins s σ H E I hf st δ;subst ε hw ζ;obtain⟨xs,x,α,γ⟩:=δ;obtain⟨its,β,p,hz⟩:=I.list α;obtain⟨u,ρ,τ⟩:=β.get γ;obtain⟨ο,ι,φ,ξ,θ,η⟩:=hf Y @E;refine wpAny_pyNext_list_item st p.isList (x:=u) (by simpa using ρ) λh' Z ν=>?_;have ψ:Inv X pins σ H {s with heap:=h'}:=I.turned (t':=s.toks) (λb o hb e=>(ν.2 b hb).trans e) ο ι ξ θ η;obtain⟨o,e,c,d⟩:=id Z;exact⟨u,rfl,Og (s:={s with heap:=h'}) e c d @C ⟨x,H,ψ,τ,⟨rfl,λys υ=>by rw[I.list_inj υ α];exact γ⟩,Z,λb hb=>(hf b hb).1⟩⟩
 done:=by
  intro X ε hw ζ π i pins s σ H E I hf st δ;subst ε hw ζ;obtain⟨xs,α,γ⟩:=δ;obtain⟨its,β,p,hz⟩:=I.list α;obtain⟨ο,ι,φ,ξ,θ,η⟩:=hf Y @E;have hl:=β.length;exact wpAny_pyNext_list_end (I.ok.hd π) st p.isList (by simp;omega) λh' χ=>⟨rfl,I.turned (t':=s.toks) (λb o hb e=>χ b o hb e) ο ι ξ θ η⟩
 self:=λ_ _ _ _ _ st h=>wpAny_pyIter_listiter st h
theorem Gk {P:WJ} {w:X5} {K:b'} (a Y:eO):Turn P w K tg (Itt K a) [Y] Y (λi h=>h.IsTupleIter Y a i) where
 mem:=by simp
 obj:=λi h st b hb=>by
  have e:b=Y:=by simpa using hb
  subst e;obtain⟨o,e,c,d⟩:=st;exact⟨o,e,λv z=>by rw[d] at z;cases z⟩
 keep:=λi h h' st k=>st.at λo e=>k Y @E o e
 item:=by
  intro X ε hw ζ π i pins s σ H E I hf st δ;subst ε hw ζ;obtain⟨xs,x,α,γ⟩:=δ;obtain⟨its,β,p,hz⟩:=I.tuple α;obtain⟨u,ρ,τ⟩:=β.get γ;obtain⟨ο,ι,φ,ξ,θ,η⟩:=hf Y @E;refine wpAny_pyNext_tuple_item st (show s.heap.IsTuple a its.toArray from p) (x:=u) (by simpa using ρ) λh' Z ν=>?_;have ψ:Inv X pins σ H {s with heap:=h'}:=I.turned (t':=s.toks) (λb o hb e=>(ν.2 b hb).trans e) ο ι ξ θ η;obtain⟨o,e,c,d⟩:=id Z;exact⟨u,rfl,Og (s:={s with heap:=h'}) e c d @C ⟨x,H,ψ,τ,⟨rfl,λys υ=>by rw[I.tuple_inj υ α];exact γ⟩,Z,λb hb=>(hf b hb).1⟩⟩
 done:=by
  intro X ε hw ζ π i pins s σ H E I hf st δ;subst ε hw ζ;obtain⟨xs,α,γ⟩:=δ;obtain⟨its,β,p,hz⟩:=I.tuple α;obtain⟨ο,ι,φ,ξ,θ,η⟩:=hf Y @E;have hl:=β.length;exact wpAny_pyNext_tuple_end (I.ok.hd π) st (show s.heap.IsTuple a its.toArray from p) (by simp;omega) λh' χ=>⟨rfl,I.turned (t':=s.toks) (λb o hb e=>χ b o hb e) ο ι ξ θ η⟩
 self:=λ_ _ _ _ _ st h=>wpAny_pyIter_tupleiter st h
theorem Gm {P:WJ} {w:X5} {K:b'} (Y:eO) (lo:Int) (n:Nat):Turn P w K tg (Itr lo n) [Y] Y (λi h=>IsRangeIter h Y (lo + (i:Nat) * 1) ((n:Int) - (i:Nat)) 1) where
 mem:=by simp
 obj:=λi h st b hb=>by
  have e:b=Y:=by simpa using hb
  subst e
  exact⟨_,st,λv z=>by
   have ν:Data.fields _=Data.cell v:=z;cases ν⟩
 keep:=λi h h' st k=>k Y @E _ st
 item:=by
  intro X γ hw ε β i pins s σ H E I hf st α;subst γ hw ε;obtain⟨ι,θ,π,ξ,η,ζ⟩:=hf Y @E;have W:=Walks.range (prog:=X.prog) (w:=X.w) (I.ok.hd β) Y lo 1 n;refine W.item i s _ _ α st λv h' tk ο Z δ=>?_;obtain⟨t,rfl⟩:=ο;have τ:Inv X pins σ H {s with heap:=h',toks:=tk}:=I.turned (λb o hb e=>δ b o (by simpa using hb) e) ι θ ξ η ζ;refine⟨_,rfl,Og (s:={s with heap:=h',toks:=tk}) (n:="range_iterator") Z rfl rfl @C ⟨.int (lo + i),H,τ,⟨t,?_⟩,⟨rfl,rfl⟩,Z,λb hb=>(hf b hb).1⟩⟩;rw[Int.mul_one]
 done:=by
  intro X γ hw ε β i pins s σ H E I hf st α;subst γ hw ε;obtain⟨ι,θ,π,ξ,η,ζ⟩:=hf Y @E;exact wpAny_pyNext_range_end (I.ok.hd β) st (by have:n<=i:=α;omega) λh' ρ=>⟨rfl,I.turned (t':=s.toks) (λb o hb e=>ρ b o hb e) ι θ ξ η ζ⟩
 self:=λ_ _ _ _ _ st h=>wpAny_pyIter_rangeiter st h
section
variable {X:Cx} {tg:XS}
noncomputable abbrev UL (K:b') (tl:TE):TI:=fun σ H R=>tl σ H λx H1=>∃a,x= .ref a/\(∃xs,SqL K H1 a xs)/\R (Itl K a) H1
noncomputable abbrev iTup (K:b') (tl:TE):TI:=fun σ H R=>tl σ H λx H1=>∃a,x= .ref a/\(∃xs,SqT K H1 a xs)/\R (Itt K a) H1
theorem Rc {l:XS} (hl:PE X l tl):PI X tg l (UL X.K tl):=by
 intro pins s σ H R I h;refine thn (hl pins s σ H _ I h) λv Y ⟨x,H1,I1,Z,α⟩=>?_;obtain⟨a,e,⟨xs,β⟩,q⟩:=α;subst e;cases Z;obtain⟨its,γ,p,hz⟩:=I1.list β;refine ab8 p.isList ?_;refine⟨Y.heap.objs.size,[Y.heap.objs.size],_,_,H1,rfl,I1.kept (t':=Y.toks) λb o e=>gz _ e,IW a _,⟨_,v' _ rfl,rfl,rfl⟩,λb hb=>?_,q⟩;have e:b=Y.heap.objs.size:=by simpa using hb
 subst e;exact I1.fpOk (p' _) (I1.hok.fresh (p' _))
theorem T5 {l:XS} (hl:PE X l tl):PI X tg l (iTup X.K tl):=by
 intro pins s σ H R I h;refine thn (hl pins s σ H _ I h) λv Y ⟨x,H1,I1,Z,α⟩=>?_;obtain⟨a,e,⟨xs,β⟩,q⟩:=α;subst e;cases Z;obtain⟨its,γ,p,hz⟩:=I1.tuple β;refine ab2 (show Y.heap.IsTuple a its.toArray from p) ?_;refine⟨Y.heap.objs.size,[Y.heap.objs.size],_,_,H1,rfl,I1.kept (t':=Y.toks) λb o e=>gz _ e,Gk a _,⟨_,v' _ rfl,rfl,rfl⟩,λb hb=>?_,q⟩;have e:b=Y.heap.objs.size:=by simpa using hb
 subst e;exact I1.fpOk (p' _) (I1.hok.fresh (p' _))
theorem NC {R:It->Hp->Prop} {E:Cr} {hi:Int} {t u v:Tok} {tk:Nat} (I:Inv X pins σ H s) (h1: -(2 ^ 62)<=sh) (h2:sh < 2 ^ 62) (Z: -(2 ^ 62)<=hi) (Y:hi < 2 ^ 62)
  (q:R (Itr sh (hi - sh).toNat) H):vu (WA X.prog X.w) X.A (pyIter (.ref s.heap.objs.size)) (PIE X pins σ tg R) E {s with heap:=s.heap.push {cls:= .type "range",data:= .fields #[.int sh t,.int hi u,.int 1 v]},toks:=tk}:=by
 refine wpAny_pyIter_range (au4 ..) (small_one h1 h2 Z Y) ?_;have I1:Inv X pins σ H {s with heap:=s.heap.push {cls:= .type "range",data:= .fields #[.int sh t,.int hi u,.int 1 v]},toks:=tk}:=I.kept λb o e=>gz _ e
 refine⟨(s.heap.push {cls:= .type "range",data:= .fields #[.int sh t,.int hi u,.int 1 v]}).objs.size,[(s.heap.push {cls:= .type "range",data:= .fields #[.int sh t,.int hi u,.int 1 v]}).objs.size],_,_,H,rfl,
  I1.kept (t':=tk) λb o e=>gz _ e,Gm _ sh (hi - sh).toNat,?_,λb hb=>?_,q⟩
 ·have β:sh + ((0:Nat):Int) * 1=sh:=by simp
  have α:(((hi - sh).toNat:Nat):Int) - ((0:Nat):Int)=Builtin.Range.rangeSize sh hi 1:=by rw[rangeSize_one];split<;>omega
  show IsRangeIter _ _ (sh + ((0:Nat):Int) * 1) ((((hi - sh).toNat:Nat):Int) - ((0:Nat):Int)) 1;rw[β,α];exact v' _ rfl
 ·have e:b=(s.heap.push {cls:= .type "range",data:= .fields #[.int sh t,.int hi u,.int 1 v]}).objs.size:=by simpa using hb
  subst e;exact I1.fpOk (p' _) (I1.hok.fresh (p' _))
noncomputable abbrev Wg (ta:TA):TI:=fun σ H R=>ta σ H λvs H1=>∃j:Int,vs=[.int j]/\-(2 ^ 62)<=j/\j < 2 ^ 62/\R (Itr 0 j.toNat) H1
theorem cE {a:XS} {p:Pos} (γ:Gl X "range") (hm:X.mg "range"=gn) (ha:PA X [a] sw) (hs:zx [a] X.env=[(false,eval a X.env)]:=by rfl):PI X tg (.Call (.Name "range" p) [a] [] pos) (Wg sw):=by
 intro pins s σ H R I h;refine ap7 (oW I γ hm boot_range (X0 (thn (ha pos pins s σ H _ I h) λus ε ⟨vs,H1,δ,α,Y⟩=>?_) hs rfl));obtain⟨j,e,Y,β,q⟩:=Y;subst e;cases α with
 | cons r Z=>
   cases Z;obtain⟨t,rfl⟩:=r;exact call_range_1 (NC δ @A @A Y β (by simpa using q))
noncomputable def tFor (Z:TI) (g:TG) (tb:TS):TS:=λD σ H=>Z σ H λJ H1=>∃W:Nat->Nat->St->Hp->Prop,(∃m,W 0 m σ H1)/\∀i m σ H,W i m σ H->
 (J.stop i H/\D.nx σ H)∨(J.go i H/\∃N:St->Hp->Prop,(∀σ' H',N σ' H'->∃ω,ω < m/\W (i + 1) ω σ' H')/\∀x H',J.yld i H x H'->g x σ H' λY H2=>tb {D with nx:=N,ct:=N,bk:=D.nx} Y H2)
noncomputable def BN (fp:M') (h:Xj):E':=fp.filterMap λb=>(h.get? b).map λo=>(b,o)
theorem pS {h:Xj} {b:eO} {o:Obj} (hb:b∈fp) (e:h.get? b=a' o):(b,o)∈BN fp h:=aq5.mpr ⟨b,hb,by rw[e];rfl⟩
theorem Ki {h:Xj} {p:eO×Obj} (Y:p∈BN fp h):p.1∈fp/\h.get? p.1=a' p.2:=by
 obtain⟨b,hb,e⟩:=aq5.mp Y;cases q:h.get? b with
 | none=>rw[q] at e;cases e
 | some o=>
   rw[q] at e;have Z:(b,o)=p:=WB e;subst Z;exact⟨hb,q⟩
theorem Inv.pinned (I:Inv X pins σ H s) (hf:∀b∈fp,FpOk X pins H b) (ho:∀b∈fp,∃o,s.heap.get? b=a' o/\∀v,o.data≠.cell v):Inv X (pins++BN fp s.heap) σ H s:=
 I.pins_of λp Z=>(hB.mp Z).elim (λz=>I.pin p (lA _ z)) λz=>by
  obtain⟨hb,e⟩:=Ki z;obtain⟨γ,β,α,_⟩:=hf p.1 hb;obtain⟨o,Y,d⟩:=ho p.1 hb;rw[e] at Y;cases Y;exact⟨e,γ,β,α,d⟩
theorem Inv.unpinned {pl:E'} (I:Inv X (pins++pl) σ H s):Inv X pins σ H s:=I.pins_of λp Y=>I.pin p (lA _ (qb _ Y))
theorem fG {g:TG} (η:PassesOwn (WA X.prog X.w) X.A X.env X.xe) (hc:X.calm=true) (hi:PI X tg iter wi) (hg:PG X tg g) (hb:PSs X pp tb)
  (hs:∀x,foldedSetIterable iter X.env x=pure x:=by intro _;rfl):PS X (.For tg iter pp [] pos) (tFor wi g tb):=by
 intro pins s σ H D I h;refine wpAny_For (thn (hi pins s σ H _ I h) λv s1 h1=>thn h1 λa3 s2 h2=>?_) hs;obtain⟨it,fp,tn,J,H2,e,I2,T,Y,f2,W,⟨m0,w0⟩,ε⟩:=h2;subst e;have β:∀{H':Hp},(∀b∈fp,H' b=gn)->∀b∈fp,FpOk X pins H' b:=λhn b hb=>⟨hn b hb,(f2 b hb).2⟩;refine codeAny_forLoop_any (λn s'=>∃i σ' H',Inv X pins σ' H' s'/\tn i s'.heap/\(∀b∈fp,H' b=gn)/\W i n σ' H') ?_ m0 ⟨0,σ,H2,I2,Y,λb hb=>(f2 b hb).1,w0⟩;rintro n s3 ⟨i,α,τ,υ,ζ,θ,w3⟩;rcases ε i n α τ w3 with ⟨stop,qn⟩ | ⟨go,N,hN,step⟩
 ·refine YV η (thn (T.done X rfl rfl rfl hc i pins s3 α τ X.xe υ (β θ) ζ stop) λr s4 ⟨χ,I4⟩=>?_);subst χ;exact ae3 ⟨α,τ,I4,qn⟩
 ·refine YV η (thn (T.item X rfl rfl rfl hc i pins s3 α τ X.xe υ (β θ) ζ go) λr s4 ⟨u,χ,h4⟩=>?_);subst χ;refine YV η (thn h4 λ_ ν ⟨x,H5,I5,r5,ι,δ,ρ⟩=>?_);have a0:=I5.pinned (β ρ) (T.obj _ _ δ);refine YV η (thn (hg _ ν α H5 x u _ a0 r5 (step x H5 ι)) λ_ s6 ⟨π,H6,I6,q6⟩=>?_);refine YV η (thn (hb _ s6 π H6 _ I6 q6) λf φ ξ=>?_)
  have again:∀{Z:St} {ψ:Hp},Inv X (pins++BN fp ν.heap) Z ψ φ->N Z ψ->∃m,m < n/\∃i σ' H',Inv X pins σ' H' φ/\tn i φ.heap/\(∀b∈fp,H' b=gn)/\W i m σ' H':=λ{Z ψ} I7 ο=>by
   obtain⟨ω,hm,w7⟩:=hN Z ψ ο;refine⟨ω,hm,i + 1,Z,ψ,I7.unpinned,T.keep _ _ _ δ λb hb o e=>(I7.pin (b,o) (lA _ (lA _ (pS hb e)))).1,λb hb=>?_,w7⟩;obtain⟨o,e,d⟩:=T.obj _ _ δ b hb;exact(I7.pin (b,o) (lA _ (lA _ (pS hb e)))).2.1
  cases f with
  | next=>obtain⟨Z,ψ,I7,ο⟩:=ξ;exact again I7 ο
  | cont=>obtain⟨Z,ψ,I7,ο⟩:=ξ;exact again I7 ο
  | brk=>obtain⟨Z,ψ,I7,ξ⟩:=ξ;exact⟨Z,ψ,I7.unpinned,ξ⟩
  | ret v=>obtain⟨x7,Z,ψ,I7,r7,ξ⟩:=ξ;exact⟨x7,Z,ψ,I7.unpinned,r7,ξ⟩
end
theorem jM {K:b'} {xs:ef V} {g:TG} (Pv:Nat->St->Hp->Prop) (h0:Pv 0 σ H) (hl:∀i σ H,i<=xs.length->Pv i σ H->SqL K H a xs)
  (hs:∀i x σ H,xs[i]? =a' x->Pv i σ H->g x σ H λY H2=>tb {pi with nx:=Pv (i + 1),ct:=Pv (i + 1),bk:=pi.nx} Y H2) (hd:∀σ H,Pv xs.length σ H->pi.nx σ H):
  ∃W:Nat->Nat->St->Hp->Prop,(∃m,W 0 m σ H)/\∀i m σ H,W i m σ H->
    ((Itl K a).stop i H/\pi.nx σ H)∨((Itl K a).go i H/\∃N:St->Hp->Prop,(∀σ' H',N σ' H'->∃ω,ω < m/\W (i + 1) ω σ' H')/\∀x H',(Itl K a).yld i H x H'->g x σ H' λY H2=>tb {pi with nx:=N,ct:=N,bk:=pi.nx} Y H2):=by
 refine⟨λi m σ H=>m=xs.length - i/\i<=xs.length/\Pv i σ H,⟨xs.length,@E,XZ _,h0⟩,?_⟩;rintro i m σ H ⟨rfl,hi,p⟩;have q:=hl i σ H hi p;by_cases α:i < xs.length
 ·refine .inr ⟨⟨xs,xs[i],q,by simp[α]⟩,Pv (i + 1),fun σ' H' Z=>⟨xs.length - (i + 1),by omega,rfl,α,Z⟩,λx H' y=>?_⟩;obtain⟨e,y⟩:=y;subst e;exact hs i x σ _ (y xs q) p
 ·have e:i=xs.length:=by omega
  subst e;exact .inl ⟨⟨xs,q,p' _⟩,hd σ H p⟩
theorem uG {K:b'} {xs:ef V} {g:TG} (Pv:Nat->St->Hp->Prop) (h0:Pv 0 σ H) (hl:∀i σ H,i<=xs.length->Pv i σ H->SqT K H a xs)
  (hs:∀i x σ H,xs[i]? =a' x->Pv i σ H->g x σ H λY H2=>tb {pi with nx:=Pv (i + 1),ct:=Pv (i + 1),bk:=pi.nx} Y H2) (hd:∀σ H,Pv xs.length σ H->pi.nx σ H):
  ∃W:Nat->Nat->St->Hp->Prop,(∃m,W 0 m σ H)/\∀i m σ H,W i m σ H->
    ((Itt K a).stop i H/\pi.nx σ H)∨((Itt K a).go i H/\∃N:St->Hp->Prop,(∀σ' H',N σ' H'->∃ω,ω < m/\W (i + 1) ω σ' H')/\∀x H',(Itt K a).yld i H x H'->g x σ H' λY H2=>tb {pi with nx:=N,ct:=N,bk:=pi.nx} Y H2):=by
 refine⟨λi m σ H=>m=xs.length - i/\i<=xs.length/\Pv i σ H,⟨xs.length,@E,XZ _,h0⟩,?_⟩;rintro i m σ H ⟨rfl,hi,p⟩;have q:=hl i σ H hi p;by_cases α:i < xs.length
 ·refine .inr ⟨⟨xs,xs[i],q,by simp[α]⟩,Pv (i + 1),fun σ' H' Z=>⟨xs.length - (i + 1),by omega,rfl,α,Z⟩,λx H' y=>?_⟩;obtain⟨e,y⟩:=y;subst e;exact hs i x σ _ (y xs q) p
 ·have e:i=xs.length:=by omega
  subst e;exact .inl ⟨⟨xs,q,p' _⟩,hd σ H p⟩
theorem o5 {n:Nat} {g:TG} (Pv:Nat->St->Hp->Prop) (h0:Pv 0 σ H)
  (hs:∀i σ H,i < n->Pv i σ H->g (.int (sh + i)) σ H λY H2=>tb {pi with nx:=Pv (i + 1),ct:=Pv (i + 1),bk:=pi.nx} Y H2) (hd:∀σ H,Pv n σ H->pi.nx σ H):
  ∃W:Nat->Nat->St->Hp->Prop,(∃m,W 0 m σ H)/\∀i m σ H,W i m σ H->
    ((Itr sh n).stop i H/\pi.nx σ H)∨((Itr sh n).go i H/\∃N:St->Hp->Prop,(∀σ' H',N σ' H'->∃ω,ω < m/\W (i + 1) ω σ' H')/\∀x H',(Itr sh n).yld i H x H'->g x σ H' λY H2=>tb {pi with nx:=N,ct:=N,bk:=pi.nx} Y H2):=by
 refine⟨λi m σ H=>m=n - i/\i<=n/\Pv i σ H,⟨n,@E,XZ _,h0⟩,?_⟩;rintro i m σ H ⟨rfl,hi,p⟩;by_cases α:i < n
 ·refine .inr ⟨α,Pv (i + 1),fun σ' H' Z=>⟨n - (i + 1),by omega,rfl,α,Z⟩,λx H' y=>?_⟩;obtain⟨e,y⟩:=y;subst e y;exact hs i σ _ α p
 ·have e:i=n:=by omega
  subst e;exact .inl ⟨p' _,hd σ H p⟩
noncomputable abbrev R2:=V->V->Hp->VK->Prop
def OpR (X:Cx) (f:xo->xo->Sem xo) (r:R2):Prop:=
 ∀(pins:E') (s:vr) (σ:St) (H:Hp) (x y:V) (v u:xo) (Q:VK),Inv X pins σ H s->RelV x v->RelV y u->r x y H Q->
  vu (WA X.prog X.w) X.A (f v u) (EP X pins σ Q) X.xe s
def UnR (X:Cx) (f:xo->Sem xo) (r:V->Hp->VK->Prop):Prop:=
 ∀(pins:E') (s:vr) (σ:St) (H:Hp) (x:V) (v:xo) (Q:VK),Inv X pins σ H s->RelV x v->r x H Q->
  vu (WA X.prog X.w) X.A (f v) (EP X pins σ Q) X.xe s
def oq (X:Cx) (f:xo) (r:ef V->Hp->VK->Prop):Prop:=
 ∀(pins:E') (s:vr) (σ:St) (H:Hp) (xs:ef V) (us:F') (Q:VK),Inv X pins σ H s->Vals xs us->r xs H Q->
  vu (WA X.prog X.w) X.A (call f us) (EP X pins σ Q) X.xe s
noncomputable abbrev tOp (r:R2) (ta tb:TE):TE:=fun σ H Q=>ta σ H λx H1=>tb σ H1 λy H2=>r x y H2 Q
noncomputable abbrev tUn (r:V->Hp->VK->Prop) (ta:TE):TE:=fun σ H Q=>ta σ H λx H1=>r x H1 Q
noncomputable def rI (C:Int->Int->Prop) (g:Int->Int->V):R2:=λx y H Q=>∃i j,x= .int i/\y= .int j/\C i j/\Q (g i j) H
noncomputable def rI0 (g:Int->Int->V):R2:=λx y H Q=>∃i j,x= .int i/\y= .int j/\Q (g i j) H
noncomputable def rU (g:Int->V):V->Hp->VK->Prop:=λx H Q=>∃i,x= .int i/\Q (g i) H
section
variable {X:Cx} {a b c:XS} {ta tb tc:TE} {pos:Pos}
theorem binT (ha:PE X a ta) (hb:PE X b tb) {R:V->V->Hp->Prop} (I:Inv X pins σ H s)
  (h:ta σ H λx H1=>tb σ H1 λy H2=>R x y H2) {Q:Cr} {f:xo->xo->Sem xo}
  (hf:∀v u α x y H2,Inv X pins σ H2 α->RelV x v->RelV y u->R x y H2->vu (WA X.prog X.w) X.A (f v u) Q X.xe α):
  vu (WA X.prog X.w) X.A (eval a X.env) (λv Z=>vu (WA X.prog X.w) X.A (eval b X.env) (λu Y=>vu (WA X.prog X.w) X.A (f v u) Q X.xe Y) X.xe Z) X.xe s:=by
 refine thn (ha pins s σ H _ I h) λv β ⟨x,H1,θ,δ,ζ⟩=>?_;refine thn (hb pins β σ H1 _ θ ζ) λu α ⟨y,H2,η,γ,ε⟩=>?_;exact hf v u α x y H2 η δ γ ε
theorem aE {Y:Operator} {r:R2} (ho:OpR X (binaryOp Y) r) (ha:PE X a ta) (hb:PE X b tb):PE X (.BinOp a Y b pos) (tOp r ta tb):=by
 intro pins s σ H Q I h;exact wpAny_BinOp (binT ha hb I h λv u Z x y H2 γ β α q=>ho pins Z σ H2 x y v u Q γ β α q)
theorem T8 {Y:UnaryOp} {r:V->Hp->VK->Prop} (ho:UnR X (unaryOp Y) r) (ha:PE X a ta):PE X (.UnaryOp Y a pos) (tUn r ta):=by
 intro pins s σ H Q I h;exact UnaryOp_ (thn (ha pins s σ H _ I h) λv Z ⟨x,H1,γ,α,β⟩=>ho pins Z σ H1 x v Q γ α β)
theorem opI {f:xo->xo->Sem xo} {C:Int->Int->Prop} {g:Int->Int->Int}
  (rule:∀(i j:Int) (t u:Tok) (s:vr) (Q:Cr) (E:Cr),C i j->Q (.int (g i j) s.toks) {s with toks:=s.toks + 1}->vu (WA X.prog X.w) X.A (f (.int i t) (.int j u)) Q E s):
  OpR X f (rI C λi j=> .int (g i j)):=by
 intro pins s σ H x y v u Q I Z Y h;obtain⟨i,j,rfl,rfl,α,q⟩:=h;obtain⟨t,rfl⟩:=Z;obtain⟨t',rfl⟩:=Y;exact rule i j t t' s _ _ α ⟨.int (g i j),H,I.tok _,⟨_,rfl⟩,q⟩
theorem opI0 {f:xo->xo->Sem xo} {g:Int->Int->Int}
  (rule:∀(i j:Int) (t u:Tok) (s:vr) (Q:Cr) (E:Cr),Q (.int (g i j) s.toks) {s with toks:=s.toks + 1}->vu (WA X.prog X.w) X.A (f (.int i t) (.int j u)) Q E s):
  OpR X f (rI0 λi j=> .int (g i j)):=by
 intro pins s σ H x y v u Q I Z Y h;obtain⟨i,j,rfl,rfl,q⟩:=h;obtain⟨t,rfl⟩:=Z;obtain⟨t',rfl⟩:=Y;exact rule i j t t' s _ _ ⟨.int (g i j),H,I.tok _,⟨_,rfl⟩,q⟩
theorem opB0 {f:xo->xo->Sem xo} {g:Int->Int->X1}
  (rule:∀(i j:Int) (t u:Tok) (s:vr) (Q:Cr) (E:Cr),Q (.bool (g i j)) s->vu (WA X.prog X.w) X.A (f (.int i t) (.int j u)) Q E s):
  OpR X f (rI0 λi j=> .bl (g i j)):=by
 intro pins s σ H x y v u Q I Z Y h;obtain⟨i,j,rfl,rfl,q⟩:=h;obtain⟨t,rfl⟩:=Z;obtain⟨t',rfl⟩:=Y;exact rule i j t t' s _ _ ⟨.bl (g i j),H,I,rfl,q⟩
def CDiv (i j:Int):Prop:=0 < j/\j < 1073741824
def Wt (i j:Int):Prop:=j≠0/\j.natAbs < 1073741824
def CPow (i j:Int):Prop:=0<=j/\j<=1000000/\i.natAbs < 2 ^ 64
def CMul (i j:Int):Prop:=(-(2 ^ 64) < i/\i < 2 ^ 64)∨(-(2 ^ 64) < j/\j < 2 ^ 64)
theorem CMul.ok {i j:Int} (h:CMul i j):IntMulOk i j:=by
 rcases h with ⟨h1,h2⟩ | ⟨h1,h2⟩
 ·exact .of_left (intBits_le_64 h1 h2)
 ·exact .of_right (intBits_le_64 h1 h2)
theorem Gj (k:Nat):(0:Int)<=2 ^ k:=by
 rw[two_pow_cast];exact Zc _
theorem h9:OpR X (binaryOp .Add) (rI0 λi j=> .int (i + j)):=opI0 λ_ _ _ _ _ _ _ q=>add_int q
theorem lh:OpR X (binaryOp .Sub) (rI0 λi j=> .int (i - j)):=opI0 λ_ _ _ _ _ _ _ q=>sub_int q
theorem se:OpR X (binaryOp .Mult) (rI CMul λi j=> .int (i * j)):=opI λ_ _ _ _ _ _ _ hc q=>mul_int q hc.ok
theorem Ek:OpR X (binaryOp .FloorDiv) (rI CDiv λi j=> .int (i / j)):=opI λi j _ _ _ _ _ hc q=>by
 have h1:(0:Int) < j:=hc.1;have h2:j < 1073741824:=hc.2;exact floordiv_int @A (by rw[aa2 i @A];exact q) (.inl (ak4 @A))
theorem qx:OpR X (binaryOp .Mod) (rI (λ_ j=>0 < j) λi j=> .int (i % j)):=opI λi j _ _ _ _ _ hc q=>by
 have h1:(0:Int) < j:=hc;exact mod_int' @A (by rw[ak6 i @A];exact q)
theorem gZ:OpR X (binaryOp .LShift) (rI CPow λi j=> .int (i * 2 ^ j.toNat)):=opI λ_ _ _ _ _ _ _ hc q=>lshift_int_small hc.1 hc.2.1 hc.2.2 q
theorem oM:OpR X (binaryOp .RShift) (rI (λ_ j=>0<=j) λi j=> .int (i / 2 ^ j.toNat)):=opI λi j _ _ _ _ _ hc q=>
 rshift_int hc (by rw[aa2 i (Gj _)];exact q)
theorem ko:OpR X (binaryOp .BitAnd) (rI0 λi j=> .int (X6 i j)):=opI0 λ_ _ _ _ _ _ _ q=>and_int q
theorem jB:OpR X (binaryOp .BitXor) (rI0 λi j=> .int (Xb i j)):=opI0 λ_ _ _ _ _ _ _ q=>xor_int q
theorem unI {f:xo->Sem xo} {g:Int->Int}
  (rule:∀(i:Int) (t:Tok) (s:vr) (Q:Cr) (E:Cr),Q (.int (g i) s.toks) {s with toks:=s.toks + 1}->vu (WA X.prog X.w) X.A (f (.int i t)) Q E s):
  UnR X f (rU λi=> .int (g i)):=by
 intro pins s σ H x v Q I Y h;obtain⟨i,rfl,q⟩:=h;obtain⟨t,rfl⟩:=Y;exact rule i t s _ _ ⟨.int (g i),H,I.tok _,⟨_,rfl⟩,q⟩
theorem OV:UnR X (unaryOp .USub) (rU λi=> .int (-i)):=unI λ_ _ _ _ _ q=>neg_int q
end
noncomputable def scal:V->V->X1
 | .non,.non=>true | .non,.int _=>true | .int _,.non=>true | .non,.bl _=>true | .bl _,.non=>true | .non,.str _=>true | .str _,.non=>true
 | .int _,.int _=>true | .bl _,.bl _=>true | .str _,.str _=>true | .byt _,.byt _=>true
 | .int _,.str _=>true | .str _,.int _=>true | .bl _,.str _=>true | .str _,.bl _=>true
 | _,_=>false
noncomputable def rEq:R2:=λx y H Q=>scal x y=true/\Q (.bl (decide (x=y))) H
noncomputable def rNe:R2:=λx y H Q=>scal x y=true/\Q (.bl (!decide (x=y))) H
theorem LD {i j:Int}:decide (V.int i=V.int j)=(i == j):=by
 rw[Yv];simp
theorem PP {i j:X1}:decide (V.bl i=V.bl j)=(i == j):=by
 rw[Yv];simp
theorem LC {i j:Wz}:decide (V.str i=V.str j)=(i == j):=by
 rw[Yv];simp
theorem LF {i j:an0 UInt8}:decide (V.byt i=V.byt j)=(i.toList == j.toList):=by
 rw[Yv];cases i;cases j;simp
section
variable {X:Cx} {a b c:XS} {ta tb tc:TE} {pos:Pos}
theorem cQ {k:X1} (I:Inv X pins σ H s) (q:Q (.bl k) H) (e:k=sK):EP X pins σ Q (.bool sK) s:=by
 subst e;exact⟨.bl k,H,I,rfl,q⟩
theorem kU:OpR X (compareOp .Eq) rEq:=by
 intro pins s σ H x y v u Q I Z Y h;obtain⟨hs,q⟩:=h;cases x with
 | non=>
   cases Z;cases y with
   | non=>cases Y;exact PySem.EqNone.eq_none_none (cQ I q @E)
   | bl j=>cases Y;exact PySem.EqNone.eq_none_bool (cQ I q @E)
   | int j=>obtain⟨t',rfl⟩:=Y;exact PySem.EqNone.eq_none_int (cQ I q @E)
   | str j=>obtain⟨t',rfl⟩:=Y;exact PySem.EqNone.eq_none_str (cQ I q @E)
   | _=>exact hQ (show false=true from hs) hF
 | bl i=>
   cases Z;cases y with
   | non=>cases Y;exact PySem.EqNone.eq_bool_none (cQ I q @E)
   | bl j=>cases Y;exact eq_bool (cQ I q PP)
   | str j=>obtain⟨t',rfl⟩:=Y;exact PySem.EqMixed.eq_bool_str (cQ I q @E)
   | _=>exact hQ (show false=true from hs) hF
 | int i=>
   obtain⟨t,rfl⟩:=Z;cases y with
   | non=>cases Y;exact PySem.EqNone.eq_int_none (cQ I q @E)
   | int j=>obtain⟨t',rfl⟩:=Y;exact eq_int (cQ I q LD)
   | str j=>obtain⟨t',rfl⟩:=Y;exact PySem.EqMixed.eq_int_str (cQ I q @E)
   | _=>exact hQ (show false=true from hs) hF
 | str i=>
   obtain⟨t,rfl⟩:=Z;cases y with
   | non=>cases Y;exact PySem.EqNone.eq_str_none (cQ I q @E)
   | bl j=>cases Y;exact PySem.EqMixed.eq_str_bool (cQ I q @E)
   | int j=>obtain⟨t',rfl⟩:=Y;exact PySem.EqMixed.eq_str_int (cQ I q @E)
   | str j=>obtain⟨t',rfl⟩:=Y;exact eq_str (cQ I q LC)
   | _=>exact hQ (show false=true from hs) hF
 | byt i=>
   obtain⟨t,rfl⟩:=Z;cases y with
   | byt j=>obtain⟨t',rfl⟩:=Y;exact PySem.W.eq_bytes (cQ I q LF)
   | _=>exact hQ (show false=true from hs) hF
 | _=>cases y<;>exact hQ (show false=true from hs) hF
theorem wL:OpR X (compareOp .NotEq) rNe:=by
 intro pins s σ H x y v u Q I Z Y h;obtain⟨hs,q⟩:=h;cases x with
 | non=>
   cases Z;cases y with
   | non=>cases Y;exact PySem.EqNone.ne_none_none (cQ I q @E)
   | bl j=>cases Y;exact PySem.EqNone.ne_none_bool (cQ I q @E)
   | int j=>obtain⟨t',rfl⟩:=Y;exact PySem.EqNone.ne_none_int (cQ I q @E)
   | str j=>obtain⟨t',rfl⟩:=Y;exact PySem.EqNone.ne_none_str (cQ I q @E)
   | _=>exact hQ (show false=true from hs) hF
 | bl i=>
   cases Z;cases y with
   | non=>cases Y;exact PySem.EqNone.ne_bool_none (cQ I q @E)
   | bl j=>cases Y;exact ne_bool (cQ I q (Wy not PP))
   | str j=>obtain⟨t',rfl⟩:=Y;exact PySem.EqMixed.ne_bool_str (cQ I q @E)
   | _=>exact hQ (show false=true from hs) hF
 | int i=>
   obtain⟨t,rfl⟩:=Z;cases y with
   | non=>cases Y;exact PySem.EqNone.ne_int_none (cQ I q @E)
   | int j=>obtain⟨t',rfl⟩:=Y;exact ne_int (cQ I q (Wy not LD))
   | str j=>obtain⟨t',rfl⟩:=Y;exact PySem.EqMixed.ne_int_str (cQ I q @E)
   | _=>exact hQ (show false=true from hs) hF
 | str i=>
   obtain⟨t,rfl⟩:=Z;cases y with
   | non=>cases Y;exact PySem.EqNone.ne_str_none (cQ I q @E)
   | bl j=>cases Y;exact PySem.EqMixed.ne_str_bool (cQ I q @E)
   | int j=>obtain⟨t',rfl⟩:=Y;exact PySem.EqMixed.ne_str_int (cQ I q @E)
   | str j=>obtain⟨t',rfl⟩:=Y;exact ne_str (cQ I q (Wy not LC))
   | _=>exact hQ (show false=true from hs) hF
 | byt i=>
   obtain⟨t,rfl⟩:=Z;cases y with
   | byt j=>obtain⟨t',rfl⟩:=Y;exact PySem.W.ne_bytes (cQ I q (Wy not LF))
   | _=>exact hQ (show false=true from hs) hF
 | _=>cases y<;>exact hQ (show false=true from hs) hF
theorem Kc:OpR X (compareOp .Lt) (rI0 λi j=> .bl (decide (i < j))):=opB0 λ_ _ _ _ _ _ _ q=>lt_int q
theorem Ue:OpR X (compareOp .LtE) (rI0 λi j=> .bl (decide (i<=j))):=opB0 λ_ _ _ _ _ _ _ q=>le_int q
theorem rz:OpR X (compareOp .Gt) (rI0 λi j=> .bl (decide (j < i))):=opB0 λ_ _ _ _ _ _ _ q=>gt_int q
theorem Rk:OpR X (compareOp .GtE) (rI0 λi j=> .bl (decide (j<=i))):=opB0 λ_ _ _ _ _ _ _ q=>ge_int q
theorem BQ:OpR X (compareOp .In) (λx y H Q=>∃i j,x= .str i/\y= .str j/\Q (.bl (!(ZT j i 0 j.length 1).isEmpty)) H):=by
 intro pins s σ H x y v u Q I Z Y h;obtain⟨i,j,rfl,rfl,q⟩:=h;obtain⟨t,rfl⟩:=Z;obtain⟨t',rfl⟩:=Y;exact in_str (cQ I q rfl)
theorem Ri:OpR X (compareOp .IsNot) (λx y H Q=>y= .non/\Q (.bl (!decide (x= .non))) H):=by
 intro pins s σ H x y v u Q I Y Z h;obtain⟨rfl,q⟩:=h;cases Z;refine isnot_none_gen (cQ I q ?_)
 cases x<;>first
  | (cases Y;rfl)
  | (obtain⟨t,rfl⟩:=Y;rfl)
theorem aW (b:XS) {Y:CmpOp} (h:Y≠.In:=by decide) (h2:Y≠.NotIn:=by decide):behindInMarks Y b=false:=by
 have α:(Y == CmpOp.In)=false:=by cases Y<;>first | rfl | exact hQ rfl h
 have Z:(Y == CmpOp.NotIn)=false:=by cases Y<;>first | rfl | exact hQ rfl h2
 cases b<;>simp[behindInMarks,α,Z]
theorem nh {Y:CmpOp} {r:R2} (ho:OpR X (compareOp Y) r) (ha:PE X a ta) (hb:PE X b tb) (hm:behindInMarks Y b=false):PE X (.Compare a [Y] [b] pos) (tOp r ta tb):=by
 intro pins s σ H Q I h;exact wpAny_Compare1 (binT ha hb I h λv u Z x y H2 γ β α q=>ho pins Z σ H2 x y v u Q γ β α q) hm
noncomputable abbrev VE (t:TE):TT:=fun σ H Q=>t σ H λx H'=>∃k,x= .bl k/\Q k H'
theorem aM {Y:CmpOp} {r:R2} (ho:OpR X (compareOp Y) r) (ha:PE X a ta) (hb:PE X b tb) (hm:behindInMarks Y b=false):PT X (.Compare a [Y] [b] pos) (VE (tOp r ta tb)):=by
 intro pins s σ H Q I h
 refine as4 (thn (ha pins s σ H _ I h) λv α ⟨x,H1,ι,ε,η⟩=>thn (hb pins α σ H1 _ ι η) λu Z ⟨y,H2,θ,δ,ζ⟩=>
  thn (ho pins Z σ H2 x y v u _ θ ε δ ζ) λc ξ ⟨z,ν,υ,β,k,e,γ⟩=>?_) hm
 subst e;cases β;exact YD ⟨ν,υ,γ⟩
theorem FV:(la:Nat) < 2 ^ 63:=by rw[ra];decide
theorem uc:OpR X (binaryOp .Add) (λx y H Q=>∃i j,x= .str i/\y= .str j/\i.length + j.length<=la/\Q (.str (i++j)) H):=by
 intro pins s σ H x y v u Q I Z Y h;obtain⟨i,j,rfl,rfl,hz,q⟩:=h;obtain⟨t,rfl⟩:=Z;obtain⟨t',rfl⟩:=Y;exact add_str (λt' tk=>⟨.str (i++j),H,I.tok _,⟨_,rfl⟩,q⟩) hz
theorem vZ {x:V} (r:Vals [x] us):∃u,us=[u]/\RelV x u:=by
 cases r with
 | cons Z Y=>cases Y;exact⟨_,rfl,Z⟩
theorem MN {x y:V} (r:Vals [x,y] us):∃u Y,us=[u,Y]/\RelV x u/\RelV y Y:=by
 cases r with
 | cons β α=>
   cases α with
   | cons Z π=>cases π;exact⟨_,_,rfl,β,Z⟩
theorem pA:oq X (.type "str") (λxs H Q=>∃i,xs=[.int i]/\i.natAbs.log2 < 1920/\Q (.str (toString i)) H):=by
 intro pins s σ H xs us Q I r h;obtain⟨i,rfl,hz,q⟩:=h;obtain⟨u,rfl,t,rfl⟩:=vZ r;exact PySem.P.str_of_int hz ⟨.str _,H,I.tok _,⟨_,rfl⟩,q⟩
def LenV (K:b') (x:V) (H:Hp) (n:Nat):Prop:=
 match x with
 | .str y=>y.length<=la/\n=y.length
 | .byt y=>y.size<=la/\n=y.size
 | .ref p=>(∃xs,SqL K H p xs/\n=xs.length)∨∃xs,SqT K H p xs/\n=xs.length
 | _=>False
theorem OC:oq X (.builtin "len") (λxs H Q=>∃x n,xs=[x]/\LenV X.K x H n/\Q (.int n) H):=by
 intro pins s σ H xs us Q I r h;obtain⟨x,n,rfl,e,q⟩:=h;obtain⟨u,rfl,α⟩:=vZ r;have hl:=FV;have hs:la=16777216:=ra;cases x with
 | str y=>
   obtain⟨t,rfl⟩:=α;obtain⟨γ,Z⟩:y.length<=la/\n=y.length:=e;subst Z;exact len_str @A ⟨.int _,H,I.tok _,⟨_,rfl⟩,q⟩
 | byt y=>
   obtain⟨t,rfl⟩:=α;obtain⟨γ,Z⟩:y.size<=la/\n=y.size:=e;subst Z;exact PySem.W.len_bytes @A ⟨.int _,H,I.tok _,⟨_,rfl⟩,q⟩
 | ref p=>
   cases α;have Z:(∃xs,SqL X.K H p xs/\n=xs.length)∨∃xs,SqT X.K H p xs/\n=xs.length:=e;rcases Z with ⟨xs,β,Z⟩ | ⟨xs,β,Z⟩
   ·subst Z;obtain⟨its,r',pl,hz⟩:=I.list β;have Y:=r'.length;exact Calls.call_len_list pl.isList (by simp only[WU];omega) ⟨.int xs.length,H,I.tok _,⟨_,by simp only[WU];rw[Y]⟩,q⟩
   ·subst Z;obtain⟨its,r',pl,hz⟩:=I.tuple β;have Y:=r'.length;exact len_tuple pl (by simp only[WU];omega) ⟨.int xs.length,H,I.tok _,⟨_,by simp only[WU];rw[Y]⟩,q⟩
 | _=>exact(show False from e).elim
theorem E6:oq X (.builtin "divmod") (λxs H Q=>∃i j,xs=[.int i,.int j]/\CDiv i j/\∀p,H p=gn->Q (.ref p) (upd H p (.tup [.int (i / j),.int (i % j)]))):=by
 intro pins s σ H xs us Q I r h;obtain⟨i,j,rfl,⟨h1,h2⟩,q⟩:=h;obtain⟨u,Y,rfl,⟨t,rfl⟩,⟨t',rfl⟩⟩:=MN r;refine divmod_int @A ?_ (.inl (ak4 @A));rw[aa2 i @A,ak6 i @A];have hn:H s.heap.objs.size=none:=I.hok.fresh (p' _);refine⟨.ref s.heap.objs.size,_,?_,rfl,q _ hn⟩;refine I.laid (λb o e=>gz _ e) (p' _) ⟨by simp only[Xa,ag2];rw[ra];decide,[.int (i / j) s.toks,.int (i % j) (s.toks + 1)],.cons ⟨_,rfl⟩ (.cons ⟨_,rfl⟩ .nil),?_⟩;exact⟨_,v' s.heap rfl,rfl,0,rfl⟩
end
structure ObjM (h:Xj) (x dx C:eO) (mA:G'):Prop where
 obj:h.get? x=a' (Yr C dx)
 ns:h.Ns1 dx mA
 ne:dx≠x
theorem Ks {h:Xj} (n:h.Ns1 dx mA):∃od,h.get? dx=a' od/\∀name,ac3 name od=a' (mA name):=by
 obtain⟨o,es,ep,ho,hd,hk,_,hm⟩:=n;refine⟨o,ho,λname=>?_⟩;have e:=hm name;unfold nsFind findBy at e;rw[<-Array.find?_toList] at e;unfold ac3;rw[hd];dsimp only;split
 ·rename_i y q;rw[q] at e;exact Wy a' e
 ·rename_i q;rw[q] at e
  have a:es.toList.any (·.refKey)=false:=by
   rw[List.any_eq_false];intro y Z;obtain⟨z,t,Y⟩:=hk y (Array.mem_toList_iff.mp Z);simp[DictEntry.refKey,Y]
  have α:¬es.toList.any (·.refKey)=true:=by rw[a];exact hF
  rw[oT α];exact Wy a' e
theorem ObjM.look {h:Xj} {x:eO} (I:ObjM h x dx C mA):∃od,PySem.W.InstAt h x (Yr C dx) C (a' od)/\∀name,ac3 name od=a' (mA name):=
 let ⟨od,ho,hl⟩:=Ks I.ns
 ⟨od,⟨I.obj,rfl,rfl,ho⟩,hl⟩
section
variable {prog:WJ} {w:X5} {A:X2} {E:Cr} {s:vr} {K:b'} {x dx C f:eO} {mA:G'} {name:Wz} {v:xo}
theorem ay {Q:Cr} (X:K.In s.heap) (I:ObjM s.heap x dx C mA) (γ:aa5 K C name=true) (β:af1 K C=true)
  (ha:WW K (.ref C) name=a' gn) (α:mA name=a' v) (Z:af5 v=true) (h:Q v {s with toks:=s.toks + 1}):
  vu (WA prog w) A (getAttr (.ref x) name sK) Q E s:=by
 obtain⟨od,J,hl⟩:=I.look;exact PySem.W.get_value X J (ac9 γ).1 (PySem.W.findObj_own β ha rfl (by rw[hl,α])) Z h
theorem Oh {pl:Sem X1} {Q:xo×ef xo->vr->Prop} (X:K.In s.heap) (I:ObjM s.heap x dx C mA) (Y:aa5 K C name=true)
  (hf:WW K (.ref C) name=a' (a' (.ref f))) (ht:ae8 K (.ref f)=true) (Z:mA name=gn) (h:Q (.ref f,[.ref x]) s):
  vu (WA prog w) A (getMethod (.ref x) name pl) Q E s:=by
 obtain⟨od,J,hl⟩:=I.look;exact PySem.W.method_fn X J (ac9 Y).1 (ac9 Y).2 hf (ad4.mp ht) (by show(ac3 name od).map (·.isSome)=a' false;rw[hl,Z];rfl) h
theorem QP {Q:Ls} (X:K.In s.heap) (I:ObjM s.heap x dx C mA)
  (hs:WW K (.ref C) "__setattr__"=a' (a' (.builtin "object.__setattr__"))) (ζ:an9 K C=true) (ht:ag9 K C name=a' gn) (η:af1 K C=true)
  (hw:al9 mA N) (hsz:N.length<=la)
  (h:∀h',ObjM h' x dx C (λy=>if y=name then a' v else mA y)->ZO dx s.heap h'->Q () {s with heap:=h',toks:=s.toks + 2}):
  vu (WA prog w) A (setAttr (.ref x) name v) Q E s:=by
 obtain⟨od,J,hl⟩:=I.look;refine PySem.W.set_plain X J hs (PySem.W.osa_open (s:={s with toks:=s.toks + 1}) (r:=gn) X J ζ ht λb=>?_);obtain⟨ξ,θ,γ⟩:=PySem.W.any_some η;have ε:s.heap.get? x=a' ⟨.ref C,a' dx,.plain,#[]⟩:=I.obj;refine gs (W4 (gs (gs (wpAny_loadPart ε (gs (PySem.W.Looks.here (s:={s with toks:=s.toks + 1}) (PySem.W.looks_clsIn X θ) ?_))))));rw[γ];refine W4 (a:=a' dx) (gs (W4 (gs ?_)));refine wpAny_nsSet1 (s:={s with toks:=s.toks + 1}) I.ns λh' Z Y=>?_;obtain⟨ν,ρ,ι,α,β,δ⟩:=Z.count (PySem.Within.cons name v hw);refine gs (wpAny_lookBehind α (by rw[β];exact pastItsLine_dict (Yi δ (by rw[Xa];omega))) ?_);exact W4 (h _ ⟨(Y.2 _ (WK I.ne)).trans I.obj,Z,I.ne⟩ Y)
theorem N0 {R:S'} {vs:F'} {Y:U'} (X:K.In s.heap) (hm:aq1 K C=true)
  (hi:WW K (.ref C) "__init__"=a' (a' (.ref f))) (hf:ar3 K (.ref f)=a' (.type "function"))
  (h:codeAny (WA prog w) (A.under (.builtin "type.__call__" ⟨.ref C::vs,Y⟩)) (.call (.ref f) ⟨.ref (s.heap.objs.size + 1)::vs,Y⟩) (PySem.W.InitBack (s.heap.objs.size + 1) R)
   {s with heap:=(s.heap.push Yc).push (Yr C s.heap.objs.size)}):
  codeAny (WA prog w) A (.call (.ref C) ⟨vs,Y⟩) R s:=by
 obtain⟨Z,g,d,t,os⟩:=s;exact PySem.W.make_core (PySem.W.makes_of X hm) (PySem.W.looks_findIn X hi) (λself=>PySem.W.bind_fn X self hf) (.inl rfl) h
end
noncomputable def putF (f:Wz) (v:V):ef (Wz×V)->ef (Wz×V)
 | []=>[(f,v)]
 | (g,x)::r=>if g=f then (g,v)::r else (g,x)::putF f v r
theorem xx (f g:Wz) (v:V):∀fs:ef (Wz×V),(putF f v fs).lookup g=if g=f then a' v else fs.lookup g
 | []=>by
   show Zy g [(f,v)]=_;by_cases h:g=f
   ·have hb:(g == f)=true:=ad4.mpr h;simp only[Zy,hb,zt h]
   ·have hb:(g == f)=false:=WY.mpr h;simp only[Zy,hb,oT h]
 | (k,x)::r=>by
   have ih:=xx f g v r;rw[show putF f v ((k,x)::r)=(if k=f then (k,v)::r else (k,x)::putF f v r) from rfl];by_cases hk:k=f
   ·rw[zt hk];by_cases h:g=k
    ·have hb:(g == k)=true:=ad4.mpr h;simp only[Zy,hb,zt (h.trans hk)]
    ·have hb:(g == k)=false:=WY.mpr h;simp only[Zy,hb,oT (λe:g=f=>h (e.trans hk.symm))]
   ·rw[oT hk];by_cases h:g=k
    ·have hb:(g == k)=true:=ad4.mpr h;simp only[Zy,hb,oT (λe:g=f=>hk (h.symm.trans e))]
    ·have hb:(g == k)=false:=WY.mpr h;simp only[Zy,hb];exact ih
theorem xM (f:Wz) (v:V):∀fs:ef (Wz×V),f∈(putF f v fs).map (·.1)/\∀g,g∈fs.map (·.1)->g∈(putF f v fs).map (·.1)
 | []=>⟨by simp[putF],λg h=>by simp at h⟩
 | (k,x)::r=>by
   obtain⟨i1,i2⟩:=xM f v r;rw[show putF f v ((k,x)::r)=(if k=f then (k,v)::r else (k,x)::putF f v r) from rfl];by_cases hk:k=f
   ·rw[zt hk];subst hk;exact⟨@E,λg h=>by simpa using h⟩
   ·rw[oT hk];refine⟨?_,λg h=>?_⟩
    ·rw[Xk];exact W1 _ i1
    ·rw[Xk] at h ⊢;rcases WH.mp h with e | e
     ·exact WH.mpr (.inl e)
     ·exact W1 _ (i2 g e)
theorem xB (f:Wz) (v:V):∀fs:ef (Wz×V),(putF f v fs).length<=fs.length + 1
 | []=>by simp[putF]
 | (k,x)::r=>by
   have ih:=xB f v r;rw[show putF f v ((k,x)::r)=(if k=f then (k,v)::r else (k,x)::putF f v r) from rfl];by_cases hk:k=f
   ·rw[zt hk,Xa,Xa];omega
   ·rw[oT hk,Xa,Xa];omega
theorem RelO.some_of {o:V'} (r:RelO (a' v) o):∃u,o=a' u/\RelV v u:=by
 cases o with
 | none=>exact(show False from r).elim
 | some u=>exact⟨u,rfl,r⟩
theorem RelO.none_of {o:V'} (r:RelO gn o):o=none:=by
 cases o with
 | none=>rfl
 | some u=>exact(show False from r).elim
theorem K1 (r:RelV v u):af5 u=true:=by
 cases v with
 | non=>cases(show u=XF from r);rfl
 | bl b=>cases(show u=ao8 b from r);rfl
 | int i=>obtain⟨t,e⟩:=(show ∃t,u=al1 i t from r);cases e;rfl
 | str x=>obtain⟨t,e⟩:=(show ∃t,u=ag5 x t from r);cases e;rfl
 | byt b=>obtain⟨t,e⟩:=(show ∃t,u=av8 b t from r);cases e;rfl
 | flt b=>obtain⟨t,e⟩:=(show ∃t,u=av7 b t from r);cases e;rfl
 | ref a=>cases(show u=WD a from r);rfl
 | ty n=>cases(show u=ZR n from r);rfl
section
variable {P:WJ} {w:X5} {H H':Hp} {h h':Xj} {a C dx:eO} {fs fs':ef (Wz×V)}
theorem EN (hok:HOk P w H h) (e:H a=a' (.ins C dx fs)):∃mA,ObjM h a dx C mA/\(∀f,RelO (fs.lookup f) (mA f))/\al9 mA (fs.map (·.1))/\fs.length<=1000/\H dx=a' (.own a):=by
 obtain⟨d,z,ne,ob,mA,n,r,q⟩:=(show iy P w H h a (.ins C dx fs) from hok a _ e);exact⟨mA,⟨ob,n,ne⟩,r,q,z,d⟩
end
structure Cls (K:b') (C:eO):Prop where
 pg:aa5 K C ZU=true
 hd:af1 K C=true
 po:an9 K C=true
 sa:WW K (.ref C) "__setattr__"=a' (a' (.builtin "object.__setattr__"))
theorem Cls.get {K:b'} (c:Cls K C) (f:Wz):aa5 K C f=true:=c.pg
def cJ (K:b') (C:eO) (f:Wz):Prop:=WW K (.ref C) f=a' gn
theorem cJ.taker {K:b'} {f:Wz} (n:cJ K C f):ag9 K C f=a' none:=by
 unfold ag9;rw[show WW K (.ref C) f=a' gn from n];rfl
structure Con (K:b') (C:eO) (f:Wz) (v:V) (u:xo):Prop where
 at_:WW K (.ref C) f=a' (a' u)
 rel:RelV v u
 get:YN K u "__get__"=a' gn
 cp:PySem.W.copiedNames.contains f=false
structure Meth (K:b') (C:eO) (m:Wz) (f:eO):Prop where
 at_:WW K (.ref C) m=a' (a' (.ref f))
 fn:ae8 K (.ref f)=true
 kp:XM K (.ref f)=true
section
variable {X:Cx} {pins:E'} {σ:St} {H:Hp} {s:vr} {a C dx:eO} {fs:ef (Wz×V)} {f:Wz} {v:V} {A:X2} {E:Cr}
theorem Hw {b:X1} {Q:Cr} (I:Inv X pins σ H s) (e:H a=a' (.ins C dx fs)) (c:Cls X.K C) (n:cJ X.K C f) (l:fs.lookup f=a' v)
  (h:∀u s',Inv X pins σ H s'->RelV v u->Q u s'):vu (WA X.prog X.w) A (getAttr (.ref a) f b) Q E s:=by
 obtain⟨mA,O,r,_,_,_⟩:=EN I.hok e;obtain⟨u,ρ,Y⟩:=RelO.some_of (v:=v) (o:=mA f) (by rw[<-l];exact r f);exact ay I.kIn O (c.get f) c.hd n ρ (K1 Y) (h u _ (I.tok _) Y)
theorem uE {m:Wz} {g:eO} {pl:Sem X1} {Q:xo×ef xo->vr->Prop} (I:Inv X pins σ H s) (e:H a=a' (.ins C dx fs)) (c:Cls X.K C) (k:Meth X.K C m g) (l:fs.lookup m=gn)
  (h:Q (.ref g,[.ref a]) s):vu (WA X.prog X.w) A (getMethod (.ref a) m pl) Q E s:=by
 obtain⟨mA,O,r,_,_,_⟩:=EN I.hok e;have hn:mA m=none:=RelO.none_of (by rw[<-l];exact r m);exact Oh I.kIn O (c.get m) k.at_ k.fn hn h
theorem GG {y:V} {Q:Ls} (I:Inv X pins σ H s) (e:H a=a' (.ins C dx fs)) (c:Cls X.K C) (n:cJ X.K C f) (hl:fs.length < 1000) (Z:RelV y u)
  (h:∀s',Inv X pins σ (upd H a (.ins C dx (putF f y fs))) s'->Q () s'):vu (WA X.prog X.w) A (setAttr (.ref a) f u) Q E s:=by
 obtain⟨mA,O,r,Y,_,ho⟩:=EN I.hok e;have hz:(fs.map (·.1)).length<=sizeLine:=by rw[bx,ra];omega
 refine QP I.kIn O c.sa c.po n.taker c.hd Y hz λh' O' ν=>h _ ?_;have hd:∃o,h'.get? dx=a' o:=let ⟨o,_,_,β,_⟩:=O'.ns;⟨o,β⟩
 refine I.write (x:=a) (e:=dx) (by rw[e];exact ab7) (.inr ho) (λb q hb z=>(ν.2 b hb).trans z) hd ?_;refine⟨by rw[aG O.ne];exact ho,?_,O.ne,O'.obj,_,O'.ns,λg=>?_,λg α=>?_⟩
 ·have:=xB f y fs;omega
 ·show RelO ((putF f y fs).lookup g) (if g=f then a' u else mA g);rw[xx];by_cases q:g=f
  ·rw[zt q,zt q];exact Z
  ·rw[oT q,oT q];exact r g
 ·by_cases q:g=f
  ·rw[q];exact(xM f y fs).1
  ·refine(xM f y fs).2 g (Y g λz=>α ?_);show(if g=f then a' u else mA g)=gn;rw[oT q];exact z
theorem Inv.made (I:Inv X pins σ H s):Inv X pins σ (upd (upd H s.heap.objs.size (.own (s.heap.objs.size + 1))) (s.heap.objs.size + 1) (.ins C s.heap.objs.size []))
  {s with heap:=(s.heap.push Yc).push (Yr C s.heap.objs.size)}:=by
 have Y:(s.heap.push Yc).get? s.heap.objs.size=a' PySem.W.emptyDict:=v' s.heap rfl
 have β:((s.heap.push Yc).push (Yr C s.heap.objs.size)).get? (s.heap.objs.size + 1)=a' (Yr C s.heap.objs.size):=by
  have:=v' (s.heap.push Yc) (o:=Yr C s.heap.objs.size) rfl;rwa [Zk] at this
 have α:(s.heap.push Yc).Ns s.heap.objs.size (λ_=>gn):=⟨Yc,#[],_,Y,rfl,(λe he=>hQ he @E),λ_=>rfl⟩;have I1:=I.laid (a:=s.heap.objs.size) (o:= .own (s.heap.objs.size + 1)) (h':=s.heap.push Yc) (t':=s.toks) (λb u q=>gz _ q) (p' _) ⟨_,Y⟩;refine I1.laid (a:=s.heap.objs.size + 1) (o:= .ins C s.heap.objs.size []) (t':=s.toks) (λb u q=>gz _ q) (ak9 (Zk _ _)) ?_;have ne:s.heap.objs.size≠s.heap.objs.size + 1:=W' (Y5 _);refine⟨by rw[aG ne,ax],XZ _,ne,β,λ_=>gn,(Heap.Ns1.of_empty α).at λo q=>gz _ q,λ_=>ab7,λy Z=>hQ rfl Z⟩
theorem R7 {w:X5} {f:Wz} {s:vr} {Q:Cr} (hb:attributeBase e f env (eval e env)=eval e env)
  (h:vu (WA prog w) A (eval e env) (λo Y=>vu (WA prog w) A (getAttr o f true) Q E Y) E s):vu (WA prog w) A (eval (.Attribute e f pos) env) Q E s:=
 Attribute_any_ h (by rw[arm_eval_Attribute,hb])
end
noncomputable def tFld (K:b') (ta:TE) (f:Wz):TE:=fun σ H Q=>ta σ H λx H1=>∃a C dx fs v,x= .ref a/\H1 a=a' (.ins C dx fs)/\Cls K C/\cJ K C f/\fs.lookup f=a' v/\Q v H1
noncomputable def sFld (K:b') (ta tv:TE) (f:Wz):TS:=λD σ H=>tv σ H λy H1=>ta σ H1 λx H2=>∃a C dx fs,x= .ref a/\H2 a=a' (.ins C dx fs)/\Cls K C/\cJ K C f/\fs.length < 1000/\
 D.nx σ (upd H2 a (.ins C dx (putF f y fs)))
section
variable {X:Cx} {o e value:XS} {f:Wz} {pos pos' tpos:Pos} {ta tv:TE}
theorem Ua (he:PE X e ta) (hb:attributeBase e f X.env (eval e X.env)=eval e X.env):PE X (.Attribute e f pos) (tFld X.K ta f):=by
 intro pins s σ H Q I h;refine R7 hb (thn (he pins s σ H _ I h) λu ε ⟨x,H1,β,Y,a,C,dx,fs,v,ex,ea,c,n,l,q⟩=>?_);subst ex;obtain rfl:u=WD a:=Y;exact Hw β ea c n l fun γ δ α Z=>⟨v,H1,α,Z,q⟩
theorem T1 (ha:PE X o ta) (γ:PE X value tv) (hs:swapsWith value (a' (.Attribute o f pos')) pos.line X.env=pure false):PS X (.Assign [.Attribute o f pos'] value pos) (sFld X.K ta tv f):=by
 intro pins s σ H D I h;refine plainObj_wpAny_Assign_Attribute (thn (γ pins s σ H _ I h) λu Y ⟨y,H1,ζ,Z,q⟩=>thn (ha pins Y σ H1 _ ζ q) fun δ θ ⟨x,H2,ε,α,a,C,dx,fs,ex,ea,c,n,l,β⟩=>?_) hs;subst ex;obtain rfl:δ=WD a:=α;exact GG ε ea c n l Z fun η υ=>⟨σ,_,υ,β⟩
end
section
variable {X:Cx} {pins:E'} {σ:St} {H:Hp} {s:vr} {A:X2} {E:Cr} {Q:Cr} {c:xo} {b:X1}
inductive TyOf (K:b') (H:Hp):V->xo->Prop where
 | non:TyOf K H .non (.type "NoneType")
 | bl (x:X1):TyOf K H (.bl x) (.type "bool")
 | int (i:Int):TyOf K H (.int i) (.type "int")
 | str (x:Wz):TyOf K H (.str x) (.type "str")
 | flt (x:UInt64):TyOf K H (.flt x) (.type "float")
 | lst {a:eO} {xs:ef V} (e:H a=a' (.lst xs)):TyOf K H (.ref a) (.type "list")
 | frz {a:eO} {o:Obj} {xs:ef V} (e:H a=a' (.frz o (.lst xs))):TyOf K H (.ref a) (.type "list")
 | tup {a:eO} {xs:ef V} (e:H a=a' (.tup xs)):TyOf K H (.ref a) (.type "tuple")
 | dK {a:eO} {kvs:ef (Key×V)} (e:H a=a' (.dK kvs)):TyOf K H (.ref a) (.type "dict")
 | dT {a:eO} {kvs:ef (ef Key×V)} (e:H a=a' (.dT kvs)):TyOf K H (.ref a) (.type "dict")
 | ins {a C dx:eO} {fs:ef (Wz×V)} (e:H a=a' (.ins C dx fs)) (cl:Cls K C) (ha:WW K (.ref C) "__class__"=a' (a' (.builtin "object.__class__")))
   (hn:YN K (.builtin "object.__class__") "__get__"=a' (a' (.builtin "getset_descriptor.__get__"))) (htk:ag8 K (.builtin "object.__class__")=a' true)
   (hm:Yu K C (.type "object")=a' true):TyOf K H (.ref a) (.ref C)
end
structure Room (k:Nat) (A:X2):Prop where
 hd:A.handled=gn
 dp:A.depth + 3 * k + 5 < recursionLimit
 un:A.units + 16 * k + 200 < cLine
theorem Room.mono {k:Nat} {A:X2} (r:Room k A) (h:j<=k):Room j A:=⟨r.hd,by have:=r.dp;omega,by have:=r.un;omega⟩
theorem Room.deeper {k:Nat} {A:X2} (r:Room (k + 1) A) (env:Env):Room k (A.deeper env):=
 ⟨r.hd,by have:=r.dp;show A.depth + 1 + 3 * k + 5 < _;omega,by have:=r.un;show A.units + 3 + 16 * k + 200 < _;omega⟩
theorem He {A:X2} {Y:U'}:(A.under (.builtin "type.__call__" ⟨.ref C::us,Y⟩)).depth=A.depth + 1:=by
 first | rfl | simp[al2,Code.weight,Code.isCreation,Code.isGuard,Code.isCaller,Code.frames,am5,guardIds]
theorem Hd {A:X2} {Y:U'}:(A.under (.builtin "type.__call__" ⟨.ref C::us,Y⟩)).units=A.units + 1:=by
 first | rfl | simp[al2,Code.cUnits,Code.frames,am5]
theorem Room.make {k:Nat} {A:X2} (r:Room (k + 1) A) (C:eO) (us:F') (Y:U'):Room k (A.under (.builtin "type.__call__" ⟨.ref C::us,Y⟩)):=
 ⟨r.hd,by have:=r.dp;rw[He];omega,by have:=r.un;rw[Hd];omega⟩
theorem Room.depth {k:Nat} {A:X2} (r:Room k A):A.depth < recursionLimit:=by have:=r.dp;omega
theorem Room.units {k:Nat} {A:X2} (r:Room k A):A.units + 64 < cLine:=by have:=r.un;omega
noncomputable abbrev tNil:TA:=λ_ H Q=>Q [] H
noncomputable abbrev VI (ta:TE) (tr:TA):TA:=fun σ H Q=>ta σ H λx H1=>tr σ H1 λxs H2=>Q (x::xs) H2
section
variable {X:Cx} {e:XS} {es:ef XS} {te:TE} {t:TA} {pos:Pos}
theorem af:PA X [] tNil:=λ_ _ _ _ H Q I h=>ag0 ⟨[],H,I,.nil,h⟩
theorem aa (ha:PE X e te) (δ:PA X es t) (hs:zx (e::es) X.env=(false,eval e X.env)::zx es X.env:=by rfl):PA X (e::es) (VI te t):=by
 intro pos pins s σ H Q I h;rw[hs];show vu _ _ (spliced ((false,eval e X.env)::backTo pos (zx es X.env))) _ _ s;refine af3 (thn (ha pins s σ H _ I h) λu Y ⟨x,H1,ζ,α,γ⟩=>?_);exact thn (δ pos pins Y σ H1 _ ζ γ) λus η ⟨xs,H2,ε,Z,β⟩=>⟨x::xs,H2,ε,.cons α Z,β⟩
noncomputable def tTup (t:TA):TE:=fun σ H Q=>t σ H λxs H1=>xs.length<=la/\∀p,H1 p=gn->Q (.ref p) (upd H1 p (.tup xs))
noncomputable def tLst (t:TA):TE:=fun σ H Q=>t σ H λxs H1=>xs.length<=la/\∀p,H1 p=gn->Q (.ref p) (upd H1 p (.lst xs))
theorem cL {x1} (h:PA X es t):PE X (.Tuple es x1 pos) (tTup t):=by
 intro pins s σ H Q I Z;refine wpAny_Tuple_spliced (thn (h pos pins s σ H _ I Z) λus Y ⟨xs,H1,I1,r,z,q⟩=>⟨by rw[<-r.length];exact z,?_⟩);have hf:H1 Y.heap.objs.size=none:=I1.hok.fresh (p' _);refine⟨.ref Y.heap.objs.size,upd H1 Y.heap.objs.size (.tup xs),I1.laid (t':=Y.toks) (λb u e=>gz _ e) (p' _) ?_,rfl,q _ hf⟩;exact⟨z,us,r,⟨_,v' _ rfl,rfl,_,rfl⟩⟩
theorem dJ (h:PA X es t):PE X (.List es pos) (tLst t):=by
 intro pins s σ H Q I Z;refine wpAny_List_spliced (thn (h pos pins s σ H _ I Z) λus Y ⟨xs,H1,I1,r,z,q⟩=>⟨by rw[<-r.length];exact z,?_⟩);have hf:H1 Y.heap.objs.size=none:=I1.hok.fresh (p' _);refine⟨.ref Y.heap.objs.size,upd H1 Y.heap.objs.size (.lst xs),I1.laid (t':=Y.toks) (λb u e=>gz _ e) (p' _) ?_,rfl,q _ hf⟩;exact⟨z,us,0,r,v' _ rfl⟩
end
noncomputable abbrev Sp:=ef V->Hp->VK->XK->Prop
variable {sp wh:Sp}
noncomputable abbrev CXT:=ef Env->Hp->vr->XK->Cr
variable {CX:CXT}
structure Env0 (P:WJ) (w:X5) (K:b') (mg:G') (base:Xj) (A:X2) (outer:ef Env) (s:vr) (H:Hp):Prop where
 frames:A.frames=a' outer
 mod:Mod K mg base
 bs:∀b o,base.get? b=a' o->s.heap.get? b=a' o/\H b=gn
 bsz:base.objs.size<=s.heap.objs.size
 funs:s.heap.FunFrames base outer
 frf:∀b∈frs outer,H b=gn
 hok:HOk P w H s.heap
 bare:AllBare s.gens
def CE (outer:ef Env) (P:WJ) (w:X5) (H:Hp) (s:vr) (Q:VK) (u:xo) (s':vr):Prop:=
 ∃v H',s'.os=s.os/\AllBare s'.gens/\Un (frs outer) [] H H' s.heap s'.heap/\HOk P w H' s'.heap/\RelV v u/\Q v H'
def CR (CX:CXT) (outer:ef Env) (P:WJ) (w:X5) (H:Hp) (s:vr) (Q:VK) (E:XK) (r:Result) (s':vr):Prop:=
 match r with
 | .ok (.ret u)=>CE outer P w H s Q u s'
 | .ok _=>False
 | .error e=>CX outer H s E e s'
structure FnOk (P:WJ) (w:X5) (K:b') (mg:G') (base:Xj) (CX:CXT) (k:Nat) (f:eO) (fd:iv) (ps:B') (sp:Sp):Prop where
 len:∀vs H Q E,sp vs H Q E->vs.length=ps.length
 run:∀(A:X2) (outer:ef Env) (s:vr) (H:Hp) (args:Args) (us:F') (vs:ef V) (Q:VK) (E:XK),Room k A->Env0 P w K mg base A outer s H->BindsTo s fd args (ps.zip us)->Vals vs us->sp vs H Q E->
  codeAny (WA P w) A (.call (.ref f) args) (CR CX outer P w H s Q E) s
theorem FnOk.imp {P:WJ} {w:X5} {K:b'} {base:Xj} {k:Nat} {f:eO} {ps:B'} (F:FnOk P w K mg base CX k f fd ps sp)
  (h:∀vs H Q E,wh vs H Q E->sp vs H Q E):FnOk P w K mg base CX k f fd ps wh:=
 ⟨λvs H Q E q=>F.len vs H Q E (h _ _ _ _ q),λA outer s H args us vs Q E α he hb Z hs=>F.run A outer s H args us vs Q E α he hb Z (h _ _ _ _ hs)⟩
theorem Env0.make {P:WJ} {w:X5} {K:b'} {base:Xj} {A:X2} (e:Env0 P w K mg base A outer s H) (C:eO) (us:F') (Y:U'):
  Env0 P w K mg base (A.under (.builtin "type.__call__" ⟨.ref C::us,Y⟩)) outer s H:=⟨by first | exact e.frames | (simpa[al2,Code.envs,am5,pushEnvs] using e.frames),e.mod,e.bs,e.bsz,e.funs,e.frf,e.hok,e.bare⟩
section
variable {X:Cx} {pins:E'} {σ:St} {H:Hp} {s s':vr}
theorem Inv.env0 (I:Inv X pins σ H s):Env0 X.prog X.w X.K X.mg X.base X.A X.stack s H:=
 ⟨I.ok.frames,I.ok.mod,I.bs,Yi I.ok.bsz I.sz,I.stack,I.stkFree,I.hok,I.bare⟩
theorem Inv.after (I:Inv X pins σ H s) (h:CE X.stack X.prog X.w H s Q u s'):EP X pins σ Q u s':=by
 obtain⟨v,H',os,bare,un,hok,r,q⟩:=h;obtain⟨Z,g,d,t,Y⟩:=s';obtain rfl:Y=s.os:=os;exact⟨v,H',I.call (h':=Z) (g':=g) (d':=d) (t':=t) (ch:=[]) un hok bare (λb z=>hQ z @E),r,q⟩
end
noncomputable def Jc (sp:Sp) (dvs:ef V) (E:XK) (t:TA):TE:=fun σ H Q=>t σ H λvs H1=>sp (vs++dvs) H1 Q E
noncomputable def Qn (C:eO) (m:Wz) (sp:Sp) (dvs:ef V) (E:XK) (ta:TE) (t:TA):TE:=fun σ H Q=>ta σ H λx H1=>∃a dx fs,x= .ref a/\H1 a=a' (.ins C dx fs)/\fs.lookup m=gn/\
 t σ H1 λvs H2=>sp (x::(vs++dvs)) H2 Q E
noncomputable def SN (C:eO) (sp:Sp) (dvs:ef V) (E:XK) (t:TA):TE:=fun σ H Q=>t σ H λvs H1=>∀x dx,H1 x=gn->H1 dx=gn->dx≠x->
 sp (.ref x::(vs++dvs)) (upd (upd H1 dx (.own x)) x (.ins C dx [])) (λv H2=>v= .non/\Q (.ref x) H2) E
def qv (K:b') (fd:iv) (ps:B') (ds:F'):Prop:=
 ∀(s:vr) (us:F'),K.In s.heap->(us++ds).length=ps.length->BindsTo s fd ⟨us,[]⟩ (ps.zip (us++ds))
theorem qv.all {K:b'} {ps:B'} (h:∀us:F',us.length=ps.length->bindArgs fd ⟨us,[]⟩=pure (ps.zip us)):qv K fd ps []:=λs us _ hl=>by
 rw[Y8] at hl ⊢;exact .of_eq (h us hl)
def tH (CX:CXT) (X:Cx) (E:XK):Prop:=∀(pins:E') (σ:St) (H:Hp) (s:vr) (e:xo) (s':vr),Inv X pins σ H s->CX X.stack H s E e s'->X.xe e s'
section
variable {X:Cx} {CX:CXT} {k:Nat} {f C:eO} {fd:iv} {ps:B'} {sp:Sp} {dvs:ef V} {ds:F'} {E:XK} {x m:Wz} {p pos apos:Pos} {e o:XS} {es:ef XS} {ta:TE} {t:TA}
theorem Fv (F:FnOk X.prog X.w X.K X.mg X.base CX k f fd ps sp) (α:Room k X.A) (hb:qv X.K fd ps ds) (hd:Vals dvs ds) (hx:tH CX X E)
  (I:Inv X pins σ H s) (r:Vals vs us) (h:sp (vs++dvs) H Q E):vu (WA X.prog X.w) X.A (call (.ref f) us) (EP X pins σ Q) X.xe s:=by
 have Z:Vals (vs++dvs) (us++ds):=r.append hd;have hl:(us++ds).length=ps.length:=by rw[<-Z.length];exact F.len _ _ _ _ h
 refine au7 (ad5 (F.run X.A X.stack s H ⟨us,[]⟩ (us++ds) (vs++dvs) Q E α I.env0 (hb s us I.kIn hl) Z h) λr s' Y=>?_);cases r with
 | error e=>exact hx pins σ H s e s' I Y
 | ok β=>
   cases β with
   | ret u=>exact I.after Y
   | next=>exact Xo Y
   | brk=>exact Xo Y
   | cont=>exact Xo Y
theorem Re (F:FnOk X.prog X.w X.K X.mg X.base CX k f fd ps sp) (α:Room k X.A) (β:Gl X x) (hm:X.mg x=a' (.ref f)) (hk:XM X.K (.ref f)=true) (hb:qv X.K fd ps ds) (hd:Vals dvs ds) (hx:tH CX X E)
  (ha:PA X (e::es) t) (Z:(x == ("__debug__":Wz))=false:=by decide) (he:zx (e::es) X.env=(false,eval e X.env)::zx es X.env:=by rfl) (Y:(backTo pos (zx es X.env)).any (·.1)=false:=by rfl):
  PE X (.Call (.Name x p) (e::es) [] pos) (Jc sp dvs E t):=by
 intro pins s σ H Q I h;refine Zo (uB I β hm ?_ Z);refine YG (h₀:=X.base) I.ok.mod.kin hk (thn (ha pos pins s σ H _ I h) λus γ ⟨vs,H1,I1,r,q⟩=>⟨I1.kIn,?_⟩) he Y;exact Fv F α hb hd hx I1 r q
theorem fH {pl:Sem X1} (he:PE X o ta) (c:Cls X.K C) (hm:Meth X.K C m f) (F:FnOk X.prog X.w X.K X.mg X.base CX k f fd ps sp) (ζ:Room k X.A) (hb:qv X.K fd ps ds) (hd:Vals dvs ds) (hx:tH CX X E) (ha:PA X (e::es) t)
  (Y:zx (e::es) X.env=(false,eval e X.env)::zx es X.env:=by rfl) (Z:(backTo pos (zx es X.env)).any (·.1)=false:=by rfl)
  (ht:eval (.Call (.Attribute o m apos) (e::es) [] pos) X.env=(do
   let δ <-eval o X.env
   standAt apos.atName
   let (f,first) <-holding [δ] (getMethod δ m pl)
   callWith pos f first (backTo pos (zx (e::es) X.env)) (backToKw pos (keywordEach [] X.env))):=by rfl):
  PE X (.Call (.Attribute o m apos) (e::es) [] pos) (Qn C m sp dvs E ta t):=by
 intro pins s σ H Q I h;refine Zl (pl:=pl) (thn (he pins s σ H _ I h) λu β ⟨x,H1,α,γ,a,dx,fs,ex,ea,l,q⟩=>?_) ht;subst ex;obtain rfl:u=WD a:=γ;refine uE α ea c hm l ?_;refine YG (first:=[.ref a]) (h₀:=X.base) I.ok.mod.kin hm.kp (thn (ha pos pins β σ H1 _ α q) λus η ⟨vs,H2,I2,r,ε⟩=>⟨I2.kIn,?_⟩) Y Z;exact Fv (us:= .ref a::us) (vs:= .ref a::vs) F ζ hb hd hx I2 (.cons rfl r) ε
theorem aZ {pl:Sem X1} (he:PE X o ta) (c:Cls X.K C) (hm:Meth X.K C m f) (F:FnOk X.prog X.w X.K X.mg X.base CX k f fd ps sp) (Z:Room k X.A) (hb:qv X.K fd ps ds) (hd:Vals dvs ds) (hx:tH CX X E)
  (ht:eval (.Call (.Attribute o m apos) [] [] pos) X.env=(do
   let δ <-eval o X.env
   standAt apos.atName
   let (f,first) <-holding [δ] (getMethod δ m pl)
   callWith pos f first (backTo pos (zx [] X.env)) (backToKw pos (keywordEach [] X.env))):=by rfl):
  PE X (.Call (.Attribute o m apos) [] [] pos) (Qn C m sp dvs E ta tNil):=by
 intro pins s σ H Q I h;refine Zl (pl:=pl) (thn (he pins s σ H _ I h) λu α ⟨x,H1,I1,Y,a,dx,fs,ex,ea,l,q⟩=>?_) ht;subst ex;obtain rfl:u=WD a:=Y;refine uE I1 ea c hm l ?_;exact PySem.W.callWith_K0 (first:=[.ref a]) I1.kIn hm.kp (Fv (us:=[.ref a]) (vs:=[.ref a]) F Z hb hd hx I1 (.cons rfl .nil) q)
structure Mk (K:b') (C f:eO):Prop where
 makes:aq1 K C=true
 init:WW K (.ref C) "__init__"=a' (a' (.ref f))
 fn:ae8 K (.ref f)=true
 kp:XM K (.ref C)=true
theorem Ny (M:Mk X.K C f) (F:FnOk X.prog X.w X.K X.mg X.base CX k f fd ps sp) (ε:Room (k + 1) X.A) (hb:qv X.K fd ps ds) (hd:Vals dvs ds)
  (δ:tH CX X E) (I:Inv X pins σ H s) (r:Vals vs us)
  (h:∀x dx,H x=gn->H dx=gn->dx≠x->sp (.ref x::(vs++dvs)) (upd (upd H dx (.own x)) x (.ins C dx [])) (λv H2=>v= .non/\Q (.ref x) H2) E):
  vu (WA X.prog X.w) X.A (call (.ref C) us) (EP X pins σ Q) X.xe s:=by
 have α:=h (s.heap.objs.size + 1) s.heap.objs.size (I.hok.fresh (ae7 _)) (I.hok.fresh (p' _)) (W' (Y5 _));have I2:=Inv.made (C:=C) I;have Z:Vals (V.ref (s.heap.objs.size + 1)::(vs++dvs)) (WD (s.heap.objs.size + 1)::(us++ds)):= .cons rfl (r.append hd)
 have hl:(WD (s.heap.objs.size + 1)::us++ds).length=ps.length:=by
  have e:=Z.length;rw[F.len _ _ _ _ α] at e;exact e.symm
 refine au7 (N0 (f:=f) I.kIn M.makes M.init (ad4.mp M.fn) (ad5 (F.run _ X.stack _ _ ⟨WD (s.heap.objs.size + 1)::us,[]⟩ (WD (s.heap.objs.size + 1)::(us++ds)) _ _ E (ε.make C us [])
  (I2.env0.make C us []) (hb _ (WD (s.heap.objs.size + 1)::us) I2.kIn hl) Z α) λr s' Y=>?_))
 cases r with
 | error e=>exact δ pins σ _ _ e s' I2 Y
 | ok ζ=>
   cases ζ with
   | ret u=>
     obtain⟨v,H',υ,β,ev,γ⟩:=I2.after Y;subst ev;exact⟨β,⟨V.ref (s.heap.objs.size + 1),H',υ,rfl,γ⟩⟩
   | next=>exact Xo Y
   | brk=>exact Xo Y
   | cont=>exact Xo Y
theorem jv (M:Mk X.K C f) (F:FnOk X.prog X.w X.K X.mg X.base CX k f fd ps sp) (α:Room (k + 1) X.A) (β:Gl X x) (hm:X.mg x=a' (.ref C)) (hb:qv X.K fd ps ds) (hd:Vals dvs ds) (hx:tH CX X E)
  (ha:PA X (e::es) t) (Z:(x == ("__debug__":Wz))=false:=by decide) (he:zx (e::es) X.env=(false,eval e X.env)::zx es X.env:=by rfl) (Y:(backTo pos (zx es X.env)).any (·.1)=false:=by rfl):
  PE X (.Call (.Name x p) (e::es) [] pos) (SN C sp dvs E t):=by
 intro pins s σ H Q I h;refine Zo (uB I β hm ?_ Z);refine YG (h₀:=X.base) I.ok.mod.kin M.kp (thn (ha pos pins s σ H _ I h) λus γ ⟨vs,H1,I1,r,q⟩=>⟨I1.kIn,?_⟩) he Y;exact Ny M F α hb hd hx I1 r q
end
section
variable {X:Cx} {CX:CXT} {k:Nat} {f C:eO} {fd:iv} {ps ks:B'} {sp:Sp} {E:XK} {x m:Wz} {p pos apos kpos:Pos} {e o:XS} {es:ef XS} {kws:ef Keyword} {te ta:TE} {t tk:TA} {nm:WG Wz}
structure Wu (K:b') (fd:iv) (ps ks:B') (g:F'->F'->F') (gV:ef V->ef V->ef V):Prop where
 to:∀(s:vr) (us ws:F'),K.In s.heap->(g us ws).length=ps.length->BindsTo s fd ⟨us,ks.zip ws⟩ (ps.zip (g us ws))
 rel:∀{vs:ef V} {us:F'} {zs:ef V} {ws:F'},Vals vs us->Vals zs ws->Vals (gV vs zs) (g us ws)
variable {g:F'->F'->F'} {gV:ef V->ef V->ef V}
end
structure av (N P:B') (sc:ad6):Prop where
 kind:sc.kind= .function
 co:sc.isCoroutine=false
 gen:sc.isGenerator=false
 nd:N.Nodup
 pre:N.take P.length=P
 par:∀x∈P,sc.names.lookup x=a' .local∨sc.names.lookup x=a' .cell
 nofree:∀y∈sc.names,y.2≠.free
theorem C2 {kindOf:Wz->WG NameKind} {x:Wz}:∀{binds:U'} {m:G'},(∀v,(x,v)∉binds)->bindL kindOf binds m x=m x
 | [],_,_=>rfl
 | (n,v)::r,m,h=>by
   unfold bindL;rw[C2 λw hw=>h w (W1 _ hw)];split
   ·have:x≠n:=by rintro rfl;exact h v W6
    simp[this]
   ·rfl
theorem C8 {kindOf:Wz->WG NameKind} {x:Wz}:∀{binds:U'} {m:G'},(∀v,(x,v)∉binds)->bindC kindOf binds m x=m x
 | [],_,_=>rfl
 | (n,v)::r,m,h=>by
   unfold bindC;rw[C8 λw hw=>h w (W1 _ hw)];split
   ·rfl
   ·have:x≠n:=by rintro rfl;exact h v W6
    simp[this]
theorem C7 {kindOf:Wz->WG NameKind} {x:Wz} {v:xo}:∀{P:B'} {vs:F'} {i:Nat} {m:G'},P.Nodup->P[i]? =a' x->vs[i]? =a' v->kindOf x=a' .local->
  bindL kindOf (P.zip vs) m x=a' v
 | [],_,_,_,_,h,_,_=>by simp at h
 | _::_,[],_,_,_,_,h,_=>by simp at h
 | p::P,w::vs,0,m,nd,h1,h2,hk=>by
   simp at h1 h2;subst h1;subst h2;show bindL kindOf ((p,w)::P.zip vs) m p=_;unfold bindL;rw[C2 λv Y=>(aa4.mp nd).1 (ac6 Y).1,zt hk];simp
 | p::P,w::vs,i + 1,m,nd,h1,h2,hk=>by
   show bindL kindOf ((p,w)::P.zip vs) m x=_;unfold bindL;exact C7 (i:=i) (aa4.mp nd).2 (by simpa using h1) (by simpa using h2) hk
theorem C9 {kindOf:Wz->WG NameKind} {x:Wz} {v:xo}:∀{P:B'} {vs:F'} {i:Nat} {m:G'},P.Nodup->P[i]? =a' x->vs[i]? =a' v->kindOf x≠a' .local->
  bindC kindOf (P.zip vs) m x=a' v
 | [],_,_,_,_,h,_,_=>by simp at h
 | _::_,[],_,_,_,_,h,_=>by simp at h
 | p::P,w::vs,0,m,nd,h1,h2,hk=>by
   simp at h1 h2;subst h1;subst h2;show bindC kindOf ((p,w)::P.zip vs) m p=_;unfold bindC;rw[C8 λv Y=>(aa4.mp nd).1 (ac6 Y).1,oT hk];simp
 | p::P,w::vs,i + 1,m,nd,h1,h2,hk=>by
   show bindC kindOf ((p,w)::P.zip vs) m x=_;unfold bindC;exact C9 (i:=i) (aa4.mp nd).2 (by simpa using h1) (by simpa using h2) hk
noncomputable def start (N:B') (vs:ef V):St:=vs.map a'++n' (N.length - vs.length) gn
noncomputable def cxOf (CX:CXT) (P:WJ) (w:X5) (K:b') (mg:G') (base:Xj) (N:B') (Y:Wz) (scope:ad6) (f:eO) (Z:xo) (A:X2) (outer:ef Env) (s:vr) (H:Hp) (E:XK):Cx where
 prog:=P
 w:=w
 K:=K
 mg:=mg
 base:=base
 A:=A.deeper (envOfC Y scope s.heap.objs.size f Z)
 N:=N
 s₀:=s
 H₀:=H
 env:=envOfC Y scope s.heap.objs.size f Z
 outer:=outer
 stack:=envOfC Y scope s.heap.objs.size f Z::outer
 ex:=[]
 calm:=true
 fn:=λ_=>true
 pn:=[]
 xe:=λe s'=>vu (WA P w) (A.deeper (envOfC Y scope s.heap.objs.size f Z)) (leaving (envOfC Y scope s.heap.objs.size f Z) e) (λ_ α=>CX outer H s E e α) (fun β α=>CX outer H s E β α) s'
theorem Ga {n:Nat} {x:Wz} (h:ζ.names.lookup x=a' .cell):∃c,(cellsFrom n ζ.names []).lookup x=a' c:=by
 have q:=ak1 ζ.names n [] (.inl h);exact Option.isSome_iff_exists.mp q
theorem KW {P:WJ} {w:X5} {K:b'} {base:Xj} {ps:B'} {f:eO} {A:X2}
  (S:av N ps scope) (hd:A.handled=gn) (Z:Env0 P w K mg base A outer s H) (hl:vs.length=ps.length) (r:Vals vs us)
  (x:InCallC s s.heap.objs.size (bindL (envOfC hJ scope s.heap.objs.size f δ).kindOf (ps.zip us) λ_=>gn) (cellsFrom (s.heap.objs.size + 1) scope.names []) (bindC (envOfC hJ scope s.heap.objs.size f δ).kindOf (ps.zip us) λ_=>gn) lv):
  Inv (cxOf CX P w K mg base N hJ scope f δ A outer s H E) [] (start N vs) H lv:=by
 have η:ps.length<=N.length:=by have:=Wy X3 S.pre;rw[tu] at this;omega
 obtain⟨h1,tk,rfl,hk⟩:=x.done;have α:∀b:eO,b∉(cxOf CX P w K mg base N hJ scope f δ A outer s H E).ex:=λb z=>hQ (show b∈([]:M') from z) @E
 refine⟨⟨Z.mod,S.kind,rfl,rfl,p' _,λy z c h1 h2=>?_,λy hy=>?_,λy c _ h=>?_,λ_=>hd,Around.frames_deeper Z.frames,.inr ⟨rfl,rfl⟩,λb z=>hQ z (α b),Z.bs,Z.bsz,λb _ _=>α b,λb z=>hQ z (α b),Z.funs,Z.frf⟩,
  rfl,Z.bare,Un.kept hk,⟨_,x.toInCall.ns,λi y v h1 h2 θ=>?_⟩,λy c h=>⟨_,x.cell y c h⟩,Z.hok.fresh (p' _),λy c h=>?_,λp γ=>hQ (show p∈([]:E') from γ) @E,Z.hok.kept hk,?_⟩
 ·exact name_of_addr x.apart (XG h1) (XG h2)
 ·have hy:scope.names.lookup y=a' .cell∨scope.names.lookup y=a' .free:=hy;rcases hy with hy | hy
  ·exact Ga hy
  ·exact hQ rfl (S.nofree _ (XG hy))
 ·exact YA (x.above y c (XG h))
 ·have hi:i < vs.length:=by
   unfold start at h2;by_cases hi:i < vs.length
   ·exact hi
   ·rw[ov (by simpa using hi)] at h2;rw[am1] at h2;split at h2<;>cases h2
  have ha:vs[i]? =a' v:=by
   unfold start at h2;rw[mu (by simpa using hi),hH] at h2;cases e:vs[i]? with
   | none=>rw[e] at h2;cases h2
   | some a=>rw[e] at h2;cases h2;rfl
  obtain⟨u,ρ,ζ⟩:=r.get ha
  have γ:ps[i]? =a' y:=by
   rw[<-S.pre,Xx @A];exact h1
  have β:ps.Nodup:=by rw[<-S.pre];exact S.nd.sublist (List.take_sublist _ _)
  refine⟨u,ζ,?_⟩;rcases S.par y (dt γ) with k | k
  ·exact .inl ⟨k,C7 β γ ρ k⟩
  ·obtain⟨c,e⟩:=Ga (n:=s.heap.objs.size + 1) k;refine .inr ⟨.inl k,c,e,?_⟩;have q:=x.cell y c e;rw[C9 β γ ρ (by show scope.names.lookup y≠_;rw[k];decide)] at q;exact q
 ·exact Z.hok.fresh (YA (x.above y c (XG h)))
 ·unfold start;show _=N.length;rw[eX,bx,XD];omega
theorem RS {P:WJ} {w:X5} {K:b'} {base:Xj} {k:Nat} {f:eO} {name:Wz} {α:Arguments}
  {θ:L'} {ps:B'} (lk:K.lookup f=a' ⟨kh,wE,.func (X' name z α pp scope δ dv χ jp an kf ct),θ⟩) (ξ:YS K kf z=true) (S:av N ps scope)
  (len:∀vs H Q E,sp vs H Q E->vs.length=ps.length)
  (ε:∀(A:X2) (outer:ef Env) (s:vr) (H:Hp) (vs:ef V) (Q:VK) (E:XK),Room k (A.deeper (envOfC z scope s.heap.objs.size f kf))->sp vs H Q E->
   ∃t,PSs (cxOf CX P w K mg base N z scope f kf A outer s H E) pp t/\t {nx:=λ_ H'=>Q .non H',rt:=Q} (start N vs) H):
  FnOk P w K mg base CX (k + 1) f (X' name z α pp scope δ dv χ jp an kf ct) ps sp:=by
 refine⟨len,λA outer s H args us vs Q E ν ζ hb r β=>?_⟩;have hl:=len _ _ _ _ β;have ρ:K.In s.heap:=ζ.mod.kin.keeps λb o e=>(ζ.bs b o e).1;have ι:s.heap.NoLimit:=ζ.mod.nolimit.keeps λb o e=>(ζ.bs b o e).1
 have dV:∀y∈ps.zip us,scope.names.lookup y.1=a' .local∨(scope.names.lookup y.1=a' .cell/\((cellsFrom (s.heap.objs.size + 1) scope.names []).lookup y.1).isSome=true):=λ⟨n,v⟩ υ=>by
  rcases S.par n (ac6 υ).1 with q | q
  ·exact .inl q
  ·exact .inr ⟨q,ak1 _ _ _ (.inl q)⟩
 refine codeAny_call_function ν.depth (ρ _ _ lk) rfl S.co S.gen rfl (PySem.W.codeRec_of ρ ξ) (hb _ _ _ _ ?_);refine wpAny_newFunctionEnv_cells S.kind dV λenv he ο x=>?_;subst he;refine⟨ι.keeps x.toInCall.keep,codeAny_func ?_⟩;obtain⟨t,ht,φ⟩:=ε A outer s H vs Q E (ν.deeper _) β;have I:Inv (cxOf CX P w K mg base N z scope f kf A outer s H E) [] (start N vs) H ο:=KW S ν.hd ζ hl r x;refine Z3 (ht [] ο (start N vs) H _ I φ) (fun ψ s' hs=>?_) λe s' hs=>hs
 have fin:∀{σ':St} {H':Hp} {v:V} {u:xo},Inv (cxOf CX P w K mg base N z scope f kf A outer s H E) [] σ' H' s'->RelV v u->Q v H'->CE outer P w H s Q u s':=
  λ{σ' H' v u} J η q=>⟨v,H',J.os,J.bare,J.base,J.hok,η,q⟩
 cases ψ with
 | ret u=>
   obtain⟨v,σ',H',J,η,q⟩:=hs;exact fin J η q
 | next=>
   obtain⟨σ',H',J,q⟩:=hs;exact fin (v:=V.non) (u:=XF) J rfl q
 | brk=>
   obtain⟨_,_,_,q⟩:=hs;exact Xo q
 | cont=>
   obtain⟨_,_,_,q⟩:=hs;exact Xo q
section
variable {X:Cx} {x:Wz} {p pos:Pos} {e:XS} {es:ef XS} {t:TA} {id T:Yo} {r:ef V->Hp->VK->Prop}
noncomputable abbrev tCB (r:ef V->Hp->VK->Prop) (t:TA):TE:=fun σ H Q=>t σ H λvs H1=>r vs H1 Q
theorem aP (hc:oq X (.builtin id) r) (ε:Gl X x) (hm:X.mg x=gn) (δ:bootBuiltins x=a' (.builtin id)) (ha:PA X (e::es) t) (hn:x≠"__name__":=by decide) (Z:(x == ("__debug__":Wz))=false:=by decide)
  (he:zx (e::es) X.env=(false,eval e X.env)::zx es X.env:=by rfl) (Y:(backTo pos (zx es X.env)).any (·.1)=false:=by rfl):PE X (.Call (.Name x p) (e::es) [] pos) (tCB r t):=by
 intro pins s σ H Q I h;refine Zo (oW I ε hm δ ?_ hn Z);exact PyProof.Rows.callWith_builtin1 (thn (ha pos pins s σ H _ I h) λus α ⟨vs,H1,ζ,β,γ⟩=>hc pins α σ H1 vs us Q ζ β γ) he Y
theorem a9 (hc:oq X (.type T) r) (ε:Gl X x) (hm:X.mg x=gn) (δ:bootBuiltins x=a' (.type T)) (ha:PA X (e::es) t) (hn:x≠"__name__":=by decide) (Z:(x == ("__debug__":Wz))=false:=by decide)
  (he:zx (e::es) X.env=(false,eval e X.env)::zx es X.env:=by rfl) (Y:(backTo pos (zx es X.env)).any (·.1)=false:=by rfl):PE X (.Call (.Name x p) (e::es) [] pos) (tCB r t):=by
 intro pins s σ H Q I h;refine Zo (oW I ε hm δ ?_ hn Z);exact X0 (thn (ha pos pins s σ H _ I h) λus α ⟨vs,H1,ζ,β,γ⟩=>hc pins α σ H1 vs us Q ζ β γ) he Y
end
end L2
variable {CX:L2.CXT} {X:L2.Cx} {pi:L2.Ends} {eH o:L2.HO} {H H' H1 H2:L2.Hp} {kvs:ef (L2.Key×L2.V)} {AT At:ef (Yt×L2.V)} {am dvs vs:ef L2.V} {ob:Nat->L2.HO} {sp wh:L2.Sp} {oD σ:L2.St} {sw:L2.TA} {oL ta te tl to ξ:L2.TE} {qE:L2.TGs} {sA wi:L2.TI} {px tb:L2.TS} {tc:L2.TT} {v:L2.V} {Q:L2.VK} {E:L2.XK}
namespace HT
open PySem PyProof.Rows
section
variable {prog:WJ} {w:X5} {A:X2} {E:Cr} {s:vr}
noncomputable def sIx (n d:Nat):WG Int->Nat
 | none=>d
 | some v=>if v < 0 then (v + (n:Int)).toNat else min v.toNat n
theorem sIx_none (n d:Nat):sIx n d gn=d:=rfl
theorem sIx_nat (n d k:Nat):sIx n d (a' (k:Int))=min k n:=by
 show(if (k:Int) < 0 then ((k:Int) + (n:Int)).toNat else min (k:Int).toNat n)=min k n;rw[oT @A,wq]
end
end HT
namespace L2
open PySem PySem.Spec PyProof.Rows
noncomputable abbrev TO:=St->Hp->(WG Int->Hp->Prop)->Prop
def PO (X:Cx) (e:WG XS) (t:TO):Prop:=
 ∀(pins:E') (s:vr) (σ:St) (H:Hp) (Q:WG Int->Hp->Prop),Inv X pins σ H s->t σ H Q->
  vu (WA X.prog X.w) X.A (evalPart e X.env) (λu s'=>∃o H',Inv X pins σ H' s'/\IsPart u o/\Q o H') X.xe s
noncomputable abbrev Qm:TO:=λ_ H Q=>Q gn H
noncomputable abbrev VF (t:TE):TO:=fun σ H Q=>t σ H λx H1=>∃i,x= .int i/\Q (a' i) H1
section
variable {X:Cx} {e:XS} {te:TE} {lo hi:WG XS} {tl th:TO} {pos p2:Pos}
theorem mh:PO X gn Qm:=by
 intro pins s σ H Q I h;rw[evalPart_none];exact W4 ⟨gn,H,I,.none,h⟩
theorem ju (h:PE X e te):PO X (a' e) (VF te):=by
 intro pins s σ H Q I hw;rw[evalPart_some];refine thn (h pins s σ H _ I hw) λu β ⟨x,H1,α,Y,Z⟩=>?_;obtain⟨i,rfl,q⟩:=Z;obtain⟨t,rfl⟩:=Y;exact⟨a' i,H1,α,.int i t,q⟩
def SlR (X:Cx) (r:V->WG Int->WG Int->Hp->VK->Prop):Prop:=
 ∀(pins:E') (s:vr) (σ:St) (H:Hp) (x:V) (v Z Y:xo) (lo hi:WG Int) (ρ:eO) (Q:VK),Inv X pins σ H s->RelV x v->s.heap.IsSliceOf ρ Z Y .none->IsPart Z lo->IsPart Y hi->r x lo hi H Q->
  ∃T id,typeLookup (.type T) "__getitem__"=pure (a' (.builtin id))/\s.TypeIs v T/\vu (WA X.prog X.w) X.A (getItem v (.ref ρ)) (EP X pins σ Q) X.xe s
noncomputable abbrev tSl (r:V->WG Int->WG Int->Hp->VK->Prop) (te:TE) (tl th:TO):TE:=fun σ H Q=>te σ H λx H1=>tl σ H1 λl H2=>th σ H2 λu Y=>r x l u Y Q
theorem h8 {r:V->WG Int->WG Int->Hp->VK->Prop} (ν:SlR X r) (he:PE X e te) (hl:PO X lo tl) (hu:PO X hi th):PE X (.Subscript e (.Slice lo hi gn p2) pos) (tSl r te tl th):=by
 intro pins s σ H Q I h;refine av0 (thn (he pins s σ H _ I h) λv ε ⟨x,H1,ρ,ζ,θ⟩=>?_);refine wpAny_Slice (thn (hl pins ε σ H1 _ ρ θ) fun α δ ⟨l,H2,π,pl,η⟩=>thn (hu pins δ σ H2 _ π η) λZ Y ⟨u,β,I3,ι,γ⟩=>?_);rw[evalPart_none];refine W4 ?_;have ο:Inv X pins σ β {Y with heap:=Y.heap.push {cls:= .type "slice",data:= .fields #[α,Z,.none]}}:=I3.kept (t':=Y.toks) λb ob q=>gz _ q;obtain⟨T,id,hT,ht,ξ⟩:=ν pins {Y with heap:=Y.heap.push {cls:= .type "slice",data:= .fields #[α,Z,.none]}} σ β x v α Z l u Y.heap.objs.size Q ο ζ (Heap.IsSliceOf.new ..) pl ι γ;show vu (WA X.prog X.w) X.A (subscriptTail e (.Slice lo hi gn p2) v (.ref Y.heap.objs.size)) (EP X pins σ Q) X.xe {Y with heap:=Y.heap.push {cls:= .type "slice",data:= .fields #[α,Z,.none]}};exact tail_any (ops:=[.ref Y.heap.objs.size,v]) ht hT ξ (by with_unfolding_all rfl)
noncomputable def cutV (xs:ef V) (lo hi:WG Int):ef V:=(xs.drop (HT.sIx xs.length 0 lo)).take (HT.sIx xs.length xs.length hi - HT.sIx xs.length 0 lo)
theorem EZ (xs:ef V) (lo hi:WG Int):(cutV xs lo hi).length<=xs.length:=by
 unfold cutV;rw[tu,Zg];omega
end
noncomputable def ixN (n:Nat) (i:Int):WG Nat:=if 0<=i then (if i < n then a' i.toNat else gn) else if -(n:Int)<=i then a' (i + n).toNat else gn
noncomputable def atI {α:Type} (xs:ef α) (i:Int):WG α:=(ixN xs.length i).bind λj=>xs[j]?
theorem RH {n:Nat} {i:Int} (h:ixN n i=a' j):seqIndex? i n=a' j/\j < n/\-(n:Int)<=i/\i < n:=by
 unfold ixN at h;by_cases θ:0<=i
 ·rw[zt θ] at h;by_cases h1:i < n
  ·rw[zt h1] at h;have e:i.toNat=j:=WB h;exact⟨by rw[seqIndex_of θ h1,e],@A,@A,h1⟩
  ·rw[oT h1] at h;cases h
 ·rw[oT θ] at h;by_cases h1: -(n:Int)<=i
  ·rw[zt h1] at h;have e:(i + n).toNat=j:=WB h;exact⟨by rw[seqIndex_neg @A h1,e],@A,h1,@A⟩
  ·rw[oT h1] at h;cases h
theorem E8 {α:Type} {xs:ef α} {i:Int} {v:α} (h:atI xs i=a' v):∃j,seqIndex? i xs.length=a' j/\xs[j]? =a' v/\j < xs.length/\-(xs.length:Int)<=i/\i < xs.length:=by
 unfold atI at h;cases e:ixN xs.length i with
 | none=>rw[e] at h;cases h
 | some j=>
   rw[e] at h;obtain⟨h1,h2,Z,Y⟩:=RH e;exact⟨j,h1,h,h2,Z,Y⟩
theorem fQ {α:Type} {xs:ef α} {v:α} (h:xs[j]? =a' v):atI xs (j:Int)=a' v:=by
 have Y:j < xs.length:=(bA.mp h).1
 have e:ixN xs.length (j:Int)=a' j:=by
  unfold ixN;rw[zt @A,zt @A];simp
 unfold atI;rw[e];exact h
theorem Ge {α:Type} (xs:ef α) (v:α):atI (xs++[v]) (-1)=a' v:=by
 have hl:(xs++[v]).length=xs.length + 1:=by simp
 have e:ixN (xs++[v]).length (-1)=a' xs.length:=by
  unfold ixN;rw[hl,oT @C,zt @A];congr 1;omega
 unfold atI;rw[e];show(xs++[v])[xs.length]? =a' v;simp
def Sk (b:XS):Prop:=∀o i,subscripted b false o i=operate [o,i] (getItem o i)
def IxR (X:Cx) (r:R2):Prop:=
 ∀(value Y:XS) (pins:E') (s:vr) (σ:St) (H:Hp) (x y:V) (v u:xo) (Q:VK),Inv X pins σ H s->RelV x v->RelV y u->r x y H Q->
  subscripted Y false v u=operate [v,u] (getItem v u)->vu (WA X.prog X.w) X.A (subscriptTail value Y v u) (EP X pins σ Q) X.xe s
def MtR (X:Cx) (id:Yo) (r:V->ef V->Hp->VK->Prop):Prop:=
 ∀(pins:E') (s:vr) (σ:St) (H:Hp) (x:V) (xs:ef V) (v:xo) (us:F') (Q:VK),Inv X pins σ H s->RelV x v->Vals xs us->r x xs H Q->
  vu (WA X.prog X.w) X.A (call (.builtin id) (v::us)) (EP X pins σ Q) X.xe s
section
variable {X:Cx} {a b:XS} {ta tb:TE} {pos:Pos}
theorem aV {r:R2} (β:IxR X r) (ha:PE X a ta) (hb:PE X b tb) (hs:Sk b):PE X (.Subscript a b pos) (tOp r ta tb):=by
 intro pins s σ H Q I h;exact av0 (binT ha hb I h λv u Y x y H2 γ α Z q=>β a b pins Y σ H2 x y v u Q γ α Z q (hs _ _))
noncomputable def rIxL (K:b'):R2:=λx y H Q=>∃p xs i v,x= .ref p/\y= .int i/\SqL K H p xs/\atI xs i=a' v/\Q v H
noncomputable def rIxT (K:b'):R2:=λx y H Q=>∃p xs i v,x= .ref p/\y= .int i/\SqT K H p xs/\atI xs i=a' v/\Q v H
noncomputable def rIxS:R2:=λx y H Q=>∃z i c,x= .str z/\y= .int i/\z.length<=la/\atI z.cps.toList i=a' c/\Q (.str ⟨#[c]⟩) H
theorem RG:IxR X (rIxL X.K):=by
 intro value Y pins s σ H x y v u Q I δ γ h hs;obtain⟨p,xs,i,z,rfl,rfl,ε,he,q⟩:=h;cases δ;obtain⟨t,rfl⟩:=γ;obtain⟨its,r,pl,hz⟩:=I.list ε;obtain⟨j,h1,h2,ι,η,ζ⟩:=E8 he;obtain⟨w,β,Z⟩:=r.get h2;have hl:=r.length;have hn:=FV;have fin:EP X pins σ Q w s:=⟨z,H,I,Z,q⟩;by_cases θ:0<=i
 ·have α:i.toNat=j:=by
   rw[seqIndex_of θ ζ] at h1;exact WB h1
  exact item_listR pl.isList θ @A (by rw[α];simpa using β) fin hs
 ·have α:(i + (its.toArray.size:Int)).toNat=j:=by
   rw[seqIndex_neg @A η] at h1;rw[WU,<-hl];exact WB h1
  exact ar2 (x:=w) pl.isList.typeIs slot_list_getitem.lookup
   (wpAny_getItem_list_neg (Q:=λr s'=>r=w/\EP X pins σ Q r s') pl.isList @A (by rw[WU]<;>omega) @A (by rw[α];simpa using β) ⟨rfl,fin⟩) hs
theorem UJ:IxR X (rIxT X.K):=by
 intro value Y pins s σ H x y v u Q I β α h hs;obtain⟨p,xs,i,z,rfl,rfl,γ,he,q⟩:=h;cases β;obtain⟨t,rfl⟩:=α;obtain⟨its,r,pl,hz⟩:=I.tuple γ;obtain⟨j,h1,h2,η,ζ,ε⟩:=E8 he;obtain⟨w,δ,Z⟩:=r.get h2;have hl:=r.length;have hn:=FV;have fin:EP X pins σ Q w s:=⟨z,H,I,Z,q⟩
 exact ar2 (x:=w) pl.typeIs slot_tuple_getitem.lookup
  (getItem_tuple (j:=j) (Q:=λr s'=>r=w/\EP X pins σ Q r s') pl @A @A (by rw[WU,<-hl];exact h1) (by simpa using δ) ⟨rfl,fin⟩) hs
theorem UK:IxR X rIxS:=by
 intro value Y pins s σ H x y v u Q I α Z h hs;obtain⟨z,i,c,rfl,rfl,hz,he,q⟩:=h;obtain⟨t,rfl⟩:=α;obtain⟨t',rfl⟩:=Z;obtain⟨j,h1,h2,ζ,γ,β⟩:=E8 he;have hl:z.cps.toList.length=z.length:=by simp[Str.length]
 rw[hl] at h1 γ β;have hn:=FV
 exact tail_any (ai4 s z t) slot_str_getitem.lookup (getItem_str (c:=c) (by
  have ε:decide (i < -(2 ^ 63:Int))=false:=f' @A;have δ:decide (i≥2 ^ 63)=false:=f' @A;rw[ε,δ,Bool.or_false]) (by rw[h1];simpa using h2) ⟨.str ⟨#[c]⟩,H,I.tok _,⟨_,rfl⟩,q⟩) hs
theorem BC (lo hi:WG Int) (n:Nat):(sliceBounds lo hi gn n).1=((HT.sIx n 0 lo:Nat):Int)/\(sliceBounds lo hi gn n).2.1=((HT.sIx n n hi:Nat):Int)/\(sliceBounds lo hi gn n).2.2=1:=by
 refine⟨?_,?_,rfl⟩
 ·cases lo with
  | none=>simp[sliceBounds,HT.sIx]
  | some i=>
    simp only[sliceBounds,HT.sIx,an1,show(1:Int) > 0 by decide,am4];by_cases h:i < 0
    ·simp only[h,am4]<;>omega
    ·simp only[h,if_false]<;>omega
 ·cases hi with
  | none=>simp[sliceBounds,HT.sIx]
  | some i=>
    simp only[sliceBounds,HT.sIx,an1,show(1:Int) > 0 by decide,am4];by_cases h:i < 0
    ·simp only[h,am4]<;>omega
    ·simp only[h,if_false]<;>omega
theorem z9 (its:F') (lo hi:WG Int):slicePick its.toArray lo hi gn=((its.drop (HT.sIx its.length 0 lo)).take (HT.sIx its.length its.length hi - HT.sIx its.length 0 lo)).toArray:=by
 obtain⟨h1,h2,Y⟩:=BC lo hi its.toArray.size;unfold slicePick;rw[h1,h2,Y];simp only[sliceRange_one,pick_run,WU]<;>rfl
noncomputable def rSlL (K:b'):V->WG Int->WG Int->Hp->VK->Prop:=λx lo hi H Q=>∃a xs,x= .ref a/\SqL K H a xs/\∀p,H p=gn->Q (.ref p) (upd H p (.lst (cutV xs lo hi)))
theorem QN:SlR X (rSlL X.K):=by
 intro pins s σ H x v δ γ lo hi ρ Q I Z hs pl α h;obtain⟨a,xs,rfl,β,q⟩:=h;cases Z;obtain⟨its,r,ht,hz⟩:=I.list β;have Y:=r.length;refine⟨"list",_,slot_list_getitem.lookup,ht.isList.typeIs,?_⟩;refine wpAny_getItem_list_slice ht.isList hs pl α .none @E ?_ (by rw[WU]<;>omega);rw[z9,<-Y];refine⟨.ref s.heap.objs.size,_,I.laid (t':=s.toks) (o:= .lst (cutV xs lo hi)) (λb ob q=>gz _ q) (p' _) ?_,rfl,q _ (I.hok.fresh (p' _))⟩;exact⟨Yi (EZ xs lo hi) hz,_,0,(r.drop (HT.sIx xs.length 0 lo)).take (HT.sIx xs.length xs.length hi - HT.sIx xs.length 0 lo),v' _ rfl⟩
noncomputable def o6:V->X1
 | .non=>true
 | .bl _=>true
 | .int _=>true
 | .str _=>true
 | _=>false
noncomputable def eqV:V->V->X1
 | .non,.non=>true
 | .bl a,.bl b=>a == b
 | .bl a,.int b=>(if a then 1 else 0) == b
 | .int a,.bl b=>a == (if b then 1 else 0)
 | .int a,.int b=>a == b
 | .str a,.str b=>a == b
 | _,_=>false
theorem PL {A:X2} {y x:V} {v:xo} (Z:RelV y u) (Y:RelV x v) (α:o6 y=true) (fx:o6 x=true):ao9 A s u v (eqV y x):=by
 cases y with
 | non=>
   cases Z;cases x with
   | non=>cases Y;exact SeqAt.EqAt.same _
   | bl b=>cases Y;exact SeqAt.EqAt.none_bool b
   | int b=>obtain⟨t,rfl⟩:=Y;exact SeqAt.EqAt.none_int b t
   | str b=>obtain⟨t,rfl⟩:=Y;exact SeqAt.EqAt.none_str b t
   | _=>exact hQ (show false=true from fx) hF
 | bl a=>
   cases Z;cases x with
   | non=>cases Y;exact SeqAt.EqAt.bool_none a
   | bl b=>cases Y;exact SeqAt.EqAt.bool_bool a b
   | int b=>obtain⟨t,rfl⟩:=Y;exact SeqAt.EqAt.bool_int a b t
   | str b=>obtain⟨t,rfl⟩:=Y;exact SeqAt.EqAt.bool_str a b t
   | _=>exact hQ (show false=true from fx) hF
 | int a=>
   obtain⟨t',rfl⟩:=Z;cases x with
   | non=>cases Y;exact SeqAt.EqAt.int_none a t'
   | bl b=>cases Y;exact SeqAt.EqAt.int_bool a t' b
   | int b=>obtain⟨t,rfl⟩:=Y;exact SeqAt.EqAt.int_int a t' b t
   | str b=>obtain⟨t,rfl⟩:=Y;exact al4 a t' b t
   | _=>exact hQ (show false=true from fx) hF
 | str a=>
   obtain⟨t',rfl⟩:=Z;cases x with
   | non=>cases Y;exact SeqAt.EqAt.str_none a t'
   | bl b=>cases Y;exact SeqAt.EqAt.str_bool a t' b
   | int b=>obtain⟨t,rfl⟩:=Y;exact al3 a t' b t
   | str b=>obtain⟨t,rfl⟩:=Y;exact SeqAt.EqAt.str_str a t' b t
   | _=>exact hQ (show false=true from fx) hF
 | _=>exact hQ (show false=true from α) hF
noncomputable def eqU (x:V) (u:xo):Bool:=match u with
 | .none=>eqV .non x
 | .bool b=>eqV (.bl b) x
 | .int i _=>eqV (.int i) x
 | .str z _=>eqV (.str z) x
 | _=>false
theorem PF {x y:V} (r:RelV y u) (f:o6 y=true):eqU x u=eqV y x:=by
 cases y with
 | non=>cases r;rfl
 | bl b=>cases r;rfl
 | int i=>obtain⟨t,rfl⟩:=r;rfl
 | str z=>obtain⟨t,rfl⟩:=r;rfl
 | _=>exact hQ (show false=true from f) hF
theorem yi {x:V}:∀{xs:ef V} {us:F'},Vals xs us->xs.all o6=true->us.any (eqU x)=xs.any λy=>eqV y x
 | _,_,.nil,_=>rfl
 | y::xs,u::us,.cons r t,f=>by
   rw[ai0,Xc] at f;rw[ae0,ae0,PF r f.1,yi t f.2]
theorem sv {A:X2} {s:vr} {x:V} {v:xo} (Y:RelV x v) (fx:o6 x=true):∀{xs:ef V} {us:F'},Vals xs us->xs.all o6=true->∀u∈us,ao9 A s u v (eqU x u)
 | _,_,.nil,_=>λu hu=>by cases hu
 | y::xs,u::us,.cons r t,f=>λZ hu=>by
   rw[ai0,Xc] at f;rcases WH.mp hu with rfl | hu
   ·rw[PF r f.1];exact PL r Y f.1 fx
   ·exact sv Y fx t f.2 Z hu
noncomputable def inV (x:V) (xs:ef V):Bool:=xs.any λy=>eqV y x
noncomputable def rIn (K:b') (neg:X1):R2:=λx y H Q=>∃p xs,y= .ref p/\(SqL K H p xs∨SqT K H p xs)/\o6 x=true/\xs.all o6=true/\Q (.bl (if neg then !inV x xs else inV x xs)) H
theorem Kd:OpR X (compareOp .In) (rIn X.K false):=by
 intro pins s σ H x y v u Q I Y Z h;obtain⟨p,xs,rfl,hq,fx,fs,q⟩:=h;cases Z;rcases hq with hq | hq
 ·obtain⟨its,r,pl,hz⟩:=I.list hq;refine SeqAt.in_listAt (eqU x) pl.isList (λw hw=>sv Y fx r fs w (by simpa using hw)) ⟨.bl _,H,I,rfl,?_⟩;rw[show its.toArray.any (eqU x)=its.any (eqU x) by simp,yi r fs];exact q
 ·obtain⟨its,r,pl,hz⟩:=I.tuple hq;refine SeqAt.in_tupleAt (eqU x) pl (λw hw=>sv Y fx r fs w (by simpa using hw)) ⟨.bl _,H,I,rfl,?_⟩;rw[show its.toArray.any (eqU x)=its.any (eqU x) by simp,yi r fs];exact q
theorem BP:OpR X (compareOp .NotIn) (rIn X.K true):=by
 intro pins s σ H x y v u Q I Y Z h;obtain⟨p,xs,rfl,hq,fx,fs,q⟩:=h;cases Z;rcases hq with hq | hq
 ·obtain⟨its,r,pl,hz⟩:=I.list hq;refine SeqAt.notIn_listAt (eqU x) pl.isList (λw hw=>sv Y fx r fs w (by simpa using hw)) ⟨.bl _,H,I,rfl,?_⟩;rw[show its.toArray.any (eqU x)=its.any (eqU x) by simp,yi r fs];exact q
 ·obtain⟨its,r,pl,hz⟩:=I.tuple hq;refine SeqAt.notIn_tupleAt (eqU x) pl (λw hw=>sv Y fx r fs w (by simpa using hw)) ⟨.bl _,H,I,rfl,?_⟩;rw[show its.toArray.any (eqU x)=its.any (eqU x) by simp,yi r fs];exact q
theorem CY:oq X (.type "list") (λxs H Q=>∃p ys,xs=[.ref p]/\(SqL X.K H p ys∨SqT X.K H p ys)/\∀l,H l=gn->Q (.ref l) (upd H l (.lst ys))):=by
 intro pins s σ H xs us Q I r h;obtain⟨p,ys,rfl,hq,q⟩:=h;obtain⟨u,rfl,α⟩:=vZ r;cases α
 have fin:∀(its:F'),Vals ys its->ys.length<=la->∀(h':Xj) (γ:Nat),(∀b o',s.heap.get? b=a' o'->h'.get? b=a' o')->
   h'.get? s.heap.objs.size=a' {cls:= .type "list",dict:=gn,data:= .seq its.toArray γ,slots:=#[]}->EP X pins σ Q (.ref s.heap.objs.size) {s with heap:=h'}:=λits r' hz h' γ kp e=>
  ⟨.ref s.heap.objs.size,_,I.laid (t':=s.toks) kp (p' _) (show iy X.prog X.w _ h' _ (.lst ys) from⟨hz,its,γ,r',e⟩),rfl,q _ (I.hok.fresh (p' _))⟩
 rcases hq with hq | hq
 ·obtain⟨its,r',pl,hz⟩:=I.list hq;have Y:=r'.length;obtain⟨o,ho,Z,n,hd⟩:=pl.isList;exact call_list_seq p (.inl rfl) ho Z hd (λh' γ kp e=>fin its r' hz h' γ kp e) (by simp only[WU]<;>omega)
 ·obtain⟨its,r',pl,hz⟩:=I.tuple hq;have Y:=r'.length;obtain⟨o,ho,Z,n,hd⟩:=pl;exact call_list_seq p (.inr rfl) ho Z hd (λh' γ kp e=>fin its r' hz h' γ kp e) (by simp only[WU]<;>omega)
theorem Be:oq X (.type "tuple") (λxs H Q=>∃p ys,xs=[.ref p]/\((SqL X.K H p ys/\∀l,H l=gn->Q (.ref l) (upd H l (.tup ys)))∨(SqT X.K H p ys/\Q (.ref p) H))):=by
 intro pins s σ H xs us Q I r h;obtain⟨p,ys,rfl,h⟩:=h;obtain⟨u,rfl,α⟩:=vZ r;cases α;rcases h with ⟨Y,q⟩ | ⟨Y,q⟩
 ·obtain⟨its,r',pl,hz⟩:=I.list Y;have Z:=r'.length;refine call_tuple_list pl.isList (λh' kp=>?_) (by simp only[WU]<;>omega);have I1:Inv X pins σ H {s with heap:=h'}:=I.kept (t':=s.toks) kp
  have β:Inv X pins σ (upd H h'.objs.size (.tup ys)) {s with heap:=h'.push {cls:= .type "tuple",data:= .seq its.toArray}}:=
   I1.laid (t':=s.toks) (λb o e=>gz _ e) (p' _) (show iy X.prog X.w _ _ _ (.tup ys) from⟨hz,its,r',IsTup.new _ _⟩)
  exact⟨.ref h'.objs.size,_,β,rfl,q _ (I1.hok.fresh (p' _))⟩
 ·obtain⟨its,r',pl,hz⟩:=I.tuple Y;exact call_tuple_same pl ⟨.ref p,H,I,rfl,q⟩
def tyV (K:b') (T:Yo) (x:V) (H:Hp):Prop:=match x with
 | .str _=>T="str"
 | .int _=>T="int"
 | .ref p=>(T="list"/\∃xs,SqL K H p xs)∨(T="tuple"/\∃o,K.lookup p=a' o/\o.cls= .type "tuple"/\o.dict=gn)∨
   (T="dict"/\((∃kvs,H p=a' (.dK kvs))∨∃kvs,H p=a' (.dT kvs)))∨(T="set"/\∃S n,H p=a' (.set S n))
 | _=>False
theorem OW {x:V} {v:xo} (I:Inv X pins σ H s) (r:RelV x v) (ty:tyV X.K T x H):
  s.TypeIs v T/\∀a,v= .ref a->∃ob,s.heap.get? a=a' ob/\ob.dict=none:=by
 cases x with
 | str z=>
   obtain⟨t,rfl⟩:=r;cases(show T="str" from ty);exact⟨ai4 s z t,λ_ e=>nomatch e⟩
 | int i=>
   obtain⟨t,rfl⟩:=r;cases(show T="int" from ty);exact⟨au9 s i t,λ_ e=>nomatch e⟩
 | ref p=>
   cases r;rcases ty with ⟨rfl,xs,Z⟩ | ⟨rfl,o,hk,α,hd⟩ | ⟨rfl,hk⟩ | ⟨rfl,S,n,hk⟩
   ·obtain⟨its,_,pl,_⟩:=I.list Z;refine⟨pl.isList.typeIs,λa e=>?_⟩;cases e;obtain⟨o,n,e,c,hd,_⟩:=pl;exact⟨o,e,hd⟩
   ·refine⟨⟨o,I.kIn p o hk,α⟩,λa e=>?_⟩;cases e;exact⟨o,I.kIn _ o hk,hd⟩
   ·have z:∃o,s.heap.get? p=a' o/\o.ExactDict:=by
     rcases hk with ⟨kvs,hk⟩ | ⟨kvs,hk⟩
     ·obtain⟨_,_,_,_,o,_,_,e,ex,_⟩:=I.hok p _ hk;exact⟨o,e,ex⟩
     ·obtain⟨_,_,_,_,o,_,_,e,ex,_⟩:=I.hok p _ hk;exact⟨o,e,ex⟩
    obtain⟨o,e,ex⟩:=z;refine⟨⟨o,e,ex.1⟩,λa Y=>?_⟩;cases Y;exact⟨o,e,ex.2.1⟩
   ·obtain⟨o,_,_,_,e,ex,_⟩:=I.hok p _ hk;refine⟨⟨o,e,ex.1⟩,λa Y=>?_⟩;cases Y;exact⟨o,e,ex.2.1⟩
 | _=>exact Xo ty
noncomputable abbrev tBM0 (K:b') (T:Yo) (r:V->ef V->Hp->VK->Prop) (to:TE):TE:=fun σ H Q=>to σ H λx H1=>tyV K T x H1/\r x [] H1 Q
noncomputable abbrev tBM (K:b') (T:Yo) (r:V->ef V->Hp->VK->Prop) (to:TE) (t:TA):TE:=fun σ H Q=>to σ H λx H1=>tyV K T x H1/\t σ H1 λxs H2=>r x xs H2 Q
variable {o e:XS} {es:ef XS} {to:TE} {t:TA} {name:Wz} {apos cpos:Pos} {T id:Yo} {r:V->ef V->Hp->VK->Prop}
theorem Uc (ε:PlainAttrs T) (slot:Slot T name id) (α:typeOf (.builtin id)=pure (.type "method_descriptor")) (hm:MtR X id r) (ho:PE X o to)
  (Z:attributeBase o name X.env (eval o X.env)=eval o X.env:=by rfl) (Y:(apos.endLine == cpos.line)=true:=by rfl):PE X (.Call (.Attribute o name apos) [] [] cpos) (tBM0 X.K T r to):=by
 intro pins s σ H Q I h;refine wpAny_Call_method0_late Z Y (thn (ho pins s σ H _ I h) λv δ ⟨x,H1,γ,β,ty,ζ⟩=>?_);obtain⟨h1,h2⟩:=OW γ β ty;exact⟨T,id,ε,slot,α,h1,h2,am3 rfl (PySem.evalArgs_none (hm pins δ σ H1 x [] v [] Q γ β .nil ζ))⟩
theorem V5 (ε:PlainAttrs T) (slot:Slot T name id) (γ:typeOf (.builtin id)=pure (.type "method_descriptor")) (hm:MtR X id r) (ho:PE X o to) (ha:PA X (e::es) t)
  (α:attributeBase o name X.env (eval o X.env)=eval o X.env:=by rfl)
  (β:((backTo cpos (zx (e::es) X.env)).all (λx=> !x.1)&&(backToKw cpos (keywordEach [] X.env)).all (λx=>x.1.isSome)
   &&decide ((e::es).length + ([]:ef Keyword).length + (if ([]:ef Keyword).isEmpty then 0 else 1) < 30))=true:=by rfl)
  (Z:(apos.endLine == cpos.line)=true:=by rfl) (hs:zx (e::es) X.env=(false,eval e X.env)::zx es X.env:=by rfl) (Y:(backTo cpos (zx es X.env)).any (·.1)=false:=by rfl):
  PE X (.Call (.Attribute o name apos) (e::es) [] cpos) (tBM X.K T r to t):=by
 intro pins s σ H Q I h;refine wpAny_Call_method_late α β Z rfl (thn (ho pins s σ H _ I h) λv ι ⟨x,H1,η,δ,ty,ο⟩=>?_);obtain⟨h1,h2⟩:=OW η δ ty;refine⟨T,id,ε,slot,γ,h1,h2,?_⟩;have ζ:=ha cpos pins ι σ H1 _ η ο;rw[hs] at ζ ⊢;refine am3 (by show(false||(backTo cpos (zx es X.env)).any (·.1))=false;rw[Y]<;>rfl) (an4 ?_);exact thn ζ λus θ ⟨vs,H2,π,ν,ξ⟩=>hm pins θ σ H2 x vs v us Q π δ ν ξ
end
def MtM (X:Cx) (id:Yo) (r:V->ef V->Hp->VK->Prop):Prop:=
 ∀(pins:E') (s:vr) (σ:St) (H:Hp) (x:V) (xs:ef V) (v:xo) (us:F') (Q:VK),Inv X pins σ H s->RelV x v->Vals xs us->r x xs H Q->
  vu (WA X.prog X.w) X.A (call (.builtin id) (v::us)) (EP X pins σ Q) X.xe s
theorem Vals.one:∀{x:V} {us:F'},Vals [x] us->∃u,us=[u]/\RelV x u
 | _,_,.cons r .nil=>⟨_,rfl,r⟩
theorem Vals.two:∀{x y:V} {us:F'},Vals [x,y] us->∃u v,us=[u,v]/\RelV x u/\RelV y v
 | _,_,_,.cons r (.cons q .nil)=>⟨_,_,rfl,r,q⟩
theorem Vals.rep {xs:ef V} {us:F'} (h:Vals xs us):∀k:Nat,Vals (n' k xs).flatten (n' k us).flatten
 | 0=> .nil
 | k + 1=>by
   rw[Yq,Yq,Z',Z'];exact Vals.append h (Vals.rep h k)
theorem Cu (its:F'):∀(k:Nat) (Y:F'),
  ap8 (λx1 x2=>x1++x2) Y.toArray (n' k its.toArray)=(Y++(n' k its).flatten).toArray
 | 0,Y=>by simp
 | k + 1,Y=>by
   have e:Y.toArray++its.toArray=(Y++its).toArray:=by simp
   have Z:(Y++its)++(n' k its).flatten=Y++(n' (k + 1) its).flatten:=by
    rw[Yq,Z',aa0]
   rw[<-Z,<-Cu its k (Y++its),<-e,Yq,at5]
section
variable {X:Cx} {pins:E'} {σ:St} {H:Hp} {s:vr} {l b:eO} {xs ys zs:ef V}
theorem Inv.lset {its':F'} {n:Nat} {f:K'->K'} {t':Nat} (I:Inv X pins σ H s) (ο:H l=a' (.lst xs))
  (e:s.heap.get? l=a' {cls:= .type "list",data:= .seq its.toArray n}) (hf:f its.toArray=its'.toArray) (Y:Vals ys its') (hz:ys.length<=la):
  Inv X pins σ (upd H l (.lst ys)) {s with heap:=s.heap.update l (XQ f),toks:=t'}:=by
 have q:=PySem.IsL.update e f;rw[hf] at q;refine I.write (x:=l) (e:=l) (by rw[ο];exact trivial) (.inl rfl) (λZ u hb ρ=>(XC s.heap (XQ f) (WK hb)).trans ρ) ⟨_,q⟩ ?_;exact⟨hz,its',_,Y,q⟩
theorem Inv.lnew {t':Nat} (I:Inv X pins σ H s) (Y:Vals ys its) (hz:ys.length<=la):
  Inv X pins σ (upd H s.heap.objs.size (.lst ys)) {s with heap:=s.heap.push {cls:= .type "list",data:= .seq its.toArray},toks:=t'}:=
 I.laid (λ_ _ q=>gz _ q) (p' _) ⟨hz,its,0,Y,v' _ rfl⟩
theorem Inv.fresh (I:Inv X pins σ H s):H s.heap.objs.size=none:=I.hok.fresh (p' _)
theorem Inv.lstM (I:Inv X pins σ H s) (ο:H l=a' (.lst xs)):xs.length<=la/\∃(its:F') (n:Nat),Vals xs its/\xs.length=its.length/\s.heap.get? l=a' {cls:= .type "list",data:= .seq its.toArray n}:=by
 obtain⟨z,its,n,r,e⟩:=I.hok l _ ο;exact⟨z,its,n,r,r.length,e⟩
theorem FH {n:Nat} (h:n<=la):YU n=false:=by
 unfold YU;exact f' @A
end
section
variable {X:Cx}
noncomputable def JS:V->ef V->Hp->VK->Prop:=λx vs H Q=>∃l xs y,x= .ref l/\vs=[y]/\H l=a' (.lst xs)/\xs.length < la/\Q .non (upd H l (.lst (xs++[y])))
theorem ie:MtM X "list.append" JS:=by
 intro pins s σ H x vs v us Q I Y Z h;obtain⟨l,xs,y,rfl,rfl,ο,hz,q⟩:=h;cases Y;obtain⟨u,rfl,α⟩:=Z.one;obtain⟨z,its,n,r,hl,e⟩:=I.lstM ο;refine ZK F.slot_list_append ⟨_,e,rfl⟩ F.entry_list_append (F.args_list_append_2 _ _) (PySem.list_append l its.toArray n u (by rw[WU];omega)) ⟨e,?_⟩;refine⟨.non,_,I.lset (its':=its++[u]) ο e @E (r.append (.cons α .nil)) ?_,rfl,q⟩;rw[eX,WS];omega
noncomputable def Ed:V->ef V->Hp->VK->Prop:=λx vs H Q=>∃l b xs zs,x= .ref l/\vs=[.ref b]/\H l=a' (.lst xs)/\H b=a' (.lst zs)/\xs.length + zs.length<=la/\Q .non (upd H l (.lst (xs++zs)))
theorem ja:MtM X "list.extend" Ed:=by
 intro pins s σ H x vs v us Q I α β h;obtain⟨l,b,xs,zs,rfl,rfl,ο,ω,hz,q⟩:=h;cases α;obtain⟨u,rfl,γ⟩:=β.one;cases γ;obtain⟨z,its,n,r,hl,e⟩:=I.lstM ο;obtain⟨η,Y,ε,δ,hl2,ζ⟩:=I.lstM ω;have hsz:its.toArray.size + Y.toArray.size<=sizeLine:=by rw[WU,WU];omega
 have Z:¬(!its.toArray.isEmpty&&YU (its.toArray.size + Y.toArray.size))=true:=by
  rw[FH hsz,Y3];exact hF
 refine ZK F.slot_list_extend ⟨_,e,rfl⟩ F.entry_list_extend (F.args_list_extend_2 _ _)
  (AutoSeq1.list_extend_list_list_0 l its.toArray n b Y.toArray ε Z (by rw[WU];omega) @A) ⟨e,ζ,?_⟩
 refine⟨.non,_,I.lset (its':=its++Y) ο e @E (r.append δ) ?_,rfl,q⟩;rw[eX];omega
noncomputable def rCat:R2:=λx y H Q=>∃l b xs zs,x= .ref l/\y= .ref b/\H l=a' (.lst xs)/\H b=a' (.lst zs)/\xs.length + zs.length<=la/\∀p,H p=gn->Q (.ref p) (upd H p (.lst (xs++zs)))
theorem km:OpR X (binaryOp .Add) rCat:=by
 intro pins s σ H x y v u Q I α Z h;obtain⟨l,b,xs,zs,rfl,rfl,ο,ω,hz,q⟩:=h;cases α;cases Z;obtain⟨z,its,n,r,hl,e⟩:=I.lstM ο;obtain⟨δ,Y,ε,β,hl2,γ⟩:=I.lstM ω;refine PySem.P.add_list e γ ?_ (by rw[WU,WU];omega);have ea:its.toArray++Y.toArray=(its++Y).toArray:=by simp
 rw[ea];exact⟨.ref _,_,I.lnew (t':=s.toks) (r.append β) (by rw[eX];omega),rfl,q _ I.fresh⟩
noncomputable def rRep:R2:=λx y H Q=>∃l k xs,x= .ref l/\y= .int k/\H l=a' (.lst xs)/\-(2 ^ 63)<=k/\k < 2 ^ 63/\xs.length * k.toNat<=la/\
 ∀p,H p=gn->Q (.ref p) (upd H p (.lst (n' k.toNat xs).flatten))
theorem Rv {α:Type} (xs:ef α) (k:Nat):(n' k xs).flatten.length=k * xs.length:=by
 induction k with
 | zero=>simp
 | succ k ih=>rw[Yq,Z',eX,ih,ah8,al0]
theorem Ka:OpR X (binaryOp .Mult) rRep:=by
 intro pins s σ H x y v u Q I ε δ h;obtain⟨l,k,xs,rfl,rfl,ο,h1,h2,hz,q⟩:=h;cases ε;obtain⟨t,rfl⟩:=δ;obtain⟨z,its,n,r,hl,e⟩:=I.lstM ο;have α:its.toArray.size * k.toNat<=sizeLine:=by rw[WU,<-hl];exact hz
 have γ:¬its.toArray.size * k.toNat > (2 ^ 63 - 1) / 8:=by
  have:(la:Nat)<=(2 ^ 63 - 1) / 8:=by decide
  omega
 have β:¬(!Builtin.List.listFitsIndex k)=true:=by
  rw[fitsIndex_both h1 h2];exact hF
 have Y:¬YU (its.toArray.size * k.toNat)=true:=by
  rw[FH α];exact hF
 have Z:ap8 (λx1 x2=>x1++x2) #[] (n' (if its.toArray.isEmpty=true then 0 else k.toNat) its.toArray)=(n' k.toNat its).flatten.toArray:=by
  have ζ:∀m:Nat,ap8 (λx1 x2=>x1++x2) #[] (n' m its.toArray)=(n' m its).flatten.toArray:=λm=>by
   have:=Cu its m [];rw[List.nil_append] at this;exact this
  rw[ζ];cases its with
  | nil=>simp
  | cons a r'=>rw[oT @E]
 refine wpAny_binaryOp_repeat_ref (T:="list") (U:="int") @C ⟨_,e,rfl⟩ (λs'=>au9 s' k t) noFill_list_mul F.fills_int_mul F.slot_int_rmul repeat_list F.slot_int_index.lookup
  (ZK F.slot_int_rmul (au9 s k t) F.entry_int_rmul (F.args_int_rmul_2 _ _) (int___rmul___int_list k t l its.toArray n)
   ⟨e,rfl,⟨_,e,rfl⟩,ZK F.slot_list_mul ⟨_,e,rfl⟩ F.entry_list_mul (F.args_list_mul_2 _ _) (AutoListH.list___mul___list_int_3 l its.toArray n k t β γ Y) ⟨e,?_⟩⟩)
 rw[Z];exact⟨.ref _,_,I.lnew (t':=s.toks) (r.rep k.toNat) (by rw[Rv,Z9];exact hz),rfl,q _ I.fresh⟩
end
end L2
namespace Att
open PySem PySem.W PySem.Calls PyProof.Rows
theorem xN {P:Params} {h:Xj}:∀(ns:P') (vs:F'),WellAll P h vs (ns.map WData.int)->IntsAre vs ns:=by
 intro ns
 induction ns with
 | nil=>
   intro vs w;rw[ah7] at w;cases w;exact .nil
 | cons n ns ih=>
   intro vs w;rw[Xk] at w;cases w with
   | cons a b=>
     cases a;exact .cons _ _ (ih _ b)
theorem JC {l:aq8} {n:Nat} (hn:l.most=a' n) {P:Params} {h:Xj} {args:ef WData}
  (Y:l.row.toRowW.claim.pre args=true) (δ:WellAll P h bv args):
  ∃a vs ns,bv=[WD a]/\args=[WData.list (ns.map WData.int)]/\h.get? a=a' {cls:= .type "list",data:= .seq vs.toArray}/\IntsAre vs ns/\ns.length<=n:=by
 have ε:WShape.hasAll [] args [.list .int]=true:=(pre_splitW Y).1;have ζ:l.pre.holds [] {args:=args}=true:=(pre_splitW Y).2;obtain⟨d,r,rfl,h1,h2⟩:=hasAllW_cons ε;obtain rfl:=hasAllW_nil h2;obtain⟨xs,rfl,ι⟩:=hasW_list h1;obtain⟨ns,rfl⟩:=items_int ι
 have Z:ns.length<=n:=by
  unfold OpenLaw.pre at ζ
  have γ:(WTm.not (.lt (.lit (.int (n:Int))) (.len (.arg 0)))).holds [] {args:=[.list (ns.map .int)]}=true:=by
   have γ:=(holds_andW ζ).1;rw[hn] at γ;exact γ
  have β:=condW_of γ (w_not (w_lt w_lit (w_len_list (w_arg rfl))));rw[bx] at β;refine Zr λq=>?_;have φ:(n:Int) < ((ns.length:Nat):Int):=by omega
  first
   | (rw[hE φ] at β;exact hQ β @C)
   | (simp at β;omega)
 cases δ with
 | cons θ η=>
   cases η;cases θ with
   | list ho α=>exact⟨_,_,ns,rfl,rfl,ho,xN ns _ α,Z⟩
theorem J2 (l:aq8) (args:ef WData):l.row.toRowW.claim.post args (.bool true) args=true:=
 postW_of (r:=l.row.toRowW) (X:=(true == true))
  (show av5 [] (.bool true) .bool=true by first | rfl | decide | simp[av5,WShape.arms,WShape.armsAll])
  (show(WTm.eq .res (.lit (.bool true))).value [] {args:=args,res:=a' (.bool true),after:=args}=a' (.bool (true == true)) from w_eq_bool (w_res rfl) w_lit) rfl
theorem attach_call {l:aq8} {n:Nat} {q:WJ} {ψ:G'->Xj->Prop} {φ:X5->Xj->Prop} {d:DefRec}
  (hn:l.most=a' n) (π:d.params.defaults=[])
  (call:∀(w:X5) (s₀ Z:vr) (mg ι:G') (ζ:eO) (o:Obj) (θ η χ:xo) (a:eO) (vs:F') (ns:P'),
   Ground q N [] ψ w s₀ mg ι Z.heap->φ w Z.heap->
   Z.heap.get? ζ=a' o->o.data= .func (docDef d.name d.params d.body d.scope θ η χ)->Z.heap.CodeRec η d.name->mg d.name=a' (.ref ζ)->
   Z.heap.get? a=a' {cls:= .type "list",data:= .seq vs.toArray}->IntsAre vs ns->ns.length<=n->Z.gens=#[]->
   codeAny (WA l.prog w) callerA (.call (.ref ζ) ⟨[.ref a],[]⟩) (λr s'=>r= .ok (.ret (.bool true))/\OldK Z.heap s'.heap/\s'.os=Z.os/\AllBare s'.gens) Z):
  WalkO q N ψ φ l.row.toRowW d [] (λf vs=>ap0 f vs):=by
 intro w s₀ Z mg ι G Y ζ o θ η χ dV kV ho hd ο υ ξ hg args ω as γ ρ τ ν a0;obtain rfl:dV= .none:=Dflts.none υ π;obtain rfl:kV= .none:=Dflts.noKw υ;obtain⟨a,vs,ns,rfl,rfl,δ,β,ε⟩:=JC hn γ ν;refine enter_call (ad5 (call w s₀ Z mg ι ζ o θ η χ a vs ns G Y ho (fd_plain hd) ο ξ δ β ε hg) λr s' hq=>?_);obtain⟨rfl,h2,h3,h4⟩:=hq;exact⟨.inl ⟨.bool true,.bool true,[],rfl,λ_=>rfl,.bool true,J2 l _,λ_=>⟨aj5,λ_ hm=>(nomatch hm)⟩⟩,h2,h3,h4⟩
end Att
namespace L2
open PySem PySem.Spec PyProof.Rows
theorem vY:∀{vs:F'} {ns:P'},IntsAre vs ns->Vals (ns.map V.int) vs
 | _,_,.nil=> .nil
 | _,_,.cons n t h=> .cons ⟨t,rfl⟩ (vY h)
def Only (H:Hp):Prop:=∀b,H b=gn∨∃o xs,H b=a' (.frz o (.lst xs))
theorem N7 {P:WJ} {w:X5} {K:b'} {k:Nat} {x:Wz} {Y:vr} {vs:F'}
  (KX:K.In Y.heap) (η:Y.heap.Ns WZ mg) (hb:Y.heap.Ns builtinsNs mA) (ο:∀x:Wz,x≠"__name__"->mA x=bootBuiltins x) (θ:Y.heap.NoLimit) (hg:Y.gens=#[])
  (ha:Y.heap.get? a=a' {cls:= .type "list",data:= .seq vs.toArray}) (hi:IntsAre vs ns) (hl:ns.length<=la) (hr:Room k callerA)
  (F:∀base:Xj,K.In base->base.Ns WZ mg->FnOk P w K mg base CX k C fd [x] sp) (γ:∀(s:vr) (u:xo),BindsTo s fd ⟨[u],[]⟩ [(x,u)])
  (β:∀H:Hp,Only H->SqL K H a (ns.map V.int)->sp [.ref a] H (λv _=>v= .bl true) λ_ _ _=>False)
  (π:∀H e s',CX [] H Y (λ_ _ _=>False) e s'->False):
  codeAny (WA P w) callerA (.call (.ref C) ⟨[.ref a],[]⟩) (λr s'=>r= .ok (.ret (.bool true))/\OldK Y.heap s'.heap/\s'.os=Y.os/\AllBare s'.gens) Y:=by
 have ψ:=vY hi;have ε:=hi.length
 have α:∀H:Hp,Only H->SqL K H a (ns.map V.int)->HOk P w H Y.heap->(∀b,H b≠gn->b=a)->(H a≠gn->K.lookup a=gn)->
   codeAny (WA P w) callerA (.call (.ref C) ⟨[.ref a],[]⟩) (λr s'=>r= .ok (.ret (.bool true))/\OldK Y.heap s'.heap/\s'.os=Y.os/\AllBare s'.gens) Y:=by
  intro H hO hS hok ω hK;have Z:∀{b:eO} {o:Obj},Y.heap.get? b=a' o->H b=gn->(hidT Y.heap H).get? b=a' o:=λe n=>Oe e n
  have ξ:∀{b:eO} {o:Obj} {es:an0 DictEntry} {ep:Nat},Y.heap.get? b=a' o->o.data= .dict es ep->H b=none:=λ{b o es ep} e d=>by
   cases q:H b with
   | none=>rfl
   | some u=>
     have χ:b=a:=ω b (by rw[q];simp);subst χ;rw[ha] at e;cases e;have d':Data.seq vs.toArray _=Data.dict es ep:=d;cases d'
  have υ:∀{b:eO} {m:G'},Y.heap.Ns b m->(hidT Y.heap H).Ns b m:=λ{b m} ⟨o,es,ep,e,d,r⟩=>⟨o,es,ep,Z e (ξ e d),d,r⟩
  have ν:K.In (hidT Y.heap H):=λb o e=>Z (KX b o e) (by
   cases q:H b with
   | none=>rfl
   | some u=>
     have χ:b=a:=ω b (by rw[q];simp);subst χ;rw[hK (by rw[q];simp)] at e;cases e)
  have hM:Mod K mg (hidT Y.heap H):=⟨ν,υ η,⟨mA,υ hb,ο⟩,let ⟨τ,h1,h2⟩:=θ;⟨τ,υ h1,h2⟩⟩;have e0:Env0 P w K mg (hidT Y.heap H) callerA [] Y H:=⟨rfl,hM,λb o e=>Rl e,ak9 (KZ _ _),trivial,λb hb=>hQ (show b∈([]:M') from hb) @E,hok,.of_eq hg⟩;refine ad5 ((F _ ν (υ η)).run callerA [] Y H ⟨[.ref a],[]⟩ [.ref a] [.ref a] _ _ hr e0 (γ Y (.ref a)) (.cons rfl .nil) (β H hO hS)) λr s' h=>?_;cases r with
  | error e=>exact(π H e s' h).elim
  | ok fl=>
    cases fl with
    | next=>exact Xo h
    | brk=>exact Xo h
    | cont=>exact Xo h
    | ret u=>
      obtain⟨v,H',os,bare,un,ζ,r',q⟩:=h;have φ:v= .bl true:=q;subst φ;obtain rfl:u=ao8 true:=r';refine⟨rfl,OldK.of_keep λb o e=>?_,os,bare⟩;cases q:H b with
      | none=>exact un.keep b o e q (by intro z;exact hQ (show b∈([]:M') from z) @E) @E
      | some u=>
        rcases hO b with z | ⟨ob,xs,z⟩
        ·rw[q] at z;cases z
        ·have z2:=un.frzs b ob _ z;obtain⟨e1,_⟩:=hok b _ z;obtain⟨e2,_⟩:=ζ b _ z2;rw[e] at e1;cases e1;exact e2
 cases hk:K.lookup a with
 | some o=>
   have e:=KX a o hk;rw[ha] at e;cases e;refine α (λ_=>gn) (λ_=> .inl rfl) (.inr ⟨_,vs.toArray,_,hk,rfl,rfl,rfl,by rw[WU,ε];exact hl,by simpa using ψ⟩) (λb u z=>by have δ:(gn:WG HO)=a' u:=z;cases δ) (λb z=>hQ rfl z) λz=>hQ rfl z
 | none=>
   refine α (λb=>if b=a then a' (.frz {cls:= .type "list",data:= .seq vs.toArray} (.lst (ns.map V.int))) else gn) (λb=>?_) (.inl (.inr ⟨{cls:= .type "list",data:= .seq vs.toArray},zt rfl⟩)) (λb u z=>?_) (λb z=>?_) λ_=>hk
   ·by_cases hb:b=a
    ·exact .inr ⟨_,_,zt hb⟩
    ·exact .inl (oT hb)
   ·by_cases hb:b=a
    ·have δ:=(zt hb).symm.trans z;cases δ;subst hb;exact⟨ha,by rw[bx];exact hl,vs,_,ψ,ha⟩
    ·have δ:=(oT hb).symm.trans z;cases δ
   ·by_cases hb:b=a
    ·exact hb
    ·exact hQ (oT hb) z
theorem walk_of {l:PySem.W.OpenLaw} {n k:Nat} {q:WJ} {XP:G'->Xj->Prop} {ξ:X5->Xj->Prop} {d:DefRec} {K:Params->b'} {CX:X5->CXT} {sp:X5->Sp} {x:Wz}
  (hn:l.most=a' n) (η:n<=la) (π:d.params.defaults=[]) (τ:Room k callerA)
  (ψ:∀(w:X5) (h:Xj),ξ w h->(K w.params).In h)
  (F:∀(w:X5) (mg:G') (ζ:eO) (h:Xj),(K w.params).In h->h.Ns WZ mg->mg d.name=a' (.ref ζ)->
   ∃fd:iv,(∀(s:vr) (u:xo),BindsTo s fd ⟨[u],[]⟩ [(x,u)])/\
     ∀base:Xj,(K w.params).In base->base.Ns WZ mg->FnOk l.prog w (K w.params) mg base (CX w) k ζ fd [x] (sp w))
  (β:∀(w:X5) (H:Hp) (a:eO) (ns:P'),ns.length<=n->Only H->SqL (K w.params) H a (ns.map V.int)->sp w [.ref a] H (λv _=>v= .bl true) λ_ _ _=>False)
  (ν:∀(w:X5) (H:Hp) (s:vr) (e:xo) (s':vr),CX w [] H s (λ_ _ _=>False) e s'->False):
  PySem.W.WalkO q N XP ξ l.row.toRowW d [] (λf vs=>ap0 f vs):=by
 refine Att.attach_call hn π λw s₀ δ mg ι ζ o pm cd χ a vs ns G Y ho hd φ θ ε γ Z υ=>?_;have ο:=ψ w _ Y;obtain⟨fd,hb,ρ⟩:=F w mg ζ _ ο G.T.g θ;exact N7 ο G.T.g G.T.b G.T.builtins G.T.nolimit υ ε γ (Yi Z η) τ ρ hb (λH hO ω=>β w H a ns Z hO ω) λH e s'=>ν w H δ e s'
noncomputable def bE (s:ZD) (j:Nat):Stmt:=match s with
 | .ClassDef _ _ _ Y _ _ _ _ _ _ _=>Y.getD j (.Pass ⟨0,0,0,0⟩)
 | _=> .Pass ⟨0,0,0,0⟩
noncomputable def iT (s:ZD):Arguments:=match s with
 | .FunctionDef _ a _ _ _ _ _ _ _ _=>a
 | _=>{posonlyargs:=[],args:=[],vararg:=gn,kwonlyargs:=[],kw_defaults:=[],kwarg:=gn,defaults:=[]}
noncomputable def fP (s:ZD):ef Stmt:=match s with
 | .FunctionDef _ _ b _ _ _ _ _ _ _=>b
 | _=>[]
noncomputable def ag (s:ZD):Scope:=match s with
 | .FunctionDef _ _ _ _ _ _ ζ _ _ _=>ζ
 | _=>{kind:= .function,names:=[],isGenerator:=false,isCoroutine:=false}
noncomputable abbrev CX0:CXT:=λ_ _ _ _ _ _=>False
noncomputable abbrev E0:XK:=λ_ _ _=>False
theorem bJ:tH CX0 X E0:=λ_ _ _ _ _ _ _ h=>h.elim
structure Fun (K:b') (x qual:Wz) (st:ZD) (f:eO) (fd:iv):Prop where
 ex:∃(oc:xo) (od:Q') (kV doc pm:xo) (an:Q') (cdv ct:xo) (osl:L'),
  fd=X' x qual (iT st) (fP st) (ag st) .none kV doc pm an cdv ct/\K.lookup f=a' ⟨oc,od,.func fd,osl⟩/\YS K cdv qual=true
 kp:XM K (.ref f)=true
section
variable {P:WJ} {w:X5} {K:b'} {mg:G'} {base:Xj}
theorem Fun.ok {x:Wz} {st:ZD} {f:eO} {ps:B'} {k:Nat} (F:Fun K x z st f fd) (S:av N ps (ag st)) (len:∀vs H Q E,sp vs H Q E->vs.length=ps.length)
  (ε:∀(Z:xo) (A:X2) (outer:ef Env) (s:vr) (H:Hp) (vs:ef V) (Q:VK) (E:XK),Room k (A.deeper (envOfC z (ag st) s.heap.objs.size f Z))->sp vs H Q E->
   ∃t,PSs (cxOf CX0 P w K mg base N z (ag st) f Z A outer s H E).nox (fP st) t/\t {nx:=λ_ H'=>Q .non H',rt:=Q} (start N vs) H):FnOk P w K mg base CX0 (k + 1) f fd ps sp:=by
 obtain⟨η,od,kV,χ,ζ,an,Z,ct,γ,rfl,lk,α⟩:=F.ex;refine RS lk α S len λA outer s H vs Q E δ β=>?_;obtain⟨t,h,q⟩:=ε Z A outer s H vs Q E δ β;exact⟨t,h.nox,q⟩
theorem Fun.okA {x:Wz} {st:ZD} {f:eO} {ps:B'} {k:Nat} (F:Fun K x z st f fd) (S:av N ps (ag st))
  (ε:∀(Z:xo) (A:X2) (outer:ef Env) (s:vr) (H:Hp) (vs:ef V) (Q:VK) (E:XK),Room k (A.deeper (envOfC z (ag st) s.heap.objs.size f Z))->sp vs H Q E->
   ∃t,PSs (cxOf CX0 P w K mg base N z (ag st) f Z A outer s H E).nox (fP st) t/\t {nx:=λ_ H'=>Q .non H',rt:=Q} (start N vs) H) (len:∀vs H Q E,sp vs H Q E->vs.length=ps.length:=by walk_at "n"):FnOk P w K mg base CX0 (k + 1) f fd ps sp:=F.ok S len ε
theorem Fun.binds {x:Wz} {st:ZD} {f:eO} {ps:B'} (F:Fun K x z st f fd)
  (h:∀(kV χ α:xo) (an:Q') (Z ct:xo) (us:F'),us.length=ps.length->bindArgs (X' x z (iT st) (fP st) (ag st) .none kV χ α an Z ct) ⟨us,[]⟩=pure (ps.zip us)):qv K fd ps []:=by
 obtain⟨δ,od,kV,χ,α,an,Z,ct,β,rfl,lk,γ⟩:=F.ex;exact .all (h kV χ α an Z ct)
theorem Pw {x:Wz} {st:ZD} {f:eO} (l:K.lookup f=a' ⟨γ,wE,.func (X' x z (iT st) (fP st) (ag st) .none u χ δ an dv ct),α⟩)
  (c:YS K dv z=true) (k:XM K (.ref f)=true):Fun K x z st f (X' x z (iT st) (fP st) (ag st) .none u χ δ an dv ct):=⟨⟨γ,wE,u,χ,δ,an,dv,ct,α,rfl,l,c⟩,k⟩
end
theorem sM {A:X2} {k:Nat} (Y:Room k A):A.units + 1 < cLine:=Xl (Nat.add_le_add_left (by decide:1<=64) _) Y.units
theorem aR {n:Nat} (h:n<=1000):n < sizeLine:=Xl h @C
section
variable {X:Cx}
theorem pv (i:Nat) {x:Wz} (α:X.N[i]? =a' x:=by rfl) (Z:Vis X.env.scope x:=by first | exact ZN rfl | exact Zp (ZN rfl) | exact Zp (Zp rfl)) (hd:(x == ("__debug__":Wz))=false:=by decide)
  (Y:(x == ("__classdict__":Wz))=false:=by decide):PE X (.Name x pos) (tVar i):=T7 α Z hd Y
end
theorem ite2 {c A B:Prop} [Decidable c] (h1:c->A) (h2:¬c->B):if c then A else B:=by
 by_cases h:c
 ·rw[zt h];exact h1 h
 ·rw[oT h];exact h2 h
def Same (H H':Hp):Prop:=∀b o,H b=a' o->H' b=a' o
theorem Same.refl (H:Hp):Same H H:=λ_ _ h=>h
theorem Same.trans (a:Same H H1) (b:Same H1 H2):Same H H2:=λc o h=>b c o (a c o h)
theorem Same.free (e:Same H H') (h:H' l=Option.none):H l=Option.none:=by
 cases q:H l with
 | none=>rfl
 | some o=>
   rw[e l o q] at h;cases h
theorem Same.seq {K:b'} {xs:ef V} (e:Same H H') (h:SqL K H a xs):SqL K H' a xs:=by
 rcases h with (h | ⟨o,h⟩) | h
 ·exact .inl (.inl (e _ _ h))
 ·exact .inl (.inr ⟨o,e _ _ h⟩)
 ·exact .inr h
section
variable {κ:Type} [DecidableEq κ]
noncomputable def valV (kvs:ef (κ×V)) (k:κ):WG V:=(kvs.find? λY=>decide (Y.1=k)).map (·.2)
noncomputable def putK (kvs:ef (κ×V)) (k:κ) (v:V):ef (κ×V):=
 if (kvs.any λY=>decide (Y.1=k))=true then kvs.map (λY=>if Y.1=k then (Y.1,v) else Y) else kvs++[(k,v)]
theorem mQ {p:κ×V} {r:ef (κ×V)} {k:κ} (e:p.1=k):valV (p::r) k=a' p.2:=by simp[valV,Zx,e]
theorem mR {p:κ×V} {r:ef (κ×V)} {k:κ} (e:¬p.1=k):valV (p::r) k=valV r k:=by simp[valV,Zx,e]
theorem rQ (k:κ):∀kvs:ef (κ×V),(kvs.any λY=>decide (Y.1=k))=(valV kvs k).isSome
 | []=>rfl
 | p::r=>by
   rw[ae0];by_cases e:p.1=k
   ·simp only[mQ e,hE e,Bool.true_or,Option.isSome_some]
   ·rw[mR e,f' e,Bool.false_or];exact rQ k r
theorem xA (kvs:ef (κ×V)) (k:κ) (v:V):(putK kvs k v).length<=kvs.length + 1:=by
 unfold putK;split
 ·rw[bx];omega
 ·rw[eX,Xa,ag2];omega
theorem RelO.isSome_eq {o:WG V} {u:V'} (r:RelO o u):o.isSome=u.isSome:=by
 cases o with
 | none=>cases u with
   | none=>rfl
   | some _=>exact(show False from r).elim
 | some _=>cases u with
   | none=>exact(show False from r).elim
   | some _=>rfl
theorem KV.val {kvs:ef (κ×V)} {vs:ef (κ×xo)} (r:KV kvs vs) (k:κ):RelO (valV kvs k) (valueAt vs k):=by
 unfold KV at r
 induction r with
 | nil=>exact ab7
 | @cons p q ps qs h t ih=>
   obtain⟨h1,h2⟩:=h;by_cases e:p.1=k
   ·have Y:q.1=k:=h1.symm.trans e;have b:valueAt (q::qs) k=a' q.2:=by simp[valueAt,Zx,Y]
    rw[mQ e,b];exact h2
   ·have Y:¬q.1=k:=λz=>e (h1.trans z);have b:valueAt (q::qs) k=valueAt qs k:=by simp[valueAt,Zx,Y]
    rw[mR e,b];exact ih
theorem KV.any {kvs:ef (κ×V)} {vs:ef (κ×xo)} (r:KV kvs vs) (k:κ):(kvs.any λY=>decide (Y.1=k))=vs.any λY=>decide (Y.1=k):=by
 unfold KV at r
 induction r with
 | nil=>rfl
 | cons h t ih=>rw[ae0,ae0,ih,h.1]
theorem KV.repl {kvs:ef (κ×V)} {vs:ef (κ×xo)} (r:KV kvs vs) (k:κ) {y:V} (Z:RelV y u):
  KV (kvs.map λY=>if Y.1=k then (Y.1,y) else Y) (vs.map λY=>if Y.1=k then (Y.1,u) else Y):=by
 unfold KV at r ⊢
 induction r with
 | nil=>exact .nil
 | @cons p q ps qs h t ih=>
   rw[Xk,Xk];refine .cons ?_ ih;obtain⟨h1,h2⟩:=h;by_cases e:p.1=k
   ·rw[zt e,zt (h1.symm.trans e)];exact⟨h1,Z⟩
   ·rw[oT e,oT (λz=>e (h1.trans z))];exact⟨h1,h2⟩
theorem KV.put {kvs:ef (κ×V)} {vs:ef (κ×xo)} (r:KV kvs vs) (k:κ) {y:V} (Y:RelV y u):KV (putK kvs k y) (stored vs k u):=by
 unfold putK stored;rw[r.any k];by_cases e:(vs.any λZ=>decide (Z.1=k))=true
 ·rw[zt e,zt e];exact r.repl k Y
 ·rw[oT e,oT e];exact av1 r ⟨rfl,Y⟩
theorem KV.keys {kvs:ef (κ×V)} {vs:ef (κ×xo)} (r:KV kvs vs):kvs.map (·.1)=vs.map (·.1):=by
 unfold KV at r
 induction r with
 | nil=>rfl
 | cons h t ih=>rw[Xk,Xk,ih,h.1]
theorem KV.length {kvs:ef (κ×V)} {vs:ef (κ×xo)} (r:KV kvs vs):kvs.length=vs.length:=aj4 r
end
theorem Hv {P:WJ} {w:X5} {k:Key} (r:RelV (kV k) u):(dO P w).is k u=true:=by
 cases k with
 | inl i=>obtain⟨t,e⟩:=(show ∃t,u=al1 i t from r);subst e;exact EC P w i t
 | inr x=>obtain⟨t,e⟩:=(show ∃t,u=ag5 x t from r);subst e;exact EB P w x t
theorem Cf {P:WJ} {w:X5}:∀{ks:ef Key} {us:F'},Vals (ks.map kV) us->ItemsAre (dO P w) ks us
 | [],_,r=>by rw[ah7] at r;cases r;exact .nil
 | k::ks,_,r=>by
   rw[Xk] at r;cases r with
   | cons h t=>exact .cons (Hv h) (Cf t)
noncomputable abbrev KT (H:Hp):ef (ef Key×V)->ef (ef Key×eO×xo)->Prop:=Paired λp q=>p.1=q.1/\H q.2.1=a' (.tup (p.1.map kV))/\RelV p.2 q.2.2
theorem KT.val {kvs:ef (ef Key×V)} {xs:ef (ef Key×eO×xo)} (r:KT H kvs xs) (k:ef Key):RelO (valV kvs k) ((atKey xs k).map (·.2)):=by
 induction r with
 | nil=>exact ab7
 | @cons p q ps qs h t ih=>
   obtain⟨h1,_,h2⟩:=h;by_cases e:p.1=k
   ·have Y:q.1=k:=h1.symm.trans e;have b:atKey (q::qs) k=a' q.2:=by simp[atKey,Zx,Y]
    rw[mQ e,b];exact h2
   ·have Y:¬q.1=k:=λz=>e (h1.trans z);have b:atKey (q::qs) k=atKey qs k:=by simp[atKey,Zx,Y]
    rw[mR e,b];exact ih
theorem KT.repl {kvs:ef (ef Key×V)} {xs:ef (ef Key×eO×xo)} (r:KT H kvs xs) (k:ef Key) {y:V} (Z:RelV y u):
  KT H (kvs.map λY=>if Y.1=k then (Y.1,y) else Y) (xs.map (putAt k u)):=by
 induction r with
 | nil=>exact .nil
 | @cons p q ps qs h t ih=>
   rw[Xk,Xk];refine .cons ?_ ih;obtain⟨h1,h2,α⟩:=h;unfold putAt;by_cases e:p.1=k
   ·rw[zt e,zt (h1.symm.trans e)];exact⟨h1,h2,Z⟩
   ·rw[oT e,oT (λz=>e (h1.trans z))];exact⟨h1,h2,α⟩
theorem KT.put {kvs:ef (ef Key×V)} {xs:ef (ef Key×eO×xo)} (r:KT H kvs xs) (k:ef Key) {b:eO} {y:V} (hb:H b=a' (.tup (k.map kV))) (Y:RelV y u):
  KT H (putK kvs k y) (storedH xs k b u):=by
 have e:(kvs.any λZ=>decide (Z.1=k))=(atKey xs k).isSome:=by
  rw[rQ,(r.val k).isSome_eq,ag3]
 unfold putK storedH;rw[e];by_cases q:(atKey xs k).isSome=true
 ·rw[zt q,zt q];exact r.repl k Y
 ·rw[oT q,oT q];exact av1 r ⟨rfl,hb,Y⟩
theorem KT.keeps {kvs:ef (ef Key×V)} {xs:ef (ef Key×eO×xo)} (r:KT H kvs xs) (ht:∀b ys,H b=a' (.tup ys)->H' b=a' (.tup ys)):KT H' kvs xs:=
 Paired.mapP r λ_ _ z=>⟨z.1,ht _ _ z.2.1,z.2.2⟩
section
variable {P:WJ} {w:X5} {H:Hp} {h:Xj} {a:eO}
theorem TC {u:HO} (ok:HOk P w H h) (e:Rd H a u):iy P w H h a u:=e.ok ok
theorem Ly (ok:HOk P w H h) (e:Rd H a (.dK kvs)):kvs.length<=la/\(a == sysModules)=false/\∃vs,KV kvs vs/\h.DictOf (dO P w) a vs:=
 show iy P w H h a (.dK kvs) from TC ok e
theorem U3 (ok:HOk P w H h) (e:H a=a' (.dK kvs)):kvs.length<=la/\(a == sysModules)=false/\∃vs,KV kvs vs/\h.DictOf (dO P w) a vs:=Ly ok (.inl e)
theorem Cd {ks:ef Key} (ok:HOk P w H h) (e:H a=a' (.tup (ks.map kV))):(tupleKind (dO P w)).is h ks a:=by
 obtain⟨_,its,r,o,h1,h2,n,Y⟩:=(show iy P w H h a (.tup (ks.map kV)) from ok a _ e);exact⟨o,its.toArray,n,h1,h2,Y,by simpa using Cf r⟩
theorem Lx {kvs:ef (ef Key×V)} (ok:HOk P w H h) (e:Rd H a (.dT kvs)):kvs.length<=la/\(a == sysModules)=false/\
  ∃xs,KT H kvs xs/\h.DictOfH (tupleKind (dO P w)) a xs:=by
 obtain⟨z,y,xs,r,o,es,ep,h1,h2,β,α,Z⟩:=(show iy P w H h a (.dT kvs) from TC ok e);refine⟨z,y,xs,r,o,es,ep,h1,h2,β,α,λx hx=>?_,Z⟩
 have all:∀{l:ef (ef Key×V)} {m:ef (ef Key×eO×xo)},KT H l m->∀x∈m,(tupleKind (dO P w)).is h x.1 x.2.1:=by
  intro l m q
  induction q with
  | nil=>intro x hx;exact nomatch hx
  | @cons p q ps qs Y t ih=>
    intro x hx;rcases WH.mp hx with e | hx
    ·subst e;exact Cd ok (by rw[<-Y.1];exact Y.2.1)
    ·exact ih x hx
 exact all r x hx
theorem Wi {kvs:ef (ef Key×V)} (ok:HOk P w H h) (e:H a=a' (.dT kvs)):kvs.length<=la/\(a == sysModules)=false/\
  ∃xs,KT H kvs xs/\h.DictOfH (tupleKind (dO P w)) a xs:=Lx ok (.inl e)
end
def DGet (H:Hp) (a:eO) (y:V) (r:WG V):Prop:=
 (∃kvs k,Rd H a (.dK kvs)/\y=kV k/\r=valV kvs k)∨∃kvs k b,Rd H a (.dT kvs)/\y= .ref b/\H b=a' (.tup (k.map kV))/\r=valV kvs k
def DPut (H:Hp) (a:eO) (y v:V) (H':Hp):Prop:=
 (∃kvs k,H a=a' (.dK kvs)/\y=kV k/\kvs.length < la/\H'=upd H a (.dK (putK kvs k v)))∨
 ∃kvs k b,H a=a' (.dT kvs)/\y= .ref b/\H b=a' (.tup (k.map kV))/\kvs.length < la/\H'=upd H a (.dT (putK kvs k v))
theorem DGet.k {k:Key} (e:H a=a' (.dK kvs)):DGet H a (kV k) (valV kvs k):= .inl ⟨kvs,k,.inl e,rfl,rfl⟩
theorem DPut.k {k:Key} (e:H a=a' (.dK kvs)) (hl:kvs.length < la):DPut H a (kV k) v (upd H a (.dK (putK kvs k v))):= .inl ⟨kvs,k,e,rfl,hl,rfl⟩
section
variable {X:Cx} {pins:E'} {σ:St} {H:Hp} {s:vr} {a:eO} {y v:V} {u r:xo} {o:WG V} {A:X2} {E:Cr}
theorem Inv.big (I:Inv X pins σ H s):sysModules < s.heap.objs.size:=by
 have h:WZ < s.heap.objs.size:=(I.mod.glob.keeps I.bk).lt;exact ad9 @C h
theorem LO {Q:Cr} (hu:A.units + 1 < cLine) (I:Inv X pins σ H s) (g:DGet H a y (a' v)) (α:RelV y u) (h:∀Z s',Inv X pins σ H s'->RelV v Z->Q Z s'):
  vu (WA X.prog X.w) A (getItem (.ref a) u) Q E s:=by
 rcases g with ⟨kvs,k,e,ey,l⟩ | ⟨kvs,k,b,e,ey,γ,l⟩
 ·subst ey;obtain⟨z,hd,vs,rel,dd⟩:=Ly I.hok e;obtain⟨Z,hw,Y⟩:=RelO.some_of (v:=v) (o:=valueAt vs k) (by rw[l];exact rel.val k);exact wpAny_getItem_of (Hv α) dd.mapOf hw (h Z _ (I.tok _) Y)
 ·subst ey;cases(show u=WD b from α);obtain⟨z,hd,xs,rel,dd⟩:=Lx I.hok e;obtain⟨Z,hw,Y⟩:=RelO.some_of (v:=v) (o:=(atKey xs k).map (·.2)) (by rw[l];exact rel.val k);obtain⟨p,β,ζ⟩:=YR.mp hw;refine wpAny_getItem_heap (ab3 hu) (Cd I.hok γ) dd β ?_;rw[ζ];exact h Z _ (I.tok _) Y
theorem d_in {Q:Cr} (hu:A.units + 1 < cLine) (I:Inv X pins σ H s) (g:DGet H a y o) (Y:RelV y u) (h:∀s',Inv X pins σ H s'->Q (.bool o.isSome) s'):
  vu (WA X.prog X.w) A (compareOp .In u (.ref a)) Q E s:=by
 rcases g with ⟨kvs,k,e,ey,l⟩ | ⟨kvs,k,b,e,ey,Z,l⟩
 ·subst ey;obtain⟨z,hd,vs,rel,dd⟩:=Ly I.hok e;refine wpAny_in_of (Hv Y) hd dd.mapOf ?_;rw[<-(rel.val k).isSome_eq,<-l];exact h _ (I.tok _)
 ·subst ey;cases(show u=WD b from Y);obtain⟨z,hd,xs,rel,dd⟩:=Lx I.hok e;refine wpAny_in_heap (ab3 hu) (Cd I.hok Z) hd dd ?_;have q:=(rel.val k).isSome_eq;rw[ag3] at q;rw[<-q,<-l];exact h _ (I.tok _)
theorem RX {Q:Cr} (hu:A.units + 1 < cLine) (I:Inv X pins σ H s) (g:DGet H a y o) (Y:RelV y u) (h:∀s',Inv X pins σ H s'->Q (.bool (!o.isSome)) s'):
  vu (WA X.prog X.w) A (compareOp .NotIn u (.ref a)) Q E s:=by
 rcases g with ⟨kvs,k,e,ey,l⟩ | ⟨kvs,k,b,e,ey,Z,l⟩
 ·subst ey;obtain⟨z,hd,vs,rel,dd⟩:=Ly I.hok e;refine wpAny_notIn_of (Hv Y) hd dd.mapOf ?_;rw[<-(rel.val k).isSome_eq,<-l];exact h _ (I.tok _)
 ·subst ey;cases(show u=WD b from Y);obtain⟨z,hd,xs,rel,dd⟩:=Lx I.hok e;refine wpAny_notIn_heap (ab3 hu) (Cd I.hok Z) hd dd ?_;have q:=(rel.val k).isSome_eq;rw[ag3] at q;rw[<-q,<-l];exact h _ (I.tok _)
theorem LG {t':Nat} (I:Inv X pins σ H s) (Y:Mut (H a)) (hs:ZO a s.heap h') (he:∃q,h'.get? a=a' q) (ι:iy X.prog X.w (upd H a eH) h' a eH):
  Inv X pins σ (upd H a eH) {s with heap:=h',toks:=t'}:=
 I.write (x:=a) (e:=a) Y (.inl rfl) (λb q hb z=>(hs.2 b hb).trans z) he ι
theorem U4 {P:WJ} {w:X5} {vs:ef (Key×xo)} (z:kvs.length<=la) (hd:(a == sysModules)=false) (rel:KV kvs vs) (dd:h'.DictOf (dO P w) a vs):
  iy P w H' h' a (.dK kvs):=⟨z,hd,vs,rel,dd⟩
theorem LI {Q:Ls} (hu:A.units + 1 < cLine) (I:Inv X pins σ H s) (g:DPut H a y v H') (α:RelV y u) (β:RelV v r) (h:∀s',Inv X pins σ H' s'->Q () s'):
  vu (WA X.prog X.w) A (setItem (.ref a) u r) Q E s:=by
 rcases g with ⟨kvs,k,e,ey,l,Z⟩ | ⟨kvs,k,b,e,ey,δ,l,Z⟩
 ·subst ey Z;obtain⟨z,hd,vs,rel,dd⟩:=U3 I.hok e;have hz:vs.length<=sizeLine:=by rw[<-rel.length];exact z
  have hl:(putK kvs k v).length<=sizeLine:=by have:=xA kvs k v;omega
  refine wpAny_setItem_pairs (hsz:=hz) (Hv α) dd λh' φ hs=>h _ ?_;have he:∃q,h'.get? a=a' q:=let ⟨q,_,_,Y,_⟩:=φ;⟨q,Y⟩
  exact LG I (by rw[e];exact ab7) hs he (U4 hl hd (rel.put k β) φ)
 ·subst ey Z;cases(show u=WD b from α);obtain⟨z,hd,xs,rel,dd⟩:=Wi I.hok e;have hz:xs.length<=sizeLine:=by rw[<-aj4 rel];exact z
  have hl:(putK kvs k v).length<=sizeLine:=by have:=xA kvs k v;omega
  refine wpAny_setItem_heap (hsz:=hz) (ab3 hu) (Cd I.hok δ) dd λh' φ hs=>h _ ?_;obtain⟨q,es,ep,Y,h2,η,ζ,_,ε⟩:=φ;refine LG I (by rw[e];exact ab7) hs ⟨q,Y⟩ ⟨hl,hd,_,(rel.put k δ β).keeps λc ys γ=>?_,q,es,ep,Y,h2,η,ζ,ε⟩;rw[aG (cF γ e (λz=>nomatch z))];exact γ
end
def NoSl (i:XS):Prop:=∀δ Y,subscripted i false δ Y=operate [δ,Y] (getItem δ Y)
theorem Qo {w:X5} {A:X2} {E:Cr} {Q:Cr}
  (hl:typeLookup (.type T) "__getitem__"=pure (a' (.builtin qQ))) (hs:NoSl e)
  (h:vu (WA prog w) A (eval value env) (λo γ=>vu (WA prog w) A (eval e env) (λi Z=>Z.TypeIs o T/\vu (WA prog w) A (getItem o i) Q E Z) E γ) E s):
  vu (WA prog w) A (eval (.Subscript value e pos) env) Q E s:=by
 refine av0 (Z3 h (λo γ h₁=>Z3 h₁ (λi Z α=>?_) λ_ _ x=>x) λ_ _ x=>x);obtain⟨hT,α⟩:=α;unfold subscriptTail;refine gs ?_;rw[getitemInPython_of_ne hT.not_modules];refine gs (al7 hT hl ?_)
 have fin:vu (WA prog w) A (subscripted e false o i) (λr β=>vu (WA prog w) A (letTemporaryGo value o r >>=λ_=>pure r) Q E β) E Z:=by
  rw[hs o i];exact wpAny_operating (Z3 α (λr β δ=>gs (wpAny_letTemporaryGo (W4 δ))) λ_ _ x=>x)
 first
  | exact W4 (gs fin)
  | exact gs (W4 (gs fin))
  | exact gs fin
theorem EX {y:V} {o:WG V} (I:Inv X pins σ H s) (g:DGet H a y o):s.TypeIs (.ref a) "dict":=by
 rcases g with ⟨kvs,k,e,_,_⟩ | ⟨kvs,k,b,e,_,_,_⟩
 ·obtain⟨_,_,vs,_,dd⟩:=Ly I.hok e;exact dd.typeIs
 ·obtain⟨_,_,xs,_,dd⟩:=Lx I.hok e;exact dd.typeIs
noncomputable def SQ (td ty:TE):TE:=fun σ H Q=>td σ H λx H1=>ty σ H1 λy H2=>∃a v,x= .ref a/\DGet H2 a y (a' v)/\Q v H2
noncomputable def tDIn (ty td:TE):TE:=fun σ H Q=>ty σ H λy H1=>td σ H1 λx H2=>∃a o,x= .ref a/\DGet H2 a y o/\Q (.bl o.isSome) H2
noncomputable def Ja (ty td:TE):TE:=fun σ H Q=>ty σ H λy H1=>td σ H1 λx H2=>∃a o,x= .ref a/\DGet H2 a y o/\Q (.bl (!o.isSome)) H2
noncomputable def Tz (td ty tv:TE):TS:=λD σ H=>tv σ H λv H1=>td σ H1 λx H2=>ty σ H2 λy Z=>∃a Y,x= .ref a/\DPut Z a y v Y/\D.nx σ Y
section
variable {X:Cx} {o i e value:XS} {pos pos' tpos:Pos} {td ty tv:TE}
theorem oJ (hu:X.A.units + 1 < cLine) (ho:PE X o td) (hi:PE X i ty) (hs:NoSl i):PE X (.Subscript o i pos) (SQ td ty):=by
 intro pins s σ H Q I h;refine Qo PySem.F.slot_dict_getitem.lookup hs (thn (ho pins s σ H _ I h) λu α ⟨x,H1,ζ,γ,ε⟩=>thn (hi pins α σ H1 _ ζ ε) fun ν ι ⟨y,H2,Z,β,a,v,ex,g,δ⟩=>?_);subst ex;obtain rfl:u=WD a:=γ;exact⟨EX Z g,LO hu Z g β fun η θ υ Y=>⟨v,H2,υ,Y,δ⟩⟩
theorem J4 (hu:X.A.units + 1 < cLine) (hi:PE X i ty) (ho:PE X o td):PC X .In i o (tDIn ty td):=by
 intro pins s σ H Q I h;refine thn (hi pins s σ H _ I h) fun ι Y ⟨y,H1,ζ,Z,γ⟩=>thn (ho pins Y σ H1 _ ζ γ) λu θ ⟨x,H2,ε,α,a,δ,ex,g,β⟩=>?_;subst ex;obtain rfl:u=WD a:=α;exact d_in hu ε g Z fun η υ=>⟨.bl δ.isSome,H2,υ,rfl,β⟩
theorem J3 (hu:X.A.units + 1 < cLine) (hi:PE X i ty) (ho:PE X o td):PC X .NotIn i o (Ja ty td):=by
 intro pins s σ H Q I h;refine thn (hi pins s σ H _ I h) fun ι Y ⟨y,H1,ζ,Z,γ⟩=>thn (ho pins Y σ H1 _ ζ γ) λu θ ⟨x,H2,ε,α,a,δ,ex,g,β⟩=>?_;subst ex;obtain rfl:u=WD a:=α;exact RX hu ε g Z fun η υ=>⟨.bl (!δ.isSome),H2,υ,rfl,β⟩
theorem Ao (hu:X.A.units + 1 < cLine) (ho:PE X o td) (hi:PE X i ty) (η:PE X value tv) (hs:swapsWith value (a' (.Subscript o i pos')) pos.line X.env=pure false):
  PS X (.Assign [.Subscript o i pos'] value pos) (Tz td ty tv):=by
 intro pins s σ H D I h;refine wpAny_Assign_Subscript (thn (η pins s σ H _ I h) λr Z ⟨v,H1,ν,δ,ζ⟩=>thn (ho pins Z σ H1 _ ν ζ) λu Y ⟨x,H2,ι,β,ε⟩=>thn (hi pins Y σ H2 _ ι ε) fun ρ π ⟨y,τ,υ,α,a,ξ,ex,g,γ⟩=>?_) hs;subst ex;obtain rfl:u=WD a:=β;exact LI hu υ g α δ fun ο θ=>⟨σ,ξ,θ,γ⟩
end
theorem Ov {P:WJ} {w:X5} (h:Xj) (hb:sysModules < h.objs.size):iy P w H (h.push {cls:= .type "dict",data:= .dict #[]}) h.objs.size (.dK []):=
 ⟨XZ _,WY.mpr (WK (W' hb)),[],.nil,am8 h⟩
noncomputable def O2:TE:=λ_ H Q=>∀p,H p=gn->Q (.ref p) (upd H p (.dK []))
section
variable {X:Cx} {pos:Pos}
theorem r8:PE X (.Dict [] [] pos) O2:=λpins s σ H Q I h=>
 wpAny_Dict_empty ⟨.ref s.heap.objs.size,_,I.laid (a:=s.heap.objs.size) (o:= .dK []) (t':=s.toks) (λ_ _ q=>gz _ q) (p' _) (Ov s.heap I.big),rfl,h _ (I.hok.fresh (p' _))⟩
end
structure M1 (X:Cx) (o:XS) (m:Wz) (apos:Pos) (e:XS) (cpos:Pos):Prop where
 base:attributeBase o m X.env (eval o X.env)=eval o X.env
 few:((backTo cpos (zx [e] X.env)).all (λx=> !x.1)&&(backToKw cpos (keywordEach [] X.env)).all (λx=>x.1.isSome)
  &&decide (([e]:ef XS).length + ([]:ef Keyword).length + (if ([]:ef Keyword).isEmpty then 0 else 1) < 30))=true
 line:(apos.endLine == cpos.line)=true
 trees:backTo cpos (zx [e] X.env)=[(false,eval e X.env)]
structure M2 (X:Cx) (o:XS) (m:Wz) (apos:Pos) (e f:XS) (cpos:Pos):Prop where
 base:attributeBase o m X.env (eval o X.env)=eval o X.env
 few:((backTo cpos (zx [e,f] X.env)).all (λx=> !x.1)&&(backToKw cpos (keywordEach [] X.env)).all (λx=>x.1.isSome)
  &&decide (([e,f]:ef XS).length + ([]:ef Keyword).length + (if ([]:ef Keyword).isEmpty then 0 else 1) < 30))=true
 line:(apos.endLine == cpos.line)=true
 trees:backTo cpos (zx [e,f] X.env)=[(false,eval e X.env),(false,eval f X.env)]
section
variable {κ:Type} [DecidableEq κ]
theorem MP {kvs:ef (κ×V)} {k:κ} (h:valV kvs k=gn):¬k∈kvs.map (·.1):=by
 intro m;obtain⟨p,Z,e⟩:=ic.mp m;have q:(kvs.any λY=>decide (Y.1=k))=true:=Zh.mpr ⟨p,Z,hE e⟩;rw[rQ,h] at q;exact hQ q @E
theorem Qj {kvs:ef (κ×V)} {k:κ} (h:valV kvs k=a' v):k∈kvs.map (·.1):=by
 have q:(kvs.any λY=>decide (Y.1=k))=true:=by
  rw[rQ,h]
  all_goals rfl
 obtain⟨p,Z,e⟩:=Zh.mp q;exact ic.mpr ⟨p,Z,WE e⟩
end
end L2
set_option maxHeartbeats 4000000
namespace L2
open PySem PySem.Spec PyProof.Rows
section
variable {P0:WJ} {w0:X5} {A0:X2} {R0:S'} {t0:vr}
theorem HY {ν:Env} (J:Nat->vr->Prop)
  (ο:∀n s,J n s->vu (WA P0 w0) A0 (pyNext χ) (λr Z=>match r with
   | none=>R0 (.ok .next) Z
   | some v=>vu (WA P0 w0) A0 (letOwnedTupleGo tg χ v) (λ_ η=>vu (WA P0 w0) A0 (assign tg ν v) (λ_ ε=>
     vu (WA P0 w0) A0 (forIn β true λc r=>if r=true then do let ok <-isTrue c ν (eval c ν);pure (YY ok) else pure (YY r)) (λok Y=>
      if ok=true then vu (WA P0 w0) A0 (eval e ν) (λx δ=>
       vu (WA P0 w0) A0 (call (.builtin "list.append") [u,x]) (λ_ γ=>∃m,m < n/\J m γ) (λ_ _=>False) δ) (λ_ _=>False) Y
      else ∃m,m < n/\J m Y) (λ_ _=>False) ε) (λ_ _=>False) η) (λ_ _=>False) Z) (λ_ _=>False) s)
  (n:Nat) (h:J n t0):
  codeAny (WA P0 w0) A0 (.compLoop (.ListComp e [⟨tg,iter,β,0⟩] ζ pos) 0 χ u ν) R0 t0:=by
 have no:∀{α:Type} {t:Sem α} {Q:α->vr->Prop} {E:Cr} {s:vr},vu (WA P0 w0) A0 t Q (λ_ _=>False) s->vu (WA P0 w0) A0 t Q E s:=
  λh=>Z3 h (λ_ _ q=>q) λ_ _ z=>z.elim
 refine codeAny_loop rfl J (λn s φ=>?_) n h;show vu _ A0 ((compTurn (.ListComp e [⟨tg,iter,β,0⟩] ζ pos) 0 χ u ν).onRaise (λx=>do noteFrame x ν;theTreesLotGoes x)) _ _ s;refine wpAny_noted ?_;rw[compTurn_list];refine gs (wpAny_standAt (gs (thn (no (ο n s φ)) λr Z h₁=>?_)));cases r with
 | none=>exact W4 h₁
 | some v=>
   refine gs (thn (no h₁) λ_ η υ=>?_);refine gs (thn (no υ) λ_ ε τ=>gs (thn (no τ) λok Y θ=>?_));cases ok with
   | false=>exact W4 ⟨rfl,θ⟩
   | true=>
     rw[zt rfl] at θ;refine gs (gs (thn (no θ) λx δ ρ=>?_));refine gs (thn (no ρ) λ_ γ π=>?_);exact W4 (W4 ⟨rfl,π⟩)
end
theorem uJ (env:Env):∀(l:ef (Wz×NameKind)) (Z:Tn),(∀y∈l,y.2= .free->∃c,env.cells.lookup y.1=a' c)->
  ∃r:Tn,(forIn l Z (λ(x:Wz×NameKind) (r:Tn)=>if x.2 == XJ then (do let c <-cellOf env x.1;pure (YY ((x.1,c)::r))) else pure (YY r)):Sem Tn)=pure r/\
   (∀p∈r,p∈Z∨env.cells.lookup p.1=a' p.2)/\(∀p∈Z,p∈r)/\(∀y∈l,y.2= .free->∃c,(y.1,c)∈r)
 | [],Z,_=>⟨Z,rfl,λp α=> .inl α,λp α=>α,λy Y=>nomatch Y⟩
 | (x,k)::l,Z,h=>by
   by_cases hk:k= .free
   ·subst hk;obtain⟨c,γ⟩:=h (x,.free) W6 rfl;obtain⟨r,e,h1,h2,β⟩:=uJ env l ((x,c)::Z) λy Y=>h y (W1 _ Y);refine⟨r,?_,λp α=>?_,λp α=>h2 p (W1 _ α),λy Y hf=>?_⟩
    ·rw[ac7];have δ:cellOf env x=pure c:=by unfold cellOf;rw[γ]
     simp only[Y2,am4,δ,pure_bind];exact e
    ·rcases h1 p α with q | q
     ·rcases WH.mp q with z | z
      ·subst z;exact .inr γ
      ·exact .inl z
     ·exact .inr q
    ·rcases WH.mp Y with z | z
     ·subst z;exact⟨c,h2 _ W6⟩
     ·exact β y z hf
   ·obtain⟨r,e,h1,h2,β⟩:=uJ env l Z λy Y=>h y (W1 _ Y);refine⟨r,?_,h1,h2,λy Y hf=>?_⟩
    ·rw[ac7];have hb:(k == XJ)=false:=by cases k<;>first | rfl | exact hQ rfl hk
     simp only[hb,Bool.false_eq_true,if_false,pure_bind];exact e
    ·rcases WH.mp Y with z | z
     ·subst z;exact hQ hf hk
     ·exact β y z hf
theorem zV (ζ:ad6) (env:Env) (h:∀y∈ζ.names,y.2= .free->∃c,env.cells.lookup y.1=a' c):
  ∃Y,closureFor ζ env=pure Y/\(∀p∈Y,env.cells.lookup p.1=a' p.2)/\∀y∈ζ.names,y.2= .free->∃c,(y.1,c)∈Y:=by
 obtain⟨r,e,h1,h2,α⟩:=uJ env ζ.names [] h;refine⟨r,?_,λp Z=>(h1 p Z).resolve_left (λz=>nomatch z),α⟩;unfold closureFor;have:=e;simp only[bind_pure] at *
 exact e
theorem AE {κ β:Type} [BEq κ] [LawfulBEq κ]:∀{l:ef (κ×β)} {x:κ} {c:β},(x,c)∈l->∃γ,l.lookup x=a' γ
 | [],_,_,h=>nomatch h
 | (y,d)::l,x,c,h=>by
   by_cases e:x=y
   ·subst e;exact⟨d,by simp[ZH]⟩
   ·have hb:(x == y)=false:=WY.mpr e;rcases WH.mp h with z | z
    ·exact hQ (Wy an6 z) e
    ·obtain⟨γ,q⟩:=AE z;exact⟨γ,by rw[ZH,hb];exact q⟩
theorem r6 {env:Env}:∀{names:ef (Wz×NameKind)} {x:Wz} {φ:NameKind},
  (names.map λ(n,k)=>if (k == XJ&&env.scope.kind == .function&&env.kindOf n == a' .cell) then (n,Zn) else (n,k)).lookup x=a' φ->∃k,(x,k)∈names/\(φ=k∨k= .free)
 | [],_,_,h=>by cases h
 | (y,k)::l,x,φ,h=>by
   rw[Xk,ZH] at h;by_cases e:x=y
   ·subst e;by_cases Y:(k == XJ&&env.scope.kind == .function&&env.kindOf x == a' .cell)=true
    ·refine⟨k,W6,.inr ?_⟩;rw[Xc,Xc] at Y;exact eq_of_beq Y.1.1
    ·refine⟨k,W6,.inl ?_⟩;simp only[oT Y,Y2] at h;exact(WB h).symm
   ·have hb:(x == y)=false:=WY.mpr e
    have h':(l.map λ(n,k)=>if (k == XJ&&env.scope.kind == .function&&env.kindOf n == a' .cell) then (n,Zn) else (n,k)).lookup x=a' φ:=by
     by_cases Y:(k == XJ&&env.scope.kind == .function&&env.kindOf y == a' .cell)=true
     ·simp only[zt Y,hb] at h;exact h
     ·simp only[oT Y,hb] at h;exact h
    obtain⟨q,hm,z⟩:=r6 h';exact⟨q,W1 _ hm,z⟩
theorem uN {env:Env}:∀{names:ef (Wz×NameKind)} {x:Wz},names.lookup x=a' .free->
  (names.map λ(n,k)=>if (k == XJ&&env.scope.kind == .function&&env.kindOf n == a' .cell) then (n,Zn) else (n,k)).lookup x=a' .cell∨
  (names.map λ(n,k)=>if (k == XJ&&env.scope.kind == .function&&env.kindOf n == a' .cell) then (n,Zn) else (n,k)).lookup x=a' .free
 | [],_,h=>by cases h
 | (y,k)::l,x,h=>by
   rw[ZH] at h;rw[Xk,ZH];by_cases e:x=y
   ·subst e;simp only[Y2] at h;cases h;by_cases Y:(XJ == XJ&&env.scope.kind == .function&&env.kindOf x == a' .cell)=true
    ·refine .inl ?_;rw[zt Y];simp only[Y2]
    ·refine .inr ?_;rw[oT Y];simp only[Y2]
   ·have hb:(x == y)=false:=WY.mpr e;simp only[hb] at h;have q:=uN (env:=env) h;by_cases Y:(k == XJ&&env.scope.kind == .function&&env.kindOf y == a' .cell)=true
    ·simp only[zt Y,hb];exact q
    ·simp only[oT Y,hb];exact q
structure mP (osc:ad6) (ON N:B') (n:Nat) (fx:C') (sc:ad6):Prop where
 kind:sc.kind= .function
 noc:∀y∈sc.names,y.2≠.cell
 own:∀y∈sc.names,y.2= .local->sc.names.lookup y.1=a' .local
 fre:∀y∈sc.names,y.2= .free->osc.names.lookup y.1=a' .cell∨osc.names.lookup y.1=a' .free
 len:N.length=n + fx.length
 frn:∀k,k < fx.length->∃x j,N[n + k]? =a' x/\fx[k]? =a' j/\ON[j]? =a' x/\sc.names.lookup x=a' .free
noncomputable def On (ON:B') (ζ:ad6):B'->C'->X1
 | [],[]=>true
 | x::xs,j::js=>decide (ON[j]? =a' x)&&decide (ζ.names.lookup x=a' .free)&&On ON ζ xs js
 | _,_=>false
theorem Ct {ON:B'} {ζ:ad6}:∀{xs:B'} {Y:C'},On ON ζ xs Y=true->xs.length=Y.length/\∀k,k < Y.length->∃x j,xs[k]? =a' x/\Y[k]? =a' j/\ON[j]? =a' x/\ζ.names.lookup x=a' .free
 | [],[],_=>⟨rfl,λk h=>hQ h (YJ k)⟩
 | [],_::_,h=>by cases h
 | _::_,[],h=>by cases h
 | x::xs,j::Y,h=>by
   simp only[On,Xc,XA] at h;obtain⟨l,q⟩:=Ct h.2;refine⟨Wy Nat.succ l,λk hk=>?_⟩;cases k with
   | zero=>exact⟨x,j,rfl,rfl,h.1.1,h.1.2⟩
   | succ k=>
     obtain⟨γ,Z,a,b,c⟩:=q k (Nat.lt_of_succ_lt_succ hk);exact⟨γ,Z,by simpa using a,by simpa using b,c⟩
noncomputable def F7 (osc:ad6) (ON N:B') (n:Nat) (fx:C') (ζ:ad6):Bool:=
 decide (ζ.kind= .function)&&decide (∀y∈ζ.names,y.2≠.cell)&&decide (∀y∈ζ.names,y.2= .local->ζ.names.lookup y.1=a' .local)&&
 decide (∀y∈ζ.names,y.2= .free->osc.names.lookup y.1=a' .cell∨osc.names.lookup y.1=a' .free)&&decide (n<=N.length)&&On ON ζ (N.drop n) fx
theorem mP.of {n:Nat} (h:F7 osc ON N n fx ζ=true):mP osc ON N n fx ζ:=by
 simp only[F7,Xc,XA] at h;obtain⟨⟨⟨⟨⟨h1,h2⟩,Z⟩,Y⟩,α⟩,χ⟩:=h;obtain⟨l,q⟩:=Ct χ;refine⟨h1,h2,Z,Y,?_,λk hk=>?_⟩
 ·rw[Zg] at l;omega
 ·obtain⟨x,j,a,b⟩:=q k hk;exact⟨x,j,by rw[Zb] at a;exact a,b⟩
noncomputable def n0 (X:Cx) (N:B') (ζ:ad6) (Y:Tn) (C:eO) (fp:M') (s:vr) (H:Hp):Cx where
 prog:=X.prog
 w:=X.w
 K:=X.K
 mg:=X.mg
 base:=X.base
 A:=X.A
 N:=N
 s₀:=s
 H₀:=H
 env:=compEnvC ζ Y C X.env
 outer:=X.stack
 stack:=X.stack
 ex:=fp
 fn:=λ_=>false
 calm:=X.calm
 pn:=[]
 xe:=λ_ _=>False
noncomputable def dU (n:Nat) (fx:C') (σ:St):St:=n' n gn++fx.map λj=>(σ[j]?).join
def IA (n:Nat) (g:TG):Prop:=∀v σ H (Q Y:St->Hp->Prop),(∀σ' H',Q σ' H'->σ'.drop n=σ.drop n->σ'.length=σ.length->Y σ' H')->g v σ H Q->g v σ H Y
def Gf (n:Nat) (g:TGs):Prop:=∀vs σ H (Q Y:St->Hp->Prop),(∀σ' H',Q σ' H'->σ'.drop n=σ.drop n->σ'.length=σ.length->Y σ' H')->g vs σ H Q->g vs σ H Y
theorem aA {n:Nat} (h:i < n):IA n (Lk i):=λv σ H Q Y k q=>k _ _ q (by rw[List.drop_set_of_lt h]) (by rw[List.length_set])
theorem rF {n:Nat}:Gf n gNil:=λvs σ H Q Y k ⟨e,q⟩=>⟨e,k _ _ q rfl rfl⟩
theorem fw {n:Nat} {t:TG} {u:TGs} (ht:IA n t) (hu:Gf n u):Gf n (RO t u):=λvs σ H Q ζ k ⟨v,r,e,q⟩=>
 ⟨v,r,e,ht v σ H _ _ (λZ H1 β ε γ=>hu r Z H1 Q ζ (λY H2 α δ τ=>k Y H2 α (δ.trans ε) (τ.trans γ)) β) q⟩
theorem xO {K:b'} {n m:Nat} {t:TGs} (h:Gf n t):IA n (gTup K m t):=λv σ H Q Y k ⟨a,xs,e,hs,hl,q⟩=>⟨a,xs,e,hs,hl,h xs σ H Q Y k q⟩
def PTs (X:Cx) (Y:ef XS) (t:TT):Prop:=
 ∀(pins:E') (s:vr) (σ:St) (H:Hp) (Q:X1->Hp->Prop),Inv X pins σ H s->t σ H Q->
  vu (WA X.prog X.w) X.A (forIn Y true λc r=>if r=true then do let ok <-isTrue c X.env (eval c X.env);pure (YY ok) else pure (YY r)) (TP X pins σ Q) X.xe s
noncomputable def tYes:TT:=λ_ H Q=>Q true H
theorem aO:PTs X [] tYes:=λ_ _ _ H _ I h=>wpAny_tests_nil ⟨H,I,h⟩
theorem mf {c:XS} {t:TT} (h:PT X c t):PTs X [c] t:=λpins s σ H Q I q=>wpAny_tests_one (h pins s σ H Q I q)
noncomputable def MT (n:Nat) (fx:C') (δ:TI) (g:TG) (tc:TT) (te:TE):TE:=fun σ H Q=>δ σ H λJ H1=>∀D,H1 D=gn->
 ∃W:Nat->Nat->ef V->Hp->Prop,(∃m,W 0 m [] (upd H1 D (.lst [])))/\∀i m ys H2,W i m ys H2->(J.stop i H2/\Q (.ref D) H2)∨
   (J.go i H2/\∃N:ef V->Hp->Prop,(∀Z H',N Z H'->∃ω,ω < m/\W (i + 1) ω Z H')/\∀x γ,J.yld i H2 x γ->g x (dU n fx σ) γ λY ε=>tc Y ε λb β=>
    if b=true then te Y β λv α=>α D=a' (.lst ys)/\ys.length < la/\N (ys++[v]) (upd α D (.lst (ys++[v]))) else N ys β)
section
variable {X:Cx} {pins:E'} {σ:St} {H:Hp} {s:vr}
theorem HZ {n:Nat}:(dU n fx σ).length=n + fx.length:=by unfold dU;simp
theorem zU {n:Nat} (e:(dU n fx σ)[i]? =a' (a' v)):∃k j,i=n + k/\fx[k]? =a' j/\σ[j]? =a' (a' v):=by
 unfold dU at e;by_cases h:i < n
 ·rw[mu (by simpa using h),am1,zt h] at e;cases e
 ·rw[ov (by simpa using h),XD,hH] at e;cases q:fx[i - n]? with
  | none=>rw[q] at e;cases e
  | some j=>
    rw[q] at e;have Y:(σ[j]?).join=a' v:=WB e;refine⟨i - n,j,@A,q,?_⟩;cases z:σ[j]? with
    | none=>rw[z] at Y;cases Y
    | some o=>rw[z] at Y;have:o=a' v:=Y;rw[this]
theorem OA {n:Nat} {tk:Nat}
  (ho:X.env.scope=osc) (hN:X.N=ON) (S:mP osc ON N n fx ζ)
  (β:∀p∈hs,X.env.cells.lookup p.1=a' p.2) (Z:∀y∈ζ.names,y.2= .free->∃c,(y.1,c)∈hs)
  (I:Inv X pins σ H s) (hf:∀b∈fp,FpOk X pins H b) (θ:∀b∈fp,b < s.heap.objs.size)
  (α:∃m,fy.Ns s.heap.objs.size m) (Y:∀b o,s.heap.get? b=a' o->fy.get? b=a' o):
  Inv (n0 X N ζ hs s.heap.objs.size fp s H) [] (dU n fx σ) H {s with heap:=fy,toks:=tk}:=by
 have look:∀{x:Wz} {c:eO},hs.lookup x=a' c->X.env.cells.lookup x=a' c:=λ{x c} e=>β (x,c) (XG e)
 have ok:(n0 X N ζ hs s.heap.objs.size fp s H).Ok:=by
  refine⟨I.ok.mod,S.kind,I.ok.glob,I.ok.blt,p' _,λx y c h1 h2=>I.ok.inj x y c (look h1) (look h2),λx hx=>?_,λx c z=>(by cases z),I.ok.hd,I.ok.frames,.inl rfl,λb hb=>⟨W' (θ b hb),λx c e=>(hf b hb).2.2.2.2.1 x c (look e)⟩,
   I.bs,Yi I.ok.bsz I.sz,λb o e hb=>?_,λb hb z=>?_,I.stack,I.stkFree⟩
  ·have υ:∃φ,(φ=Zn∨φ=XJ)/\(ζ.names.map λ(n,k)=>if (k == XJ&&X.env.scope.kind == .function&&X.env.kindOf n == a' .cell) then (n,Zn) else (n,k)).lookup x=a' φ:=by
    rcases hx with hx | hx
    ·exact⟨_,.inl rfl,hx⟩
    ·exact⟨_,.inr rfl,hx⟩
   obtain⟨φ,hk,e⟩:=υ;obtain⟨k,hm,z⟩:=r6 e
   have τ:k= .free:=by
    rcases z with z | z
    ·subst z;rcases hk with q | q
     ·exact hQ q (S.noc _ hm)
     ·exact q
    ·exact z
   subst τ;obtain⟨c,hc⟩:=Z _ hm rfl;exact AE hc
  ·rcases(hf b hb).2.2.2.1 with z | z
   ·exact I.ok.noex b o e z
   ·exact hQ (eP (i' (I.ok.bs b o e).1) z) (Yg _)
  ·rcases WH.mp (I.stkSub b z) with q | q
   ·exact(hf b hb).2.1 q
   ·exact(hf b hb).2.2.1 q
 obtain⟨m,α⟩:=α;refine⟨ok,rfl,I.bare,Un.kept Y,⟨m,α,λi x v e1 e2 e3=>?_⟩,λx c e=>?_,I.hok.fresh (p' _),λx c e=>I.freeC x c (look e),λp hp=>hQ (show p∈([]:E') from hp) @E,I.hok.kept Y,?_⟩
 ·obtain⟨k,j,rfl,ρ,ψ⟩:=zU e2;obtain⟨γ,π,a1,a2,a3,ξ⟩:=S.frn k (bA.mp ρ).1;have ex:γ=x:=WB (a1.symm.trans e1);have ej:π=j:=WB (a2.symm.trans ρ);subst ex;subst ej;obtain⟨ω,_,hl⟩:=I.loc;have hk:X.env.scope.names.lookup γ=a' .cell∨X.env.scope.names.lookup γ=a' .free:=by rw[ho];exact S.fre _ (XG ξ) rfl
  have η:Vis X.env.scope γ:=by rcases hk with z | z;exact .inr (.inl z);exact .inr (.inr z)
  obtain⟨u,r,q⟩:=hl π γ v (by rw[hN];exact a3) ψ η;rcases q with ⟨z,_⟩ | ⟨_,c,ec,χ⟩
  ·have ο:X.env.scope.names.lookup γ=a' .local:=z;rcases hk with q | q<;>(rw[q] at ο;cases ο)
  ·refine⟨u,r,.inr ⟨uN ξ,c,?_,χ.keeps Y⟩⟩;obtain⟨c0,ι⟩:=Z _ (XG ξ) rfl;obtain⟨c1,δ⟩:=AE ι;have:=look δ;rw[ec] at this;cases this;exact δ
 ·obtain⟨v,q⟩:=I.cell x c (look e);exact⟨v,q.keeps Y⟩
 ·show _=N.length;rw[HZ,S.len]
theorem CV {n:Nat} {g:TG} {RR:xo->eO->S'}
  (c2:X.calm=true) (ho:X.env.scope=osc) (hN:X.N=ON) (S:mP osc ON N n fx ζ)
  (a7:∀p∈hs,X.env.cells.lookup p.1=a' p.2) (d3:∀y∈ζ.names,y.2= .free->∃c,(y.1,c)∈hs)
  (hi:PI X tg iter wi) (gk:IA n g) (hb:∀hs C fp s H,PG (n0 X N ζ hs C fp s H) tg g/\PTs (n0 X N ζ hs C fp s H) pT tc/\PE (n0 X N ζ hs C fp s H) lB te)
  (I:Inv X pins σ H s) (h:MT n fx wi g tc te σ H Q)
  (e3:∀D C H' s',Inv X pins σ H' s'->(∃m,s'.heap.Ns C m)->FpOk X pins H' C->Q (.ref D) H'->RR (.ref D) C (.ok .next) s'):
  vu (WA X.prog X.w) X.A (eval iter X.env) (λx s₁=>vu (WA X.prog X.w) X.A (pyIter x) (λit s₂=>vu (WA X.prog X.w) X.A (newList []) (λd5 s₃=>
   vu (WA X.prog X.w) X.A (newFunctionEnv ζ X.env.globals hs [] X.env.qual gn .none (a' X.env)) (λa8 s₄=>
    codeAny (WA X.prog X.w) X.A (.compStart (.ListComp lB [⟨tg,iter,pT,0⟩] ζ pos) 0 it d5 {a8 with scope:=relabel ζ X.env}) (RR d5 a8.locals) s₄) X.xe s₃) X.xe s₂) X.xe s₁) X.xe s:=by
 refine thn (hi pins s σ H _ I h) λv s1 h1=>thn h1 λf0 α h2=>?_;obtain⟨it,fp,tn,J,H2,e2,I2,T,d0,f2,hW⟩:=h2;subst e2;obtain⟨W,⟨m0,w0⟩,c1⟩:=hW α.heap.objs.size I2.fresh;refine ab9 ?_;have I3:Inv X pins σ (upd H2 α.heap.objs.size (.lst [])) {α with heap:=α.heap.push {cls:= .type "list",data:= .seq ([]:F').toArray}}:=I2.lnew (t':=α.toks) (its:=[]) .nil (XZ _)
 have ξ:∀b∈fp,FpOk X pins (upd H2 α.heap.objs.size (.lst [])) b/\b < α.heap.objs.size:=λb hb=>by
  obtain⟨o,e,_⟩:=T.obj _ _ d0 b hb;have l:=i' e;obtain⟨a1,a2⟩:=f2 b hb;exact⟨⟨by rw[aG (W' l)];exact a1,a2⟩,l⟩
 have sz:({α with heap:=α.heap.push {cls:= .type "list",data:= .seq ([]:F').toArray}}:vr).heap.objs.size=α.heap.objs.size + 1:=Zk ..
 generalize e0:({α with heap:=α.heap.push {cls:= .type "list",data:= .seq ([]:F').toArray}}:vr)=β at I3 sz ⊢;generalize f1:upd H2 α.heap.objs.size (.lst [])=H3 at I3 ξ w0;have d1:∀b o,α.heap.get? b=a' o->β.heap.get? b=a' o:=λb o e=>by rw[<-e0];exact gz _ e
 refine wpAny_newFunctionEnv (λy hy=>S.noc y hy) (λy hy=>nomatch hy) (λh4 e1 d9=>?_) S.kind;have a0:∀b o,β.heap.get? b=a' o->h4.get? b=a' o:=λb o e=>d9.extBut b o (W' (i' e)) (gz _ e);have I4:=OA (tk:=β.toks + ([]:U').length) ho hN S a7 d3 I3 (λb hb=>(ξ b hb).1) (λb hb=>by rw[sz];exact aa7 (ξ b hb).2) ⟨_,e1⟩ a0;have ο:=hb hs β.heap.objs.size fp β H3;generalize hY:n0 X N ζ hs β.heap.objs.size fp β H3=Y at I4 ο
 have ε:∀{H':Hp},(∀b∈fp,H' b=gn)->∀b∈fp,FpOk Y [] H' b:=λ{H'} hn b hb=>by
  subst hY;obtain⟨⟨a1,a2,a3,a4,a5,a6⟩,l⟩:=ξ b hb;refine⟨hn b hb,W' (show b < β.heap.objs.size by rw[sz];exact aa7 l),λz=>?_,.inl hb,λx c e=>a5 x c (a7 (x,c) (XG e)),λp hp=>hQ (show p∈([]:E') from hp) @E⟩;rcases WH.mp (I3.stkSub b z) with q | q
  ·exact a2 q
  ·exact a3 q
 have fin:∀{π:St} {H6:Hp} {s6:vr},Inv Y [] π H6 s6->Q (.ref α.heap.objs.size) H6->RR (.ref α.heap.objs.size) β.heap.objs.size (.ok .next) s6:=λ{π H6 s6} I6 q=>by
  subst hY;refine e3 _ _ H6 s6 ?_ (let ⟨m,hm,_⟩:=I6.loc;⟨m,hm⟩) (I3.fpOk (p' _) I6.free) q;obtain⟨hh,gg,dd,tt,d8⟩:=s6;obtain rfl:d8=β.os:=I6.os
  exact I3.call (h':=hh) (g':=gg) (d':=dd) (t':=tt) (ch:=fp) I6.base I6.hok I6.bare λb hb=>by
   obtain⟨⟨a1,a2,a3,a4,a5,a6⟩,l⟩:=ξ b hb;exact⟨a4,a2,a5,a6⟩
 have pY:Y.prog=X.prog:=by subst hY;rfl
 have wY:Y.w=X.w:=by subst hY;rfl
 have kY:Y.K=X.K:=by subst hY;rfl
 have aY:Y.A=X.A:=by subst hY;rfl
 have cY:Y.calm=true:=by subst hY;exact c2
 have τ:Y.env=compEnvC ζ hs β.heap.objs.size X.env:=by subst hY;rfl
 have xY:Y.xe=λ_ _=>False:=by subst hY;rfl
 have T':Turn Y.prog Y.w Y.K tg J fp it tn:=by rw[pY,wY,kY];exact T
 have c4:tn 0 h4:=T.keep _ _ _ d0 λb hb o e=>a0 b o (d1 b o e)
 have loop:codeAny (WA X.prog X.w) X.A (.compLoop (.ListComp lB [⟨tg,iter,pT,0⟩] ζ pos) 0 (.ref it) (.ref α.heap.objs.size) (compEnvC ζ hs β.heap.objs.size X.env)) (RR (.ref α.heap.objs.size) β.heap.objs.size)
   {β with heap:=h4,toks:=β.toks + ([]:U').length}:=by
  rw[<-pY,<-wY,<-aY,<-τ];refine HY (λk s'=>∃i ys σ' H',Inv Y [] σ' H' s'/\σ'.drop n=(dU n fx σ).drop n/\σ'.length=(dU n fx σ).length/\tn i s'.heap/\(∀b∈fp,H' b=gn)/\W i k ys H') ?_ m0 ⟨0,[],_,H3,I4,rfl,rfl,c4,λb hb=>(ξ b hb).1.1,w0⟩;rintro k ν ⟨i,ys,σ5,H5,I5,ed,el,c5,ρ,w5⟩
  have I5:Inv Y [] (dU n fx σ) H5 ν:=I5.weak el.symm λj v e=>by
   obtain⟨φ,j',rfl,_,_⟩:=zU e;have q:=Wy (λl=>l[φ]?) ed;simp only[Zb] at q;rw[q];exact e
  rcases c1 i k ys H5 w5 with ⟨stop,q⟩ | ⟨go,N',e4,step⟩
  ·refine Z3 (T'.done Y rfl rfl rfl cY i [] ν _ H5 (λ_ _=>False) I5 (ε ρ) c5 stop) (λr s6 ⟨hr,I6⟩=>?_) λ_ _ z=>z;subst hr;exact fin I6 q
  ·rw[<-xY];refine thn (T'.item Y rfl rfl rfl cY i [] ν _ H5 Y.xe I5 (ε ρ) c5 go) λr s6 ⟨u,hr,χ⟩=>?_;subst hr;show vu _ _ _ _ _ _;refine thn χ λ_ s7 ⟨x,H7,I7,r7,ω,b3,e5⟩=>?_;have e8:=I7.pinned (ε e5) (T.obj _ _ b3);refine thn (ο.1 _ s7 _ H7 x u _ e8 r7 (gk _ _ _ _ _ (fun σ' H' q e l=>(⟨q,e,l⟩:_/\_/\_)) (step x H7 ω))) λ_ s8 ⟨δ,H8,I8,q8,e7,e6⟩=>?_;refine thn (ο.2.1 _ s8 δ H8 _ I8 q8) λok s9 ⟨η,I9,q9⟩=>?_
   have again:∀{γ:Hp} {Z:vr} {zs:ef V},Inv Y ([]++BN fp s7.heap) δ γ Z->N' zs γ->
     ∃m,m < k/\∃i ys σ' H',Inv Y [] σ' H' Z/\σ'.drop n=(dU n fx σ).drop n/\σ'.length=(dU n fx σ).length/\tn i Z.heap/\(∀b∈fp,H' b=gn)/\W i m ys H':=λ{γ Z zs} I10 b6=>by
    obtain⟨m',hm,d6⟩:=e4 _ _ b6;refine⟨m',hm,i + 1,zs,δ,γ,I10.unpinned,e7,e6,T.keep _ _ _ b3 λb hb o e=>(I10.pin (b,o) (lA _ (lA _ (pS hb e)))).1,λb hb=>?_,d6⟩;obtain⟨o,e,d⟩:=T.obj _ _ b3 b hb;exact(I10.pin (b,o) (lA _ (lA _ (pS hb e)))).2.1
   cases ok with
   | false=>exact again I9 q9
   | true=>
     rw[zt rfl];refine thn (ο.2.2 _ s9 δ η _ I9 q9) λy Z ⟨ψ,γ,I10,d7,d4,d2,b6⟩=>?_;refine thn (ie (X:=Y) _ Z δ γ (.ref α.heap.objs.size) [ψ] (.ref α.heap.objs.size) [y] (λ_ H'=>H'=upd γ α.heap.objs.size (.lst (ys++[ψ]))) I10 rfl (.cons d7 .nil) ⟨_,ys,ψ,rfl,rfl,d4,d2,rfl⟩) λ_ ι ⟨_,f4,e9,_,υ⟩=>?_;subst υ;exact again e9 b6
 exact codeAny_compStart_list loop (T.self X.A 0 _ _ _ c4 loop)
theorem bC {n:Nat} {g:TG}
  (Y:X.calm=true) (ho:X.env.scope=osc) (ο:X.N=ON) (S:F7 osc ON N n fx ζ=true) (hi:PI X tg iter sA) (π:IA n g)
  (hb:∀δ C fp s H,PG (n0 X N ζ δ C fp s H) tg g/\PTs (n0 X N ζ δ C fp s H) β tc/\PE (n0 X N ζ δ C fp s H) lB te)
  (hs:∀x,foldedSetIterable iter X.env x=pure x:=by intro _;rfl):PE X (.ListComp lB [⟨tg,iter,β,0⟩] ζ pos) (MT n fx sA g tc te):=by
 intro pins s σ H Q I h;have S:=mP.of S;obtain⟨δ,η,Z,α⟩:=zV ζ X.env λy ν hf=>I.ok.has y.1 (by show X.env.scope.names.lookup y.1=a' .cell∨X.env.scope.names.lookup y.1=a' .free;rw[ho];exact S.fre y ν hf);rw[eval_ListComp];refine ap2 (use:=gn) rfl hs η S.kind S.own (CV (RR:=fun θ C=>compPost (WA X.prog X.w) X.A X.xe gn (EP X pins σ Q) θ C) Y ho ο S Z α hi π hb I h ?_);intro D C H' s' I' hm hf q;obtain⟨m,hm⟩:=hm;obtain⟨φ,υ,χ,ξ,τ,ρ⟩:=hf;exact⟨m,hm,λh' ε=>⟨.ref D,H',I'.turned (t':=s'.toks) (λb o hb e=>(ε.2 b hb).trans e) φ υ ξ τ ρ,rfl,q⟩⟩
theorem bU {x:Wz} {n:Nat} {g:TG}
  (hnd:X.N.Nodup) (hx:X.N[i]? =a' x) (hl:X.env.scope.names.lookup x=a' .local) (Z:swapsWith (.ListComp lB [⟨tg,iter,pT,0⟩] ζ pos) (a' (.Name x nw)) oe.line X.env=pure true)
  (γ:X.calm=true) (ho:X.env.scope=osc) (hN:X.N=ON) (S:F7 osc ON N n fx ζ=true) (hi:PI X tg iter sA) (gk:IA n g)
  (hb:∀ν C fp s H,PG (n0 X N ζ ν C fp s H) tg g/\PTs (n0 X N ζ ν C fp s H) pT tc/\PE (n0 X N ζ ν C fp s H) lB te)
  (hs:∀x,foldedSetIterable iter X.env x=pure x:=by intro _;rfl):PS X (.Assign [.Name x nw] (.ListComp lB [⟨tg,iter,pT,0⟩] ζ pos) oe) (tAsg (MT n fx sA g tc te) (Lk i)):=by
 intro pins s σ H D I h;have S:=mP.of S;obtain⟨ν,π,ι,η⟩:=zV ζ X.env λy hy hf=>I.ok.has y.1 (by show X.env.scope.names.lookup y.1=a' .cell∨X.env.scope.names.lookup y.1=a' .free;rw[ho];exact S.fre y hy hf);rw[exec_Assign_Name_used _ _ _ _ Z];refine gs (wpAny_standAt (gs ?_));show vu _ X.A (do let _ <-comprehension (.ListComp lB [⟨tg,iter,pT,0⟩] ζ pos) ζ X.env _ (newList []) false (eval iter X.env) (a' (assign (.Name x nw) X.env))) _ _ s
 refine gs (thn (ap2 (use:=a' (assign (.Name x nw) X.env)) (Q:=λ_ s'=>SP X pins D .next s') rfl hs π S.kind S.own
  (CV (RR:=fun υ C=>compPost (WA X.prog X.w) X.A X.xe (a' (assign (.Name x nw) X.env)) (λ_ s'=>SP X pins D .next s') υ C) γ ho hN S ι η hi gk hb I h ?_)) λ_ s' q=>W4 (W4 q))
 intro ω C H' s' θ hm hf q;obtain⟨m,hm⟩:=hm;obtain⟨f0,ψ,f2,ξ,χ,f5⟩:=hf;show vu _ X.A (assign (.Name x nw) X.env (.ref ω)) _ _ _;refine av4 (BB θ hnd hx (.inl hl) (v:= .ref ω) rfl (λs2 I2 ρ=>?_) (.inr hl));obtain⟨a,ο,ha⟩:=ρ
 have τ:C≠a:=by
  rcases ha with z | z
  ·rw[z];exact ψ
  ·exactλe=>χ _ _ z e.symm
 exact⟨m,hm.sameBut ο τ,λh' ε=>⟨_,H',I2.turned (t':=s2.toks) (λb o hb e=>(ε.2 b hb).trans e) f0 ψ ξ χ f5,q⟩⟩
end
section
variable {K:b'} {n:Nat} {fx:C'} {g:TG} {tc:TT} {te:TE} {σ:St} {H1:Hp} {D:eO} {Q:Hp->Prop}
theorem df {k:Nat} (Pv:Nat->ef V->Hp->Prop) (h0:Pv 0 [] (upd H1 D (.lst [])))
  (hs:∀i ys H,i < k->Pv i ys H->g (.int (sh + i)) (dU n fx σ) H λY ε=>tc Y ε λb δ=>if b=true then te Y δ λv γ=>γ D=a' (.lst ys)/\ys.length < la/\Pv (i + 1) (ys++[v]) (upd γ D (.lst (ys++[v]))) else Pv (i + 1) ys δ)
  (hd:∀ys H,Pv k ys H->Q H):
  ∃W:Nat->Nat->ef V->Hp->Prop,(∃m,W 0 m [] (upd H1 D (.lst [])))/\∀i m ys H2,W i m ys H2->((Itr sh k).stop i H2/\Q H2)∨
    ((Itr sh k).go i H2/\∃N:ef V->Hp->Prop,(∀α H',N α H'->∃ω,ω < m/\W (i + 1) ω α H')/\∀x ζ,(Itr sh k).yld i H2 x ζ->g x (dU n fx σ) ζ λY ε=>tc Y ε λb δ=>
      if b=true then te Y δ λv γ=>γ D=a' (.lst ys)/\ys.length < la/\N (ys++[v]) (upd γ D (.lst (ys++[v]))) else N ys δ):=by
 refine⟨λi m ys H=>m=k - i/\i<=k/\Pv i ys H,⟨k,@E,XZ _,h0⟩,?_⟩;rintro i m ys H ⟨rfl,hi,p⟩;by_cases β:i < k
 ·refine .inr ⟨β,Pv (i + 1),fun α H' Z=>⟨k - (i + 1),by omega,rfl,β,Z⟩,λx H' y=>?_⟩;obtain⟨e,y⟩:=y;subst e;subst y;exact hs i ys _ β p
 ·have e:i=k:=by omega
  subst e;exact .inl ⟨p' _,hd ys H p⟩
theorem aJ {xs:ef V} (Pv:Nat->ef V->Hp->Prop) (h0:Pv 0 [] (upd H1 D (.lst []))) (hl:∀i ys H,i<=xs.length->Pv i ys H->SqL K H a xs)
  (hs:∀i x ys H,xs[i]? =a' x->Pv i ys H->g x (dU n fx σ) H λY ε=>tc Y ε λb δ=>if b=true then te Y δ λv γ=>γ D=a' (.lst ys)/\ys.length < la/\Pv (i + 1) (ys++[v]) (upd γ D (.lst (ys++[v]))) else Pv (i + 1) ys δ)
  (hd:∀ys H,Pv xs.length ys H->Q H):
  ∃W:Nat->Nat->ef V->Hp->Prop,(∃m,W 0 m [] (upd H1 D (.lst [])))/\∀i m ys H2,W i m ys H2->((Itl K a).stop i H2/\Q H2)∨
    ((Itl K a).go i H2/\∃N:ef V->Hp->Prop,(∀α H',N α H'->∃ω,ω < m/\W (i + 1) ω α H')/\∀x ζ,(Itl K a).yld i H2 x ζ->g x (dU n fx σ) ζ λY ε=>tc Y ε λb δ=>
      if b=true then te Y δ λv γ=>γ D=a' (.lst ys)/\ys.length < la/\N (ys++[v]) (upd γ D (.lst (ys++[v]))) else N ys δ):=by
 refine⟨λi m ys H=>m=xs.length - i/\i<=xs.length/\Pv i ys H,⟨xs.length,@E,XZ _,h0⟩,?_⟩;rintro i m ys H ⟨rfl,hi,p⟩;have q:=hl i ys H hi p;by_cases β:i < xs.length
 ·refine .inr ⟨⟨xs,xs[i],q,by simp[β]⟩,Pv (i + 1),fun α H' Z=>⟨xs.length - (i + 1),by omega,rfl,β,Z⟩,λx H' y=>?_⟩;obtain⟨e,y⟩:=y;subst e;exact hs i x ys _ (y xs q) p
 ·have e:i=xs.length:=by omega
  subst e;exact .inl ⟨⟨xs,q,p' _⟩,hd ys H p⟩
theorem tz {xs:ef V} (Pv:Nat->ef V->Hp->Prop) (h0:Pv 0 [] (upd H1 D (.lst []))) (hl:∀i ys H,i<=xs.length->Pv i ys H->SqT K H a xs)
  (hs:∀i x ys H,xs[i]? =a' x->Pv i ys H->g x (dU n fx σ) H λY ε=>tc Y ε λb δ=>if b=true then te Y δ λv γ=>γ D=a' (.lst ys)/\ys.length < la/\Pv (i + 1) (ys++[v]) (upd γ D (.lst (ys++[v]))) else Pv (i + 1) ys δ)
  (hd:∀ys H,Pv xs.length ys H->Q H):
  ∃W:Nat->Nat->ef V->Hp->Prop,(∃m,W 0 m [] (upd H1 D (.lst [])))/\∀i m ys H2,W i m ys H2->((Itt K a).stop i H2/\Q H2)∨
    ((Itt K a).go i H2/\∃N:ef V->Hp->Prop,(∀α H',N α H'->∃ω,ω < m/\W (i + 1) ω α H')/\∀x ζ,(Itt K a).yld i H2 x ζ->g x (dU n fx σ) ζ λY ε=>tc Y ε λb δ=>
      if b=true then te Y δ λv γ=>γ D=a' (.lst ys)/\ys.length < la/\N (ys++[v]) (upd γ D (.lst (ys++[v]))) else N ys δ):=by
 refine⟨λi m ys H=>m=xs.length - i/\i<=xs.length/\Pv i ys H,⟨xs.length,@E,XZ _,h0⟩,?_⟩;rintro i m ys H ⟨rfl,hi,p⟩;have q:=hl i ys H hi p;by_cases β:i < xs.length
 ·refine .inr ⟨⟨xs,xs[i],q,by simp[β]⟩,Pv (i + 1),fun α H' Z=>⟨xs.length - (i + 1),by omega,rfl,β,Z⟩,λx H' y=>?_⟩;obtain⟨e,y⟩:=y;subst e;exact hs i x ys _ (y xs q) p
 ·have e:i=xs.length:=by omega
  subst e;exact .inl ⟨⟨xs,q,p' _⟩,hd ys H p⟩
end
def nv (K:b') (H:Hp) (x:V) (k:Yo):Prop:=match x with
 | .non=>k="NoneType"
 | .bl _=>k="bool"
 | .int _=>k="int"
 | .str _=>k="str"
 | .ref p=>(k="list"/\∃xs,SqL K H p xs)∨(k="tuple"/\∃xs,SqT K H p xs)∨(k="dict"/\∃kvs,Rd H p (.dK kvs))
 | _=>False
noncomputable def subB (k T:Yo):Bool:=k == T||(k == "bool"&&T == "int")
noncomputable def rIsi (K:b'):ef V->Hp->VK->Prop:=λxs H Q=>∃x k T,xs=[x,.ty T]/\nv K H x k/\T∈["int","bool","str","list","tuple","dict"]/\Q (.bl (subB k T)) H
section
variable {X:Cx}
theorem OD:oq X (.builtin "isinstance") (rIsi X.K):=by
 intro pins s σ H xs us Q I r h;obtain⟨x,k,T,rfl,hk,hT,q⟩:=h;obtain⟨u,v,rfl,β,rt⟩:=MN r;cases rt;have α:∀b,b=subB k T->EP X pins σ Q (.bool b) s:=λb e=>⟨.bl b,H,I,rfl,by rw[e];exact q⟩;have Y:∀b,b=subB k T->EP X pins σ Q (.bool b) {s with toks:=s.toks + 1}:=λb e=>⟨.bl b,H,I.tok _,rfl,by rw[e];exact q⟩;simp only[WH,Zf,ai9] at hT;cases x with
 | non=>
   cases β;cases hk;rcases hT with rfl | rfl | rfl | rfl | rfl | rfl
   ·exact IsiPair.NoneType_int (Y _ @C)
   ·exact IsiPair.NoneType_bool (Y _ @C)
   ·exact IsiPair.NoneType_str (Y _ @C)
   ·exact IsiPair.NoneType_list (Y _ @C)
   ·exact IsiPair.NoneType_tuple (Y _ @C)
   ·exact IsiPair.NoneType_dict (Y _ @C)
 | bl b=>
   cases β;cases hk;rcases hT with rfl | rfl | rfl | rfl | rfl | rfl
   ·exact IsiPair.bool_int (α _ @C)
   ·exact IsiPair.bool_bool (α _ @C)
   ·exact IsiPair.bool_str (Y _ @C)
   ·exact IsiPair.bool_list (Y _ @C)
   ·exact IsiPair.bool_tuple (Y _ @C)
   ·exact IsiPair.bool_dict (Y _ @C)
 | int i=>
   obtain⟨t,rfl⟩:=β;cases hk;rcases hT with rfl | rfl | rfl | rfl | rfl | rfl
   ·exact IsiPair.int_int (α _ @C)
   ·exact IsiPair.int_bool (Y _ @C)
   ·exact IsiPair.int_str (Y _ @C)
   ·exact IsiPair.int_list (Y _ @C)
   ·exact IsiPair.int_tuple (Y _ @C)
   ·exact IsiPair.int_dict (Y _ @C)
 | str z=>
   obtain⟨t,rfl⟩:=β;cases hk;rcases hT with rfl | rfl | rfl | rfl | rfl | rfl
   ·exact IsiPair.str_int (Y _ @C)
   ·exact IsiPair.str_bool (Y _ @C)
   ·exact IsiPair.str_str (α _ @C)
   ·exact IsiPair.str_list (Y _ @C)
   ·exact IsiPair.str_tuple (Y _ @C)
   ·exact IsiPair.str_dict (Y _ @C)
 | ref p=>
   cases β;rcases hk with ⟨rfl,xs,γ⟩ | ⟨rfl,xs,γ⟩ | ⟨rfl,kvs,γ⟩
   ·obtain⟨its,_,pl,_⟩:=I.list γ;obtain⟨o,ho,Z,_⟩:=pl.isList;rcases hT with rfl | rfl | rfl | rfl | rfl | rfl
    ·exact IsiPair.list_int ho Z (Y _ @C)
    ·exact IsiPair.list_bool ho Z (Y _ @C)
    ·exact IsiPair.list_str ho Z (Y _ @C)
    ·exact IsiPair.list_list ho Z (α _ @C)
    ·exact IsiPair.list_tuple ho Z (Y _ @C)
    ·exact IsiPair.list_dict ho Z (Y _ @C)
   ·obtain⟨its,_,pl,_⟩:=I.tuple γ;obtain⟨o,ho,Z,_⟩:=pl;rcases hT with rfl | rfl | rfl | rfl | rfl | rfl
    ·exact IsiPair.tuple_int ho Z (Y _ @C)
    ·exact IsiPair.tuple_bool ho Z (Y _ @C)
    ·exact IsiPair.tuple_str ho Z (Y _ @C)
    ·exact IsiPair.tuple_list ho Z (Y _ @C)
    ·exact IsiPair.tuple_tuple ho Z (α _ @C)
    ·exact IsiPair.tuple_dict ho Z (Y _ @C)
   ·obtain⟨_,_,_,_,o,_,_,ho,ex,_⟩:=γ.ok I.hok;have Z:o.cls= .type "dict":=ex.1;rcases hT with rfl | rfl | rfl | rfl | rfl | rfl
    ·exact IsiPair.dict_int ho Z (Y _ @C)
    ·exact IsiPair.dict_bool ho Z (Y _ @C)
    ·exact IsiPair.dict_str ho Z (Y _ @C)
    ·exact IsiPair.dict_list ho Z (Y _ @C)
    ·exact IsiPair.dict_tuple ho Z (Y _ @C)
    ·exact IsiPair.dict_dict ho Z (α _ @C)
 | _=>exact Xo hk
noncomputable def TJ:V->ef V->Hp->VK->Prop:=λx xs H Q=>∃i,x= .int i/\xs=[]/\Q (.int (WI i:Nat)) H
theorem oS:MtR X "int.bit_length" TJ:=by
 intro pins s σ H x xs v us Q I Y rs h;obtain⟨i,rfl,rfl,q⟩:=h;obtain⟨t,rfl⟩:=Y;cases rs;exact call_int_bit_length ⟨.int _,H,I.tok _,⟨_,rfl⟩,q⟩
noncomputable def eqVs (xs ys:ef V):Bool:=xs.length == ys.length&&(lx xs.length).all λj=>eqV (xs.getD j .non) (ys.getD j .non)
noncomputable def rEqL (K:b') (neg:X1):R2:=λx y H Q=>∃a b xs ys,x= .ref a/\y= .ref b/\SqL K H a xs/\SqL K H b ys/\xs.all o6=true/\ys.all o6=true/\Q (.bl (if neg then !eqVs xs ys else eqVs xs ys)) H
theorem tO {xs:ef V} (r:Vals xs us) (h:j < us.toArray.size):RelV (xs.getD j .non) (us.toArray[j]):=by
 have hl:=r.length;have h':j < us.length:=by simpa using h
 obtain⟨u,e,Y⟩:=r.get (i:=j) (x:=xs.getD j .non) (by rw[bB,cn @A];rfl)
 have Z:us.toArray[j]=u:=by
  rw[cn h'] at e;have:=WB e;simpa using this
 rw[Z];exact Y
theorem EV {xs:ef V} (f:xs.all o6=true) (j:Nat):o6 (xs.getD j .non)=true:=by
 rw[bB];cases e:xs[j]? with
 | none=>rfl
 | some x=>exact YC.mp f x (dt e)
theorem NB {b:eO} {xs ys:ef V} {A:X2} (hu:A.units < cLine) (I:Inv X pins σ H s) (ha:SqL X.K H a xs) (hb:SqL X.K H b ys) (fx:xs.all o6=true) (α:ys.all o6=true):
  SeqAt.RcAt A s (.ref a) (.ref b) (eqVs xs ys)/\SeqAt.RcNeAt A s (.ref a) (.ref b) (!eqVs xs ys):=by
 obtain⟨its,r,pl,_⟩:=I.list ha;obtain⟨ζ,r',Z,_⟩:=I.list hb;have Y:=r.length;have τ:=r'.length;by_cases hl:xs.length=ys.length
 ·have e:eqVs xs ys=(lx its.toArray.size).all λj=>eqV (xs.getD j .non) (ys.getD j .non):=by
   unfold eqVs;rw[hl,Y2,Y1,WU,<-Y,hl]
  rw[e];have hz:its.toArray.size=ζ.toArray.size:=by simp;omega
  have he:∀j (h1:j < its.toArray.size) (h2:j < ζ.toArray.size),ao9 A.in1 s its.toArray[j] ζ.toArray[j] (eqV (xs.getD j .non) (ys.getD j .non)):=λj h1 h2=>
   PL (tO r h1) (tO r' h2) (EV fx j) (EV α j)
  exact⟨SeqAt.RcAt.lists pl.isList Z.isList hz hu he,SeqAt.RcNeAt.lists pl.isList Z.isList hz hu he⟩
 ·have e:eqVs xs ys=false:=by
   unfold eqVs;rw[WY.mpr hl,X8]
  rw[e];have hz:(its.toArray.size != ζ.toArray.size)=true:=by simp;omega
  exact⟨SeqAt.RcAt.lists_lengths pl.isList Z.isList hz hu,SeqAt.RcNeAt.lists_lengths pl.isList Z.isList hz hu⟩
theorem Ud (hu:X.A.units < cLine):OpR X (compareOp .NotEq) (rEqL X.K true):=by
 intro pins s σ H x y v u Q I Z Y h;obtain⟨a,b,xs,ys,rfl,rfl,ha,hb,fx,α,q⟩:=h;cases Z;cases Y;exact(NB hu I ha hb fx α).2 X.prog X.w X.xe _ ⟨.bl _,H,I,rfl,q⟩
end
theorem Lq {xs:ef V} (f:xs.all o6=true):eqVs xs xs=true:=by
 unfold eqVs;rw[Y2,Y1,YC];intro j _;have:=EV f j;generalize xs.getD j .non=x at this;cases x<;>first | rfl | exact Y2 _ | cases this
theorem dh (a b:Nat):X6 (a:Int) (b:Int)=((a&&&b:Nat):Int):=by
 unfold X6;rw[hE (Zc a),hE (Zc b)];simp
section
variable {X:Cx} {K:b'}
theorem bu (h:X.K=K):IxR X (rIxL K):=by subst h;exact RG
theorem aC (h:X.K=K):IxR X (rIxT K):=by subst h;exact UJ
theorem g8 (h:X.K=K):SlR X (rSlL K):=by subst h;exact QN
theorem Ej (h:X.K=K) (hu:X.A.units < cLine):OpR X (compareOp .NotEq) (rEqL K true):=by subst h;exact Ud hu
theorem kR (h:X.K=K):oq X (.builtin "isinstance") (rIsi K):=by subst h;exact OD
noncomputable def rLen (K:b'):ef V->Hp->VK->Prop:=λxs H Q=>∃x n,xs=[x]/\LenV K x H n/\Q (.int n) H
theorem be (h:X.K=K):oq X (.builtin "len") (rLen K):=by subst h;exact OC
noncomputable def Ec (K:b'):ef V->Hp->VK->Prop:=λxs H Q=>∃p ys,xs=[.ref p]/\(SqL K H p ys∨SqT K H p ys)/\∀l,H l=gn->Q (.ref l) (upd H l (.lst ys))
theorem cc (h:X.K=K):oq X (.type "list") (Ec K):=by subst h;exact CY
noncomputable def JR (K:b'):ef V->Hp->VK->Prop:=λxs H Q=>∃p ys,xs=[.ref p]/\((SqL K H p ys/\∀l,H l=gn->Q (.ref l) (upd H l (.tup ys)))∨(SqT K H p ys/\Q (.ref p) H))
theorem eM (h:X.K=K):oq X (.type "tuple") (JR K):=by subst h;exact Be
theorem aK {l:XS} (h:X.K=K) (hl:PE X l tl):PI X tg l (UL K tl):=by subst h;exact Rc hl
theorem kl {l:XS} (h:X.K=K) (hl:PE X l tl):PI X tg l (iTup K tl):=by subst h;exact T5 hl
theorem oK {o:XS} {name:Wz} {r:V->ef V->Hp->VK->Prop} (h:X.K=K) (ε:PlainAttrs T) (slot:Slot T name qQ) (α:typeOf (.builtin qQ)=pure (.type "method_descriptor")) (hm:MtR X qQ r) (ho:PE X o to)
  (Z:attributeBase o name X.env (eval o X.env)=eval o X.env:=by rfl) (Y:(apos.endLine == cpos.line)=true:=by rfl):PE X (.Call (.Attribute o name apos) [] [] cpos) (tBM0 K T r to):=by subst h;exact Uc ε slot α hm ho Z Y
theorem gY {o:XS} {t:TA} {name:Wz} {r:V->ef V->Hp->VK->Prop} (h:X.K=K) (ε:PlainAttrs T) (slot:Slot T name qQ) (γ:typeOf (.builtin qQ)=pure (.type "method_descriptor")) (hm:MtR X qQ r) (ho:PE X o to) (ha:PA X (e::pT) t)
  (α:attributeBase o name X.env (eval o X.env)=eval o X.env:=by rfl)
  (β:((backTo cpos (zx (e::pT) X.env)).all (λx=> !x.1)&&(backToKw cpos (keywordEach [] X.env)).all (λx=>x.1.isSome)
   &&decide ((e::pT).length + ([]:ef Keyword).length + (if ([]:ef Keyword).isEmpty then 0 else 1) < 30))=true:=by rfl)
  (Z:(apos.endLine == cpos.line)=true:=by rfl) (hs:zx (e::pT) X.env=(false,eval e X.env)::zx pT X.env:=by rfl) (Y:(backTo cpos (zx pT X.env)).any (·.1)=false:=by rfl):
  PE X (.Call (.Attribute o name apos) (e::pT) [] cpos) (tBM K T r to t):=by subst h;exact V5 ε slot γ hm ho ha α β Z hs Y
end
noncomputable def Its (x:Wz):It:=⟨λi _=>i < x.cps.size,λi H v H'=>H'=H/\∃c,x.cps[i]? =a' c/\v= .str ⟨#[c]⟩,λi _=>i=x.cps.size⟩
theorem Fp {P:WJ} {w:X5} {K:b'} {x:Wz} {t:Tok} {n:Yo}
  (hn:["enumerate","zip","dict_itemiterator","dict_reverseitemiterator","odict_iterator","itertools.zip_longest","itertools.pairwise"].contains n=false)
  (W:∀A:X2,A.handled=gn->Walks P w A Y [Y] [Y] x.cps.size (SignAt x) (λi h=>h.IsStrIter Y n x t i))
  (Z:∀(A:X2) (i:Nat) (s:vr) (Q:Cr) (E:Cr),s.heap.IsStrIter Y n x t i->Q (.ref Y) s->vu (WA P w) A (pyIter (.ref Y)) Q E s):
  Turn P w K tg (Its x) [Y] Y (λi h=>h.IsStrIter Y n x t i) where
 mem:=by simp
 obj:=λi h st b hb=>by
  have e:b=Y:=by simpa using hb
  subst e;obtain⟨o,e,c,d⟩:=st;exact⟨o,e,λv z=>by rw[d] at z;cases z⟩
 keep:=λi h h' st k=>let ⟨o,e,r⟩:=st;⟨o,k Y @E o e,r⟩
 item:=by
  intro X ζ hw η ε i pins s σ H E I hf st β;subst ζ hw η;obtain⟨ο,ν,τ,ξ,ι,θ⟩:=hf Y @E;refine(W X.A (I.ok.hd ε)).item i s _ _ β st λv h' tk ρ α δ=>?_;obtain⟨c,u,π,rfl⟩:=ρ;have υ:Inv X pins σ H {s with heap:=h',toks:=tk}:=I.turned (λb o hb e=>δ b o (by simpa using hb) e) ο ν ξ ι θ;obtain⟨o,e,γ,d⟩:=id α;exact⟨_,rfl,Og (s:={s with heap:=h',toks:=tk}) (n:=n) e γ d hn ⟨.str ⟨#[c]⟩,H,υ,⟨u,rfl⟩,⟨rfl,c,π,rfl⟩,α,λb hb=>(hf b hb).1⟩⟩
 done:=by
  intro X ζ hw η ε i pins s σ H E I hf st β;subst ζ hw η;obtain⟨ο,ν,τ,ξ,ι,θ⟩:=hf Y @E;have β:i=x.cps.size:=β;subst β;exact(W X.A (I.ok.hd ε)).done s _ _ st λh' tk δ=>⟨rfl,I.turned (λb o hb e=>δ b o (by simpa using hb) e) ο ν ξ ι θ⟩
 self:=Z
noncomputable abbrev iStr (tl:TE):TI:=fun σ H R=>tl σ H λx H1=>∃z,x= .str z/\R (Its z) H1
section
variable {X:Cx} {tg:XS}
theorem T6 {l:XS} (hl:PE X l tl):PI X tg l (iStr tl):=by
 intro pins s σ H R I h;refine thn (hl pins s σ H _ I h) λv Y ⟨x,H1,I1,α,β⟩=>?_;obtain⟨z,e,q⟩:=β;subst e;obtain⟨t,rfl⟩:=α
 have fp:∀(o:Obj),∀b∈[Y.heap.objs.size],FpOk X pins H1 b:=λo b hb=>by
  have e:b=Y.heap.objs.size:=by simpa using hb
  subst e;exact I1.fpOk (p' _) (I1.hok.fresh (p' _))
 cases ha:z.cps.all (· < 128)
 ·refine wpAny_pyIter_wide ha ⟨Y.heap.objs.size,[Y.heap.objs.size],_,_,H1,rfl,I1.kept (t':=Y.toks) λb o e=>gz _ e,
   Fp (n:="str_iterator") (t:=t) @C (λA Z=>Walks.strWide Z _ z t) (λ_ _ _ _ _ st h=>wpAny_pyIter_striter_wide st h),⟨_,v' _ rfl,rfl,rfl⟩,fp default,q⟩
 ·refine wpAny_pyIter_ascii ha ⟨Y.heap.objs.size,[Y.heap.objs.size],_,_,H1,rfl,I1.kept (t':=Y.toks) λb o e=>gz _ e,
   Fp (n:="str_ascii_iterator") (t:=t) @C (λA Z=>Walks.strAscii Z _ z t) (λ_ _ _ _ _ st h=>wpAny_pyIter_striter_ascii st h),⟨_,v' _ rfl,rfl,rfl⟩,fp default,q⟩
end
section
variable {n:Nat} {fx:C'} {g:TG} {tc:TT} {te:TE} {σ:St} {H1:Hp} {D:eO} {Q:Hp->Prop}
theorem Oz (Pv:Nat->ef V->Hp->Prop) (h0:Pv 0 [] (upd H1 D (.lst [])))
  (hs:∀i c ys H,z.cps[i]? =a' c->Pv i ys H->g (.str ⟨#[c]⟩) (dU n fx σ) H λY ε=>tc Y ε λb δ=>if b=true then te Y δ λv γ=>γ D=a' (.lst ys)/\ys.length < la/\Pv (i + 1) (ys++[v]) (upd γ D (.lst (ys++[v]))) else Pv (i + 1) ys δ)
  (hd:∀ys H,Pv z.cps.size ys H->Q H):
  ∃W:Nat->Nat->ef V->Hp->Prop,(∃m,W 0 m [] (upd H1 D (.lst [])))/\∀i m ys H2,W i m ys H2->((Its z).stop i H2/\Q H2)∨
    ((Its z).go i H2/\∃N:ef V->Hp->Prop,(∀α H',N α H'->∃ω,ω < m/\W (i + 1) ω α H')/\∀x ζ,(Its z).yld i H2 x ζ->g x (dU n fx σ) ζ λY ε=>tc Y ε λb δ=>
      if b=true then te Y δ λv γ=>γ D=a' (.lst ys)/\ys.length < la/\N (ys++[v]) (upd γ D (.lst (ys++[v]))) else N ys δ):=by
 refine⟨λi m ys H=>m=z.cps.size - i/\i<=z.cps.size/\Pv i ys H,⟨z.cps.size,@E,XZ _,h0⟩,?_⟩;rintro i m ys H ⟨rfl,hi,p⟩;by_cases β:i < z.cps.size
 ·refine .inr ⟨β,Pv (i + 1),fun α H' Z=>⟨z.cps.size - (i + 1),by omega,rfl,β,Z⟩,λx H' y=>?_⟩;obtain⟨e,c,η,y⟩:=y;subst e;subst y;exact hs i c ys _ η p
 ·have e:i=z.cps.size:=by omega
  subst e;exact .inl ⟨rfl,hd ys H p⟩
end
theorem Gs:∀{us:F'},Vals (N.map V.str) us->StrsAre us N:=by
 induction N with
 | nil=>intro us r;rw[ah7] at r;cases r;exact .nil
 | cons n N ih=>
   intro us r;rw[Xk] at r;cases r with
   | cons Z Y=>
     obtain⟨t,e⟩:=Z;subst e;exact .cons n t (ih Y)
noncomputable def TF (K:b'):V->ef V->Hp->VK->Prop:=λx xs H Q=>∃z D ys,x= .str z/\xs=[.ref D]/\SqL K H D (ys.map V.str)/\(ys.map (·.length)).sum + ys.length * z.length<=16777216/\Q (.str (ao7 z ys)) H
noncomputable def TL (K:b'):ef V->Hp->VK->Prop:=λxs H Q=>∃(a:eO) (bs:ef X1),xs=[.ref a]/\SqL K H a (bs.map V.bl)/\Q (.bl (bs.all id)) H
noncomputable def TK (K:b'):ef V->Hp->VK->Prop:=λxs H Q=>∃(a:eO) (bs:ef X1),xs=[.ref a]/\SqL K H a (bs.map V.bl)/\Q (.bl (bs.any id)) H
section
variable {X:Cx} {K:b'}
theorem FQ (h:X.K=K):MtR X "str.join" (TF K):=by
 subst h;intro pins s σ H x xs v us Q I Y rs h;obtain⟨z,D,ys,rfl,rfl,β,hz,q⟩:=h;obtain⟨t,rfl⟩:=Y;obtain⟨u,rfl,α⟩:=vZ rs;cases α;obtain⟨its,Z,pl,_⟩:=I.list β;exact join_list pl.isList (Gs (by simpa using Z)) hz λt' k=>⟨.str (ao7 z ys),H,I.tok k,⟨t',rfl⟩,q⟩
theorem LW {bs:ef X1} (Y:Vals (bs.map V.bl) its) {v:xo} (h:its.toArray[i]? =a' v):v= .bool (bs.getD i false):=by
 have h':its[i]? =a' v:=by simpa using h
 have hi:i < its.length:=(bA.mp h').1;have hl:=Y.length;rw[bx] at hl;obtain⟨u,e,r⟩:=Y.get (i:=i) (x:= .bl (bs.getD i false)) (by rw[hH,cn @A,bB,cn @A];rfl);rw[h'] at e;cases e;exact r
theorem Vk (bs:ef X1):(lx bs.length).all (λi=>bs.getD i false)=bs.all id:=by
 rw[Yv,YC,YC];constructor
 ·intro h x Y;obtain⟨i,hi,e⟩:=Xe.mp Y;have:=h i (Xd.mpr hi);rw[bB,cn hi,e] at this;exact this
 ·intro h i hi;have hi:=Xd.mp hi;rw[bB,cn hi];exact h _ (YB hi)
theorem Vi (bs:ef X1):(lx bs.length).any (λi=>bs.getD i false)=bs.any id:=by
 rw[Yv,Zh,Zh];constructor
 ·rintro⟨i,hi,h⟩;have hi:=Xd.mp hi;rw[bB,cn hi] at h;exact⟨_,YB hi,h⟩
 ·rintro⟨x,Y,h⟩;obtain⟨i,hi,e⟩:=Xe.mp Y;refine⟨i,Xd.mpr hi,?_⟩;rw[bB,cn hi,e];exact h
theorem tD (h:X.K=K) (hc:X.calm=true):oq X (.builtin "all") (TL K):=by
 subst h;intro pins s σ H xs us Q I r h;obtain⟨a,bs,rfl,β,q⟩:=h;obtain⟨u,rfl,Z⟩:=vZ r;cases Z;obtain⟨its,Y,pl,hz⟩:=I.list β;have lt:a < s.heap.objs.size:=let ⟨o,e,_⟩:=pl.isList;i' e
 have hl:its.toArray.size=bs.length:=by have:=Y.length;rw[bx] at this;simp[this]
 refine call_all_walk (ab8 pl.isList ⟨s.heap.objs.size,_,_,its.toArray.size,_,_,λi=>bs.getD i false,rfl,aj0 (A:=X.A.in1) (I.ok.hd hc) s.heap.objs.size a (W' lt) its.toArray,⟨⟨_,v' _ rfl,rfl,rfl⟩,let ⟨o,e,c⟩:=pl.isList;⟨o,gz _ e,c⟩⟩,λi v s Q E α τ=>by rw[LW Y α];exact YD τ,λh' tk δ=>?_⟩);rw[hl,Vk];exact⟨.bl _,H,I.kept (λb o e=>δ b o (λhm=>by have:=i' e;rw[gA.mp hm] at this;exact hQ this (Yg _)) (gz _ e)),rfl,q⟩
theorem CZ (h:X.K=K) (hc:X.calm=true):oq X (.builtin "any") (TK K):=by
 subst h;intro pins s σ H xs us Q I r h;obtain⟨a,bs,rfl,β,q⟩:=h;obtain⟨u,rfl,Z⟩:=vZ r;cases Z;obtain⟨its,Y,pl,hz⟩:=I.list β;have lt:a < s.heap.objs.size:=let ⟨o,e,_⟩:=pl.isList;i' e
 have hl:its.toArray.size=bs.length:=by have:=Y.length;rw[bx] at this;simp[this]
 refine call_any_walk (ab8 pl.isList ⟨s.heap.objs.size,_,_,its.toArray.size,_,_,λi=>bs.getD i false,rfl,aj0 (A:=X.A.in1) (I.ok.hd hc) s.heap.objs.size a (W' lt) its.toArray,⟨⟨_,v' _ rfl,rfl,rfl⟩,let ⟨o,e,c⟩:=pl.isList;⟨o,gz _ e,c⟩⟩,λi v s Q E α τ=>by rw[LW Y α];exact YD τ,λh' tk δ=>?_⟩);rw[hl,Vi];exact⟨.bl _,H,I.kept (λb o e=>δ b o (λhm=>by have:=i' e;rw[gA.mp hm] at this;exact hQ this (Yg _)) (gz _ e)),rfl,q⟩
end
inductive Dt where
 | non | bl (b:X1) | int (i:Int) | str (x:Wz) | lst (xs:ef Dt) | tup (xs:ef Dt)
inductive Rep (K:b') (H:Hp):V->Dt->Prop where
 | non:Rep K H .non .non
 | bl (b:X1):Rep K H (.bl b) (.bl b)
 | int (i:Int):Rep K H (.int i) (.int i)
 | str (x:Wz):Rep K H (.str x) (.str x)
 | lst {p:eO} {xs:ef V} {ds:ef Dt} (h:SqL K H p xs) (l:xs.length=ds.length) (r:∀(i:Nat) x d,xs[i]? =a' x->ds[i]? =a' d->Rep K H x d):Rep K H (.ref p) (.lst ds)
 | tup {p:eO} {xs:ef V} {ds:ef Dt} (h:SqT K H p xs) (l:xs.length=ds.length) (r:∀(i:Nat) x d,xs[i]? =a' x->ds[i]? =a' d->Rep K H x d):Rep K H (.ref p) (.tup ds)
theorem Same.tup {K:b'} {xs:ef V} (e:Same H H') (h:SqT K H a xs):SqT K H' a xs:=by
 rcases h with (h | ⟨o,h⟩) | h
 ·exact .inl (.inl (e _ _ h))
 ·exact .inl (.inr ⟨o,e _ _ h⟩)
 ·exact .inr h
mutual
noncomputable def eqD:Dt->Dt->X1
 | .non,.non=>true
 | .bl a,.bl b=>a == b
 | .bl a,.int b=>(if a then 1 else 0) == b
 | .int a,.bl b=>a == (if b then 1 else 0)
 | .int a,.int b=>a == b
 | .str a,.str b=>a == b
 | .lst xs,.lst ys=>eqDs xs ys
 | .tup xs,.tup ys=>eqDs xs ys
 | _,_=>false
noncomputable def eqDs:ef Dt->ef Dt->X1
 | [],[]=>true
 | x::xs,y::ys=>eqD x y&&eqDs xs ys
 | _,_=>false
end
mutual
noncomputable def depD:Dt->Nat
 | .lst xs=>zq xs + 1
 | .tup xs=>zq xs + 1
 | _=>0
noncomputable def zq:ef Dt->Nat
 | []=>0
 | x::xs=>max (depD x) (zq xs)
end
theorem LB {ds:ef Dt} {d:Dt} (h:d∈ds):depD d<=zq ds:=by
 induction ds with
 | nil=>cases h
 | cons x xs ih=>
   rw[zq];rcases WH.mp h with rfl | h
   ·omega
   ·have:=ih h;omega
theorem Bb:∀{xs ys:ef Dt},xs.length≠ys.length->eqDs xs ys=false
 | [],[],h=>hQ rfl h
 | [],_::_,_=>rfl
 | _::_,[],_=>rfl
 | x::xs,y::ys,h=>by rw[eqDs,Bb (λz=>h (by simp[z])),Y3]
theorem Bc:∀{xs ys:ef Dt},xs.length=ys.length->eqDs xs ys=(lx xs.length).all λi=>eqD (xs.getD i .non) (ys.getD i .non)
 | [],[],_=>rfl
 | [],_::_,h=>by cases h
 | _::_,[],h=>by cases h
 | x::xs,y::ys,h=>by
   rw[eqDs,Bc (by simpa using h),Xa,am6,ai0,aw0];rfl
theorem FZ:∀d:Dt,eqD d d=true:=by
 intro d;refine Dt.rec (motive_1:=λd=>eqD d d=true) (motive_2:=λds=>eqDs ds ds=true) ?_ ?_ ?_ ?_ ?_ ?_ ?_ ?_ d
 ·rfl
 ·intro b;simp[eqD]
 ·intro b;simp[eqD]
 ·intro b;simp[eqD]
 ·intro xs h;rw[eqD];exact h
 ·intro xs h;rw[eqD];exact h
 ·rfl
 ·intro x xs h1 h2;rw[eqDs,h1,h2];rfl
theorem PJ:∀{d e:Dt},d=e->eqD d e=true:=λh=>by subst h;exact FZ _
section
variable {X:Cx} {pins:E'} {σ:St} {H:Hp} {s:vr}
theorem Inv.notBoth (I:Inv X pins σ H s) {xs ys:ef V} (h1:SqL X.K H p xs) (h2:SqT X.K H p ys):False:=by
 obtain⟨_,_,pl,_⟩:=I.list h1;obtain⟨_,_,⟨o,ho,Z,_⟩,_⟩:=I.tuple h2;obtain⟨o',n,η,Y,_⟩:=pl;rw[ho] at η;cases η;rw[Z] at Y;exact hQ Y @C
theorem Rep.fun (I:Inv X pins σ H s) {x:V} {d:Dt} (r:Rep X.K H x d):∀{e:Dt},Rep X.K H x e->d=e:=by
 induction r with
 | non=>intro e q;cases q;rfl
 | bl b=>intro e q;cases q;rfl
 | int i=>intro e q;cases q;rfl
 | str z=>intro e q;cases q;rfl
 | lst h l r ih=>
   intro e q;cases q with
   | lst h' Z r'=>
     have ex:=I.list_inj h h';subst ex;congr 1;refine YM λi=>?_;rename_i xs ds α;by_cases hi:i < ds.length
     ·rw[cn hi,cn @A];have Y:i < xs.length:=by omega
      rw[ih i _ _ (cn Y) (cn hi) (r' i _ _ (cn Y) (cn @A))]
     ·rw[X7 @A,X7 @A]
   | tup h' Z r'=>exact(I.notBoth h h').elim
 | tup h l r ih=>
   intro e q;cases q with
   | tup h' Z r'=>
     have ex:=I.tuple_inj h h';subst ex;congr 1;refine YM λi=>?_;rename_i xs ds α;by_cases hi:i < ds.length
     ·rw[cn hi,cn @A];have Y:i < xs.length:=by omega
      rw[ih i _ _ (cn Y) (cn hi) (r' i _ _ (cn Y) (cn @A))]
     ·rw[X7 @A,X7 @A]
   | lst h' Z r'=>exact(I.notBoth h' h).elim
open SeqAt in
theorem rc_D (I:Inv X pins σ H s) {x:V} {d:Dt} (r:Rep X.K H x d):∀{A:X2} {e:Dt} {y:V} {u v:xo} (n:Nat),Rep X.K H y e->RelV x u->RelV y v->depD d<=n->A.units + n < cLine->
  EqAt A s u v (eqD d e)/\RcAt A s u v (eqD d e)/\RcNeAt A s u v (!eqD d e):=by
 induction r with
 | non=>
   intro A e y u v n q η α hd ρ;cases η;cases q with
   | non=>cases α;exact⟨as3 _,RcAt.none_none,RcNeAt.none_none⟩
   | bl b=>cases α;exact⟨EqAt.none_bool b,RcAt.none_bool b,RcNeAt.none_bool b⟩
   | int b=>obtain⟨t,rfl⟩:=α;exact⟨EqAt.none_int b t,RcAt.none_int b t,RcNeAt.none_int b t⟩
   | str b=>obtain⟨t,rfl⟩:=α;exact⟨EqAt.none_str b t,RcAt.none_str b t,RcNeAt.none_str b t⟩
   | lst h l r=>cases α;obtain⟨_,_,pl,_⟩:=I.list h;exact⟨EqAt.none_list pl.isList @A,RcAt.none_list pl.isList @A,RcNeAt.none_list pl.isList @A⟩
   | tup h l r=>cases α;obtain⟨_,_,pl,_⟩:=I.tuple h;exact⟨EqAt.none_tuple pl @A,RcAt.none_tuple pl @A,RcNeAt.none_tuple pl @A⟩
 | bl a=>
   intro A e y u v n q η α hd ρ;cases η;cases q with
   | non=>cases α;exact⟨EqAt.bool_none a,RcAt.bool_none a,RcNeAt.bool_none a⟩
   | bl b=>cases α;exact⟨EqAt.bool_bool a b,RcAt.bool_bool a b,RcNeAt.bool_bool a b⟩
   | int b=>obtain⟨t,rfl⟩:=α;exact⟨EqAt.bool_int a b t,RcAt.bool_int a b t,RcNeAt.bool_int a b t⟩
   | str b=>obtain⟨t,rfl⟩:=α;exact⟨EqAt.bool_str a b t,RcAt.bool_str a b t,RcNeAt.bool_str a b t⟩
   | lst h l r=>cases α;obtain⟨_,_,pl,_⟩:=I.list h;exact⟨EqAt.bool_list a pl.isList @A,RcAt.bool_list a pl.isList @A,RcNeAt.bool_list a pl.isList @A⟩
   | tup h l r=>cases α;obtain⟨_,_,pl,_⟩:=I.tuple h;exact⟨EqAt.bool_tuple a pl @A,RcAt.bool_tuple a pl @A,RcNeAt.bool_tuple a pl @A⟩
 | int a=>
   intro A e y u v n q η α hd ρ;obtain⟨t',rfl⟩:=η;cases q with
   | non=>cases α;exact⟨EqAt.int_none a t',RcAt.int_none a t',RcNeAt.int_none a t'⟩
   | bl b=>cases α;exact⟨EqAt.int_bool a t' b,RcAt.int_bool a t' b,RcNeAt.int_bool a t' b⟩
   | int b=>obtain⟨t,rfl⟩:=α;exact⟨EqAt.int_int a t' b t,RcAt.int_int a t' b t,RcNeAt.int_int a t' b t⟩
   | str b=>obtain⟨t,rfl⟩:=α;exact⟨EqAt.int_str a t' b t,RcAt.int_str a t' b t,RcNeAt.int_str a t' b t⟩
   | lst h l r=>cases α;obtain⟨_,_,pl,_⟩:=I.list h;exact⟨EqAt.int_list a t' pl.isList @A,RcAt.int_list a t' pl.isList @A,RcNeAt.int_list a t' pl.isList @A⟩
   | tup h l r=>cases α;obtain⟨_,_,pl,_⟩:=I.tuple h;exact⟨EqAt.int_tuple a t' pl @A,RcAt.int_tuple a t' pl @A,RcNeAt.int_tuple a t' pl @A⟩
 | str a=>
   intro A e y u v n q η α hd ρ;obtain⟨t',rfl⟩:=η;cases q with
   | non=>cases α;exact⟨EqAt.str_none a t',RcAt.str_none a t',RcNeAt.str_none a t'⟩
   | bl b=>cases α;exact⟨EqAt.str_bool a t' b,RcAt.str_bool a t' b,RcNeAt.str_bool a t' b⟩
   | int b=>obtain⟨t,rfl⟩:=α;exact⟨EqAt.str_int a t' b t,RcAt.str_int a t' b t,RcNeAt.str_int a t' b t⟩
   | str b=>obtain⟨t,rfl⟩:=α;exact⟨EqAt.str_str a t' b t,RcAt.str_str a t' b t,RcNeAt.str_str a t' b t⟩
   | lst h l r=>cases α;obtain⟨_,_,pl,_⟩:=I.list h;exact⟨EqAt.str_list a t' pl.isList @A,RcAt.str_list a t' pl.isList @A,RcNeAt.str_list a t' pl.isList @A⟩
   | tup h l r=>cases α;obtain⟨_,_,pl,_⟩:=I.tuple h;exact⟨EqAt.str_tuple a t' pl @A,RcAt.str_tuple a t' pl @A,RcNeAt.str_tuple a t' pl @A⟩
 | @lst p xs ds h l r ih=>
   intro A e y u v n q η α hd ρ;cases η;obtain⟨its,ζ,pl,_⟩:=I.list h;rw[depD] at hd;cases q with
   | non=>cases α;exact⟨EqAt.list_none pl.isList @A,RcAt.list_none pl.isList @A,RcNeAt.list_none pl.isList @A⟩
   | bl b=>cases α;exact⟨EqAt.list_bool b pl.isList @A,RcAt.list_bool b pl.isList @A,RcNeAt.list_bool b pl.isList @A⟩
   | int b=>obtain⟨t,rfl⟩:=α;exact⟨EqAt.list_int b t pl.isList @A,RcAt.list_int b t pl.isList @A,RcNeAt.list_int b t pl.isList @A⟩
   | str b=>obtain⟨t,rfl⟩:=α;exact⟨EqAt.list_str b t pl.isList @A,RcAt.list_str b t pl.isList @A,RcNeAt.list_str b t pl.isList @A⟩
   | tup h' ξ r'=>
     cases α;obtain⟨_,_,Z,_⟩:=I.tuple h';exact⟨EqAt.list_tuple pl.isList Z @A,RcAt.list_tuple pl.isList Z @A,RcNeAt.list_tuple pl.isList Z @A⟩
   | @lst ι δ Y h' ξ r'=>
     cases α;obtain⟨its',ε,Z,_⟩:=I.list h';have n1:=ζ.length;have n2:=ε.length
     have γ:RcAt A s (.ref p) (.ref ι) (eqDs ds Y)/\RcNeAt A s (.ref p) (.ref ι) (!eqDs ds Y):=by
      by_cases hl:ds.length=Y.length
      ·have e:eqDs ds Y=(lx its.toArray.size).all λi=>eqD (ds.getD i .non) (Y.getD i .non):=by
        rw[Bc hl,WU,<-n1,l]
       rw[e];have hz:its.toArray.size=its'.toArray.size:=by simp;omega
       have he:∀j (h1:j < its.toArray.size) (h2:j < its'.toArray.size),EqAt A.in1 s its.toArray[j] its'.toArray[j] (eqD (ds.getD j .non) (Y.getD j .non)):=λj h1 h2=>by
        have φ:j < its.length:=by simpa using h1
        have τ:j < its'.length:=by simpa using h2
        have π:j < xs.length:=by omega
        have υ:j < δ.length:=by omega
        have ν:j < ds.length:=by omega
        have θ:j < Y.length:=by omega
        have g1:xs[j]? =a' (xs.getD j .non):=by rw[bB,cn π];rfl
        have g2:ds[j]? =a' (ds.getD j .non):=by rw[bB,cn ν];rfl
        have β:δ[j]? =a' (δ.getD j .non):=by rw[bB,cn υ];rfl
        have χ:Y[j]? =a' (Y.getD j .non):=by rw[bB,cn θ];rfl
        have hn:n≠0:=by omega
        exact(ih j _ _ g1 g2 (n - 1) (r' j _ _ β χ) (tO ζ h1) (tO ε h2) (by have:=LB (dt g2);omega) (by show A.units + 1 + (n - 1) < cLine;omega)).1
       exact⟨RcAt.lists pl.isList Z.isList hz @A he,RcNeAt.lists pl.isList Z.isList hz @A he⟩
      ·rw[Bb hl];have hz:(its.toArray.size != its'.toArray.size)=true:=by simp;omega
       exact⟨RcAt.lists_lengths pl.isList Z.isList hz @A,RcNeAt.lists_lengths pl.isList Z.isList hz @A⟩
     rw[eqD];refine⟨?_,γ⟩;by_cases ο:p=ι
     ·subst ο;have e:Dt.lst ds=Dt.lst Y:=(Rep.lst h l r).fun I (.lst h' ξ r');have ψ:eqDs ds Y=true:=by have:=PJ e;rw[eqD] at this;exact this
      rw[ψ];exact as3 _
     ·exact aw1 ο γ.1
 | @tup p xs ds h l r ih=>
   intro A e y u v n q η α hd ρ;cases η;obtain⟨its,ζ,pl,_⟩:=I.tuple h;rw[depD] at hd;cases q with
   | non=>cases α;exact⟨EqAt.tuple_none pl @A,RcAt.tuple_none pl @A,RcNeAt.tuple_none pl @A⟩
   | bl b=>cases α;exact⟨EqAt.tuple_bool b pl @A,RcAt.tuple_bool b pl @A,RcNeAt.tuple_bool b pl @A⟩
   | int b=>obtain⟨t,rfl⟩:=α;exact⟨EqAt.tuple_int b t pl @A,RcAt.tuple_int b t pl @A,RcNeAt.tuple_int b t pl @A⟩
   | str b=>obtain⟨t,rfl⟩:=α;exact⟨EqAt.tuple_str b t pl @A,RcAt.tuple_str b t pl @A,RcNeAt.tuple_str b t pl @A⟩
   | lst h' ξ r'=>
     cases α;obtain⟨_,_,Z,_⟩:=I.list h';exact⟨EqAt.tuple_list pl Z.isList @A,RcAt.tuple_list pl Z.isList @A,RcNeAt.tuple_list pl Z.isList @A⟩
   | @tup ι δ Y h' ξ r'=>
     cases α;obtain⟨its',ε,Z,_⟩:=I.tuple h';have n1:=ζ.length;have n2:=ε.length
     have γ:RcAt A s (.ref p) (.ref ι) (eqDs ds Y)/\RcNeAt A s (.ref p) (.ref ι) (!eqDs ds Y):=by
      have e:eqDs ds Y=((lx (min its.toArray.size its'.toArray.size)).all (λi=>eqD (ds.getD i .non) (Y.getD i .non))&&its.toArray.size == its'.toArray.size):=by
       by_cases hl:ds.length=Y.length
       ·have z1:its.toArray.size=ds.length:=by simp;omega
        have ω:its'.toArray.size=ds.length:=by simp;omega
        rw[Bc hl,z1,ω,ah9,Y2,Bool.and_true]
       ·have z:(its.toArray.size == its'.toArray.size)=false:=by rw[WY];simp;omega
        rw[Bb hl,z,Y3]
      rw[e]
      have he:∀j (h1:j < its.toArray.size) (h2:j < its'.toArray.size),EqAt A.in1 s its.toArray[j] its'.toArray[j] (eqD (ds.getD j .non) (Y.getD j .non)):=λj h1 h2=>by
       have φ:j < its.length:=by simpa using h1
       have τ:j < its'.length:=by simpa using h2
       have π:j < xs.length:=by omega
       have υ:j < δ.length:=by omega
       have ν:j < ds.length:=by omega
       have θ:j < Y.length:=by omega
       have g1:xs[j]? =a' (xs.getD j .non):=by rw[bB,cn π];rfl
       have g2:ds[j]? =a' (ds.getD j .non):=by rw[bB,cn ν];rfl
       have β:δ[j]? =a' (δ.getD j .non):=by rw[bB,cn υ];rfl
       have χ:Y[j]? =a' (Y.getD j .non):=by rw[bB,cn θ];rfl
       have hn:n≠0:=by omega
       exact(ih j _ _ g1 g2 (n - 1) (r' j _ _ β χ) (tO ζ h1) (tO ε h2) (by have:=LB (dt g2);omega) (by show A.units + 1 + (n - 1) < cLine;omega)).1
      exact⟨RcAt.tuples pl Z @A he,RcNeAt.tuples pl Z @A he⟩
     rw[eqD];refine⟨?_,γ⟩;by_cases ο:p=ι
     ·subst ο;have e:Dt.tup ds=Dt.tup Y:=(Rep.tup h l r).fun I (.tup h' ξ r');have ψ:eqDs ds Y=true:=by have:=PJ e;rw[eqD] at this;exact this
      rw[ψ];exact as3 _
     ·exact aw1 ο γ.1
end
noncomputable def rEqD (K:b') (neg:X1):R2:=λx y H Q=>∃d e,Rep K H x d/\Rep K H y e/\depD d<=100/\Q (.bl (if neg then !eqD d e else eqD d e)) H
section
variable {X:Cx} {K:b'}
theorem Rj (h:X.K=K) (hu:X.A.units + 100 < cLine):OpR X (compareOp .NotEq) (rEqD K true):=by
 subst h;intro pins s σ H x y v u Q I Z Y h;obtain⟨d,e,β,α,hd,q⟩:=h;exact(rc_D I β 100 α Z Y hd hu).2.2 X.prog X.w X.xe _ ⟨.bl _,H,I,rfl,q⟩
end
inductive Iw:St->Nat->WG V->St->Prop where
 | z {a v:WG V} {l:St}:Iw (a::l) 0 v (v::l)
 | s {a v:WG V} {l l':St} {i:Nat}:Iw l i v l'->Iw (a::l) (i + 1) v (a::l')
theorem Iw.eq {l:St} {v:WG V} (h:Iw l i v σ):l.set i v=σ:=by
 induction h with
 | z=>rfl
 | s _ ih=>rw[List.set_cons_succ,ih]
inductive Iz:St->Nat->V->Prop where
 | z {v:V} {l:St}:Iz (a' v::l) 0 v
 | s {a:WG V} {v:V} {l:St} {i:Nat}:Iz l i v->Iz (a::l) (i + 1) v
theorem Iz.eq {l:St} (h:Iz l i v):l[i]? =a' (a' v):=by
 induction h with
 | z=>rfl
 | s _ ih=>rw[List.getElem?_cons_succ];exact ih
section
variable {σ σ':St} {H:Hp} {Q:VK} {D:Ends} {ta tb tc te:TE} {t u:TS} {tt tt':TT} {r r':R2} {x y v:V}
theorem aw {t:TS} (e:start N vs=σ') (h:t D σ' H):t D (start N vs) H:=by rw[e];exact h
theorem VN (e:Iz σ i v) (h:Q v H):tVar i σ H Q:=⟨v,e.eq,h⟩
theorem s_rI {C:Int->Int->Prop} {g:Int->Int->V} {i j:Int} (c:C i j) (h:Q (g i j) H):rI C g (.int i) (.int j) H Q:=⟨i,j,rfl,rfl,c,h⟩
theorem VR {g:Int->Int->V} {i j:Int} (h:Q (g i j) H):rI0 g (.int i) (.int j) H Q:=⟨i,j,rfl,rfl,h⟩
theorem s_rU {g:Int->V} {i:Int} (h:Q (g i) H):rU g (.int i) H Q:=⟨i,rfl,h⟩
theorem VS (e:scal x y=true) (h:Q (.bl (decide (x=y))) H):rEq x y H Q:=⟨e,h⟩
theorem VQ (e:scal x y=true) (h:Q (.bl (!decide (x=y))) H):rNe x y H Q:=⟨e,h⟩
theorem S9 (h:D.nx σ H):SM D σ H:=h
theorem QY {Q:St->Hp->Prop} (e:Iw σ i (a' v) σ') (h:Q σ' H):Lk i v σ H Q:=by show Q (σ.set i (a' v)) H;rw[e.eq];exact h
theorem To {Q:St->Hp->Prop} (h:Q σ H):gNil [] σ H Q:=⟨rfl,h⟩
theorem QZ {g:TG} {Q:St->Hp->Prop} (h:g v σ H fun σ' H'=>qE vs σ' H' Q):RO g qE (v::vs) σ H Q:=⟨v,vs,rfl,h⟩
theorem Tj {K:b'} {n:Nat} {xs:ef V} {Q:St->Hp->Prop} (e:SqT K H p xs) (l:xs.length=n) (h:qE xs σ H Q):gTup K n qE (.ref p) σ H Q:=⟨p,xs,rfl,e,l,h⟩
def NewT (Q:VK) (xs:ef V) (H:Hp):Prop:=xs.length<=la/\∀p,H p=gn->Q (.ref p) (upd H p (.tup xs))
def NewL (Q:VK) (xs:ef V) (H:Hp):Prop:=xs.length<=la/\∀p,H p=gn->Q (.ref p) (upd H p (.lst xs))
theorem VO (h:sw σ H (NewT Q)):tTup sw σ H Q:=h
theorem VT (h:sw σ H (NewL Q)):tLst sw σ H Q:=h
theorem bo (h:H' C=gn):Same H' (upd H' C o):=λb u e=>by rw[aG (ao e h)];exact e
theorem kb (h:∀p H2,H p=gn->Same H H2->H2 p=a' o->Q (.ref p) H2):∀p,H p=gn->Q (.ref p) (upd H p o):=λp Y=>h p _ Y (bo Y) ax
theorem Same.get (e:Same H1 H') {b:eO} (h:H1 b=a' o):H' b=a' o:=e b o h
theorem Ta {xs:ef V} (l:xs.length<=la) (h:∀p H2,H p=gn->Same H H2->H2 p=a' (.tup xs)->Q (.ref p) H2):NewT Q xs H:=⟨l,kb h⟩
theorem Tb {xs:ef V} (l:xs.length<=la) (h:∀p H2,H p=gn->Same H H2->H2 p=a' (.lst xs)->Q (.ref p) H2):NewL Q xs H:=⟨l,kb h⟩
theorem Q4 (h:sw σ H λvs H1=>sp vs H1 Q E):Jc sp [] E sw σ H Q:=by unfold Jc;simp only[Y8];exact h
theorem VP {K:b'} {xs:ef V} {lo hi:WG Int} (e:SqL K H p xs) (h:∀q H2,H q=gn->Same H H2->H2 q=a' (.lst (cutV xs lo hi))->Q (.ref q) H2):rSlL K (.ref p) lo hi H Q:=⟨p,xs,rfl,e,kb h⟩
theorem VX {K:b'} {xs:ef V} {i:Int} (e:SqL K H p xs) (a:atI xs i=a' v) (h:Q v H):rIxL K (.ref p) (.int i) H Q:=⟨p,xs,i,v,rfl,rfl,e,a,h⟩
theorem VU {K:b'} {xs:ef V} {i:Int} (e:SqT K H p xs) (a:atI xs i=a' v) (h:Q v H):rIxT K (.ref p) (.int i) H Q:=⟨p,xs,i,v,rfl,rfl,e,a,h⟩
theorem VW {i:Int} (e:z.length<=la) (a:atI z.cps.toList i=a' c) (h:Q (.str ⟨#[c]⟩) H):rIxS (.str z) (.int i) H Q:=⟨z,i,c,rfl,rfl,e,a,h⟩
theorem Ky {n:Nat} (h:n<=1000):n<=sizeLine:=YA (aR h)
theorem V1 {K:b'} {d e:Dt} (Z:Rep K H x d) (Y:Rep K H y e) (hd:depD d<=100) (h:Q (.bl (if neg then !eqD d e else eqD d e)) H):rEqD K neg x y H Q:=⟨d,e,Z,Y,hd,h⟩
theorem s_ty {K:b'} {A:Prop} (e:tyV K T x H) (h:A):tyV K T x H/\A:=⟨e,h⟩
theorem Tw {i:Int} (h:Q (.int (WI i:Nat)) H):TJ (.int i) [] H Q:=⟨i,rfl,rfl,h⟩
theorem Pa {K:b'} {ys:B'} (e:SqL K H p (ys.map V.str)) (l:(ys.map (·.length)).sum + ys.length * z.length<=16777216) (h:Q (.str (ao7 z ys)) H):TF K (.str z) [.ref p] H Q:=⟨z,p,ys,rfl,rfl,e,l,h⟩
theorem Th {K:b'} {xs:ef V} (e:SqL K H p xs) (h:Q (.int xs.length) H):rLen K [.ref p] H Q:=⟨_,_,rfl,.inl ⟨xs,e,rfl⟩,h⟩
theorem Tf {K:b'} {xs:ef V} (e:SqT K H p xs) (h:Q (.int xs.length) H):rLen K [.ref p] H Q:=⟨_,_,rfl,.inr ⟨xs,e,rfl⟩,h⟩
theorem Tg {K:b'} (e:z.length<=la) (h:Q (.int z.length) H):rLen K [.str z] H Q:=⟨_,_,rfl,⟨e,rfl⟩,h⟩
theorem VY {K:b'} {k:Yo} (e:nv K H x k) (m:T∈["int","bool","str","list","tuple","dict"]) (h:Q (.bl (subB k T)) H):rIsi K [x,.ty T] H Q:=⟨x,k,T,rfl,e,m,h⟩
theorem Tr (h:∀p H2,H p=gn->Same H H2->H2 p=a' (.dK [])->Q (.ref p) H2):O2 σ H Q:=kb h
theorem VZ {g:TG} (h:sA σ H λJ H1=>∃W:Nat->Nat->St->Hp->Prop,(∃m,W 0 m σ H1)/\∀i m σ H,W i m σ H->(J.stop i H/\D.nx σ H)∨(J.go i H/\∃N:St->Hp->Prop,(∀σ' H',N σ' H'->∃ω,ω < m/\W (i + 1) ω σ' H')/\∀x H',J.yld i H x H'->g x σ H' λY H2=>px {D with nx:=N,ct:=N,bk:=D.nx} Y H2)):tFor sA g px D σ H:=h
theorem VM {Q:X1->Hp->Prop} (h:Q true H):tYes σ H Q:=h
theorem S7 {A B:Prop} (h:A):if true=true then A else B:=by rw[zt rfl];exact h
theorem Q0 {A B:Prop} (h:B):if false=true then A else B:=by rw[oT hF];exact h
theorem mY {c:X1} {A B:Prop} (e:c=true) (h:A):if c=true then A else B:=by rw[zt e];exact h
theorem gL {c:X1} {A B:Prop} (e:c=false) (h:B):if c=true then A else B:=by rw[e,oT hF];exact h
theorem Tv {n:Nat} {g:TG} (h:sA σ H λJ H1=>∀D,H1 D=gn->
 ∃W:Nat->Nat->ef V->Hp->Prop,(∃m,W 0 m [] (upd H1 D (.lst [])))/\∀i m ys H2,W i m ys H2->(J.stop i H2/\Q (.ref D) H2)∨
   (J.go i H2/\∃N:ef V->Hp->Prop,(∀Z H',N Z H'->∃ω,ω < m/\W (i + 1) ω Z H')/\∀x δ,J.yld i H2 x δ->g x (dU n fx σ) δ λY ε=>tt Y ε λb γ=>
    if b=true then te Y γ λv β=>β D=a' (.lst ys)/\ys.length < la/\N (ys++[v]) (upd β D (.lst (ys++[v]))) else N ys γ)):MT n fx sA g tt te σ H Q:=h
theorem BF {K:b'} {bs:ef X1} (e:SqL K H p (bs.map V.bl)) (h:Q (.bl (bs.all id)) H):TL K [.ref p] H Q:=⟨p,bs,rfl,e,h⟩
theorem Pc {K:b'} {bs:ef X1} (e:SqL K H p (bs.map V.bl)) (h:Q (.bl (bs.any id)) H):TK K [.ref p] H Q:=⟨p,bs,rfl,e,h⟩
theorem Nw {j:Int} {A:Prop} (h1: -(2 ^ 62)<=j) (h2:j < 2 ^ 62) (h:A): -(2 ^ 62)<=j/\j < 2 ^ 62/\A:=⟨h1,h2,h⟩
end
noncomputable def tCut (t u:TS):TS:=λD σ H=>∃P:St->Hp->Prop,t {D with nx:=P} σ H/\∀σ' H',P σ' H'->u D σ' H'
theorem Ra {st:ZD} {t u:TS} (h1:PS X st t) (h2:PSs X pp u):PSs X (st::pp) (tCut t u):=by
 intro pins s σ H D I ⟨P,a,b⟩;refine ak0 (thn (h1 pins s σ H {D with nx:=P} I a) λf Z q=>?_);cases f with
 | next=>obtain⟨Y,H1,β,α⟩:=q;exact h2 pins Z Y H1 D β (b Y H1 α)
 | brk=>exact q
 | cont=>exact q
 | ret v=>exact q
theorem V3 {t u:TS} (P:St->Hp->Prop) (h:t {pi with nx:=P} σ H) (k:∀σ' H',P σ' H'->u pi σ' H'):tCut t u pi σ H:=⟨P,h,k⟩
section
variable {K:b'} {n:Nat} {fx:C'} {g:TG} {tc:TT} {te:TE} {σ:St} {H1:Hp} {D:eO} {Q:Hp->Prop}
structure Cs (Pv:Nat->ef V->Prop) (H1:Hp) (D:eO) (i:Nat) (ys:ef V) (H:Hp):Prop where
 pv:Pv i ys
 same:Same H1 H
 at':H D=a' (.lst ys)
 len:ys.length<=i
theorem Cs.put {Pv:Nat->ef V->Prop} {ys:ef V} (f:H1 D=gn) (s:Same H1 H) (e:H D=a' (.lst ys)) (l:ys.length<=i) (hi:i < 16777216) (p:Pv (i + 1) (ys++[v])):
  H D=a' (.lst ys)/\ys.length < la/\Cs Pv H1 D (i + 1) (ys++[v]) (upd H D (.lst (ys++[v]))):=
 ⟨e,by rw[ra];omega,p,λb o h=>by rw[aG (ao h f)];exact s b o h,ax,by rw[eX];simpa using l⟩
theorem Cs.skip {Pv:Nat->ef V->Prop} {ys:ef V} (s:Same H1 H) (e:H D=a' (.lst ys)) (l:ys.length<=i) (p:Pv (i + 1) ys):Cs Pv H1 D (i + 1) ys H:=⟨p,s,e,@A⟩
theorem Cs.zero {Pv:Nat->ef V->Prop} (f:H1 D=gn) (p:Pv 0 []):Cs Pv H1 D 0 [] (upd H1 D (.lst [])):=⟨p,bo f,ax,p' _⟩
end
structure P8 (K:b') (C:eO) (m:Wz) (f:eO):Prop where
 ga:YN K (.ref C) "__getattribute__"=a' (a' (.builtin "type.__getattribute__"))
 rd:aq0 K C (.type "type")=true
 fd:aq3 K (.ref C) (.type "type") m=a' (.val (.ref f))
 hd:af5 (.ref f)=true
 kp:XM K (.ref f)=true
section
variable {X:Cx} {CX:CXT} {k:Nat} {f C:eO} {fd:iv} {ps:B'} {sp:Sp} {dvs:ef V} {ds:F'} {E:XK} {x m:Wz} {p pos apos:Pos} {e o:XS} {es:ef XS} {ta:TE} {t:TA}
theorem wI {pl:Sem X1} (ζ:Gl X x) (hx:X.mg x=a' (.ref C)) (c:P8 X.K C m f) (F:FnOk X.prog X.w X.K X.mg X.base CX k f fd ps sp) (ε:Room k X.A) (hb:qv X.K fd ps ds) (hd:Vals dvs ds) (Y:tH CX X E) (ha:PA X (e::es) t)
  (β:(x == ("__debug__":Wz))=false:=by decide) (Z:zx (e::es) X.env=(false,eval e X.env)::zx es X.env:=by rfl) (α:(backTo pos (zx es X.env)).any (·.1)=false:=by rfl)
  (ht:eval (.Call (.Attribute (.Name x p) m apos) (e::es) [] pos) X.env=(do
   let δ <-eval (.Name x p) X.env
   standAt apos.atName
   let (f,first) <-holding [δ] (getMethod δ m pl)
   callWith pos f first (backTo pos (zx (e::es) X.env)) (backToKw pos (keywordEach [] X.env))):=by rfl):
  PE X (.Call (.Attribute (.Name x p) m apos) (e::es) [] pos) (Jc sp dvs E t):=by
 intro pins s σ H Q I h;refine Zl (pl:=pl) (uB I ζ hx ?_ β) ht;refine PySem.W.method_cls I.kIn c.ga (PySem.W.cls_value I.kIn c.rd c.fd c.hd ?_);have I1:=I.tok (s.toks + 1);refine YG (first:=[]) (h₀:=X.base) I1.ok.mod.kin c.kp (thn (ha pos pins _ σ H _ I1 h) λus η ⟨vs,H2,I2,r,γ⟩=>⟨I2.kIn,?_⟩) Z α;exact Fv (us:=us) (vs:=vs) F ε hb hd Y I2 r γ
end
structure Ww (K:b') (D:eO):Prop where
 cls:Cls K D
 ha:WW K (.ref D) "__class__"=a' (a' (.builtin "object.__class__"))
 hn:YN K (.builtin "object.__class__") "__get__"=a' (a' (.builtin "getset_descriptor.__get__"))
 tk:ag8 K (.builtin "object.__class__")=a' true
 hm:Yu K D (.type "object")=a' true
section
variable {X:Cx} {K:b'}
theorem aH {f:Wz} (h:X.K=K) (he:PE X e ta) (hb:attributeBase e f X.env (eval e X.env)=eval e X.env):PE X (.Attribute e f pos) (tFld K ta f):=by subst h;exact Ua he hb
theorem cW {o:XS} {f:Wz} (h:X.K=K) (ha:PE X o ta) (Y:PE X value ξ) (hs:swapsWith value (a' (.Attribute o f pos')) pos.line X.env=pure false):PS X (.Assign [.Attribute o f pos'] value pos) (sFld K ta ξ f):=by subst h;exact T1 ha Y hs
theorem PE.or {t u:TE} (h:PE X e t) (h':PE X e u):PE X e (fun σ H Q=>t σ H Q∨u σ H Q):=by
 intro pins s σ H Q I q;rcases q with q | q
 ·exact h pins s σ H Q I q
 ·exact h' pins s σ H Q I q
end
section
variable {σ:St} {H:Hp} {Q:VK} {D:Ends} {te tv ta:TE} {x y v:V}
def Sm (K:b') (f:Wz) (Q:VK) (x:V) (H:Hp):Prop:=∃a C dx fs v,x= .ref a/\H a=a' (.ins C dx fs)/\Cls K C/\cJ K C f/\fs.lookup f=a' v/\Q v H
theorem V0 {K:b'} {f:Wz} (h:te σ H (Sm K f Q)):tFld K te f σ H Q:=h
theorem aF {K:b'} {f:Wz} (e:H p=a' (.ins C dx AT)) (c:Cls K C) (n:cJ K C f) (l:AT.lookup f=a' v) (h:Q v H):Sm K f Q (.ref p) H:=⟨p,C,dx,AT,v,rfl,e,c,n,l,h⟩
structure Upd (H H':Hp) (p:eO) (o:HO):Prop where
 at':H' p=a' o
 oth:∀b u,b≠p->H b=a' u->H' b=a' u
 non:∀b,b≠p->H b=gn->H' b=gn
theorem Upd.of:Upd H' (upd H' p o) p o:=⟨ax,λb u n h=>by rw[aG n];exact h,λb n h=>by rw[aG n];exact h⟩
def Vp (K:b') (f:Wz) (y:V) (D:Ends) (σ:St) (x:V) (H:Hp):Prop:=∃a C dx fs,x= .ref a/\H a=a' (.ins C dx fs)/\Cls K C/\cJ K C f/\fs.length < 1000/\D.nx σ (upd H a (.ins C dx (putF f y fs)))
theorem Nu {K:b'} {f:Wz} (h:tv σ H λy H1=>te σ H1 (Vp K f y D σ)):sFld K te tv f D σ H:=h
theorem cV {K:b'} {f:Wz} (e:H p=a' (.ins C dx AT)) (c:Cls K C) (n:cJ K C f) (l:AT.length < 1000) (Y:putF f y AT=At) (h:∀H2,Upd H H2 p (.ins C dx At)->D.nx σ H2):
  Vp K f y D σ (.ref p) H:=⟨p,C,dx,AT,rfl,e,c,n,l,by rw[Y];exact h _ Upd.of⟩
def P6 (C:eO) (sp:Sp) (E:XK) (Q:VK) (vs:ef V) (H:Hp):Prop:=∀x dx,H x=gn->H dx=gn->dx≠x->sp (.ref x::(vs++[])) (upd (upd H dx (.own x)) x (.ins C dx [])) (λv H2=>v= .non/\Q (.ref x) H2) E
theorem Td (h:sw σ H (P6 C sp E Q)):SN C sp [] E sw σ H Q:=h
theorem Nv (h:∀x dx H2,H x=gn->Same H H2->H2 x=a' (.ins C dx [])->sp (.ref x::vs) H2 (λv H2=>v= .non/\Q (.ref x) H2) E):P6 C sp E Q vs H:=by
 intro x dx Y Z n;rw[Y8];exact h x dx _ Y (λb o e=>by rw[aG (ao e Y),aG (ao e Z)];exact e) ax
theorem Upd.same (u:Upd H H2 p o) (f:H' p=gn) (s:Same H' H):Same H' H2:=λb q e=>u.oth b q (ao e f) (s b q e)
theorem Upd.trans (u:Upd H H2 p o) (w:Upd H2 H' p eH):Upd H H' p eH:=⟨w.at',λb q n e=>w.oth b q n (u.oth b q n e),λb n e=>w.non b n (u.non b n e)⟩
end
theorem Inv.laidCh {t':Nat} (I:Inv X pins σ H s) (k:∀b u,b∉ch->s.heap.get? b=a' u->h'.get? b=a' u) (α:s.heap.objs.size<=a)
  (ι:iy X.prog X.w (upd H a o) h' a o) (fp:∀b∈ch,FpOk X pins H b):Inv X pins σ (upd H a o) {s with heap:=h',toks:=t'}:=by
 have fr:H a=none:=I.hok.fresh α;have Z:∀b u,H b=a' u->b∉ch:=λb u e z=>by rw[(fp b z).1] at e;cases e
 refine I.step (g':=s.gens) (d':=s.drawn) (ch:=ch) (λb hb=>?_) (λb ob _ _ Y e _=>k b ob Y e) (λb ob _ _ Y e _=>⟨ob.slots,k b ob Y e⟩) (λb ob _ e n=>?_) (λb ob Y e=>⟨ob,k b ob Y e⟩)
  (λb xs e=>by rw[aG (ao e fr)];exact e) (λb ob u e=>by rw[aG (ao e fr)];exact e) (λb ps e=>⟨#[],by rw[aG (ao e fr),e];simp⟩) (λm hm=>?_) (λb u e=>?_) I.bare
 ·obtain⟨ζ,δ,ε,ξ,γ,β⟩:=fp b hb;exact⟨ξ,δ,γ,β⟩
 ·rw[aG (W' (eP (i' e) α))];exact n
 ·obtain⟨ob,es,ep,ho,r⟩:=hm;exact⟨ob,es,ep,k _ ob (λz=>(fp _ z).2.1 rfl) ho,r⟩
 ·by_cases hb:b=a
  ·subst hb;rw[ax] at e;cases e;exact ι
  ·rw[aG hb] at e;refine(I.hok b u e).stay (λc v Y q=>k c v ?_ q) (λc q=>by rw[aG (ao q fr)];exact q) λc xs q=>by rw[aG (ao q fr)];exact q
   rcases Y with z | z
   ·rw[z];exact Z b u e
   ·exact Z c _ z
theorem Inv.turnedCh {t':Nat} (I:Inv X pins σ H s) (k:∀b u,b∉ch->s.heap.get? b=a' u->h'.get? b=a' u)
  (fp:∀b∈ch,FpOk X pins H b):Inv X pins σ H {s with heap:=h',toks:=t'}:=by
 have Z:∀b u,H b=a' u->b∉ch:=λb u e z=>by rw[(fp b z).1] at e;cases e
 refine I.step (g':=s.gens) (d':=s.drawn) (ch:=ch) (λb hb=>?_) (λb ob _ _ Y e _=>k b ob Y e) (λb ob _ _ Y e _=>⟨ob.slots,k b ob Y e⟩) (λb ob _ e n=>n) (λb ob Y e=>⟨ob,k b ob Y e⟩)
  (λb xs e=>e) (λb ob u e=>e) (λb ps e=>⟨#[],by rw[e];simp⟩) (λm hm=>?_) (λb u e=>?_) I.bare
 ·obtain⟨ε,γ,δ,ξ,β,α⟩:=fp b hb;exact⟨ξ,γ,β,α⟩
 ·obtain⟨ob,es,ep,ho,r⟩:=hm;exact⟨ob,es,ep,k _ ob (λz=>(fp _ z).2.1 rfl) ho,r⟩
 ·refine(I.hok b u e).stay (λc v Y q=>k c v ?_ q) (λc q=>q) λc xs q=>q;rcases Y with z | z
  ·rw[z];exact Z b u e
  ·exact Z c _ z
noncomputable def Ite (K:b') (a:eO):It:=
 ⟨λi H=>∃xs x,SqL K H a xs/\xs[i]? =a' x,λi H x H'=>∃p v,H p=gn/\x= .ref p/\H'=upd H p (.tup [.int i,v])/\∀xs,SqL K H a xs->xs[i]? =a' v,λi H=>∃xs,SqL K H a xs/\xs.length=i⟩
noncomputable def Itz (x:Wz):It:=⟨λi _=>i < x.cps.size,λi H v H'=>∃p c,H p=gn/\v= .ref p/\H'=upd H p (.tup [.int i,.str ⟨#[c]⟩])/\x.cps[i]? =a' c,λi _=>i=x.cps.size⟩
theorem BA:(2:Nat)<=sizeLine:=by rw[ra];decide
theorem zA {P:WJ} {w:X5} {K:b'} {k:Nat} (a e α:eO) (δ:e≠α):
  Turn P w K (.Tuple β k pos) (Ite K a) [e,α] e (λi h=>(∃Z,IsEnum h e α i Z)/\h.IsListIter α a i) where
 mem:=by simp
 obj:=λi h st b hb=>by
  obtain⟨⟨Z,he⟩,⟨o,ho,ψ,hd⟩⟩:=st;rcases WH.mp hb with z | z
  ·subst z;exact⟨_,he,λv z=>by cases z⟩
  ·rw[gA.mp z];exact⟨o,ho,λv z=>by rw[hd] at z;cases z⟩
 keep:=λi h h' st k=>⟨let ⟨Z,he⟩:=st.1;⟨Z,k e @E _ he⟩,st.2.at λo z=>k α @E o z⟩
 item:=by
  intro X hP hw hK ψ i pins s σ H E I hf st hg;subst hP hw hK;obtain⟨xs,x,χ,φ⟩:=hg;obtain⟨its,τ,p,hz⟩:=I.list χ;obtain⟨⟨Z,he⟩,hl⟩:=st
  have ι:a≠α:=λz=>by
   obtain⟨o,ho,θ,_⟩:=hl;obtain⟨o',n,η,Y,_⟩:=p;rw[z,ho] at η;cases η;rw[θ] at Y;exact hQ Y @C
  have ν:a≠e:=λz=>by
   obtain⟨o',n,η,Y,_⟩:=p;rw[z,he] at η;cases η;exact hQ (show ZR "enumerate"= .type "list" from Y) @C
  have W:=YO (prog:=X.prog) (w:=X.w) (A:=X.A) (Draws.list (A:=X.A.in1) (I.ok.hd ψ) α a ι its.toArray) e δ (by simp[δ,WK ν]) @E;have hi:i < its.toArray.size:=by have:=τ.length;have:=(bA.mp φ).1;simp;omega
  refine W.item i s _ _ hi ⟨⟨Z,he⟩,hl,p.isList⟩ λT ω h' tk a3 hT ξ ε hk=>⟨_,rfl,W.go β k pos i T _ _ _ ε λa4 ο π=>?_⟩;obtain⟨t,γ,υ,rfl⟩:=a3;have a0:=W.apart i T h' ε
  have ru:RelV x γ:=by
   obtain⟨u,ρ,r⟩:=τ.get φ;have ζ:its[i]? =a' γ:=by simpa using υ
   rw[ρ] at ζ;cases ζ;exact r
  have kk:∀b u,b∉[e,α]->s.heap.get? b=a' u->a4.get? b=a' u:=λb u hb q=>π b u hb (hk b u hb q);have fr:H T=none:=I.hok.fresh hT;refine⟨.ref T,upd H T (.tup [.int i,x]),I.laidCh (t':=tk) kk hT ⟨BA,[.int i t,γ],.cons ⟨t,rfl⟩ (.cons ru .nil),?_⟩ hf,rfl,⟨T,x,fr,rfl,rfl,λys hy=>by rw[I.list_inj hy χ];exact φ⟩,⟨ο.1,ο.2.1⟩,λb hb=>?_⟩
  ·obtain⟨o,ho,r⟩:=ξ;exact⟨o,π T o a0 ho,r⟩
  ·have fb:=(hf b hb);rw[aG (λz=>?_)]
   ·exact fb.1
   ·have lt:b < s.heap.objs.size:=by
     rcases WH.mp hb with z | z
     ·subst z;exact i' he
     ·rw[gA.mp z];obtain⟨o,ho,_⟩:=hl;exact i' ho
    rw[z] at lt;exact hQ (eP lt hT) (Yg _)
 done:=by
  intro X hP hw hK ψ i pins s σ H E I hf st hg;subst hP hw hK;obtain⟨xs,χ,φ⟩:=hg;obtain⟨its,τ,p,hz⟩:=I.list χ;obtain⟨⟨Z,he⟩,hl⟩:=st
  have ι:a≠α:=λz=>by
   obtain⟨o,ho,θ,_⟩:=hl;obtain⟨o',n,η,Y,_⟩:=p;rw[z,ho] at η;cases η;rw[θ] at Y;exact hQ Y @C
  have ν:a≠e:=λz=>by
   obtain⟨o',n,η,Y,_⟩:=p;rw[z,he] at η;cases η;exact hQ (show ZR "enumerate"= .type "list" from Y) @C
  have W:=YO (prog:=X.prog) (w:=X.w) (A:=X.A) (Draws.list (A:=X.A.in1) (I.ok.hd ψ) α a ι its.toArray) e δ (by simp[δ,WK ν]) @E;have hn:its.toArray.size=i:=by have:=τ.length;simp;omega
  subst hn;exact W.done s _ _ ⟨⟨Z,he⟩,hl,p.isList⟩ λh' tk hk=>⟨rfl,I.turnedCh hk hf⟩
 self:=λ_ _ _ _ _ st h=>let ⟨_,he⟩:=st.1;YE he h
theorem Gq {P:WJ} {w:X5} {K:b'} {k:Nat} {x:Wz} {t:Tok} {n:Yo} (e Z:eO) (δ:e≠Z)
  (D:∀A:X2,A.handled=gn->Draws P w A Z [Z] x.cps.size (λi v=>∃c u,x.cps[i]? =a' c/\v= .str ⟨#[c]⟩ u) (λi h=>h.IsStrIter Z n x t i)):
  Turn P w K (.Tuple β k pos) (Itz x) [e,Z] e (λi h=>(∃Y,IsEnum h e Z i Y)/\h.IsStrIter Z n x t i) where
 mem:=by simp
 obj:=λi h st b hb=>by
  obtain⟨⟨Y,he⟩,⟨o,ho,ι,hd⟩⟩:=st;rcases WH.mp hb with z | z
  ·subst z;exact⟨_,he,λv z=>by cases z⟩
  ·rw[gA.mp z];exact⟨o,ho,λv z=>by rw[hd] at z;cases z⟩
 keep:=λi h h' st k=>⟨let ⟨Y,he⟩:=st.1;⟨Y,k e @E _ he⟩,let ⟨o,ho,r⟩:=st.2;⟨o,k Z @E o ho,r⟩⟩
 item:=by
  intro X ο hw π ι i pins s σ H E I hf st θ;subst ο hw π;obtain⟨⟨Y,he⟩,hl⟩:=st;have W:=YO (prog:=X.prog) (w:=X.w) (A:=X.A) (D X.A.in1 (I.ok.hd ι)) e δ (by simp[δ]) @E;refine W.item i s _ _ θ ⟨⟨Y,he⟩,hl⟩ λT ω h' tk ξ hT ε α hk=>⟨_,rfl,W.go β k pos i T _ _ _ α fun ρ ζ η=>?_⟩;obtain⟨τ,γ,⟨c,u,υ,rfl⟩,rfl⟩:=ξ;have ν:=W.apart i T h' α;have φ:∀b u,b∉[e,Z]->s.heap.get? b=a' u->ρ.get? b=a' u:=λb u hb q=>η b u hb (hk b u hb q);have fr:H T=none:=I.hok.fresh hT;refine⟨.ref T,upd H T (.tup [.int i,.str ⟨#[c]⟩]),I.laidCh (t':=tk) φ hT ⟨BA,[.int i τ,.str ⟨#[c]⟩ u],.cons ⟨τ,rfl⟩ (.cons ⟨u,rfl⟩ .nil),?_⟩ hf,rfl,⟨T,c,fr,rfl,rfl,υ⟩,⟨ζ.1,ζ.2⟩,λb hb=>?_⟩
  ·obtain⟨o,ho,r⟩:=ε;exact⟨o,η T o ν ho,r⟩
  ·have χ:=(hf b hb);rw[aG (λz=>?_)]
   ·exact χ.1
   ·have lt:b < s.heap.objs.size:=by
     rcases WH.mp hb with z | z
     ·subst z;exact i' he
     ·rw[gA.mp z];obtain⟨o,ho,_⟩:=hl;exact i' ho
    rw[z] at lt;exact hQ (eP lt hT) (Yg _)
 done:=by
  intro X ο hw π ι i pins s σ H E I hf st θ;subst ο hw π;obtain⟨⟨Y,he⟩,hl⟩:=st;have W:=YO (prog:=X.prog) (w:=X.w) (A:=X.A) (D X.A.in1 (I.ok.hd ι)) e δ (by simp[δ]) @E;have θ:i=x.cps.size:=θ;subst θ;exact W.done s _ _ ⟨⟨Y,he⟩,hl⟩ λh' tk hk=>⟨rfl,I.turnedCh hk hf⟩
 self:=λ_ _ _ _ _ st h=>let ⟨_,he⟩:=st.1;YE he h
noncomputable def UM (K:b') (tl:TE):TI:=fun σ H R=>tl σ H λx H1=>(∃a,x= .ref a/\(∃xs,SqL K H1 a xs)/\R (Ite K a) H1)∨∃z,x= .str z/\R (Itz z) H1
section
variable {X:Cx} {K:b'}
theorem Eg {l:XS} {k:Nat} {p:Pos} (h:X.K=K) (θ:Gl X "enumerate") (hm:X.mg "enumerate"=gn) (hl:PE X l tl) (hs:zx [l] X.env=[(false,eval l X.env)]:=by rfl):
  PI X (.Tuple β k tpos) (.Call (.Name "enumerate" p) [l] [] pos) (UM K tl):=by
 subst h;intro pins s σ H R I h;refine ap7 (oW I θ hm boot_enumerate (X0 (thn (aa hl af hs pos pins s σ H (λvs H1=>match vs with | [x]=>(∃a,x= .ref a/\(∃xs,SqL X.K H1 a xs)/\R (Ite X.K a) H1)∨∃z,x= .str z/\R (Itz z) H1 | _=>False) I h) λus Y ⟨vs,H1,I1,γ,δ⟩=>?_) hs rfl))
 match vs,γ,δ with
 | [x],γ,δ=>
 obtain⟨u,rfl,ζ⟩:=γ.one;rcases δ with ⟨a,rfl,⟨xs,η⟩,q⟩ | ⟨z,rfl,q⟩
 ·cases ζ;obtain⟨its,ι,pl,hz⟩:=I1.list η;refine at7 pl.isList λh' he α hsz hk=>YE he ?_;refine⟨Y.heap.objs.size + 1,[Y.heap.objs.size + 1,Y.heap.objs.size],_,_,H1,rfl,I1.kept (t':=Y.toks) hk,zA a _ _ (XY (Y5 _)),⟨⟨_,he⟩,α⟩,λb hb=>?_,q⟩;have Z:Y.heap.objs.size<=b:=(WH.mp hb).elim (λz=>by rw[z];exact ae7 _) (λz=>by rw[gA.mp z];exact p' _);exact I1.fpOk Z (I1.hok.fresh Z)
 ·obtain⟨t,rfl⟩:=ζ;refine call_enumerate_str λh' he α hsz hk=>YE he ?_
  have fin:∀n,(h'.IsStrIter Y.heap.objs.size n z t 0)->(∀A:X2,A.handled=gn->Draws X.prog X.w A Y.heap.objs.size [Y.heap.objs.size] z.cps.size (λi v=>∃c u,z.cps[i]? =a' c/\v= .str ⟨#[c]⟩ u) (λi h=>h.IsStrIter Y.heap.objs.size n z t i))->
    PIE X pins σ (.Tuple β k tpos) R (.ref (Y.heap.objs.size + 1)) {Y with heap:=h'}:=λn hn D=>by
   refine⟨Y.heap.objs.size + 1,[Y.heap.objs.size + 1,Y.heap.objs.size],_,_,H1,rfl,I1.kept (t':=Y.toks) hk,Gq _ _ (XY (Y5 _)) D,⟨⟨_,he⟩,hn⟩,λb hb=>?_,q⟩;have Z:Y.heap.objs.size<=b:=(WH.mp hb).elim (λz=>by rw[z];exact ae7 _) (λz=>by rw[gA.mp z];exact p' _);exact I1.fpOk Z (I1.hok.fresh Z)
  unfold strIterType at α;split at α
  ·exact fin _ α λA ε=>Draws.strAscii ε _ z t
  ·exact fin _ α λA ε=>Draws.strWide ε _ z t
end
theorem A9 {K:b'} {xs:ef V} {g:TG} (Pv:Nat->St->Hp->Prop) (h0:Pv 0 σ H) (hl:∀i σ H,i<=xs.length->Pv i σ H->SqL K H a xs)
  (hs:∀i x σ H p H',xs[i]? =a' x->Pv i σ H->H p=gn->Same H H'->H' p=a' (.tup [.int i,x])->g (.ref p) σ H' λY H2=>tb {pi with nx:=Pv (i + 1),ct:=Pv (i + 1),bk:=pi.nx} Y H2) (hd:∀σ H,Pv xs.length σ H->pi.nx σ H):
  ∃W:Nat->Nat->St->Hp->Prop,(∃m,W 0 m σ H)/\∀i m σ H,W i m σ H->
    ((Ite K a).stop i H/\pi.nx σ H)∨((Ite K a).go i H/\∃N:St->Hp->Prop,(∀σ' H',N σ' H'->∃ω,ω < m/\W (i + 1) ω σ' H')/\∀x H',(Ite K a).yld i H x H'->g x σ H' λY H2=>tb {pi with nx:=N,ct:=N,bk:=pi.nx} Y H2):=by
 refine⟨λi m σ H=>m=xs.length - i/\i<=xs.length/\Pv i σ H,⟨xs.length,@E,XZ _,h0⟩,?_⟩;rintro i m σ H ⟨rfl,hi,p⟩;have q:=hl i σ H hi p;by_cases α:i < xs.length
 ·refine .inr ⟨⟨xs,xs[i],q,by simp[α]⟩,Pv (i + 1),fun σ' H' Z=>⟨xs.length - (i + 1),by omega,rfl,α,Z⟩,λx H' y=>?_⟩;obtain⟨r,v,f,γ,β,y⟩:=y;subst γ β;exact hs i v σ H r _ (y xs q) p f (bo f) ax
 ·have e:i=xs.length:=by omega
  subst e;exact .inl ⟨⟨xs,q,rfl⟩,hd σ H p⟩
section
variable {σ:St} {H:Hp} {te:TE} {R:It->Hp->Prop}
theorem QX {K:b'} (h:te σ H λx H1=>(∃a,x= .ref a/\(∃xs,SqL K H1 a xs)/\R (Ite K a) H1)∨∃z,x= .str z/\R (Itz z) H1):UM K te σ H R:=h
end
noncomputable def Pf:V->ef V->Hp->VK->Prop:=λx xs H Q=>∃z y,x= .str z/\xs=[.str y]/\y.length≠0/\z.length + 2<=la/\∀D,H D=gn->Q (.ref D) (upd H D (.lst ((Yw z y).map V.str)))
theorem Bz:∀(Y:B') (n:Nat),Vals (Y.map V.str) (strsFrom n Y)
 | [],_=> .nil
 | x::r,n=> .cons ⟨n,rfl⟩ (Bz r (n + 1))
section
variable {X:Cx}
theorem FP:MtR X "str.split" Pf:=by
 intro pins s σ H x xs v us Q I α rs h;obtain⟨z,y,rfl,rfl,Z,hz,q⟩:=h;obtain⟨t,rfl⟩:=α;obtain⟨u,rfl,β⟩:=vZ rs;obtain⟨t',rfl⟩:=β;have Z:(y.length == 0)=false:=WY.mpr Z;have γ:=split_le z y;have fr:=I.hok.fresh (p' s.heap.objs.size)
 have Y:Yw z y=[z]->EP X pins σ Q (.ref s.heap.objs.size) {s with heap:=s.heap.push {cls:= .type "list",data:= .seq [ag5 z t].toArray}}:=λe=>
  ⟨.ref s.heap.objs.size,_,I.laid (t':=s.toks) (o:= .lst ((Yw z y).map V.str)) (λb o e=>gz _ e) (p' _) ⟨by rw[bx];omega,[.str z t],0,by rw[e];exact .cons ⟨t,rfl⟩ .nil,v' _ rfl⟩,rfl,q _ fr⟩
 cases h1:(decide (z.length < y.length)||decide (aj6 z < aj6 y)) with
 | true=>exact ZK F.slot_str_split (ai4 _ _ _) F.entry_str_split (F.args_str_split_2 _ _) (meets_str_split_cannot_occur z y t t' h1) (Y (zt h1))
 | false=>
   cases hf:(ZT z y 0 z.length (z.length + 1)).isEmpty with
   | true=>exact ZK F.slot_str_split (ai4 _ _ _) F.entry_str_split (F.args_str_split_2 _ _) (meets_str_split_not_found z y t t' h1 Z hf) (Y ((oT (ag7 h1)).trans (zt hf)))
   | false=>
     have e:Yw z y=Builtin.Str.partsBetween z (ZT z y 0 z.length (z.length + 1)) y.length:=(oT (ag7 h1)).trans (oT (ag7 hf));refine ZK F.slot_str_split (ai4 _ _ _) F.entry_str_split (F.args_str_split_2 _ _) (meets_str_split_sep z y t t' h1 Z hf @A (by rw[<-e];omega)) ?_;refine⟨.ref s.heap.objs.size,_,I.laid (λb o e=>gz _ e) (p' _) (o:= .lst ((Yw z y).map V.str)) ⟨by rw[bx];omega,_,0,?_,v' _ rfl⟩,rfl,q _ fr⟩;rw[e];exact Bz _ _
end
section
variable {σ:St} {H:Hp} {Q:VK} {D:Ends} {te ty tv td:TE} {x y v:V}
theorem JF {w:Wz} (hw:w.length≠0) (hz:z.length + 2<=la) (h:∀p H2,H p=gn->Same H H2->H2 p=a' (.lst ((Yw z w).map V.str))->Q (.ref p) H2):Pf (.str z) [.str w] H Q:=⟨z,w,rfl,rfl,hw,hz,kb h⟩
theorem kX {xs:ef V} (e:H l=a' (.lst xs)) (hz:xs.length < la) (h:∀H2,Upd H H2 l (.lst (xs++[y]))->Q .non H2):JS (.ref l) [y] H Q:=⟨l,xs,y,rfl,rfl,e,hz,h _ Upd.of⟩
def Mt (v:V) (x:V) (D:Ends) (σ:St) (y:V) (H:Hp):Prop:=∃a Y,x= .ref a/\DPut H a y v Y/\D.nx σ Y
theorem Tp (h:tv σ H λv H1=>td σ H1 λx H2=>ty σ H2 (Mt v x D σ)):Tz td ty tv D σ H:=h
theorem rh (e:H p=a' (.dK kvs)) (hl:kvs.length < la) (h:∀H2,Upd H H2 p (.dK (putK kvs (WO z) v))->D.nx σ H2):Mt v (.ref p) D σ (.str z) H:=⟨p,_,rfl,DPut.k (k:=WO z) e hl,h _ Upd.of⟩
theorem Q1 {z:Int} (e:H p=a' (.dK kvs)) (hl:kvs.length < la) (h:∀H2,Upd H H2 p (.dK (putK kvs (XT z) v))->D.nx σ H2):Mt v (.ref p) D σ (.int z) H:=⟨p,_,rfl,DPut.k (k:=XT z) e hl,h _ Upd.of⟩
def Mu (x:V) (Q:VK) (y:V) (H:Hp):Prop:=∃a v,x= .ref a/\DGet H a y (a' v)/\Q v H
theorem Tu (h:td σ H λx H1=>ty σ H1 (Mu x Q)):SQ td ty σ H Q:=h
theorem tZ (e:H p=a' (.dK kvs)) (l:valV kvs (WO z)=a' v) (h:Q v H):Mu (.ref p) Q (.str z) H:=⟨p,v,rfl,by rw[<-l];exact DGet.k (k:=WO z) e,h⟩
theorem JJ {z:Int} (e:H p=a' (.dK kvs)) (l:valV kvs (XT z)=a' v) (h:Q v H):Mu (.ref p) Q (.int z) H:=⟨p,v,rfl,by rw[<-l];exact DGet.k (k:=XT z) e,h⟩
def P5 (C:eO) (m:Wz) (sp:Sp) (E:XK) (tr:TA) (σ:St) (Q:VK) (x:V) (H:Hp):Prop:=∃a dx fs,x= .ref a/\H a=a' (.ins C dx fs)/\fs.lookup m=gn/\tr σ H λvs H2=>sp (x::(vs++[])) H2 Q E
theorem Tc {m:Wz} (h:te σ H (P5 C m sp E sw σ Q)):Qn C m sp [] E te sw σ H Q:=h
theorem aI {m:Wz} (e:H p=a' (.ins C dx AT)) (l:AT.lookup m=gn) (h:sw σ H λvs H2=>sp (.ref p::vs) H2 Q E):P5 C m sp E sw σ Q (.ref p) H:=⟨p,dx,AT,rfl,e,l,by simp only[Y8];exact h⟩
theorem QW {K:b'} {xs:ef V} (e:SqL K H p xs) (h:∀q H2,H q=gn->Same H H2->H2 q=a' (.lst xs)->Q (.ref q) H2):Ec K [.ref p] H Q:=⟨p,xs,rfl,.inl e,kb h⟩
theorem QV {K:b'} {xs:ef V} (e:SqT K H p xs) (h:∀q H2,H q=gn->Same H H2->H2 q=a' (.lst xs)->Q (.ref q) H2):Ec K [.ref p] H Q:=⟨p,xs,rfl,.inr e,kb h⟩
theorem S6 {K:b'} {xs:ef V} (e:SqL K H p xs) (h:∀q H2,H q=gn->Same H H2->H2 q=a' (.tup xs)->Q (.ref q) H2):JR K [.ref p] H Q:=⟨p,xs,rfl,.inl ⟨e,kb h⟩⟩
theorem S5 {K:b'} {xs:ef V} (e:SqT K H p xs) (h:Q (.ref p) H):JR K [.ref p] H Q:=⟨p,xs,rfl,.inr ⟨e,h⟩⟩
end
def Mv (ch fr:M') (h h':Xj):Prop:=(∀b o,b∉ch->b∉fr->h.get? b=a' o->h'.get? b=a' o)/\∀b o,b∉ch->b∈fr->h.get? b=a' o->∃ρ,h'.get? b=a' {o with slots:=ρ}
def Ms (h:Xj) (e:eO) (C:xo) (dx:Q') (T:WG (eO×xo)):Prop:=
 ∃Y vs,h.get? e=a' Y/\Y.cls=C/\Y.dict=dx/\Y.data= .fields vs/\1 < vs.size/\
   match T with
   | none=>vs[1]? =a' .none
   | some (t,Z)=>vs[1]? =a' (.ref t)/\t≠e/\∃υ ts,h.get? t=a' υ/\υ.data= .fields ts/\ts[3]? =a' Z
section
variable {M:Model} {A:X2} {E:Cr} {s:vr}
theorem Cv {h:Xj} {o:Obj} {vs:K'} {v:xo} (ho:h.get? a=a' o) (hd:o.data= .fields vs):
  ∃o',(h.update a (Z5 (·.setIfInBounds i v))).get? a=a' o'/\o'.cls=o.cls/\o'.dict=o.dict/\o'.data= .fields (vs.setIfInBounds i v):=by
 have Y:=af6 hd (·.setIfInBounds i v);refine⟨_,Yp (Z5 (·.setIfInBounds i v)) ho (ao0 Y),as5 _ _,?_,Y⟩;obtain⟨c,d,β,ρ⟩:=o;have hd:β= .fields vs:=hd;subst hd;rfl
theorem Oo {base:Xj} {L e:eO} {vs:K'} {b:X1} {Q:Ls}
  (η:A.frames=a' (env::outer)) (hl:s.heap.FunFrames base (env::outer)) (hf:env.frame=a' L) (he:s.heap.get? e=a' υ) (hd:υ.data= .fields vs) (hsz:1 < vs.size)
  (h:∀h',Mv [e] (frs (env::outer)) s.heap h'->Ms h' e υ.cls υ.dict (a' (s.heap.objs.size,rawInt L))->Q () {s with heap:=h'}):
  vu M A (do let a <-frameOf env;let pl <-entryPlaceOf L b;let t <-ac2 γ a .none (rawInt L) .none pl;setField (.ref e) 1 t) Q E s:=by
 have ne:e∉frs (env::outer):=λhm=>by
  obtain⟨_,o,ho,ζ⟩:=hl.mem hm;rw[he] at ho;cases ho;exact ζ vs hd
 refine gs (wpAny_frameOf_fun η hl hf λg1 ε=>?_);refine gs (wpAny_entryPlaceOf λpl α=>?_);unfold ac2 newFields;refine gs (ab9 ?_ (α.sizeOk5 _ _ _ _ _));have ν:g1.get? e=a' υ:=(ε.2.1 e ne).trans he;have sz:g1.objs.size=s.heap.objs.size:=ε.1;generalize β:({cls:= .type "traceback",dict:=gn,data:= .fields ([γ,.ref L,.none,rawInt L,.none]++(if pl.isEmpty then n' 6 XF else pl)).toArray}:Obj)=ob;have ι:(g1.push ob).get? e=a' υ:=gz ob ν;refine ab0 ι hd hsz ?_;have lt:e < g1.objs.size:=i' ν;obtain⟨o',τ,π,ο,ξ⟩:=Cv (i:=1) (v:= .ref g1.objs.size) ι hd;have oth:∀c,c≠e->((g1.push ob).update e (Z5 (·.setIfInBounds 1 (WD g1.objs.size)))).get? c=(g1.push ob).get? c:=λc θ=>XC _ _ (WK θ);have Z:∀c o,c≠e->g1.get? c=a' o->((g1.push ob).update e (Z5 (·.setIfInBounds 1 (WD g1.objs.size)))).get? c=a' o:=λc o θ q=>(oth c θ).trans (gz ob q);refine h _ ⟨λc o n m q=>Z c o (λz=>n (by rw[z];exact gA.mpr rfl)) ((ε.2.1 c m).trans q),λc o n m q=>?_⟩ ⟨o',_,τ,π,ο,ξ,by simpa using hsz,?_⟩
 ·obtain⟨ρ,φ⟩:=ε.2.2 c o q;exact⟨ρ,Z c _ (λz=>n (by rw[z];exact gA.mpr rfl)) φ⟩
 ·have δ:g1.objs.size≠e:=XY lt;refine⟨by rw[<-sz];simp[hsz],by rw[<-sz];exact δ,ob,_,?_,by rw[<-β],?_⟩
  ·rw[<-sz,oth _ δ];exact v' g1 (by rw[<-β];rfl)
  ·first | (simp;done) | (rcases α with rfl | ⟨_,_,_,_,_,_,_,rfl⟩<;>simp)
theorem Ln {e:eO} {C:xo} {fr:Q'} {Q:Ls} (x:Ms s.heap e C an (a' (t,u)))
  (h:∀h',(∀b o,b≠t->s.heap.get? b=a' o->h'.get? b=a' o)->Ms h' e C an (a' (t,fr.elim .none λf=>rawInt f))->Q () {s with heap:=h'}):vu M A (setFlight (.ref e) fr) Q E s:=by
 obtain⟨ζ,vs,he,α,Y,hd,hsz,h1,Z,υ,ts,hT,φ,β⟩:=x;unfold setFlight;refine gs (Y0 he hd h1 ?_);rw[zt (show(WD t != XF)=true from by simp)];refine ab0 hT φ (Ym.mp β).1 ?_;obtain⟨o',ε,θ,γ,δ⟩:=Cv (i:=3) (v:=fr.elim .none λf=>rawInt f) hT φ;have oth:∀c,c≠t->(s.heap.update t (Z5 (·.setIfInBounds 3 (fr.elim XF λf=>rawInt f)))).get? c=s.heap.get? c:=λc α=>XC _ _ (WK α);refine h _ (λb o hb q=>(oth b hb).trans q) ⟨ζ,vs,(oth e (WK Z)).trans he,α,Y,hd,hsz,h1,Z,o',_,ε,δ,?_⟩;have:=(Ym.mp β).1;simp[this]
end
section
variable {X:Cx} {pins:E'} {σ:St} {H:Hp} {s:vr}
theorem Inv.mv (I:Inv X pins σ H s) (m:Mv ch (frs X.stack) s.heap h') (fp:∀b∈ch,FpOk X pins H b):Inv X pins σ H {s with heap:=h'}:=by
 have Z:∀b u,H b=a' u->b∉ch:=λb u e z=>by rw[(fp b z).1] at e;cases e
 have α:∀b u,H b=a' u->b∉frs X.stack:=λb u e z=>by rw[I.stkFree b z] at e;cases e
 have any:∀b o,b∉ch->s.heap.get? b=a' o->∃ρ,h'.get? b=a' {o with slots:=ρ}:=λb o n e=>by
  by_cases z:b∈frs X.stack
  ·exact m.2 b o n z e
  ·exact⟨o.slots,m.1 b o n z e⟩
 refine I.step (g':=s.gens) (d':=s.drawn) (t':=s.toks) (ch:=ch) (λb hb=>?_) (λb ob β hb Y e _=>m.1 b ob Y (λz=>(WH.mp (I.stkSub b z)).elim β hb) e) (λb ob _ _ Y e _=>any b ob Y e) (λb ob _ e n=>n) (λb ob Y e=>let ⟨ρ,q⟩:=any b ob Y e;⟨_,q⟩)
  (λb xs e=>e) (λb ob u e=>e) (λb ps e=>⟨#[],by rw[e];simp⟩) (fun ω hm=>?_) (λb u e=>?_) I.bare
 ·obtain⟨η,ε,ζ,ξ,δ,γ⟩:=fp b hb;exact⟨ξ,ε,δ,γ⟩
 ·obtain⟨ob,es,ep,ho,r⟩:=hm;obtain⟨ρ,q⟩:=any _ ob (λz=>(fp _ z).2.1 rfl) ho;exact⟨_,es,ep,q,r⟩
 ·refine(I.hok b u e).stay (λc v Y q=>m.1 c v ?_ ?_ q) (λc q=>q) λc xs q=>q
  ·rcases Y with z | z
   ·rw[z];exact Z b u e
   ·exact Z c _ z
  ·rcases Y with z | z
   ·rw[z];exact α b u e
   ·exact α c _ z
theorem iy.there {P:WJ} {w:X5} {h:Xj} (x:iy P w H h a o):∃o',h.get? a=a' o':=by
 cases o with
 | lst xs=>obtain⟨_,_,_,_,e⟩:=x;exact⟨_,e⟩
 | tup xs=>obtain⟨_,_,_,_,e,_⟩:=x;exact⟨_,e⟩
 | dK kvs=>obtain⟨_,_,_,_,o,_,_,e,_⟩:=x;exact⟨_,e⟩
 | dT kvs=>obtain⟨_,_,_,_,o,_,_,e,_⟩:=x;exact⟨_,e⟩
 | set S n=>obtain⟨o,_,_,_,e,_⟩:=x;exact⟨_,e⟩
 | ins C dx fs=>obtain⟨_,_,_,e,_⟩:=x;exact⟨_,e⟩
 | own y=>obtain⟨_,e⟩:=x;exact⟨_,e⟩
 | xd fs=>obtain⟨_,⟨_,_,_,e,_⟩,_⟩:=x;exact⟨_,e⟩
 | rng lo hi=>obtain⟨_,_,_,e⟩:=x;exact⟨_,e⟩
 | frz ob u=>obtain⟨e,_⟩:=x;exact⟨_,e⟩
 | tbl ps=>exact⟨_,(show h.get? a=a' _ from x)⟩
 | met f y=>exact⟨_,(show h.get? a=a' _ from x)⟩
 | ext φ=>obtain⟨_,⟨_,e⟩,_⟩:=x;exact⟨_,e⟩
theorem HOk.none_ {P:WJ} {w:X5} {h:Xj} (x:HOk P w H h) (e:h.get? a=gn):H a=none:=by
 cases q:H a with
 | none=>rfl
 | some u=>obtain⟨o,z⟩:=(x a u q).there;rw[e] at z;cases z
def FpN (X:Cx) (pins:E') (H:Hp) (b:eO):Prop:=
 H b=gn/\b≠X.env.locals/\b∉X.fs/\(b∈X.ex∨X.s₀.heap.get? b=gn)/\(∀x c,X.env.cells.lookup x=a' c->c≠b)/\∀p∈X.pn++pins,p.1≠b
theorem FpOk.n {b:eO} (f:FpOk X pins H b):FpN X pins H b:=⟨f.1,f.2.1,f.2.2.1,f.2.2.2.1.imp id YX,f.2.2.2.2⟩
theorem Inv.fpN {b:eO} (I:Inv X pins σ H s) (hb:s.heap.get? b=gn) (hn:H' b=gn):FpN X pins H' b:=by
 refine⟨hn,λz=>?_,λz=>?_,?_,λx c e z=>?_,λp Z z=>?_⟩
 ·obtain⟨m,⟨o,es,ep,ho,r⟩,_⟩:=I.loc;rw[<-z,hb] at ho;cases ho
 ·obtain⟨_,o,ho,_⟩:=I.ok.funs.mem z;obtain⟨o',Y⟩:=I.base.there b o ho λy=>I.ok.exfs b y z;rw[hb] at Y;cases Y
 ·by_cases z:b∈X.ex
  ·exact .inl z
  ·cases q:X.s₀.heap.get? b with
   | none=>exact .inr rfl
   | some o=>obtain⟨o',Y⟩:=I.base.there b o q z;rw[hb] at Y;cases Y
 ·obtain⟨v,o,q,_⟩:=I.cell x c e;rw[z,hb] at q;cases q
 ·have:=(I.pin p Z).1;rw[z,hb] at this;cases this
theorem Inv.mvN (I:Inv X pins σ H s) (m:Mv ch (frs X.stack) s.heap h') (fp:∀b∈ch,FpN X pins H b):Inv X pins σ H {s with heap:=h'}:=by
 have out:∀b o,X.s₀.heap.get? b=a' o->b∉X.ex->b∉ch++X.ex:=λb o e n z=>by
  rcases hB.mp z with z | z
  ·rcases(fp b z).2.2.2.1 with y | y
   ·exact n y
   ·rw[e] at y;cases y
  ·exact n z
 have sub:∀b,b∉ch++X.ex->b∉X.ex:=λb n z=>n (lA _ z)
 have ok:Cx.Ok {X with ex:=ch++X.ex}:=⟨I.ok.mod,I.ok.kind,I.ok.glob,I.ok.blt,I.ok.above,I.ok.inj,I.ok.has,I.ok.cab,I.ok.hd,I.ok.frames,I.ok.stk,
  λb hb=>(hB.mp hb).elim (λz=>⟨(fp b z).2.1,(fp b z).2.2.2.2.1⟩) (I.ok.exf b),I.ok.bs,I.ok.bsz,λb o e=>out b o (I.ok.bs b o e).1 (I.ok.noex b o e),
  λb hb=>(hB.mp hb).elim (λz=>(fp b z).2.2.1) (I.ok.exfs b),I.ok.funs,I.ok.frf⟩
 have U:=I.base
 have J:Inv {X with ex:=ch++X.ex} pins σ H s:=⟨ok,I.os,I.bare,⟨λb o e n f z=>U.keep b o e n f (sub b z),λb o e n f z=>U.slot b o e n f (sub b z),λb o e n z=>U.free b o e n (sub b z),λb o e z=>U.there b o e (sub b z),U.tups,U.frzs,U.tbls⟩,
  I.loc,I.cell,I.free,I.freeC,I.pin,I.hok,I.len⟩
 have J':=J.mv (h':=h') (ch:=ch) m λb hb=>⟨(fp b hb).1,(fp b hb).2.1,(fp b hb).2.2.1,.inl (qb _ hb),(fp b hb).2.2.2.2⟩;have V:=J'.base
 exact⟨I.ok,J'.os,J'.bare,⟨λb o e n f z=>V.keep b o e n f (out b o e z),λb o e n f z=>V.slot b o e n f (out b o e z),λb o e n z=>V.free b o e n (out b o e z),λb o e z=>V.there b o e (out b o e z),V.tups,V.frzs,V.tbls⟩,
  J'.loc,J'.cell,J'.free,J'.freeC,J'.pin,J'.hok,J'.len⟩
structure Fly (X:Cx) (pins:E') (H:Hp) (e:eO) (C:xo) (dx:Q') (T:WG (eO×xo)) (h:Xj):Prop where
 at_:Ms h e C dx T
 fe:FpN X pins H e
 ft:∀t fl,T=a' (t,fl)->FpN X pins H t
def Own (X:Cx):Prop:=X.stack=X.env::X.outer/\X.env.frame=a' X.env.locals
theorem Km {M:Model} {E:Cr} {e:eO} {C:xo} {T:WG (eO×xo)} {Q:Ls} (I:Inv X pins σ H s) (ow:Own X) (f:Fly X pins H e C an T s.heap)
  (h:∀h' t,Inv X pins σ H {s with heap:=h'}->Fly X pins H e C an (a' (t,rawInt X.env.locals)) h'->Q () {s with heap:=h'}):vu M X.A (noteFrame (.ref e) X.env) Q E s:=by
 obtain⟨ho,hf⟩:=ow;have ο:X.A.frames=a' (X.env::X.outer):=by rw[I.ok.frames,ho]
 have a0:s.heap.FunFrames X.base (X.env::X.outer):=by rw[<-ho];exact I.stack
 obtain⟨⟨ι,vs,he,θ,Y,hd,hsz,hT⟩,fe,ft⟩:=f
 have fin:∀(α:vr) (Z:Obj) (β:K') (η:xo) (b1:X1),Inv X pins σ H α->α.heap.objs.size=s.heap.objs.size->α={s with heap:=α.heap}->α.heap.get? e=a' Z->Z.cls=C->Z.dict=an->Z.data= .fields β->1 < β.size->
   vu M X.A (do let a <-frameOf X.env;let pl <-entryPlaceOf X.env.locals b1;let t <-ac2 η a .none (rawInt X.env.locals) .none pl;setField (.ref e) 1 t) Q E α:=by
  intro α Z β η b1 I1 hz ξ q1 q2 γ ω χ;have ζ:α.heap.FunFrames X.base (X.env::X.outer):=by rw[<-ho];exact I1.stack
  refine Oo ο ζ hf q1 ω χ λh' m x=>?_;have τ:Inv X pins σ H {α with heap:=h'}:=I1.mvN (ch:=[e]) (by rw[ho];exact m) λb hb=>by rw[gA.mp hb];exact fe
  have e2:({α with heap:=h'}:vr)={s with heap:=h'}:=by rw[ξ]
  rw[e2] at τ ⊢;rw[q2,γ] at x;exact h h' _ τ ⟨x,fe,λt ρ z=>by cases z;exact(I1.fpOk (p' _) (I1.hok.fresh (p' _))).n⟩
 unfold noteFrame;simp only[hf];cases T with
 | none=>
   have h1:vs[1]? =a' .none:=hT;refine gs (Y0 he hd h1 ?_);rw[oT @C];exact fin s ι vs _ _ I rfl rfl he θ Y hd hsz
 | some p=>
   obtain⟨t,ρ⟩:=p;obtain⟨h1,ε,υ,ts,δ,φ,π⟩:=hT;refine gs (Y0 he hd h1 ?_);rw[zt (show(WD t != XF)=true from by simp)];refine gs (Y0 δ φ π ?_);by_cases hz:(ρ == rawInt X.env.locals)=true
   ·rw[zt hz];have ν:=eq_of_beq hz;subst ν;exact W4 (h s.heap t I ⟨⟨ι,vs,he,θ,Y,hd,hsz,h1,ε,υ,ts,δ,φ,π⟩,fe,ft⟩)
   ·rw[oT hz];refine gs (ab0 δ φ (Ym.mp π).1 ?_);have oth:∀c,c≠t->(s.heap.update t (Z5 (·.setIfInBounds 3 XF))).get? c=s.heap.get? c:=λc θ=>XC _ _ (WK θ)
    have ψ:Mv [t] (frs X.stack) s.heap (s.heap.update t (Z5 (·.setIfInBounds 3 XF))):=
     ⟨λb o n _ q=>(oth b (λz=>n (by rw[z];exact gA.mpr rfl))).trans q,λb o n _ q=>⟨o.slots,(oth b (λz=>n (by rw[z];exact gA.mpr rfl))).trans q⟩⟩
    have I1:=I.mvN ψ λb hb=>by rw[gA.mp hb];exact ft t ρ rfl
    exact fin _ ι vs _ _ I1 (Heap.size_after_update ..) rfl ((oth e (WK ε)).trans he) θ Y hd hsz
theorem Py {M:Model} {A:X2} {E:Cr} {e:eO} {C:xo} {fr:Q'} {Q:Ls} (I:Inv X pins σ H s) (f:Fly X pins H e C an (a' (t,u)) s.heap)
  (h:∀h',Inv X pins σ H {s with heap:=h'}->Fly X pins H e C an (a' (t,fr.elim .none λf=>rawInt f)) h'->Q () {s with heap:=h'}):vu M A (setFlight (.ref e) fr) Q E s:=by
 refine Ln f.at_ λh' k x=>h h' (I.mvN (ch:=[t]) ⟨λb o n _ q=>k b o (λz=>n (by rw[z];exact gA.mpr rfl)) q,λb o n _ q=>⟨o.slots,k b o (λz=>n (by rw[z];exact gA.mpr rfl)) q⟩⟩ λb hb=>by rw[gA.mp hb];exact f.ft t u rfl) ⟨x,f.fe,λt' Z z=>by cases z;exact f.ft t u rfl⟩
end
noncomputable abbrev XW:=St->XK
variable {W:XW}
def XE (X:Cx) (W:XW) (e:xo) (s:vr):Prop:=∃pins x C dx T σ H,e= .ref x/\Inv X pins σ H s/\Fly X pins H x C dx T s.heap/\W σ C dx H
def Thr (X:Cx) (W:XW):Prop:=∀e s,XE X W e s->X.xe e s
noncomputable abbrev Cx.thr (X:Cx) (W:XW):Cx:=X.wish (XE X W)
noncomputable abbrev W0:XW:=λ_ _ _ _=>False
section
variable {X:Cx} {W:XW} {pins:E'} {σ:St} {H:Hp} {s:vr}
theorem Fly.wish {E:Cr} {e:eO} {C:xo} {T:WG (eO×xo)} {h:Xj} (f:Fly (X.wish E) pins H e C an T h):Fly X pins H e C an T h:=⟨f.at_,f.fe,f.ft⟩
theorem iX:Thr (X.thr W) W:=λe s ⟨pins,x,C,dx,T,σ,H,he,I,f,w⟩=>⟨pins,x,C,dx,T,σ,H,he,I.unwish,f.wish,w⟩
theorem thr0:Thr X W0:=λe s ⟨pins,x,C,dx,T,σ,H,he,I,f,w⟩=>w.elim
theorem G1 (ow:Own X):PassesOwn (WA X.prog X.w) X.A X.env (XE X W):=by
 intro e s' ⟨pins,x,C,dx,T,σ,H,he,I,f,w⟩;subst he;unfold notedBy;refine Km I ow f λh' t θ Z=>?_;unfold cameBackBy;obtain⟨⟨ι,vs,δ,η,γ,β,ζ,α,ξ⟩,fe,ft⟩:=id Z;refine gs (Y0 δ β α ?_);rw[oT @E];refine Py θ Z λh2 ε Y=>?_;rw[ow.2] at Y;exact⟨pins,x,C,dx,_,σ,H,rfl,ε,Y,w⟩
theorem rq (ow:Own X):PassesOwn (WA X.prog X.w) X.A X.env (X.thr W).xe:=G1 ow
theorem PSs.thr {st:ef ZD} {t:TS} (h:PSs (X.thr W) st t) (k:Thr X W):PSs X st t:=λpins s σ H D I hw=>
 Z3 (h pins s σ H D (I.wish _) hw) (λ_ _ q=>q.unwish) k
end
noncomputable def CX1 (P:WJ) (w:X5):CXT:=λouter H s E e s'=>∃x C dx t H',e= .ref x/\s'.os=s.os/\AllBare s'.gens/\Un (frs outer) [] H H' s.heap s'.heap/\HOk P w H' s'.heap/\
 Ms s'.heap x C dx (a' (t,.none))/\s.heap.get? x=gn/\s.heap.get? t=gn/\H' x=gn/\H' t=gn/\E C dx H'
section
variable {P:WJ} {w:X5} {K:b'} {mg:G'} {base:Xj}
theorem FW {f:eO} {A:X2}:
  Thr (cxOf (CX1 P w) P w K mg base N hJ scope f u A outer s H E) λ_=>E:=by
 intro e s' ⟨pins,x,C,dx,T,σ,H',he,I,δ,β⟩;subst he;have own:Own (cxOf (CX1 P w) P w K mg base N hJ scope f u A outer s H E):=⟨rfl,rfl⟩;show vu _ _ (leaving _ _) _ _ _;unfold leaving;refine gs (Km I own δ λh1 t ε γ=>?_);refine Py (fr:=gn) ε γ λh2 I2 Z=>?_;have fx:=Z.fe;have ft:=Z.ft t _ rfl;have no:∀b:eO,(b∈([]:M')∨s.heap.get? b=gn)->s.heap.get? b=none:=λb z=>z.elim (λq=>hQ q @E) id;exact⟨x,C,dx,t,H',rfl,I2.os,I2.bare,I2.base,I2.hok,Z.at_,no x fx.2.2.2.1,no t ft.2.2.2.1,fx.1,ft.1,β⟩
theorem Fun.okX {x:Wz} {st:ZD} {f:eO} {ps:B'} {k:Nat} (F:Fun K x z st f fd) (S:av N ps (ag st)) (len:∀vs H Q E,sp vs H Q E->vs.length=ps.length)
  (ε:∀(Z:xo) (A:X2) (outer:ef Env) (s:vr) (H:Hp) (vs:ef V) (Q:VK) (E:XK),Room k (A.deeper (envOfC z (ag st) s.heap.objs.size f Z))->sp vs H Q E->
   ∃t,PSs ((cxOf (CX1 P w) P w K mg base N z (ag st) f Z A outer s H E).thr λ_=>E) (fP st) t/\t {nx:=λ_ H'=>Q .non H',rt:=Q} (start N vs) H):FnOk P w K mg base (CX1 P w) (k + 1) f fd ps sp:=by
 obtain⟨η,od,kV,χ,ζ,an,Z,ct,γ,rfl,lk,α⟩:=F.ex;refine RS lk α S len λA outer s H vs Q E δ β=>?_;obtain⟨t,h,q⟩:=ε Z A outer s H vs Q E δ β;exact⟨t,h.thr FW,q⟩
end
section
variable {X:Cx} {W:XW} {pins:E'} {σ:St} {H:Hp} {s s':vr}
theorem Inv.afterX {e:xo} (I:Inv X pins σ H s) (hx:Thr X W) (h:CX1 X.prog X.w X.stack H s (W σ) e s'):X.xe e s':=by
 obtain⟨x,C,dx,t,H',rfl,os,bare,un,hok,ea,Y,Z,nx,δ,w⟩:=h;refine hx _ _ ⟨pins,x,C,dx,_,σ,H',rfl,I.call' (ch:=[]) os un hok bare (λb z=>hQ z @E),⟨ea,I.fpN Y nx,λt' α z=>?_⟩,w⟩;cases z;exact I.fpN Z δ
variable {k:Nat} {f C:eO} {fd:iv} {ps:B'} {sp:Sp} {dvs:ef V} {ds:F'} {x m:Wz} {p pos apos:Pos} {e o:XS} {es:ef XS} {ta:TE} {t:TA}
theorem JL (F:FnOk X.prog X.w X.K X.mg X.base (CX1 X.prog X.w) k f fd ps sp) (α:Room k X.A) (hb:qv X.K fd ps ds) (hd:Vals dvs ds) (hx:Thr X W)
  (I:Inv X pins σ H s) (r:Vals vs us) (h:sp (vs++dvs) H Q (W σ)):vu (WA X.prog X.w) X.A (call (.ref f) us) (EP X pins σ Q) X.xe s:=by
 have Z:Vals (vs++dvs) (us++ds):=r.append hd;have hl:(us++ds).length=ps.length:=by rw[<-Z.length];exact F.len _ _ _ _ h
 refine au7 (ad5 (F.run X.A X.stack s H ⟨us,[]⟩ (us++ds) (vs++dvs) Q (W σ) α I.env0 (hb s us I.kIn hl) Z h) λr s' Y=>?_);cases r with
 | error e=>exact I.afterX hx Y
 | ok β=>
   cases β with
   | ret u=>exact I.after Y
   | next=>exact Xo Y
   | brk=>exact Xo Y
   | cont=>exact Xo Y
noncomputable def Jb (sp:Sp) (dvs:ef V) (W:XW) (t:TA):TE:=fun σ H Q=>t σ H λvs H1=>sp (vs++dvs) H1 Q (W σ)
theorem Q3 {sp:Sp} {W:XW} {t:TA} (h:t oD H1 λvs H=>sp vs H Q (W oD)):Jb sp [] W t oD H1 Q:=by
 unfold Jb;simpa using h
theorem NK (F:FnOk X.prog X.w X.K X.mg X.base (CX1 X.prog X.w) k f fd ps sp) (α:Room k X.A) (β:Gl X x) (hm:X.mg x=a' (.ref f)) (hk:XM X.K (.ref f)=true) (hb:qv X.K fd ps ds) (hd:Vals dvs ds) (hx:Thr X W)
  (ha:PA X (e::es) t) (Z:(x == ("__debug__":Wz))=false:=by decide) (he:zx (e::es) X.env=(false,eval e X.env)::zx es X.env:=by rfl) (Y:(backTo pos (zx es X.env)).any (·.1)=false:=by rfl):
  PE X (.Call (.Name x p) (e::es) [] pos) (Jb sp dvs W t):=by
 intro pins s σ H Q I h;refine Zo (uB I β hm ?_ Z);refine YG (h₀:=X.base) I.ok.mod.kin hk (thn (ha pos pins s σ H _ I h) λus γ ⟨vs,H1,I1,r,q⟩=>⟨I1.kIn,?_⟩) he Y;exact JL F α hb hd hx I1 r q
noncomputable def O1 (C:eO) (m:Wz) (sp:Sp) (dvs:ef V) (W:XW) (ta:TE) (t:TA):TE:=fun σ H Q=>ta σ H λx H1=>∃a dx fs,x= .ref a/\H1 a=a' (.ins C dx fs)/\fs.lookup m=gn/\
 t σ H1 λvs H2=>sp (x::(vs++dvs)) H2 Q (W σ)
theorem dj {pl:Sem X1} (he:PE X o ta) (c:Cls X.K C) (hm:Meth X.K C m f) (F:FnOk X.prog X.w X.K X.mg X.base (CX1 X.prog X.w) k f fd ps sp) (ζ:Room k X.A) (hb:qv X.K fd ps ds) (hd:Vals dvs ds) (hx:Thr X W) (ha:PA X (e::es) t)
  (Y:zx (e::es) X.env=(false,eval e X.env)::zx es X.env:=by rfl) (Z:(backTo pos (zx es X.env)).any (·.1)=false:=by rfl)
  (ht:eval (.Call (.Attribute o m apos) (e::es) [] pos) X.env=(do
   let δ <-eval o X.env
   standAt apos.atName
   let (f,first) <-holding [δ] (getMethod δ m pl)
   callWith pos f first (backTo pos (zx (e::es) X.env)) (backToKw pos (keywordEach [] X.env))):=by rfl):
  PE X (.Call (.Attribute o m apos) (e::es) [] pos) (O1 C m sp dvs W ta t):=by
 intro pins s σ H Q I h;refine Zl (pl:=pl) (thn (he pins s σ H _ I h) λu β ⟨x,H1,α,γ,a,dx,fs,ex,ea,l,q⟩=>?_) ht;subst ex;obtain rfl:u=WD a:=γ;refine uE α ea c hm l ?_;refine YG (first:=[.ref a]) (h₀:=X.base) I.ok.mod.kin hm.kp (thn (ha pos pins β σ H1 _ α q) λus η ⟨vs,H2,I2,r,ε⟩=>⟨I2.kIn,?_⟩) Y Z;exact JL (us:= .ref a::us) (vs:= .ref a::vs) F ζ hb hd hx I2 (.cons rfl r) ε
end
structure XCls (h:Xj) (C:eO) (bmB:F') (newId:Yo):Prop where
 obj:∃bm N nm q bs hdct sn sub ab col dd k0 k1 k2 k3 k5 mN,h.get? C=a' (excClassObj nm q C N bs bm hdct sn sub ab col dd k0 k1 k2 k3 k5 newId)/\h.Ns N mN/\mN "__init__"=gn/\OwnTail h bmB bm
theorem Qg {K:b'} {h:Xj} (X:K.In h) (q:ad1 K C bv T=true):XCls h C bv T:=by
 refine⟨?_⟩;unfold ad1 at q;split at q
 next dd ζ ρ ho=>
  split at q
  next η bm k0 k1 k2 k3 n k5 hm hs=>
   simp only[Xc,ad4,as1] at q;obtain⟨⟨⟨⟨⟨γ,β⟩,α⟩,ht⟩,hok⟩,Y⟩:=q;subst γ β;cases ζ with
   | mk nm bs δ ns Z hd sn sub ab col del=>
   have hm:δ=_:=hm;have α:del=false:=α;subst hm α;have ε:ρ=#[k0,k1,k2,k3,a' (.builtin n),k5]:=by rw[<-hs]
   subst ε;exact⟨bm,ns,nm,Z,bs,hd,sn,sub,ab,col,dd,k0,k1,k2,k3,k5,_,X _ _ ho,.of_isNs (PySem.W.isNs_of_in X hok),PySem.W.nsMap_none_of_in X hok Y,PySem.W.tail_of_in X ht⟩
  next=>cases q
 next=>cases q
section
variable {X:Cx} {W:XW} {C:eO} {x:Wz} {np cpos pos:Pos} {e:XS} {es:ef XS} {t:TA} {B newId initId:Yo} {bmB:F'}
noncomputable def O0 (C:eO) (W:XW) (t:TA):TS:=λ_ σ H=>t σ H λvs H1=>vs.length<=la/\W σ (.ref C) gn H1
theorem Rt {vs:F'} (I:Inv X pins σ H s) (m:Heap.MadeExcOf s.heap h' a (.ref C) vs):
  Inv X pins σ H {s with heap:=h'}/\Fly X pins H a (.ref C) gn gn h':=by
 obtain⟨tt,Y,Z,γ⟩:=m.there;exact⟨I.mvN (ch:=[]) ⟨λb o _ _ e=>m.keeps b o e,λb o _ _ e=>⟨o.slots,m.keeps b o e⟩⟩ λb z=>hQ z @E,⟨⟨_,_,Y,rfl,rfl,rfl,@E,@E⟩,I.fpN m.new (I.hok.none_ m.new),λt α z=>by cases z⟩⟩
theorem i0 (FB:ExcBaseFacts B newId initId bmB) (q:ad1 X.K C bmB newId=true) (hx:Thr X W) (hc:X.calm=true) (δ:Gl X x) (hm:X.mg x=a' (.ref C)) (ha:PA X (e::es) t)
  (β:(x == ("__debug__":Wz))=false:=by decide) (he:zx (e::es) X.env=(false,eval e X.env)::zx es X.env:=by rfl) (Z:(backTo cpos (zx es X.env)).any (·.1)=false:=by rfl):
  PS X (.Raise (a' (.Call (.Name x np) (e::es) [] cpos)) gn pos) (O0 C W t):=by
 intro pins s σ H D I h;obtain⟨tl,N,nm,γ,bs,hdct,sn,sub,ab,col,dd,k0,k1,k2,k3,k5,mN,ζ,ε,α,T⟩:=(Qg I.ok.mod.kin q).obj
 refine wpAny_Raise_call_subT (C:=C) (nm:=nm) (q:=γ) (N:=N) (bs:=bs) (bm:=tl) (hdct:=hdct) (sn:=sn) (sub:=sub) (ab:=ab) (col:=col) (dd:=dd) (k0:=k0) (k1:=k1) (k2:=k2) (k3:=k3) (k5:=k5)
  FB (mN:=mN) (T.hasType FB.hasBase) (I.ok.hd hc) (by rw[he];show(false||(backTo cpos (zx es X.env)).any (·.1))=false;rw[Z];rfl) α (uB I δ hm ⟨rfl,?_⟩ β)
 have Y:=ha cpos pins s σ H _ I h;rw[he] at Y ⊢;refine an4 (Z3 Y (λus ι ⟨vs,H1,I1,r,z,w⟩=>⟨rfl,?_,I1.bk _ _ ζ,ε.keeps I1.bk,T.keeps I1.bk,λh' a m=>?_⟩) λ_ _ y=>y)
 ·show us.length<=_;rw[<-r.length];exact z
 ·obtain⟨θ,η⟩:=Rt I1 m;exact hx _ _ ⟨pins,a,.ref C,gn,gn,σ,H1,rfl,θ,η,w⟩
end
structure So (K:b') (G:eO):Prop where
 ty:ar3 K (.ref G)=a' (.type "type")
 cls:aq2 K G=true
 base:Yu K G (.type "BaseException")=a' true
section
variable {X:Cx} {pins:E'} {σ:St} {H:Hp} {s:vr}
theorem Inv.track {x:eO} (I:Inv X pins σ H s) (f:FpN X pins H x) (ι:iy X.prog X.w (upd H x o) s.heap x o):Inv X pins σ (upd H x o) s:=by
 obtain⟨ε,δ,ζ,ξ,γ,β⟩:=f;have ne:∀b u,H b=a' u->b≠x:=λb u e z=>by rw[z,ε] at e;cases e
 have Y:∀b u,H b=a' u->upd H x o b=a' u:=λb u e=>by rw[aG (ne b u e)];exact e
 have U:=I.base;refine⟨I.ok,I.os,I.bare,⟨U.keep,U.slot,λb ob e n Z=>?_,U.there,λb xs e=>Y b _ (U.tups b xs e),λb ob u e=>Y b _ (U.frzs b ob u e),λb ps e=>?_⟩,I.loc,I.cell,?_,λy c e=>?_,λp α=>?_,λb ob e=>?_,I.len⟩
 ·rw[aG (λz=>?_)]
  ·exact U.free b ob e n Z
  ·subst z;rcases ξ with y | y
   ·exact Z y
   ·rw[e] at y;cases y
 ·obtain⟨m,q⟩:=U.tbls b ps e;exact⟨m,Y b _ q⟩
 ·rw[aG (WK δ)];exact I.free
 ·rw[aG (γ y c e)];exact I.freeC y c e
 ·obtain⟨e,n,r⟩:=I.pin p α;exact⟨e,by rw[aG (β p α)];exact n,r⟩
 ·by_cases z:b=x
  ·subst z;rw[ax] at e;cases e;exact ι
  ·rw[aG z] at e;exact(I.hok b ob e).stay (λ_ _ _ q=>q) (λc q=>Y c _ q) λc xs q=>Y c _ q
end
noncomputable def ExcO (x:eO) (C:xo) (dx:Q'):HO:= .ext λh=>∃Y vs,h.get? x=a' Y/\Y.cls=C/\Y.dict=dx/\Y.data= .fields vs
noncomputable abbrev Cx.pin (X:Cx) (pins:E'):Cx:={X with pn:=X.pn++pins}
noncomputable abbrev Cx.mark (X:Cx) (pins:E') (e:xo):Cx:={X with A:=X.A.mark (a' e),calm:=false,pn:=X.pn++pins,xe:=λ_ _=>False}
noncomputable def Ends.less (D:Ends) (i:Nat):Ends:={nx:=fun σ H=>D.nx (σ.set i gn) H,rt:=D.rt,bk:=fun σ H=>D.bk (σ.set i gn) H,ct:=fun σ H=>D.ct (σ.set i gn) H}
noncomputable def WTry (K:b') (G:eO) (i:Nat) (Y:XW) (ts:TS) (D:Ends):XW:=fun σ C dx H=>∃c,C= .ref c/\((Yu K c (.ref G)=a' true/\∀x,H x=gn->ts (D.less i) (σ.set i (a' (.ref x))) (upd H x (ExcO x C dx)))∨
 (Yu K c (.ref G)=a' false/\Y σ C dx H))
structure XIsi (K:b') (D:eO):Prop where
 cls:aq2 K D=true
 ga:WW K (.ref D) "__getattribute__"=a' (a' (.builtin "BaseException.__getattribute__"))
 gr:WW K (.ref D) "__getattr__"=a' gn
 ha:WW K (.ref D) "__class__"=a' (a' (.builtin "object.__class__"))
 hn:YN K (.builtin "object.__class__") "__get__"=a' (a' (.builtin "getset_descriptor.__get__"))
 tk:ag8 K (.builtin "object.__class__")=a' true
 hm:Yu K D (.type "object")=a' true
 base:Yu K D (.type "BaseException")=a' true
noncomputable def dV:V->xo
 | .ref a=> .ref a
 | .ty n=> .type n
 | _=> .none
section
variable {σ:St} {H:Hp} {Q:VK} {D:Ends} {W:XW} {t:TA}
theorem QU (h:t σ H λvs H1=>vs.length<=la/\W σ (.ref C) gn H1):O0 C W t D σ H:=h
end
theorem ro {K:b'} {k:Nat} {t:TGs} {n:Nat} (h:X.K=K) (hc:X.calm=true) (ht:PGs X β t)
  (hn:(assignEach β X.env).length=n:=by rfl) (Y:(assignEach β X.env).findIdx? (·.1)=none:=by rfl):PG X (.Tuple β k pos) (gTup K n t):=by subst h;exact wH hc ht hn Y
theorem Q7 {k:Key} {v:xo} (h:Ce k v=true):RelV (kV k) v:=by
 rcases dy h with ⟨i,t,rfl,rfl⟩ | ⟨x,t,rfl,rfl⟩
 ·exact⟨t,rfl⟩
 ·exact⟨t,rfl⟩
theorem wK {α β:Type} {F:α->β->Prop}:∀{l:ef α} {m:ef β},l.length=m.length->(∀(i:Nat) (a:α) (b:β),l[i]? =a' a->m[i]? =a' b->F a b)->Paired F l m
 | [],[],_,_=> .nil
 | a::l,b::m,hl,h=> .cons (h 0 a b rfl rfl) (wK (by simpa using hl) λi x y Z Y=>h (i + 1) x y (by simpa using Z) (by simpa using Y))
 | [],_::_,hl,_=>by simp at hl
 | _::_,[],hl,_=>by simp at hl
section
variable {σ:St} {H:Hp} {Q:VK} {D:Ends} {te ty tv td:TE} {x y v:V}
def Sn (y:V) (Q:VK) (x:V) (H:Hp):Prop:=∃a o,x= .ref a/\DGet H a y o/\Q (.bl o.isSome) H
theorem V2 (h:ty σ H λy H1=>td σ H1 (Sn y Q)):tDIn ty td σ H Q:=h
theorem Tt {z:Int} (e:H p=a' (.dK kvs)) (h:Q (.bl (valV kvs (XT z)).isSome) H):Sn (.int z) Q (.ref p) H:=⟨p,_,rfl,DGet.k (k:=XT z) e,h⟩
theorem Pb (e:H p=a' (.dK kvs)) (h:Q (.bl (valV kvs (WO z)).isSome) H):Sn (.str z) Q (.ref p) H:=⟨p,_,rfl,DGet.k (k:=WO z) e,h⟩
def P7 (y:V) (Q:VK) (x:V) (H:Hp):Prop:=∃a o,x= .ref a/\DGet H a y o/\Q (.bl (!o.isSome)) H
theorem Tq (h:ty σ H λy H1=>td σ H1 (P7 y Q)):Ja ty td σ H Q:=h
theorem Q2 (e:H p=a' (.dK kvs)) (h:Q (.bl (!(valV kvs (WO z)).isSome)) H):P7 (.str z) Q (.ref p) H:=⟨p,_,rfl,DGet.k (k:=WO z) e,h⟩
theorem rj {b:eO} {xs zs:ef V} (e:H l=a' (.lst xs)) (Y:H b=a' (.lst zs)) (hz:xs.length + zs.length<=la) (h:∀p H2,H p=gn->Same H H2->H2 p=a' (.lst (xs++zs))->Q (.ref p) H2):rCat (.ref l) (.ref b) H Q:=⟨l,b,xs,zs,rfl,rfl,e,Y,hz,kb h⟩
end
theorem AX:∀{ns:P'} {us:F'},Vals (ns.map V.int) us->IntsAre us ns
 | [],us,r=>by cases r;exact .nil
 | n::ns,us,r=>by
   rw[Xk] at r;cases r with
   | cons h t=>obtain⟨t',rfl⟩:=h;exact .cons _ _ (AX t)
theorem KY:∀{ns:P'} {us:F'},IntsAre us ns->Vals (ns.map V.int) us:=vY
noncomputable def V4:ef V->Hp->VK->Prop:=λxs H Q=>∃(p:eO) (ns:P'),xs=[.ref p]/\H p=a' (.lst (ns.map V.int))/\Q (.int ns.sum) H
section
variable {X:Cx}
theorem GY (zs:an0 (Int×Tok)):preSum (numAt zs) zs.size=(zs.toList.map (·.1)).sum:=by
 rw[preSum_eq,XN (by rw[bx,Y'];exact p' _)]
theorem LS (hc:X.calm=true):oq X (.builtin "sum") V4:=by
 intro pins s σ H xs us Q I r h;obtain⟨p,ns,rfl,δ,q⟩:=h;obtain⟨u,rfl,β⟩:=vZ r;cases β;obtain⟨z,its,n,γ,hl,e⟩:=I.lstM δ;have hi:=AX γ;obtain⟨zs,α⟩:=hi.allInts.items;have Y:ns=zs.toList.map (·.1):=by rw[<-hi.numsOf,<-nums_intItems,<-α]
 have ε:s.heap.IsList p (intItems zs):=by rw[<-α];exact⟨_,e,rfl,n,rfl⟩
 refine call_sum_walkAnyS (iter_intList ε λZ θ st η ζ=>?_);subst θ;refine⟨_,_,_,_,_,_,_,numAt zs,rfl,(aj0 (A:=X.A.in1) (I.ok.hd hc) _ p ζ (intItems zs)).toS,st,η,(λ_ _=>intItems_at),λs' t' hm=>?_⟩;rw[Moved.eq_with hm];have hsz:(intItems zs).size=zs.size:=by simp[intItems]
 rw[hsz,GY,<-Y];refine⟨.int ns.sum,H,I.kept (λb o e=>hm.heap b o (λhb=>?_) (gz _ e)),⟨_,rfl⟩,q⟩;rw[gA] at hb;rw[hb] at e;exact Yg _ (i' e)
end
section
variable {prog:WJ} {w:X5} {A:X2} {E:Cr} {s:vr} {d:eO} {vs:ef (Key×xo)} {ep:Nat}
theorem GZ:plainId "list.__iadd__"=true:=by decide +kernel
theorem CW {Q:F'->vr->Prop} (ζ:A.handled=gn) (lo:(d == sysModules)=false) (Z:s.heap.DictAt (dO prog w) d vs ep) (hn:vs.length<=la)
  (h:∀h' tk (δ:K'),(∀b o,s.heap.get? b=a' o->h'.get? b=a' o)->s.heap.objs.size < h'.objs.size->ItemsOf (λi v=>∃k x,vs[i]? =a' (k,x)/\(dO prog w).is k v=true) δ vs.length->Q δ.toList {s with heap:=h',toks:=tk}):
  vu (WA prog w) A (collect (.ref d)) Q E s:=by
 unfold collect;refine gs (wpAny_runValue (Zi entry_proto_collect' ?_));show vu _ _ (do again (.builtin "list.__iadd__" ⟨[<-newList [],.ref d],[]⟩)) _ _ s;refine gs (wpAny_newList (W4 ⟨Code.quiet_builtin _ @H,Zi entry_list_iadd' ?_⟩));rw[YT GZ _];show vu _ _ (Yd (.ref s.heap.objs.size) (.ref d) (.ref s.heap.objs.size)) _ _ {s with heap:=s.heap.push (seqObj "list" #[] 0)};have Y:=Z.lt_size
 refine PySem.W.kdl_extend (R:=λr s'=>match r with
   | Except.ok (Flow.ret v)=>vu (WA prog w) A (match v with
     | WD a=>do
       let o <-load a
       match o.data with
       | .seq xs _=>pure xs.toList
       | _=>unsupported "internal:collect"
     | _=>unsupported "internal:collect") Q E s'
   | Except.ok _=>False
   | Except.error e=>E e s') (s:={s with heap:=s.heap.push (seqObj "list" #[] 0)}) (PySem.W.kdl_dict (knd:=dO prog w) (kvs:=vs) (ep:=ep) lo) ζ (Z.push _) s.heap.objs.size (XY Y) (XY Y) _ 0 (v' _ rfl) (λh' tk β γ hk ε α=>?_) hn
 show vu (WA prog w) A (do
   let o <-load s.heap.objs.size
   match o.data with
   | .seq xs _=>pure xs.toList
   | _=>unsupported "internal:collect") Q E {s with heap:=h',toks:=tk}
 refine gs (wpAny_load ε ?_);exact W4 (h h' tk β (λb o e=>hk b o (W' (i' e)) (gz _ e)) (i' ε) α)
theorem DO {Q:Cr} {ks:P'} (π:A.handled=gn) (lo:(d == sysModules)=false) (ι:s.heap.DictAt (dO prog w) d vs ep) (hn:vs.length<=la) (hk:vs.map (·.1)=ks.map XT) (ξ:vs.length < 64)
  (h:∀h' tk a (out:K') (e:Nat) (Z:P'),(∀b o,s.heap.get? b=a' o->h'.get? b=a' o)->s.heap.objs.size<=a->h'.get? a=a' (seqObj "list" out e)->IntsAre out.toList Z->Z.Perm ks->Z.Pairwise (·<=·)->Q (.ref a) {s with heap:=h',toks:=tk}):
  vu (WA prog w) A (call (.builtin "sorted") [.ref d]) Q E s:=by
 refine Calls.call_function_entry kind_sorted plain_sorted entry_sorted (args_sorted1 _) ?_;unfold Builtin.«sorted»;refine gs (m:=checkCount "sorted" 1 1 _) (W4 ?_);refine gs (CW (by exact π) lo ι hn λh' tk Y η hsz α=>?_)
 have ε:(ks.map V.int).length=Y.toList.length:=by
  have γ:=Wy X3 hk;rw[bx,bx] at γ;have τ:Y.toList.length=vs.length:=by rw[Y'];exact α.1
  rw[bx];omega
 have hI:IntsAre Y.toList ks:=by
  refine AX (wK ε λi a b ha hb=>?_);rw[hH] at ha;obtain⟨k,θ,rfl⟩:=YR.mp ha;rw[Array.getElem?_toList] at hb;obtain⟨φ,x,ο,ζ⟩:=α.2 i b hb;have γ:(vs.map (·.1))[i]? =a' φ:=by rw[hH,ο];rfl
  rw[hk,hH,θ] at γ;have γ:=WB γ;subst γ;exact Q7 (show Ce (XT k) b=true from ζ)
 have ν:Y.toList.length < 64:=by rw[Y',α.1];exact ξ
 refine gs (wpAny_newList ?_);have β:(h'.push (seqObj "list" Y.toList.toArray 0)).get? h'.objs.size=a' (seqObj "list" Y.toList.toArray 0):=v' _ rfl;show vu _ _ _ _ _ {s with heap:=h'.push (seqObj "list" Y.toList.toArray 0),toks:=tk};refine gs (Ze (ZL slot_list_sort ⟨_,β,rfl⟩ entry_list_sort (list_sort_tree β hI ν λout Z a1 a2 ρ=>⟨_,rfl,?_⟩) (args_list_sort _)));obtain⟨e,he⟩:=sortedHeap_at (out:=out) β;refine W4 ⟨_,rfl,h _ tk h'.objs.size out e Z (λb o hb=>?_) ?_ he a1 a2 ρ⟩
 ·have δ:=i' (η b o hb);rw[sortedHeap_old (W' δ) (by rw[size_push'];exact aa7 δ)];exact gz _ (η b o hb)
 ·exact YA hsz
end
noncomputable def Pg:ef V->Hp->VK->Prop:=λxs H Q=>∃(p:eO) (ks:P') (kvs:ef (Key×V)),xs=[.ref p]/\H p=a' (.dK kvs)/\kvs.map (·.1)=ks.map XT/\kvs.length < 64/\
 ∀(l:eO) (ns:P'),H l=gn->ns.Perm ks->ns.Pairwise (·<=·)->Q (.ref l) (upd H l (.lst (ns.map V.int)))
theorem Ia (hc:X.calm=true):oq X (.builtin "sorted") Pg:=by
 intro pins s σ H xs us Q I r h;obtain⟨p,ks,kvs,rfl,ε,hk,θ,q⟩:=h;obtain⟨u,rfl,γ⟩:=vZ r;cases γ;obtain⟨hz,lo,vs,rel,dd⟩:=U3 I.hok ε;obtain⟨ep,α⟩:=dd.dictAt;refine DO (ks:=ks) (I.ok.hd hc) lo α (by rw[<-rel.length];exact hz) (by rw[<-rel.keys];exact hk) (by rw[<-rel.length];exact θ) λh' tk a out e Y kp ha he hi Z ι=>?_;have δ:=KY hi
 have hl:(Y.map V.int).length<=sizeLine:=by
  have β:=Wy X3 hk;rw[bx,bx] at β;rw[bx,Z.length_eq,<-β];exact hz
 refine⟨.ref a,_,I.laid (t':=tk) kp ha (show iy X.prog X.w _ h' _ (.lst (Y.map V.int)) from⟨hl,out.toList,e,δ,by simpa using he⟩),rfl,q _ Y (I.hok.fresh ha) Z ι⟩
section
variable {H:Hp} {Q:VK}
theorem QS {ks:P'} (e:H p=a' (.dK kvs)) (hk:kvs.map (·.1)=ks.map XT) (θ:kvs.length < 64) (h:∀(l:eO) (ns:P') (H2:Hp),H l=gn->Same H H2->H2 l=a' (.lst (ns.map V.int))->ns.Perm ks->ns.Pairwise (·<=·)->Q (.ref l) H2):Pg [.ref p] H Q:=
 ⟨p,ks,kvs,rfl,e,hk,θ,λl ns hl Y hw=>h l ns _ hl (bo hl) ax Y hw⟩
end
def CShl (i j:Int):Prop:=0<=j/\(WI i:Int) + j<=2 ^ 27
theorem J7:OpR X (binaryOp .LShift) (rI CShl λi j=> .int (i * 2 ^ j.toNat)):=opI λ_ _ _ _ _ _ _ hc q=>PyProof.Rows.lshift_int hc.1 hc.2 q
open AutoSeq1 (wpAny_loadPart')
section
variable {prog:WJ} {w:X5} {A:X2} {E:Cr} {s:vr}
theorem uh {x:xo} {Q:Cr} (α:s.heap.IsTupleIter Y t i) (ht:s.heap.IsTuple t items) (hx:items[i]? =a' x)
  (τ:∀h',h'.IsTupleIter Y t (i + 1)->ZO Y s.heap h'->Q x {s with heap:=h'}):
  vu (WA prog w) A (Xw (.ref Y)) Q E s:=by
 obtain⟨o,ho,γ,hd⟩:=id α;obtain⟨δ,Z,_,ε,β⟩:=ht;unfold Xw
 refine gs (Zs (name:=YZ "__next__") α.typeIs F.slot_tuple_iterator_next
  (ZL F.slot_tuple_iterator_next α.typeIs F.entry_tuple_iterator_next ?_ (F.args_tuple_iterator_next_1 _)))
 show vu _ _ (field (.ref Y) 0 >>=_) _ _ s;refine gs (Y0 ho hd (x:= .ref t) rfl ?_);show vu _ _ (if (WD t == XF)=true then _ else _) _ _ s;rw[oT (show ¬((WD t == XF)=true) from hF)];show vu _ _ (field (.ref Y) 1 >>=_) _ _ s;refine gs (Y0 ho hd (x:= .int i 0) rfl ?_);show vu _ _ (seqItems? (.ref t) >>=_) _ _ s;refine gs (Zt Z β ?_);simp only[wq,hx];refine gs (ab0 ho hd @E (W4 ⟨x,rfl,W4 (τ _ ?_ (Ys ..))⟩))
 exact⟨_,Yp _ ho (ao0 (af6 hd _)),(as5 ..).trans γ,by
  rw[af6 hd];simp[rawInt]⟩
theorem vm {Q:Cr} (γ:A.handled=gn) (α:s.heap.IsTupleIter Y t i) (ht:s.heap.IsTuple t items) (hx:items[i]? =gn)
  (δ:∀h' e,Heap.ExtBut Y s.heap h'->(∃o,h'.get? e=a' o/\o.cls= .type "StopIteration")->E (.ref e) {s with heap:=h'}):
  vu (WA prog w) A (Xw (.ref Y)) Q E s:=by
 obtain⟨o,ho,η,hd⟩:=id α;obtain⟨ε,Z,_,ζ,β⟩:=ht;unfold Xw
 refine gs (Zs (name:=YZ "__next__") α.typeIs F.slot_tuple_iterator_next
  (ZL F.slot_tuple_iterator_next α.typeIs F.entry_tuple_iterator_next ?_ (F.args_tuple_iterator_next_1 _)))
 show vu _ _ (field (.ref Y) 0 >>=_) _ _ s;refine gs (Y0 ho hd (x:= .ref t) rfl ?_);show vu _ _ (if (WD t == XF)=true then _ else _) _ _ s;rw[oT (show ¬((WD t == XF)=true) from hF)];show vu _ _ (field (.ref Y) 1 >>=_) _ _ s;refine gs (Y0 ho hd (x:= .int i 0) rfl ?_);show vu _ _ (seqItems? (.ref t) >>=_) _ _ s;refine gs (Zt Z β ?_);simp only[wq,hx];refine gs (au6 (gs (ab0 ho hd @E ?_)));show vu _ _ (newExc (.type "StopIteration") [] >>=_) _ _ _;refine gs ?_;simp only[newExc,newTuple];refine gs (ab9 ?_ (by size_fits));refine gs (m:=firstArgMember _ _) (as9 (a:=XF) (by first | rfl | (simp only[firstArgMember];rfl)) ?_);refine ab9 ?_ (by size_fits);simp only[raiseNew];refine gs (wpAny_handled ?_)
 first | rw[show A.in1.handled=gn from γ] | rw[γ]
 refine gs (W4 (wpAny_throw ?_));exact δ _ _ (((Ys ..).extBut.push _).push _) ⟨_,v' _ rfl,rfl⟩
end
theorem Draws.tuple {w:X5} {A:X2} (β:A.handled=gn) (Z l:eO) (α:l≠Z) (items:K'):
  Draws prog w A Z [Z,l] items.size (λi v=>items[i]? =a' v) (λi h=>h.IsTupleIter Z l i/\h.IsTuple l items) where
 live:=λ_ _ st=>let ⟨o,ho,_⟩:=st.1;⟨o,ho⟩
 frame:=λ_ _ _ st hk=>⟨let ⟨o,ho,r⟩:=st.1;⟨o,hk Z @E o ho,r⟩,let ⟨o,ho,r⟩:=st.2;⟨o,hk l @E o ho,r⟩⟩
 item:=λi s Q E hi st τ=>by
  refine uh st.1 st.2 (x:=items[i]) (by simp[hi]) λh' Y ι=>?_;exact τ _ h' s.toks (by simp[hi]) ⟨Y,st.2.extBut ι.extBut α⟩ ι
 done:=λs Q E st γ=>vm β st.1 st.2 @E γ
theorem qj (l:eO) (items:K') (n:Nat) (Z:Q') (ρ:L'):
  Meets (Builtin.«enumerate.__new__» ⟨[.type "enumerate",.ref l],[]⟩) (λ_ R s=>s.heap.get? l=a' {cls:= .type "tuple",dict:=Z,data:= .seq items n,slots:=ρ}/\
   R (.ok (.ret (.ref (s.heap.push {cls:= .type "tuple_iterator",data:= .fields #[.ref l,.int 0 0]}).objs.size)))
     {s with heap:=(s.heap.push {cls:= .type "tuple_iterator",data:= .fields #[.ref l,.int 0 0]}).push {cls:= .type "enumerate",data:= .fields #[.none,.bool false,.ref s.heap.objs.size,rawInt 0,.none,.none]}}):=
 .of_wp λprog w A R s h=>by
  obtain⟨α,g,d,tk,os⟩:=s;obtain⟨hl,h⟩:=h;have ε:=sub_enumerate;have Y:Heap.IsTuple (Shared.heap ⟨α,g,d,tk,os⟩) l items:=⟨_,hl,rfl,n,rfl⟩
  wp_walk using aa1 hl
  refine wpAny_stack_any λst=>W4 ?_;split
  ·rename_i c _ _ _ _ _;cases(c == ZR "enumerate")
   ·wp_walk using aa1 hl,ab2 Y
    exact⟨_,rfl,h⟩
   ·wp_walk using aa1 hl,ab2 Y
    exact⟨_,rfl,h⟩
  ·wp_walk using aa1 hl,ab2 Y
   exact⟨_,rfl,h⟩
theorem qr {w:X5} {A:X2} {E:Cr} {Q:Cr} (α:s.heap.IsTuple l items)
  (h:∀h',IsEnum h' (s.heap.objs.size + 1) s.heap.objs.size 0 .none->h'.IsTupleIter s.heap.objs.size l 0->h'.objs.size=s.heap.objs.size + 2->
   (∀b o,s.heap.get? b=a' o->h'.get? b=a' o)->Q (.ref (s.heap.objs.size + 1)) {s with heap:=h'}):
  vu (WA prog w) A (call (.type "enumerate") [.ref l]) Q E s:=by
 obtain⟨⟨c,Z,β,ρ⟩,hl,Y,n,hd⟩:=α;replace Y:c= .type "tuple":=Y;replace hd:β= .seq items n:=hd;subst Y hd
 refine callType_new F.called_enumerate @C (F.typeCall_enumerate_1 _) (F.newCall_enumerate_1 _) (λobj=>F.args_object_init_2 obj _) F.entry_enumerate_new
  (qj l items n Z ρ) ⟨hl,?_⟩
 have hz:(s.heap.push {cls:= .type "tuple_iterator",data:= .fields #[.ref l,.int 0 0]}).objs.size=s.heap.objs.size + 1:=Zk ..
 show _/\_;rw[hz]
 have he:IsEnum ((s.heap.push {cls:= .type "tuple_iterator",data:= .fields #[.ref l,.int 0 0]}).push
   {cls:= .type "enumerate",data:= .fields #[.none,.bool false,.ref s.heap.objs.size,rawInt 0,.none,.none]}) (s.heap.objs.size + 1) s.heap.objs.size 0 .none:=by
  have:=v' (s.heap.push {cls:= .type "tuple_iterator",data:= .fields #[.ref l,.int 0 0]})
   (o:={cls:= .type "enumerate",data:= .fields #[.none,.bool false,.ref s.heap.objs.size,rawInt 0,.none,.none]}) rfl
  rw[hz] at this;exact this
 refine⟨⟨_,he,rfl⟩,h _ he ⟨_,gz _ (v' _ rfl),rfl,rfl⟩ (by rw[Zk,hz]) λb o x=>gz _ (gz _ x)⟩
noncomputable def Itet (K:b') (a:eO):It:=
 ⟨λi H=>∃xs x,SqT K H a xs/\xs[i]? =a' x,λi H x H'=>∃p v,H p=gn/\x= .ref p/\H'=upd H p (.tup [.int i,v])/\∀xs,SqT K H a xs->xs[i]? =a' v,λi H=>∃xs,SqT K H a xs/\xs.length=i⟩
theorem Gp {P:WJ} {w:X5} {K:b'} {k:Nat} (a e α:eO) (δ:e≠α):
  Turn P w K (.Tuple β k pos) (Itet K a) [e,α] e (λi h=>(∃Z,IsEnum h e α i Z)/\h.IsTupleIter α a i) where
 mem:=by simp
 obj:=λi h st b hb=>by
  obtain⟨⟨Z,he⟩,⟨o,ho,hc,hd⟩⟩:=st;rcases WH.mp hb with z | z
  ·subst z;exact⟨_,he,λv z=>by cases z⟩
  ·rw[gA.mp z];exact⟨o,ho,λv z=>by rw[hd] at z;cases z⟩
 keep:=λi h h' st k=>⟨let ⟨Z,he⟩:=st.1;⟨Z,k e @E _ he⟩,(let ⟨o,ho,r⟩:=st.2;⟨o,k α @E o ho,r⟩)⟩
 item:=by
  intro X hP hw hK hc i pins s σ H E I hf st hg;subst hP hw hK;obtain⟨xs,x,ψ,χ⟩:=hg;obtain⟨its,φ,p,hz⟩:=I.tuple ψ;have θ:s.heap.IsTuple a its.toArray:=p;obtain⟨⟨Z,he⟩,hl⟩:=st
  have ν:a≠α:=λz=>by
   obtain⟨o,ho,ι,_⟩:=hl;obtain⟨o',η,Y,_⟩:=θ;rw[z,ho] at η;cases η;rw[ι] at Y;exact hQ Y @C
  have ξ:a≠e:=λz=>by
   obtain⟨o',η,Y,_⟩:=θ;rw[z,he] at η;cases η;exact hQ (show ZR "enumerate"= .type "tuple" from Y) @C
  have W:=YO (prog:=X.prog) (w:=X.w) (A:=X.A) (Draws.tuple (A:=X.A.in1) (I.ok.hd hc) α a ν its.toArray) e δ (by simp[δ,WK ξ]) @E;have hi:i < its.toArray.size:=by have:=φ.length;have:=(bA.mp χ).1;simp;omega
  refine W.item i s _ _ hi ⟨⟨Z,he⟩,hl,θ⟩ λT ω h' tk a3 hT ο ε hk=>⟨_,rfl,W.go β k pos i T _ _ _ ε λa4 π τ=>?_⟩;obtain⟨t,γ,υ,rfl⟩:=a3;have a0:=W.apart i T h' ε
  have ru:RelV x γ:=by
   obtain⟨u,ρ,r⟩:=φ.get χ;have ζ:its[i]? =a' γ:=by simpa using υ
   rw[ρ] at ζ;cases ζ;exact r
  have kk:∀b u,b∉[e,α]->s.heap.get? b=a' u->a4.get? b=a' u:=λb u hb q=>τ b u hb (hk b u hb q);have fr:H T=none:=I.hok.fresh hT;refine⟨.ref T,upd H T (.tup [.int i,x]),I.laidCh (t':=tk) kk hT ⟨BA,[.int i t,γ],.cons ⟨t,rfl⟩ (.cons ru .nil),?_⟩ hf,rfl,⟨T,x,fr,rfl,rfl,λys hy=>by rw[I.tuple_inj hy ψ];exact χ⟩,⟨π.1,π.2.1⟩,λb hb=>?_⟩
  ·obtain⟨o,ho,r⟩:=ο;exact⟨o,τ T o a0 ho,r⟩
  ·have fb:=(hf b hb);rw[aG (λz=>?_)]
   ·exact fb.1
   ·have lt:b < s.heap.objs.size:=by
     rcases WH.mp hb with z | z
     ·subst z;exact i' he
     ·rw[gA.mp z];obtain⟨o,ho,_⟩:=hl;exact i' ho
    rw[z] at lt;exact hQ (eP lt hT) (Yg _)
 done:=by
  intro X hP hw hK hc i pins s σ H E I hf st hg;subst hP hw hK;obtain⟨xs,ψ,χ⟩:=hg;obtain⟨its,φ,p,hz⟩:=I.tuple ψ;have θ:s.heap.IsTuple a its.toArray:=p;obtain⟨⟨Z,he⟩,hl⟩:=st
  have ν:a≠α:=λz=>by
   obtain⟨o,ho,ι,_⟩:=hl;obtain⟨o',η,Y,_⟩:=θ;rw[z,ho] at η;cases η;rw[ι] at Y;exact hQ Y @C
  have ξ:a≠e:=λz=>by
   obtain⟨o',η,Y,_⟩:=θ;rw[z,he] at η;cases η;exact hQ (show ZR "enumerate"= .type "tuple" from Y) @C
  have W:=YO (prog:=X.prog) (w:=X.w) (A:=X.A) (Draws.tuple (A:=X.A.in1) (I.ok.hd hc) α a ν its.toArray) e δ (by simp[δ,WK ξ]) @E;have hn:its.toArray.size=i:=by have:=φ.length;simp;omega
  subst hn;exact W.done s _ _ ⟨⟨Z,he⟩,hl,θ⟩ λh' tk hk=>⟨rfl,I.turnedCh hk hf⟩
 self:=λ_ _ _ _ _ st h=>let ⟨_,he⟩:=st.1;YE he h
noncomputable def Pt (K:b') (tl:TE):TI:=fun σ H R=>tl σ H λx H1=>∃a,x= .ref a/\(((∃xs,SqL K H1 a xs)/\R (Ite K a) H1)∨((∃xs,SqT K H1 a xs)/\R (Itet K a) H1))
section
variable {X:Cx} {K:b'}
theorem pQ {l:XS} {k:Nat} {p:Pos} (h:X.K=K) (θ:Gl X "enumerate") (hm:X.mg "enumerate"=gn) (hl:PE X l tl) (hs:zx [l] X.env=[(false,eval l X.env)]:=by rfl):
  PI X (.Tuple β k tpos) (.Call (.Name "enumerate" p) [l] [] pos) (Pt K tl):=by
 subst h;intro pins s σ H R I h;refine ap7 (oW I θ hm boot_enumerate (X0 (thn (aa hl af hs pos pins s σ H (λvs H1=>match vs with | [x]=>∃a,x= .ref a/\(((∃xs,SqL X.K H1 a xs)/\R (Ite X.K a) H1)∨((∃xs,SqT X.K H1 a xs)/\R (Itet X.K a) H1)) | _=>False) I h) λus Y ⟨vs,H1,I1,δ,Z⟩=>?_) hs rfl))
 match vs,δ,Z with
 | [x],δ,Z=>
 obtain⟨u,rfl,η⟩:=δ.one;obtain⟨a,rfl,Z⟩:=Z;cases η
 have fin:∀b∈[Y.heap.objs.size + 1,Y.heap.objs.size],FpOk X pins H1 b:=λb hb=>by
  have γ:Y.heap.objs.size<=b:=(WH.mp hb).elim (λz=>by rw[z];exact ae7 _) (λz=>by rw[gA.mp z];exact p' _);exact I1.fpOk γ (I1.hok.fresh γ)
 rcases Z with ⟨⟨xs,ε⟩,q⟩ | ⟨⟨xs,ε⟩,q⟩
 ·obtain⟨its,ζ,pl,hz⟩:=I1.list ε;refine at7 pl.isList λh' he α hsz hk=>YE he ?_;exact⟨Y.heap.objs.size + 1,[Y.heap.objs.size + 1,Y.heap.objs.size],_,_,H1,rfl,I1.kept (t':=Y.toks) hk,zA a _ _ (XY (Y5 _)),⟨⟨_,he⟩,α⟩,fin,q⟩
 ·obtain⟨its,ζ,pl,hz⟩:=I1.tuple ε;refine qr (show Y.heap.IsTuple a its.toArray from pl) λh' he α hsz hk=>YE he ?_;exact⟨Y.heap.objs.size + 1,[Y.heap.objs.size + 1,Y.heap.objs.size],_,_,H1,rfl,I1.kept (t':=Y.toks) hk,Gp a _ _ (XY (Y5 _)),⟨⟨_,he⟩,α⟩,fin,q⟩
end
theorem uI {K:b'} {n:Nat} {g:TG} {Q:Hp->Prop} {xs:ef V} (Pv:Nat->ef V->Hp->Prop) (h0:Pv 0 [] (upd H1 D (.lst []))) (hl:∀i ys H,i<=xs.length->Pv i ys H->SqL K H a xs)
  (hs:∀i x ys H p H',xs[i]? =a' x->Pv i ys H->H p=gn->Same H H'->H' p=a' (.tup [.int i,x])->g (.ref p) (dU n fx σ) H' λY ε=>tc Y ε λb δ=>if b=true then te Y δ λv γ=>γ D=a' (.lst ys)/\ys.length < la/\Pv (i + 1) (ys++[v]) (upd γ D (.lst (ys++[v]))) else Pv (i + 1) ys δ)
  (hd:∀ys H,Pv xs.length ys H->Q H):
  ∃W:Nat->Nat->ef V->Hp->Prop,(∃m,W 0 m [] (upd H1 D (.lst [])))/\∀i m ys H2,W i m ys H2->((Ite K a).stop i H2/\Q H2)∨
    ((Ite K a).go i H2/\∃N:ef V->Hp->Prop,(∀α H',N α H'->∃ω,ω < m/\W (i + 1) ω α H')/\∀x ζ,(Ite K a).yld i H2 x ζ->g x (dU n fx σ) ζ λY ε=>tc Y ε λb δ=>
      if b=true then te Y δ λv γ=>γ D=a' (.lst ys)/\ys.length < la/\N (ys++[v]) (upd γ D (.lst (ys++[v]))) else N ys δ):=by
 refine⟨λi m ys H=>m=xs.length - i/\i<=xs.length/\Pv i ys H,⟨xs.length,@E,XZ _,h0⟩,?_⟩;rintro i m ys H ⟨rfl,hi,p⟩;have q:=hl i ys H hi p;by_cases β:i < xs.length
 ·refine .inr ⟨⟨xs,xs[i],q,by simp[β]⟩,Pv (i + 1),fun α H' Z=>⟨xs.length - (i + 1),by omega,rfl,β,Z⟩,λx H' y=>?_⟩;obtain⟨r,v,f,θ,η,y⟩:=y;subst θ η;exact hs i v ys H r _ (y xs q) p f (bo f) ax
 ·have e:i=xs.length:=by omega
  subst e;exact .inl ⟨⟨xs,q,rfl⟩,hd ys H p⟩
theorem uH {K:b'} {n:Nat} {g:TG} {Q:Hp->Prop} {xs:ef V} (Pv:Nat->ef V->Hp->Prop) (h0:Pv 0 [] (upd H1 D (.lst []))) (hl:∀i ys H,i<=xs.length->Pv i ys H->SqT K H a xs)
  (hs:∀i x ys H p H',xs[i]? =a' x->Pv i ys H->H p=gn->Same H H'->H' p=a' (.tup [.int i,x])->g (.ref p) (dU n fx σ) H' λY ε=>tc Y ε λb δ=>if b=true then te Y δ λv γ=>γ D=a' (.lst ys)/\ys.length < la/\Pv (i + 1) (ys++[v]) (upd γ D (.lst (ys++[v]))) else Pv (i + 1) ys δ)
  (hd:∀ys H,Pv xs.length ys H->Q H):
  ∃W:Nat->Nat->ef V->Hp->Prop,(∃m,W 0 m [] (upd H1 D (.lst [])))/\∀i m ys H2,W i m ys H2->((Itet K a).stop i H2/\Q H2)∨
    ((Itet K a).go i H2/\∃N:ef V->Hp->Prop,(∀α H',N α H'->∃ω,ω < m/\W (i + 1) ω α H')/\∀x ζ,(Itet K a).yld i H2 x ζ->g x (dU n fx σ) ζ λY ε=>tc Y ε λb δ=>
      if b=true then te Y δ λv γ=>γ D=a' (.lst ys)/\ys.length < la/\N (ys++[v]) (upd γ D (.lst (ys++[v]))) else N ys δ):=by
 refine⟨λi m ys H=>m=xs.length - i/\i<=xs.length/\Pv i ys H,⟨xs.length,@E,XZ _,h0⟩,?_⟩;rintro i m ys H ⟨rfl,hi,p⟩;have q:=hl i ys H hi p;by_cases β:i < xs.length
 ·refine .inr ⟨⟨xs,xs[i],q,by simp[β]⟩,Pv (i + 1),fun α H' Z=>⟨xs.length - (i + 1),by omega,rfl,β,Z⟩,λx H' y=>?_⟩;obtain⟨r,v,f,θ,η,y⟩:=y;subst θ η;exact hs i v ys H r _ (y xs q) p f (bo f) ax
 ·have e:i=xs.length:=by omega
  subst e;exact .inl ⟨⟨xs,q,rfl⟩,hd ys H p⟩
section
variable {σ:St} {H:Hp} {te:TE} {R:It->Hp->Prop}
theorem cM {K:b'} (h:te σ H λx H1=>∃a,x= .ref a/\(((∃xs,SqL K H1 a xs)/\R (Ite K a) H1)∨((∃xs,SqT K H1 a xs)/\R (Itet K a) H1))):Pt K te σ H R:=h
end
namespace ZP
noncomputable abbrev Busy (h:Xj) (z TI TO T:eO) (Y:X1):Prop:=h.get? z=a' {cls:= .type "zip",data:= .fields #[rawInt T,.bool Y,.bool false,.ref TI,.ref TO]}
section
variable {prog:WJ} {w:X5} {A:X2} {E:Cr} {s:vr}
theorem Kn {z T:eO} {Q:X1->vr->Prop} (hz:Busy s.heap z C D T sK) (hT:s.heap.get? T=a' υ) (h:∀h',Busy h' z C D T true->ZO z s.heap h'->Q false {s with heap:=h'}):
  vu (WA prog w) A (aa3 (.ref z)) Q E s:=by
 unfold aa3;refine gs (Y0 hz rfl (x:=rawInt T) rfl ?_);show vu _ _ (loadIfAlive ((T:Int).toNat) >>=_) _ _ s;rw[wq];refine gs (PySem.W.kdx_alive hT ?_);rw[oT @E];refine gs (Y0 hz rfl (x:= .bool sK) rfl ?_);cases sK with
 | true=>
   rw[oT @C];exact W4 (h s.heap hz ⟨rfl,λ_ _=>rfl⟩)
 | false=>
   rw[zt @C];refine gs (wpAny_setField_rec hz (by show 1 < 5;decide) λh' e hs=>W4 (h h' e hs))
theorem Ko {z T:eO} {xs:K'} {x y:xo} {Q:V'->vr->Prop} (ap:ZipApart z C D i1 i2 S τ) (hz:Busy s.heap z C D T sK) (hT:s.heap.get? T=a' υ)
  (hI:IsPair s.heap C (.ref i1) (.ref i2)) (h1:s.heap.IsListIter i1 S i) (h2:s.heap.IsListIter i2 τ i) (hl1:s.heap.IsList S xs) (hl2:s.heap.IsList τ ys) (χ:xs[i]? =a' x) (φ:ys[i]? =a' y)
  (h:∀h',Busy h' z C D T true->h'.IsListIter i1 S (i + 1)->h'.IsListIter i2 τ (i + 1)->(∀b o,b≠z->b≠i1->b≠i2->s.heap.get? b=a' o->h'.get? b=a' o)->h'.get? s.heap.objs.size=a' {cls:= .type "tuple",data:= .seq #[x,y]}->Q (a' (.ref s.heap.objs.size)) {s with heap:=h'}):
  vu (WA prog w) A (pyNext (.ref z)) Q E s:=by
 have ty:s.TypeIs (.ref z) "zip":=⟨_,hz,rfl⟩;unfold pyNext;refine gs (wpAny_attempt (Zs (name:=YZ "__next__") ty F.slot_zip_next (ZL F.slot_zip_next ty F.entry_zip_next ?_ (F.args_zip_next_1 _))));unfold Builtin.«zip.__next__»;refine gs (as9 (a:=(WD z,[])) rfl ?_);dsimp only;refine gs (Y0 hz rfl (x:= .bool false) rfl ?_);refine gs (Y0 hz rfl (x:= .ref C) rfl ?_);refine gs (Zt hI rfl ?_);dsimp only;rw[oT (show ¬(#[WD i1,WD i2].isEmpty=true) from hF)];refine gs (Kn hz hT λh' θ hs=>?_);rw[oT @C];rw[<-ap5];simp only[ac7,au2];have keep:∀{b:eO} {o:Obj},b≠z->s.heap.get? b=a' o->h'.get? b=a' o:=fun ε e=>(hs.2 _ ε).trans e;have ο:h'.IsListIter i1 S i:=h1.at λo e=>keep ap.i1z e;have ι:h'.IsListIter i2 τ i:=h2.at λo e=>keep ap.i2z e;have ζ:h'.IsList S xs:=let ⟨o,e,c⟩:=hl1;⟨o,keep ap.l1z e,c⟩
 have β:h'.IsList τ ys:=let ⟨o,e,c⟩:=hl2;⟨o,keep ap.l2z e,c⟩
 refine gs (gs (gs (Ze ?_)));show vu _ _ (Xw (.ref i1) >>=λx=>pure (a' x)) _ _ _;refine gs (ar1 ο ζ χ fun π ξ α=>W4 ?_);dsimp only;refine W4 ?_;dsimp only;have Y:∀{b:eO} {o:Obj},b≠i1->h'.get? b=a' o->π.get? b=a' o:=fun ε e=>(α.2 _ ε).trans e;refine gs (gs (Ze ?_));show vu _ _ (Xw (.ref i2) >>=λx=>pure (a' x)) _ _ _;refine gs (ar1 (ι.at λo e=>Y (WK ap.i12) e) (let ⟨o,e,c⟩:=β;⟨o,Y ap.l2i1 e,c⟩) φ fun η ν Z=>W4 ?_);have γ:∀{b:eO} {o:Obj},b≠i2->π.get? b=a' o->η.get? b=a' o:=fun ε e=>(Z.2 _ ε).trans e;dsimp only;refine W4 ?_;dsimp only;refine W4 ?_;dsimp only;have es:η.objs.size=s.heap.objs.size:=Z.1.trans (α.1.trans hs.1);refine gs (wpAny_newTuple (W4 ⟨_,rfl,W4 ?_⟩) (by show 2<=la;rw[ra];decide));show Q (a' (.ref η.objs.size)) {s with heap:=η.push _};rw[es];refine h _ ?_ ?_ ?_ (λb o nz n1 ρ e=>gz _ (γ ρ (Y n1 (keep nz e)))) ?_
 ·exact gz _ (γ (WK ap.i2z) (Y (WK ap.i1z) θ))
 ·exact ξ.at λo e=>gz _ (γ ap.i12 e)
 ·exact ν.at λo e=>gz _ e
 ·rw[<-es];exact v' _ rfl
theorem NU {z T:eO} {xs:K'} {Q:V'->vr->Prop} (α:A.handled=gn) (ap:ZipApart z C D i1 i2 Y τ) (hz:Busy s.heap z C D T sK) (hT:s.heap.get? T=a' υ)
  (hI:IsPair s.heap C (.ref i1) (.ref i2)) (h1:s.heap.IsListIter i1 Y i) (hl1:s.heap.IsList Y xs) (ε:xs[i]? =gn)
  (h:∀h',(∀b o,b≠z->b≠i1->s.heap.get? b=a' o->h'.get? b=a' o)->Q gn {s with heap:=h'}):
  vu (WA prog w) A (pyNext (.ref z)) Q E s:=by
 have ty:s.TypeIs (.ref z) "zip":=⟨_,hz,rfl⟩;unfold pyNext;refine gs (wpAny_attempt (Zs (name:=YZ "__next__") ty F.slot_zip_next (ZL F.slot_zip_next ty F.entry_zip_next ?_ (F.args_zip_next_1 _))));unfold Builtin.«zip.__next__»;refine gs (as9 (a:=(WD z,[])) rfl ?_);dsimp only;refine gs (Y0 hz rfl (x:= .bool false) rfl ?_);refine gs (Y0 hz rfl (x:= .ref C) rfl ?_);refine gs (Zt hI rfl ?_);dsimp only;rw[oT (show ¬(#[WD i1,WD i2].isEmpty=true) from hF)];refine gs (Kn hz hT λh' ν hs=>?_);rw[oT @C];rw[<-ap5];simp only[ac7,au2];have keep:∀{b:eO} {o:Obj},b≠z->s.heap.get? b=a' o->h'.get? b=a' o:=fun δ e=>(hs.2 _ δ).trans e;have Z:h'.IsListIter i1 Y i:=h1.at λo e=>keep ap.i1z e;have β:h'.IsList Y xs:=let ⟨o,e,c⟩:=hl1;⟨o,keep ap.l1z e,c⟩
 refine gs (gs (gs (Ze ?_)));show vu _ _ (Xw (.ref i1) >>=λx=>pure (a' x)) _ _ _;refine gs (wpAny_nextOf_list_end (by first | exact α | (rw[show A.in1.handled=gn from α])) Z β ε fun γ e ex he=>?_);refine gs (wpAny_isInstance (T:="StopIteration") (b:=true) (s:={s with heap:=γ}) (let ⟨o,a,b⟩:=he;⟨o,a,b⟩) isSubtype_stop ?_);exact W4 (h γ λb o nz n1 η=>ex b o n1 (keep nz η))
structure ZGot (h:Xj) (lo:Nat) (xs ys:K') (as:M'):Prop where
 rise:as.Pairwise (· < ·)
 above:∀a∈as,lo<=a/\a < h.objs.size
 pairs:∀(j:Nat) (a:eO),as[j]? =a' a->∃x y,xs[j]? =a' x/\ys[j]? =a' y/\h.IsTuple a #[x,y]
structure ZSt (h:Xj) (z TI TO i1 i2 l1 l2:eO) (lo:Nat) (xs ys:K') (i:Nat) (as:M'):Prop where
 zp:(i=0/\IsZip h z TI TO .none)∨∃T fl,Busy h z TI TO T fl/\as[0]? =a' T
 hI:IsPair h TI (.ref i1) (.ref i2)
 hO:∃a b,IsPair h TO a b
 h1:h.IsListIter i1 l1 i
 h2:h.IsListIter i2 l2 i
 hl1:h.IsList l1 xs
 hl2:h.IsList l2 ys
 len:as.length=i
 got:ZGot h lo xs ys as
structure Und (z TI TO i1 i2 l1 l2 S:eO) (lo:Nat):Prop where
 ap:ZipApart z TI TO i1 i2 l1 l2
 Sz:S≠z
 STI:S≠TI
 STO:S≠TO
 Si1:S≠i1
 Si2:S≠i2
 Sl1:S≠l1
 Sl2:S≠l2
 z:z < lo
 TO:TO < lo
 i1:i1 < lo
 i2:i2 < lo
 S:S < lo
theorem mH {h:Xj} {o:Obj} (e:h.get? a=a' o):a < h.objs.size:=i' e
theorem ZGot.keep {h:Xj} {xs:K'} {as:M'} (g:ZGot h G xs ys as) (k:∀b o,G<=b->h.get? b=a' o->h'.get? b=a' o):ZGot h' G xs ys as:=by
 have k2:∀a∈as,h'.IsTuple a #[.none,.none]->True:=λ_ _ _=>trivial;refine⟨g.rise,λa ha=>?_,λj a Y=>?_⟩
 ·obtain⟨j,Y⟩:=Xm.mp ha;obtain⟨x,y,_,_,o,e,_⟩:=g.pairs j a Y;exact⟨(g.above a ha).1,mH (k a o (g.above a ha).1 e)⟩
 ·obtain⟨x,y,α,Z,o,e,c⟩:=g.pairs j a Y;exact⟨x,y,α,Z,o,k a o (g.above a (dt Y)).1 e,c⟩
theorem ZGot.more {h:Xj} {xs:K'} {as:M'} {x y:xo} (g:ZGot h G xs ys as) (ha:∀b∈as,b < a) (Z:G<=a) (hx:xs[as.length]? =a' x) (hy:ys[as.length]? =a' y) (ht:h.IsTuple a #[x,y]):ZGot h G xs ys (as++[a]):=by
 refine⟨ao3.mpr ⟨g.rise,am0 _ _,λb hb c α=>by rw[gA.mp α];exact ha b hb⟩,λb hb=>?_,λj b Y=>?_⟩
 ·rcases hB.mp hb with z | z
  ·exact g.above b z
  ·rw[gA.mp z];obtain⟨o,e,_⟩:=ht;exact⟨Z,mH e⟩
 ·by_cases hl:j < as.length
  ·rw[mu hl] at Y;exact g.pairs j b Y
  ·rw[ov @A] at Y
   have β:j=as.length:=by
    have:=(bA.mp Y).1;simp at this;omega
   subst β;rw[Zq] at Y;have:a=b:=by simpa using Y
   subst this;exact⟨x,y,hx,hy,ht⟩
theorem loop {R:S'} {z:eO} {xs:K'} (hh:A.handled=gn) (U:Und z C D i1 i2 ι τ S G) (hn:xs.size<=la) (χ:ys.size=xs.size) (res:xo) {h₁:Xj}
  (hR:∀h' tk Z c as,(∀b o,b≠S->b≠z->b≠D->b≠i1->b≠i2->h₁.get? b=a' o->h'.get? b=a' o)->h'.get? S=a' {cls:= .type "list",data:= .seq Z c}->Z.toList=as.map .ref->as.length=xs.size->ZGot h' G xs ys as->R (.ok (.ret res)) {s with heap:=h',toks:=tk}):
  ∀(k i:Nat) (h:Xj) (tk c:Nat) (Z:K') (as:M'),xs.size - i=k->i<=xs.size->G<=h.objs.size->ZSt h z C D i1 i2 ι τ G xs ys i as->
    (∀b o,b≠S->b≠z->b≠D->b≠i1->b≠i2->h₁.get? b=a' o->h.get? b=a' o)->h.get? S=a' {cls:= .type "list",data:= .seq Z c}->Z.toList=as.map .ref->
    codeAny (WA prog w) A (aw2 "list.extend.loop" {pos:=[.ref S,.ref z,res]}) R {s with heap:=h,toks:=tk}:=by
 have ap:=U.ap;intro k
 induction k with
 | zero=>
   intro i h tk c Z as hk hi η st π hS α;have a4:i=xs.size:=by omega
   subst a4;refine Zi F.entry_extend_loop ?_;rw[YT F.plain_extend_loop];show vu _ A.in1 (pyNext (.ref z) >>=_) _ _ _;refine gs ?_
   have fin:∀h' Y,(∀b o,b≠z->b≠D->b≠i1->b≠i2->h.get? b=a' o->h'.get? b=a' o)->R (.ok (.ret res)) {s with heap:=h',toks:=Y}:=λh' Y δ=>
    hR h' Y Z c as (λb o n1 ε ζ β ν e=>δ b o ε ζ β ν (π b o n1 ε ζ β ν e)) (δ S _ U.Sz U.STO U.Si1 U.Si2 hS) α st.len (st.got.keep λb o hb e=>δ b o (XY (eP U.z hb)) (XY (eP U.TO hb)) (XY (eP U.i1 hb)) (XY (eP U.i2 hb)) e)
   rcases st.zp with ⟨θ,hz⟩ | ⟨T,fl,hz,hT⟩
   ·have W:=ag6 (prog:=prog) (w:=w) (A:=A.in1) hh z C D i1 i2 ι τ ap xs ys;have em:min xs.size ys.size=xs.size:=by omega
    rw[em] at W;refine W.done {s with heap:=h,toks:=tk} _ _ ⟨hz,st.hI,st.hO,st.h1,st.h2,st.hl1,st.hl2⟩ λh' Y δ=>?_;exact W4 (fin h' Y λb o ε ζ β ν e=>δ b o (by simp[ε,ζ,β,ν]) e)
   ·obtain⟨x,y,_,_,υ,eT,_⟩:=st.got.pairs 0 T hT;refine NU (s:={s with heap:=h,toks:=tk}) hh ap hz eT st.hI st.h1 st.hl1 @E λh' δ=>?_;exact W4 (fin h' tk λb o ε ζ β ν e=>δ b o ε β e)
 | succ k ih=>
   intro i h tk c Z as hk hi η st π hS α;have φ:i < xs.size:=by omega
   have hx:xs[i]? =a' xs[i]:=aj7 φ;have hy:ys[i]? =a' (ys[i]' @A):=aj7 @A;generalize xs[i]=x at hx;generalize ys[i]'_=y at hy;refine Zi F.entry_extend_loop ?_;rw[YT F.plain_extend_loop];show vu _ A.in1 (pyNext (.ref z) >>=_) _ _ _;refine gs ?_
   have go:∀(a:eO) (h':Xj) (Y:Nat),h.objs.size<=a->h'.IsTuple a #[x,y]->(∀b o,b≠z->b≠D->b≠i1->b≠i2->h.get? b=a' o->h'.get? b=a' o)->G<=h'.objs.size->
     (∃T fl,Busy h' z C D T fl/\(as++[a])[0]? =a' T)->IsPair h' C (.ref i1) (.ref i2)->(∃a b,IsPair h' D a b)->h'.IsListIter i1 ι (i + 1)->h'.IsListIter i2 τ (i + 1)->h'.IsList ι xs->h'.IsList τ ys->
     vu (WA prog w) A.in1 (ah2 (.ref S) (λq=>q.push (.ref a)) >>=λ_=>again (aw2 "list.extend.loop" {pos:=[.ref S,.ref z,res]}))
      (λfin s'=>match fin with | .done f=>R (.ok f) s' | .again c'=>c'.quiet=true/\codeAny (WA prog w) A c' R s') (λe s'=>R (.error e) s') {s with heap:=h',toks:=Y}:=by
    intro a h' Y ha ht δ γ ρ hI hO h1 h2 hl1 hl2;have a0:=δ S _ U.Sz U.STO U.Si1 U.Si2 hS;have aS:a≠S:=XY (eP (mH hS) ha);have hsz:Z.size=i:=by have:=Wy X3 α;rw[bx,st.len] at this;simpa using this
    have oth:∀b o,b≠S->h'.get? b=a' o->(h'.update S (XQ λq=>q.push (.ref a))).get? b=a' o:=λb o hb e=>(XC _ _ (WK hb)).trans e;have a5:=Yp (XQ (λq=>q.push (WD a))) a0 rfl;refine gs (ae2 (s:={s with heap:=h',toks:=Y}) a0 rfl (W4 ⟨ai1 F.plain_extend_loop _,?_⟩) (by rw[hsz];omega) (by rw[Array.size_push,hsz];omega));refine ih (i + 1) (h'.update S _) Y _ (Z.push (.ref a)) (as++[a]) @A φ ?_ ⟨.inr ?_,?_,?_,?_,?_,?_,?_,?_,?_⟩ ?_ a5 ?_
    ·have es:(h'.update S (XQ λq=>q.push (.ref a))).objs.size=h'.objs.size:=(Ys ..).1;rw[es];exact γ
    ·obtain⟨T,fl,e,q⟩:=ρ;exact⟨T,fl,oth _ _ (WK U.Sz) e,q⟩
    ·exact oth _ _ (WK U.STI) hI
    ·obtain⟨p,q,e⟩:=hO;exact⟨p,q,oth _ _ (WK U.STO) e⟩
    ·exact h1.at λo e=>oth _ o (WK U.Si1) e
    ·exact h2.at λo e=>oth _ o (WK U.Si2) e
    ·exact let ⟨o,e,c⟩:=hl1;⟨o,oth _ o (WK U.Sl1) e,c⟩
    ·exact let ⟨o,e,c⟩:=hl2;⟨o,oth _ o (WK U.Sl2) e,c⟩
    ·rw[eX,st.len];rfl
    ·have g:=st.got.keep (h':=h'.update S (XQ λq=>q.push (.ref a))) λb o hb e=>oth b o (XY (eP U.S hb)) (δ b o (XY (eP U.z hb)) (XY (eP U.TO hb)) (XY (eP U.i1 hb)) (XY (eP U.i2 hb)) e);refine g.more (λb hb=>eP (st.got.above b hb).2 ha) (Yi η ha) (by rw[st.len];exact hx) (by rw[st.len];exact hy) (let ⟨o,e,c⟩:=ht;⟨o,oth _ o aS e,c⟩)
    ·exactλb o n1 ε ζ β ν e=>oth b o n1 (δ b o ε ζ β ν (π b o n1 ε ζ β ν e))
    ·rw[Array.toList_push,α,ee];rfl
   rcases st.zp with ⟨θ,hz⟩ | ⟨T,fl,hz,hT⟩
   ·have W:=ag6 (prog:=prog) (w:=w) (A:=A.in1) hh z C D i1 i2 ι τ ap xs ys;have em:min xs.size ys.size=xs.size:=by omega
    rw[em] at W;refine W.item i {s with heap:=h,toks:=tk} _ _ φ ⟨hz,st.hI,st.hO,st.h1,st.h2,st.hl1,st.hl2⟩ λT ω h' Y hp hT ht ο δ=>?_;obtain⟨x',y',ex,ey,rfl⟩:=hp;rw[hx] at ex;cases ex;rw[hy] at ey;cases ey;obtain⟨ψ,m2,m3,m4,m5,m6,m7,_⟩:=ο;have a6:as=[]:=ZC (st.len.trans θ);refine go T h' Y hT ht (λb o ε ζ β ν e=>δ b o (by simp[ε,ζ,β,ν]) e) ?_ ⟨T,false,ψ,by rw[a6];rfl⟩ m2 m3 m4 m5 m6 m7;obtain⟨o,e,_⟩:=ht;exact YA (Xl (Yi η hT) (mH e))
   ·obtain⟨_,_,_,_,υ,eT,_⟩:=st.got.pairs 0 T hT;refine Ko (s:={s with heap:=h,toks:=tk}) ap hz eT st.hI st.h1 st.h2 st.hl1 st.hl2 hx hy λh' a3 b1 b2 δ ht=>?_;refine go h.objs.size h' tk (p' _) ⟨_,ht,rfl,_,rfl⟩ (λb o ε ζ β ν e=>δ b o ε β ν e) ?_ ⟨T,true,a3,?_⟩ (δ C _ ap.TIz ap.TIi1 ap.TIi2 st.hI) (let ⟨p,q,e⟩:=st.hO;⟨p,q,δ D _ ap.TOz ap.TOi1 ap.TOi2 e⟩) b1 b2 (let ⟨o,e,c⟩:=st.hl1;⟨o,δ ι o ap.l1z ap.l1i1 ap.l1i2 e,c⟩) (let ⟨o,e,c⟩:=st.hl2;⟨o,δ τ o ap.l2z ap.l2i1 ap.l2i2 e,c⟩)
    ·have ξ:h'.get? h.objs.size=_:=ht;exact YA (Xl η (mH ξ))
    ·have:0 < as.length:=(bA.mp hT).1;rw[mu this];exact hT
theorem V9:typeLookup (.type "zip") "__len__"=pure none:=by rw[al8,ae9];kernel_rfl
theorem Uq:typeLookup (.type "zip") "__length_hint__"=pure none:=by rw[al8,ae9];kernel_rfl
structure New (h:Xj) (z TI TO i1 i2 l1 l2:eO) (xs ys:K'):Prop where
 ap:ZipApart z TI TO i1 i2 l1 l2
 hz:IsZip h z TI TO .none
 hI:IsPair h TI (.ref i1) (.ref i2)
 hO:∃a b,IsPair h TO a b
 h1:h.IsListIter i1 l1 0
 h2:h.IsListIter i2 l2 0
 hl1:h.IsList l1 xs
 hl2:h.IsList l2 ys
theorem New.keep {h:Xj} {z:eO} {xs:K'} (n:New h z C D i1 i2 Y τ xs ys) (k:∀b o,h.get? b=a' o->(b=z∨b=C∨b=D∨b=i1∨b=i2∨b=Y∨b=τ)->h'.get? b=a' o):New h' z C D i1 i2 Y τ xs ys where
 ap:=n.ap
 hz:=k _ _ n.hz @E
 hI:=k _ _ n.hI @E
 hO:=let ⟨a,b,e⟩:=n.hO;⟨a,b,k _ _ e @E⟩
 h1:=n.h1.at λo e=>k _ o e @E
 h2:=n.h2.at λo e=>k _ o e @E
 hl1:=let ⟨o,e,c⟩:=n.hl1;⟨o,k _ o e @E,c⟩
 hl2:=let ⟨o,e,c⟩:=n.hl2;⟨o,k _ o e @E,c⟩
theorem UT {R:S'} {z:eO} {xs:K'} (π:A.handled=gn) (U:Und z C D i1 i2 Z τ S G) (N:New s.heap z C D i1 i2 Z τ xs ys) (hn:xs.size<=la) (χ:ys.size=xs.size) (α:G<=s.heap.objs.size) (res:xo) (ι:s.heap.get? S=a' {cls:= .type "list",data:= .seq #[] d})
  (φ:∀h' tk Y c as,(∀b o,b≠S->b≠z->b≠D->b≠i1->b≠i2->s.heap.get? b=a' o->h'.get? b=a' o)->h'.get? S=a' {cls:= .type "list",data:= .seq Y c}->Y.toList=as.map .ref->as.length=xs.size->ZGot h' G xs ys as->R (.ok (.ret res)) {s with heap:=h',toks:=tk}):
  vu (WA prog w) A.in1 (Yd (.ref S) (.ref z) res)
   (λfin s'=>match fin with | .done f=>R (.ok f) s' | .again ξ=>ξ.quiet=true/\codeAny (WA prog w) A ξ R s') (λe s'=>R (.error e) s') s:=by
 have ty:s.TypeIs (.ref z) "zip":=⟨_,N.hz,rfl⟩;have h1:ag4 (.ref S) (.ref z)=false:=by simp[ag4,U.Sz]
 unfold Yd;refine gs (aq9 ty ?_);rw[oT (by rw[h1];decide)];refine gs (aj9 N.hz ?_);refine gs (Ze ?_);unfold Builtin.List.listLengthHint;refine gs (al7 ty V9 ?_);show vu _ A.in1 (specialOf (WD z) (YZ "__length_hint__") >>=_) _ _ _;refine gs (al7 ty Uq ?_);refine W4 ?_;dsimp only;rw[zt @C];refine gs (au6 (gs ?_));show vu _ _ (updateSeq S (λx=>x.push .none) >>=λ_=>updateSeq S λx=>x.pop) _ _ s;have β:=Yp (XQ (λx=>x.push XF)) ι rfl;have δ:∀b o,b≠S->s.heap.get? b=a' o->(s.heap.update S (XQ (λx=>x.push XF))).get? b=a' o:=λb o hb e=>(XC _ _ (WK hb)).trans e;have η:(s.heap.update S (XQ (λx=>x.push XF))).objs.size=s.heap.objs.size:=(Ys ..).1;refine gs (ae2 ι rfl ?_ (by show 0<=la;exact XZ _) (by show 1<=la + 1;omega));generalize υ:s.heap.update S (XQ (λx=>x.push XF))=g1 at β δ η;refine ae2 (s:={s with heap:=g1}) β rfl ?_ (by show 1<=la;rw[ra];decide) (by show 0<=la + 1;omega);have ν:=Yp (XQ (λx=>x.pop)) β rfl;have γ:∀b o,b≠S->g1.get? b=a' o->(g1.update S (XQ (λx=>x.pop))).get? b=a' o:=λb o hb e=>(XC _ _ (WK hb)).trans e;have ζ:(g1.update S (XQ (λx=>x.pop))).objs.size=g1.objs.size:=(Ys ..).1;generalize ρ:g1.update S (XQ (λx=>x.pop))=g2 at ν γ ζ;refine W4 ⟨ai1 F.plain_extend_loop _,?_⟩
 have N2:New g2 z C D i1 i2 Z τ xs ys:=N.keep λb o e hb=>by
  have θ:b≠S:=by
   rcases hb with rfl | rfl | rfl | rfl | rfl | rfl | rfl
   ·exact WK U.Sz
   ·exact WK U.STI
   ·exact WK U.STO
   ·exact WK U.Si1
   ·exact WK U.Si2
   ·exact WK U.Sl1
   ·exact WK U.Sl2
  exact γ b o θ (δ b o θ e)
 exact loop (s:=s) (h₁:=s.heap) π U hn χ res φ xs.size 0 g2 s.toks _ #[] [] (ak7 _) (XZ _) (by rw[ζ,η];exact α) ⟨.inl ⟨rfl,N2.hz⟩,N2.hI,N2.hO,N2.h1,N2.h2,N2.hl1,N2.hl2,rfl,⟨aj5,λ_ h=>hQ h @E,λj a ο=>by simp at ο⟩⟩ (λb o n1 _ _ _ _ e=>γ b o n1 (δ b o n1 e)) ν rfl
theorem init {R:S'} {z:eO} {xs:K'} (ι:A.handled=gn) (U:Und z C D i1 i2 Y τ S G) (N:New s.heap z C D i1 i2 Y τ xs ys) (hn:xs.size<=la) (χ:ys.size=xs.size) (α:G<=s.heap.objs.size) (δ:s.heap.get? S=a' {cls:= .type "list",data:= .seq #[]})
  (ξ:∀h' tk ε c as,(∀b o,b≠S->b≠z->b≠D->b≠i1->b≠i2->s.heap.get? b=a' o->h'.get? b=a' o)->h'.get? S=a' {cls:= .type "list",data:= .seq ε c}->ε.toList=as.map .ref->as.length=xs.size->ZGot h' G xs ys as->R (.ok (.ret .none)) {s with heap:=h',toks:=tk}):
  vu (WA prog w) A.in1 (Builtin.«list.__init__» ⟨[.ref S,.ref z],[]⟩)
   (λfin s'=>match fin with | .done f=>R (.ok f) s' | .again γ=>γ.quiet=true/\codeAny (WA prog w) A γ R s') (λe s'=>R (.error e) s') s:=by
 show vu _ _ (do let Z <-ai3 (.ref S);ah2 (.ref S) (λ_=>#[]);letGo Z.toList.reverse;Yd (.ref S) (.ref z) .none) _ _ s;refine gs ?_;unfold ai3;refine gs (Zt δ rfl (W4 ?_));show vu _ _ (updateSeq S (λ_=>#[]) >>=λ_=>letGo (#[]:K').toList.reverse >>=λ_=>Yd (.ref S) (.ref z) .none) _ _ s;refine gs (ae2 δ rfl ?_);have β:=Yp (XQ (λ_=>(#[]:K'))) δ rfl;have oth:∀b o,b≠S->s.heap.get? b=a' o->(s.heap.update S (XQ (λ_=>(#[]:K')))).get? b=a' o:=λb o hb e=>(XC _ _ (WK hb)).trans e;have es:(s.heap.update S (XQ (λ_=>(#[]:K')))).objs.size=s.heap.objs.size:=(Ys ..).1;refine gs (wpAny_letGo ?_);refine UT (s:={s with heap:=_}) ι U (N.keep λb o e hb=>oth b o ?_ e) hn χ (by show G<=(s.heap.update S _).objs.size;rw[es];exact α) .none β λh' tk ε c as k a1 a2 π ο=>ξ h' tk ε c as (λb o n1 θ η ζ ν e=>k b o n1 θ η ζ ν (oth b o n1 e)) a1 a2 π ο;rcases hb with rfl | rfl | rfl | rfl | rfl | rfl | rfl
 ·exact WK U.Sz
 ·exact WK U.STI
 ·exact WK U.STO
 ·exact WK U.Si1
 ·exact WK U.Si2
 ·exact WK U.Sl1
 ·exact WK U.Sl2
theorem call_list {Q:Cr} {z:eO} {xs:K'} (π:A.handled=gn) (N:New s.heap z C D i1 i2 S Y xs ys) (hn:xs.size<=la) (χ:ys.size=xs.size)
  (ρ:∀h' tk α c as,(∀b o,b≠z->b≠D->b≠i1->b≠i2->s.heap.get? b=a' o->h'.get? b=a' o)->h'.get? s.heap.objs.size=a' {cls:= .type "list",data:= .seq α c}->α.toList=as.map .ref->as.length=xs.size->ZGot h' (s.heap.objs.size + 1) xs ys as->Q (.ref s.heap.objs.size) {s with heap:=h',toks:=tk}):
  vu (WA prog w) A (call (.type "list") [.ref z]) Q E s:=by
 have ι:=mH N.hz;have φ:=mH N.hI;obtain⟨ε,pb,ψ⟩:=N.hO;have θ:=mH ψ;have η:i1 < s.heap.objs.size:=let ⟨o,e,_⟩:=N.h1;mH e
 have ζ:i2 < s.heap.objs.size:=let ⟨o,e,_⟩:=N.h2;mH e
 have υ:S < s.heap.objs.size:=let ⟨o,e,_⟩:=N.hl1;mH e
 have τ:Y < s.heap.objs.size:=let ⟨o,e,_⟩:=N.hl2;mH e
 refine callType_codes (Q₁:=λobj Z=>obj= .ref s.heap.objs.size/\Z={s with heap:=s.heap.push {cls:= .type "list",data:= .seq #[]}}) F.called_list (F.typeCall_list_1 _) F.entry_list_init (code_list_new _ ⟨rfl,rfl⟩) λobj Z h₁=>?_;obtain⟨rfl,rfl⟩:=h₁;have γ:(s.heap.push {cls:= .type "list",data:= .seq #[]}).get? s.heap.objs.size=a' {cls:= .type "list",data:= .seq #[]}:=v' _ rfl;have up:∀{b:eO},b < s.heap.objs.size->b < s.heap.objs.size + 1:=λh=>aa7 h;have ne:∀{b:eO},b < s.heap.objs.size->s.heap.objs.size≠b:=λh=>XY h;have U:Und z C D i1 i2 S Y s.heap.objs.size (s.heap.objs.size + 1):=⟨N.ap,ne ι,ne φ,ne θ,ne η,ne ζ,ne υ,ne τ,up ι,up θ,up η,up ζ,Y5 _⟩;have sz:(s.heap.push {cls:= .type "list",data:= .seq #[]}).objs.size=s.heap.objs.size + 1:=by simp[Heap.push]
 refine⟨⟨_,γ,rfl⟩,F.args_list_init_2 _ _,init (A:=A.in1) (s:={s with heap:=_}) π U (N.keep λb o e _=>gz _ e) hn χ (ak9 sz.symm) γ λh' tk α c as k a1 a2 a3 ω=>?_⟩;exact⟨rfl,ρ h' tk α c as (λb o ο ξ δ ν e=>k b o (W' (mH e)) ο ξ δ ν (gz _ e)) a1 a2 a3 ω⟩
end
end ZP
open PySem PySem.Spec PyProof.Rows
theorem By:∀as:M',Vals (as.map V.ref) (as.map WD)
 | []=> .nil
 | _::as=> .cons rfl (By as)
theorem OZ {X:Cx} {pins:E'} {σ:St} {Z s:vr} {π:Hp} (I0:Inv X pins σ π Z):∀(as:M') (xs ys:ef V) (H:Hp),Inv X pins σ H s->as.Pairwise (· < ·)->(∀a∈as,Z.heap.objs.size<=a/\H a=gn)->as.length=xs.length->as.length=ys.length->
  (∀(j:Nat) (a:eO) (x y:V),as[j]? =a' a->xs[j]? =a' x->ys[j]? =a' y->∃u v,RelV x u/\RelV y v/\s.heap.IsTuple a #[u,v])->
  ∃H2,Inv X pins σ H2 s/\Same H H2/\(∀b,b∉as->H2 b=H b)/\∀(j:Nat) (a:eO) (x y:V),as[j]? =a' a->xs[j]? =a' x->ys[j]? =a' y->H2 a=a' (.tup [x,y])
 | [],_,_,H,I,_,_,_,_,_=>⟨H,I,Same.refl _,λ_ _=>rfl,λj a x y h=>by simp at h⟩
 | a::as,[],_,H,I,_,_,h,_,_=>by simp at h
 | a::as,_,[],H,I,_,_,_,h,_=>by simp at h
 | a::as,x::xs,y::ys,H,I,pw,fr,l1,l2,ht=>by
   obtain⟨u,v,η,ζ,o,e,c⟩:=ht 0 a x y rfl rfl rfl;have δ:=fr a (W6 ..);have Y:=List.pairwise_cons.mp pw;have na:a∉as:=λh=>Yg _ (Y.1 a h);have ο:Inv X pins σ (upd H a (.tup [x,y])) s:=I.track (I0.fpN (YX δ.1) δ.2) ⟨BA,[u,v],.cons η (.cons ζ .nil),o,e,c⟩;obtain⟨H2,ξ,ε,o2,g2⟩:=OZ I0 as xs ys (upd H a (.tup [x,y])) ο Y.2 (λb hb=>⟨(fr b (W1 _ hb)).1,by rw[aG (λz:b=a=>na (by rw[<-z];exact hb))];exact(fr b (W1 _ hb)).2⟩) (by simpa using l1) (by simpa using l2) λj b γ α h1 h2 β=>ht (j + 1) b γ α (by simpa using h1) (by simpa using h2) (by simpa using β);refine⟨H2,ξ,λb ob h=>ε b ob (by rw[aG (ao h δ.2)];exact h),λb hb=>?_,λj b γ α h1 h2 β=>?_⟩
   ·rw[o2 b λz=>hb (W1 _ z),aG (λz:b=a=>hb (by rw[z];exact W6 ..))]
   ·cases j with
    | zero=>
      have ν:a=b:=by simpa using h1
      have ι:x=γ:=by simpa using h2
      have θ:y=α:=by simpa using β
      subst ν ι θ;exact ε a _ ax
    | succ j=>exact g2 j b γ α (by simpa using h1) (by simpa using h2) (by simpa using β)
def Sj (K:b') (Q:VK) (x y:V) (H:Hp):Prop:=∃a b xs ys,x= .ref a/\y= .ref b/\SqL K H a xs/\SqL K H b ys/\xs.length=ys.length/\
 ∀(D:eO) (ps:M') (Y:Hp),H D=gn->Same H Y->Y D=a' (.lst (ps.map V.ref))->ps.length=xs.length->(∀(j:Nat) (p:eO) (x y:V),ps[j]? =a' p->xs[j]? =a' x->ys[j]? =a' y->Y p=a' (.tup [x,y]))->Q (.ref D) Y
noncomputable def tZip (K:b') (Y ξ:TE):TE:=fun σ H Q=>Y σ H λx H1=>ξ σ H1 λy H2=>Sj K Q x y H2
theorem VL {K:b'} (h:oL σ H λx H1=>ξ σ H1 λy H2=>Sj K Q x y H2):tZip K oL ξ σ H Q:=h
section
variable {X:Cx}
theorem UU {K:b'} (hK:X.K=K) (g2:Gl X "zip") (n2:X.mg "zip"=gn) (ο:PE X lB oL) (ι:PE X lT ξ) (h2:zx [lB,lT] X.env=(false,eval lB X.env)::zx [lT] X.env) (ρ:zx [lT] X.env=[(false,eval lT X.env)])
  (I:Inv X pins σ H s) (h:tZip K oL ξ σ H Q) (υ:Cr)
  (τ:∀(Y:vr) (h':Xj) (H1:Hp) (a b:eO) (xs ys:ef V) (its ζ:F'),Inv X pins σ H1 Y->Vals xs its->Vals ys ζ->its.length<=la->xs.length=ys.length->h'.objs.size=Y.heap.objs.size + 5->(∀c o,Y.heap.get? c=a' o->h'.get? c=a' o)->
   ZP.New h' (Y.heap.objs.size + 4) (Y.heap.objs.size + 2) (Y.heap.objs.size + 3) Y.heap.objs.size (Y.heap.objs.size + 1) a b its.toArray ζ.toArray->
   (∀(D:eO) (ps:M') (β:Hp),H1 D=gn->Same H1 β->β D=a' (.lst (ps.map V.ref))->ps.length=xs.length->(∀(j:Nat) (p:eO) (x y:V),ps[j]? =a' p->xs[j]? =a' x->ys[j]? =a' y->β p=a' (.tup [x,y]))->Q (.ref D) β)->
   υ (.ref (Y.heap.objs.size + 4)) {Y with heap:=h'}):
  vu (WA X.prog X.w) X.A (eval (.Call (.Name "zip" nw) [lB,lT] [] oe) X.env) υ X.xe s:=by
 subst hK;refine ap7 (oW I g2 n2 ai7 (X0 (thn (aa ο (aa ι af ρ) h2 oe pins s σ H (λvs H1=>match vs with | [x,y]=>Sj X.K Q x y H1 | _=>False) I h) λus Y ⟨vs,H1,I1,γ,δ⟩=>?_) h2 (by rw[ρ];rfl)))
 match vs,γ,δ with
 | [x,y],γ,δ=>
 obtain⟨a,b,xs,ys,ex,ey,sa,sb,hl,q⟩:=δ;subst ex ey;cases γ with
 | cons rx r2=>
 cases r2 with
 | cons ry r3=>
 cases r3;cases rx;cases ry;obtain⟨its,θ,ε,η⟩:=I1.list sa;obtain⟨ζ,rb,pb,a0⟩:=I1.list sb;have ψ:a < Y.heap.objs.size:=let ⟨o,e,_⟩:=ε.isList;i' e
 have lb:b < Y.heap.objs.size:=let ⟨o,e,_⟩:=pb.isList;i' e
 refine call_zip_2 ε.isList pb.isList λh' z1 ω φ ν χ hsz k=>?_;exact τ Y h' H1 a b xs ys its ζ I1 θ rb (by rw[<-θ.length];exact η) hl hsz k ⟨zipApart_new ψ lb,z1,ω,⟨_,_,φ⟩,ν,χ,let ⟨o,e,c⟩:=ε.isList;⟨o,k _ o e,c⟩,let ⟨o,e,c⟩:=pb.isList;⟨o,k _ o e,c⟩⟩ q
theorem G0 {K:b'} {γ:XS} (hK:X.K=K) (hc:X.calm=true) (g1:Gl X "list") (g2:Gl X "zip") (n1:X.mg "list"=gn) (n2:X.mg "zip"=gn) (a3:PE X lB oL) (ε:PE X γ ξ)
  (h1:zx [Expr.Call (.Name "zip" nw) [lB,γ] [] oe] X.env=[(false,eval (.Call (.Name "zip" nw) [lB,γ] [] oe) X.env)]:=by rfl) (h2:zx [lB,γ] X.env=(false,eval lB X.env)::zx [γ] X.env:=by rfl) (h3:zx [γ] X.env=[(false,eval γ X.env)]:=by rfl):
  PE X (.Call (.Name "list" ol) [.Call (.Name "zip" nw) [lB,γ] [] oe] [] ot) (tZip K oL ξ):=by
 intro pins s σ H Q I h;refine ap7 (oW I g1 n1 W2 (X0 (Q:=EP X pins σ Q) ?_ h1 rfl));rw[h1];show vu _ _ (spliced ((false,eval (.Call (.Name "zip" nw) [lB,γ] [] oe) X.env)::backTo ot [])) _ _ s;refine af3 (UU hK g2 n2 a3 ε h2 h3 I h _ fun α h' H1 a b xs ys its ζ I1 θ rb ν hl hsz k N q=>ag0 ?_);have a0:ζ.toArray.size=its.toArray.size:=by have:=θ.length;have:=rb.length;simp;omega
 refine ZP.call_list (s:={α with heap:=h'}) (I1.ok.hd hc) N (by simpa using ν) a0 λh2 tk a5 c as δ hD τ π G=>?_
 have ω:∀b o,α.heap.get? b=a' o->h2.get? b=a' o:=λb o e=>by
  have lt:=i' e;exact δ b o (W' (eP lt (Z1 _ _))) (W' (eP lt (Z1 _ _))) (W' lt) (W' (eP lt (Z1 _ _))) (k b o e)
 have I2:Inv X pins σ H1 {α with heap:=h2,toks:=tk}:=I1.kept (t':=tk) ω;have υ:as.length=xs.length:=by rw[π,θ.length];simp
 have a4:∀p∈as,α.heap.objs.size<=p/\H1 p=none:=λp ο=>by
  have h0:α.heap.objs.size<=p:=Yi (by show α.heap.objs.size<=h'.objs.size + 1;rw[hsz];exact Yi (Z1 _ _) (ae7 _)) (G.above p ο).1;exact⟨h0,I1.hok.fresh h0⟩
 obtain⟨H3,I3,s3,o3,β⟩:=OZ I1 as xs ys H1 I2 G.rise a4 υ (υ.trans hl) λj p x y ο χ φ=>by
  obtain⟨u,v,ρ,hv,ht⟩:=G.pairs j p ο;rw[List.getElem?_toArray] at ρ hv;obtain⟨u',eu,ru⟩:=θ.get χ;obtain⟨ψ,ev,rv⟩:=rb.get φ;rw[eu] at ρ;cases ρ;rw[ev] at hv;cases hv;exact⟨u,v,ru,rv,ht⟩
 have η:α.heap.objs.size<=h'.objs.size:=by rw[hsz];exact Z1 _ _
 have fD:H1 h'.objs.size=none:=I1.hok.fresh η;have nD:h'.objs.size∉as:=λz=>Nat.not_succ_le_self _ (G.above _ z).1;have Y:H3 h'.objs.size=none:=by rw[o3 _ nD];exact fD
 have Z:α.heap.get? h'.objs.size=none:=YX η;have I4:Inv X pins σ (upd H3 h'.objs.size (.lst (as.map V.ref))) {α with heap:=h2,toks:=tk}:=I3.track (I1.fpN Z Y) ⟨by rw[bx,υ,θ.length];exact ν,as.map .ref,c,By as,by rw[<-τ];exact hD⟩;refine⟨.ref h'.objs.size,_,I4,rfl,q h'.objs.size as _ fD (λb ob e=>?_) ax υ λj p x y ο χ φ=>?_⟩
 ·rw[aG (ao (s3 b ob e) Y)];exact s3 b ob e
 ·have:=β j p x y ο χ φ;rw[aG (ao this Y)];exact this
end
structure FunD (K:b') (x qual:Wz) (st:ZD) (f:eO) (fd:iv) (dv:xo):Prop where
 ex:∃(oc:xo) (od:Q') (T:eO) (kV doc pm:xo) (an:Q') (cdv ct:xo) (osl:L') (tc:xo) (td:Q') (n:Nat) (tsl:L'),
  fd=X' x qual (iT st) (fP st) (ag st) (.ref T) kV doc pm an cdv ct/\K.lookup f=a' ⟨oc,od,.func fd,osl⟩/\YS K cdv qual=true/\K.lookup T=a' ⟨tc,td,.seq #[dv] n,tsl⟩
 kp:XM K (.ref f)=true
section
variable {P:WJ} {w:X5} {K:b'} {mg:G'} {base:Xj}
theorem FunD.okX {x:Wz} {st:ZD} {f:eO} {ps:B'} {k:Nat} (F:FunD K x z st f fd dv) (S:av N ps (ag st)) (len:∀vs H Q E,sp vs H Q E->vs.length=ps.length)
  (ε:∀(Z:xo) (A:X2) (outer:ef Env) (s:vr) (H:Hp) (vs:ef V) (Q:VK) (E:XK),Room k (A.deeper (envOfC z (ag st) s.heap.objs.size f Z))->sp vs H Q E->
   ∃t,PSs ((cxOf (CX1 P w) P w K mg base N z (ag st) f Z A outer s H E).thr λ_=>E) (fP st) t/\t {nx:=λ_ H'=>Q .non H',rt:=Q} (start N vs) H):FnOk P w K mg base (CX1 P w) (k + 1) f fd ps sp:=by
 obtain⟨θ,od,T,kV,χ,η,an,Z,ct,δ,tc,td,n,γ,rfl,lk,α,_⟩:=F.ex;refine RS lk α S len λA outer s H vs Q E ζ β=>?_;obtain⟨t,h,q⟩:=ε Z A outer s H vs Q E ζ β;exact⟨t,h.thr FW,q⟩
theorem FunD.binds {x:Wz} {st:ZD} {f:eO} {ps:B'} {ds:F'} (F:FunD K x z st f fd dv)
  (h:∀(T:eO) (kV χ α:xo) (an:Q') (Z ct:xo) (us:F'),(us++ds).length=ps.length->∃k:WG K'->Sem U',bindArgs (X' x z (iT st) (fP st) (ag st) (.ref T) kV χ α an Z ct) ⟨us,[]⟩=(seqItems? (.ref T) >>=k)/\k (a' #[dv])=pure (ps.zip (us++ds))):qv K fd ps ds:=by
 obtain⟨ι,od,T,kV,χ,α,an,Z,ct,γ,tc,td,n,β,rfl,lk,ε,δ⟩:=F.ex;intro s us ζ hl;obtain⟨k,θ,η⟩:=h T kV χ α an Z ct us hl;exact BindsTo.of_defaults (T:=T) rfl (ζ T _ δ) rfl θ η
theorem RP {x:Wz} {st:ZD} {f T:eO} {β:L'} {n:Nat} (l:K.lookup f=a' ⟨δ,wE,.func (X' x z (iT st) (fP st) (ag st) (.ref T) jp χ γ an kf ct),β⟩)
  (ε:K.lookup T=a' ⟨u,wP,.seq #[dv] n,α⟩) (c:YS K kf z=true) (k:XM K (.ref f)=true):FunD K x z st f (X' x z (iT st) (fP st) (ag st) (.ref T) jp χ γ an kf ct) dv:=⟨⟨δ,wE,T,jp,χ,γ,an,kf,ct,β,u,wP,n,α,rfl,l,c,ε⟩,k⟩
end
section
variable {σ:St} {H:Hp} {Q:VK} {te:TE}
def Mn (C:eO) (m:Wz) (sp:Sp) (dvs:ef V) (W:XW) (tr:TA) (σ:St) (Q:VK) (x:V) (H:Hp):Prop:=∃a dx fs,x= .ref a/\H a=a' (.ins C dx fs)/\fs.lookup m=gn/\tr σ H λvs H2=>sp (x::(vs++dvs)) H2 Q (W σ)
theorem dW {m:Wz} (h:te σ H (Mn C m sp dvs W sw σ Q)):O1 C m sp dvs W te sw σ H Q:=h
theorem cD {m:Wz} (e:H p=a' (.ins C dx AT)) (l:AT.lookup m=gn) (h:sw σ H λvs H2=>sp (.ref p::(vs++dvs)) H2 Q (W σ)):Mn C m sp dvs W sw σ Q (.ref p) H:=⟨p,dx,AT,rfl,e,l,h⟩
end
noncomputable def Itzp (K:b') (a b:eO):It:=
 ⟨λi H=>∃xs ys x y,SqL K H a xs/\SqL K H b ys/\xs[i]? =a' x/\ys[i]? =a' y,
  λi H x H'=>∃p u v,H p=gn/\x= .ref p/\H'=upd H p (.tup [u,v])/\(∀xs,SqL K H a xs->xs[i]? =a' u)/\∀ys,SqL K H b ys->ys[i]? =a' v,
  λi H=>∃xs ys,SqL K H a xs/\SqL K H b ys/\xs.length=ys.length/\xs.length=i⟩
theorem MR {P:WJ} {w:X5} {K:b'} {k:Nat} (a b z TI TO i1 i2:eO) (D:ZipApart z TI TO i1 i2 a b):
  Turn P w K (.Tuple β k pos) (Itzp K a b) [z,TI,TO,i1,i2] z (λi h=>IsZip h z TI TO .none/\IsPair h TI (.ref i1) (.ref i2)/\(∃u v,IsPair h TO u v)/\h.IsListIter i1 a i/\h.IsListIter i2 b i) where
 mem:=by simp
 obj:=λi h st c hb=>by
  obtain⟨hz,Y,⟨u,v,ο⟩,⟨o1,χ,_,η⟩,⟨o2,φ,_,a8⟩⟩:=st;simp only[WH,Zf,ai9] at hb;rcases hb with e | e | e | e | e
  ·rw[e];exact⟨_,hz,λv z=>by cases z⟩
  ·rw[e];exact⟨_,Y,λv z=>by cases z⟩
  ·rw[e];exact⟨_,ο,λv z=>by cases z⟩
  ·rw[e];exact⟨o1,χ,λv z=>by rw[η] at z;cases z⟩
  ·rw[e];exact⟨o2,φ,λv z=>by rw[a8] at z;cases z⟩
 keep:=λi h h' st k=>by
  obtain⟨hz,Y,⟨u,v,ο⟩,h1,h2⟩:=st;exact⟨k z @E _ hz,k TI @E _ Y,⟨u,v,k TO @E _ ο⟩,h1.at λo e=>k i1 @E o e,h2.at λo e=>k i2 @E o e⟩
 item:=by
  intro X hP hw hK hc i pins s σ H E I hf st hg;subst hP hw hK;obtain⟨xs,ys,x,y,qa,α,hx,hy⟩:=hg;obtain⟨its,θ,ε,a6⟩:=I.list qa;obtain⟨ζ,rb,pb,a5⟩:=I.list α;obtain⟨hz,Y,ο,h1,h2⟩:=st;have W:=ag6 (prog:=X.prog) (w:=X.w) (A:=X.A) (I.ok.hd hc) z TI TO i1 i2 a b D its.toArray ζ.toArray;have π:i < its.length:=by have:=θ.length;have:=(bA.mp hx).1;omega
  have c1:i < ζ.length:=by have:=rb.length;have:=(bA.mp hy).1;omega
  have a4:∀c∈[z,TI,TO,i1,i2],c < s.heap.objs.size:=λc hb=>by
   obtain⟨u,v,ο⟩:=ο;obtain⟨o1,χ,_⟩:=h1;obtain⟨o2,φ,_⟩:=h2;simp only[WH,Zf,ai9] at hb;rcases hb with e | e | e | e | e
   ·rw[e];exact i' hz
   ·rw[e];exact i' Y
   ·rw[e];exact i' ο
   ·rw[e];exact i' χ
   ·rw[e];exact i' φ
  refine W.item i s _ _ (by simp;omega) ⟨hz,Y,ο,h1,h2,ε.isList,pb.isList⟩ λT ω h' tk b6 hT a0 ξ hk=>⟨_,rfl,W.go β k pos i T _ _ _ ξ λc0 Z a3=>?_⟩;obtain⟨γ,y',υ,a7,rfl⟩:=b6;have b3:=W.apart i T h' ξ
  have ru:RelV x γ:=by
   obtain⟨u,ρ,r⟩:=θ.get hx;have ι:its[i]? =a' γ:=by simpa using υ
   rw[ρ] at ι;cases ι;exact r
  have rv:RelV y y':=by
   obtain⟨u,ρ,r⟩:=rb.get hy;have τ:ζ[i]? =a' y':=by simpa using a7
   rw[ρ] at τ;cases τ;exact r
  have sub:∀c,c∉[z,TI,TO,i1,i2]->c∉[z,TO,i1,i2]:=λc h ψ=>h (by
   simp only[WH,Zf,ai9] at ψ ⊢;rcases ψ with e | e | e | e<;>simp[e])
  have δ:∀c u,c∉[z,TI,TO,i1,i2]->s.heap.get? c=a' u->c0.get? c=a' u:=λc u hb q=>a3 c u (sub c hb) (hk c u (sub c hb) q);have fr:H T=none:=I.hok.fresh hT;refine⟨.ref T,upd H T (.tup [x,y]),I.laidCh (t':=tk) δ hT ⟨BA,[γ,y'],.cons ru (.cons rv .nil),?_⟩ hf,rfl,⟨T,x,y,fr,rfl,rfl,λzs ν=>by rw[I.list_inj ν qa];exact hx,λzs ν=>by rw[I.list_inj ν α];exact hy⟩,⟨Z.1,Z.2.1,Z.2.2.1,Z.2.2.2.1,Z.2.2.2.2.1⟩,λc hb=>?_⟩
  ·obtain⟨o,ho,r⟩:=a0;exact⟨o,a3 T o b3 ho,r⟩
  ·rw[aG (λe=>?_)]
   ·exact(hf c hb).1
   ·have:=a4 c hb;rw[e] at this;exact hQ (eP this hT) (Yg _)
 done:=by
  intro X hP hw hK hc i pins s σ H E I hf st hg;subst hP hw hK;obtain⟨xs,ys,qa,α,hl,hn⟩:=hg;obtain⟨its,θ,ε,a6⟩:=I.list qa;obtain⟨ζ,rb,pb,a5⟩:=I.list α;obtain⟨hz,Y,ο,h1,h2⟩:=st;have W:=ag6 (prog:=X.prog) (w:=X.w) (A:=X.A) (I.ok.hd hc) z TI TO i1 i2 a b D its.toArray ζ.toArray;have e:min its.toArray.size ζ.toArray.size=i:=by have:=θ.length;have:=rb.length;simp;omega
  rw[e] at W
  have sub:∀c,c∉[z,TI,TO,i1,i2]->c∉[z,TO,i1,i2]:=λc h ψ=>h (by
   simp only[WH,Zf,ai9] at ψ ⊢;rcases ψ with e | e | e | e<;>simp[e])
  exact W.done s _ _ ⟨hz,Y,ο,h1,h2,ε.isList,pb.isList⟩ λh' tk hk=>⟨rfl,I.turnedCh (λc u hb q=>hk c u (sub c hb) q) hf⟩
 self:=λ_ _ _ _ _ st h=>aj9 st.1 h
def Si (K:b') (R:It->Hp->Prop) (x y:V) (H:Hp):Prop:=∃a b xs ys,x= .ref a/\y= .ref b/\SqL K H a xs/\SqL K H b ys/\xs.length=ys.length/\R (Itzp K a b) H
noncomputable def iZip (K:b') (Y ξ:TE):TI:=fun σ H R=>Y σ H λx H1=>ξ σ H1 λy H2=>Si K R x y H2
theorem Ti {K:b'} {R:It->Hp->Prop} (h:oL σ H λx H1=>ξ σ H1 λy H2=>Si K R x y H2):iZip K oL ξ σ H R:=h
section
variable {X:Cx} {K:b'}
theorem T4 {k:Nat} {p:Pos} (hK:X.K=K) (g2:Gl X "zip") (n2:X.mg "zip"=gn) (ζ:PE X lB oL) (ε:PE X lT ξ)
  (h2:zx [lB,lT] X.env=(false,eval lB X.env)::zx [lT] X.env:=by rfl) (ρ:zx [lT] X.env=[(false,eval lT X.env)]:=by rfl):
  PI X (.Tuple β k tpos) (.Call (.Name "zip" p) [lB,lT] [] pos) (iZip K oL ξ):=by
 subst hK;intro pins s σ H R I h;refine ap7 (oW I g2 n2 ai7 (X0 (thn (aa ζ (aa ε af ρ) h2 pos pins s σ H (λvs H1=>match vs with | [x,y]=>Si X.K R x y H1 | _=>False) I h) λus Y ⟨vs,H1,I1,δ,η⟩=>?_) h2 (by rw[ρ];rfl)))
 match vs,δ,η with
 | [x,y],δ,η=>
 obtain⟨a,b,xs,ys,ex,ey,sa,φ,hl,q⟩:=η;subst ex ey;cases δ with
 | cons rx r2=>
 cases r2 with
 | cons ω r3=>
 cases r3;cases rx;cases ω;obtain⟨its,θ,π,a4⟩:=I1.list sa;obtain⟨a0,rb,pb,a3⟩:=I1.list φ;have ψ:a < Y.heap.objs.size:=let ⟨o,e,_⟩:=π.isList;i' e
 have lb:b < Y.heap.objs.size:=let ⟨o,e,_⟩:=pb.isList;i' e
 have fin:∀c∈[Y.heap.objs.size + 4,Y.heap.objs.size + 2,Y.heap.objs.size + 3,Y.heap.objs.size,Y.heap.objs.size + 1],FpOk X pins H1 c:=λc hb=>by
  have α:Y.heap.objs.size<=c:=by
   simp only[WH,Zf,ai9] at hb;rcases hb with e | e | e | e | e<;>rw[e]<;>omega
  exact I1.fpOk α (I1.hok.fresh α)
 refine call_zip_2 π.isList pb.isList λh' ι υ τ ν χ hsz k=>aj9 ι ?_;exact⟨Y.heap.objs.size + 4,_,_,_,H1,rfl,I1.kept (t':=Y.toks) k,MR a b _ _ _ _ _ (zipApart_new ψ lb),⟨ι,υ,⟨_,_,τ⟩,ν,χ⟩,fin,q⟩
end
theorem Oy {K:b'} {n:Nat} {g:TG} {Q:Hp->Prop} {b:eO} {xs ys:ef V} (hl:xs.length=ys.length) (Pv:Nat->ef V->Hp->Prop) (h0:Pv 0 [] (upd H1 D (.lst []))) (hq:∀i zs H,i<=xs.length->Pv i zs H->SqL K H a xs/\SqL K H b ys)
  (hs:∀i x y zs H p H',xs[i]? =a' x->ys[i]? =a' y->Pv i zs H->H p=gn->Same H H'->H' p=a' (.tup [x,y])->g (.ref p) (dU n fx σ) H' λY ζ=>tc Y ζ λb δ=>if b=true then te Y δ λv γ=>γ D=a' (.lst zs)/\zs.length < la/\Pv (i + 1) (zs++[v]) (upd γ D (.lst (zs++[v]))) else Pv (i + 1) zs δ)
  (hd:∀zs H,Pv xs.length zs H->Q H):
  ∃W:Nat->Nat->ef V->Hp->Prop,(∃m,W 0 m [] (upd H1 D (.lst [])))/\∀i m zs H2,W i m zs H2->((Itzp K a b).stop i H2/\Q H2)∨
    ((Itzp K a b).go i H2/\∃N:ef V->Hp->Prop,(∀ψ H',N ψ H'->∃ω,ω < m/\W (i + 1) ω ψ H')/\∀x η,(Itzp K a b).yld i H2 x η->g x (dU n fx σ) η λY ζ=>tc Y ζ λb δ=>
      if b=true then te Y δ λv γ=>γ D=a' (.lst zs)/\zs.length < la/\N (zs++[v]) (upd γ D (.lst (zs++[v]))) else N zs δ):=by
 refine⟨λi m zs H=>m=xs.length - i/\i<=xs.length/\Pv i zs H,⟨xs.length,@E,XZ _,h0⟩,?_⟩;rintro i m zs H ⟨rfl,hi,p⟩;obtain⟨ε,α⟩:=hq i zs H hi p;by_cases β:i < xs.length
 ·refine .inr ⟨⟨xs,ys,xs[i],ys[i]' @A,ε,α,by simp[β],by simp[show i < ys.length by omega]⟩,Pv (i + 1),fun ψ H' Z=>⟨xs.length - (i + 1),by omega,rfl,β,Z⟩,λx H' y=>?_⟩;obtain⟨r,u,v,f,ξ,ν,ι,θ⟩:=y;subst ξ ν;exact hs i u v zs H r _ (ι xs ε) (θ ys α) p f (bo f) ax
 ·have e:i=xs.length:=by omega
  subst e;exact .inl ⟨⟨xs,ys,ε,α,hl,rfl⟩,hd zs H p⟩
noncomputable abbrev xBM:F':=[.type "ValueError",.type "Exception",.type "BaseException",.type "object"]
structure XOwn (K:b') (C W f:eO):Prop where
 lk:∃nm q N bs sn sub ab col dd k0 k1 k2 k3 k5,K.lookup C=a' (excClassObj nm q C N bs (.ref W::xBM) true sn sub ab col dd k0 k1 k2 k3 k5 "ValueError.__new__")
 up:ad1 K W xBM "ValueError.__new__"=true
 init:WW K (.ref C) "__init__"=a' (a' (.ref f))
 fn:ae8 K (.ref f)=true
 kp:XM K (.ref C)=true
 sa:WW K (.ref C) "__setattr__"=a' (a' (.builtin "object.__setattr__"))
 mo:Yu K C (.type "object")=a' true
 mv:Yu K C (.type "ValueError")=a' true
section
variable {X:Cx} {pins:E'} {σ:St} {H:Hp} {s:vr} {p C W f:eO} {fs:ef (Wz×V)}
structure Wv (K:b') (W:eO):Prop where
 ga:YN K (.ref W) "__getattribute__"=a' (a' (.builtin "type.__getattribute__"))
 rd:aq0 K W (.type "type")=true
 fd:aq3 K (.ref W) (.type "type") "__init__"=a' (.val (.builtin "ValueError.__init__"))
theorem jt {st:ZD}:PS X st (λ_ _ _=>False):=λ_ _ _ _ _ _ h=>h.elim
end
end L2
namespace PySem
theorem F.entry_dict_update_loop:entryFor table "dict.update.loop"=a' Builtin.«dict.update.loop»:=entryFor_of_tree (by kernel_rfl)
theorem F.plain_dict_update_loop:plainId "dict.update.loop"=true:=by decide +kernel
theorem F.list_keys_none:typeLookup (.type "list") "keys"=pure none:=by rw[al8,ae9];kernel_rfl
theorem Ez {w:X5} {A:X2} {E:Cr} {xs:K'} {k:Nat} {name:Wz} {Q:V'->vr->Prop}
  (Z:s.heap.get? a=a' {cls:= .type "list",data:= .seq xs k}) (β:typeLookup (.type "list") name=pure gn) (α:(["__module__","__name__","__qualname__","__doc__","__annotations__"]:B').contains name=false) (δ:A.handled=gn)
  (h:∀h' tk,(∀b o,s.heap.get? b=a' o->h'.get? b=a' o)->Q gn {s with heap:=h',toks:=tk}) (hsz:name.length + 100<=sizeLine:=by size_fits):
  vu (WA prog w) A (getAttr? (.ref a) name) Q E s:=by
 obtain⟨γ,g,d,tk,os⟩:=s;have hT:∀Y,(⟨γ,g,d,Y,os⟩:vr).TypeIs (.ref a) "list":=λ_=>⟨_,Z,rfl⟩;have θ:=sub_AttributeError;have ξ:=F.slot_list_getattribute.lookup;have η:=F.slot_list_getattribute.bind (.ref a);have ζ:=am_list_getattr_none;unfold getAttr? getAttrBy? getAttrBy
 repeat (any_goals (first | assumption | exact hT _ | ((with_reducible show vu _ _ (call (Value.builtin "list.__getattribute__") _ _) _ _ _);refine ZK F.slot_list_getattribute (hT _) am_entry_list_getattribute (F.args_list_getattribute_2 _ _) (meets_getattribute_miss_list a xs k #[] name _ β α hsz) ⟨Z,δ,λh' Y e υ=>?_⟩) | wp_step))
 obtain⟨t',ε,he⟩:=υ.there;show vu _ _ (getattributeRaised _ _ _ _ _ _ _) _ _ _;unfold getattributeRaised
 repeat (any_goals (first | assumption | wp_step))
 exact h _ _ υ.keeps
section
variable {prog:WJ} {w:X5} {K:Type} [DecidableEq K] {knd:KeyKind prog w K} {A:X2} {R:S'} {I:eO} {fp wr:M'} {n:Nat} {P:Nat->xo->Prop} {St:Nat->Xj->Prop}
def P4 (knd:KeyKind prog w K) (h:Xj) (a:eO) (Y:K×xo):Prop:=∃β o n,h.get? a=a' o/\o.cls= .type "tuple"/\o.data= .seq #[β,Y.2] n/\knd.is Y.1 β=true
theorem xZ {h:Xj} {d:eO} {kvs:ef (K×xo)} (hm:h.DictOf knd d kvs) (f:∀o,h.get? d=a' o->h'.get? d=a' o):h'.DictOf knd d kvs:=let ⟨o,es,ep,ho,r⟩:=hm;⟨o,es,ep,f o ho,r⟩
theorem rN (W:Walks prog w A.in1 I fp wr n P St) (d:eO) (π:d∉fp) (more:ef (K×xo)) (hn:more.length=n) (hsz:n<=la) (tup:Nat->eO) (γ:∀i,i < n->tup i∉wr/\tup i≠d) (hP:∀i v,i < n->P i v->v= .ref (tup i)):
  ∀(k j:Nat) (s:vr) (ix:Int) (t:Tok),n - j=k->j<=n->St j s.heap->s.heap.DictOf knd d (merged [] (more.take j))->(∀i Z,more[i]? =a' Z->P4 knd s.heap (tup i) Z)->
  (∀h' tk,h'.DictOf knd d (merged [] more)->(∀b o,b∉wr->b≠d->s.heap.get? b=a' o->h'.get? b=a' o)->R (.ok (.ret .none)) {s with heap:=h',toks:=tk})->
  codeAny (WA prog w) A (.builtin "dict.update.loop" ⟨[.ref d,.ref I,.int ix t,.none],[]⟩) R s:=by
 have τ:d∉wr:=λh=>π (W.sub _ h);intro k
 induction k with
 | zero=>
   intro j s ix t hk hj ι hd hp hR;have a0:j=n:=by omega
   subst a0;refine Zi F.entry_dict_update_loop ?_;rw[YT F.plain_dict_update_loop _];show vu _ A.in1 (pyNext (.ref I) >>=_) _ _ s;refine gs (W.done s _ _ ι λh' tk Y=>?_);show vu _ A.in1 (Builtin.Dict.addKeywords d [] >>=_) _ _ _;refine gs (W4 (W4 ?_));rw[<-hn,mc] at hd;exact hR h' tk (xZ hd λo e=>Y d o τ e) λb o hb _ e=>Y b o hb e
 | succ k ih=>
   intro j s ix t hk hj ι hd hp hR;have α:j < n:=by omega
   refine Zi F.entry_dict_update_loop ?_;rw[YT F.plain_dict_update_loop _];show vu _ A.in1 (pyNext (.ref I) >>=_) _ _ s;refine gs (W.item j s _ _ α ι λv h' tk a6 ν Y=>?_);have ev:=hP j v α a6;subst ev;obtain⟨Z,φ⟩:∃Z,more[j]? =a' Z:=⟨_,cn @A⟩;obtain⟨β,ob,m,ht,a5,η,χ⟩:=hp j Z φ;have ξ:=Y _ _ (γ j α).1 ht;show vu _ A.in1 (holding [WD (tup j)] _ >>=_) _ _ _;refine gs (Ze (gs (wpAny_tryCatch ?_)));unfold Builtin.Dict.pairItems;refine gs (aq9 (T:="tuple") ⟨_,ξ,a5⟩ ?_);rw[zt @C];refine gs (Zt ξ η ?_);refine W4 ?_;show vu _ A.in1 (holding [β,Z.2] (dictSet d β Z.2)) _ _ _;have a4:h'.DictOf knd d (merged [] (more.take j)):=xZ hd λo e=>Y d o τ e;refine Ze (wpAny_dictSet_pairs (s:={s with heap:=h',toks:=tk}) χ a4 (λh2 ψ ο=>?_) (hsz:=by have:=merged_length_le [] (more.take j);rw[ag2,tu] at this;omega));rw[<-merged_take_succ [] more j Z φ] at ψ;have kp:∀b o,b∉wr->b≠d->s.heap.get? b=a' o->h2.get? b=a' o:=λb o hb θ e=>(ο.2 b θ).trans (Y b o hb e);refine W4 ⟨ai1 F.plain_dict_update_loop _,ih (j + 1) _ _ _ @A α (W.frame _ _ _ ν λb hb o e=>?_) ψ (λi υ hi=>?_) λh3 ε a3 ζ=>?_⟩
   ·exact(ο.2 b λz=>π (z ▸ hb)).trans e
   ·obtain⟨ρ,o',ω,e',x'⟩:=hp i υ hi;have δ:i < n:=by rw[<-hn];exact(bA.mp hi).1
    exact⟨ρ,o',ω,kp _ _ (γ i δ).1 (γ i δ).2 e',x'⟩
   ·exact hR h3 ε a3 λb o hb θ e=>ζ b o hb θ (kp b o hb θ e)
end
section
variable {prog:WJ} {w:X5} {K:Type} [DecidableEq K] {knd:KeyKind prog w K} {A:X2} {E:Cr} {s:vr}
theorem yf {its:K'} {more:ef (K×xo)} {tup:Nat->eO} {Q:Cr} (π:A.handled=gn) (hl:s.heap.get? l=a' {cls:= .type "list",data:= .seq its c})
  (hn:more.length=its.size) (hsz:its.size<=la) (α:∀(i:Nat) (v:xo),its[i]? =a' v->v= .ref (tup i)) (ο:∀i δ,more[i]? =a' δ->P4 knd s.heap (tup i) δ) (nd:(more.map (·.1)).Nodup)
  (h:∀h' tk,h'.DictOf knd s.heap.objs.size more->(∀b o,s.heap.get? b=a' o->h'.get? b=a' o)->Q (.ref s.heap.objs.size) {s with heap:=h',toks:=tk}):
  vu (WA prog w) A (call (.type "dict") [.ref l]) Q E s:=by
 refine callType_codes (Q₁:=λobj γ=>obj= .ref s.heap.objs.size/\γ={s with heap:=s.heap.push {cls:= .type "dict",data:= .dict #[]}}) F.kt_called_dict (F.kt_typeCall_dict_1 _) F.entry_dict_init (kt_code_dict_new _ ⟨rfl,rfl⟩) ?_;rintro obj γ ⟨rfl,rfl⟩;have Y:(s.heap.push {cls:= .type "dict",data:= .dict #[]}).DictOf knd s.heap.objs.size []:=am8 s.heap;have ι:(s.heap.push {cls:= .type "dict",data:= .dict #[]}).get? l=a' {cls:= .type "list",data:= .seq its c}:=gz _ hl;refine⟨Y.typeIs,F.args_dict_init_2 _ _,?_⟩;unfold Builtin.«dict.__init__»;refine gs ?_;unfold Builtin.Dict.selfAndRest;refine gs (wpAny_notOrdered_dict Y.typeIs ?_);show vu _ _ (pure (s.heap.objs.size,[WD l])) _ _ _;refine W4 ?_;show vu _ _ (ah3 "dict.__init__" s.heap.objs.size (.ref l) [] .none) _ _ _;unfold ah3;refine gs (aq9 (T:="list") ⟨_,ι,rfl⟩ ?_);rw[zt @C];refine gs (Ez ι F.list_keys_none @C π λh' tk hk=>?_);rw[zt (show(gn:V').isNone=true from rfl)];have hl2:=hk _ _ ι;have η:l < s.heap.objs.size:=i' hl;have ν:h'.DictOf knd s.heap.objs.size []:=xZ Y λo e=>hk _ _ e;have Z:s.heap.objs.size < h'.objs.size:=by obtain⟨o,_,_,ho,_⟩:=ν;exact i' ho
 have φ:∀i,i < its.size->tup i < s.heap.objs.size:=λi hi=>by
  obtain⟨δ,ξ⟩:∃δ,more[i]? =a' δ:=⟨_,cn @A⟩;obtain⟨_,_,_,e,_⟩:=ο i δ ξ;exact i' e
 refine gs (au6 ?_);refine gs (ab8 (items:=its) ⟨_,hl2,rfl,c,rfl⟩ ?_);have W:=aj0 (prog:=prog) (w:=w) (A:=A.in1.in1) π h'.objs.size l (W' (ad9 η Z)) its;refine W4 ⟨ai1 F.plain_dict_update_loop _,rN (knd:=knd) (A:=A.in1) W s.heap.objs.size ?_ more hn hsz tup (λi hi=>⟨?_,?_⟩) (λi v _ e=>α i v e) _ 0 _ _ _ rfl (XZ _) ⟨⟨_,v' _ rfl,rfl,rfl⟩,?_⟩ ?_ (λi δ hi=>?_) fun ρ ε θ ζ=>?_⟩
 ·intro hm;rcases WH.mp hm with e | hm
  ·exact hQ e (W' Z)
  ·exact hQ (gA.mp hm).symm (W' η)
 ·intro hm;exact hQ (gA.mp hm) (W' (ad9 (φ i hi) Z))
 ·exact W' (φ i hi)
 ·exact⟨_,gz _ hl2,rfl,c,rfl⟩
 ·exact ν.push _
 ·obtain⟨β,ob,m,e,x⟩:=ο i δ hi;exact⟨β,ob,m,gz _ (hk _ _ (gz _ e)),x⟩
 ·rw[merged_nil_of_nodup more nd] at θ;refine⟨rfl,h ρ ε θ λb o e=>ζ b o (λhm=>?_) ?_ (gz _ (hk _ _ (gz _ e)))⟩
  ·exact hQ (gA.mp hm) (W' (ad9 (i' e) Z))
  ·exact W' (i' e)
end
end PySem
namespace L2
open PySem PySem.Spec PyProof.Rows
noncomputable def Ph:ef V->Hp->VK->Prop:=λxs H Q=>∃(l:eO) (ps:ef (eO×Key×V)),xs=[.ref l]/\H l=a' (.lst (ps.map λq=>V.ref q.1))/\(∀q∈ps,H q.1=a' (.tup [kV q.2.1,q.2.2]))/\(ps.map λq=>q.2.1).Nodup/\
 ∀d,H d=gn->Q (.ref d) (upd H d (.dK (ps.map (·.2))))
section
variable {X:Cx}
theorem zW (hc:X.calm=true):oq X (.type "dict") Ph:=by
 intro pins s σ H xs us Q I r h;obtain⟨l,ps,rfl,hl,ht,nd,q⟩:=h;obtain⟨u,rfl,ν⟩:=vZ r;cases ν;obtain⟨z,its,c,Z,δ,el⟩:=I.lstM hl;rw[bx] at z δ
 have get:∀(i:Nat) q,ps[i]? =a' q->its[i]? =a' (.ref q.1)/\∃β v o n,s.heap.get? q.1=a' o/\o.cls= .type "tuple"/\o.data= .seq #[β,v] n/\(dO X.prog X.w).is q.2.1 β=true/\RelV q.2.2 v:=λi q Y=>by
  obtain⟨u,ρ,ξ⟩:=Vals.get (x:=V.ref q.1) Z (by rw[hH,Y];rfl);cases ξ;refine⟨ρ,?_⟩;have e:=ht q (dt Y);obtain⟨_,us,rt,ω⟩:=I.hok _ _ e;obtain⟨a,b,rfl,χ,τ⟩:=Vals.two rt;obtain⟨o,ho,ι,n,η⟩:=ω;exact⟨a,b,o,n,ho,ι,η,Hv χ,τ⟩
 obtain⟨vs,θ⟩:∃vs:ef (Key×xo),vs=(lx ps.length).map λi=>match ps[i]? with
  | some q=>(q.2.1,match s.heap.get? q.1 with | some o=>(match o.data with | .seq xs _=>xs.getD 1 .none | _=> .none) | none=> .none)
  | none=>(.inl 0,.none):=⟨_,rfl⟩
 have ζ:∀(i:Nat) q,ps[i]? =a' q->∃β v o n,vs[i]? =a' (q.2.1,v)/\s.heap.get? q.1=a' o/\o.cls= .type "tuple"/\o.data= .seq #[β,v] n/\(dO X.prog X.w).is q.2.1 β=true/\RelV q.2.2 v:=λi q Y=>by
  obtain⟨_,β,v,o,n,e,α,ε,k,Z⟩:=get i q Y;have hi:=(bA.mp Y).1;refine⟨β,v,o,n,?_,e,α,ε,k,Z⟩;rw[θ,hH,Xu hi];show a' (match ps[i]? with | some q=>_ | none=>_)=_;rw[Y];show a' (q.2.1,match s.heap.get? q.1 with | some o=>_ | none=>_)=_;rw[e];show a' (q.2.1,match o.data with | .seq xs _=>_ | _=>_)=_;rw[ε];rfl
 have γ:vs.length=ps.length:=by rw[θ,bx,W7]
 clear θ
 have keys:vs.map (·.1)=ps.map λq=>q.2.1:=by
  apply YM;intro i;rw[hH,hH];cases Y:ps[i]? with
  | none=>rw[X7 (by rw[γ];exact List.getElem?_eq_none_iff.mp Y)];rfl
  | some q=>obtain⟨_,v,_,_,e,_⟩:=ζ i q Y;rw[e];rfl
 have ψ:KV (ps.map (·.2)) vs:=by
  refine wK (by rw[bx,γ]) λi a b ha hb=>?_;rw[hH] at ha;obtain⟨q,Y,rfl⟩:=YR.mp ha;obtain⟨_,v,_,_,e,_,_,_,_,Z⟩:=ζ i q Y;rw[e] at hb;cases hb;exact⟨rfl,Z⟩
 refine yf (knd:=dO X.prog X.w) (its:=its.toArray) (c:=c) (more:=vs) (tup:=λi=>match ps[i]? with | some q=>q.1 | none=>0) (I.ok.hd hc) el (by rw[γ,δ];simp) (by simpa using(δ ▸ z)) (λi v e=>?_) (λi υ e=>?_) (by rw[keys];exact nd) λh' tk hd hk=>?_
 ·have hi:i < ps.length:=by rw[δ];have:=(Ym.mp e).1;simpa using this
  obtain⟨φ,Y⟩:∃φ,ps[i]? =a' φ:=⟨_,cn hi⟩;have α:=(get i φ Y).1;have e:its[i]? =a' v:=by simpa using e
  rw[α] at e;cases e;rw[Y]
 ·have hi:i < ps.length:=by rw[<-γ];exact(bA.mp e).1
  obtain⟨φ,Y⟩:∃φ,ps[i]? =a' φ:=⟨_,cn hi⟩;obtain⟨β,v,o,n,e1,α,ε,π,ο,_⟩:=ζ i φ Y;rw[e1] at e;cases e;rw[Y];exact⟨β,o,n,α,ε,π,ο⟩
 ·refine⟨.ref s.heap.objs.size,_,I.laid (t':=tk) hk (p' _) (show iy X.prog X.w _ h' _ (.dK (ps.map (·.2))) from⟨by rw[bx];exact z,WY.mpr λe=>hQ e.symm (W' I.big),vs,ψ,hd⟩),rfl,q _ (I.hok.fresh (p' _))⟩
end
section
variable {H:Hp} {Q:VK}
theorem JI {ps:ef (eO×Key×V)} (e:H l=a' (.lst (ps.map λq=>V.ref q.1))) (ht:∀q∈ps,H q.1=a' (.tup [kV q.2.1,q.2.2])) (nd:(ps.map λq=>q.2.1).Nodup) (h:∀d H2,H d=gn->Same H H2->H2 d=a' (.dK (ps.map (·.2)))->Q (.ref d) H2):Ph [.ref l] H Q:=⟨l,ps,rfl,e,ht,nd,kb h⟩
end
end L2
namespace PySem
end PySem
namespace L2
open PySem PySem.Spec PyProof.Rows
noncomputable def del (H:Hp) (p:eO):Hp:=λb=>if b=p then gn else H b
inductive PH (X:Cx) (Wo:XW):ef ExceptHandler->(Ends->XW)->Prop where
 | nil:PH X Wo [] (λ_=>Wo)
 | cons {G:eO} {g n:Wz} {i:Nat} {gp hp:Pos} {b₀:ZD} {suite:ef ZD} {ts:TS} {hs:ef ExceptHandler} {WR:Ends->XW} (cg:So X.K G) (hg:Gl X g) (hm:X.mg g=a' (.ref G)) (hi:X.N[i]? =a' n) (hk:X.env.scope.names.lookup n=a' .local)
   (hs':∀pins e,PSs (X.mark pins e) (b₀::suite) ts) (hdb:(g == ("__debug__":Wz))=false) (r:PH X Wo hs WR):PH X Wo (.ExceptHandler (a' (.Name g gp)) (a' n) (b₀::suite) hp::hs) (λD=>WTry X.K G i (WR D) ts D)
structure Ss (osc:ad6) (ON N:B') (n:Nat) (fx:C') (x0:Wz) (sc:ad6):Prop where
 kind:sc.kind= .function
 one:∃pre post,sc.names=pre++(x0,.cell)::post/\(∀y∈pre,y.2≠.cell)/\∀y∈post,y.2≠.cell
 its:sc.names.lookup x0=a' .cell
 own:∀y∈sc.names,y.2= .local->sc.names.lookup y.1=a' .local
 fre:∀y∈sc.names,y.2= .free->osc.names.lookup y.1=a' .cell∨osc.names.lookup y.1=a' .free
 len:N.length=n + fx.length
 frn:∀k,k < fx.length->∃x j,N[n + k]? =a' x/\fx[k]? =a' j/\ON[j]? =a' x/\sc.names.lookup x=a' .free
noncomputable def TH:ef V->Hp->VK->Prop:=λxs H Q=>∃i j,xs=[.int i,.int j]/\CDiv i j/\∀p,H p=gn->Q (.ref p) (upd H p (.tup [.int (i / j),.int (i % j)]))
theorem Ib:oq X (.builtin "divmod") TH:=E6
theorem Ts {i j:Int} (h1:0 < j) (h2:j < 1073741824) (h:∀p H2,H p=gn->Same H H2->H2 p=a' (.tup [.int (i / j),.int (i % j)])->Q (.ref p) H2):TH [.int i,.int j] H Q:=⟨i,j,rfl,⟨h1,h2⟩,λp Y=>h p _ Y (bo Y) ax⟩
theorem jF {b:eO} {xs zs:ef V} (e:H l=a' (.lst xs)) (Y:H b=a' (.lst zs)) (hl:xs.length + zs.length<=la) (n:l≠b) (h:∀H2,Upd H H2 l (.lst (xs++zs))->Q .non H2):Ed (.ref l) [.ref b] H Q:=by
 first
 | exact⟨l,b,xs,zs,rfl,rfl,e,Y,hl,h _ Upd.of⟩
 | exact⟨l,b,xs,zs,rfl,rfl,e,Y,hl,n,h _ Upd.of⟩
section
variable {X:Cx}
def Mq (Q:VK) (x:V) (H1:Hp):Prop:=∃n:Nat,x= .int (n:Int)/\n<=1000/\∀(D:eO) (Y:Hp),H1 D=gn->Same H1 Y->Y D=a' (.lst ((lx n).map λk:Nat=>V.int (k:Int)))->Q (.ref D) Y
noncomputable def SO (t:TE):TE:=fun σ H Q=>t σ H (Mq Q)
theorem Te {t:TE} (h:t σ H (Mq Q)):SO t σ H Q:=h
theorem IU:∀{xs:ef V} {us:F'},xs.length=us.length->(∀(i:Nat) x u,xs[i]? =a' x->us[i]? =a' u->RelV x u)->Vals xs us
 | [],[],_,_=> .nil
 | x::xs,u::us,hl,h=> .cons (h 0 x u rfl rfl) (IU (by simpa using hl) λi y v Y Z=>h (i + 1) y v (by simpa using Y) (by simpa using Z))
 | [],_::_,hl,_=>by simp at hl
 | _::_,[],hl,_=>by simp at hl
theorem BO {t:TE} (hc:X.calm=true) (g1:Gl X "list") (g2:Gl X "range") (n1:X.mg "list"=gn) (υ:X.mg "range"=gn) (he:PE X e t)
  (h1:zx [Expr.Call (.Name "range" nw) [e] [] oe] X.env=[(false,eval (.Call (.Name "range" nw) [e] [] oe) X.env)]:=by rfl) (h2:zx [e] X.env=[(false,eval e X.env)]:=by rfl):
  PE X (.Call (.Name "list" ol) [.Call (.Name "range" nw) [e] [] oe] [] ot) (SO t):=by
 intro pins s σ H Q I h;refine ap7 (oW I g1 n1 W2 (X0 (Q:=EP X pins σ Q) ?_ h1 rfl));rw[h1];show vu _ _ (spliced ((false,eval (.Call (.Name "range" nw) [e] [] oe) X.env)::backTo ot [])) _ _ s;refine af3 ?_;refine ap7 (oW I g2 υ boot_range (X0 (thn (aa he af h2 oe pins s σ H (λvs H1=>match vs with | [x]=>Mq Q x H1 | _=>False) I h) λus Y ⟨vs,H1,I1,δ,ol⟩=>?_) h2 rfl))
 match vs,δ,ol with
 | [x],δ,ol=>
 obtain⟨n,rfl,hn,q⟩:=ol;cases δ with
 | cons r τ=>
 cases τ;obtain⟨t',rfl⟩:=r;refine call_range_1 ?_;refine ag0 ?_;refine call_list_range (n:=n) (I1.ok.hd hc) (au4 ..) (small_one @A @A @A @A) (by rw[rangeSize_one];split<;>omega) @A λh' tk γ c hk χ β=>?_;have ε:∀b o,Y.heap.get? b=a' o->h'.get? b=a' o:=λb o e=>hk b o (gz _ e);have I2:Inv X pins σ H1 {Y with heap:=h',toks:=tk}:=I1.kept (t':=tk) ε;obtain⟨D,ζ⟩:∃D,D=(Y.heap.push {cls:= .type "range",data:= .fields #[.int 0 Y.toks,.int (n:Int) t',.int 1 (Y.toks + 1)]}).objs.size:=⟨_,rfl⟩;have η:Y.heap.objs.size<=D:=by rw[ζ,Zk];exact ae7 _
 have ν:H1 D=none:=I1.hok.fresh η;have Z:Y.heap.get? D=none:=YX η
 have φ:Vals ((lx n).map λk:Nat=>V.int (k:Int)) γ.toList:=by
  obtain⟨ι,θ⟩:=β;refine IU (by rw[bx,W7];simpa using ι.symm) λi x u π ρ=>?_;rw[hH,Xu] at π
  ·cases π;obtain⟨ξ,ψ⟩:=θ i u (by simpa using ρ);refine⟨ξ,?_⟩;rw[ψ];congr 1;omega
  ·have:=(bA.mp ρ).1;simp at this;omega
 have ω:Inv X pins σ (upd H1 D (.lst ((lx n).map λk:Nat=>V.int (k:Int)))) {Y with heap:=h',toks:=tk}:=I2.track (I1.fpN Z ν) ⟨by rw[bx,W7,ra];omega,γ.toList,c,φ,by rw[ζ];exact χ⟩;refine⟨.ref D,_,ω,by rw[ζ];rfl,q D _ ν (λb ob e=>?_) ax⟩;rw[aG (ao e ν)];exact e
end
section
variable {σ:St} {H:Hp} {D:Ends} {t u:TS}
theorem S8 (h:∀R:St->Hp->Prop,(∀σ H,u D σ H->R σ H)->t {D with nx:=R} σ H):tSeq t u D σ H:=h _ λ_ _ q=>q
theorem s_go {R X:St->Hp->Prop} (e:∀σ H,X σ H->R σ H) (h:X σ H):R σ H:=e _ _ h
end
end L2
set_option autoImplicit false
namespace M
theorem RI (a b:Nat):(a||| b) / 2=a / 2||| b / 2:=by
 apply k';intro i;simp[ZQ,Nat.testBit_or]
theorem Of (a b:Nat):(a&&&b) / 2=a / 2&&&b / 2:=by
 apply k';intro i;simp[ZQ,YI]
theorem vR (a b:Nat):(a^^^b) / 2=a / 2^^^b / 2:=by
 apply k';intro i;simp[ZQ,WN]
theorem or_sum (a:Nat):∀b:Nat,a||| b=(a^^^b) + (a&&&b):=by
 induction a using Yh with
 | ind a ih=>
   intro b;by_cases ha:a=0
   ·subst ha;simp
   ·have h:=ih (a / 2) @A (b / 2);have α:=ab1 (a||| b) 2;have Z:=ab1 (a^^^b) 2;have Y:=ab1 (a&&&b) 2;rw[RI] at α;rw[vR] at Z;rw[Of] at Y;have ψ:(a||| b) % 2=(a % 2||| b % 2):=by have:=@Nat.or_mod_two_pow a b 1;simpa using this
    have γ:(a^^^b) % 2=(a % 2^^^b % 2):=by have:=@af2 a b 1;simpa using this
    have β:(a&&&b) % 2=(a % 2&&&b % 2):=by have:=@Nat.and_mod_two_pow a b 1;simpa using this
    have c:(a % 2||| b % 2)=(a % 2^^^b % 2) + (a % 2&&&b % 2):=by
     rcases WQ a with h1 | h1<;>rcases WQ b with h2 | h2<;>rw[h1,h2]<;>decide
    omega
noncomputable def pb:Nat->Nat->X1
 | 0,_=>false
 | w + 1,m=>(m.testBit w)^^(pb w m)
theorem Pj (w a b:Nat):pb w (a^^^b)=(pb w a^^pb w b):=by
 induction w with
 | zero=>rfl
 | succ w ih=>
   simp only[pb,WN,ih];cases a.testBit w<;>cases b.testBit w<;>cases pb w a<;>cases pb w b<;>rfl
theorem vO (h j m:Nat):pb (h + j) m=(pb h m^^pb j (m>>>h)):=by
 induction j with
 | zero=>simp[pb]
 | succ j ih=>
   rw[Nat.add_succ];simp only[pb,ih,an2];cases m.testBit (h + j)<;>cases pb h m<;>cases pb j (m>>>h)<;>rfl
theorem J5 (h m:Nat):pb h (m % 2 ^ h)=pb h m:=by
 suffices ∀j,j<=h->pb j (m % 2 ^ h)=pb j m from this h (p' h)
 intro j
 induction j with
 | zero=>intro _;rfl
 | succ j ih=>
   intro Y;simp only[pb];rw[ih @A,Nat.testBit_mod_two_pow];simp[show j < h by omega]
theorem Rf (w j m:Nat) (hm:m < 2 ^ w):pb (w + j) m=pb w m:=by
 rw[vO,X9,Nat.div_eq_of_lt hm]
 have:∀j,pb j 0=false:=by intro j;induction j with
  | zero=>rfl
  | succ j ih=>simp[pb,ih]
 rw[this];simp
theorem pb_up {w m:Nat} (hm:m < 2 ^ w) (h:w<=G):pb G m=pb w m:=by
 obtain⟨j,rfl⟩:=ab6 h;exact Rf w j m hm
theorem pb_fold (w h m:Nat) (hw:h<=w) (hm:m < 2 ^ w) (h2:w<=2 * h):pb h ((m>>>h)^^^(m&&&(2 ^ h - 1)))=pb w m:=by
 rw[Zu,Pj,J5];obtain⟨j,rfl⟩:=ab6 hw;rw[vO]
 have Y:m>>>h < 2 ^ j:=by
  rw[X9];exact ap3 (by rw[<-aa9];exact hm)
 rw[pb_up Y (show j<=h by omega)];cases pb j (m>>>h)<;>cases pb h m<;>rfl
theorem fold_lt (w h m:Nat) (hm:m < 2 ^ w) (h2:w<=2 * h):(m>>>h)^^^(m&&&(2 ^ h - 1)) < 2 ^ h:=by
 apply ar5
 ·rw[X9];refine ap3 ?_;rw[<-aa9];exact eP hm (gB @C @A)
 ·rw[Zu];exact Nat.mod_lt _ (W3 h)
noncomputable def pl (w m:Nat):C':=(lx w).filter m.testBit
theorem pl_up {w m:Nat} (hm:m < 2 ^ w) (h:w<=G):pl G m=pl w m:=by
 obtain⟨j,rfl⟩:=ab6 h;unfold pl;rw[List.range_add,Yb]
 have:List.filter m.testBit (ab5 (λx=>w + x) (lx j))=[]:=by
  rw[ac1];intro a ha;obtain⟨k,_,rfl⟩:=ic.mp ha;rw[Wx (eP hm (gB @C (Z1 w k)))];simp
 rw[this,Y8]
noncomputable def xm (ps:C'):Nat:=ps.foldl (λa p=>a^^^2 ^ p) 0
theorem Qf (ps:C'):∀(a k:Nat),(ps.foldl (λa p=>a^^^2 ^ p) a).testBit k=(a.testBit k^^(ps.count k % 2 == 1)):=by
 induction ps with
 | nil=>intro a k;simp
 | cons p ps ih=>
   intro a k;rw[at5,ih,WN,W9,List.count_cons];by_cases h:p=k
   ·subst h;simp only[decide_true,Y2,am4];rcases WQ (ap9 p ps) with z | z
    ·have e:(ap9 p ps + 1) % 2=1:=by omega
     rw[z,e];cases a.testBit p<;>rfl
    ·have e:(ap9 p ps + 1) % 2=0:=by omega
     rw[z,e];cases a.testBit p<;>rfl
   ·have hb:(p == k)=false:=WY.mpr h;simp[hb,h]
theorem SB (ps:C') (k:Nat):(xm ps).testBit k=(ps.count k % 2 == 1):=by
 unfold xm;rw[Qf];simp
theorem tj (w k:Nat) (p:Nat->X1):((lx w).filter p).count k=if k < w/\p k=true then 1 else 0:=by
 have nd:((lx w).filter p).Nodup:=List.Pairwise.filter p List.nodup_range;by_cases h:k < w/\p k=true
 ·rw[zt h];have hm:k∈(lx w).filter p:=Y4.mpr ⟨Xd.mpr h.1,h.2⟩;exact List.Nodup.count nd |>.trans (by rw[zt hm])
 ·rw[oT h];refine List.count_eq_zero.mpr λhm=>h ?_;obtain⟨a,b⟩:=Y4.mp hm;exact⟨Xd.mp a,b⟩
theorem NJ (w m k:Nat):(pl w m).count k=if k < w/\m.testBit k=true then 1 else 0:=tj w k m.testBit
theorem xm_ext {w m:Nat} {ps:C'} (hm:m < 2 ^ w) (h:∀k,ps.count k % 2=(pl w m).count k % 2):xm ps=m:=by
 apply k';intro k;rw[SB,h,NJ];by_cases hk:k < w
 ·cases e:m.testBit k<;>simp[hk,e]
 ·rw[Wx (eP hm (gB @C (Nat.not_lt.mp hk)))];simp[hk]
noncomputable def Span:C'->Nat->Prop
 | [],x=>x=0
 | r::rs,x=>Span rs x∨Span rs (x^^^r)
theorem span_zero:∀rs:C',Span rs 0
 | []=>rfl
 | _::rs=> .inl (span_zero rs)
theorem xor_cancel (x r:Nat):x^^^r^^^r=x:=by rw[Xv,XU,XI]
theorem g6 (a b c:Nat):a^^^b^^^c=a^^^c^^^b:=by rw[Xv,Z8 b c,<-Xv]
theorem gv:∀(rs:C') (r x:Nat),Span (rs++[r]) x↔Span rs x∨Span rs (x^^^r)
 | [],r,x=>as2
 | q::rs,r,x=>by
   show Span (rs++[r]) x∨Span (rs++[r]) (x^^^q)↔(Span rs x∨Span rs (x^^^q))∨(Span rs (x^^^r)∨Span rs (x^^^r^^^q));rw[gv rs r x,gv rs r (x^^^q),g6 x q r];constructor
   ·rintro((h | h) | (h | h))
    ·exact .inl (.inl h)
    ·exact .inr (.inl h)
    ·exact .inl (.inr h)
    ·exact .inr (.inr h)
   ·rintro((h | h) | (h | h))
    ·exact .inl (.inl h)
    ·exact .inr (.inl h)
    ·exact .inl (.inr h)
    ·exact .inr (.inr h)
theorem span_xor:∀{rs:C'} {x y:Nat},Span rs x->Span rs y->Span rs (x^^^y)
 | [],x,y,h,k=>by
   have h:x=0:=h;have k:y=0:=k;subst h;subst k;exact rfl
 | r::rs,x,y,h,k=>by
   rcases h with h | h<;>rcases k with k | k
   ·exact .inl (span_xor h k)
   ·refine .inr ?_;have:=span_xor h k;rwa [<-Xv] at this
   ·refine .inr ?_;have:=span_xor h k;rwa [g6] at this
   ·refine .inl ?_;have:=span_xor h k;rwa [<-Xv,g6 x r y,xor_cancel] at this
noncomputable def sm:C'->Nat->Nat
 | [],_=>0
 | r::rs,p=>(if p.testBit 0 then r else 0)^^^sm rs (p / 2)
theorem sm_zero:∀rs:C',sm rs 0=0
 | []=>rfl
 | r::rs=>by show(if (0:Nat).testBit 0 then r else 0)^^^sm rs (0 / 2)=0;rw[show(0:Nat) / 2=0 from rfl,sm_zero rs];simp
theorem xor4 (a b c d:Nat):a^^^b^^^(c^^^d)=a^^^c^^^(b^^^d):=by
 rw[Xv,<-Xv b c d,Z8 b c,Xv c b d,<-Xv a c]
theorem sm_xor:∀(rs:C') (p q:Nat),sm rs (p^^^q)=sm rs p^^^sm rs q
 | [],p,q=>by show(0:Nat)=0^^^0;simp
 | r::rs,p,q=>by
   show(if (p^^^q).testBit 0 then r else 0)^^^sm rs ((p^^^q) / 2)=((if p.testBit 0 then r else 0)^^^sm rs (p / 2))^^^((if q.testBit 0 then r else 0)^^^sm rs (q / 2));rw[vR,sm_xor rs,WN,xor4];congr 1;cases p.testBit 0<;>cases q.testBit 0<;>simp
theorem sm_snoc:∀(rs:C') (r p:Nat),sm (rs++[r]) p=sm rs p^^^(if p.testBit rs.length then r else 0)
 | [],r,p=>by show(if p.testBit 0 then r else 0)^^^0=0^^^_;rw[XI,Yy];rfl
 | q::rs,r,p=>by
   show(if p.testBit 0 then q else 0)^^^sm (rs++[r]) (p / 2)=((if p.testBit 0 then q else 0)^^^sm rs (p / 2))^^^_;rw[sm_snoc rs r (p / 2),ZQ,Xv];rfl
theorem jV {rs:C'} {p:Nat} (h:p < 2 ^ rs.length):sm (rs++[r]) p=sm rs p:=by
 rw[sm_snoc,Wx h];simp
theorem JA (rs:C') (r:Nat):sm (rs++[r]) (2 ^ rs.length)=r:=by
 rw[sm_snoc]
 have e:sm rs (2 ^ rs.length)=0:=by
  have:∀(rs:C') (k:Nat),rs.length<=k->sm rs (2 ^ k)=0:=by
   intro rs
   induction rs with
   | nil=>intro k _;rfl
   | cons q rs ih=>
     intro k hk;have hk:rs.length + 1<=k:=hk;obtain⟨j,rfl⟩:∃j,k=j + 1:=⟨k - 1,@A⟩;show(if (2 ^ (j + 1)).testBit 0 then q else 0)^^^sm rs (2 ^ (j + 1) / 2)=0;have Z:(2 ^ (j + 1)) / 2=2 ^ j:=by rw[XX];omega
     have Y:(2 ^ (j + 1)).testBit 0=false:=by rw[W9];simp
     rw[Z,Y,ih j @A];simp
  exact this rs _ (p' _)
 rw[e,Xp];simp
theorem sm_span:∀(rs:C') (p:Nat),Span rs (sm rs p)
 | [],p=>rfl
 | r::rs,p=>by
   show Span rs _∨Span rs _;have ih:=sm_span rs (p / 2);cases h:p.testBit 0 with
   | true=>refine .inr ?_;rw[show sm (r::rs) p=r^^^sm rs (p / 2) from by show(if p.testBit 0 then r else 0)^^^_=_;rw[h];rfl,Z8 r,xor_cancel];exact ih
   | false=>refine .inl ?_;rw[show sm (r::rs) p=sm rs (p / 2) from by show(if p.testBit 0 then r else 0)^^^_=_;rw[h];simp];exact ih
theorem jh:∀{rs:C'} {x:Nat},Span rs x->∃p,p < 2 ^ rs.length/\sm rs p=x
 | [],x,h=>⟨0,Nat.one_pos,(show x=0 from h).symm⟩
 | r::rs,x,h=>by
   rcases h with h | h
   ·obtain⟨p,Y,e⟩:=jh h;refine⟨2 * p,by rw[Xa,XX];omega,?_⟩;show(if (2 * p).testBit 0 then r else 0)^^^sm rs (2 * p / 2)=x;rw[show 2 * p / 2=p by omega,show(2 * p).testBit 0=false by simp[ZW],e];simp
   ·obtain⟨p,Y,e⟩:=jh h;refine⟨2 * p + 1,by rw[Xa,XX];omega,?_⟩;show(if (2 * p + 1).testBit 0 then r else 0)^^^sm rs ((2 * p + 1) / 2)=x;rw[show(2 * p + 1) / 2=p by omega,show(2 * p + 1).testBit 0=true by simp[ZW],e];show r^^^(x^^^r)=x;rw[Z8,xor_cancel]
theorem xy {t:Nat} (h1:2 ^ t<=x) (h2:x < 2 ^ (t + 1)):x.log2=t:=by
 have Y:x≠0:=by have:=W3 t;omega
 have a:=(aj8 Y).mpr h2;have b:t<=x.log2:=(an5 Y).mpr h1;omega
theorem p6 (h:x≠0):x.testBit x.log2=true:=by
 have:=Nat.testBit_log2 h;exact this
theorem xor_lt_pow {t:Nat} (h1:x < 2 ^ t) (h2:y < 2 ^ t):x^^^y < 2 ^ t:=ar5 h1 h2
theorem vJ (hx:x≠0) (hy:y≠0) (h:x.log2=y.log2):x^^^y < 2 ^ x.log2:=by
 have h1:x^^^y < 2 ^ (x.log2 + 1):=xor_lt_pow XO (by rw[h];exact XO)
 have hb:(x^^^y).testBit x.log2=false:=by
  rw[WN,p6 hx,show y.testBit x.log2=true by rw[h];exact p6 hy];rfl
 apply Z2;intro i hi;rcases Nat.lt_or_eq_of_le hi with hi | hi
 ·exact Wx (eP h1 (gB @C hi))
 ·rw[<-hi];exact hb
theorem xor_less (hx:x≠0) (hy:y≠0) (h:x.log2=y.log2):x^^^y < x:=
 eP (vJ hx hy h) (Z0 hx)
theorem nu (hy:y≠0) (h:x < 2 ^ y.log2):(x^^^y).log2=y.log2:=by
 have h1:x^^^y < 2 ^ (y.log2 + 1):=xor_lt_pow (eP h (gB @C @A)) XO;have hb:(x^^^y).testBit y.log2=true:=by rw[WN,Wx h,p6 hy];rfl
 exact xy (Nat.ge_two_pow_of_testBit hb) h1
theorem EH (hx:x≠0) (hy:y≠0) (h:x.log2≠y.log2):(x^^^y).log2=x.log2∨(x^^^y).log2=y.log2:=by
 rcases Nat.lt_or_gt_of_ne h with h | h
 ·exact .inr (nu hy (eP XO (gB @C h)))
 ·refine .inl ?_;rw[Z8];exact nu hx (eP XO (gB @C h))
def Fre (rows:C') (i:Nat):Prop:=i < rows.length/\¬Span (rows.take i) (rows.getD i 0)
theorem Fre.snoc (r:Nat) (h:Fre rows i):Fre (rows++[r]) i:=by
 obtain⟨hi,hn⟩:=h;refine⟨by rw[eX];omega,?_⟩;rw[ZA (YA hi),bB,mu hi,<-bB];exact hn
theorem Fre.last (h:¬Span rows r):Fre (rows++[r]) rows.length:=by
 refine⟨by rw[eX];simp,?_⟩;rw[au1,bB,ov (p' _),Zq];exact h
def Frs (rows:C') (q:Nat):Prop:=∀i,q.testBit i=true->Fre rows i
theorem Frs.zero (rows:C'):Frs rows 0:=λi h=>by rw[Xf] at h;cases h
theorem Frs.xor {p:Nat} (Y:Frs rows p) (hq:Frs rows q):Frs rows (p^^^q):=λi h=>by
 rw[WN] at h;cases h1:p.testBit i with
 | true=>exact Y i h1
 | false=>rw[h1] at h;exact hq i (by simpa using h)
theorem Frs.snoc (r:Nat) (h:Frs rows q):Frs (rows++[r]) q:=λi hi=>(h i hi).snoc r
theorem Frs.more (h:Frs rows q) (Y:¬Span rows r):Frs (rows++[r]) (q^^^2 ^ rows.length):=(h.snoc r).xor λi hi=>by
 rw[W9] at hi;have e:rows.length=i:=by simpa using hi
 rw[<-e];exact Fre.last Y
structure Ech (es:A') (rows:C'):Prop where
 nz:∀e∈es,e.1≠0
 lt:∀e∈es,e.2 < 2 ^ rows.length
 sm:∀e∈es,sm rows e.2=e.1
 nd:(es.map λe=>e.1.log2).Nodup
 all:∀y,Span rows y->y≠0->∃e∈es,e.1.log2=y.log2
 sub:∀e∈es,Frs rows e.2
theorem Ech.nil:Ech [] []:=⟨λ_ h=>hQ h @E,λ_ h=>hQ h @E,λ_ h=>hQ h @E,.nil,λy h n=>hQ h n,λ_ h=>hQ h @E⟩
theorem Ech.span (I:Ech es rows) {e:Nat×Nat} (h:e∈es):Span rows e.1:=by
 rw[<-I.sm e h];exact sm_span _ _
theorem DP {p:Nat} (h:p < 2 ^ rows.length):sm (rows++[r]) (p^^^2 ^ rows.length)=sm rows p^^^r:=by
 rw[sm_xor,jV h,JA]
theorem EG {n p:Nat} (h:p < 2 ^ n):p^^^2 ^ n < 2 ^ (n + 1):=
 xor_lt_pow (eP h (gB @C @A)) (WV @C @A)
theorem Ech.null (I:Ech es rows) (hq:q < 2 ^ rows.length) (e:r^^^M.sm rows q=0):Span rows r/\Ech es (rows++[r]):=by
 have Y:r=M.sm rows q:=by
  have:=Wy (·^^^M.sm rows q) e;simpa[xor_cancel] using this
 have hs:Span rows r:=by rw[Y];exact sm_span _ _
 refine⟨hs,I.nz,λe h=>?_,λe h=>?_,I.nd,λy hy n=>?_,λe h=>(I.sub e h).snoc r⟩
 ·rw[eX];exact eP (I.lt e h) (gB @C @E)
 ·rw[jV (I.lt e h)];exact I.sm e h
 ·rcases(gv rows r y).mp hy with hy | hy
  ·exact I.all y hy n
  ·have:=span_xor hy hs;rw[xor_cancel] at this;exact I.all y this n
theorem Ech.more (I:Ech es rows) (hq:q < 2 ^ rows.length) (e:r^^^M.sm rows q≠0) (hn:∀e∈es,e.1.log2≠(r^^^M.sm rows q).log2) (hf:Frs rows q):
  ¬Span rows r/\Ech (es++[(r^^^M.sm rows q,q^^^2 ^ rows.length)]) (rows++[r]):=by
 have Z:¬Span rows r:=λhs=>by
  obtain⟨x,Y,ex⟩:=I.all _ (span_xor hs (sm_span rows q)) e;exact hn x Y ex
 refine⟨Z,λx h=>?_,λx h=>?_,λx h=>?_,?_,λy hy n=>?_,λx h=>(hB.mp h).elim (λh=>(I.sub x h).snoc r) λh=>by rw[gA] at h;subst h;exact hf.more Z⟩
 ·rcases hB.mp h with h | h
  ·exact I.nz x h
  ·rw[gA] at h;subst h;exact e
 ·rw[eX];rcases hB.mp h with h | h
  ·exact eP (I.lt x h) (gB @C @E)
  ·rw[gA] at h;subst h;exact EG hq
 ·rcases hB.mp h with h | h
  ·rw[jV (I.lt x h)];exact I.sm x h
  ·rw[gA] at h;subst h;show M.sm _ (q^^^_)=r^^^M.sm rows q;rw[DP hq,Z8]
 ·rw[ee,Xz];refine⟨I.nd,@E,λa ha b hb=>?_⟩;obtain⟨x,Y,rfl⟩:=ic.mp ha;rw[Yl,gA] at hb;subst hb;exact hn x Y
 ·rcases(gv rows r y).mp hy with hy | hy
  ·obtain⟨x,Y,ex⟩:=I.all y hy n;exact⟨x,qb _ Y,ex⟩
  ·
   have hz:=span_xor hy (sm_span rows q)
   have ey:y=(y^^^r^^^M.sm rows q)^^^(r^^^M.sm rows q):=by
    rw[xor4,XU,XI,xor_cancel]
   generalize ν:y^^^r^^^M.sm rows q=z at hz ey;by_cases α:z=0
   ·refine⟨_,lA _ (gA.mpr rfl),?_⟩;show(r^^^M.sm rows q).log2=y.log2;rw[ey,α,Yy]
   ·obtain⟨x,Y,ex⟩:=I.all z hz α;have ne:z.log2≠(r^^^M.sm rows q).log2:=by rw[<-ex];exact hn x Y
    rcases EH α e ne with h | h
    ·exact⟨x,qb _ Y,by rw[ex,ey,h]⟩
    ·refine⟨_,lA _ (gA.mpr rfl),?_⟩;show(r^^^M.sm rows q).log2=y.log2;rw[ey,h]
noncomputable def tt (p:Prop):Bool:=@decide p (Yx p)
theorem SG {p:Prop} (h:p):tt p=true:=@hE _ (Yx _) h
theorem OY {p:Prop} (h:¬p):tt p=false:=@f' _ (Yx _) h
noncomputable def fr (rows:C'):C':=(lx rows.length).filter λi=> !tt (Span (rows.take i) (rows.getD i 0))
theorem Ll (rows:C') (r:Nat):fr (rows++[r])=fr rows++(if tt (Span rows r)=true then [] else [rows.length]):=by
 unfold fr;rw[eX,WS,XR,Yb]
 have Y:(lx rows.length).filter (λi=> !tt (Span ((rows++[r]).take i) ((rows++[r]).getD i 0)))=(lx rows.length).filter (λi=> !tt (Span (rows.take i) (rows.getD i 0))):=by
  apply ar9;intro i hi;have hi:=Xd.mp hi;have a:(rows++[r]).take i=rows.take i:=ZA (YA hi)
  have b:(rows++[r]).getD i 0=rows.getD i 0:=by
   rw[bB,bB,mu hi]
  rw[a,b]
 rw[Y];congr 1;have a:(rows++[r]).take rows.length=rows:=au1
 have b:(rows++[r]).getD rows.length 0=r:=by
  rw[bB,ov (p' _),Zq];rfl
 rw[ZI,a,b];cases tt (Span rows r)<;>rfl
theorem fr_len (rows:C'):(fr rows).length<=rows.length:=by
 have:=Yn (λi=> !tt (Span (rows.take i) (rows.getD i 0))) (lx rows.length);rw[W7] at this;exact this
theorem fr_in (h:Span rows r):fr (rows++[r])=fr rows:=by rw[Ll,SG h];simp
theorem fr_out (h:¬Span rows r):fr (rows++[r])=fr rows++[rows.length]:=by rw[Ll,OY h];rfl
structure Nul (nms rows:C'):Prop where
 lt:∀x∈nms,x < 2 ^ rows.length
 nz:∀x∈nms,x≠0
 sm:∀x∈nms,sm rows x=0
 pw:nms.Pairwise λa b=>a.log2 < b.log2
 len:nms.length + (fr rows).length=rows.length
theorem Nul.nil:Nul [] []:=⟨λ_ h=>hQ h @E,λ_ h=>hQ h @E,λ_ h=>hQ h @E,.nil,rfl⟩
theorem Nul.keep (I:Nul as rows) (h:¬Span rows r):Nul as (rows++[r]) where
 lt:=λx Y=>by rw[eX];exact eP (I.lt x Y) (gB @C @E)
 nz:=I.nz
 sm:=λx Y=>by rw[jV (I.lt x Y)];exact I.sm x Y
 pw:=I.pw
 len:=by rw[fr_out h,eX,eX,<-I.len];simp;omega
theorem sG {n:Nat} (h:q < 2 ^ n):q^^^2 ^ n≠0/\(q^^^2 ^ n).log2=n:=by
 have e:(2 ^ n:Nat).log2=n:=xy (p' _) (WV @C @A);have θ:(2 ^ n:Nat)≠0:=by have:=W3 n;omega
 have hl:=nu (x:=q) θ (by rw[e];exact h);refine⟨λz=>?_,by rw[hl,e]⟩;have hb:(q^^^2 ^ n).testBit n=true:=by rw[WN,Wx h,Xp];rfl
 rw[z] at hb;simp at hb
theorem log2_under {n:Nat} (h0:q≠0) (h:q < 2 ^ n):q.log2 < n:=(aj8 h0).mpr h
theorem Nul.snoc (I:Nul as rows) (hq:q < 2 ^ rows.length) (e:r^^^M.sm rows q=0) (hs:Span rows r):Nul (as++[q^^^2 ^ rows.length]) (rows++[r]) where
 lt:=λx hx=>by
  rw[eX];rcases hB.mp hx with hx | hx
  ·exact eP (I.lt x hx) (gB @C @E)
  ·rw[gA] at hx;subst hx;exact EG hq
 nz:=λx hx=>by
  rcases hB.mp hx with hx | hx
  ·exact I.nz x hx
  ·rw[gA] at hx;subst hx;exact(sG hq).1
 sm:=λx hx=>by
  rcases hB.mp hx with hx | hx
  ·rw[jV (I.lt x hx)];exact I.sm x hx
  ·rw[gA] at hx;subst hx;rw[DP hq,Z8];exact e
 pw:=by
  rw[ao3];refine⟨I.pw,am0 _ _,λa ha b hb=>?_⟩;rw[gA] at hb;subst hb;rw[(sG hq).2];exact log2_under (I.nz a ha) (I.lt a ha)
 len:=by rw[fr_in hs,eX,eX,<-I.len];simp;omega
def Inj (ws:C'):Prop:=∀p,p < 2 ^ ws.length->sm ws p=0->p=0
theorem sm_lt {t:Nat}:∀{ws:C'} (p:Nat),(∀x∈ws,x < 2 ^ t)->sm ws p < 2 ^ t
 | [],p,_=>W3 t
 | w::ws,p,h=>by
   refine xor_lt_pow ?_ (sm_lt _ λx Y=>h x (W1 _ Y));split
   ·exact h w (W6 ..)
   ·exact W3 t
theorem Inj.nil:Inj []:=λp h _=>by
 have:p < 1:=h;omega
theorem vP:∀(n:Nat) (l:C'),l.Nodup->(∀x∈l,x < n)->l.length<=n
 | 0,l,_,h=>by
   cases l with
   | nil=>exact p' _
   | cons x r=>exact hQ (h x (W6 ..)) (YJ _)
 | n + 1,l,nd,h=>by
   have ih:=vP n (l.erase n) (nd.erase n) λx Y=>by
    have hm:=(nd.mem_erase_iff).mp Y;have:=h x hm.2;have:=hm.1;omega
   by_cases hm:n∈l
   ·rw[List.length_erase_of_mem hm] at ih;omega
   ·rw[List.erase_of_not_mem hm] at ih;omega
theorem span_lt {t:Nat}:∀{rs:C'} {x:Nat},(∀r∈rs,r < 2 ^ t)->Span rs x->x < 2 ^ t
 | [],x,_,h=>by have h:x=0:=h;rw[h];exact W3 t
 | r::rs,x,b,h=>by
   have ih:=λx=>span_lt (rs:=rs) (x:=x) λy Y=>b y (W1 _ Y);rcases h with h | h
   ·exact ih x h
   ·have:=xor_lt_pow (ih _ h) (b r (W6 ..));rwa [xor_cancel] at this
structure Sums (ks rows:C'):Prop where
 nd:ks.Nodup
 all:∀x,x∈ks↔Span rows x
theorem Sums.zero:Sums [0] []:=⟨@E,λx=>by rw[gA];exact as2⟩
theorem Qd {a b:Nat} (h:a^^^r=b^^^r):a=b:=by
 have:=Wy (·^^^r) h;simpa[xor_cancel] using this
theorem Sums.step (S:Sums ks rows) (h:¬Span rows r):Sums (ks++ks.map (·^^^r)) (rows++[r]):=by
 refine⟨?_,λx=>?_⟩
 ·rw[Xz];refine⟨S.nd,?_,λa ha b hb e=>?_⟩
  ·exact ac4 _ (λa b Y e=>Y (Qd e)) S.nd
  ·obtain⟨c,α,rfl⟩:=ic.mp hb;subst e;have:=span_xor ((S.all _).mp ha) ((S.all _).mp α);rw[g6,XU,Yy] at this;exact h this
 ·rw[hB,gv,S.all,ic];constructor
  ·rintro(h | ⟨y,Z,rfl⟩)
   ·exact .inl h
   ·refine .inr ?_;rw[xor_cancel];exact(S.all _).mp Z
  ·rintro(h | h)
   ·exact .inl h
   ·exact .inr ⟨x^^^r,(S.all _).mpr h,xor_cancel x r⟩
theorem Sums.keep (S:Sums ks rows) (h:Span rows r):Sums ks (rows++[r]):=
 ⟨S.nd,λx=>by
  rw[S.all,gv];refine⟨.inl,λq=>q.elim id λq=>?_⟩;have:=span_xor q h;rwa [xor_cancel] at this⟩
theorem Sums.few (S:Sums ks rows) {t:Nat} (h:∀r∈rows,r < 2 ^ t):ks.length<=2 ^ t:=vP _ _ S.nd λx Y=>span_lt h ((S.all x).mp Y)
end M
namespace Sx
open PySem L2
noncomputable abbrev nat (k:Nat):V:= .int (k:Int)
theorem Q6 {k:Nat} {A:X2} (r:Room k A):A.units + 100 < cLine:=by have:=r.un;omega
theorem iteB {c:X1} {A B:Prop} (h1:c=true->A) (h2:c=false->B):if c=true then A else B:=by
 cases c
 ·rw[oT hF];exact h2 rfl
 ·rw[zt rfl];exact h1 rfl
theorem Ap (h:Nat):(2:Int) ^ h=((2 ^ h:Nat):Int):=by norm_cast
theorem shl1 (k:Nat):(1:Int) * 2 ^ ((k:Int).toNat)=((2 ^ k:Nat):Int):=by rw[wq,ap1];norm_cast
theorem LY (a b:Nat):as8 (a:Int) (b:Int)=((a||| b:Nat):Int):=by
 have Z:Yj (a:Int)= -(a:Int) - 1:=by first | rfl | (unfold Yj;omega)
 have Y:Yj (b:Int)= -(b:Int) - 1:=by first | rfl | (unfold Yj;omega)
 unfold as8 X6;rw[f' (show ¬(0:Int)<=Yj (a:Int) by rw[Z];omega),f' (show ¬(0:Int)<=Yj (b:Int) by rw[Y];omega)];have n:∀x:Int,Yj (Yj x)=x:=λx=>by unfold Yj;omega
 simp only[n,wq]
theorem cI (a b:Nat):Xb (a:Int) (b:Int)=((a^^^b:Nat):Int):=by
 unfold Xb;rw[LY,dh];have:=M.or_sum a b;omega
theorem yh:WI ((0:Nat):Int)=0:=by decide
theorem nJ {m:Nat} (h:m≠0):WI (m:Int)=m.log2 + 1:=by
 unfold WI;have e:((m:Int) == 0)=false:=by rw[WY];omega
 rw[e,oT hF,af9]
theorem Gd (m i:Nat):X6 ((m:Int) / 2 ^ ((0 + (i:Int)).toNat)) 1=if m.testBit i then 1 else 0:=by
 have Z:(0 + (i:Int)).toNat=i:=by omega
 rw[Z,Ap];have Y:(m:Int) / ((2 ^ i:Nat):Int)=((m>>>i:Nat):Int):=by rw[X9];norm_cast
 rw[Y,show(1:Int)=((1:Nat):Int) from rfl,dh,af8]
 have:m.testBit i=(m>>>i % 2 == 1):=by
  rw[ah1,X9];rcases WQ (m / 2 ^ i) with h | h<;>rw[h]<;>rfl
 rw[this];rcases WQ (m>>>i) with h | h<;>rw[h]<;>rfl
structure En where
 a:eO
 m:Nat
 p:Nat
noncomputable def sL (es:ef En):ef (Key×V):=es.map λe=>(XT ((e.m.log2:Nat):Int),V.ref e.a)
theorem v8:∀(es:ef En) (z:Int),(∃e∈es,((e.m.log2:Nat):Int)=z/\valV (sL es) (XT z)=a' (.ref e.a))∨((∀e∈es,((e.m.log2:Nat):Int)≠z)/\valV (sL es) (XT z)=gn)
 | [],z=> .inr ⟨λ_ h=>hQ h @E,rfl⟩
 | e::es,z=>by
   by_cases h:((e.m.log2:Nat):Int)=z
   ·exact .inl ⟨e,W6 ..,h,mQ (by show(XT _:Key)=_;rw[h])⟩
   ·have Y:valV (sL (e::es)) (XT z)=valV (sL es) (XT z):=mR (by show ¬(XT _:Key)=_;intro q;exact h (at9 q));rcases v8 es z with ⟨x,hx,α,Z⟩ | ⟨h1,h2⟩
    ·exact .inl ⟨x,W1 _ hx,α,by rw[Y];exact Z⟩
    ·refine .inr ⟨λx hx=>?_,by rw[Y];exact h2⟩;rcases WH.mp hx with rfl | hx
     ·exact h
     ·exact h1 x hx
theorem FA {k:Key} (h:valV kvs k=gn):putK kvs k v=kvs++[(k,v)]:=by
 unfold putK;rw[rQ,h];rfl
structure StA (H:Hp) (C p d f n:eO) (rows:C'):Prop where
 ho:∃dx,H p=a' (.ins C dx [("by_top",.ref d),("free_places",.ref f),("null_masks",.ref n)])
 he:∃es:ef En,H d=a' (.dK (sL es))/\(∀e∈es,H e.a=a' (.tup [nat e.m,nat e.p]))/\M.Ech (es.map λe=>(e.m,e.p)) rows/\es.length=(M.fr rows).length
 hf:H f=a' (.lst ((M.fr rows).map nat))
 hn:∃nms,H n=a' (.lst (nms.map nat))/\M.Nul nms rows
 ne:f≠n
theorem StA.same {d f n:eO} (x:StA H C p d f n rows) (s:Same H H2):StA H2 C p d f n rows where
 ho:=let ⟨dx,h⟩:=x.ho;⟨dx,s _ _ h⟩
 he:=let ⟨es,h,t,g,l⟩:=x.he;⟨es,s _ _ h,λe he=>s _ _ (t e he),g,l⟩
 hf:=s _ _ x.hf
 hn:=let ⟨nms,h,g⟩:=x.hn;⟨nms,s _ _ h,g⟩
 ne:=x.ne
theorem StA.null {d f n:eO} (x:StA H C p d f n rows) (hq:q < 2 ^ rows.length) (e:r^^^M.sm rows q=0) (hn:M.Nul as rows) (hl:H n=a' (.lst (as.map nat)))
  (u:Upd H H2 n (.lst (as.map nat++[nat (q^^^2 ^ rows.length)]))):StA H2 C p d f n (rows++[r]):=by
 obtain⟨dx,ho⟩:=x.ho;obtain⟨es,hd,ht,g,l⟩:=x.he;obtain⟨hs,g2⟩:=g.null hq e;refine⟨⟨dx,u.oth _ _ (cF ho hl @E) ho⟩,⟨es,u.oth _ _ (cF hd hl @E) hd,λe he=>u.oth _ _ (cF (ht e he) hl @E) (ht e he),g2,by rw[M.fr_in hs];exact l⟩,?_,⟨as++[q^^^2 ^ rows.length],?_,hn.snoc hq e hs⟩,x.ne⟩
 ·rw[M.fr_in hs];exact u.oth _ _ x.ne x.hf
 ·rw[ee];exact u.at'
theorem StA.more {d f n:eO} (x:StA H C p d f n rows) (hq:q < 2 ^ rows.length) (e:r^^^M.sm rows q≠0) (hn:∀y,M.Span rows y->y≠0->y.log2≠(r^^^M.sm rows q).log2) (hf:M.Frs rows q)
  (u:Upd H H2 f (.lst ((M.fr rows).map nat++[nat rows.length]))) (s:Same H2 H') (ht:H' t=a' (.tup [nat (r^^^M.sm rows q),nat (q^^^2 ^ rows.length)])) {es:ef En} (hd:H d=a' (.dK (sL es))) (ξ:∀e∈es,H e.a=a' (.tup [nat e.m,nat e.p])) (g:M.Ech (es.map λe=>(e.m,e.p)) rows) (l:es.length=(M.fr rows).length)
  (Y:Upd H' H1 d (.dK (putK (sL es) (XT (((r^^^M.sm rows q).log2:Nat):Int)) (.ref t)))):StA H1 C p d f n (rows++[r]):=by
 obtain⟨dx,ho⟩:=x.ho;obtain⟨nms,ι,δ⟩:=x.hn;have ν:∀e∈es.map (λe=>(e.m,e.p)),e.1.log2≠(r^^^M.sm rows q).log2:=λe he=>hn e.1 (g.span he) (g.nz e he);obtain⟨hs,g2⟩:=g.more hq e ν hf;have Z:=s _ _ (u.oth _ _ (cF hd x.hf @E) hd)
 have γ:valV (sL es) (XT (((r^^^M.sm rows q).log2:Nat):Int))=none:=by
  rcases v8 es (((r^^^M.sm rows q).log2:Nat):Int) with ⟨z,hz,ε,_⟩ | ⟨_,h⟩
  ·exact hQ (Int.ofNat_inj.mp ε) (ν (z.m,z.p) (ic.mpr ⟨z,hz,rfl⟩))
  ·exact h
 have go:∀(b:eO) (ob:HO),H b=a' ob->b≠f->b≠d->H1 b=a' ob:=λb ob h h1 h2=>Y.oth _ _ h2 (s _ _ (u.oth _ _ h1 h));refine⟨⟨dx,go _ _ ho (cF ho x.hf @E) (cF ho hd @E)⟩,⟨es++[⟨t,r^^^M.sm rows q,q^^^2 ^ rows.length⟩],?_,λe he=>?_,?_,?_⟩,?_,⟨nms,go _ _ ι (WK x.ne) (cF ι hd @E),δ.keep hs⟩,x.ne⟩
 ·rw[Y.at',FA γ];unfold sL;rw[ee];rfl
 ·rcases hB.mp he with he | he
  ·exact go _ _ (ξ e he) (cF (ξ e he) x.hf @E) (cF (ξ e he) hd @E)
  ·rw[gA] at he;subst he;exact Y.oth _ _ (cF ht Z @E) ht
 ·rw[ee];exact g2
 ·rw[M.fr_out hs,eX,eX,l];rfl
 ·rw[M.fr_out hs,ee];exact Y.oth _ _ (λz=>by rw[z] at x;have:=x.hf;rw[hd] at this;cases this) (s _ _ u.at')
def SX (C:eO):Sp:=λvs H Q _=>∃p d f n rows x,vs=[.ref p,nat x]/\StA H C p d f n rows/\
 ∀t H2 q,H t=gn->Same H H2->H2 t=a' (.tup [nat (x^^^M.sm rows q),nat q])->q < 2 ^ rows.length->(x^^^M.sm rows q≠0->∀y,M.Span rows y->y≠0->y.log2≠(x^^^M.sm rows q).log2)->M.Frs rows q->Q (.ref t) H2
def SY (C:eO):Sp:=λvs H Q _=>∃p d f n rows r,vs=[.ref p,nat rows.length,nat r]/\StA H C p d f n rows/\rows.length<=1000/\
 ∀H2,(∀b o,b≠d->b≠f->b≠n->H b=a' o->H2 b=a' o)->StA H2 C p d f n (rows++[r])->Q .non H2
def Qt (C:eO):Sp:=λvs H Q _=>∃x dx r rows,vs=[.ref x,.ref r]/\H r=a' (.lst (rows.map nat))/\rows.length<=1000/\H x=a' (.ins C dx [])/\
 ∀H2 d f n,(∀b o,b≠x->H b=a' o->H2 b=a' o)->StA H2 C x d f n rows->Q .non H2
def QL:Sp:=λvs H Q _=>∃r rows,vs=[.ref r]/\H r=a' (.lst (rows.map nat))/\rows.length<=1000/\∀D H2,H D=gn->Same H H2->H2 D=a' (.lst ((M.fr rows).map nat))->Q (.ref D) H2
theorem ay {α:Type} {f:α->V} {ws:ef α} {x:V} (h:(ws.map f)[i]? =a' x):∃k,ws[i]? =a' k/\x=f k:=by
 rw[hH] at h;cases e:ws[i]? with
 | none=>rw[e] at h;cases h
 | some k=>rw[e] at h;exact⟨k,rfl,(WB h).symm⟩
theorem take_succ {α:Type} {ws:ef α} {w:α} (h:ws[i]? =a' w):ws.take (i + 1)=ws.take i++[w]:=by rw[ad2,h];rfl
theorem Fq {α:Type} {ws:ef α} {w:α} (h:ws[i]? =a' w):(ws.take i).length=i:=by
 rw[tu];have:=(bA.mp h).1;omega
theorem xU (ns:C'):(ns.map nat).all o6=true:=by simp[o6]
theorem JH {K:b'} {q:eO} (e:SqL K H p (as.map nat)) (Y:SqL K H q (as.map nat)) (h:Q (.bl (!neg)) H):rEqL K neg (.ref p) (.ref q) H Q:=by
 refine⟨p,q,_,_,rfl,rfl,e,Y,xU as,xU as,?_⟩;rw[Lq (xU as)];cases neg<;>exact h
theorem UN {A:X2} {k:Nat} (Y:Room k A):A.units < cLine:=by have:=Y.un;omega
def O5:Sp:=λvs H Q _=>∃c k,vs=[.int c,.int k]/\0<=k/\k < 100000/\∀r:Nat,r < 2147483587->Q (nat r) H
def Ft (K:b'):Sp:=λvs H Q _=>∃(a:eO) (ns:P'),vs=[.ref a]/\SqL K H a (ns.map V.int)/\ns.length<=63/\∀H',Q (.bl true) H'
theorem R3 {c k:Int} (h0:0<=k) (h1:k < 100000) (q:∀r:Nat,r < 2147483587->Q (nat r) H):O5 [.int c,.int k] H Q E:=⟨c,k,rfl,h0,h1,q⟩
structure Prs (H:Hp) (ws:C') (D:eO) (ps:ef (eO×Nat)):Prop where
 l:H D=a' (.lst (ps.map λq=>V.ref q.1))
 t:∀q∈ps,H q.1=a' (.tup [nat q.2,nat (M.sm ws q.2)])
 b:∀q∈ps,q.2 < 2 ^ ws.length
end Sx
namespace M
theorem tS:∀(l:C') (j:Nat),sm l (2 ^ j)=l.getD j 0
 | [],j=>by simp[sm]
 | r::l,0=>by
   show(if (2 ^ 0).testBit 0 then r else 0)^^^sm l (2 ^ 0 / 2)=r;rw[show(2 ^ 0:Nat) / 2=0 from rfl,sm_zero];simp
 | r::l,j + 1=>by
   show(if (2 ^ (j + 1)).testBit 0 then r else 0)^^^sm l (2 ^ (j + 1) / 2)=l.getD j 0;have Z:(2 ^ (j + 1)) / 2=2 ^ j:=by rw[XX];omega
   have Y:(2 ^ (j + 1)).testBit 0=false:=by rw[W9];simp
   rw[Z,Y,tS l j];simp
theorem mU {P:C'->Prop} (h0:P []) (hs:∀l w,P l->P (l++[w])):∀l,P l:=by
 intro l;rw[<-ao2 l];generalize l.reverse=k
 induction k with
 | nil=>exact h0
 | cons a k ih=>rw[ar7];exact hs _ _ ih
theorem pl_next (i m:Nat):pl (i + 1) m=pl i m++(if m.testBit i then [i] else []):=by
 unfold pl;rw[XR,Yb];congr 1;by_cases h:m.testBit i=true
 ·rw[zt h];simp[h]
 ·rw[oT h];simp[h]
theorem pl_le (i m:Nat):(pl i m).length<=i:=by
 have:=Yn m.testBit (lx i);rw[W7] at this;exact this
theorem pl_lt {w m n:Nat} (h:m < 2 ^ n):∀x∈pl w m,x < n:=by
 intro x Y;have hb:=(Y4.mp Y).2;refine at1 λhn=>?_;rw[Wx (eP h (gB @C hn))] at hb;cases hb
noncomputable def xs (rows ps:C'):Nat:=ps.foldl (λa k=>a^^^rows.getD k 0) 0
end M
namespace Sx
open PySem L2
theorem Rq (l:C'):l.map nat=(l.map λ(k:Nat)=>(k:Int)).map V.int:=by rw[WT];rfl
theorem E7 (m:Nat):m < 2 ^ WI (m:Int):=by
 by_cases h:m=0
 ·subst h;decide
 ·rw[nJ h];exact XO
theorem Bg {m w:Nat} (hm:m < 2 ^ w):WI (m:Int)<=w:=by
 by_cases h:m=0
 ·subst h;rw[yh];exact XZ _
 ·rw[nJ h];exact(aj8 h).mpr hm
def QH:Sp:=λvs H Q _=>∃m:Nat,vs=[nat m]/\m < 2 ^ 1000/\∀D H2,H D=gn->Same H H2->H2 D=a' (.lst ((M.pl 1000 m).map nat))->Q (.ref D) H2
theorem R8 {k:Nat} (h:k < rows.length):atI (rows.map nat) (k:Int)=a' (nat (rows.getD k 0)):=fQ (by rw[hH,cn h,bB,cn h];rfl)
end Sx
namespace M
noncomputable abbrev od (m:Nat):Bool:=pb 1000 m
theorem od_xor (a b:Nat):od (a^^^b)=(od a^^od b):=Pj 1000 a b
theorem and_xor (m a b:Nat):m&&&(a^^^b)=(m&&&a)^^^(m&&&b):=by
 apply k';intro i;simp only[YI,WN];cases m.testBit i<;>simp
theorem vX (m a b:Nat):(a^^^b)&&&m=(a&&&m)^^^(b&&&m):=by
 apply k';intro i;simp only[YI,WN];cases m.testBit i<;>simp
theorem Aq:∀w:Nat,pb w 0=false
 | 0=>rfl
 | w + 1=>by show((0:Nat).testBit w^^pb w 0)=false;rw[Aq w];simp
theorem pb_pow {w t:Nat} (h:t < w):pb w (2 ^ t)=true:=by
 rw[pb_up (w:=t + 1) (WV @C @A) h];show((2 ^ t).testBit t^^pb t (2 ^ t))=true
 have e:pb t (2 ^ t)=false:=by
  rw[<-J5,Nat.mod_self,Aq]
 rw[e,Xp];rfl
theorem Rb (t y:Nat):2 ^ t&&&y=if y.testBit t then 2 ^ t else 0:=by
 apply k';intro i;rw[YI,W9];by_cases h:t=i
 ·subst h;cases y.testBit t<;>simp
 ·cases y.testBit t<;>simp[h,W9]
theorem od_pow {t:Nat} (h:t < 1000) (y:Nat):od (2 ^ t&&&y)=y.testBit t:=by
 rw[Rb];cases y.testBit t with
 | true=>rw[zt rfl];exact pb_pow h
 | false=>rw[oT hF];exact Aq 1000
theorem od_zero:od 0=false:=Aq 1000
theorem Pm {k:Nat} (h:y < 2 ^ k):y.testBit k=false:=Wx h
theorem IZ {t k:Nat} (h:y≠0) (e:y.log2=t) (l:t < k):y < 2 ^ k:=eP (by rw[<-e];exact XO) (gB @C l)
structure Bar (rows:C') (b m:Nat):Prop where
 ev:∀y,Span rows y->od (m&&&y)=false
 bit:m.testBit b=true
 low:∀k,k < b->m.testBit k=false
 oth:∀k,k≠b->(∀y,Span rows y->y≠0->y.log2≠k)->m.testBit k=false
 lt:∀W,(∀r∈rows,r < 2 ^ W)->b < W->m < 2 ^ W
structure BarI (es:A') (ts:C') (b m:Nat):Prop where
 ev:∀e∈es,e.1.log2∈ts->od (m&&&e.1)=false
 bit:m.testBit b=true
 low:∀k,k < b->m.testBit k=false
 oth:∀k,k≠b->(∀e∈es,e.1.log2≠k)->m.testBit k=false
 lt:∀W,(∀e∈es,e.1 < 2 ^ W)->b < W->m < 2 ^ W
theorem BarI.zero (es:A') (b:Nat):BarI es [] b (2 ^ b) where
 ev:=λ_ _ h=>hQ h @E
 bit:=Xp
 low:=λk h=>by rw[W9];simp;omega
 oth:=λk h _=>by rw[W9];simp;omega
 lt:=λW _ h=>WV @C h
theorem N1 {m b:Nat} (h:∀k,k < b->m.testBit k=false) (hy:y < 2 ^ b):m&&&y=0:=by
 apply k';intro i;rw[YI,Xf];by_cases hi:i < b
 ·rw[h i hi];rfl
 ·rw[Wx (eP hy (gB @C @A))];simp
theorem Fn (nd:(es.map λe=>e.1.log2).Nodup) {e f:Nat×Nat} (he:e∈es) (hf:f∈es) (h:e.1.log2=f.1.log2):e=f:=by
 obtain⟨i,hi,rfl⟩:=Xe.mp he;obtain⟨j,Y,rfl⟩:=Xe.mp hf
 have β:∀i j (hi:i < es.length) (Y:j < es.length),i < j->es[i].1.log2≠es[j].1.log2:=λi j hi Y Z=>by
  have:=ak5.mp nd i j (by rw[bx];exact hi) (by rw[bx];exact Y) Z;rw[ae5,ae5] at this;exact this
 rcases ah0 i j with h1 | h1 | h1
 ·exact hQ h (β i j hi Y h1)
 ·subst h1;rfl
 ·exact hQ h.symm (β j i Y hi h1)
theorem BarI.keep {b m:Nat} (I:BarI es ts b m) {e:Nat×Nat} (nd:(es.map λe=>e.1.log2).Nodup) (he:e∈es) (h:od (m&&&e.1)=false):BarI es (ts++[e.1.log2]) b m where
 ev:=λf hf hm=>by
  rcases hB.mp hm with hm | hm
  ·exact I.ev f hf hm
  ·rw[gA] at hm;rw[Fn nd hf he hm];exact h
 bit:=I.bit
 low:=I.low
 oth:=I.oth
 lt:=I.lt
theorem BarI.flip {b m:Nat} (I:BarI es ts b m) {e:Nat×Nat} (nd:(es.map λe=>e.1.log2).Nodup) (nz:∀e∈es,e.1≠0) (he:e∈es) (h:od (m&&&e.1)=true) (up:∀t∈ts,t < e.1.log2) (hb:e.1.log2≠b) (Y:e.1.log2 < 1000):BarI es (ts++[e.1.log2]) b (m^^^2 ^ e.1.log2):=by
 have γ:b < e.1.log2:=by
  refine af7 (Zr λZ=>?_) (WK hb);rw[N1 I.low (IZ (nz e he) rfl Z),od_zero] at h;cases h
 have β:=nz e he;refine⟨λf hf hm=>?_,?_,λk hk=>?_,λk hk hn=>?_,λW ω α=>?_⟩
 ·rw[vX,od_xor,od_pow Y];rcases hB.mp hm with hm | hm
  ·rw[I.ev f hf hm,Pm (IZ (nz f hf) rfl (up _ hm))];rfl
  ·rw[gA] at hm;rw[Fn nd hf he hm,h,p6 β];rfl
 ·rw[WN,I.bit,W9];simp;omega
 ·rw[WN,I.low k hk,W9];simp;omega
 ·rw[WN,I.oth k hk hn,W9];have:=hn e he;simp;omega
 ·exact xor_lt_pow (I.lt W ω α) (Xl (Z0 β) (ω e he))
theorem Ech.even_all (g:Ech es rows) {m:Nat} (h:∀e∈es,od (m&&&e.1)=false):∀y,Span rows y->od (m&&&y)=false:=by
 intro y
 induction y using Yh with
 | ind y ih=>
   intro Y;by_cases χ:y=0
   ·subst χ;rw[Y7,od_zero]
   ·obtain⟨e,he,el⟩:=g.all y Y χ;have α:=g.nz e he;have hl:=xor_less χ α el.symm;have h1:=ih _ hl (span_xor Y (g.span he));have h2:=h e he;have Z:od (m&&&(y^^^e.1))=(od (m&&&y)^^od (m&&&e.1)):=by rw[and_xor,od_xor]
    rw[h1,h2] at Z;simpa using Z.symm
theorem BarI.done (g:Ech es rows) {b m:Nat} (I:BarI es ts b m) (all:∀e∈es,e.1.log2∈ts):Bar rows b m where
 ev:=g.even_all λe he=>I.ev e he (all e he)
 bit:=I.bit
 low:=I.low
 oth:=λk hk h=>I.oth k hk λe he=>h e.1 (g.span he) (g.nz e he)
 lt:=λW ω hb=>I.lt W (λe he=>span_lt ω (g.span he)) hb
theorem Bar.odd {b m:Nat} (B:Bar rows b m) (h0:x^^^sm rows q≠0) (hb:(x^^^sm rows q).log2=b) (Y:b < 1000):od (m&&&x)=true:=by
 have α:m&&&x=(m&&&(x^^^sm rows q))^^^(m&&&sm rows q):=by rw[<-and_xor,xor_cancel]
 rw[α,od_xor,B.ev _ (sm_span rows q)]
 have Z:m&&&(x^^^sm rows q)=2 ^ b:=by
  apply k';intro i;rw[YI,W9];rcases ah0 i b with h | h | h
  ·rw[B.low i h];simp;omega
  ·subst h;rw[B.bit,<-hb,p6 h0];simp
  ·rw[Pm (IZ h0 hb h)];simp;omega
 rw[Z];show(pb 1000 (2 ^ b)^^false)=true;rw[pb_pow Y];rfl
theorem Gr:∀rows:C',∃ks,Sums ks rows/\ks.length=2 ^ (fr rows).length:=by
 refine mU ⟨[0],Sums.zero,rfl⟩ λrows r ih=>?_;obtain⟨ks,S,e⟩:=ih;by_cases h:Span rows r
 ·exact⟨ks,S.keep h,by rw[fr_in h];exact e⟩
 ·refine⟨_,S.step h,?_⟩;rw[fr_out h,eX,eX,bx,e,WS,XX];omega
theorem rank_le {t:Nat} (h:∀r∈rows,r < 2 ^ t):(fr rows).length<=t:=by
 obtain⟨ks,S,e⟩:=Gr rows;have:=S.few h;rw[e] at this;exact(Nat.pow_le_pow_iff_right @C).mp this
theorem Rg (w m:Nat):pb (w + 1) m=(m.testBit 0^^pb w (m / 2)):=by
 rw[al0,vO 1 w m,X9];congr 1;show(m.testBit 0^^false)=_;simp
theorem sum_uniq {p:Nat} (δ:Frs rows p) (hq:Frs rows q) (e:sm rows p=sm rows q):p=q:=by
 refine ZM fun β=>?_;have hf:=δ.xor hq;have hz:sm rows (p^^^q)=0:=by rw[sm_xor,e,XU]
 have θ:p^^^q≠0:=λz=>β (by have:=Wy (·^^^q) z;simpa[xor_cancel] using this);generalize p^^^q=z at hf hz θ;obtain⟨hi,hn⟩:=hf z.log2 (p6 θ);apply hn;have γ:z=(z^^^2 ^ z.log2)^^^2 ^ z.log2:=(xor_cancel _ _).symm
 have α:z^^^2 ^ z.log2 < 2 ^ z.log2:=by
  have:=vJ θ (show 2 ^ z.log2≠0 from XY (W3 _)) (by rw[Nat.log2_two_pow]);exact this
 generalize η:z^^^2 ^ z.log2=y at γ α;generalize z.log2=t at γ α hi
 have Y:rows=rows.take t++(rows.getD t 0::rows.drop (t + 1)):=by
  rw[bB,cn hi];show rows=rows.take t++(rows[t]::rows.drop (t + 1));rw[<-List.drop_eq_getElem_cons hi,ac8]
 have ξ:∀(as bs:C') (s:Nat),s < 2 ^ as.length->sm (as++bs) s=sm as s:=by
  intro as bs
  induction as with
  | nil=>
    intro s hs;have ζ:s=0:=by have:s < 1:=hs;omega
    rw[ζ,sm_zero,sm_zero]
  | cons a as ih=>
    intro s hs;show(if s.testBit 0 then a else 0)^^^sm (as++bs) (s / 2)=(if s.testBit 0 then a else 0)^^^sm as (s / 2);rw[ih (s / 2) (by rw[Xa,XX] at hs;omega)]
 have Z:(rows.take t).length=t:=by rw[tu];omega
 have h1:sm rows y=sm (rows.take t) y:=by
  conv=>lhs;rw[Y]
  exact ξ _ _ y (by rw[Z];exact α)
 have h2:sm rows (2 ^ t)=rows.getD t 0:=by
  have ε:rows=(rows.take t++[rows.getD t 0])++rows.drop (t + 1):=by rw[aa0];exact Y
  conv=>lhs;rw[ε]
  rw[ξ _ _ (2 ^ t) (by rw[eX,Z,WS];exact WV @C @A)];have:=JA (rows.take t) (rows.getD t 0);rw[Z] at this;exact this
 rw[γ,sm_xor,h1,h2] at hz
 have:rows.getD t 0=sm (rows.take t) y:=by
  have:=Wy (sm (rows.take t) y^^^·) hz;simp only[<-Xv,XU,Yy,XI] at this;exact this
 rw[this];exact sm_span _ _
theorem pF {l:C'} {m:Nat} (h:m∈l):Span l m:=by
 obtain⟨j,Y,rfl⟩:=Xe.mp h;have:=sm_span l (2 ^ j);rw[tS,bB,cn Y] at this;exact this
end M
namespace Sx
open PySem L2
noncomputable def cell (ns:P') (k:Int):Int:=if k < ns.length then ns.getD k.toNat 0 else 41 * k + 3
def Fu (K:b'):Sp:=λvs H Q _=>∃(p:eO) (ns:P') (k:Int),vs=[.ref p,.int k]/\SqL K H p (ns.map V.int)/\0<=k/\Q (.int (cell ns k)) H
theorem LV {K:b'} {k:Int} (e:SqL K H p (ns.map V.int)) (h0:0<=k) (q:Q (.int (cell ns k)) H):Fu K [.ref p,.int k] H Q E:=⟨p,ns,k,rfl,e,h0,q⟩
def QF:Sp:=λvs H Q _=>∃m:Nat,vs=[nat m]/\m < 2 ^ 1000/\Q (.bl (!M.od m)) H
theorem Lp (n h:Nat):Xb ((n:Int) / 2 ^ ((h:Int).toNat)) (X6 (n:Int) (1 * 2 ^ ((h:Int).toNat) - 1))=(((n>>>h)^^^(n&&&(2 ^ h - 1)):Nat):Int):=by
 rw[wq,ap1,Ap];have Z:(n:Int) / ((2 ^ h:Nat):Int)=((n>>>h:Nat):Int):=by rw[X9];norm_cast
 have Y:((2 ^ h:Nat):Int) - 1=((2 ^ h - 1:Nat):Int):=by have:=W3 h;omega
 rw[Z,Y,dh,cI]
theorem K3 (wd:Nat):((wd:Int) + 1) / 2=(((wd + 1) / 2:Nat):Int):=by omega
theorem NS {n:Nat} (h:n < 2):decide (nat n=V.int 0)= !M.od n:=by
 have:n=0∨n=1:=by omega
 rcases this with rfl | rfl
 ·rw[M.od_zero];decide
 ·rw[show M.od 1=true from M.pb_pow (t:=0) @C];decide
def Vq (rows:C') (b:Nat):Prop:=∀y,M.Span rows y->y≠0->y.log2≠b
def S2 (C:eO):Sp:=λvs H Q _=>∃(p d f n:eO) (rows:C') (b:Nat),vs=[.ref p,nat b]/\StA H C p d f n rows/\b < 1000/\(∀r∈rows,r < 2 ^ 1000)/\(M.fr rows).length < 64/\Vq rows b/\
 ∀m H2,Same H H2->M.Bar rows b m->Q (nat m) H2
structure Acr (rows:C') (wd:Nat) (ms:C'):Prop where
 len:ms.length + (M.fr rows).length=wd
 inj:M.Inj ms
 lt:∀m∈ms,m < 2 ^ wd
 ev:∀m∈ms,∀y,M.Span rows y->M.od (m&&&y)=false
 all:∀z,z < 2 ^ wd->(∀y,M.Span rows y->M.od (z&&&y)=false)->M.Span ms z
def Ji:Sp:=λvs H Q _=>∃(r:eO) (rows:C') (x:Nat),vs=[.ref r,nat x]/\H r=a' (.lst (rows.map nat))/\rows.length<=1000/\(∀r∈rows,r < 2 ^ 1000)/\x < 2 ^ 1000/\(M.Span rows x∨(M.fr rows).length < 64)/\
 (∀(t D:eO) (H2:Hp) (q:Nat),Same H H2->H2 t=a' (.tup [.str "sum",.ref D])->H2 D=a' (.lst ((M.pl 1000 q).map nat))->q < 2 ^ rows.length->M.sm rows q=x->Q (.ref t) H2)/\
 (∀(t:eO) (H2:Hp) (m:Nat),Same H H2->H2 t=a' (.tup [.str "no",nat m])->¬M.Span rows x->(∀y,M.Span rows y->M.od (m&&&y)=false)->M.od (m&&&x)=true->(∀W,(∀r∈rows,r < 2 ^ W)->x < 2 ^ W->m < 2 ^ W)->Q (.ref t) H2)
theorem Oc (es:ef En):(sL es).map (·.1)=(es.map λe=>((e.m.log2:Nat):Int)).map Sum.inl:=by unfold sL;rw[WT,WT];rfl
theorem DI {es:ef En} (β:ns.Perm (es.map λe=>((e.m.log2:Nat):Int))) (hw:ns.Pairwise (·<=·)) (nd:(es.map λe=>e.m.log2).Nodup):
  ∃ts:C',ns=ts.map (λ(k:Nat)=>(k:Int))/\ts.Pairwise (· < ·)/\(∀t,t∈ts↔∃e∈es,e.m.log2=t):=by
 have hn:∀x∈ns,((x.toNat:Nat):Int)=x:=λx Z=>by
  obtain⟨e,_,rfl⟩:=ic.mp (β.mem_iff.mp Z);omega
 have γ:ns=(ns.map ae1).map (λ(k:Nat)=>(k:Int)):=by
  rw[WT];exact(ac5 ns).symm.trans (Ye λx Z=>(hn x Z).symm)
 have ζ:(ns.map ae1).Perm (es.map λe=>e.m.log2):=by
  have:=β.map ae1;rw[WT] at this;exact this
 refine⟨ns.map ae1,γ,?_,λt=>?_⟩
 ·have Y:(ns.map ae1).Nodup:=ζ.nodup_iff.mpr nd
  have α:(ns.map ae1).Pairwise (·<=·):=by
   rw[ZY];exact hw.imp λh=>by omega
  exact List.Pairwise.imp (R:=λa b=>a<=b/\a≠b) (λh=>by omega) (List.Pairwise.and α Y)
 ·rw[ζ.mem_iff,ic]
end Sx
namespace M
noncomputable def cm (a b:Nat):Nat:=if b=0 then 0 else (if b % 2=1 then a else 0)^^^2 * cm a (b / 2)
termination_by b
decreasing_by omega
theorem gu (a:Nat):cm a 0=0:=by unfold cm;rfl
theorem rP (a b:Nat):cm a b=(if b % 2=1 then a else 0)^^^2 * cm a (b / 2):=by
 by_cases h:b=0
 ·subst h;rw[gu];simp[gu]
 ·rw[cm.eq_def,oT h]
theorem EY (x y:Nat):2 * (x^^^y)=2 * x^^^2 * y:=by
 have h:∀z:Nat,2 * z=z <<< 1:=λz=>by rw[ai6,Z9]
 rw[h,h,h,Nat.shiftLeft_xor_distrib]
theorem FS (b c:Nat):(b^^^c) % 2=1↔¬(b % 2=1↔c % 2=1):=by
 have h:=@af2 b c 1;simp only[ah4] at h;rw[h];rcases WQ b with h1 | h1<;>rcases WQ c with h2 | h2<;>rw[h1,h2]<;>decide
theorem Vb:∀(n a b c:Nat),b + c<=n->cm a (b^^^c)=cm a b^^^cm a c:=by
 intro n
 induction n with
 | zero=>
   intro a b c h;have h1:b=0:=by omega
   have h2:c=0:=by omega
   subst h1;subst h2;simp[gu]
 | succ n ih=>
   intro a b c h;by_cases θ:b + c=0
   ·have h1:b=0:=by omega
    have h2:c=0:=by omega
    subst h1;subst h2;simp[gu]
   ·rw[rP a (b^^^c),rP a b,rP a c,vR,ih a (b / 2) (c / 2) @A,EY,xor4];congr 1;have hm:=FS b c;by_cases hb:b % 2=1<;>by_cases Y:c % 2=1<;>simp[hb,Y,hm]
theorem ye (a b c:Nat):cm a (b^^^c)=cm a b^^^cm a c:=Vb _ a b c (p' _)
theorem cm_radd (a b:Nat):∀c,cm (a^^^b) c=cm a c^^^cm b c:=by
 intro c
 induction c using Yh with
 | ind c ih=>
   by_cases h:c=0
   ·subst h;simp[gu]
   ·rw[rP (a^^^b) c,rP a c,rP b c,ih (c / 2) @A,EY,xor4];congr 1;by_cases Y:c % 2=1<;>simp[Y]
theorem PX (a b:Nat):cm a (2 * b)=2 * cm a b:=by
 rw[rP,show 2 * b / 2=b by omega,oT @A];simp
theorem LR (a:Nat):∀b,cm (2 * a) b=2 * cm a b:=by
 intro b
 induction b using Yh with
 | ind b ih=>
   by_cases h:b=0
   ·subst h;simp[gu]
   ·rw[rP (2 * a) b,rP a b,ih (b / 2) @A,EY];congr 1;by_cases hb:b % 2=1<;>simp[hb]
theorem Vc (a:Nat):cm a 1=a:=by rw[rP];simp[gu]
theorem Pk:∀b:Nat,cm 1 b=b:=by
 intro b
 induction b using Yh with
 | ind b ih=>
   by_cases h:b=0
   ·subst h;exact gu 1
   ·rw[rP,ih (b / 2) @A];apply k';intro i;rw[WN];cases i with
    | zero=>rcases WQ b with h1 | h1<;>simp[h1,ZW]
    | succ i=>
      have Y:(2 * (b / 2)).testBit (i + 1)=b.testBit (i + 1):=by rw[ZX,ZX];congr 1;omega
      rw[Y];rcases WQ b with h1 | h1<;>simp[h1,ZX]
theorem yd (a:Nat):∀k,cm a (2 ^ k)=a * 2 ^ k
 | 0=>by rw[ad7,Vc,ah6]
 | k + 1=>by rw[XX,Z9 (2 ^ k),PX,yd a k];exact aa6 2 a (2 ^ k)
theorem pow_cm (b:Nat):∀k,cm (2 ^ k) b=b * 2 ^ k
 | 0=>by rw[ad7,Pk,ah6]
 | k + 1=>by rw[XX,Z9 (2 ^ k),LR,pow_cm b k];exact aa6 2 b (2 ^ k)
theorem IJ {P:Nat->Prop} (h0:P 0) (hs:∀a k,P a->P (a^^^2 ^ k)):∀a,P a:=by
 intro a
 induction a using Yh with
 | ind a ih=>
   by_cases h:a=0
   ·subst h;exact h0
   ·have Y:(2 ^ a.log2:Nat)≠0:=by have:=W3 a.log2;omega
    have hl:a.log2=(2 ^ a.log2:Nat).log2:=(xy (p' _) (WV @C @A)).symm;have:=hs _ a.log2 (ih (a^^^2 ^ a.log2) (xor_less h Y hl));rwa [xor_cancel] at this
theorem zero_cm (b:Nat):cm 0 b=0:=by
 induction b using Yh with
 | ind b ih=>
   by_cases h:b=0
   ·subst h;exact gu 0
   ·rw[rP,ih (b / 2) @A];simp
theorem Bd (a:Nat):∀b,cm a b=cm b a:=
 IJ (by rw[gu,zero_cm]) λb k h=>by rw[ye,cm_radd,h,yd,pow_cm]
theorem F9 (a b:Nat):∀k,cm a (b * 2 ^ k)=cm a b * 2 ^ k
 | 0=>by rw[ad7,ah6,ah6]
 | k + 1=>by
   have e:b * 2 ^ (k + 1)=2 * (b * 2 ^ k):=by rw[XX,Z9 (2 ^ k) 2,aa6]
   rw[e,PX,F9 a b k,XX,Z9 (2 ^ k) 2,aa6]
theorem OB (a b:Nat):∀c,cm (cm a b) c=cm a (cm b c):=
 IJ (by rw[gu,gu,gu]) λc k h=>by rw[ye,ye,ye,h,yd,yd,F9]
theorem Vd {a m:Nat} (ha:a < 2 ^ (m + 1)):∀(n b:Nat),b < 2 ^ n->cm a b < 2 ^ (m + n)
 | 0,b,hb=>by have:b=0:=by have:b < 1:=hb;omega
              subst this;rw[gu];exact W3 _
 | n + 1,b,hb=>by
   rw[rP];have ih:=Vd ha n (b / 2) (by rw[XX] at hb;omega);refine xor_lt_pow ?_ (by rw[<-Nat.add_assoc,XX];omega);split
   ·exact eP ha (gB @C @A)
   ·exact W3 _
theorem log2_shift {a:Nat} (h:a≠0) (k:Nat):a * 2 ^ k≠0/\(a * 2 ^ k).log2=a.log2 + k:=by
 have Y:=W3 k;have h1:=Z0 h;have h2:=@XO a;refine⟨Nat.mul_ne_zero h @A,xy ?_ ?_⟩
 ·rw[aa9];exact ZF _ h1
 ·rw[show a.log2 + k + 1=(a.log2 + 1) + k by omega,aa9];exact Nat.mul_lt_mul_of_pos_right h2 Y
theorem Ve {a b:Nat} (ha:a≠0) (hb:b≠0):cm a b≠0/\(cm a b).log2=a.log2 + b.log2:=by
 have α:(2 ^ b.log2:Nat)≠0:=by have:=W3 b.log2;omega
 have hl:b.log2=(2 ^ b.log2:Nat).log2:=(xy (p' _) (WV @C @A)).symm;have hd:=vJ hb α hl;have e:cm a b=cm a (b^^^2 ^ b.log2)^^^a * 2 ^ b.log2:=by rw[<-yd,<-ye,xor_cancel]
 obtain⟨θ,hs⟩:=log2_shift ha b.log2;have Y:=Vd (a:=a) (m:=a.log2) XO b.log2 _ hd;rw[<-hs] at Y;have:=nu θ Y;rw[<-e,hs] at this;refine⟨λz=>?_,this⟩;rw[e] at z
 have Z:cm a (b^^^2 ^ b.log2)=a * 2 ^ b.log2:=by
  have:=Wy (·^^^a * 2 ^ b.log2) z;simpa[xor_cancel] using this
 rw[Z,hs] at Y;have:=Z0 θ;rw[hs] at this;omega
def Dv (d x:Nat):Prop:=∃q,cm q d=x
theorem Dv.zero (d:Nat):Dv d 0:=⟨0,zero_cm d⟩
theorem Dv.self (d:Nat):Dv d d:=⟨1,Pk d⟩
theorem Dv.xor (h:Dv d x) (k:Dv d y):Dv d (x^^^y):=let ⟨q,e⟩:=h;let ⟨r,f⟩:=k;⟨q^^^r,by rw[cm_radd,e,f]⟩
theorem Dv.mul (h:Dv d x) (y:Nat):Dv d (cm y x):=let ⟨q,e⟩:=h;⟨cm y q,by rw[OB,e]⟩
theorem Dv.small (h:Dv d x) (hd:d≠0) (hx:x < 2 ^ d.log2):x=0:=by
 obtain⟨q,rfl⟩:=h;by_cases Y:q=0
 ·subst Y;exact zero_cm d
 ·exfalso;have:=Ve Y hd;have h2:=Z0 this.1;rw[this.2] at h2;have Z:2 ^ d.log2<=2 ^ (q.log2 + d.log2):=gB @C @A;omega
structure Rm (d x r:Nat):Prop where
 lt:r < 2 ^ d.log2
 dv:Dv d (x^^^r)
theorem Rm.uniq (hd:d≠0) (a:Rm d x r) (b:Rm d x G):r=G:=by
 have h:=a.dv.xor b.dv;have e:x^^^r^^^(x^^^G)=r^^^G:=by rw[xor4,XU,Yy]
 rw[e] at h;have:=h.small hd (xor_lt_pow a.lt b.lt);have h2:=Wy (·^^^G) this;simpa[xor_cancel] using h2
theorem Rm.dvd (hd:d≠0) (a:Rm d x r):r=0↔Dv d x:=by
 constructor
 ·intro e;have:=a.dv;rw[e,XI] at this;exact this
 ·intro h;exact a.uniq hd ⟨W3 _,by rw[XI];exact h⟩
theorem div_turn (hd:d≠0) (hx:x≠0) (h:d.log2<=x.log2):x^^^d * 2 ^ (x.log2 - d.log2) < x:=by
 obtain⟨θ,hl⟩:=log2_shift hd (x.log2 - d.log2);exact xor_less hx θ (by rw[hl];omega)
theorem turn_dv (d x k:Nat):Dv d (x^^^(x^^^d * 2 ^ k)):=by
 rw[<-Xv,XU,Yy,<-pow_cm];exact⟨2 ^ k,rfl⟩
theorem oI (d:Nat) (hd:d≠0):∀x,∃r,Rm d x r:=by
 intro x
 induction x using Yh with
 | ind x ih=>
   by_cases h:x < 2 ^ d.log2
   ·exact⟨x,h,by rw[XU];exact Dv.zero d⟩
   ·have ψ:x≠0:=by have:=W3 d.log2;omega
    have hl:d.log2<=x.log2:=(an5 ψ).mpr @A;obtain⟨r,R⟩:=ih _ (div_turn hd ψ hl);refine⟨r,R.lt,?_⟩;have:=(turn_dv d x (x.log2 - d.log2)).xor R.dv;rwa [<-Xv,xor_cancel] at this
end M
namespace Sx
open PySem L2
noncomputable def dg (m:Nat):Int:=(WI (m:Int):Int) - 1
theorem Lz:dg 0= -1:=by unfold dg;rw[yh];rfl
theorem qF {m:Nat} (h:m≠0):dg m=(m.log2:Int):=by unfold dg;rw[nJ h];omega
theorem U5 (hd:d≠0):dg d<=dg r↔r≠0/\d.log2<=r.log2:=by
 by_cases h:r=0
 ·subst h;rw[Lz,qF hd];constructor
  ·intro z;omega
  ·rintro⟨z,_⟩;exact hQ rfl z
 ·rw[qF h,qF hd];constructor
  ·intro z;exact⟨h,@A⟩
  ·rintro⟨_,z⟩;omega
theorem Kr (hd:d≠0) (h:¬(r≠0/\d.log2<=r.log2)):r < 2 ^ d.log2:=by
 by_cases Y:r=0
 ·subst Y;exact W3 _
 ·exact eP XO (gB @C (by have:¬d.log2<=r.log2:=λz=>h ⟨Y,z⟩;omega))
theorem cshl {a p:Nat} (ha:a < 2 ^ 3000) (Y:p<=3000):CShl (a:Int) (p:Int):=⟨Zc _,by have:=Bg ha;omega⟩
theorem JB (a p:Nat):(a:Int) * 2 ^ ((p:Int).toNat)=((a * 2 ^ p:Nat):Int):=by rw[wq];push_cast;rfl
theorem RZ {p:Nat}:M.cm (q^^^2 ^ p) d^^^(r^^^d * 2 ^ p)=M.cm q d^^^r:=by
 rw[M.cm_radd,M.pow_cm,M.xor4,Z8 (d * 2 ^ p),<-Xv,M.xor_cancel]
theorem zY {a b z:Nat} (h:z < 2 ^ a) (Y:a<=b):z < 2 ^ b:=eP h (gB @C Y)
def O6:Sp:=λvs H Q _=>∃m:Nat,vs=[nat m]/\Q (.int (dg m)) H
def SZ (C:eO):Sp:=λvs H Q E=>∃x d:Nat,vs=[nat x,nat d]/\x < 2 ^ 1000/\d < 2 ^ 1000/\(d=0->E (.ref C) gn H)/\
 (d≠0->∀t H2 q r,H t=gn->Same H H2->H2 t=a' (.tup [nat q,nat r])->M.Rm d x r->M.cm q d^^^r=x->Q (.ref t) H2)
end Sx
namespace M
theorem Rm.next {n p:Nat} (hd:d≠0) (h:Rm d (2 ^ n) p):Rm d (2 ^ (n + 1)) (if (p * 2≠0/\(p * 2).log2=d.log2) then p * 2^^^d else p * 2):=by
 have ν:Dv d (2 ^ (n + 1)^^^p * 2):=by
  have:=h.dv.mul 2;rw[ye,Bd 2 (2 ^ n),Bd 2 p] at this;have α:cm (2 ^ n) 2=2 ^ (n + 1):=by have:=yd (2 ^ n) 1;rw[ah4] at this;rw[this,XX]
  have Z:cm p 2=p * 2:=by have:=yd p 1;rw[ah4] at this;exact this
  rwa [α,Z] at this
 by_cases Y:p * 2≠0/\(p * 2).log2=d.log2
 ·rw[zt Y];refine⟨by rw[<-Y.2];exact vJ Y.1 hd Y.2,?_⟩;rw[<-Xv];exact ν.xor (Dv.self d)
 ·rw[oT Y];refine⟨?_,ν⟩;have β:=h.lt;by_cases η:p * 2=0
  ·rw[η];exact W3 _
  ·have h1:p * 2 < 2 ^ (d.log2 + 1):=by rw[XX];omega
   have h2:=log2_under η h1;have γ:(p * 2).log2≠d.log2:=λz=>Y ⟨η,z⟩;exact eP XO (gB @C @A)
theorem R1 (hd:d % 2=1):cm q d % 2=q % 2:=by
 rw[rP,zt hd];have h:=@af2 q (2 * cm q (d / 2)) 1;simp only[ah4] at h;rw[h,show 2 * cm q (d / 2) % 2=0 by omega,XI]
theorem Dv.halve (hd:d % 2=1) (h:Dv d (2 * y)):Dv d y:=by
 obtain⟨q,e⟩:=h;have Y:q % 2=0:=by have:=R1 (q:=q) hd;rw[e] at this;omega
 refine⟨q / 2,?_⟩;have:cm (2 * (q / 2)) d=2 * y:=by rw[show 2 * (q / 2)=q by omega];exact e
 rw[LR] at this;omega
theorem Dv.halves {d y:Nat} (hd:d % 2=1):∀i,Dv d (y * 2 ^ i)->Dv d y
 | 0,h=>by rw[ad7,ah6] at h;exact h
 | i + 1,h=>by
   refine Dv.halves hd i (Dv.halve hd ?_);rw[XX,<-av9,Z9] at h;exact h
theorem BD (a b i:Nat):(a^^^b) * 2 ^ i=a * 2 ^ i^^^b * 2 ^ i:=by
 rw[<-pow_cm,<-pow_cm,<-pow_cm,ye]
structure Ord (d e:Nat):Prop where
 pos:1<=e
 one:Rm d (2 ^ e) 1
 least:∀j,1<=j->j < e->¬Rm d (2 ^ j) 1
 le:e<=2 ^ d.log2
theorem GE (hd:d % 2=1) (h1:1<=d.log2):∃e,1<=e/\e<=2 ^ d.log2/\Rm d (2 ^ e) 1:=by
 have Z:d≠0:=by omega
 have hf:∃f:Nat->Nat,∀i,Rm d (2 ^ i) (f i):=⟨λi=>an3 (oI d Z (2 ^ i)),λi=>ab4 (oI d Z (2 ^ i))⟩;obtain⟨f,hf⟩:=hf
 have β:∀i j,i < j->f i=f j->Rm d (2 ^ (j - i)) 1:=λi j Y e=>by
  have h:=(hf i).dv.xor (hf j).dv;rw[e,xor4,XU,XI] at h
  have δ:2 ^ i^^^2 ^ j=(1^^^2 ^ (j - i)) * 2 ^ i:=by
   rw[BD,ah5,<-aa9];congr 2;omega
  rw[δ] at h;have h2:=Dv.halves hd i h;refine⟨eP (by decide:1 < 2 ^ 1) (gB @C h1),?_⟩;rw[Z8];exact h2
 refine ZM λhn=>?_
 have nd:((lx (2 ^ d.log2 + 1)).map f).Nodup:=by
  refine ZY.mpr (ZG (λ{i j} hi α Y=>?_) ac0);intro e;have α:=Xd.mp α;exact hn ⟨j - i,by omega,by omega,β i j Y e⟩
 have:=vP (2 ^ d.log2) _ nd λx γ=>by
  obtain⟨i,_,rfl⟩:=ic.mp γ;exact(hf i).lt
 rw[bx,W7] at this;omega
theorem order_exists (hd:d % 2=1) (h1:1<=d.log2):∃e,Ord d e:=by
 obtain⟨e,a,b,c⟩:=GE hd h1
 have β:∀n e,e<=n->1<=e->e<=2 ^ d.log2->Rm d (2 ^ e) 1->∃e,Ord d e:=by
  intro n
  induction n with
  | zero=>intro e h1 h2;omega
  | succ n ih=>
    intro e hn a b c;by_cases Y:∃j,1<=j/\j < e/\Rm d (2 ^ j) 1
    ·obtain⟨j,α,δ,Z⟩:=Y;exact ih j @A α @A Z
    ·exact⟨e,a,c,λj h1 h2 γ=>Y ⟨j,h1,h2,γ⟩,b⟩
 exact β e e (p' _) a b c
end M
namespace Sx
open PySem L2
noncomputable def IT (k:Yo):Bool:=subB k "int"&& !subB k "bool"
noncomputable def oU (x:V) (w:Int):Bool:=match x with
 | .int i=>decide (0<=i)&&decide (((WI i:Nat):Int)<=w)
 | _=>false
def vM (K:b'):Sp:=λvs H Q _=>∃x k,vs=[x]/\nv K H x k/\Q (.bl (IT k)) H
def z7 (K:b'):Sp:=λvs H Q _=>∃x k w,vs=[x,.int w]/\nv K H x k/\Q (.bl (oU x w)) H
theorem dC {K:b'} {x:V} {k:Yo} (hk:nv K H x k) (q:Q (.bl (IT k)) H):vM K [x] H Q E:=⟨x,k,rfl,hk,q⟩
theorem gD {K:b'} {x:V} {k:Yo} {i:Int} (hk:nv K H x k) (q:Q (.bl (oU x i)) H):z7 K [x,.int i] H Q E:=⟨x,k,i,rfl,hk,q⟩
def MX:Sp:=λvs H Q _=>∃d:Nat,vs=[nat d]/\d % 2=1/\1<=d.log2/\d < 2 ^ 17/\∀H2 e,Same H H2->M.Ord d e->Q (nat e) H2
theorem F1 {c m:Int} (h:0 < m):∃k:Nat,c % m=(k:Int)/\(k:Int) < m:=by
 obtain⟨k,hk⟩:=YH (au5 c (Int.ne_of_gt h));exact⟨k,hk,by rw[<-hk];exact as0 c h⟩
theorem QT {k:Int} {xs:ef V} (e:H l=a' (.lst xs)) (h0: -(2 ^ 63)<=k) (h1:k < 2 ^ 63) (hz:xs.length * k.toNat<=la) (h:∀p H2,H p=gn->Same H H2->H2 p=a' (.lst (n' k.toNat xs).flatten)->Q (.ref p) H2):rRep (.ref l) (.int k) H Q:=
 ⟨l,k,xs,rfl,rfl,e,h0,h1,hz,kb h⟩
end Sx
namespace M
noncomputable def bn (b:X1):Nat:=if b then 1 else 0
noncomputable def pk (s:Nat->X1) (t:Nat):Nat->Nat
 | 0=>0
 | L + 1=>pk s t L^^^(if s (t + L) then 2 ^ L else 0)
theorem pk_lt (s:Nat->X1) (t:Nat):∀L,pk s t L < 2 ^ L
 | 0=>Nat.one_pos
 | L + 1=>by
   have ih:=pk_lt s t L;refine xor_lt_pow (eP ih (gB @C @A)) ?_;split
   ·exact WV @C @A
   ·exact W3 _
theorem pk_bit (s:Nat->X1) (t:Nat):∀L p,(pk s t L).testBit p=(decide (p < L)&&s (t + p))
 | 0,p=>by simp[pk]
 | L + 1,p=>by
   rw[pk,WN,pk_bit s t L p];rcases ah0 p L with h | h | h
   ·have e:(if s (t + L)=true then 2 ^ L else 0:Nat).testBit p=false:=by
     cases s (t + L)<;>simp[W9];omega
    rw[e];simp[h,show p < L + 1 by omega]
   ·subst h;cases hs:s (t + p)<;>simp[Xp]
   ·have e:(if s (t + L)=true then 2 ^ L else 0:Nat).testBit p=false:=by
     cases s (t + L)<;>simp[W9];omega
    rw[e];simp[show ¬p < L by omega,show ¬p < L + 1 by omega]
theorem pk_congr {s u:Nat->X1} {t v:Nat}:∀{L:Nat},(∀p,p < L->s (t + p)=u (v + p))->pk s t L=pk u v L
 | 0,_=>rfl
 | L + 1,h=>by rw[pk,pk,pk_congr λp Y=>h p @A,h L @A]
noncomputable def lf (G:Nat):Nat->(Nat->X1)->Nat->X1
 | 0,_,_=>false
 | L + 1,s,t=>lf G L s t^^(G.testBit L&&s (t + L))
theorem Ul (G:Nat) (s:Nat->X1) (t:Nat):∀L,L<=1000->od (G&&&pk s t L)=lf G L s t
 | 0,_=>by show od (G&&&0)=false;rw[Y7];exact od_zero
 | L + 1,h=>by
   rw[pk,and_xor,od_xor,Ul G s t L @A,lf];congr 1;cases s (t + L) with
   | true=>rw[zt rfl,Xy,od_pow @A];simp
   | false=>rw[oT hF,Y7,od_zero];simp
theorem lf_congr {G:Nat} {s u:Nat->X1} {t v:Nat}:∀{L:Nat},(∀p,p < L->s (t + p)=u (v + p))->lf G L s t=lf G L u v
 | 0,_=>rfl
 | L + 1,h=>by rw[lf,lf,lf_congr λp Y=>h p @A,h L @A]
noncomputable def tr (as:C') (x:Nat):Nat:=pk (λk=>od (as.getD k 0&&&x)) 0 as.length
theorem tr_bit (as:C') (x k:Nat):(tr as x).testBit k=(decide (k < as.length)&&od (as.getD k 0&&&x)):=by unfold tr;rw[pk_bit,XH]
theorem VD (as:C') (x:Nat):tr as x < 2 ^ as.length:=pk_lt _ _ _
theorem SJ (as:C') (x y:Nat):tr as (x^^^y)=tr as x^^^tr as y:=by
 apply k';intro i;rw[WN,tr_bit,tr_bit,tr_bit,and_xor,od_xor];cases decide (i < as.length)<;>simp
theorem IX (as:C'):tr as 0=0:=by
 apply k';intro i;rw[tr_bit,Y7,od_zero];simp
noncomputable def stt (as:C') (x:Nat):Nat->Nat
 | 0=>x
 | t + 1=>tr as (stt as x t)
noncomputable def ans (as:C') (o x t:Nat):Bool:=od (o&&&stt as x t)
theorem O3 (h:x < 2 ^ as.length):∀t,stt as x t < 2 ^ as.length
 | 0=>h
 | _ + 1=>VD _ _
theorem SH (as:C'):∀(rows:C') (F:Nat),tr as (sm rows F)=sm (rows.map (tr as)) F
 | [],F=>IX as
 | r::rows,F=>by
   show tr as ((if F.testBit 0 then r else 0)^^^sm rows (F / 2))=(if F.testBit 0 then tr as r else 0)^^^sm (rows.map (tr as)) (F / 2);rw[SJ,SH as rows];cases F.testBit 0<;>simp[IX]
theorem Uj (o F:Nat) (f:Nat->Nat) (t:Nat):∀j,od (o&&&sm ((lx j).map λp=>f (t + p)) F)=lf F j (λx=>od (o&&&f x)) t
 | 0=>by show od (o&&&0)=false;rw[Y7];exact od_zero
 | j + 1=>by
   rw[XR,ee,Yl,sm_snoc,and_xor,od_xor,Uj o F f t j,lf,bx,W7];congr 1;cases F.testBit j<;>simp[od_zero]
theorem has_rule (o:Nat) (hx:x < 2 ^ as.length):∃j F,j<=as.length/\F < 2 ^ j/\∀t,ans as o x (t + j)=lf F j (ans as o x) t:=by
 have Z:∀r∈(lx (as.length + 1)).map (stt as x),r < 2 ^ as.length:=λr γ=>by
  obtain⟨t,_,rfl⟩:=ic.mp γ;exact O3 hx t
 have ω:=rank_le Z;generalize ο:(lx (as.length + 1)).map (stt as x)=rows at ω;have β:rows.length=as.length + 1:=by rw[<-ο,bx,W7]
 have α:∃j,j < rows.length/\Span (rows.take j) (rows.getD j 0):=ZM λhn=>by
  have:fr rows=lx rows.length:=by
   unfold fr;apply ap4.mpr;intro i hi;rw[OY λz=>hn ⟨i,Xd.mp hi,z⟩];rfl
  rw[this,W7] at ω;omega
 obtain⟨j,δ,hs⟩:=α
 have ι:rows.take j=(lx j).map (stt as x):=by
  rw[<-ο,<-Za,at4,Yk @A]
 have Y:rows.getD j 0=stt as x j:=by
  rw[<-ο,bB,hH,Xu @A];rfl
 rw[ι,Y] at hs;obtain⟨F,ρ,e⟩:=jh hs;rw[bx,W7] at ρ;refine⟨j,F,@A,ρ,?_⟩
 have all:∀t,stt as x (t + j)=sm ((lx j).map λp=>stt as x (t + p)) F:=by
  intro t
  induction t with
  | zero=>rw[XH,<-e];congr 1;exact Ye λp _=>by rw[XH]
  | succ t ih=>
    rw[show t + 1 + j=(t + j) + 1 by omega,stt,ih,SH,WT];congr 1;exact Ye λp _=>by show tr as (stt as x (t + p))=stt as x (t + 1 + p);rw[show t + 1 + p=(t + p) + 1 by omega];rfl
 intro t;show od (o&&&stt as x (t + j))=_;rw[all t,Uj];rfl
noncomputable def lm (L G:Nat):C':=(lx (L - 1)).map (λp=>2 ^ (p + 1))++(if 0 < L then [G] else [])
theorem lm_len (L G:Nat):(lm L G).length=L:=by
 unfold lm;rw[eX,bx,W7];split<;>simp<;>omega
theorem UB {L p:Nat} (h:p + 1 < L):(lm L G).getD p 0=2 ^ (p + 1):=by
 unfold lm;rw[bB,mu (by rw[bx,W7];omega),hH,Xu @A];rfl
theorem Ru {L:Nat} (h:0 < L):(lm L G).getD (L - 1) 0=G:=by
 unfold lm;rw[zt h,bB,ov (by rw[bx,W7];exact p' _),bx,W7,Zq];rfl
theorem lm_keeps {L:Nat} (γ:L<=1000) (hx:x < 2 ^ L):∃u:Nat->X1,(∀t,ans (lm L G) (if 0 < L then 1 else 0) x t=u t)/\(∀t,u (t + L)=lf G L u t)/\∀t,t < L->u t=x.testBit t:=by
 refine⟨ans (lm L G) (if 0 < L then 1 else 0) x,λt=>rfl,?_⟩;by_cases θ:0 < L
 ·have ρ:∀t,ans (lm L G) (if 0 < L then 1 else 0) x t=(stt (lm L G) x t).testBit 0:=λt=>by
   unfold ans;rw[zt θ,show(1:Nat)=2 ^ 0 from rfl,od_pow @C]
  have β:∀t p,p + 1 < L->(stt (lm L G) x (t + 1)).testBit p=(stt (lm L G) x t).testBit (p + 1):=λt p Y=>by
   rw[stt,tr_bit,lm_len,UB Y,od_pow @A];simp[show p < L by omega]
  have bit:∀p t,p < L->(stt (lm L G) x t).testBit p=(stt (lm L G) x (t + p)).testBit 0:=by
   intro p
   induction p with
   | zero=>intro t _;rfl
   | succ p ih=>intro t Y;rw[<-β t p Y,ih (t + 1) @A];congr 2;omega
  have α:∀t,stt (lm L G) x t=pk (ans (lm L G) (if 0 < L then 1 else 0) x) t L:=λt=>by
   apply k';intro i;rw[pk_bit,ρ];by_cases hi:i < L
   ·rw[bit i t hi];simp[hi]
   ·have Z:stt (lm L G) x t < 2 ^ L:=by
     have:=O3 (as:=lm L G) (x:=x) (by rw[lm_len];exact hx) t;rwa [lm_len] at this
    rw[Wx (eP Z (gB @C @A))];simp[hi]
  constructor
  ·intro t;rw[ρ,show t + L=(t + 1) + (L - 1) by omega,<-bit (L - 1) (t + 1) @A,stt,tr_bit,lm_len,Ru θ,α t,Ul G _ t L γ];simp[show L - 1 < L by omega]
  ·intro t ht;rw[ρ];have:=bit t 0 ht;rw[XH] at this;exact this.symm
 ·have δ:L=0:=by omega
  subst δ;refine⟨λt=>?_,λt ht=>hQ ht (YJ _)⟩;unfold ans;rw[oT θ,Yz];exact od_zero
theorem lm_follows {s u:Nat->X1} {L M:Nat} (hs:∀t,t + L < M->s (t + L)=lf G L s t) (hu:∀t,u (t + L)=lf G L u t) (hb:∀t,t < L->t < M->u t=s t):∀t,t < M->u t=s t:=by
 intro t
 induction t using Yh with
 | ind t ih=>
   intro ht;by_cases h:t < L
   ·exact hb t h ht
   ·have e:t=(t - L) + L:=by omega
    rw[e,hu,hs (t - L) @A];exact lf_congr λp Y=>ih (t - L + p) @A @A
end M
namespace Sx
open PySem L2
noncomputable abbrev Pr3:=eO×Nat×Nat
variable {Go HC Is Ix nx:ef Pr3}
noncomputable def refs (ps:ef Pr3):ef V:=ps.map λq=>V.ref q.1
def Prt (H:Hp) (ps:ef Pr3):Prop:=∀q∈ps,H q.1=a' (.tup [nat q.2.1,nat q.2.2])
theorem Prt.same {ps:ef Pr3} (x:Prt H ps) (s:Same H H2):Prt H2 ps:=λq h=>s _ _ (x q h)
structure MaA (H:Hp) (C p:eO) (m:Nat) (nx os:ef Pr3):Prop where
 ho:∃dx tn to,H p=a' (.ins C dx [("inputs",nat m),("nexts",.ref tn),("outs",.ref to)])/\H tn=a' (.tup (refs nx))/\H to=a' (.tup (refs os))
 hn:Prt H nx
 hs:Prt H os
theorem MaA.same {m:Nat} {os:ef Pr3} (x:MaA H C p m nx os) (s:Same H H2):MaA H2 C p m nx os:=
 ⟨let ⟨dx,Y,to,a,b,c⟩:=x.ho;⟨dx,Y,to,s _ _ a,s _ _ b,s _ _ c⟩,x.hn.same s,x.hs.same s⟩
noncomputable abbrev bV (b:X1):V:=nat (M.bn b)
noncomputable def sq (bs:ef X1):Nat->Bool:=λi=>bs.getD i false
def Keeps (bs:ef X1) (L q:Nat):Prop:=∀i,i + L < bs.length->sq bs (i + L)=M.lf q L (sq bs) i
def Js:Sp:=λvs H Q _=>∃(r:eO) (ps:C'),vs=[.ref r]/\H r=a' (.lst (ps.map nat))/\(∀p∈ps,p < 1000)/\Q (nat (M.xm ps)) H
def M7:Sp:=λvs H Q _=>∃(r:eO) (bs:ef X1),vs=[.ref r,.int 1]/\H r=a' (.lst (bs.map bV))/\bs.length<=1000/\∀H2,Same H H2->Q (nat (M.pk (sq bs) 0 bs.length)) H2
def M6:Sp:=λvs H Q _=>∃(t:eO) (x y n m:Nat),vs=[.ref t,nat n,nat m]/\H t=a' (.tup [nat x,nat y])/\x < 2 ^ n/\y < 2 ^ m/\Q (.bl true) H
structure Tab (H:Hp) (n o:eO) (m:Nat) (nx os:ef Pr3):Prop where
 m6:m<=6
 n:H n=a' (.lst (refs nx))
 o:H o=a' (.lst (refs os))
 pn:Prt H nx
 po:Prt H os
 ln:nx.length<=120
 lo:os.length<=6
 bn:∀q∈nx++os,q.2.1 < 2 ^ nx.length/\q.2.2 < 2 ^ m
def QG:Sp:=λvs H Q _=>∃(n o:eO) (m:Nat) (nx os:ef Pr3),vs=[nat m,.ref n,.ref o]/\Tab H n o m nx os/\∀H2,Same H H2->Q .non H2
def QC (C:eO):Sp:=λvs H Q _=>∃(x dx n o:eO) (m:Nat) (nx os:ef Pr3),vs=[.ref x,nat m,.ref n,.ref o]/\H x=a' (.ins C dx [])/\Tab H n o m nx os/\∀H2,(∀b ob,b≠x->H b=a' ob->H2 b=a' ob)->MaA H2 C x m nx os->Q .non H2
def Jj (C:eO):Sp:=λvs H Q _=>∃(p:eO) (m:Nat) (nx os:ef Pr3),vs=[.ref p]/\MaA H C p m nx os/\Q (nat nx.length) H
def Jz:Sp:=λvs H Q _=>∃(r:eO) (bs:ef X1),vs=[.ref r]/\H r=a' (.lst (bs.map bV))/\bs.length<=40/\∀H2,Same H H2->Q .non H2
def Jm:Sp:=λvs H Q _=>∃(r:eO) (bs:ef X1) (L:Nat),vs=[.ref r,nat L]/\H r=a' (.lst (bs.map bV))/\bs.length<=40/\L<=bs.length/\
 (∀(t D:eO) (H2:Hp) (q:Nat),Same H H2->H2 t=a' (.tup [.str "sum",.ref D])->H2 D=a' (.lst ((M.pl 1000 q).map nat))->q < 2 ^ L->Keeps bs L q->Q (.ref t) H2)/\
 (∀(t:eO) (H2:Hp) (m:Nat),Same H H2->H2 t=a' (.tup [.str "no",nat m])->m < 2 ^ 1000->(∀q,q < 2 ^ L->¬Keeps bs L q)->Q (.ref t) H2)
structure Lfsr (nx os:ef Pr3) (L G:Nat):Prop where
 nx:nx.map (λq=>q.2.1)=M.lm L G
 os:∃t,os=[(t,(if 0 < L then 1 else 0),0)]
theorem bK {a n:Nat} (h:a < 2 ^ n):oU (nat a) (n:Int)=true:=by
 have:=Bg h;show(decide ((0:Int)<=(a:Int))&&decide (((WI (a:Int):Nat):Int)<=(n:Int)))=true;rw[hE @A,hE @A];rfl
theorem Qe {ps:C'} {k:Nat} (h:ps[i]? =a' k):M.xm (ps.take (i + 1))=M.xm (ps.take i)^^^2 ^ k:=by rw[take_succ h];unfold M.xm;rw[Ya];rfl
theorem DF {w m:Nat} (h:m < 2 ^ w):M.xm (M.pl w m)=m:=M.xm_ext h λk=>rfl
theorem Jf {bs:ef X1} {b:X1} (h:bs[i]? =a' b):sq bs i=b:=by unfold sq;rw[bB,h];rfl
theorem Ox (bs:ef X1) (x y:Nat) (h:x<=y) (hy:y<=bs.length):cutV (bs.map bV) (a' (x:Int)) (a' (y:Int))=((bs.drop x).take (y - x)).map bV:=by
 unfold cutV;rw[bx,HT.sIx_nat,HT.sIx_nat,Yk hy,Yk (show x<=bs.length by omega),<-ad8,<-Za]
theorem Ow (bs:ef X1) (x:Nat) (hx:x<=bs.length):cutV (bs.map bV) (a' (x:Int)) gn=(bs.drop x).map bV:=by
 unfold cutV;rw[bx,HT.sIx_nat,HT.sIx_none,Yk hx,<-ad8,<-Za];congr 1;exact XN (by rw[Zg];exact p' _)
theorem PU (bs:ef X1) (y:Nat) (hy:y<=bs.length):cutV (bs.map bV) gn (a' (y:Int))=(bs.take y).map bV:=by
 unfold cutV;rw[bx,HT.sIx_nat,HT.sIx_none,Yk hy,<-ad8,<-Za,ak7,au3]
theorem Qp (bs:ef X1) (x n i:Nat) (h:i < n):sq ((bs.drop x).take n) i=sq bs (x + i):=by
 unfold sq;rw[bB,bB,Xx h,Zb]
theorem Ef (bs:ef X1) (x n:Nat) (h:x + n<=bs.length):M.pk (sq ((bs.drop x).take n)) 0 ((bs.drop x).take n).length=M.pk (sq bs) x n:=by
 have e:((bs.drop x).take n).length=n:=by rw[tu,Zg];omega
 rw[e];exact M.pk_congr λp Y=>by rw[XH];exact Qp bs x n p Y
theorem DR (s:Nat->X1) (q c i:Nat) (hi:i < c):∀L,(M.sm ((lx L).map λp=>M.pk s p c) q).testBit i=M.lf q L s i
 | 0=>by show(0:Nat).testBit i=false;simp
 | L + 1=>by
   rw[XR,ee,Yl,M.sm_snoc,WN,DR s q c i hi L,M.lf,bx,W7];congr 1;cases q.testBit L with
   | true=>rw[zt rfl,M.pk_bit];simp[hi];congr 1;omega
   | false=>simp
theorem GF (s:Nat->X1) (q c L:Nat):M.sm ((lx L).map λp=>M.pk s p c) q < 2 ^ c:=M.sm_lt q λx Y=>by
 obtain⟨p,_,rfl⟩:=ic.mp Y;exact M.pk_lt _ _ _
theorem KR {bs:ef X1} {L:Nat} (Y:L<=bs.length):M.sm ((lx L).map λp=>M.pk (sq bs) p (bs.length - L)) q=M.pk (sq bs) L (bs.length - L)↔Keeps bs L q:=by
 constructor
 ·intro e i hi;have:=Wy (·.testBit i) e;simp only[DR (sq bs) q _ i (show i < bs.length - L by omega) L,M.pk_bit] at this;rw[this];simp[show i < bs.length - L by omega];congr 1;omega
 ·intro h;apply k';intro i;by_cases hi:i < bs.length - L
  ·rw[DR (sq bs) q _ i hi L,M.pk_bit,<-h i @A];simp[hi];congr 1;omega
  ·rw[Wx (eP (GF (sq bs) q _ L) (gB @C @A)),M.pk_bit];simp[hi]
def Fnd (H:Hp) (bs:ef X1) (t:eO) (L:Nat):Prop:=(∃D q,H t=a' (.tup [.str "sum",.ref D])/\H D=a' (.lst ((M.pl 1000 q).map nat))/\q < 2 ^ L/\Keeps bs L q)∨∃m,H t=a' (.tup [.str "no",nat m])/\m < 2 ^ 1000/\∀q,q < 2 ^ L->¬Keeps bs L q
theorem Fnd.same {bs:ef X1} {L:Nat} (h:Fnd H bs t L) (s:Same H H2):Fnd H2 bs t L:=h.imp (λ⟨D,q,a,b,c⟩=>⟨D,q,s _ _ a,s _ _ b,c⟩) λ⟨m,a,b⟩=>⟨m,s _ _ a,b⟩
theorem PZ {r:eO} {bs:ef X1} {L:Nat} (Z:H r=a' (.lst (bs.map bV))) (hl:bs.length<=40) (α:L<=bs.length) (h:∀t H2,Same H H2->Fnd H2 bs t L->Q (.ref t) H2):Jm [.ref r,nat L] H Q E:=
 ⟨r,bs,L,rfl,Z,hl,α,λt D H2 q s e β Y hk=>h t H2 s (.inl ⟨D,q,e,β,Y,hk⟩),λt H2 m s e hm hn=>h t H2 s (.inr ⟨m,e,hm,hn⟩)⟩
theorem KS (bs:ef X1) (q:Nat):Keeps bs bs.length q:=λi hi=>by omega
theorem UA {L:Nat} (α:G < 2 ^ L):∀x∈M.lm L G,x < 2 ^ L:=λx Y=>by
 unfold M.lm at Y;rcases hB.mp Y with h | h
 ·obtain⟨p,Z,rfl⟩:=ic.mp h;have:=Xd.mp Z;exact WV @C @A
 ·split at h
  ·rw[gA.mp h];exact α
  ·exact hQ h @E
theorem N4 {n o:eO} {L:Nat} (δ:L<=40) (γ:G < 2 ^ L) (hn:H n=a' (.lst (refs nx))) (ho:H o=a' (.lst [.ref t])) (ht:H t=a' (.tup [nat (if 0 < L then 1 else 0),nat 0])) (pn:Prt H nx) (Z:nx.map (λq=>q.2)=(M.lm L G).map λx=>(x,0)):
  Tab H n o 0 nx [(t,(if 0 < L then 1 else 0),0)]/\Lfsr nx [(t,(if 0 < L then 1 else 0),0)] L G:=by
 have α:nx.map (λq=>q.2.1)=M.lm L G:=by
  have:=Wy (ab5 (λ(q:Nat×Nat)=>q.1)) Z;rw[WT,WT] at this;exact this.trans (ac5 _)
 have len:nx.length=L:=by have:=Wy X3 α;rw[bx,M.lm_len] at this;exact this
 refine⟨⟨@C,hn,ho,pn,λq Y=>?_,@A,by show 1<=6;decide,λq Y=>?_⟩,α,t,rfl⟩
 ·rw[gA.mp Y];exact ht
 ·rw[len];rcases hB.mp Y with h | h
  ·have m:q.2∈nx.map (λq=>q.2):=ic.mpr ⟨q,h,rfl⟩;rw[Z] at m;obtain⟨x,β,e⟩:=ic.mp m;rw[<-e];exact⟨UA γ x β,by show 0 < 2 ^ 0;decide⟩
  ·rw[gA.mp h];refine⟨?_,by show 0 < 2 ^ 0;decide⟩;show(if 0 < L then 1 else 0) < 2 ^ L;split
   ·exact Nat.one_lt_two_pow @A
   ·exact W3 _
noncomputable abbrev ms (nx:ef Pr3):C':=nx.map λq=>q.2.1
end Sx
variable {Go HC Is Ix nx:ef Sx.Pr3}
namespace M
noncomputable def tr2 (ps:A') (x r:Nat):Nat:=pk (λk=>od ((ps.getD k (0,0)).1&&&x)^^od ((ps.getD k (0,0)).2&&&r)) 0 ps.length
theorem tr2_bit (ps:A') (x r k:Nat):(tr2 ps x r).testBit k=(decide (k < ps.length)&&(od ((ps.getD k (0,0)).1&&&x)^^od ((ps.getD k (0,0)).2&&&r))):=by unfold tr2;rw[pk_bit,XH]
theorem tr2_lt (ps:A') (x r:Nat):tr2 ps x r < 2 ^ ps.length:=pk_lt _ _ _
theorem tr2_snoc (ps:A') (p:Nat×Nat) (x r:Nat):tr2 (ps++[p]) x r=tr2 ps x r^^^(if (od (p.1&&&x)^^od (p.2&&&r)) then 2 ^ ps.length else 0):=by
 unfold tr2;rw[eX,WS,pk,XH];have Z:(ps++[p]).getD ps.length (0,0)=p:=by rw[bB,ov (p' _),Zq];rfl
 rw[Z]
 have Y:pk (λk=>od (((ps++[p]).getD k (0,0)).1&&&x)^^od (((ps++[p]).getD k (0,0)).2&&&r)) 0 ps.length=pk (λk=>od ((ps.getD k (0,0)).1&&&x)^^od ((ps.getD k (0,0)).2&&&r)) 0 ps.length:=pk_congr λk hk=>by
  rw[XH,bB,bB,mu hk]
 rw[Y]
theorem z6 (ps:A') (x y r s:Nat):tr2 ps (x^^^y) (r^^^s)=tr2 ps x r^^^tr2 ps y s:=by
 apply k';intro i;rw[WN,tr2_bit,tr2_bit,tr2_bit,and_xor,od_xor,and_xor,od_xor];cases decide (i < ps.length)<;>cases od ((ps.getD i (0,0)).1&&&x)<;>cases od ((ps.getD i (0,0)).1&&&y)<;>cases od ((ps.getD i (0,0)).2&&&r)<;>cases od ((ps.getD i (0,0)).2&&&s)<;>rfl
theorem mS (ps:A'):tr2 ps 0 0=0:=by
 apply k';intro i;rw[tr2_bit,Y7,Y7,od_zero];simp
noncomputable def wst (ps:A'):Nat->C'->Nat
 | x,[]=>x
 | x,r::rs=>wst ps (tr2 ps x r) rs
noncomputable def wan (ps os:A'):Nat->C'->C'
 | _,[]=>[]
 | x,r::rs=>tr2 os x r::wan ps os (tr2 ps x r) rs
theorem wst_snoc (ps:A') (r:Nat):∀(rs:C') (x:Nat),wst ps x (rs++[r])=tr2 ps (wst ps x rs) r
 | [],_=>rfl
 | _::rs,_=>wst_snoc ps r rs _
theorem wan_snoc (ps os:A') (r:Nat):∀(rs:C') (x:Nat),wan ps os x (rs++[r])=wan ps os x rs++[tr2 os (wst ps x rs) r]
 | [],_=>rfl
 | _::rs,_=>Wy (_::·) (wan_snoc ps os r rs _)
theorem wan_len (ps os:A'):∀(rs:C') (x:Nat),(wan ps os x rs).length=rs.length
 | [],_=>rfl
 | _::rs,_=>Wy (· + 1) (wan_len ps os rs _)
theorem wst_lt {ps:A'}:∀{rs:C'} {x:Nat},x < 2 ^ ps.length->wst ps x rs < 2 ^ ps.length
 | [],_,h=>h
 | r::rs,x,_=>wst_lt (rs:=rs) (tr2_lt ps x r)
theorem xm_snoc (qs:C') (k:Nat):xm (qs++[k])=xm qs^^^2 ^ k:=by unfold xm;rw[Ya];rfl
theorem rev_ind {α:Type} {P:ef α->Prop} (h0:P []) (h1:∀l x,P l->P (l++[x])) (l:ef α):P l:=by
 have:∀l:ef α,P l.reverse:=λl=>by
  induction l with
  | nil=>exact h0
  | cons x l ih=>rw[ar7];exact h1 _ _ ih
 have:=this l.reverse;rwa [ao2] at this
theorem Rn (s x r:Nat) (ps:A') (h:ps.length<=1000):od (s&&&tr2 ps x r)=(od (sm (ps.map (·.1)) s&&&x)^^od (sm (ps.map (·.2)) s&&&r)):=by
 induction ps using rev_ind with
 | h0=>show od (s&&&0)=(od (0&&&x)^^od (0&&&r));rw[Y7,Yz,Yz,od_zero];rfl
 | h1 ps p ih=>
   rw[eX,WS] at h;have ih:=ih @A;rw[tr2_snoc,and_xor,od_xor,ih,ee,ee,Yl,Yl,sm_snoc,sm_snoc,bx,bx];generalize hb:(od (p.1&&&x)^^od (p.2&&&r))=b
   have Z:od (s&&&(if b=true then 2 ^ ps.length else 0))=(b&&s.testBit ps.length):=by
    cases b with
    | true=>rw[zt rfl,Xy,od_pow @A];simp
    | false=>rw[oT hF,Y7,od_zero];simp
   rw[Z];have Y:∀u v t:Nat,od ((u^^^v)&&&t)=(od (u&&&t)^^od (v&&&t)):=λu v t=>by rw[Xy,and_xor,od_xor,Xy,Xy t v]
   rw[Y,Y];cases s.testBit ps.length with
   | true=>rw[zt rfl,zt rfl,<-hb];cases od (sm (ps.map (·.1)) s&&&x)<;>cases od (sm (ps.map (·.2)) s&&&r)<;>cases od (p.1&&&x)<;>cases od (p.2&&&r)<;>rfl
   | false=>rw[oT hF,oT hF,Yz,Yz,od_zero];cases b<;>simp
noncomputable def pulse (i T:Nat):C':=(lx T).map λt=>if t=0 then 2 ^ i else 0
theorem pulse_len (i T:Nat):(pulse i T).length=T:=by unfold pulse;rw[bx,W7]
theorem pulse_eq (i T:Nat):(2 ^ i::n' T 0).take T=pulse i T:=by
 unfold pulse;apply List.ext_getElem
 ·rw[tu,Xa,XD,bx,W7];omega
 ·intro j h1 h2;rw[ae5,List.getElem_range,ZZ];cases j with
  | zero=>rfl
  | succ j=>rw[List.getElem_cons_succ,List.getElem_replicate];rfl
theorem pulse_lt {m:Nat} (h:i < m) (T:Nat):∀r∈pulse i T,r < 2 ^ m:=λr Y=>by
 obtain⟨t,_,rfl⟩:=ic.mp Y;show(if t=0 then 2 ^ i else 0) < 2 ^ m;split
 ·exact WV @C h
 ·exact W3 _
theorem QM (s:Nat) (h:rows[i]? =a' r):sm (rows.take (i + 1)) s=sm (rows.take i) s^^^(if s.testBit i then r else 0):=by
 have hi:=(bA.mp h).1;have e:rows.take (i + 1)=rows.take i++[r]:=by rw[ar6,h];rfl
 rw[e,sm_snoc,tu,Yk @A]
theorem sm_places (rows:C') (s:Nat) (h:s < 2 ^ rows.length) (w:Nat) (hw:rows.length<=w):(pl w s).foldl (λa p=>a^^^rows.getD p 0) 0=sm rows s:=by
 rw[pl_up h hw]
 have β:∀k,k<=rows.length->(pl k s).foldl (λa p=>a^^^rows.getD p 0) 0=sm (rows.take k) s:=by
  intro k
  induction k with
  | zero=>intro _;rfl
  | succ k ih=>
    intro hk;have Y:rows[k]? =a' (rows.getD k 0):=by rw[bB,cn @A];rfl
    have Z:pl (k + 1) s=pl k s++(if s.testBit k then [k] else []):=by
     unfold pl;rw[XR,Yb];congr 1;cases hb:s.testBit k<;>simp[hb]
    rw[Z,Ya,ih @A,QM s Y];cases s.testBit k<;>simp
 have:=β rows.length (p' _);rwa [mc] at this
end M
namespace Sx
open PySem L2
structure MaG (m:Nat) (nx os:ef Pr3):Prop where
 m6:m<=6
 ln:nx.length<=120
 lo:os.length<=6
 bn:∀q∈nx++os,q.2.1 < 2 ^ nx.length/\q.2.2 < 2 ^ m
theorem Tab.g {n o:eO} {m:Nat} {os:ef Pr3} (t:Tab H n o m nx os):MaG m nx os:=⟨t.m6,t.ln,t.lo,t.bn⟩
theorem Tab.same {n o:eO} {m:Nat} {os:ef Pr3} (t:Tab H n o m nx os) (s:Same H H2):Tab H2 n o m nx os:=⟨t.m6,s.get t.n,s.get t.o,t.pn.same s,t.po.same s,t.ln,t.lo,t.bn⟩
noncomputable abbrev prs (nx:ef Pr3):A':=nx.map (·.2)
theorem aN (nx:ef Pr3):(prs nx).length=nx.length:=bx ..
theorem JZ {q:Pr3} (h:nx[i]? =a' q):(prs nx)[i]? =a' q.2:=by rw[hH,h];rfl
theorem hZ (nx:ef Pr3):(refs nx).length=nx.length:=bx ..
theorem iD {n:Nat} (h:x < 2 ^ n) (hn:n<=1000):x < 2 ^ 1000:=eP h (gB @C hn)
theorem MaG.b1 {m:Nat} {os:ef Pr3} (g:MaG m nx os):∀q∈nx,q.2.1 < 2 ^ 1000/\q.2.2 < 2 ^ 1000:=λq h=>have:=g.ln;have:=g.m6;have b:=g.bn q (qb _ h);⟨iD b.1 @A,iD b.2 @A⟩
theorem MaG.b2 {m:Nat} {os:ef Pr3} (g:MaG m nx os):∀q∈os,q.2.1 < 2 ^ 1000/\q.2.2 < 2 ^ 1000:=λq h=>have:=g.ln;have:=g.m6;have b:=g.bn q (lA _ h);⟨iD b.1 @A,iD b.2 @A⟩
theorem Q8 {u:HO} (h:Rd H a u) (s:Same H H2):Rd H2 a u:=h.imp (s _ _) λ⟨o,e⟩=>⟨o,s _ _ e⟩
theorem KN {K:b'} {x:V} {k:Yo} (h:nv K H x k) (s:Same H H2):nv K H2 x k:=by
 cases x with
 | ref p=>exact Or.imp (λ⟨a,xs,e⟩=>⟨a,xs,Same.seq s e⟩) (Or.imp (λ⟨a,xs,e⟩=>⟨a,xs,Same.tup s e⟩) λ⟨a,xs,e⟩=>⟨a,xs,Q8 e s⟩) h
 | _=>exact h
def Iy (K:b') (H:Hp) (xs:ef V):Prop:=∀x∈xs,∃k,nv K H x k
theorem Iy.nats (K:b') (H:Hp) (rs:C'):Iy K H (rs.map nat):=λx Y=>by
 obtain⟨r,_,rfl⟩:=ic.mp Y;exact⟨"int",rfl⟩
theorem vQ {x:V} {n:Nat} (h:oU x (n:Int)=true):∃a:Nat,x=nat a/\a < 2 ^ n:=by
 cases x with
 | int i=>
   have h:(decide ((0:Int)<=i)&&decide (((WI i:Nat):Int)<=(n:Int)))=true:=h;simp only[Xc,XA] at h;obtain⟨a,rfl⟩:=YH h.1;exact⟨a,rfl,eP (E7 a) (gB @C @A)⟩
 | _=>cases h
noncomputable def idxB (x:V) (m:Nat):Bool:=match x with
 | .int i=>decide (0<=i)&&decide (i < (m:Int))
 | _=>false
theorem IK (x y:X1):(!decide (V.bl (!x)=V.bl (!y)))=(x^^y):=by cases x<;>cases y<;>rfl
theorem MS {ps:ef Pr3} {q:Pr3} (x y:Nat) (h:ps[i]? =a' q):M.tr2 (prs (ps.take (i + 1))) x y=M.tr2 (prs (ps.take i)) x y^^^(if (M.od (q.2.1&&&x)^^M.od (q.2.2&&&y)) then 2 ^ i else 0):=by
 have hl:(prs (ps.take i)).length=i:=by rw[aN];exact Fq h
 rw[take_succ h];unfold prs at hl ⊢;rw[ee,Yl,M.tr2_snoc,hl]
theorem vT (xs:ef V) (y:Nat) (hy:y<=xs.length):cutV xs gn (a' (y:Int))=xs.take y:=by
 unfold cutV;rw[HT.sIx_nat,HT.sIx_none,Yk hy,ak7,au3]
theorem dZ {a b:Nat} (h:nat a=nat b):a=b:=by
 have h:(a:Int)=(b:Int):=V.int.inj h;omega
def Nf:Sp:=λvs H Q _=>∃(t:eO) (a b x r:Nat),vs=[.ref t,nat x,nat r]/\H t=a' (.tup [nat a,nat b])/\a < 2 ^ 1000/\b < 2 ^ 1000/\Q (.bl (M.od (a&&&x)^^M.od (b&&&r))) H
def Qy (K:b'):Sp:=λvs H Q _=>∃(r:eO) (ps:ef Pr3) (x y:Nat),vs=[.ref r,nat x,nat y]/\SqT K H r (refs ps)/\Prt H ps/\ps.length<=1000/\(∀q∈ps,q.2.1 < 2 ^ 1000/\q.2.2 < 2 ^ 1000)/\∀H2,Same H H2->Q (nat (M.tr2 (prs ps) x y)) H2
def S1 (K:b') (C B:eO):Sp:=λvs H Q E=>∃(p:eO) (m:Nat) (nx os:ef Pr3) (x:V) (k:Yo),vs=[.ref p,x]/\MaA H C p m nx os/\nv K H x k/\(oU x nx.length=true->Q .non H)/\(oU x nx.length=false->E (.ref B) gn H)
def Na (K:b') (C B:eO):Sp:=λvs H Q E=>∃(p:eO) (m:Nat) (nx os:ef Pr3) (x y:V) (kx Y:Yo),vs=[.ref p,x,y]/\MaA H C p m nx os/\MaG m nx os/\nv K H x kx/\nv K H y Y/\
 (∀a b:Nat,x=nat a->y=nat b->a < 2 ^ nx.length->b < 2 ^ m->∀(t:eO) (H2:Hp),Same H H2->H2 t=a' (.tup [nat (M.tr2 (prs os) a b),nat (M.tr2 (prs nx) a b)])->Q (.ref t) H2)/\
 (oU x nx.length=false∨oU y m=false->E (.ref B) gn H)
structure Vu (K:b') (H:Hp) (C p rr:eO) (m:Nat) (nx os:ef Pr3) (x:V) (xs:ef V):Prop where
 ma:MaA H C p m nx os
 g:MaG m nx os
 kx:∃k,nv K H x k
 sq:SqL K H rr xs
 ks:Iy K H xs
 ln:xs.length<=1000
def Good (m:Nat) (nx:ef Pr3) (x:V) (xs:ef V) (a:Nat) (rs:C'):Prop:=x=nat a/\xs=rs.map nat/\a < 2 ^ nx.length/\∀r∈rs,r < 2 ^ m
def Bad (m:Nat) (nx:ef Pr3) (x:V) (xs:ef V):Prop:=oU x nx.length=false∨∃y∈xs,oU y m=false
def MV (K:b') (C B:eO):Sp:=λvs H Q E=>∃(p Y:eO) (m:Nat) (nx os:ef Pr3) (x:V) (xs:ef V),vs=[.ref p,.ref Y,x]/\Vu K H C p Y m nx os x xs/\
 (∀a rs,Good m nx x xs a rs->∀(t D:eO) (H2:Hp),H D=gn->Same H H2->H2 t=a' (.tup [.ref D,nat (M.wst (prs nx) a rs)])->H2 D=a' (.lst ((M.wan (prs nx) (prs os) a rs).map nat))->Q (.ref t) H2)/\
 (Bad m nx x xs->∀H2,Same H H2->E (.ref B) gn H2)
def SU (K:b') (C B:eO):Sp:=λvs H Q E=>∃(p Y:eO) (m:Nat) (nx os:ef Pr3) (x:V) (xs:ef V),vs=[.ref p,.ref Y,x]/\Vu K H C p Y m nx os x xs/\
 (∀a rs,Good m nx x xs a rs->∀(D:eO) (H2:Hp),H D=gn->Same H H2->H2 D=a' (.lst ((M.wan (prs nx) (prs os) a rs).map nat))->Q (.ref D) H2)/\
 (Bad m nx x xs->∀H2,Same H H2->E (.ref B) gn H2)
def Jl (K:b') (C B:eO):Sp:=λvs H Q E=>∃(p:eO) (m:Nat) (nx os:ef Pr3) (x:V) (k:Yo) (T:Nat),vs=[.ref p,x,nat T]/\MaA H C p m nx os/\MaG m nx os/\nv K H x k/\T<=900/\
 (∀i,x=nat i->i < m->∀(D:eO) (H2:Hp),H D=gn->Same H H2->H2 D=a' (.lst ((M.wan (prs nx) (prs os) 0 (M.pulse i T)).map nat))->Q (.ref D) H2)/\
 (idxB x m=false->E (.ref B) gn H)
def Nb (K:b') (C B:eO):Sp:=λvs H Q E=>∃(p:eO) (m:Nat) (nx os:ef Pr3) (x:V) (k:Yo),vs=[.ref p,x]/\MaA H C p m nx os/\MaG m nx os/\nv K H x k/\
 (∀a,x=nat a->a < 2 ^ nx.length->∀(t:eO) (H2:Hp),Same H H2->H2 t=a' (.tup [nat (M.sm (nx.map λq=>q.2.1) a),nat (M.sm (nx.map λq=>q.2.2) a)])->Q (.ref t) H2)/\
 (oU x nx.length=false->E (.ref B) gn H)
def Qq (C:eO):Sp:=λvs H Q _=>∃(p:eO) (m:Nat) (nx os:ef Pr3),vs=[.ref p]/\MaA H C p m nx os/\MaG m nx os/\
 ∀(t η τ:eO) (H2:Hp),H η=gn->H τ=gn->η≠τ->Same H H2->H2 t=a' (.tup [nat m,.ref η,.ref τ])->H2 η=a' (.lst (refs nx))->H2 τ=a' (.lst (refs os))->Q (.ref t) H2
def GA (C:eO):Sp:=λvs H Q _=>∃(p:eO) (m:Nat) (nx os:ef Pr3),vs=[.ref p]/\MaA H C p m nx os/\Q (nat os.length) H
structure TabT (H:Hp) (t n o:eO) (m:Nat) (nx os:ef Pr3):Prop where
 t:H t=a' (.tup [nat m,.ref n,.ref o])
 tab:Tab H n o m nx os
theorem A8 (s:Same H H2) (f:H2 D=gn):H D=none:=by
 cases Y:H D with
 | none=>rfl
 | some v=>have:=s _ _ Y;rw[f] at this;cases this
noncomputable def Eh (q:Pr3):Dt:= .tup [.int q.2.1,.int q.2.2]
noncomputable def tabD (m:Nat) (nx os:ef Pr3):Dt:= .tup [.int m,.lst (nx.map Eh),.lst (os.map Eh)]
theorem rep2 {K:b'} {i j:Int} (e:H p=a' (.tup [.int i,.int j])):Rep K H (.ref p) (.tup [.int i,.int j]):=by
 refine .tup (SqT.of e) rfl λk x d Y hd=>?_
 match k,Y,hd with
 | 0,Y,hd=>cases Y;cases hd;exact .int _
 | 1,Y,hd=>cases Y;cases hd;exact .int _
 | k + 2,Y,_=>simp at Y
theorem BH {K:b'} {l:ef Pr3} (e:H D=a' (.lst (refs l))) (pt:Prt H l):Rep K H (.ref D) (.lst (l.map Eh)):=by
 refine .lst (SqL.of e) (by unfold refs;rw[bx,bx]) λk x d Z hd=>?_;obtain⟨q,Y,rfl⟩:=ay Z;rw[hH,Y] at hd;cases hd;exact rep2 (pt q (dt Y))
theorem JO {K:b'} {n o:eO} {m:Nat} {os:ef Pr3} (et:H t=a' (.tup [nat m,.ref n,.ref o])) (α:H n=a' (.lst (refs nx))) (Z:H o=a' (.lst (refs os))) (pn:Prt H nx) (po:Prt H os):Rep K H (.ref t) (tabD m nx os):=by
 refine .tup (SqT.of et) rfl λk x d Y hd=>?_
 match k,Y,hd with
 | 0,Y,hd=>cases Y;cases hd;exact .int _
 | 1,Y,hd=>cases Y;cases hd;exact BH α pn
 | 2,Y,hd=>cases Y;cases hd;exact BH Z po
 | k + 3,Y,_=>simp at Y
theorem x5:∀l:ef Pr3,zq (l.map Eh)<=1
 | []=>by simp[zq]
 | q::l=>by
   have:=x5 l;rw[Xk,zq];have e:depD (Eh q)=1:=by simp[Eh,depD,zq]
   omega
theorem RT (m:Nat) (nx os:ef Pr3):depD (tabD m nx os)<=100:=by
 have h1:=x5 nx;have h2:=x5 os;unfold tabD;simp only[depD,zq];omega
theorem DS (m k:Nat):(m:Int) / 2 ^ ((k:Int).toNat)=((m>>>k:Nat):Int):=by rw[wq,Ap,X9];norm_cast
theorem C1 (m i:Nat):X6 ((m:Int) / 2 ^ ((i:Int).toNat)) 1=if m.testBit i then 1 else 0:=by
 have:=Gd m i;rwa [show(0:Int) + (i:Int)=(i:Int) from YK _] at this
theorem K4 {m:Nat} {a:Nat} {rs:C'} (g:Good m nx (nat a) (rs.map nat) G as):a=G/\rs=as:=by
 obtain⟨h1,h2,_,_⟩:=g;refine⟨dZ h1,?_⟩
 have h:∀(l Z:C'),l.map nat=Z.map nat->l=Z:=by
  intro l
  induction l with
  | nil=>intro Z h;cases Z with | nil=>rfl | cons _ _=>cases h
  | cons x l ih=>
    intro Z h;cases Z with
    | nil=>cases h
    | cons y Z=>
      rw[Xk,Xk] at h;obtain⟨h1,h2⟩:=Zj h;rw[ih _ h2,dZ h1]
 exact h rs as h2
theorem Ro {m:Nat} {a:Nat} {rs:C'} (ha:a < 2 ^ nx.length) (α:∀r∈rs,r < 2 ^ m) (b:Bad m nx (nat a) (rs.map nat)):False:=by
 rcases b with h | ⟨y,Z,h⟩
 ·rw[bK ha] at h;cases h
 ·obtain⟨r,Y,rfl⟩:=ic.mp Z;rw[bK (α r Y)] at h;cases h
theorem vU (xs:ef V) (k:Nat) (h:k<=xs.length):cutV xs (a' (k:Int)) gn=xs.drop k:=by
 unfold cutV;rw[HT.sIx_nat,HT.sIx_none,Yk h];exact XN (by rw[Zg];exact p' _)
end Sx
namespace M
theorem Dc {w p P R:Nat} (Z:p < 2 ^ w) (Y:r < 2 ^ w):(p^^^(P <<< w))&&&(r^^^(R <<< w))=(p&&&r)^^^((P&&&R) <<< w):=by
 apply k';intro i;simp only[WN,YI,ad0];by_cases hi:w<=i
 ·rw[Wx (eP Z (gB @C hi)),Wx (eP Y (gB @C hi))];simp[hi]
 ·simp[hi]
theorem Uk {w:Nat} (h:x < 2 ^ (1000 - w)) (hw:w<=1000):od (x <<< w)=od x:=by
 show pb 1000 (x <<< w)=pb 1000 x;have e:=vO w (1000 - w) (x <<< w);rw[show w + (1000 - w)=1000 by omega] at e;rw[e,pb_up h @A]
 have Y:pb w (x <<< w)=false:=by
  rw[<-J5,ai6,Nat.mul_mod_left]
  have:∀n,pb n 0=false:=λn=>by
   induction n with
   | zero=>rfl
   | succ n ih=>rw[Rg,Nat.zero_div,ih];simp
  exact this w
 rw[Y,Nat.shiftLeft_shiftRight];simp
noncomputable def bkI (A:C') (s:Nat):Nat->Nat
 | 0=>s
 | i + 1=>sm A (bkI A s i)
end M
namespace Sx
open PySem L2
noncomputable abbrev nA (nx:ef Pr3):C':=nx.map λq=>q.2.1
noncomputable def low (c:Nat):Bool:=decide (97<=c)&&decide (c<=122)
noncomputable def fig (c:Nat):Bool:=decide (48<=c)&&decide (c<=57)
noncomputable def nm (l:C'):Bool:=match l with
 | []=>false
 | c::r=>decide ((c::r).length<=6)&&low c&&(c::r).all λc=>low c||fig c
noncomputable def Wa (x:V):Bool:=match x with
 | .str z=>nm z.cps.toList
 | _=>false
def Nm (z:Wz):Prop:=nm z.cps.toList=true
def Jr (K:b'):Sp:=λvs H Q _=>∃x k,vs=[x]/\nv K H x k/\(∀z,x= .str z->z.length<=1000)/\∀H',Same H H'->Q (.bl (Wa x)) H'
theorem memL (c:Nat):decide (c∈("abcdefghijklmnopqrstuvwxyz":Wz).cps.toList)=low c:=by
 have e:("abcdefghijklmnopqrstuvwxyz":Wz).cps.toList=an7 97 26:=by decide +kernel
 rw[e];unfold low;rw[Yv,Xc,XA,XA,XA,ag1];constructor
 ·rintro⟨i,h,rfl⟩;omega
 ·rintro⟨h1,h2⟩;exact⟨c - 97,@A,@A⟩
theorem memN (c:Nat):decide (c∈("abcdefghijklmnopqrstuvwxyz0123456789":Wz).cps.toList)=(low c||fig c):=by
 have e:("abcdefghijklmnopqrstuvwxyz0123456789":Wz).cps.toList=an7 97 26++an7 48 10:=by decide +kernel
 rw[e];unfold low fig;rw[Yv,Bool.or_eq_true,Xc,Xc,XA,XA,XA,XA,XA,hB,ag1,ag1];constructor
 ·rintro(⟨i,h,rfl⟩ | ⟨i,h,rfl⟩)
  ·left;omega
  ·right;omega
 ·rintro(⟨h1,h2⟩ | ⟨h1,h2⟩)
  ·exact .inl ⟨c - 97,by omega,by omega⟩
  ·exact .inr ⟨c - 48,by omega,by omega⟩
theorem pU (z:Wz):z.cps.toList.length=z.length:=by simp[Str.length]
theorem DK:z=""↔z.cps.toList=[]:=by
 constructor
 ·rintro rfl;decide +kernel
 ·intro h;cases z with | mk c=>cases c with | mk l=>have h:l=[]:=h;subst h;decide +kernel
theorem Nm.len (h:Nm z):z.length<=6:=by
 have h:nm z.cps.toList=true:=h;have l:=pU z;cases e:z.cps.toList with
 | nil=>rw[e] at l;rw[<-l];decide
 | cons c r=>
   rw[e] at h l;unfold nm at h;rw[Xc,Xc] at h;have:=WE h.1.1;omega
theorem c_nm {K:b'} (h:Nm z) (q:∀H',Same H H'->Q (.bl true) H'):Jr K [.str z] H Q E:=⟨_,"str",rfl,rfl,λY e=>by cases e;have:=h.len;omega,λH' s=>by show Q (.bl (nm z.cps.toList)) H';rw[show nm z.cps.toList=true from h];exact q H' s⟩
def Ni (K:b'):Sp:=λvs H Q _=>∃x C dx nm,vs=[.ref x,nm]/\Cls K C/\cJ K C "name"/\H x=a' (.ins C dx [])/\∀H2,Upd H H2 x (.ins C dx [("name",nm)])->Q .non H2
def Nh (C:eO):Sp:=λvs H Q _=>∃x dx nm k,vs=[.ref x,nm,k]/\H x=a' (.ins C dx [])/\∀H2,Upd H H2 x (.ins C dx [("name",nm),("number",k)])->Q .non H2
def Ng (C:eO):Sp:=λvs H Q _=>∃x dx nm w k,vs=[.ref x,nm,w,k]/\H x=a' (.ins C dx [])/\∀H2,Upd H H2 x (.ins C dx [("name",nm),("wire",w),("number",k)])->Q .non H2
def QK (C:eO):Sp:=λvs H Q _=>∃p dx nm k Y row st,vs=[.ref p,Y,.int row,.int st]/\H p=a' (.ins C dx [("name",nm),("number",.int k)])/\0<=k/\Q (.int (X6 (row / 2 ^ k.toNat) 1)) H
def QI (C:eO):Sp:=λvs H Q _=>∃p dx nm w k Y row st,vs=[.ref p,Y,.int row,.int st]/\H p=a' (.ins C dx [("name",nm),("wire",w),("number",.int k)])/\0<=k/\Q (.int (X6 (st / 2 ^ k.toNat) 1)) H
def QJ (K:b') (C:eO):Sp:=λvs H Q _=>∃(p dx:eO) (nm:V) (γ d:eO) (ws:B') (kvs:ef (Key×V)) (f:Wz->Int) (row st:Int),vs=[.ref p,.ref d,.int row,.int st]/\H p=a' (.ins C dx [("name",nm),("wires",.ref γ)])/\SqT K H γ (ws.map V.str)/\
 H d=a' (.dK kvs)/\(∀w∈ws,valV kvs (WO w)=a' (.int (f w)))/\Q (.int ((ws.map f).foldl Xb 0)) H
def Nn (C:eO):Sp:=λvs H Q _=>∃p dx nm k Y,vs=[.ref p,Y]/\H p=a' (.ins C dx [("name",nm),("number",.int k)])/\0<=k/\k<=1000/\∀t H2,Same H H2->H2 t=a' (.tup [.int 0,.int (1 * 2 ^ k.toNat)])->Q (.ref t) H2
def Nk (C:eO):Sp:=λvs H Q _=>∃p dx nm w k Y,vs=[.ref p,Y]/\H p=a' (.ins C dx [("name",nm),("wire",w),("number",.int k)])/\0<=k/\k<=1000/\∀t H2,Same H H2->H2 t=a' (.tup [.int (1 * 2 ^ k.toNat),.int 0])->Q (.ref t) H2
def Nl (K:b') (C:eO):Sp:=λvs H Q _=>∃(p dx:eO) (nm:V) (γ d:eO) (ws:B') (kvs:ef (Key×V)) (f g:Wz->Int),vs=[.ref p,.ref d]/\H p=a' (.ins C dx [("name",nm),("wires",.ref γ)])/\SqT K H γ (ws.map V.str)/\
 H d=a' (.dK kvs)/\(∀w∈ws,∃t,valV kvs (WO w)=a' (.ref t)/\SqT K H t [.int (f w),.int (g w)])/\∀t H2,Same H H2->H2 t=a' (.tup [.int ((ws.map f).foldl Xb 0),.int ((ws.map g).foldl Xb 0)])->Q (.ref t) H2
theorem xT {ws:B'} {f:Wz->Int} {w:Wz} (h:ws[i]? =a' w):((ws.take (i + 1)).map f).foldl Xb 0=Xb (((ws.take i).map f).foldl Xb 0) (f w):=by
 rw[ad2,h,ee,Ya];rfl
structure Nt where
 ins:B'
 sums:ef (Wz×ef Wz)
 sts:ef (Wz×Wz)
 outs:B'
noncomputable def Nt.names (N:Nt):B':=N.ins++N.sums.map (·.1)++N.sts.map (·.1)
structure Gn (N:Nt):Prop where
 li:N.ins.length<=6
 ls:N.sums.length<=40
 lt:N.sts.length<=16
 lo:N.outs.length<=6
 lw:∀r∈N.sums,r.2.length<=24
 nm:∀z∈N.names,Nm z
 nd:N.names.Nodup
 ws:∀r∈N.sums,∀z∈r.2,z∈N.names
 ts:∀r∈N.sts,r.2∈N.names
 os:∀z∈N.outs,z∈N.names
 rk:∃rank:Wz->Nat,∀r∈N.sums,∀z∈r.2,z∈N.sums.map (·.1)->rank z < rank r.1
structure Topo (sums:ef (Wz×ef Wz)) (od:B'):Prop where
 perm:od.Perm (sums.map (·.1))
 need:∀(i:Nat) z,od[i]? =a' z->∀ws,(z,ws)∈sums->∀y∈ws,y∈sums.map (·.1)->y∈od.take i
noncomputable abbrev Rw:=eO×eO×Wz×ef Wz
variable {rs:ef Rw}
noncomputable abbrev Qs:=eO×Wz×Wz
variable {Lc:ef Qs}
structure Hnd (H:Hp) (i s t o:eO) (rs:ef Rw) (qs:ef Qs) (N:Nt):Prop where
 i:H i=a' (.lst (N.ins.map V.str))
 s:H s=a' (.lst (rs.map λr=>V.ref r.1))
 sr:∀r∈rs,H r.1=a' (.tup [.str r.2.2.1,.ref r.2.1])/\H r.2.1=a' (.lst (r.2.2.2.map V.str))
 es:rs.map (·.2.2)=N.sums
 t:H t=a' (.lst (qs.map λq=>V.ref q.1))
 tr:∀q∈qs,H q.1=a' (.tup [.str q.2.1,.str q.2.2])
 et:qs.map (·.2)=N.sts
 o:H o=a' (.lst (N.outs.map V.str))
theorem Hnd.same {i s o:eO} {N:Nt} (x:Hnd H i s t o rs Lc N) (h:Same H H2):Hnd H2 i s t o rs Lc N:=⟨h.get x.i,h.get x.s,λr m=>⟨h.get (x.sr r m).1,h.get (x.sr r m).2⟩,x.es,h.get x.t,λq m=>h.get (x.tr q m),x.et,h.get x.o⟩
structure Kpt (H:Hp) (i s t o:eO) (rs:ef Rw) (qs:ef Qs) (N:Nt):Prop where
 i:H i=a' (.tup (N.ins.map V.str))
 s:H s=a' (.tup (rs.map λr=>V.ref r.1))
 sr:∀r∈rs,H r.1=a' (.tup [.str r.2.2.1,.ref r.2.1])/\H r.2.1=a' (.tup (r.2.2.2.map V.str))
 es:rs.map (·.2.2)=N.sums
 t:H t=a' (.tup (qs.map λq=>V.ref q.1))
 tr:∀q∈qs,H q.1=a' (.tup [.str q.2.1,.str q.2.2])
 et:qs.map (·.2)=N.sts
 o:H o=a' (.tup (N.outs.map V.str))
theorem Kpt.same {i s o:eO} {N:Nt} (x:Kpt H i s t o rs Lc N) (h:Same H H2):Kpt H2 i s t o rs Lc N:=⟨h.get x.i,h.get x.s,λr m=>⟨h.get (x.sr r m).1,h.get (x.sr r m).2⟩,x.es,h.get x.t,λq m=>h.get (x.tr q m),x.et,h.get x.o⟩
def Jx:Sp:=λvs H Q _=>∃(i s t o:eO) (rs:ef Rw) (qs:ef Qs) (N:Nt),vs=[.ref i,.ref s,.ref t,.ref o]/\Hnd H i s t o rs qs N/\Gn N/\∀H2,Same H H2->Q .non H2
def Jy:Sp:=λvs H Q _=>∃(l:eO) (zs:B'),vs=[.ref l]/\H l=a' (.lst (zs.map V.str))/\zs.length<=1000/\zs.Nodup/\(∀z∈zs,Nm z)/\∀H2,Same H H2->Q .non H2
def Knw (H:Hp) (d:eO) (zs:B'):Prop:=∃kvs:ef (Key×V),H d=a' (.dK kvs)/\kvs.map (·.1)=zs.map WO
theorem Knw.same {d:eO} {zs:B'} (x:Knw H d zs) (h:Same H H2):Knw H2 d zs:=let ⟨k,e,f⟩:=x;⟨k,h.get e,f⟩
def Np:Sp:=λvs H Q _=>∃(z:Wz) (d:eO) (zs:B'),vs=[.str z,.ref d]/\Knw H d zs/\z∈zs/\Nm z/\∀H2,Same H H2->Q .non H2
def Jw:Sp:=λvs H Q _=>∃(i s t o d:eO) (rs:ef Rw) (qs:ef Qs) (N:Nt),vs=[.ref s,.ref t,.ref o,.ref d]/\Kpt H i s t o rs qs N/\Gn N/\Knw H d N.names/\∀H2,Same H H2->Q .non H2
theorem vL {zs:B'} (e:kvs.map (·.1)=zs.map WO) (z:Wz):(valV kvs (WO z)).isSome=decide (z∈zs):=by
 cases h:valV kvs (WO z) with
 | none=>
   have:=MP h;rw[e] at this;rw[f' λm=>this (ic.mpr ⟨z,m,rfl⟩)];rfl
 | some v=>
   have:=Qj h;rw[e] at this;obtain⟨y,Y,ey⟩:=ic.mp this;cases ey;rw[hE Y];rfl
theorem Ee {zs:B'} (e:kvs.map (·.1)=zs.map WO) (h:z∉zs) (v:V):putK kvs (WO z) v=kvs++[(WO z,v)]:=by
 refine FA ?_;rw[<-Option.not_isSome_iff_eq_none,vL e z,f' h];exact hF
inductive Wob (H:Hp) (CI CS CT:eO) (N:Nt) (z:Wz) (w:eO):Prop where
 | i (k:Nat) (dx:eO) (hk:N.ins[k]? =a' z) (e:H w=a' (.ins CI dx [("name",.str z),("number",nat k)])):Wob H CI CS CT N z w
 | s (ws:B') (dx tw:eO) (hk:(z,ws)∈N.sums) (e:H w=a' (.ins CS dx [("name",.str z),("wires",.ref tw)])) (et:H tw=a' (.tup (ws.map V.str))):Wob H CI CS CT N z w
 | t (k:Nat) (y:Wz) (dx:eO) (hk:N.sts[k]? =a' (z,y)) (e:H w=a' (.ins CT dx [("name",.str z),("wire",.str y),("number",nat k)])):Wob H CI CS CT N z w
theorem Wob.same {N:Nt} {w:eO} (x:Wob H Y ι θ N z w) (h:Same H H2):Wob H2 Y ι θ N z w:=by
 cases x with
 | i k dx hk e=>exact .i k dx hk (h.get e)
 | s ws dx γ hk e et=>exact .s ws dx γ hk (h.get e) (h.get et)
 | t k y dx hk e=>exact .t k y dx hk (h.get e)
theorem Wob.name {N:Nt} {w:eO} (x:Wob H Y ι θ N z w):∃C dx fs,H w=a' (.ins C dx (("name",.str z)::fs))/\(C=Y∨C=ι∨C=θ):=by
 cases x with
 | i k dx hk e=>exact⟨_,_,_,e,.inl rfl⟩
 | s ws dx γ hk e et=>exact⟨_,_,_,e,.inr (.inl rfl)⟩
 | t k y dx hk e=>exact⟨_,_,_,e,.inr (.inr rfl)⟩
structure WiA (H:Hp) (CI CS CT d:eO) (N:Nt) (ws:Tn):Prop where
 d:H d=a' (.dK (ws.map λq=>(WO q.1,V.ref q.2)))
 nm:ws.map (·.1)=N.names
 ob:∀q∈ws,Wob H CI CS CT N q.1 q.2
theorem WiA.same {d:eO} {N:Nt} (x:WiA H Y ι θ d N ws) (h:Same H H2):WiA H2 Y ι θ d N ws:=⟨h.get x.d,x.nm,λq m=>(x.ob q m).same h⟩
theorem WiA.knw {d:eO} {N:Nt} (x:WiA H Y ι θ d N ws):Knw H d N.names:=⟨_,x.d,by rw[WT,<-x.nm,WT];rfl⟩
def Gw (Y ι θ:eO):Sp:=λvs H Q _=>∃(i s t o:eO) (rs:ef Rw) (qs:ef Qs) (N:Nt),vs=[.ref i,.ref s,.ref t]/\Kpt H i s t o rs qs N/\Gn N/\∀(d:eO) (H2:Hp) (ws:Tn),H d=gn->Same H H2->WiA H2 Y ι θ d N ws->Q (.ref d) H2
noncomputable def iz (zs:B') (ws:B'):Bool:=ws.any λw=>decide (w∈zs)
def MW:Sp:=λvs H Q _=>∃(r:Rw) (d:eO) (zs:B'),vs=[.ref r.1,.ref d]/\H r.1=a' (.tup [.str r.2.2.1,.ref r.2.1])/\H r.2.1=a' (.tup (r.2.2.2.map V.str))/\r.2.2.2.length<=24/\Knw H d zs/\∀H2,Same H H2->Q (.bl (iz zs r.2.2.2)) H2
def GB:Sp:=λvs H Q _=>∃(s:eO) (rs:ef Rw) (N:Nt),vs=[.ref s]/\H s=a' (.tup (rs.map λr=>V.ref r.1))/\(∀r∈rs,H r.1=a' (.tup [.str r.2.2.1,.ref r.2.1])/\H r.2.1=a' (.tup (r.2.2.2.map V.str)))/\rs.map (·.2.2)=N.sums/\Gn N/\∀(D:eO) (H2:Hp) (od:B'),H D=gn->Same H H2->H2 D=a' (.lst (od.map V.str))->Topo N.sums od->Q (.ref D) H2
theorem jF {b:eO} {xs zs:ef V} (Z:H l=a' (.lst xs)) (Y:H b=a' (.lst zs)) (hl:xs.length + zs.length<=la) (h:∀H2,Upd H H2 l (.lst (xs++zs))->Q .non H2):Ed (.ref l) [.ref b] H Q:=⟨l,b,xs,zs,rfl,rfl,Z,Y,hl,h _ Upd.of⟩
theorem Wob.keep {N:Nt} {w:eO} {xs:ef V} (x:Wob H Z ι θ N z w) (Y:H D=a' (.lst xs)) (h:∀b o,b≠D->H b=a' o->H2 b=a' o):Wob H2 Z ι θ N z w:=by
 cases x with
 | i k dx hk e=>exact .i k dx hk (h _ _ (cF e Y (λz=>by cases z)) e)
 | s ws dx γ hk e et=>exact .s ws dx γ hk (h _ _ (cF e Y (λz=>by cases z)) e) (h _ _ (cF et Y (λz=>by cases z)) et)
 | t k y dx hk e=>exact .t k y dx hk (h _ _ (cF e Y (λz=>by cases z)) e)
structure WL (H0 H:Hp) (CI CS CT:eO) (N:Nt) (D:eO) (ys:ef V) (zs:B') (ws:Tn):Prop where
 ey:ys=ws.map λq=>V.ref q.2
 nm:ws.map (·.1)=zs
 ob:∀q∈ws,Wob H CI CS CT N q.1 q.2
 same:Same H0 H
 d:H D=a' (.lst ys)
def Jv (K:b') (C:eO):Sp:=λvs H Q _=>∃x dx nm γ ws,vs=[.ref x,nm,.ref γ]/\H γ=a' (.tup ws)/\H x=a' (.ins C dx [])/\
 ∀H2,Upd H H2 x (.ins C dx [("name",nm),("wires",.ref γ)])->Q .non H2
theorem WL.put {Y:Hp} {N:Nt} {ys:ef V} {zs:B'} (c:WL H' H C ι θ N D ys zs ws) (ε:H' D=gn) (s:Same H Y) {x:eO} (γ:Wob Y C ι θ N z x) (η:zs.length<=900) (ζ:ON=zs++[z]):
  Y D=a' (.lst ys)/\ys.length < la/\∃ws,WL H' (upd Y D (.lst (ys++[.ref x]))) C ι θ N D (ys++[.ref x]) ON ws:=by
 have Z:=s.get c.d;have k:∀b o,b≠D->Y b=a' o->upd Y D (.lst (ys++[.ref x])) b=a' o:=λb o n e=>by rw[aG n];exact e
 have lw:ys.length=zs.length:=by rw[c.ey,<-c.nm,bx,bx]
 refine⟨Z,aR @A,ws++[(z,x)],by rw[ee,c.ey];rfl,by rw[ee,c.nm,ζ];rfl,λq δ=>?_,λb o e=>?_,ax⟩
 ·rcases hB.mp δ with h | h
  ·exact((c.ob q h).same s).keep Z k
  ·rw[gA] at h;subst h;exact γ.keep Z k
 ·exact k _ _ (ao e ε) (s.get (c.same.get e))
theorem WL.join {N:Nt} {ys:ef V} {zs:B'} (c:WL H' H C ι θ N D ys zs ws) (Z:WL H H2 C ι θ N τ am ON hs) (η:H' D=gn) (u:Upd H2 H1 D (.lst (ys++am))):
  WL H' H1 C ι θ N D (ys++am) (zs++ON) (ws++hs):=by
 have δ:=Z.same.get c.d;refine⟨by rw[ee,c.ey,Z.ey],by rw[ee,c.nm,Z.nm],λq ζ=>?_,λb o e=>u.oth _ _ (ao e η) (Z.same.get (c.same.get e)),u.at'⟩;rcases hB.mp ζ with h | h
 ·exact((c.ob q h).same Z.same).keep δ u.oth
 ·exact(Z.ob q h).keep δ u.oth
structure Otp (sums:ef (Wz×ef Wz)) (od:B') (lf:ef (Wz×ef Wz)):Prop where
 perm:(od++lf.map (·.1)).Perm (sums.map (·.1))
 sub:∀r∈lf,r∈sums
 need:∀(i:Nat) z,od[i]? =a' z->∀ws,(z,ws)∈sums->∀y∈ws,y∈sums.map (·.1)->y∈od.take i
theorem Otp.start (sums:ef (Wz×ef Wz)):Otp sums [] sums:=⟨List.Perm.refl _,λ_ h=>h,λi z h=>by simp at h⟩
theorem Otp.done (o:Otp sums N []):Topo sums N:=⟨by have:=o.perm;rwa [ah7,Y8] at this,o.need⟩
theorem Ke (nd:(sums.map (·.1)).Nodup) {ws:B'} (h:(z,ws)∈sums) (h':(z,N)∈sums):ws=N:=by
 induction sums with
 | nil=>cases h
 | cons r l ih=>
   rw[Xk,aa4] at nd;rcases WH.mp h with e | h
   ·rcases WH.mp h' with Z | h'
    ·rw[<-e] at Z;exact(Prod.mk.inj Z).2.symm
    ·exact hQ (ic.mpr ⟨_,h',rfl⟩) (by rw[<-e] at nd;exact nd.1)
   ·rcases WH.mp h' with Z | h'
    ·exact hQ (ic.mpr ⟨_,h,rfl⟩) (by rw[<-Z] at nd;exact nd.1)
    ·exact ih nd.2 h h'
theorem Otp.step (nd:(sums.map (·.1)).Nodup) {lf:ef (Wz×ef Wz)} (o:Otp sums N lf):
  Otp sums (N++(lf.filter λr=> !iz (lf.map (·.1)) r.2).map (·.1)) (lf.filter λr=>iz (lf.map (·.1)) r.2):=by
 refine⟨?_,λr h=>o.sub r (Y4.mp h).1,λi z hz ws hw y Z hs=>?_⟩
 ·refine ao6 ?_ o.perm;rw[aa0,<-ee];refine List.Perm.append_left _ (List.Perm.map _ ?_);refine ao6 List.perm_append_comm ?_;exact am2 _ _
 ·by_cases hi:i < N.length
  ·rw[mu hi] at hz;rw[ZA (YA hi)];exact o.need i z hz ws hw y Z hs
  ·rw[ov @A] at hz;have hm:=dt hz;obtain⟨r,α,rfl⟩:=ic.mp hm;obtain⟨ω,Y⟩:=Y4.mp α;have e:ws=r.2:=Ke nd hw (o.sub r ω);subst e
   have hn:y∉lf.map (·.1):=λm=>by
    have:iz (lf.map (·.1)) r.2=true:=Zh.mpr ⟨y,Z,hE m⟩;rw[this] at Y;cases Y
   have:=(o.perm.mem_iff (a:=y)).mpr hs;rcases hB.mp this with h | h
   ·rw[as6,hB];left;rw[XN @A];exact h
   ·exact hQ h hn
theorem zE {α:Type} (f:α->Nat):∀l:ef α,l≠[]->∃a∈l,∀b∈l,f a<=f b
 | [],h=>hQ rfl h
 | [a],_=>⟨a,gA.mpr rfl,λb h=>by rw[gA.mp h];exact p' _⟩
 | a::b::l,_=>by
   obtain⟨c,Z,h⟩:=zE f (b::l) @E;by_cases Y:f a<=f c
   ·exact⟨a,W6 ..,λd hd=>(WH.mp hd).elim (λe=>by rw[e];exact p' _) λe=>Yi Y (h d e)⟩
   ·exact⟨c,W1 _ Z,λd hd=>(WH.mp hd).elim (λe=>by rw[e];omega) λe=>h d e⟩
theorem Otp.ready {N:Nt} (g:Gn N) (o:Otp N.sums ON sums) (h:sums≠[]):0 < (sums.filter λr=> !iz (sums.map (·.1)) r.2).length:=by
 obtain⟨Y,γ⟩:=g.rk;obtain⟨r,hm,hl⟩:=zE (λr:Wz×ef Wz=>Y r.1) sums h;refine List.length_pos_of_mem (Y4.mpr ⟨hm,?_⟩);cases hw:iz (sums.map (·.1)) r.2 with
 | false=>rfl
 | true=>
   obtain⟨y,β,α⟩:=Zh.mp hw;obtain⟨Z,ο,rfl⟩:=ic.mp (WE α);have h1:=γ r (o.sub r hm) _ β (ic.mpr ⟨Z,o.sub Z ο,rfl⟩);have h2:=hl Z ο;omega
theorem EW {α:Type} (p:α->X1):∀l:ef α,0 < (l.filter λx=> !p x).length->(l.filter p).length < l.length:=λl h=>by
 have:=(am2 p l).length_eq;rw[eX] at this;omega
theorem Gn.nds {N:Nt} (g:Gn N):(N.sums.map (·.1)).Nodup:=by
 have:=g.nd;unfold Nt.names at this;rw[Xz,Xz] at this;exact this.1.2.1
structure NetA (H:Hp) (C CI CS CT p:eO) (N:Nt) (od:B'):Prop where
 ho:∃(dx i s t o d tq:eO) (rs:ef Rw) (qs:ef Qs) (ws:Tn),H p=a' (.ins C dx [("ins",.ref i),("sums",.ref s),("kept_stores",.ref t),("outs",.ref o),("by_name",.ref d),("sum_order",.ref tq)])/\Kpt H i s t o rs qs N/\WiA H CI CS CT d N ws/\H tq=a' (.tup (od.map V.str))
 g:Gn N
 tp:Topo N.sums od
theorem NetA.same {N:Nt} (x:NetA H C Z ι θ p N ON) (h:Same H H2):NetA H2 C Z ι θ p N ON:=
 ⟨let ⟨dx,i,s,t,o,d,Y,rs,qs,ws,a,b,c,e⟩:=x.ho;⟨dx,i,s,t,o,d,Y,rs,qs,ws,h.get a,b.same h,c.same h,h.get e⟩,x.g,x.tp⟩
def SW (C Y ι θ:eO):Sp:=λvs H Q _=>∃(x dx i s t o:eO) (rs:ef Rw) (qs:ef Qs) (N:Nt),vs=[.ref x,.ref i,.ref s,.ref t,.ref o]/\H x=a' (.ins C dx [])/\Hnd H i s t o rs qs N/\Gn N/\
 ∀(H2:Hp) (od:B'),(∀b ob,b≠x->H b=a' ob->H2 b=a' ob)->NetA H2 C Y ι θ x N od->Q .non H2
def Kx (x:eO) (H H2:Hp):Prop:=∀b ob,b≠x->H b=a' ob->H2 b=a' ob
theorem Kx.trans {x:eO} (a:Kx x H H2) (b:Kx x H2 H'):Kx x H H':=λc o n e=>b c o n (a c o n e)
theorem Kx.same {x:eO} (s:Same H H2):Kx x H H2:=λ_ _ _ e=>s.get e
theorem Kx.upd {x:eO} (u:Upd H H2 x o):Kx x H H2:=u.oth
theorem Kx.tup {x:eO} (k:Kx x H H2) (hx:H x=a' (.ins C dx AT)) {b:eO} {xs:ef V} (e:H b=a' (.tup xs)):H2 b=a' (.tup xs):=k b _ (cF e hx λz=>by cases z) e
theorem Kx.lst {x:eO} (k:Kx x H H2) (hx:H x=a' (.ins C dx AT)) {b:eO} {xs:ef V} (e:H b=a' (.lst xs)):H2 b=a' (.lst xs):=k b _ (cF e hx λz=>by cases z) e
theorem Kx.hnd {x:eO} (k:Kx x H H2) (hx:H x=a' (.ins C dx AT)) {i s o:eO} {N:Nt} (h:Hnd H i s t o rs Lc N):Hnd H2 i s t o rs Lc N:=
 ⟨k.lst hx h.i,k.lst hx h.s,λr m=>⟨k.tup hx (h.sr r m).1,k.lst hx (h.sr r m).2⟩,h.es,k.lst hx h.t,λq m=>k.tup hx (h.tr q m),h.et,k.lst hx h.o⟩
def RwK (H:Hp) (rs:ef Rw):Prop:=∀r∈rs,H r.1=a' (.tup [.str r.2.2.1,.ref r.2.1])/\H r.2.1=a' (.tup (r.2.2.2.map V.str))
def QsK (H:Hp) (qs:ef Qs):Prop:=∀q∈qs,H q.1=a' (.tup [.str q.2.1,.str q.2.2])
theorem RwK.same (h:RwK H rs) (s:Same H H2):RwK H2 rs:=λr m=>⟨s.get (h r m).1,s.get (h r m).2⟩
theorem QsK.same (h:QsK H Lc) (s:Same H H2):QsK H2 Lc:=λq m=>s.get (h q m)
theorem Kx.rw{x:eO} (k:Kx x H H2) (hx:H x=a' (.ins C dx AT)) (h:RwK H rs):RwK H2 rs:=λr m=>⟨k.tup hx (h r m).1,k.tup hx (h r m).2⟩
theorem Kx.qs {x:eO} (k:Kx x H H2) (hx:H x=a' (.ins C dx AT)) (h:QsK H Lc):QsK H2 Lc:=λq m=>k.tup hx (h q m)
theorem RwK.updL (h:RwK H rs) {xs:ef V} (Y:H D=a' (.lst xs)) (k:∀b o,b≠D->H b=a' o->H2 b=a' o):RwK H2 rs:=λr m=>⟨k _ _ (cF (h r m).1 Y λz=>by cases z) (h r m).1,k _ _ (cF (h r m).2 Y λz=>by cases z) (h r m).2⟩
theorem QsK.updL (h:QsK H Lc) {xs:ef V} (Y:H D=a' (.lst xs)) (k:∀b o,b≠D->H b=a' o->H2 b=a' o):QsK H2 Lc:=λq m=>k _ _ (cF (h q m) Y λz=>by cases z) (h q m)
theorem Kx.kpt {x:eO} (k:Kx x H H2) (hx:H x=a' (.ins C dx AT)) {i s o:eO} {N:Nt} (h:Kpt H i s t o rs Lc N):Kpt H2 i s t o rs Lc N:=
 ⟨k.tup hx h.i,k.tup hx h.s,λr m=>⟨k.tup hx (h.sr r m).1,k.tup hx (h.sr r m).2⟩,h.es,k.tup hx h.t,λq m=>k.tup hx (h.tr q m),h.et,k.tup hx h.o⟩
theorem Kx.wia {x:eO} (k:Kx x H H2) {d:eO} {N:Nt} (h:WiA H Z ι θ d N ws) (hd:d≠x) (hw:∀q∈ws,q.2≠x) (hx:H x=a' (.ins C dx AT)):WiA H2 Z ι θ d N ws:=
 ⟨k _ _ hd h.d,h.nm,λq m=>by
  cases h.ob q m with
  | i φ δ hk e=>exact .i φ δ hk (k _ _ (hw q m) e)
  | s Y δ γ hk e et=>exact .s Y δ γ hk (k _ _ (hw q m) e) (k.tup hx et)
  | t φ y δ hk e=>exact .t φ y δ hk (k _ _ (hw q m) e)⟩
noncomputable def xb (f:R') (ws:B'):Bool:=ws.foldl (λa w=>a^^f w) false
theorem lL (f:R') (ws:B') (w:Wz):xb f (ws++[w])=(xb f ws^^f w):=by unfold xb;rw[Ya];rfl
theorem vK {g:R'}:∀{ws:B'},(∀w∈ws,f w=g w)->xb f ws=xb g ws:=by
 intro ws
 induction ws using M.rev_ind with
 | h0=>intro _;rfl
 | h1 l x ih=>intro h;rw[lL,lL,ih λw hw=>h w (qb _ hw),h x (lA _ (gA.mpr rfl))]
theorem SC (f g:R'):∀ws:B',xb (λz=>f z^^g z) ws=(xb f ws^^xb g ws):=by
 intro ws
 induction ws using M.rev_ind with
 | h0=>rfl
 | h1 l x ih=>rw[lL,lL,lL,ih];cases xb f l<;>cases xb g l<;>cases f x<;>cases g x<;>rfl
structure Val (N:Nt) (row st:Nat) (f:R'):Prop where
 i:∀(k:Nat) z,N.ins[k]? =a' z->f z=row.testBit k
 t:∀(k:Nat) z y,N.sts[k]? =a' (z,y)->f z=st.testBit k
 s:∀z ws,(z,ws)∈N.sums->f z=xb f ws
theorem Val.uniq {N:Nt} (g:Gn N) (tp:Topo N.sums ON) {s:Nat} (a:Val N r s f) (b:Val N r s NE):∀z∈N.names,f z=NE z:=by
 have Z:∀z∈N.ins,f z=NE z:=λz h=>by
  obtain⟨k,hk⟩:=Xm.mp h;rw[a.i k z hk,b.i k z hk]
 have Y:∀z∈N.sts.map (·.1),f z=NE z:=λz h=>by
  obtain⟨q,δ,rfl⟩:=ic.mp h;obtain⟨k,hk⟩:=Xm.mp δ;rw[a.t k q.1 q.2 hk,b.t k q.1 q.2 hk]
 have ξ:∀n (k:Nat) z,k < n->ON[k]? =a' z->f z=NE z:=by
  intro n
  induction n with
  | zero=>intro k z h;omega
  | succ n ih=>
    intro k z hk hz;obtain⟨row,χ,e⟩:=ic.mp (tp.perm.mem_iff.mp (dt hz));have e:row.1=z:=e;subst e;rw[a.s row.1 row.2 χ,b.s row.1 row.2 χ];refine vK λw hw=>?_;have π:=g.ws row χ w hw;unfold Nt.names at π;rcases hB.mp π with h | h
    ·rcases hB.mp h with h | h
     ·exact Z w h
     ·have:=tp.need k row.1 hz row.2 χ w hw h;obtain⟨j,γ⟩:=Xm.mp this
      have β:j < k:=by
       have:=(bA.mp γ).1;rw[tu] at this;omega
      rw[Xx β] at γ;exact ih j w @A γ
    ·exact Y w h
 intro z hz;unfold Nt.names at hz;rcases hB.mp hz with h | h
 ·rcases hB.mp h with h | h
  ·exact Z z h
  ·obtain⟨k,hk⟩:=Xm.mp (tp.perm.mem_iff.mpr h);exact ξ (k + 1) k z (Y5 k) hk
 ·exact Y z h
noncomputable def mat (f:R') (ws:B'):Nat:=M.pk (λk=>f (ws.getD k "")) 0 ws.length
theorem AF (f:R') (ws:B') (k:Nat):(mat f ws).testBit k=(decide (k < ws.length)&&f (ws.getD k "")):=by unfold mat;rw[M.pk_bit,XH]
theorem Ux (f:R') (ws:B'):mat f ws < 2 ^ ws.length:=M.pk_lt _ _ _
theorem BX {g:R'} {ws:B'} (h:∀w∈ws,f w=g w):mat f ws=mat g ws:=by
 apply k';intro k;rw[AF,AF];by_cases hk:k < ws.length
 ·have:ws.getD k ""∈ws:=by rw[bB,cn hk];exact YB hk
  rw[h _ this]
 ·rw[f' hk];rfl
noncomputable def fv (N:Nt) (row st:Nat):R':=am9 (Val N row st)
noncomputable def nan (N:Nt) (row st:Nat):Nat:=mat (fv N row st) N.outs
noncomputable def nst (N:Nt) (row st:Nat):Nat:=mat (fv N row st) (N.sts.map (·.2))
theorem Om {N:Nt} (g:Gn N) (tp:Topo N.sums ON) {s:Nat} (a:Val N r s f):∀z∈N.names,f z=fv N r s z:=a.uniq g tp (aj1 ⟨f,a⟩)
theorem Po {N:Nt} (g:Gn N) (tp:Topo N.sums ON) {s:Nat} (a:Val N r s f):mat f N.outs=nan N r s:=BX λw h=>Om g tp a w (g.os w h)
theorem Pl {N:Nt} (g:Gn N) (tp:Topo N.sums ON) {s:Nat} (a:Val N r s f):mat f (N.sts.map (·.2))=nst N r s:=BX λw h=>Om g tp a w (by obtain⟨q,Y,rfl⟩:=ic.mp h;exact g.ts q Y)
noncomputable def rst (N:Nt):Nat->C'->Nat
 | st,[]=>st
 | st,r::rs=>rst N (nst N r st) rs
noncomputable def ran (N:Nt):Nat->C'->C'
 | _,[]=>[]
 | st,r::rs=>nan N r st::ran N (nst N r st) rs
theorem Fw (N:Nt) (r:Nat):∀(rs:C') (st:Nat),rst N st (rs++[r])=nst N r (rst N st rs)
 | [],_=>rfl
 | q::rs,st=>Fw N r rs (nst N q st)
theorem Am (N:Nt) (r:Nat):∀(rs:C') (st:Nat),ran N st (rs++[r])=ran N st rs++[nan N r (rst N st rs)]
 | [],_=>rfl
 | q::rs,st=>by show nan N q st::ran N (nst N q st) (rs++[r])=_;rw[Am N r rs];rfl
theorem An (N:Nt):∀(rs:C') (st:Nat),(ran N st rs).length=rs.length
 | [],_=>rfl
 | q::rs,st=>by show(ran N (nst N q st) rs).length + 1=_;rw[An N rs];rfl
def Wr (N:Nt):Prop:=∀r s,∃f,Val N r s f
noncomputable def need (N:Nt) (od:B'):B':=N.ins++N.sts.map (·.1)++od
structure Pre (N:Nt) (row st:Nat) (pre:B') (f:R'):Prop where
 i:∀(k:Nat) z,N.ins[k]? =a' z->z∈pre->f z=row.testBit k
 t:∀(k:Nat) z y,N.sts[k]? =a' (z,y)->z∈pre->f z=st.testBit k
 s:∀z ws,(z,ws)∈N.sums->z∈pre->f z=xb f ws/\∀w∈ws,w∈pre
structure Bt (N:Nt) (row st:Nat) (pre:B') (f:R') (z:Wz) (v:X1):Prop where
 i:∀k:Nat,N.ins[k]? =a' z->v=row.testBit k
 t:∀(k:Nat) y,N.sts[k]? =a' (z,y)->v=st.testBit k
 s:∀ws,(z,ws)∈N.sums->v=xb f ws/\∀w∈ws,w∈pre
theorem Pre.nil (N:Nt) (row st:Nat) (f:R'):Pre N row st [] f:=⟨λ_ _ _ h=>hQ h @E,λ_ _ _ _ h=>hQ h @E,λ_ _ _ h=>hQ h @E⟩
theorem Pre.step {N:Nt} {st:Nat} (p:Pre N row st pre f) {v:X1} (hz:z∉pre) (b:Bt N row st pre f z v):Pre N row st (pre++[z]) (λy=>if y=z then v else f y):=by
 have Y:∀y,y∈pre->(if y=z then v else f y)=f y:=λy Z=>oT (λ(e:y=z)=>hz (e ▸ Z));have α:∀ws:B',(∀w∈ws,w∈pre)->xb (λy=>if y=z then v else f y) ws=xb f ws:=λws h=>vK λw hw=>Y w (h w hw);refine⟨λk y hk Z=>?_,λk y x hk Z=>?_,λy ws hs Z=>?_⟩
 ·rcases hB.mp Z with h | h
  ·rw[Y y h];exact p.i k y hk h
  ·rw[gA] at h;subst h;rw[zt rfl];exact b.i k hk
 ·rcases hB.mp Z with h | h
  ·rw[Y y h];exact p.t k y x hk h
  ·rw[gA] at h;subst h;rw[zt rfl];exact b.t k x hk
 ·rcases hB.mp Z with h | h
  ·obtain⟨e,hw⟩:=p.s y ws hs h;rw[Y y h,α ws hw];exact⟨e,λw m=>qb _ (hw w m)⟩
  ·rw[gA] at h;subst h;obtain⟨e,hw⟩:=b.s ws hs;rw[zt rfl,α ws hw];exact⟨e,λw m=>qb _ (hw w m)⟩
section
variable {N:Nt} (g:Gn N)
include g
theorem nr:N.ins.Nodup/\(N.sums.map (·.1)).Nodup/\(N.sts.map (·.1)).Nodup/\(∀z∈N.ins,z∉N.sums.map (·.1))/\(∀z∈N.ins,z∉N.sts.map (·.1))/\∀z∈N.sums.map (·.1),z∉N.sts.map (·.1):=by
 have h:=g.nd;unfold Nt.names at h;rw[Xz,Xz] at h;obtain⟨⟨a,b,c⟩,d,e⟩:=h;exact⟨a,b,d,λz h1 h2=>c z h1 z h2 rfl,λz h1 h2=>e z (qb _ h1) z h2 rfl,λz h1 h2=>e z (lA _ h1) z h2 rfl⟩
theorem Vg {st:Nat} {k:Nat} (h:N.ins[k]? =a' z):Bt N row st pre f z (row.testBit k):=by
 obtain⟨a,b,c,d,e,_⟩:=nr g;have hm:=dt h;refine⟨λj Y=>?_,λj y Y=>?_,λws hs=>?_⟩
 ·have:k=j:=(ar8 (bA.mp h).1 a).mp (h.trans Y.symm);rw[this]
 ·exact hQ (ic.mpr ⟨_,dt Y,rfl⟩) (e z hm)
 ·exact hQ (ic.mpr ⟨_,hs,rfl⟩) (d z hm)
theorem Vf {st:Nat} {k:Nat} {y:Wz} (h:N.sts[k]? =a' (z,y)):Bt N row st pre f z (st.testBit k):=by
 obtain⟨a,b,c,d,e,Z⟩:=nr g;have hm:z∈N.sts.map (·.1):=ic.mpr ⟨_,dt h,rfl⟩;refine⟨λj Y=>?_,λj x Y=>?_,λws hs=>?_⟩
 ·exact hQ hm (e z (dt Y))
 ·have h1:(N.sts.map (·.1))[k]? =a' z:=by rw[hH,h];rfl
  have h2:(N.sts.map (·.1))[j]? =a' z:=by rw[hH,Y];rfl
  have:k=j:=(ar8 (bA.mp h1).1 c).mp (h1.trans h2.symm);rw[this]
 ·exact hQ hm (Z z (ic.mpr ⟨_,hs,rfl⟩))
theorem P1 {st:Nat} {ws:B'} (h:(z,ws)∈N.sums) (hw:∀w∈ws,w∈pre):Bt N row st pre f z (xb f ws):=by
 obtain⟨a,b,c,d,e,α⟩:=nr g;have hm:z∈N.sums.map (·.1):=ic.mpr ⟨_,h,rfl⟩;refine⟨λj Y=>?_,λj x Y=>?_,λZ hs=>?_⟩
 ·exact hQ hm (d z (dt Y))
 ·exact hQ (ic.mpr ⟨_,dt Y,rfl⟩) (α z hm)
 ·have:=Ke b h hs;subst this;exact⟨rfl,hw⟩
variable {od:B'} (tp:Topo N.sums od)
include tp
theorem ly (z:Wz):z∈need N od↔z∈N.names:=by
 unfold need Nt.names;rw[hB,hB,hB,hB,tp.perm.mem_iff];constructor
 ·rintro((h | h) | h)
  ·exact .inl (.inl h)
  ·exact .inr h
  ·exact .inl (.inr h)
 ·rintro((h | h) | h)
  ·exact .inl (.inl h)
  ·exact .inr h
  ·exact .inl (.inr h)
theorem Rp:(need N od).Nodup:=by
 obtain⟨a,b,c,d,e,α⟩:=nr g;unfold need;rw[Xz,Xz];refine⟨⟨a,c,λx Z y Y z=>e x Z (z ▸ Y)⟩,tp.perm.nodup_iff.mpr b,λx Z y Y z=>?_⟩;have Y:=tp.perm.mem_iff.mp Y;subst z;rcases hB.mp Z with h | h
 ·exact d x h Y
 ·exact α x Y h
theorem AD:(need N od).length<=62:=by
 have:=tp.perm.length_eq;have h1:=g.li;have h2:=g.ls;have Y:=g.lt;unfold need;rw[bx] at this;rw[eX,eX,bx];omega
theorem EA (h:(need N od)[i]? =a' z):∀ws,(z,ws)∈N.sums->∀w∈ws,w∈(need N od).take i:=by
 intro ws hs w hw;obtain⟨a,b,c,d,e,Z⟩:=nr g;have hm:z∈N.sums.map (·.1):=ic.mpr ⟨_,hs,rfl⟩;unfold need at h ⊢
 have hi:(N.ins++N.sts.map (·.1)).length<=i:=by
  refine Zr λY=>?_;rw[mu Y] at h;rcases hB.mp (dt h) with h | h
  ·exact d z h hm
  ·exact Z z hm h
 rw[ov hi] at h;rw[as6,hB,XN hi];have π:=g.ws _ hs w hw;unfold Nt.names at π;rcases hB.mp π with h' | h'
 ·rcases hB.mp h' with h' | h'
  ·exact .inl (qb _ h')
  ·exact .inr (tp.need _ z h ws hs w hw h')
 ·exact .inl (lA _ h')
theorem R4 {st:Nat} (h:(need N od)[i]? =a' z):∃v,Bt N row st ((need N od).take i) f z v:=by
 have hm:=(ly g tp z).mp (dt h);unfold Nt.names at hm;rcases hB.mp hm with h' | h'
 ·rcases hB.mp h' with h' | h'
  ·obtain⟨k,hk⟩:=Xm.mp h';exact⟨_,Vg g hk⟩
  ·obtain⟨r,Y,rfl⟩:=ic.mp h';exact⟨_,P1 g (ws:=r.2) Y (EA g tp h r.2 Y)⟩
 ·obtain⟨r,Y,rfl⟩:=ic.mp h';obtain⟨k,hk⟩:=Xm.mp Y;exact⟨_,Vf g (y:=r.2) hk⟩
theorem w8 (h:(need N od)[i]? =a' z):z∉(need N od).take i:=λm=>by
 have nd:=Rp g tp;rw[<-ac8 i (need N od),Xz] at nd;exact nd.2.2 z m z (dt (i:=0) (by rw[Zb,Nat.add_zero];exact h)) rfl
theorem J1 {st:Nat} (p:Pre N row st (need N od) f):Val N row st f:=by
 have Y:∀z,z∈N.names->z∈need N od:=λz=>(ly g tp z).mpr;refine⟨λk z h=>p.i k z h (Y z ?_),λk z y h=>p.t k z y h (Y z ?_),λz ws h=>(p.s z ws h (Y z ?_)).1⟩
 ·exact qb _ (qb _ (dt h))
 ·exact lA _ (ic.mpr ⟨_,dt h,rfl⟩)
 ·exact qb _ (lA _ (ic.mpr ⟨_,h,rfl⟩))
theorem MN:Wr N:=λrow st=>by
 have β:∀n,n<=(need N od).length->∃f,Pre N row st ((need N od).take n) f:=by
  intro n
  induction n with
  | zero=>intro _;exact⟨λ_=>false,Pre.nil ..⟩
  | succ n ih=>
    intro hn;obtain⟨f,hf⟩:=ih @A;obtain⟨z,hz⟩:∃z,(need N od)[n]? =a' z:=⟨_,cn @A⟩;obtain⟨v,Y⟩:=R4 (row:=row) (st:=st) (f:=f) g tp hz;have:=hf.step (w8 g tp hz) Y;rw[<-take_succ hz] at this;exact⟨_,this⟩
 obtain⟨f,hf⟩:=β _ (p' _);rw[mc] at hf;exact⟨f,J1 g tp hf⟩
end
noncomputable abbrev NP:=Hp->eO->Nt->B'->Prop
def GC (Y:NP):Sp:=λvs H Q _=>∃(p:eO) (N:Nt) (od:B'),vs=[.ref p]/\Y H p N od/\∀(D:eO) (H2:Hp),H D=gn->Same H H2->H2 D=a' (.lst (N.ins.map V.str))->Q (.ref D) H2
def Qw (Y:NP):Sp:=λvs H Q _=>∃(p:eO) (N:Nt) (od:B'),vs=[.ref p]/\Y H p N od/\∀(D:eO) (H2:Hp),H D=gn->Same H H2->H2 D=a' (.lst (N.outs.map V.str))->Q (.ref D) H2
def Jk (Y:NP):Sp:=λvs H Q _=>∃(p:eO) (N:Nt) (od:B'),vs=[.ref p]/\Y H p N od/\∀(D:eO) (H2:Hp) (qs:ef Qs),H D=gn->Same H H2->H2 D=a' (.lst (qs.map λq=>V.ref q.1))->QsK H2 qs->qs.map (·.2)=N.sts->Q (.ref D) H2
def QB (Y:NP):Sp:=λvs H Q _=>∃(p:eO) (N:Nt) (od:B'),vs=[.ref p]/\Y H p N od/\∀(D:eO) (H2:Hp),H D=gn->Same H H2->H2 D=a' (.lst ((need N od).map V.str))->Q (.ref D) H2
def Jg (Y:NP) (Z ι θ:eO):Sp:=λvs H Q _=>∃(p:eO) (N:Nt) (od:B') (z:Wz),vs=[.ref p,.str z]/\Y H p N od/\z∈N.names/\∀(w:eO) (H2:Hp),Same H H2->Wob H2 Z ι θ N z w->Q (.ref w) H2
noncomputable def bitK (f:R') (zs:B'):ef (Key×V):=zs.map λz=>(WO z,nat (M.bn (f z)))
def MY (Y:NP):Sp:=λvs H Q _=>∃(p:eO) (N:Nt) (od:B') (row st:Nat),vs=[.ref p,nat row,nat st]/\Y H p N od/\∀(d:eO) (H2:Hp) (f:R'),H d=gn->Same H H2->H2 d=a' (.dK (bitK f (need N od)))->Val N row st f->Q (.ref d) H2
def Jt:Sp:=λvs H Q _=>∃(l d:eO) (ws zs:B') (f:R'),vs=[.ref l,.ref d]/\H l=a' (.lst (ws.map V.str))/\H d=a' (.dK (bitK f zs))/\ws.length<=100/\(∀w∈ws,w∈zs)/\∀H2,Same H H2->Q (nat (mat f ws)) H2
theorem zZ (f:R') {z:Wz}:∀{zs:B'},z∈zs->valV (bitK f zs) (WO z)=a' (nat (M.bn (f z)))
 | [],h=>by cases h
 | y::zs,h=>by
   unfold bitK;rw[Xk];by_cases e:y=z
   ·subst e;exact mQ rfl
   ·rw[mR λh2=>e (ZV h2)];exact zZ f ((WH.mp h).resolve_left λh2=>e h2.symm)
theorem LZ (f:R') (zs:B'):(bitK f zs).map (·.1)=zs.map Sum.inr:=by unfold bitK;rw[WT];rfl
theorem SA (a b:X1):Xb ((M.bn a:Nat):Int) ((M.bn b:Nat):Int)=((M.bn (a^^b):Nat):Int):=by cases a<;>cases b<;>decide
theorem RQ (f:R'):∀ws:B',(ws.map λw=>((M.bn (f w):Nat):Int)).foldl Xb 0=((M.bn (xb f ws):Nat):Int):=by
 intro ws
 induction ws using M.rev_ind with
 | h0=>rfl
 | h1 l x ih=>rw[ee,Ya,ih,lL];exact SA _ _
theorem Uw (f:R') (ws:B'):M.xm ((lx ws.length).filter λk=>f (ws.getD k ""))=mat f ws:=by
 have e:(lx ws.length).filter (λk=>f (ws.getD k ""))=M.pl ws.length (mat f ws):=by
  unfold M.pl;refine ar9 λk hk=>?_;rw[AF,hE (Xd.mp hk)];rfl
 rw[e,DF (Ux f ws)]
structure RunA (NA:NP) (H:Hp) (C p l n:eO) (N:Nt) (od:B') (st:Nat) (as:C'):Prop where
 ho:∃(dx d:eO),H p=a' (.ins C dx [("net",.ref n),("held",nat st),("bits",.ref d),("given",.ref l)])
 hl:H l=a' (.lst (as.map nat))
 na:NA H n N od
def K2 (p l:eO) (H H2:Hp):Prop:=∀b ob,b≠p->b≠l->H b=a' ob->H2 b=a' ob
def Gy (Y:NP) (C:eO):Sp:=λvs H Q _=>∃(x dx n:eO) (N:Nt) (od:B'),vs=[.ref x,.ref n]/\H x=a' (.ins C dx [])/\Y H n N od/\∀(H2:Hp) (l:eO),Kx x H H2->H l=gn->RunA Y H2 C x l n N od 0 []->Q .non H2
def M3 (Y:NP) (C:eO):Sp:=λvs H Q _=>∃(p l n:eO) (N:Nt) (od:B') (st row:Nat) (as:C'),vs=[.ref p,nat row]/\RunA Y H C p l n N od st as/\row < 2 ^ N.ins.length/\as.length<=900/\∀(H2:Hp),K2 p l H H2->RunA Y H2 C p l n N od (nst N row st) (as++[nan N row st])->Q (nat (nan N row st)) H2
def M5 (Y:NP) (C:eO):Sp:=λvs H Q _=>∃(p l n:eO) (N:Nt) (od:B') (st:Nat) (as:C'),vs=[.ref p]/\RunA Y H C p l n N od st as/\∀(D:eO) (H2:Hp),H D=gn->Same H H2->H2 D=a' (.lst (as.map nat))->Q (.ref D) H2
theorem NetA.keep {n:eO} {N:Nt} (x:NetA H C D ι θ n N ON) (Z:H p=a' (.ins S dx AT)) (hf:(∀(v:V) (r:ef (Wz×V)),AT≠(("name":Wz),v)::r)/\∀(v:V) (r:ef (Wz×V)),AT≠(("ins":Wz),v)::r) (k:Kx p H H2):NetA H2 C D ι θ n N ON:=by
 obtain⟨δ,i,s,t,o,d,Y,rs,qs,ws,a,b,c,e⟩:=x.ho
 have β:∀q∈ws,q.2≠p:=λq ε z=>by
  obtain⟨ξ,η,ζ,α,_⟩:=(c.ob q ε).name;rw[z,Z] at α;injection α with α
  injection α with _ _ α
  exact hf.1 _ _ α
 have hn:n≠p:=λz=>by
  rw[z,Z] at a;injection a with a
  injection a with _ _ a
  exact hf.2 _ _ a
 exact⟨⟨δ,i,s,t,o,d,Y,rs,qs,ws,k _ _ hn a,k.kpt Z b,k.wia c (cF c.d Z λz=>by cases z) β Z,k.tup Z e⟩,x.g,x.tp⟩
theorem NetA.updL {n:eO} {N:Nt} (x:NetA H C D ι Z n N ON) {xs:ef V} (hl:H l=a' (.lst xs)) (k:Kx l H H2):NetA H2 C D ι Z n N ON:=by
 obtain⟨δ,i,s,t,o,d,Y,rs,qs,ws,a,b,c,e⟩:=x.ho;have θ:∀{b:eO} {ys:ef V},H b=a' (.tup ys)->H2 b=a' (.tup ys):=λe=>k _ _ (cF e hl λz=>by cases z) e;refine⟨⟨δ,i,s,t,o,d,Y,rs,qs,ws,k _ _ (cF a hl λz=>by cases z) a,⟨θ b.i,θ b.s,λr m=>⟨θ (b.sr r m).1,θ (b.sr r m).2⟩,b.es,θ b.t,λq m=>θ (b.tr q m),b.et,θ b.o⟩,⟨k _ _ (cF c.d hl λz=>by cases z) c.d,c.nm,λq m=>(c.ob q m).keep hl k⟩,θ e⟩,x.g,x.tp⟩
noncomputable def mixV (c k:Int):Int:=((c % 2147483647 * 48271 + 7919 * k + 11) % 2147483647 * ((c % 2147483647 * 48271 + 7919 * k + 11) % 2147483647) % 2147483629) * ((c % 2147483647 * 48271 + 7919 * k + 11) % 2147483647 * ((c % 2147483647 * 48271 + 7919 * k + 11) % 2147483647) % 2147483629 + 48271 * k + 7) % 2147483587
noncomputable def Qi:Str:=("cut x x0 x1 fresh new zero none nil tmp c c0 cut0 cut1 gnd off in out sum store":Wz)++(" i0 i1 s0 s1 n0 n1 o0 o1 net wire a b z y0 t0 w w0 k dead open":Wz)
noncomputable def W40:B':=Yw Qi " "
noncomputable def dval (l:C'):Nat:=l.foldl (λa c=>10 * a + (c - 48)) 0
noncomputable def tx (n:Nat):Str:=(toString (n:Int):Yo)
noncomputable def txB (n:Nat):Bool:=decide ((dval (tx n).cps.toList=n/\(tx n).cps.toList.all fig=true)/\(tx n).cps.toList.length<=4)
noncomputable def txR (k:Nat):Bool:=(lx 250).all λi=>txB (250 * k + i)
theorem txk:∀k,k < 10->txR k=true
 | 0,_=>by decide +kernel
 | 1,_=>by decide +kernel
 | 2,_=>by decide +kernel
 | 3,_=>by decide +kernel
 | 4,_=>by decide +kernel
 | 5,_=>by decide +kernel
 | 6,_=>by decide +kernel
 | 7,_=>by decide +kernel
 | 8,_=>by decide +kernel
 | 9,_=>by decide +kernel
 | k + 10,h=>hQ h @A
theorem OX:∀n:Fin 2500,(dval (tx n.1).cps.toList=n.1/\(tx n.1).cps.toList.all fig=true)/\(tx n.1).cps.toList.length<=4:=λn=>by
 have h:=YC.mp (txk (n.1 / 250) @A) (n.1 % 250) (Xd.mpr @A);rw[ab1] at h;exact WE h
noncomputable def nmf (c k:Int):Str:=if mixV c 402 % 2=0 then W40.getD ((k + mixV c 403) % 40).toNat "" else (⟨#[97 + (mixV c 400 % 26).toNat]⟩:Wz)++tx ((mixV c 401 % 1000).toNat + 37 * k.toNat)
theorem uL (x y:Wz):(x++y).cps.toList=x.cps.toList++y.cps.toList:=by
 show(x.cps++y.cps).toList=_;rw[Array.toList_append]
def RwL (H:Hp) (rs:ef Rw):Prop:=∀r∈rs,H r.1=a' (.tup [.str r.2.2.1,.ref r.2.1])/\H r.2.1=a' (.lst (r.2.2.2.map V.str))
theorem RwL.same (h:RwL H rs) (s:Same H H2):RwL H2 rs:=λr m=>⟨s.get (h r m).1,s.get (h r m).2⟩
noncomputable def nms (c:Int) (a n:Nat):B':=(lx n).map λk=>nmf c ((a + k:Nat):Int)
structure Mk (c:Int) (ni nt:Nat) (rows:ef (Wz×ef Wz)):Prop where
 nm:rows.map (·.1)=nms c 22 rows.length
 ws:∀(k:Nat) r,rows[k]? =a' r->r.2.length<=4/\∀w∈r.2,w∈nms c 0 ni++nms c 6 nt++nms c 22 k
noncomputable def xf (f:Wz->Nat) (ws:B'):Nat:=ws.foldl (λa w=>a^^^f w) 0
theorem qU (f:Wz->Nat) (ws:B') (w:Wz):xf f (ws++[w])=xf f ws^^^f w:=by unfold xf;rw[Ya];rfl
theorem OR (f:Wz->Nat) (j:Nat):∀ws:B',(xf f ws).testBit j=xb (λw=>(f w).testBit j) ws:=by
 intro ws
 induction ws using M.rev_ind with
 | h0=>show(0:Nat).testBit j=false;exact Xf j
 | h1 l x ih=>rw[qU,lL,WN,ih]
theorem Ui (f:Wz->Nat) (y:Nat):∀ws:B',M.od (xf f ws&&&y)=xb (λw=>M.od (f w&&&y)) ws:=by
 intro ws
 induction ws using M.rev_ind with
 | h0=>show M.od (0&&&y)=false;rw[Yz];exact M.od_zero
 | h1 l x ih=>rw[qU,lL,Xy,M.and_xor,M.od_xor,Xy y,Xy y,ih]
theorem Lm (f:Wz->Nat):∀ws:B',(ws.map λw=>((f w:Nat):Int)).foldl Xb 0=((xf f ws:Nat):Int):=by
 intro ws
 induction ws using M.rev_ind with
 | h0=>rfl
 | h1 l x ih=>rw[qU,ee,Ya,ih];exact cI _ _
structure Hng (N:Nt) (p:Wz->Nat×Nat):Prop where
 i:∀(k:Nat) z,N.ins[k]? =a' z->p z=(0,2 ^ k)
 t:∀(k:Nat) z y,N.sts[k]? =a' (z,y)->p z=(2 ^ k,0)
 s:∀z ws,(z,ws)∈N.sums->p z=(xf (λw=>(p w).1) ws,xf (λw=>(p w).2) ws)
noncomputable def hvl (p:Wz->Nat×Nat) (row st:Nat):R':=λz=>M.od ((p z).1&&&st)^^M.od ((p z).2&&&row)
theorem Hng.val {N:Nt} (g:Gn N) {p:Wz->Nat×Nat} (h:Hng N p) (row st:Nat):Val N row st (hvl p row st):=by
 refine⟨λk z hk=>?_,λk z y hk=>?_,λz ws hz=>?_⟩
 ·have:=(bA.mp hk).1;have:=g.li;unfold hvl;rw[h.i k z hk,Yz,M.od_zero,M.od_pow @A];exact YF _
 ·have:=(bA.mp hk).1;have:=g.lt;unfold hvl;rw[h.t k z y hk,Yz,M.od_zero,M.od_pow @A];exact YW _
 ·unfold hvl;rw[h.s z ws hz,Ui,Ui];exact(SC _ _ ws).symm
noncomputable def hgp (N:Nt) (z:Wz):Nat×Nat:=(M.pk (λk=>fv N 0 (2 ^ k) z) 0 N.sts.length,M.pk (λk=>fv N (2 ^ k) 0 z) 0 N.ins.length)
theorem UP (N:Nt) (z:Wz):(hgp N z).1 < 2 ^ N.sts.length:=M.pk_lt _ _ _
theorem UO (N:Nt) (z:Wz):(hgp N z).2 < 2 ^ N.ins.length:=M.pk_lt _ _ _
theorem OT (b:X1) (f:R'):∀ws:B',xb (λw=>b&&f w) ws=(b&&xb f ws):=by
 intro ws
 induction ws using M.rev_ind with
 | h0=>show false=(b&&false);rw[Y3]
 | h1 l x ih=>rw[lL,lL,ih];cases b<;>simp
theorem K0 {N:Nt} (g:Gn N) (tp:Topo N.sums ON):Hng N (hgp N):=by
 have v:∀r s,Val N r s (fv N r s):=λr s=>aj1 (MN g tp r s);refine⟨λk z hk=>?_,λk z y hk=>?_,λz ws hz=>?_⟩
 ·have hl:=(bA.mp hk).1;refine aj3 (k' λj=>?_) (k' λj=>?_)
  ·show(M.pk _ 0 _).testBit j=(0:Nat).testBit j;rw[M.pk_bit,XH,(v 0 (2 ^ j)).i k z hk,Xf,Xf,Y3]
  ·show(M.pk _ 0 _).testBit j=(2 ^ k:Nat).testBit j;rw[M.pk_bit,XH,(v (2 ^ j) 0).i k z hk,W9,W9];by_cases e:k=j
   ·subst e;rw[hE hl,hE rfl];rfl
   ·rw[show decide (k=j)=false from f' e,show decide (j=k)=false from f' (λh=>e h.symm),Y3]
 ·have hl:=(bA.mp hk).1;refine aj3 (k' λj=>?_) (k' λj=>?_)
  ·show(M.pk _ 0 _).testBit j=(2 ^ k:Nat).testBit j;rw[M.pk_bit,XH,(v 0 (2 ^ j)).t k z y hk,W9,W9];by_cases e:k=j
   ·subst e;rw[hE hl,hE rfl];rfl
   ·rw[show decide (k=j)=false from f' e,show decide (j=k)=false from f' (λh=>e h.symm),Y3]
  ·show(M.pk _ 0 _).testBit j=(0:Nat).testBit j;rw[M.pk_bit,XH,(v (2 ^ j) 0).t k z y hk,Xf,Xf,Y3]
 ·refine aj3 (k' λj=>?_) (k' λj=>?_)
  ·show(M.pk _ 0 _).testBit j=(xf _ ws).testBit j;rw[M.pk_bit,XH,(v 0 (2 ^ j)).s z ws hz,OR,<-OT];exact vK λw _=>by show _=(M.pk _ 0 _).testBit j;rw[M.pk_bit,XH]
  ·show(M.pk _ 0 _).testBit j=(xf _ ws).testBit j;rw[M.pk_bit,XH,(v (2 ^ j) 0).s z ws hz,OR,<-OT];exact vK λw _=>by show _=(M.pk _ 0 _).testBit j;rw[M.pk_bit,XH]
theorem Kj (h:j < 1000):M.od (x&&&2 ^ j)=x.testBit j:=by rw[Xy];exact M.od_pow h x
theorem Pu {N:Nt} (g:Gn N) (tp:Topo N.sums ON) {p:Wz->Nat×Nat} (h:Hng N p) (hz:z∈N.names) (b1:(p z).1 < 2 ^ N.sts.length) (b2:(p z).2 < 2 ^ N.ins.length):hgp N z=p z:=by
 have li:=g.li;have lt:=g.lt;refine aj3 (k' λj=>?_) (k' λj=>?_)
 ·show(M.pk _ 0 _).testBit j=(p z).1.testBit j;rw[M.pk_bit,XH];by_cases Y:j < N.sts.length
  ·rw[<-Om g tp (h.val g 0 (2 ^ j)) z hz,hE Y];unfold hvl;rw[Y7,M.od_zero,Kj @A];simp
  ·rw[f' Y,Wx (eP b1 (gB @C @A))];rfl
 ·show(M.pk _ 0 _).testBit j=(p z).2.testBit j;rw[M.pk_bit,XH];by_cases Y:j < N.ins.length
  ·rw[<-Om g tp (h.val g (2 ^ j) 0) z hz,hE Y];unfold hvl;rw[Y7,M.od_zero,Kj @A];simp
  ·rw[f' Y,Wx (eP b2 (gB @C @A))];rfl
theorem Pq (p:Wz->Nat×Nat) (row st:Nat) (ws:B'):mat (hvl p row st) ws=M.tr2 (ws.map p) st row:=by
 apply k';intro k;rw[AF,M.tr2_bit,bx];by_cases hk:k < ws.length
 ·have Y:(ws.map p).getD k (0,0)=p (ws.getD k ""):=by rw[bB,hH,bB,cn hk];rfl
  rw[Y];unfold hvl;exact Eq.refl _
 ·rw[f' hk,X8,X8]
section
variable {N:Nt} (g:Gn N) {od:B'} (tp:Topo N.sums od) {p:Wz->Nat×Nat} (h:Hng N p)
include g tp h
theorem Ur (row st:Nat):nan N row st=M.tr2 (N.outs.map p) st row:=by rw[<-Po g tp (h.val g row st),Pq]
theorem Up (row st:Nat):nst N row st=M.tr2 ((N.sts.map (·.2)).map p) st row:=by rw[<-Pl g tp (h.val g row st),Pq]
theorem Pe:∀(rs:C') (st:Nat),ran N st rs=M.wan ((N.sts.map (·.2)).map p) (N.outs.map p) st rs
 | [],_=>rfl
 | r::rs,st=>by show nan N r st::ran N (nst N r st) rs=M.tr2 _ st r::M.wan _ _ (M.tr2 _ st r) rs;rw[Pe rs,Up g tp h,Ur g tp h]
end
structure Hgd (H:Hp) (d:eO) (N:Nt) (zs:B') (hs:Tn):Prop where
 d:H d=a' (.dK (hs.map λq=>(WO q.1,V.ref q.2)))
 nm:hs.map (·.1)=zs
 ob:∀q∈hs,H q.2=a' (.tup [nat (hgp N q.1).1,nat (hgp N q.1).2])
theorem Hgd.same {d:eO} {N:Nt} {zs:B'} (x:Hgd H d N zs hs) (s:Same H H2):Hgd H2 d N zs hs:=⟨s.get x.d,x.nm,λq m=>s.get (x.ob q m)⟩
theorem MO:z∈hs.map (·.1)->∃t,(z,t)∈hs/\valV (hs.map λq=>((WO q.1:Key),V.ref q.2)) (WO z)=a' (.ref t):=by
 induction hs with
 | nil=>intro h;cases h
 | cons q hs ih=>
   intro h;by_cases e:q.1=z
   ·subst e;exact⟨q.2,W6,by show valV ((WO q.1,V.ref q.2)::_) (WO q.1)=_;exact mQ rfl⟩
   ·have h':z∈hs.map (·.1):=by
     rw[Xk,WH] at h;exact h.resolve_left λY=>e Y.symm
    obtain⟨t,m,v⟩:=ih h';refine⟨t,W1 _ m,?_⟩;show valV ((WO q.1,V.ref q.2)::_) (WO z)=_;rw[mR λY=>e (ZV Y)];exact v
theorem Hgd.val {d:eO} {N:Nt} {zs:B'} (x:Hgd H d N zs hs) (h:z∈zs):∃t,valV (hs.map λq=>((WO q.1:Key),V.ref q.2)) (WO z)=a' (.ref t)/\H t=a' (.tup [nat (hgp N z).1,nat (hgp N z).2]):=by
 obtain⟨t,m,v⟩:=MO (hs:=hs) (z:=z) (by rw[x.nm];exact h);exact⟨t,v,x.ob _ m⟩
def Nj (Y:NP):Sp:=λvs H Q _=>∃(p:eO) (N:Nt) (od:B'),vs=[.ref p]/\Y H p N od/\∀(d:eO) (H2:Hp) (hs:Tn),H d=gn->Same H H2->Hgd H2 d N (need N od) hs->Q (.ref d) H2
def MZ (Y:NP) (C:eO):Sp:=λvs H Q _=>∃(p:eO) (N:Nt) (od:B'),vs=[.ref p]/\Y H p N od/\∀(x:eO) (H2:Hp) (nx os:ef Pr3),H x=gn->Same H H2->MaA H2 C x N.ins.length nx os->MaG N.ins.length nx os->prs nx=(N.sts.map (·.2)).map (hgp N)->prs os=N.outs.map (hgp N)->Q (.ref x) H2
noncomputable def nmb (l:Wz) (n:Nat):B':=(lx n).map λk=>l++tx k
theorem bM (l:Wz) (n:Nat):(nmb l n).length=n:=by unfold nmb;rw[bx,W7]
theorem NT (l:Wz) (n:Nat):nmb l (n + 1)=nmb l n++[l++tx n]:=by unfold nmb;rw[XR,ee];rfl
theorem AC {l:Wz} {n k:Nat} (h:k < n):(nmb l n)[k]? =a' (l++tx k):=by unfold nmb;rw[hH,Xu h];rfl
theorem Pn {l:Wz} {n k:Nat} (h:k < n):l++tx k∈nmb l n:=dt (AC h)
theorem BW {l:Wz} {n k:Nat} (h:(nmb l n)[k]? =a' z):k < n/\z=l++tx k:=by
 have hk:=(bA.mp h).1;rw[bM] at hk;rw[AC hk] at h;exact⟨hk,(WB h).symm⟩
theorem ug {l:Wz} {n:Nat} (h:z∈nmb l n):∃k,k < n/\z=l++tx k:=by
 obtain⟨k,hk⟩:=Xm.mp h;exact⟨k,BW hk⟩
theorem CO:("s":Wz).cps.toList=[115]:=by decide +kernel
theorem CU:("i":Wz).cps.toList=[105]:=by decide +kernel
theorem CQ:("n":Wz).cps.toList=[110]:=by decide +kernel
theorem CP:("o":Wz).cps.toList=[111]:=by decide +kernel
theorem tP {k:Nat} (h:k < 2500):dval (tx k).cps.toList=k:=(OX ⟨k,h⟩).1.1
theorem Kf {l:Wz} {k:Nat} (h1:l.cps.toList=[c]) (h2:hJ.cps.toList=[d]) (α:j < 2500) (hk:k < 2500) (e:l++tx j=hJ++tx k):c=d/\j=k:=by
 have Y:=Wy (λz:Wz=>z.cps.toList) e;simp only[uL] at Y;rw[h1,h2,Y9,Y9] at Y;injection Y with a b
 have:=Wy dval b;rw[tP α,tP hk] at this;exact⟨a,this⟩
theorem FF {l:Wz} {k:Nat} (h1:l.cps.toList=[c]) (hc:low c=true) (hk:k < 2500):Nm (l++tx k):=by
 obtain⟨⟨_,h2⟩,α⟩:=OX ⟨k,hk⟩;show nm _=true;rw[uL,h1,Y9];generalize hl:(tx k).cps.toList=l at h2 α;show(decide ((c::l).length<=6)&&low c&&(c::l).all λc=>low c||fig c)=true;rw[hc,ai0,hc]
 have Y:l.all (λc=>low c||fig c)=true:=by
  rw[YC] at h2 ⊢;intro x Z;rw[h2 x Z,Bool.or_true]
 rw[Y,Xa,hE @A];rfl
theorem FK {l:Wz} {n:Nat} (h1:l.cps.toList=[c]) (hn:n<=2500):(nmb l n).Nodup:=by
 unfold nmb;rw[List.nodup_iff_pairwise_ne,ZY];refine ZG (λ{a b} ha hb Y e=>?_) (ac0 (n:=n));have:=(Kf h1 h1 (by have:=Xd.mp ha;omega) (by have:=Xd.mp hb;omega) e).2;omega
theorem mi {l:Wz} {n:Nat} (h1:l.cps.toList=[c]) (h2:hJ.cps.toList=[d]) (Y:c≠d) (hn:n<=2500) (β:G<=2500) (hz:z∈nmb l n):z∉nmb hJ G:=fun ν=>by
 obtain⟨j,γ,rfl⟩:=ug hz;obtain⟨k,hk,e⟩:=ug ν;exact Y (Kf h1 h2 @A @A e).1
noncomputable def wr2 (q:Nat×Nat):B':=(M.pl 1000 q.1).map (λk=>("s":Wz)++tx k)++(M.pl 1000 q.2).map (λk=>("i":Wz)++tx k)
noncomputable def jz (m:Nat) (ps os:A'):Nt:=⟨nmb "i" m,YL (nmb "n" ps.length++nmb "o" os.length) ((ps++os).map wr2),YL (nmb "s" ps.length) (nmb "n" ps.length),nmb "o" os.length⟩
structure Sml (m:Nat) (ps os:A'):Prop where
 m6:m<=6
 lp:ps.length<=16
 lo:os.length<=6
 bn:∀q∈ps++os,q.1 < 2 ^ ps.length/\q.2 < 2 ^ m
section
variable {m:Nat} {ps os:A'} (b:Sml m ps os)
include b
theorem IS {q:Nat×Nat} (hq:q∈ps++os) (h:z∈wr2 q):z∈nmb "s" ps.length∨z∈nmb "i" m:=by
 have hb:=b.bn q hq;rcases hB.mp h with h | h
 ·obtain⟨k,hk,rfl⟩:=ic.mp h;exact .inl (Pn (M.pl_lt hb.1 k hk))
 ·obtain⟨k,hk,rfl⟩:=ic.mp h;exact .inr (Pn (M.pl_lt hb.2 k hk))
theorem FO:(jz m ps os).sums.map (·.1)=nmb "n" ps.length++nmb "o" os.length:=by
 show(YL _ _).map an6=_;rw[ae4];rw[eX,bM,bM,bx,eX];exact p' _
theorem FM:(jz m ps os).sts.map (·.1)=nmb "s" ps.length:=by
 show(YL _ _).map an6=_;rw[ae4];rw[bM,bM];exact p' _
theorem FL:(jz m ps os).sts.map (·.2)=nmb "n" ps.length:=by
 show(YL _ _).map Prod.snd=_;rw[as7];rw[bM,bM];exact p' _
theorem ku:(jz m ps os).names=nmb "i" m++(nmb "n" ps.length++nmb "o" os.length)++nmb "s" ps.length:=by
 unfold Nt.names;rw[FO b,FM b];rfl
theorem w9 {ws:B'} (h:(z,ws)∈(jz m ps os).sums):∃q∈ps++os,ws=wr2 q:=by
 have:=(ac6 (show(z,ws)∈YL _ _ from h)).2;obtain⟨q,Y,e⟩:=ic.mp this;exact⟨q,Y,e.symm⟩
theorem ui:Gn (jz m ps os) where
 li:=by show(nmb "i" m).length<=6;rw[bM];exact b.m6
 ls:=by
  show(YL _ _).length<=40;have:=b.lp;have:=b.lo;rw[Zw,eX,bM,bM,bx,eX];omega
 lt:=by
  show(YL _ _).length<=16;have:=b.lp;rw[Zw,bM,bM];omega
 lo:=by show(nmb "o" os.length).length<=6;rw[bM];exact b.lo
 lw:=λr Z=>by
  obtain⟨q,β,e⟩:=w9 b (z:=r.1) (ws:=r.2) Z;rw[e];unfold wr2;have hb:=b.bn q β;have δ:M.pl 1000 q.1=M.pl ps.length q.1:=M.pl_up hb.1 (by have:=b.lp;omega);have γ:M.pl 1000 q.2=M.pl m q.2:=M.pl_up hb.2 (by have:=b.m6;omega);rw[eX,bx,bx,δ,γ];have:=M.pl_le ps.length q.1;have:=M.pl_le m q.2;have:=b.lp;have:=b.m6;omega
 nm:=λz hz=>by
  have:=b.lp;have:=b.lo;have:=b.m6;rw[ku b] at hz;rcases hB.mp hz with h | h
  ·rcases hB.mp h with h | h
   ·obtain⟨k,hk,rfl⟩:=ug h;exact FF CU @C @A
   ·rcases hB.mp h with h | h
    ·obtain⟨k,hk,rfl⟩:=ug h;exact FF CQ @C @A
    ·obtain⟨k,hk,rfl⟩:=ug h;exact FF CP @C @A
  ·obtain⟨k,hk,rfl⟩:=ug h;exact FF CO @C @A
 nd:=by
  have:=b.lp;have:=b.lo;have:=b.m6;rw[ku b,Xz,Xz,Xz];refine⟨⟨FK CU @A,⟨FK CQ @A,FK CP @A,λx α y Y e=>mi CQ CP @C @A @A α (e ▸ Y)⟩,λx α y Y e=>?_⟩,FK CO @A,λx α y Y e=>?_⟩
  ·subst e;rcases hB.mp Y with h | h
   ·exact mi CU CQ @C @A @A α h
   ·exact mi CU CP @C @A @A α h
  ·subst e;rcases hB.mp α with h | h
   ·exact mi CU CO @C @A @A h Y
   ·rcases hB.mp h with h | h
    ·exact mi CQ CO @C @A @A h Y
    ·exact mi CP CO @C @A @A h Y
 ws:=λr Z z hz=>by
  obtain⟨q,β,e⟩:=w9 b (z:=r.1) (ws:=r.2) Z;rw[e] at hz;rw[ku b];rcases IS b β hz with h | h
  ·exact lA _ h
  ·exact qb _ (qb _ h)
 ts:=λr Z=>by
  have:r.2∈(jz m ps os).sts.map (·.2):=ic.mpr ⟨r,Z,rfl⟩;rw[FL b] at this;rw[ku b];exact qb _ (lA _ (qb _ this))
 os:=λz hz=>by
  rw[ku b];exact qb _ (lA _ (lA _ hz))
 rk:=⟨λ_=>0,λr Z z hz hs=>by
  have:=b.lp;have:=b.lo;have:=b.m6;obtain⟨q,β,e⟩:=w9 b (z:=r.1) (ws:=r.2) Z;rw[e] at hz;rw[FO b] at hs;rcases IS b β hz with h | h
  ·rcases hB.mp hs with h' | h'
   ·exact hQ h' (mi CO CQ @C @A @A h)
   ·exact hQ h' (mi CO CP @C @A @A h)
  ·rcases hB.mp hs with h' | h'
   ·exact hQ h' (mi CU CQ @C @A @A h)
   ·exact hQ h' (mi CU CP @C @A @A h)⟩
end
noncomputable def dec (ps os:A') (z:Wz):Nat×Nat:=match z.cps.toList with
 | []=>(0,0)
 | c::r=>if c=105 then (0,2 ^ dval r) else if c=115 then (2 ^ dval r,0) else if c=110 then ps.getD (dval r) (0,0) else os.getD (dval r) (0,0)
theorem RW (ps os:A') {k:Nat} (h:k < 2500):dec ps os (("i":Wz)++tx k)=(0,2 ^ k):=by
 unfold dec;rw[uL,CU,Y9];dsimp only;rw[zt rfl,tP h]
theorem RV (ps os:A') {k:Nat} (h:k < 2500):dec ps os (("s":Wz)++tx k)=(2 ^ k,0):=by
 unfold dec;rw[uL,CO,Y9];dsimp only;rw[oT @C,zt rfl,tP h]
theorem U7 (ps os:A') {k:Nat} (h:k < 2500):dec ps os (("n":Wz)++tx k)=ps.getD k (0,0):=by
 unfold dec;rw[uL,CQ,Y9];dsimp only;rw[oT @C,oT @C,zt rfl,tP h]
theorem U6 (ps os:A') {k:Nat} (h:k < 2500):dec ps os (("o":Wz)++tx k)=os.getD k (0,0):=by
 unfold dec;rw[uL,CP,Y9];dsimp only;rw[oT @C,oT @C,oT @C,tP h]
theorem OS (f:Wz->Nat) (a c:B'):xf f (a++c)=xf f a^^^xf f c:=by
 induction c using M.rev_ind with
 | h0=>rw[Y8];exact(XI _).symm
 | h1 l x ih=>rw[<-aa0,qU,qU,ih,Xv]
theorem OQ (f:Wz->Nat):∀(ws:B'),(∀w∈ws,f w=0)->xf f ws=0:=by
 intro ws
 induction ws using M.rev_ind with
 | h0=>intro _;rfl
 | h1 l x ih=>intro h;rw[qU,ih λw hw=>h w (qb _ hw),h x (lA _ (gA.mpr rfl))];rfl
theorem OP (f:Wz->Nat) (nm:Nat->Wz):∀(l:C'),(∀k∈l,f (nm k)=2 ^ k)->xf f (l.map nm)=M.xm l:=by
 intro l
 induction l using M.rev_ind with
 | h0=>intro _;rfl
 | h1 l x ih=>intro h;rw[ee,Yl,qU,M.xm_snoc,ih λw hw=>h w (qb _ hw),h x (lA _ (gA.mpr rfl))]
theorem RU (ps os:A') {q:Nat×Nat} (h1:q.1 < 2 ^ 1000) (h2:q.2 < 2 ^ 1000):(xf (λw=>(dec ps os w).1) (wr2 q),xf (λw=>(dec ps os w).2) (wr2 q))=q:=by
 have hl:∀{x k:Nat},k∈M.pl 1000 x->k < 2500:=λ{x k} h=>by
  have:=Xd.mp (Y4.mp h).1;omega
 unfold wr2;rw[OS,OS];refine aj3 ?_ ?_
 ·show _^^^_=q.1;rw[OP _ _ _ (λk hk=>by rw[RV _ _ (hl hk)]),OQ _ _ (λw hw=>by obtain⟨k,hk,rfl⟩:=ic.mp hw;rw[RW _ _ (hl hk)]),DF h1,XI]
 ·show _^^^_=q.2;rw[OQ _ (ab5 _ (M.pl 1000 q.1)) (λw hw=>by obtain⟨k,hk,rfl⟩:=ic.mp hw;rw[RV _ _ (hl hk)]),OP _ _ _ (λk hk=>by rw[RW _ _ (hl hk)]),DF h2,Yy]
section
variable {m:Nat} {ps os:A'} (b:Sml m ps os)
include b
theorem Kq:Hng (jz m ps os) (dec ps os) where
 i:=λk z h=>by
  have:=b.m6;obtain⟨hk,rfl⟩:=BW (show(nmb "i" m)[k]? =a' z from h);exact RW _ _ @A
 t:=λk z y h=>by
  have:=b.lp;have h':=(Yf (l₁:=nmb "s" ps.length) (l₂:=nmb "n" ps.length)).mp h;obtain⟨hk,e⟩:=BW h'.1;have e:z=_:=e;rw[e];exact RV _ _ @A
 s:=λz ws h=>by
  have:=b.lp;have:=b.lo;have:=b.m6;obtain⟨k,hk⟩:=Xm.mp h;have h':=(Yf (l₁:=nmb "n" ps.length++nmb "o" os.length) (l₂:=(ps++os).map wr2)).mp hk;obtain⟨h1,h2⟩:=h';have h1:(nmb "n" ps.length++nmb "o" os.length)[k]? =a' z:=h1;have h2:((ps++os).map wr2)[k]? =a' ws:=h2;rw[hH] at h2;obtain⟨q,Y,rfl⟩:=YR.mp h2;have hb:=b.bn q (dt Y);rw[RU ps os (eP hb.1 (gB @C @A)) (eP hb.2 (gB @C @A))];by_cases Z:k < ps.length
  ·rw[mu (by rw[bM];exact Z)] at h1;obtain⟨_,rfl⟩:=BW h1;rw[U7 _ _ @A,bB];rw[mu Z] at Y;rw[Y];rfl
  ·rw[ov (by rw[bM];omega),bM] at h1;obtain⟨_,rfl⟩:=BW h1;rw[U6 _ _ @A,bB];rw[ov @A] at Y;rw[Y];rfl
theorem NV:(jz m ps os).sts.length=ps.length:=by
 have:=Wy X3 (FM b);rw[bx,bM] at this;exact this
theorem PN:((jz m ps os).sts.map (·.2)).map (dec ps os)=ps:=by
 rw[FL b];have:=b.lp;apply YM;intro k;rw[hH];by_cases hk:k < ps.length
 ·rw[AC hk,ak8,U7 _ _ @A,bB,cn hk];rfl
 ·rw[X7 (by rw[bM];omega),X7 @A];rfl
theorem PM:(jz m ps os).outs.map (dec ps os)=os:=by
 show(nmb "o" os.length).map _=os;have:=b.lo;apply YM;intro k;rw[hH];by_cases hk:k < os.length
 ·rw[AC hk,ak8,U6 _ _ @A,bB,cn hk];rfl
 ·rw[X7 (by rw[bM];omega),X7 @A];rfl
theorem Kp (tp:Topo (jz m ps os).sums N):((jz m ps os).sts.map (·.2)).map (hgp (jz m ps os))=ps/\(jz m ps os).outs.map (hgp (jz m ps os))=os:=by
 have g:=ui b;have hn:=Kq b
 have bd:∀q∈ps++os,q.1 < 2 ^ (jz m ps os).sts.length/\q.2 < 2 ^ (jz m ps os).ins.length:=λq Y=>by
  rw[NV b,show(jz m ps os).ins.length=m from bM _ _];exact b.bn q Y
 constructor
 ·refine Eq.trans (Ye λz hz=>?_) (PN b);have hm:dec ps os z∈ps:=by have:=ic.mpr ⟨z,hz,(rfl:dec ps os z=_)⟩;rw[PN b] at this;exact this
  have hb:=bd _ (qb _ hm);obtain⟨q,Y,rfl⟩:=ic.mp hz;exact Pu g tp hn (g.ts q Y) hb.1 hb.2
 ·refine Eq.trans (Ye λz hz=>?_) (PM b);have hm:dec ps os z∈os:=by have:=ic.mpr ⟨z,hz,(rfl:dec ps os z=_)⟩;rw[PM b] at this;exact this
  have hb:=bd _ (lA _ hm);exact Pu g tp hn (g.os z hz) hb.1 hb.2
end
theorem OE {k:Nat} (hk:k<=1000):((k:Int)).natAbs.log2 < 1920:=by
 rw[af9];rcases Nat.eq_zero_or_pos k with z | z
 ·rw[z];decide
 ·exact(aj8 @A).mpr (eP (show k < 2 ^ 14 by omega) (gB @C @C))
theorem LU {l:Wz} {k:Nat} (hl:l.length<=10) (hk:k<=1000):l.length + (tx k).length<=sizeLine:=by
 have Y:=PyProof.Rows.int_text_len_1921 (OE hk);rw[ra];show l.length + (toString (k:Int):Wz).length<=_;omega
def Qz:Sp:=λvs H Q _=>∃(l:Wz) (n:Nat),vs=[.str l,nat n]/\l.length<=10/\n<=1000/\∀(D:eO) (H2:Hp),H D=gn->Same H H2->H2 D=a' (.lst ((nmb l n).map V.str))->Q (.ref D) H2
def QA:Sp:=λvs H Q _=>∃(z:Wz) (t:eO) (x y:Nat),vs=[.str z,.ref t]/\H t=a' (.tup [nat x,nat y])/\x < 2 ^ 1000/\y < 2 ^ 1000/\∀(tt D:eO) (H2:Hp),H D=gn->Same H H2->H2 tt=a' (.tup [.str z,.ref D])->H2 D=a' (.lst ((wr2 (x,y)).map V.str))->Q (.ref tt) H2
def M9 (Y:NP) (C:eO):Sp:=λvs H Q _=>∃(p:eO) (m:Nat) (nx os:ef Pr3),vs=[.ref p]/\MaA H C p m nx os/\Sml m (prs nx) (prs os)/\∀(n:eO) (H2:Hp) (od:B'),H n=gn->Same H H2->Y H2 n (jz m (prs nx) (prs os)) od->Q (.ref n) H2
end Sx
variable {Lc:ef Sx.Qs} {rs:ef Sx.Rw}
namespace M
noncomputable def stj (ps:A'):C'->Nat->C'
 | S,0=>S
 | S,j + 1=>(stj ps S j).map λx=>tr2 ps x 0
noncomputable def sg0 (ps:A') (m:Nat):C':=(lx m).map λw=>tr2 ps 0 (2 ^ w)
noncomputable def rch (ps:A') (m:Nat):Nat->C'
 | 0=>[]
 | T + 1=>stj ps (sg0 ps m) T++rch ps m T
theorem stj_len (ps:A') (S:C'):∀j,(stj ps S j).length=S.length
 | 0=>rfl
 | j + 1=>by show((stj ps S j).map _).length=_;rw[bx,stj_len ps S j]
theorem sg0_len (ps:A') (m:Nat):(sg0 ps m).length=m:=by unfold sg0;rw[bx,W7]
theorem rch_len (ps:A') (m:Nat):∀T,(rch ps m T).length=T * m
 | 0=>by show 0=0 * m;rw[Nat.zero_mul]
 | T + 1=>by show(stj ps (sg0 ps m) T++rch ps m T).length=_;rw[eX,stj_len,sg0_len,rch_len ps m T,Nat.add_mul,ah5,al0]
theorem stj_lt (ps:A') (m:Nat):∀j,∀x∈stj ps (sg0 ps m) j,x < 2 ^ ps.length
 | 0,x,h=>by obtain⟨w,_,rfl⟩:=ic.mp h;exact tr2_lt _ _ _
 | j + 1,x,h=>by obtain⟨y,_,rfl⟩:=ic.mp h;exact tr2_lt _ _ _
theorem rch_lt (ps:A') (m:Nat):∀T,∀x∈rch ps m T,x < 2 ^ ps.length
 | 0,x,h=>hQ h (by simp[rch])
 | T + 1,x,h=>(hB.mp h).elim (stj_lt ps m T x) (rch_lt ps m T x)
theorem IY (ps:A'):∀(rows:C') (F:Nat),tr2 ps (sm rows F) 0=sm (rows.map λx=>tr2 ps x 0) F
 | [],F=>mS ps
 | r::rows,F=>by
   show tr2 ps ((if F.testBit 0 then r else 0)^^^sm rows (F / 2)) 0=(if F.testBit 0 then tr2 ps r 0 else 0)^^^sm (rows.map λx=>tr2 ps x 0) (F / 2);have e:=z6 ps (if F.testBit 0 then r else 0) (sm rows (F / 2)) 0 0;rw[XU] at e;rw[e,IY ps rows];cases F.testBit 0<;>simp[mS]
theorem DH (ps:A') (r:Nat):∀m,r < 2 ^ m->tr2 ps 0 r=sm (sg0 ps m) r
 | 0,h=>by have:r=0:=by have:r < 1:=h;omega
           rw[this,mS];rfl
 | m + 1,h=>by
   have es:sg0 ps (m + 1)=sg0 ps m++[tr2 ps 0 (2 ^ m)]:=by unfold sg0;rw[XR,ee];rfl
   rw[es,sm_snoc,sg0_len];by_cases hb:r.testBit m=true
   ·have Y:r^^^2 ^ m < 2 ^ m:=by
     apply Z2;intro i hi;rw[WN,W9];by_cases e:m=i
     ·subst e;rw[hb];simp
     ·rw[Wx (eP h (gB @C @A))];simp[e]
    have ih:=DH ps (r^^^2 ^ m) m Y
    have α:sm (sg0 ps m) r=sm (sg0 ps m) (r^^^2 ^ m):=by
     have:sm (sg0 ps m) (2 ^ m)=0:=by
      have h1:=sm_snoc (sg0 ps m) 0 (2 ^ m);have h2:=JA (sg0 ps m) 0;rw[sg0_len] at h2;rw[h2] at h1;simpa using h1.symm
     rw[sm_xor,this,XI]
    rw[zt hb,α,<-ih];have Z:=z6 ps 0 0 (r^^^2 ^ m) (2 ^ m);rw[XU,xor_cancel] at Z;exact Z
   ·have Y:r < 2 ^ m:=by
     apply Z2;intro i hi;by_cases e:i=m
     ·subst e;simpa using hb
     ·exact Wx (eP h (gB @C @A))
    rw[oT hb,XI,DH ps r m Y]
noncomputable def zs (ps:A') (x:Nat):Nat->Nat
 | 0=>x
 | n + 1=>tr2 ps (zs ps x n) 0
noncomputable def upk (w q T:Nat):C':=(lx T).map λt=>(q>>>(t * w))&&&(2 ^ w - 1)
theorem Je (ps:A') (m w:Nat) (hw:w < m):∀j,zs ps (tr2 ps 0 (2 ^ w)) j∈stj ps (sg0 ps m) j
 | 0=>ic.mpr ⟨w,Xd.mpr hw,rfl⟩
 | j + 1=>ic.mpr ⟨_,Je ps m w hw j,rfl⟩
theorem JP (ps:A') (m:Nat) {j:Nat} {x:Nat} (h:x∈stj ps (sg0 ps m) j):∀{T},j < T->x∈rch ps m T
 | T + 1,Y=>by
   by_cases e:j=T
   ·subst e;exact qb _ h
   ·exact lA _ (JP ps m h @A)
structure Kern (R ms:C'):Prop where
 inj:Inj ms
 lt:∀m∈ms,m < 2 ^ R.length
 ev:∀m∈ms,sm R m=0
 all:∀z,z < 2 ^ R.length->sm R z=0->Span ms z
structure Lft (left rows:C'):Prop where
 nz:∀x∈left,x≠0
 pw:left.Pairwise λa b=>b.testBit a.log2=false
 sp:∀x,Span left x↔Span rows x
 len:left.length=(fr rows).length
noncomputable def bm (rows:C') (b:Nat):Nat:=am9 (Bar rows b)
structure Fst (ms:C') (p:Nat):Prop where
 lt:p < ms.length
 out:∀k,k < p->¬Span (ms.take k) (ms.getD k 0)
 in_:Span (ms.take p) (ms.getD p 0)
theorem Px {ms:C'}:∀j,j<=ms.length->(∀k,k < j->¬Span (ms.take k) (ms.getD k 0))->(fr (ms.take j)).length=j
 | 0,_,_=>by have:=fr_len (ms.take 0);simpa using this
 | j + 1,Y,h=>by
   have e:ms.take (j + 1)=ms.take j++[ms.getD j 0]:=by
    rw[ad2,cn @A,bB,cn @A];rfl
   rw[e,fr_out (h j (Y5 j)),eX,Px j @A (λk hk=>h k @A)];rfl
theorem chain_short {n:Nat} (hb:∀x∈as,x < 2 ^ n) (Z:j<=as.length) (h:∀k,k < j->¬Span (as.take k) (as.getD k 0)):j<=n:=by
 rw[<-Px j Z h];exact rank_le λr Y=>hb r (ad3 Y)
noncomputable def zl (ps:A') (d n:Nat):C':=(lx (n + 1)).map (zs ps d)
theorem zl_len (ps:A') (d n:Nat):(zl ps d n).length=n + 1:=by unfold zl;rw[bx,W7]
theorem Fi {ps:A'} {n k:Nat} (h:k<=n):(zl ps d n)[k]? =a' (zs ps d k):=by
 unfold zl;rw[hH,Xu @A];rfl
theorem II {ps:A'} {n k:Nat} (h:k<=n):(zl ps d n).getD k 0=zs ps d k:=by rw[bB,Fi h];rfl
theorem zs_lt {ps:A'} (h:d < 2 ^ ps.length):∀k,zs ps d k < 2 ^ ps.length
 | 0=>h
 | k + 1=>tr2_lt _ _ _
theorem zl_lt {ps:A'} {n:Nat} (h:d < 2 ^ ps.length):∀x∈zl ps d n,x < 2 ^ ps.length:=λx Y=>by
 obtain⟨k,_,rfl⟩:=ic.mp Y;exact zs_lt h k
theorem DQ {rows:C'}:∀(rs:C'),(∀x∈rs,Span rows x)->∀F,Span rows (sm rs F)
 | [],_,_=>span_zero rows
 | r::rs,h,F=>by
   show Span rows ((if F.testBit 0 then r else 0)^^^sm rs (F / 2));refine span_xor ?_ (DQ rs (λx Y=>h x (W1 _ Y)) (F / 2));split
   ·exact h r W6
   ·exact span_zero rows
theorem P9 {ps:A'} {n p:Nat} (F:Fst (zl ps d n) p):∀t,Span ((zl ps d n).take p) (zs ps d t):=by
 have γ:p<=n:=by have:=F.lt;rw[zl_len] at this;omega
 have Y:=F.in_;rw[II γ] at Y;have Z:∀k,k < p->Span ((zl ps d n).take p) (zs ps d k):=λk hk=>pF (dt (i:=k) (by rw[Xx hk];exact Fi @A));intro t
 induction t with
 | zero=>
   by_cases θ:p=0
   ·subst θ;exact Y
   ·exact Z 0 @A
 | succ t ih=>
   obtain⟨G,_,δ⟩:=jh ih;show Span _ (tr2 ps (zs ps d t) 0);rw[<-δ,IY];refine DQ _ (λx β=>?_) G;obtain⟨y,α,rfl⟩:=ic.mp β;obtain⟨k,hk⟩:=ao5 α
   have ρ:k < p:=by
    have:=(bA.mp hk).1;rw[tu] at this;omega
   rw[Xx ρ,Fi @A] at hk;cases hk;show Span _ (zs ps d (k + 1));by_cases h1:k + 1 < p
   ·exact Z _ h1
   ·have:k + 1=p:=by omega
    rw[this];exact Y
theorem IH (ps:A') (d:Nat):∀i,zs ps (tr2 ps d 0) i=zs ps d (i + 1)
 | 0=>rfl
 | i + 1=>by show tr2 ps (zs ps (tr2 ps d 0) i) 0=_;rw[IH ps d i];rfl
theorem Fl (ps os:A'):∀(rs:C') (a k:Nat),wan ps os a (rs.take k)=(wan ps os a rs).take k
 | [],_,k=>by simp[wan]
 | r::rs,a,0=>rfl
 | r::rs,a,k + 1=>by
   show tr2 os a r::wan ps os (tr2 ps a r) (rs.take k)=_;rw[Fl ps os rs];rfl
noncomputable def act (ps:A') (x Q:Nat):Nat:=if Q=0 then 0 else (if Q % 2=1 then x else 0)^^^act ps (tr2 ps x 0) (Q / 2)
termination_by Q
decreasing_by omega
theorem dn (ps:A') (x:Nat):act ps x 0=0:=by unfold act;rfl
theorem qT (ps:A') (x Q:Nat):act ps x Q=(if Q % 2=1 then x else 0)^^^act ps (tr2 ps x 0) (Q / 2):=by
 by_cases h:Q=0
 ·subst h;rw[dn];simp[dn]
 ·rw[act.eq_def,oT h]
theorem OF (ps:A'):∀(n x b c:Nat),b + c<=n->act ps x (b^^^c)=act ps x b^^^act ps x c:=by
 intro n
 induction n with
 | zero=>
   intro x b c h;have h1:b=0:=by omega
   have h2:c=0:=by omega
   subst h1;subst h2;simp[dn]
 | succ n ih=>
   intro x b c h;by_cases θ:b + c=0
   ·have h1:b=0:=by omega
    have h2:c=0:=by omega
    subst h1;subst h2;simp[dn]
   ·rw[qT ps x (b^^^c),qT ps x b,qT ps x c,vR,ih _ (b / 2) (c / 2) @A,xor4];congr 1;have hm:=FS b c;by_cases hb:b % 2=1<;>by_cases Y:c % 2=1<;>simp[hb,Y,hm]
theorem E9 (ps:A') (x b c:Nat):act ps x (b^^^c)=act ps x b^^^act ps x c:=OF ps _ x b c (p' _)
theorem SK (ps:A') (x y:Nat):tr2 ps (x^^^y) 0=tr2 ps x 0^^^tr2 ps y 0:=by
 have:=z6 ps x y 0 0;rwa [XU] at this
theorem L5 (ps:A'):∀n Q,Q<=n->act ps 0 Q=0:=by
 intro n
 induction n with
 | zero=>intro Q h;rw[show Q=0 by omega,dn]
 | succ n ih=>
   intro Q h;by_cases θ:Q=0
   ·rw[θ,dn]
   ·rw[qT,mS,ih _ @A];simp
theorem Wm (ps:A'):∀(n Q x:Nat),Q<=n->act ps (tr2 ps x 0) Q=tr2 ps (act ps x Q) 0:=by
 intro n
 induction n with
 | zero=>intro Q x h;rw[show Q=0 by omega,dn,dn,mS]
 | succ n ih=>
   intro Q x h;by_cases θ:Q=0
   ·rw[θ,dn,dn,mS]
   ·rw[qT ps (tr2 ps x 0),qT ps x,SK,ih (Q / 2) _ @A];congr 1;by_cases hb:Q % 2=1
    ·rw[zt hb,zt hb]
    ·rw[oT hb,oT hb,mS]
theorem L4 (ps:A') (x Q:Nat):act ps x (2 * Q)=act ps (tr2 ps x 0) Q:=by
 rw[qT,oT @A,show 2 * Q / 2=Q by omega,Yy]
theorem L3 (ps:A'):∀(k x:Nat),act ps x (2 ^ k)=zs ps x k
 | 0,x=>by rw[ad7,qT];simp[dn];rfl
 | k + 1,x=>by rw[XX,Z9,L4,L3 ps k,IH]
theorem P3 (ps:A') (a:Nat):∀(n b x:Nat),b<=n->act ps x (cm a b)=act ps (act ps x a) b:=by
 intro n
 induction n with
 | zero=>intro b x h;rw[show b=0 by omega,gu,dn,dn]
 | succ n ih=>
   intro b x h;by_cases θ:b=0
   ·rw[θ,gu,dn,dn]
   ·rw[rP,E9,L4,ih (b / 2) _ @A,qT ps (act ps x a) b,Wm ps _ a x (p' _)];congr 1;by_cases hb:b % 2=1
    ·rw[zt hb,zt hb]
    ·rw[oT hb,oT hb,dn]
theorem L1 (ps:A'):∀(n x Q:Nat),Q < 2 ^ n->act ps x Q=sm ((lx n).map (zs ps x)) Q
 | 0,x,Q,h=>by
   have:Q < 1:=h;rw[show Q=0 by omega,dn,sm_zero]
 | n + 1,x,Q,h=>by
   rw[am6,Xk,WT,qT,L1 ps n _ (Q / 2) (by rw[XX] at h;omega)];show _=(if Q.testBit 0 then zs ps x 0 else 0)^^^sm _ (Q / 2);have e:(zs ps x ∘ Nat.succ)=zs ps (tr2 ps x 0):=by funext i;rw[IH];rfl
   rw[e,ZW];congr 1;by_cases hb:Q % 2=1<;>simp[hb]<;>rfl
theorem Qa {ps:A'} {n p:Nat} (h:p<=n + 1):(zl ps x n).take p=(lx p).map (zs ps x):=by
 unfold zl;rw[<-Za,at4,Yk h]
structure Lst (ps:A') (x P:Nat):Prop where
 nz:P≠0
 dv:∀Q,act ps x Q=0↔Dv P Q
theorem least_of {ps:A'} {n p:Nat} (F:Fst (zl ps x n) p) (hq:q < 2 ^ p) (e:sm ((zl ps x n).take p) q=(zl ps x n).getD p 0):Lst ps x (q^^^2 ^ p)/\(q^^^2 ^ p).log2=p:=by
 have ε:p<=n:=by have:=F.lt;rw[zl_len] at this;omega
 obtain⟨θ,hl⟩:=sG hq;have δ:=Qa (ps:=ps) (x:=x) (n:=n) (p:=p) @A
 have β:act ps x (q^^^2 ^ p)=0:=by
  rw[E9,L3,L1 ps p x q hq,<-δ,e,II ε,XU]
 have Y:∀Q,Q < 2 ^ p->act ps x Q=0->Q=0:=λQ τ h=>by
  rw[L1 ps p x Q τ,<-δ] at h;refine sum_uniq (rows:=(zl ps x n).take p) (p:=Q) (q:=0) (λi hi=>?_) (Frs.zero _) (by rw[h,sm_zero])
  have α:i < p:=by
   refine at1 λhn=>?_;rw[Wx (eP τ (gB @C hn))] at hi;cases hi
  have Z:i < ((zl ps x n).take p).length:=by rw[tu,zl_len];omega
  refine⟨Z,?_⟩;have h1:((zl ps x n).take p).take i=(zl ps x n).take i:=by rw[List.take_take,Yk @A]
  have h2:((zl ps x n).take p).getD i 0=(zl ps x n).getD i 0:=by rw[bB,Xx α,<-bB]
  rw[h1,h2];exact F.out i α
 refine⟨⟨θ,λQ=>⟨λh=>?_,λh=>?_⟩⟩,hl⟩
 ·obtain⟨r,R⟩:=oI _ θ Q;obtain⟨w,ζ⟩:=R.dv;have h1:act ps x (Q^^^r)=0:=by rw[<-ζ,Bd,P3 ps _ _ w x (p' _),β,L5 ps _ w (p' _)]
  rw[E9,h,Yy] at h1;have γ:=R.lt;rw[hl] at γ;exact(R.dvd θ).mp (Y r γ h1)
 ·obtain⟨w,rfl⟩:=h;rw[Bd,P3 ps _ _ w x (p' _),β,L5 ps _ w (p' _)]
structure Rng (ps:A') (x l n:Nat):Prop where
 pos:1<=n
 back:zs ps x (l + n)=zs ps x l
 least:∀e,1<=e->e < n->zs ps x (l + e)≠zs ps x l
 early:1<=l->zs ps x (l - 1 + n)≠zs ps x (l - 1)
theorem order_lt {e:Nat} (hd:d % 2=1) (h1:1<=d.log2) (O:Ord d e):e < 2 ^ d.log2:=by
 have Y:d≠0:=by omega
 have hf:∃f:Nat->Nat,∀i,Rm d (2 ^ i) (f i):=⟨λi=>an3 (oI d Y (2 ^ i)),λi=>ab4 (oI d Y (2 ^ i))⟩;obtain⟨f,hf⟩:=hf;have one:1 < 2 ^ d.log2:=eP (by decide:1 < 2 ^ 1) (gB @C h1)
 have β:∀i j,i < j->f i=f j->Rm d (2 ^ (j - i)) 1:=λi j Z e=>by
  have h:=(hf i).dv.xor (hf j).dv;rw[e,xor4,XU,XI] at h
  have δ:2 ^ i^^^2 ^ j=(1^^^2 ^ (j - i)) * 2 ^ i:=by
   rw[BD,ah5,<-aa9];congr 2;omega
  rw[δ] at h;have h2:=Dv.halves hd i h;refine⟨one,?_⟩;rw[Z8];exact h2
 have nz:∀i,f i≠0:=λi h=>by
  have h2:=((hf i).dvd Y).mp h;rw[<-ah5 (2 ^ i)] at h2;have:=(Dv.halves hd i h2).small Y one;omega
 have nd:((lx e).map λi=>f i - 1).Nodup:=by
  refine ZY.mpr (ZG (λ{i j} hi α Z=>?_) ac0);intro ζ;have α:=Xd.mp α;have n1:=nz i;have ε:=nz j;exact O.least (j - i) @A @A (β i j Z @A)
 have:=vP (2 ^ d.log2 - 1) _ nd λx γ=>by
  obtain⟨i,_,rfl⟩:=ic.mp γ;have:=(hf i).lt;have:=nz i;omega
 rw[bx,W7] at this;omega
noncomputable def bl (A:C') (s n:Nat):C':=(lx (n + 1)).map (bkI A s)
theorem LX (A:C') (s n:Nat):(bl A s n).length=n + 1:=by unfold bl;rw[bx,W7]
theorem Gb {A:C'} {s n k:Nat} (h:k<=n):(bl A s n)[k]? =a' (bkI A s k):=by
 unfold bl;rw[hH,Xu @A];rfl
theorem R5 {A:C'} {s n k:Nat} (h:k<=n):(bl A s n).getD k 0=bkI A s k:=by rw[bB,Gb h];rfl
theorem bkI_lt {A:C'} {s w:Nat} (Y:∀x∈A,x < 2 ^ w) (h:s < 2 ^ w):∀k,bkI A s k < 2 ^ w
 | 0=>h
 | k + 1=>sm_lt _ Y
theorem Wl {A:C'} {s n w:Nat} (Z:∀x∈A,x < 2 ^ w) (h:s < 2 ^ w):∀x∈bl A s n,x < 2 ^ w:=λx Y=>by
 obtain⟨k,_,rfl⟩:=ic.mp Y;exact bkI_lt Z h k
theorem S3 (A:C'):∀(rows:C') (F:Nat),sm A (sm rows F)=sm (rows.map (sm A)) F
 | [],_=>sm_zero A
 | r::rows,F=>by
   show sm A ((if F.testBit 0 then r else 0)^^^sm rows (F / 2))=(if F.testBit 0 then sm A r else 0)^^^sm (rows.map (sm A)) (F / 2);rw[sm_xor,S3 A rows];cases F.testBit 0<;>simp[sm_zero]
theorem R6 {A:C'} {s n p:Nat} (F:Fst (bl A s n) p):∀t,Span ((bl A s n).take p) (bkI A s t):=by
 have γ:p<=n:=by have:=F.lt;rw[LX] at this;omega
 have Y:=F.in_;rw[R5 γ] at Y;have Z:∀k,k < p->Span ((bl A s n).take p) (bkI A s k):=λk hk=>pF (dt (i:=k) (by rw[Xx hk];exact Gb @A));intro t
 induction t with
 | zero=>
   by_cases θ:p=0
   ·subst θ;exact Y
   ·exact Z 0 @A
 | succ t ih=>
   obtain⟨G,_,δ⟩:=jh ih;show Span _ (sm A (bkI A s t));rw[<-δ,S3];refine DQ _ (λx β=>?_) G;obtain⟨y,α,rfl⟩:=ic.mp β;obtain⟨k,hk⟩:=ao5 α
   have ρ:k < p:=by
    have:=(bA.mp hk).1;rw[tu] at this;omega
   rw[Xx ρ,Gb @A] at hk;cases hk;show Span _ (bkI A s (k + 1));by_cases h1:k + 1 < p
   ·exact Z _ h1
   ·have:k + 1=p:=by omega
    rw[this];exact Y
end M
namespace Sx
open PySem L2
structure Sgl (H:Hp) (D:eO) (ds:M') (ps os:A') (n m:Nat):Prop where
 d:H D=a' (.lst (ds.map V.ref))
 len:ds.length=m
 at':∀(w:Nat) (d:eO),ds[w]? =a' d->H d=a' (.lst ((M.wan ps os 0 (M.pulse w n)).map nat))
structure TldA (H:Hp) (t D1 D2 D3 D4:eO) (rs:ef Rw) (qs:ef Qs) (N:Nt):Prop where
 t:H t=a' (.tup [.ref D1,.ref D2,.ref D3,.ref D4])
 i:H D1=a' (.lst (N.ins.map V.str))
 s:H D2=a' (.lst (rs.map λr=>V.ref r.1))
 sr:RwK H rs
 es:rs.map (·.2.2)=N.sums
 st:H D3=a' (.lst (qs.map λr=>V.ref r.1))
 tr:QsK H qs
 et:qs.map (·.2)=N.sts
 o:H D4=a' (.lst (N.outs.map V.str))
def Qr (Y:NP):Sp:=λvs H Q _=>∃(p:eO) (N:Nt) (od:B'),vs=[.ref p]/\Y H p N od/\∀(D:eO) (H2:Hp) (rs:ef Rw),H D=gn->Same H H2->H2 D=a' (.lst (rs.map λr=>V.ref r.1))->RwK H2 rs->rs.map (·.2.2)=N.sums->Q (.ref D) H2
structure Sumd (rows:C') (x q:Nat):Prop where
 lt:q < 2 ^ rows.length
 sm:M.sm rows q=x
 fr:M.Frs rows q
theorem Sumd.uniq {p:Nat} (a:Sumd rows x p) (b:Sumd rows x q):p=q:=M.sum_uniq a.fr b.fr (by rw[a.sm,b.sm])
structure Bard (rows:C') (x m:Nat):Prop where
 ns:¬M.Span rows x
 bar:∃y,M.Span rows y/\x^^^y≠0/\Vq rows (x^^^y).log2/\M.Bar rows (x^^^y).log2 m
 ev:∀y,M.Span rows y->M.od (m&&&y)=false
 odd:M.od (m&&&x)=true
 lt:∀W,(∀r∈rows,r < 2 ^ W)->x < 2 ^ W->m < 2 ^ W
def tR:Sp:=λvs H Q _=>∃(r:eO) (rows:C') (x:Nat),vs=[.ref r,nat x]/\H r=a' (.lst (rows.map nat))/\rows.length<=1000/\(∀r∈rows,r < 2 ^ 1000)/\x < 2 ^ 1000/\(M.Span rows x∨(M.fr rows).length < 64)/\
 (∀(t D:eO) (H2:Hp) (q:Nat),H D=gn->Same H H2->H2 t=a' (.tup [.str "sum",.ref D])->H2 D=a' (.lst ((M.pl 1000 q).map nat))->Sumd rows x q->Q (.ref t) H2)/\
 (∀(t:eO) (H2:Hp) (m:Nat),Same H H2->H2 t=a' (.tup [.str "no",nat m])->Bard rows x m->Q (.ref t) H2)
theorem DJ (vs:ef V) (H:Hp) (Q:VK) (E:XK) (h:Ji vs H Q E):tR vs H Q E:=by
 obtain⟨r,rows,x,rfl,h1,h2,γ,β,α,Z,Y⟩:=h;exact⟨r,rows,x,rfl,h1,h2,γ,β,α,λt D H2 q _ s e δ a=>Z t D H2 q s e δ a.lt a.sm,λt H2 m s e b=>Y t H2 m s e b.ns b.ev b.odd b.lt⟩
def Jh:Sp:=λvs H Q _=>∃(q wd T:Nat),vs=[nat q,nat wd,nat T]/\wd<=1000/\T<=1000/\∀(D:eO) (H2:Hp),H D=gn->Same H H2->H2 D=a' (.lst ((M.upk wd q T).map nat))->Q (.ref D) H2
def M4 (C:eO):Sp:=λvs H Q _=>∃(p:eO) (m:Nat) (nx os:ef Pr3) (T:Nat),vs=[.ref p,nat T]/\MaA H C p m nx os/\MaG m nx os/\T<=100/\∀(D:eO) (H2:Hp),H D=gn->Same H H2->H2 D=a' (.lst ((M.rch (prs nx) m T).map nat))->Q (.ref D) H2
def Jp (C:eO):Sp:=λvs H Q _=>∃(p D:eO) (m:Nat) (nx os:ef Pr3) (q T:Nat),vs=[.ref p,.ref D,nat T]/\MaA H C p m nx os/\MaG m nx os/\H D=a' (.lst ((M.pl 1000 q).map nat))/\q < 2 ^ 1000/\T<=1000/\∀(τ:eO) (H2:Hp),H τ=gn->Same H H2->H2 τ=a' (.lst ((M.upk m q T).map nat))->Q (.ref τ) H2
end Sx
namespace L2
open PySem
theorem Kb {K:b'} (h:X.K=K):OpR X (compareOp .NotIn) (rIn K true):=by subst h;exact BP
end L2
namespace Sx
open PySem L2
noncomputable def J (c:Nat):ef C'->C'
 | []=>[]
 | [x]=>x
 | x::y::r=>x++c::J c (y::r)
theorem PV {c:Nat}:∀{x y a b:C'},c∉x->c∉y->x++c::a=y++c::b->x=y/\a=b
 | [],[],a,b,_,_,h=>⟨rfl,(Zj h).2⟩
 | [],d::y,a,b,_,hy,h=>hQ (by rw[(Zj h).1];exact W6) hy
 | d::x,[],a,b,hx,_,h=>hQ (by rw[<-(Zj h).1];exact W6) hx
 | d::x,e::y,a,b,hx,hy,h=>by
   obtain⟨h1,h2⟩:=Zj h;obtain⟨Z,Y⟩:=PV (λz=>hx (W1 _ z)) (λz=>hy (W1 _ z)) h2;exact⟨by rw[h1,Z],Y⟩
theorem Vt {c:Nat}:∀(ws vs:ef C'),ws≠[]->vs≠[]->(∀w∈ws,c∉w)->(∀w∈vs,c∉w)->J c ws=J c vs->ws=vs
 | [],_,h,_,_,_,_=>hQ rfl h
 | _,[],_,h,_,_,_=>hQ rfl h
 | [x],[y],_,_,_,_,h=>by rw[show x=y from h]
 | [x],y::z::r,_,_,hx,_,h=>hQ (by rw[show x=y++c::J c (z::r) from h];simp) (hx x W6)
 | x::y::r,[z],_,_,_,hz,h=>hQ (by rw[show z=x++c::J c (y::r) from h.symm];simp) (hz z W6)
 | x::y::r,x'::Y::r',_,_,hx,hz,h=>by
   obtain⟨h1,h2⟩:=PV (hx x W6) (hz x' W6) (show x++c::J c (y::r)=x'++c::J c (Y::r') from h);rw[h1,Vt (y::r) (Y::r') @E @E (λw hw=>hx w (W1 _ hw)) (λw hw=>hz w (W1 _ hw)) h2]
theorem uO (c:Nat):∀ws:B',(ZE ⟨#[c]⟩ ws).cps.toList=J c (ws.map (·.cps.toList))
 | []=>rfl
 | [x]=>rfl
 | x::y::r=>by
   have ih:=uO c (y::r);show(x.cps++#[c]++(ZE ⟨#[c]⟩ (y::r)).cps).toList=x.cps.toList++c::J c ((y::r).map (·.cps.toList));rw[<-ih];simp
theorem zB {ws:B'} (h:ws≠[]) (hf:∀w∈ws,c∉w.cps.toList):Yw (ZE ⟨#[c]⟩ ws) ⟨#[c]⟩=ws:=by
 have γ:=StrLaws.join_split (ZE ⟨#[c]⟩ ws) ⟨#[c]⟩;have β:=StrLaws.split_free (ZE ⟨#[c]⟩ ws) c;have Z:=PyProof.Rows.split_pos (ZE ⟨#[c]⟩ ws) ⟨#[c]⟩;generalize Yw (ZE ⟨#[c]⟩ ws) ⟨#[c]⟩=vs at γ β Z ⊢;have α:=uO c vs;rw[γ,uO c ws] at α;have π:=Vt (c:=c) _ _ (by simpa using h) (by intro z;rw[List.map_eq_nil_iff] at z;subst z;simp at Z) (λw hw=>by obtain⟨v,Y,rfl⟩:=ic.mp hw;exact hf v Y) (λw hw=>by obtain⟨v,Y,rfl⟩:=ic.mp hw;exact β v Y) α;have inj:∀x y:Wz,x.cps.toList=y.cps.toList->x=y:=λ⟨⟨a⟩⟩ ⟨⟨b⟩⟩ h=>by cases(show a=b from h);rfl
 exact(List.map_inj_right inj).mp π.symm
theorem Fo (y:Wz) (l:B'):ao7 y l=ZE y l:=StrLaws.glued_eq_join _ _
theorem z8:(YZ " ")=⟨#[32]⟩:=by decide +kernel
theorem DN:(YZ "\n")=⟨#[10]⟩:=by decide +kernel
theorem Ug {K:b'} (h:X.K=K):OpR X (compareOp .In) (rIn K false):=by subst h;exact Kd
def Wd (z:Wz):Prop:=(32:Nat)∉z.cps.toList/\(10:Nat)∉z.cps.toList
theorem Nm.wd (h:Nm z):Wd z:=by
 have h:nm z.cps.toList=true:=h
 have β:∀c:Nat,(low c||fig c)=false->c∉z.cps.toList:=λc Y m=>by
  cases e:z.cps.toList with
  | nil=>rw[e] at m;cases m
  | cons d r=>
    rw[e] at h m;unfold nm at h;rw[Xc,YC] at h;have:=h.2 c m;rw[Y] at this;cases this
 exact⟨β 32 @C,β 10 @C⟩
theorem VC:Wd "in":=by unfold Wd;decide +kernel
theorem SE:Wd "out":=by unfold Wd;decide +kernel
theorem SD:Wd "sum":=by unfold Wd;decide +kernel
theorem MM:Wd "store":=by unfold Wd;decide +kernel
theorem SF:Wd "=":=by unfold Wd;decide +kernel
inductive Fm:B'->Prop where
 | i (z:Wz) (h:Nm z):Fm ["in",z]
 | o (z:Wz) (h:Nm z):Fm ["out",z]
 | s (z:Wz) (ws:B') (h:Nm z) (hw:∀w∈ws,Nm w) (l:ws.length<=24):Fm ("sum"::z::"="::ws)
 | t (z y:Wz) (h:Nm z) (hy:Nm y):Fm ["store",z,"=",y]
theorem Fm.wd {r:B'} (f:Fm r):∀w∈r,Wd w:=by
 cases f with
 | i z h=>intro w hw;simp at hw;rcases hw with rfl | rfl<;>first | exact VC | exact h.wd
 | o z h=>intro w hw;simp at hw;rcases hw with rfl | rfl<;>first | exact SE | exact h.wd
 | s z ws h Y l=>
   intro w hw;simp at hw;rcases hw with rfl | rfl | rfl | hw<;>first | exact SD | exact h.wd | exact SF | exact(Y w hw).wd
 | t z y h Z=>intro w hw;simp at hw;rcases hw with rfl | rfl | rfl | rfl<;>first | exact MM | exact h.wd | exact SF | exact Z.wd
theorem Fm.ne {r:B'} (f:Fm r):r≠[]:=by cases f<;>simp
theorem lenS:("in":Wz).length=2/\("out":Wz).length=3/\("sum":Wz).length=3/\("store":Wz).length=5/\("=":Wz).length=1/\("":Wz).length=0:=by decide +kernel
theorem Fm.len {r:B'} (f:Fm r):r.length<=27/\∀w∈r,w.length<=6:=by
 obtain⟨δ,τ,γ,β,α,_⟩:=lenS;cases f with
 | i z h=>exact⟨@E,λw hw=>by simp at hw;rcases hw with rfl | rfl<;>first | exact h.len | omega⟩
 | o z h=>exact⟨@E,λw hw=>by simp at hw;rcases hw with rfl | rfl<;>first | exact h.len | omega⟩
 | s z ws h Y l=>
   refine⟨by simp only[Xa];omega,λw hw=>?_⟩;simp at hw;rcases hw with rfl | rfl | rfl | hw<;>first | exact h.len | exact(Y w hw).len | omega
 | t z y h Z=>exact⟨@E,λw hw=>by simp at hw;rcases hw with rfl | rfl | rfl | rfl<;>first | exact h.len | exact Z.len | omega⟩
noncomputable def rowT (r:B'):Str:=ZE ⟨#[32]⟩ r
noncomputable def txtR (rows:ef B'):Str:=ZE ⟨#[10]⟩ (rows.map rowT)
theorem Vs {c d:Nat} (Y:c≠d):∀{ws:ef C'},(∀w∈ws,d∉w)->d∉J c ws
 | [],_=>by simp[J]
 | [x],h=>h x W6
 | x::y::r,h=>by
   show d∉x++c::J c (y::r);intro m;rcases hB.mp m with m | m
   ·exact h x W6 m
   ·rcases WH.mp m with m | m
    ·exact Y m.symm
    ·exact Vs Y (ws:=y::r) (λw hw=>h w (W1 _ hw)) m
theorem JN {r:B'} (h:∀w∈r,Wd w):(10:Nat)∉(rowT r).cps.toList:=by
 unfold rowT;rw[uO];exact Vs @C λw hw=>by obtain⟨v,Y,rfl⟩:=ic.mp hw;exact(h v Y).2
theorem GP {r:B'} (h:∀w∈r,Wd w) (ne:r≠[]):Yw (rowT r) ⟨#[32]⟩=r:=zB ne λw hw=>(h w hw).1
theorem Gi {rows:ef B'} (h:∀r∈rows,∀w∈r,Wd w) (ne:rows≠[]):Yw (txtR rows) ⟨#[10]⟩=rows.map rowT:=zB (by simpa using ne) λw hw=>by obtain⟨r,Y,rfl⟩:=ic.mp hw;exact JN (h r Y)
theorem Sl (c:Nat) {n:Nat}:∀{ws:ef C'},(∀w∈ws,w.length<=n)->(J c ws).length<=ws.length * (n + 1)
 | [],_=>XZ _
 | [x],h=>by have:=h x W6;show x.length<=1 * (n + 1);omega
 | x::y::r,h=>by
   have h1:=h x W6;have h2:=Sl c (n:=n) (ws:=y::r) λw hw=>h w (W1 _ hw);show(x++c::J c (y::r)).length<=_;rw[eX,Xa,Xa,ah8];omega
theorem Ak {r:B'} (h:∀w∈r,w.length<=6):(rowT r).length<=r.length * 7:=by
 rw[<-pU];unfold rowT;rw[uO];have:=Sl 32 (n:=6) (ws:=r.map (·.cps.toList)) λw hw=>by obtain⟨v,Y,rfl⟩:=ic.mp hw;rw[pU];exact h v Y
 rw[bx] at this;exact this
theorem MQ {rows:ef B'} (h:∀r∈rows,Fm r):(txtR rows).length<=rows.length * 190:=by
 rw[<-pU];unfold txtR;rw[uO]
 have:=Sl 10 (n:=189) (ws:=(rows.map rowT).map (·.cps.toList)) λw hw=>by
  obtain⟨v,Y,rfl⟩:=ic.mp hw;obtain⟨r,Z,rfl⟩:=ic.mp Y;rw[pU];have a:=(h r Z).len;have b:=Ak a.2;have:r.length * 7<=27 * 7:=ZF 7 a.1;omega
 rw[bx,bx] at this;exact this
theorem MU (h:z=""):z.cps.toList=[]:=DK.mp h
theorem J_ne (c:Nat):∀{ws:ef C'},(∃w∈ws,w≠[])->J c ws≠[]
 | [],⟨w,h,_⟩=>by cases h
 | [x],⟨w,h,n⟩=>by rw[gA.mp h] at n;exact n
 | x::y::r,_=>by show x++c::J c (y::r)≠[];simp
theorem Q5 {r:B'} (f:Fm r):(rowT r).cps.toList≠[]:=by
 unfold rowT;rw[uO];refine J_ne 32 ?_;cases f with
 | i z h=>exact⟨("in":Wz).cps.toList,@E,@H⟩
 | o z h=>exact⟨("out":Wz).cps.toList,@E,@H⟩
 | s z ws h Y l=>exact⟨("sum":Wz).cps.toList,@E,@H⟩
 | t z y h Z=>exact⟨("store":Wz).cps.toList,@E,@H⟩
theorem Qk {rows:ef B'} (h:∀r∈rows,Fm r) (ne:rows≠[]):txtR rows≠"":=λe=>by
 have:=MU e;unfold txtR at this;rw[uO] at this;refine J_ne 10 ?_ this;cases rows with
 | nil=>exact hQ rfl ne
 | cons r l=>exact⟨(rowT r).cps.toList,@E,Q5 (h r W6)⟩
noncomputable def kd (k:Wz) (r:B'):Bool:=decide (r.getD 0 ""=k)
noncomputable def insR (rows:ef B'):B':=(rows.filter (kd "in")).map λr=>r.getD 1 ""
noncomputable def sumR (rows:ef B'):ef (Wz×ef Wz):=(rows.filter (kd "sum")).map λr=>(r.getD 1 "",r.drop 3)
noncomputable def stoR (rows:ef B'):ef (Wz×Wz):=(rows.filter (kd "store")).map λr=>(r.getD 1 "",r.getD 3 "")
noncomputable def outR (rows:ef B'):B':=(rows.filter (kd "out")).map λr=>r.getD 1 ""
noncomputable def netR (rows:ef B'):Nt:=⟨insR rows,sumR rows,stoR rows,outR rows⟩
noncomputable def ub (N:Nt):ef B':=N.ins.map (λz=>[("in":Wz),z])++N.sums.map (λr=>("sum":Wz)::r.1::("=":Wz)::r.2)++N.sts.map (λr=>[("store":Wz),r.1,("=":Wz),r.2])++N.outs.map (λz=>[("out":Wz),z])
noncomputable def txtN (N:Nt):Str:=txtR (ub N)
theorem w_ne:("in":Wz)≠"sum"/\("in":Wz)≠"store"/\("in":Wz)≠"out"/\("sum":Wz)≠"in"/\("sum":Wz)≠"store"/\("sum":Wz)≠"out"/\("store":Wz)≠"in"/\("store":Wz)≠"sum"/\("store":Wz)≠"out"/\("out":Wz)≠"in"/\("out":Wz)≠"sum"/\("out":Wz)≠"store":=by decide +kernel
theorem vS {α:Type} (f:α->B') {k:Wz} (h:∀x,kd k (f x)=true) (l:ef α):(l.map f).filter (kd k)=l.map f:=by
 rw[ap4];intro r Y;obtain⟨x,_,rfl⟩:=ic.mp Y;exact h x
theorem eV {α:Type} (f:α->B') {k:Wz} (h:∀x,kd k (f x)=false) (l:ef α):(l.map f).filter (kd k)=[]:=by
 rw[ac1];intro r Y;obtain⟨x,_,rfl⟩:=ic.mp Y;rw[h x];exact hF
theorem kd_t {k:Wz} {r:B'}:kd k (k::r)=true:=hE rfl
theorem kd_f {k j:Wz} {r:B'} (h:j≠k):kd k (j::r)=false:=f' h
theorem Hc (N:Nt):netR (ub N)=N:=by
 obtain⟨n1,η,ζ,ε,ν,δ,ο,γ,β,α,Z,Y⟩:=w_ne;cases N with
 | mk a b c d=>
 unfold netR insR sumR stoR outR ub;simp only[Yb];rw[vS _ (λ_=>kd_t),eV _ (λ_=>kd_f ε),eV _ (λ_=>kd_f ο),eV _ (λ_=>kd_f α)];rw[eV (λz=>[("in":Wz),z]) (λ_=>kd_f n1),vS _ (λ_=>kd_t),eV _ (λ_=>kd_f γ),eV _ (λ_=>kd_f Z)];rw[eV (λz=>[("in":Wz),z]) (λ_=>kd_f η),eV _ (λ_=>kd_f ν),vS _ (λ_=>kd_t),eV _ (λ_=>kd_f Y)];rw[eV (λz=>[("in":Wz),z]) (λ_=>kd_f ζ),eV _ (λ_=>kd_f δ),eV _ (λ_=>kd_f β),vS _ (λ_=>kd_t)];simp;exact⟨ac5 a,ac5 b,ac5 c,ac5 d⟩
theorem Fy {N:Nt} (g:Gn N):∀r∈ub N,Fm r:=by
 intro r γ;have β:∀z∈N.ins,z∈N.names:=λz h=>by unfold Nt.names;exact qb _ (qb _ h)
 have Z:∀q∈N.sums,q.1∈N.names:=λq h=>by unfold Nt.names;exact qb _ (lA _ (ic.mpr ⟨q,h,rfl⟩))
 have α:∀q∈N.sts,q.1∈N.names:=λq h=>by unfold Nt.names;exact lA _ (ic.mpr ⟨q,h,rfl⟩)
 unfold ub at γ;rcases hB.mp γ with h | h
 ·rcases hB.mp h with h | h
  ·rcases hB.mp h with h | h
   ·obtain⟨z,hz,rfl⟩:=ic.mp h;exact .i z (g.nm z (β z hz))
   ·obtain⟨q,Y,rfl⟩:=ic.mp h;exact .s q.1 q.2 (g.nm _ (Z q Y)) (λw hw=>g.nm w (g.ws q Y w hw)) (g.lw q Y)
  ·obtain⟨q,Y,rfl⟩:=ic.mp h;exact .t q.1 q.2 (g.nm _ (α q Y)) (g.nm _ (g.ts q Y))
 ·obtain⟨z,hz,rfl⟩:=ic.mp h;exact .o z (g.nm z (g.os z hz))
theorem BG {N:Nt} (g:Gn N):(ub N).length<=68:=by
 have:=g.li;have:=g.ls;have:=g.lt;have:=g.lo;unfold ub;simp only[eX,bx];omega
def Lrw (Y H:Hp) (D:eO) (ys:ef V) (rows:ef B'):Prop:=∃ds:M',ys=ds.map V.ref/\ds.length=rows.length/\(∀d∈ds,d≠D)/\(∀d∈ds,Y d=gn)/\∀(j:Nat) (d:eO) (r:B'),ds[j]? =a' d->rows[j]? =a' r->H d=a' (.lst (r.map V.str))
theorem Lrw.nil:Lrw H' H D [] []:=⟨[],rfl,rfl,λ_ h=>(by cases h),λ_ h=>(by cases h),λj d r h=>(by simp at h)⟩
theorem Lrw.len {ys:ef V} {rows:ef B'} (x:Lrw H' H D ys rows):ys.length=rows.length:=by obtain⟨ds,rfl,l,_⟩:=x;rw[bx,l]
theorem Lrw.base {ys:ef V} {rows:ef B'} (x:Lrw H1 H D ys rows) (s:Same H' H1):Lrw H' H D ys rows:=by obtain⟨ds,e,l,n,f,h⟩:=x;exact⟨ds,e,l,n,λd hd=>s.free (f d hd),h⟩
theorem Lrw.put {ys:ef V} {rows:ef B'} {r:B'} (x:Lrw H' H D ys rows) (ζ:H' Y=gn) (e:H D=a' (.lst ys)) (f:H Y=gn) (s:Same H H1) (η:H1 Y=a' (.lst (r.map V.str))):Lrw H' (upd H1 D (.lst (ys++[.ref Y]))) D (ys++[.ref Y]) (rows++[r]):=by
 obtain⟨ds,rfl,ld,nd,fd,hd⟩:=x;have α:Y≠D:=λz=>by rw[z,e] at f;cases f
 have k3:∀b ob,b≠D->H1 b=a' ob->upd H1 D (.lst (ds.map V.ref++[.ref Y])) b=a' ob:=λb ob n e=>by rw[aG n];exact e
 refine⟨ds++[Y],by rw[ee];rfl,by rw[eX,eX,ld];rfl,λd Z=>?_,λd Z=>?_,λj d r' β π=>?_⟩
 ·rcases hB.mp Z with h | h
  ·exact nd d h
  ·rw[gA.mp h];exact α
 ·rcases hB.mp Z with h | h
  ·exact fd d h
  ·rw[gA.mp h];exact ζ
 ·by_cases δ:j < ds.length
  ·rw[mu δ] at β;rw[mu @A] at π;exact k3 _ _ (nd d (dt β)) (s.get (hd j d r' β π))
  ·have hl:=(bA.mp β).1;rw[eX,WS] at hl;rw[ov @A,show j - ds.length=0 by omega] at β;rw[ov @A,show j - rows.length=0 by omega] at π;cases β;cases π;exact k3 _ _ α η
theorem Lrw.join {ys:ef V} {rows:ef B'} (x:Lrw H' H D ys rows) (e:H D=a' (.lst ys)) (Z:Same H' H) (s:Same H H2) (x2:Lrw H H2 C am Op) (u:Upd H2 H1 D (.lst (ys++am))):Lrw H' H1 D (ys++am) (rows++Op):=by
 obtain⟨ds,rfl,ld,nd,fd,hd⟩:=x;obtain⟨δ,rfl,ν,ξ,γ,ζ⟩:=x2;have θ:∀d∈δ,d≠D:=λd Y z=>by have:=γ d Y;rw[z,e] at this;cases this
 refine⟨ds++δ,by rw[ee],by rw[eX,eX,ld,ν],λd Y=>(hB.mp Y).elim (nd d) (θ d),λd Y=>(hB.mp Y).elim (fd d) (λh=>Z.free (γ d h)),λj d r β π=>?_⟩;by_cases ε:j < ds.length
 ·rw[mu ε] at β;rw[mu @A] at π;exact u.oth _ _ (nd d (dt β)) (s.get (hd j d r β π))
 ·rw[ov @A] at β;rw[ov @A,<-ld] at π;exact u.oth _ _ (θ d (dt β)) (ζ _ d r β π)
def Qu (Y:NP):Sp:=λvs H Q _=>∃(p:eO) (N:Nt) (od:B'),vs=[.ref p]/\Y H p N od/\∀H2,Same H H2->Q (.str (txtN N)) H2
def QE:Sp:=λvs H Q _=>∃(l:eO) (r:B'),vs=[.ref l]/\H l=a' (.lst (r.map V.str))/\Fm r/\∀H2,Same H H2->Q (.bl true) H2
def Gv:Sp:=λvs H Q _=>∃(z:Wz),vs=[.str z]/\z.length<=100000/\∀(D:eO) (H2:Hp),H D=gn->Same H H2->H2 D=a' (.lst ((Yw z ⟨#[32]⟩).map V.str))->Q (.ref D) H2
def Jn:Sp:=λvs H Q _=>∃(z:Wz),vs=[.str z]/\z.length<=100000/\∀(D:eO) (H2:Hp),H D=gn->Same H H2->H2 D=a' (.lst ((if z="" then [] else Yw z ⟨#[10]⟩).map V.str))->Q (.ref D) H2
def Qv (Y:NP):Sp:=λvs H Q _=>∃(rows:ef B'),vs=[.str (txtR rows)]/\(∀r∈rows,Fm r)/\rows.length<=100/\Gn (netR rows)/\∀(n:eO) (H2:Hp) (od:B'),H n=gn->Same H H2->Y H2 n (netR rows) od->Q (.ref n) H2
noncomputable def TupV (K:b') (H:Hp) (y:V):WG (ef V)->Prop
 | some xs=>∃r,y= .ref r/\SqT K H r xs/\Iy K H xs
 | none=>∃k,nv K H y k/\k≠"tuple"
noncomputable def V6 (n m:Nat):WG (ef V)->X1
 | some [x,y]=>oU x n&&oU y m
 | _=>false
noncomputable abbrev It2:=V×WG (ef V)
noncomputable def LstV (K:b') (H:Hp) (y:V):WG (ef It2)->Prop
 | some zs=>∃r,y= .ref r/\H r=a' (.lst (zs.map (·.1)))/\∀z∈zs,TupV K H z.1 z.2
 | none=>∃k,nv K H y k/\k≠"list"
noncomputable def tabB (x:V) (Z Y:WG (ef It2)):Bool:=match x,Z,Y with
 | .int i,a' zs,a' ws=>decide (0<=i)&&decide (i<=6)&&decide (zs.length<=120)&&decide (ws.length<=6)&&(zs++ws).all λz=>V6 zs.length i.toNat z.2
 | _,_,_=>false
end Sx
namespace L2
open PySem
end L2
namespace Sx
open PySem L2
structure BadT (K:b') (H:Hp) (x y z:V):Prop where
 ex:∃k on oo,nv K H x k/\LstV K H y on/\LstV K H z oo/\tabB x on oo=false
end Sx
namespace L2
open PySem
end L2
namespace Sx
open PySem L2
def FdS (Y H:Hp) (t:eO) (rows:C') (x:Nat):Prop:=
 (∃D q,H t=a' (.tup [.str "sum",.ref D])/\H D=a' (.lst ((M.pl 1000 q).map nat))/\Sumd rows x q/\Y D=gn)∨∃m,H t=a' (.tup [.str "no",nat m])/\Bard rows x m
theorem FdS.back (h:FdS H1 H t rows x) (s:Same H' H1):FdS H' H t rows x:=h.imp (λ⟨D,q,a,b,c,f⟩=>⟨D,q,a,b,c,s.free f⟩) id
theorem C0 {r:eO} (Y:H r=a' (.lst (rows.map nat))) (hl:rows.length<=1000) (hb:∀r∈rows,r < 2 ^ 1000) (hx:x < 2 ^ 1000) (θ:(M.fr rows).length < 64)
  (h:∀t H2,Same H H2->FdS H H2 t rows x->Q (.ref t) H2):tR [.ref r,nat x] H Q E:=
 ⟨r,rows,x,rfl,Y,hl,hb,hx,.inr θ,λt D H2 q f s e Z sd=>h t H2 s (.inl ⟨D,q,e,Z,sd,f⟩),λt H2 m s e bd=>h t H2 s (.inr ⟨m,e,bd⟩)⟩
noncomputable def cps (p q k:Nat):C':=if k + 1 < p then [k + 1] else M.pl 1000 q
structure ChS (H:Hp) (S:eO) (p q:Nat) (rs:M'):Prop where
 at_:H S=a' (.lst (rs.map V.ref))
 len:rs.length=p
 get:∀(k:Nat) (r:eO),rs[k]? =a' r->H r=a' (.lst ((cps p q k).map nat))
theorem ChS.same {p:Nat} {rs:M'} (c:ChS H S p q rs) (s:Same H H2):ChS H2 S p q rs:=⟨s.get c.at_,c.len,λk r e=>s.get (c.get k r e)⟩
structure ChT (H:Hp) (D S:eO) (ms:C') (p q:Nat):Prop where
 fs:M.Fst ms p
 sd:Sumd (ms.take p) (ms.getD p 0) q
 d:H D=a' (.lst ((ms.take p).map nat))
 s:∃rs,ChS H S p q rs
def Nq:Sp:=λvs H Q _=>∃(r:eO) (ms:C') (n:Nat),vs=[.ref r]/\H r=a' (.lst (ms.map nat))/\ms.length=n + 1/\n<=60/\(∀x∈ms,x < 2 ^ n)/\
 ∀(t D S:eO) (H2:Hp) (p q:Nat),H D=gn->H S=gn->D≠S->Same H H2->H2 t=a' (.tup [.ref D,.ref S])->ChT H2 D S ms p q->Q (.ref t) H2
theorem Uy {n:Nat} (hn:n<=60) (h:x < 2 ^ n):x < 2 ^ 1000:=eP h (gB @C @A)
def Gx (C:eO):Sp:=λvs H Q _=>∃(p:eO) (m:Nat) (nx os:ef Pr3) (d:Nat),vs=[.ref p,nat d]/\MaA H C p m nx os/\MaG m nx os/\d < 2 ^ nx.length/\∀(D:eO) (H2:Hp),H D=gn->Same H H2->H2 D=a' (.lst ((M.zl (prs nx) d nx.length).map nat))->Q (.ref D) H2
structure LA (K:b') (H:Hp) (t n o rr:eO) (m:Nat) (nx os:ef Pr3) (rs:C') (a b:Nat):Prop where
 tt:TabT H t n o m nx os
 sq:SqL K H rr (rs.map nat)
 lr:rs.length=20
 br:∀r∈rs,r < 2 ^ m
 ln:nx.length<=16
 ha:a < 2 ^ nx.length
 hb:b < 2 ^ nx.length
structure ApA (H:Hp) (f:eO) (nx os:ef Pr3) (d k ans:Nat):Prop where
 f:H f=a' (.tup [.str "apart",nat k,nat ans.log2])
 hk:k < nx.length
 an:ans=M.tr2 (prs os) (M.zs (prs nx) d k) 0
 ne:ans≠0
 qu:∀j,j < k->M.tr2 (prs os) (M.zs (prs nx) d j) 0=0
structure ApL (H:Hp) (f D S:eO) (nx os:ef Pr3) (d p q:Nat):Prop where
 f:H f=a' (.tup [.str "alike",.ref D,.ref S])
 ct:ChT H D S (M.zl (prs nx) d nx.length) p q
 qu:∀j,j < p->M.tr2 (prs os) (M.zs (prs nx) d j) 0=0
structure CmA (H:Hp) (t D:eO) (m:Nat) (nx:ef Pr3) (st T q mk:Nat):Prop where
 f:H t=a' (.tup [.str "come",.ref D,nat mk])
 d:H D=a' (.lst ((M.upk m q T).map nat))
 hT:T<=nx.length
 no:∀j,j < T->¬M.Span (M.rch (prs nx) m j) st
 sd:Sumd (M.rch (prs nx) m T) st q
 br:(T=0/\mk=0)∨∃T',T=T' + 1/\Bard (M.rch (prs nx) m T') st mk
structure CmN (H:Hp) (t D S:eO) (m:Nat) (nx:ef Pr3) (st mk p q:Nat):Prop where
 f:H t=a' (.tup [.str "never",.ref D,.ref S])
 no:∀j,j<=nx.length->¬M.Span (M.rch (prs nx) m j) st
 bd:Bard (M.rch (prs nx) m nx.length) st mk
 ct:ChT H D S (M.bl (nA nx) mk nx.length) p q
structure LN (K:b') (H:Hp) (n:eO) (m:Nat) (nx os:ef Pr3) (st:Nat):Prop where
 sq:SqL K H n (refs nx)
 pt:Prt H nx
 g:MaG m nx os
 ln:nx.length<=16
 hs:st < 2 ^ nx.length
end Sx
namespace M
noncomputable def fR (rows:C'):C':=(fr rows).map λi=>rows.getD i 0
theorem fr_lt:∀i∈fr rows,i < rows.length:=by
 intro i hi;unfold fr at hi;exact Xd.mp (Y4.mp hi).1
theorem xX (rows:C') (r:Nat):(fr rows).map (λi=>(rows++[r]).getD i 0)=fR rows:=by
 unfold fR;refine Ye λi hi=>?_;rw[bB,bB,mu (fr_lt i hi)]
theorem US (h:Span rows r):fR (rows++[r])=fR rows:=by
 rw[<-xX rows r];unfold fR;rw[fr_in h]
theorem PB (h:¬Span rows r):fR (rows++[r])=fR rows++[r]:=by
 rw[<-xX rows r];unfold fR;rw[fr_out h,ee];congr 1;simp
theorem Ba:∀(rows:C') (x:Nat),Span (fR rows) x↔Span rows x:=by
 refine mU ?_ λl w ih=>?_
 ·intro x;exact as2
 ·intro x;by_cases h:Span l w
  ·rw[US h,ih,gv];exact⟨.inl,λz=>z.elim id λz=>by have:=span_xor z h;rwa [xor_cancel] at this⟩
  ·rw[PB h,gv,gv,ih,ih]
theorem Inj.out {ws:C'} {w:Nat} (I:Inj ws) (h:¬Span ws w):Inj (ws++[w]):=by
 intro p Y e;rw[sm_snoc] at e;by_cases hb:p.testBit ws.length=true
 ·rw[zt hb] at e;exfalso;apply h
  have:sm ws p=w:=by
   have:=Wy (·^^^w) e;simpa[Xv] using this
  rw[<-this];exact sm_span _ _
 ·rw[oT hb,XI] at e;refine I p ?_ e;rw[eX,WS] at Y;refine Z2 p λi hi=>?_;by_cases ο:i=ws.length
  ·rw[ο];simpa using hb
  ·exact Wx (eP Y (gB @C @A))
theorem Lo:∀rows:C',Inj (fR rows):=by
 refine mU Inj.nil λl w ih=>?_;by_cases h:Span l w
 ·rw[US h];exact ih
 ·rw[PB h];exact ih.out λz=>h ((Ba l w).mp z)
theorem Inj.out' {ws:C'} {w:Nat} (I:Inj (ws++[w])):Inj ws/\¬Span ws w:=by
 refine⟨λp Y e=>I p (by rw[eX,WS,XX];omega) (by rw[jV Y];exact e),λh=>?_⟩;obtain⟨p,Y,e⟩:=jh h;have:=I (p^^^2 ^ ws.length) (by rw[eX];exact EG Y) (by rw[DP Y,e,XU]);exact(sG Y).1 this
theorem Od:∀ws:C',Inj ws->(fr ws).length=ws.length:=by
 refine mU (λ_=>rfl) λl w ih h=>?_;have:=h.out';rw[fr_out this.2,eX,eX,ih this.1];rfl
theorem AY {ws:C'} {t:Nat} (I:Inj ws) (h:∀x∈ws,x < 2 ^ t):ws.length<=t:=by
 rw[<-Od ws I];exact rank_le h
noncomputable def ow (x:Nat) (L:C'):Nat:=pk (λk=>od (x&&&L.getD k 0)) 0 L.length
theorem ow_bit (x:Nat) (L:C') (k:Nat):(ow x L).testBit k=(decide (k < L.length)&&od (x&&&L.getD k 0)):=by unfold ow;rw[pk_bit,XH]
theorem ow_lt (x:Nat) (L:C'):ow x L < 2 ^ L.length:=pk_lt _ _ _
theorem FE (x y:Nat) (L:C'):ow (x^^^y) L=ow x L^^^ow y L:=k' λk=>by
 rw[WN,ow_bit,ow_bit,ow_bit,vX,od_xor];cases decide (k < L.length)<;>simp
theorem Ar (L:C'):ow 0 L=0:=k' λk=>by
 rw[ow_bit,Yz,od_zero,Xf,Y3]
theorem Ei (L:C'):∀(rows:C') (F:Nat),ow (sm rows F) L=sm (rows.map (ow · L)) F:=by
 refine mU ?_ λl w ih=>?_
 ·intro F;rw[sm,ah7,sm,Ar]
 ·intro F;rw[ee,Yl,sm_snoc,sm_snoc,FE,ih,bx];by_cases h:F.testBit l.length=true
  ·rw[zt h,zt h]
  ·rw[oT h,oT h,Ar]
theorem my {L:C'}:ow x L=0↔∀y∈L,od (x&&&y)=false:=by
 constructor
 ·intro h y Y;obtain⟨k,hk,e⟩:=Xe.mp Y;have:=Wy (Nat.testBit · k) h;rw[ow_bit,Xf,hE hk,Y1,bB,cn hk] at this;rw[<-e];exact this
 ·intro h;refine k' λk=>?_;rw[ow_bit,Xf];by_cases hk:k < L.length
  ·rw[bB,cn hk,Option.getD_some,h _ (YB hk),Y3]
  ·rw[f' hk,X8]
theorem sQ:∀(L:C'),(∀y∈L,od (x&&&y)=false)->∀z,Span L z->od (x&&&z)=false:=by
 refine mU ?_ λl w ih=>?_
 ·intro _ z hz;rw[show z=0 from hz,Y7,od_zero]
 ·intro h z hz;have h1:=ih λy Y=>h y (qb _ Y);rcases(gv l w z).mp hz with hz | hz
  ·exact h1 z hz
  ·have h2:=h1 _ hz;rw[and_xor,od_xor,h w @E,YW] at h2;exact h2
theorem V8 (p x:Nat):∀(L:C'),L.length<=1000->od (p&&&ow x L)=od (sm L p&&&x):=by
 refine mU ?_ λl w ih=>?_
 ·intro _;rw[show ow x []=0 from rfl,Y7,sm,Yz]
 ·intro hl;rw[eX,WS] at hl
  have e:ow x (l++[w])=ow x l^^^(if od (x&&&w)=true then 2 ^ l.length else 0):=k' λk=>by
   rw[WN,ow_bit,ow_bit,eX,WS];by_cases hk:k < l.length
   ·rw[bB,bB,mu hk,hE hk,hE (show k < l.length + 1 by omega)]
    have:(if od (x&&&w)=true then 2 ^ l.length else 0).testBit k=false:=by
     split
     ·rw[W9];exact f' @A
     ·exact Xf k
    rw[this,YW]
   ·by_cases Z:k=l.length
    ·subst Z;rw[f' hk,hE (Y5 _),X8,YF,Y1];rw[bB,ov (p' _),Zq];show od (x&&&w)=_;by_cases hw:od (x&&&w)=true
     ·rw[zt hw,Xp,hw]
     ·rw[oT hw,Xf];simpa using hw
    ·rw[f' hk,f' (show ¬k < l.length + 1 by omega),X8,X8,YF];split
     ·rw[W9];exact(f' @A).symm
     ·exact(Xf k).symm
  rw[e,and_xor,od_xor,ih @A,sm_snoc,vX,od_xor];congr 1;by_cases hw:od (x&&&w)=true
  ·rw[zt hw,Xy,od_pow @A];by_cases Y:p.testBit l.length=true
   ·rw[zt Y,Y,Xy,hw]
   ·rw[oT Y,Yz,od_zero];simpa using Y
  ·rw[oT hw,Y7,od_zero];by_cases Y:p.testBit l.length=true
   ·rw[zt Y,Xy];simpa using hw
   ·rw[oT Y,Yz,od_zero]
theorem zG {n:Nat} (hb:∀x∈as,x < 2 ^ n) (hl:n < as.length):∃p,p<=n/\Fst as p:=by
 have β:∀j,(∃p,p < j/\Fst as p)∨∀k,k < j->k < as.length->¬Span (as.take k) (as.getD k 0):=λj=>by
  induction j with
  | zero=>exact .inr λk hk=>hQ hk (YJ k)
  | succ j ih=>
    rcases ih with ⟨p,Z,F⟩ | h
    ·exact .inl ⟨p,by omega,F⟩
    ·by_cases α:j < as.length
     ·by_cases hs:Span (as.take j) (as.getD j 0)
      ·exact .inl ⟨j,by omega,α,λk hk=>h k hk @A,hs⟩
      ·exact .inr λk hk Y=>by
        by_cases e:k=j
        ·rw[e];exact hs
        ·exact h k @A Y
     ·exact .inr λk hk Y=>h k @A Y
 rcases β (n + 1) with ⟨p,Z,F⟩ | h
 ·exact⟨p,@A,F⟩
 ·have:=chain_short hb (j:=n + 1) @A λk hk=>h k hk @A;omega
theorem rS:∀{as:C'} {bs:C'},(∀x∈as,Span bs x)->∀z,Span as z->Span bs z:=λ{as bs} h z hz=>by
 obtain⟨p,_,e⟩:=jh hz;rw[<-e];exact DQ as h p
theorem Su {ps:A'} (hd:d < 2 ^ ps.length) {S:C'} (h:∀k,k < ps.length->Span S (zs ps d k)) (t:Nat):Span S (zs ps d t):=by
 obtain⟨p,Z,F⟩:=zG (zl_lt (n:=ps.length) hd) (by rw[zl_len];omega);refine rS (λx Y=>?_) _ (P9 F t);obtain⟨k,hk,e⟩:=Xe.mp Y;rw[tu] at hk;have ρ:k < p:=by omega
 rw[ZZ] at e;have:=Fi (ps:=ps) (d:=d) (n:=ps.length) (k:=k) @A;rw[cn (by rw[zl_len];omega)] at this;rw[<-e,WB this];exact h k @A
theorem Vh {A:C'} {s n:Nat} (Z:∀x∈A,x < 2 ^ n) (hs:s < 2 ^ n) {S:C'} (h:∀k,k < n->Span S (bkI A s k)) (t:Nat):Span S (bkI A s t):=by
 obtain⟨p,α,F⟩:=zG (Wl (n:=n) Z hs) (by rw[LX];omega);refine rS (λx Y=>?_) _ (R6 F t);obtain⟨k,hk,e⟩:=Xe.mp Y;rw[tu] at hk;have ρ:k < p:=by omega
 rw[ZZ] at e;have:=Gb (A:=A) (s:=s) (n:=n) (k:=k) @A;rw[cn (by rw[LX];omega)] at this;rw[<-e,WB this];exact h k @A
theorem O4 (ps:A') (m w:Nat) (hw:w < m):∀j,(stj ps (sg0 ps m) j)[w]? =a' (zs ps (tr2 ps 0 (2 ^ w)) j)
 | 0=>by
   show(sg0 ps m)[w]? =_;unfold sg0;rw[hH,Xu hw];rfl
 | j + 1=>by
   show((stj ps (sg0 ps m) j).map λx=>tr2 ps x 0)[w]? =_;rw[hH,O4 ps m w hw j];rfl
theorem SR (ps:A') (m j:Nat) (h:x∈stj ps (sg0 ps m) j):∃w,w < m/\x=zs ps (tr2 ps 0 (2 ^ w)) j:=by
 obtain⟨w,hw,e⟩:=Xe.mp h;have hm:w < m:=by rw[stj_len,sg0_len] at hw;exact hw
 have:=O4 ps m w hm j;rw[cn hw,e] at this;exact⟨w,hm,WB this⟩
theorem Pd (ps:A') (m:Nat):∀{T x:Nat},x∈rch ps m T->∃w j,w < m/\j < T/\x=zs ps (tr2 ps 0 (2 ^ w)) j
 | 0,x,h=>hQ h (by unfold rch;simp)
 | T + 1,x,h=>by
   unfold rch at h;rcases hB.mp h with h | h
   ·obtain⟨w,hw,e⟩:=SR ps m T h;exact⟨w,T,hw,@A,e⟩
   ·obtain⟨w,j,hw,Y,e⟩:=Pd ps m h;exact⟨w,j,hw,@A,e⟩
theorem JQ {ps:A'} {m w:Nat} (hw:w < m) (t:Nat):Span (rch ps m ps.length) (zs ps (tr2 ps 0 (2 ^ w)) t):=
 Su (tr2_lt ps 0 (2 ^ w)) (λk hk=>pF (JP ps m (Je ps m w hw k) hk)) t
theorem Fz {ps:A'} {m:Nat} (hx:Span (rch ps m ps.length) x) (Z:r < 2 ^ m):Span (rch ps m ps.length) (tr2 ps x r):=by
 have e:=z6 ps x 0 0 r;rw[XI,Yy] at e;rw[e];refine span_xor ?_ ?_
 ·obtain⟨F,_,α⟩:=jh hx;rw[<-α,IY];refine DQ _ (λy Y=>?_) F;obtain⟨z,hz,rfl⟩:=ic.mp Y;obtain⟨w,j,hw,β,rfl⟩:=Pd ps m hz;exact JQ hw (j + 1)
 ·rw[DH ps r m Z];refine DQ _ (λy Y=>?_) r;unfold sg0 at Y;obtain⟨w,hw,rfl⟩:=ic.mp Y;exact JQ (Xd.mp hw) 0
noncomputable def lk1 (A os:C') (t:Nat):C':=os.map λs=>bkI A s t
noncomputable def lkm (A os:C'):Nat->C'
 | 0=>[]
 | T + 1=>lkm A os T++lk1 A os T
theorem lk1_len (A os:C') (t:Nat):(lk1 A os t).length=os.length:=by unfold lk1;rw[bx]
theorem lkm_len (A os:C'):∀T,(lkm A os T).length=T * os.length
 | 0=>by unfold lkm;simp
 | T + 1=>by unfold lkm;rw[eX,lk1_len,lkm_len A os T,ah8]
theorem Kt {A os:C'} {s t:Nat} (hs:s∈os):∀{T},t < T->bkI A s t∈lkm A os T
 | 0,h=>hQ h (YJ t)
 | T + 1,h=>by
   unfold lkm;by_cases e:t=T
   ·rw[e];exact lA _ (ic.mpr ⟨s,hs,rfl⟩)
   ·exact qb _ (Kt hs @A)
theorem lkm_of {A os:C'}:∀{T x:Nat},x∈lkm A os T->∃s t,s∈os/\t < T/\x=bkI A s t
 | 0,x,h=>hQ h (by unfold lkm;simp)
 | T + 1,x,h=>by
   unfold lkm at h;rcases hB.mp h with h | h
   ·obtain⟨s,t,hs,ht,e⟩:=lkm_of h;exact⟨s,t,hs,@A,e⟩
   ·obtain⟨s,hs,e⟩:=ic.mp h;exact⟨s,T,hs,@A,e.symm⟩
theorem bkI_succ (A:C') (s t:Nat):sm A (bkI A s t)=bkI A s (t + 1):=by
 induction t generalizing s with
 | zero=>rfl
 | succ t ih=>first | rfl | (rw[<-bkI_in,ih];rfl)
theorem Ku {A os:C'} {n s:Nat} (Y:∀x∈A,x < 2 ^ n) (ho:∀s∈os,s < 2 ^ n) (hs:s∈os) (t:Nat):Span (lkm A os n) (bkI A s t):=
 Vh Y (ho s hs) (λk hk=>pF (Kt hs hk)) t
theorem N3 {A os:C'} {n:Nat} (Y:∀x∈A,x < 2 ^ n) (ho:∀s∈os,s < 2 ^ n) (hx:x∈lkm A os n):Span (lkm A os n) (sm A x):=by
 obtain⟨s,t,hs,ht,rfl⟩:=lkm_of hx;rw[bkI_succ];exact Ku Y ho hs (t + 1)
section
variable (ps os:A') (m:Nat)
noncomputable def msk:C':=lkm (ps.map (·.1)) (os.map (·.1)) ps.length
noncomputable def ldp:C':=fr ((rch ps m ps.length).map (ow · (msk ps os)))
noncomputable def lst_:C':=(ldp ps os m).map λi=>(rch ps m ps.length).getD i 0
noncomputable def lkp:C':=fr ((msk ps os).map (ow · (lst_ ps os m)))
noncomputable def lkL:C':=(lkp ps os m).map λi=>(msk ps os).getD i 0
noncomputable def sen:C':=(lkL ps os m).map (ow · (lst_ ps os m))
end
theorem UR (X:C') (f:Nat->Nat):fR (X.map f)=((fr (X.map f)).map λi=>X.getD i 0).map f:=by
 unfold fR;rw[WT];refine Ye λi hi=>?_;have h:=fr_lt i hi;rw[bx] at h;show(X.map f).getD i 0=f (X.getD i 0);rw[bB,hH,cn h,bB,cn h];rfl
theorem getD_mem {X:C'} (h:i < X.length):X.getD i 0∈X:=by
 rw[bB,cn h];exact YB h
section
variable {ps os:A'} {m:Nat}
theorem PD:fR ((rch ps m ps.length).map (ow · (msk ps os)))=(lst_ ps os m).map (ow · (msk ps os)):=UR _ _
theorem Pz:fR ((msk ps os).map (ow · (lst_ ps os m)))=sen ps os m:=UR _ _
theorem QQ:Inj (sen ps os m):=by rw[<-Pz];exact Lo _
theorem ldp_lt:∀i∈ldp ps os m,i < (rch ps m ps.length).length:=λi hi=>by have:=fr_lt i hi;rwa [bx] at this
theorem lkp_lt:∀i∈lkp ps os m,i < (msk ps os).length:=λi hi=>by have:=fr_lt i hi;rwa [bx] at this
theorem Pr:∀x∈lkL ps os m,x∈msk ps os:=λx Y=>by
 obtain⟨i,hi,rfl⟩:=ic.mp Y;exact getD_mem (lkp_lt i hi)
theorem lst_in:∀x∈lst_ ps os m,x∈rch ps m ps.length:=λx Y=>by
 obtain⟨i,hi,rfl⟩:=ic.mp Y;exact getD_mem (ldp_lt i hi)
theorem uA:(lkL ps os m).length=(lkp ps os m).length:=bx ..
theorem sen_len:(sen ps os m).length=(lkp ps os m).length:=by unfold sen;rw[bx,uA]
theorem lst_len:(lst_ ps os m).length=(ldp ps os m).length:=bx ..
theorem Gu (h:Span (rch ps m ps.length) x):∃y,Span (lst_ ps os m) y/\ow x (msk ps os)=ow y (msk ps os):=by
 obtain⟨F,_,e⟩:=jh h;have hs:Span ((rch ps m ps.length).map (ow · (msk ps os))) (ow x (msk ps os)):=by rw[<-e,Ei];exact sm_span _ _
 rw[<-Ba,PD] at hs;obtain⟨P,_,Y⟩:=jh hs;exact⟨sm (lst_ ps os m) P,sm_span _ _,by rw[Ei,Y]⟩
theorem HN (hd:Span (msk ps os) d) (h:∀s∈lst_ ps os m,od (d&&&s)=false) (hx:Span (rch ps m ps.length) x):od (d&&&x)=false:=by
 obtain⟨y,Z,e⟩:=Gu (os:=os) hx;have h1:=sQ _ h y Z;have h2:ow (x^^^y) (msk ps os)=0:=by rw[FE,e,XU]
 have Y:=sQ _ (my.mp h2) d hd;rw[Xy,and_xor,od_xor,h1,YW] at Y;exact Y
theorem span_sen (hd:Span (msk ps os) d):Span (sen ps os m) (ow d (lst_ ps os m)):=by
 obtain⟨F,_,e⟩:=jh hd;rw[<-Pz,Ba,<-e,Ei];exact sm_span _ _
theorem O8 (p:Nat):sm (sen ps os m) p=ow (sm (lkL ps os m) p) (lst_ ps os m):=by unfold sen;rw[Ei]
theorem FU {p:Nat} (hl:(lkL ps os m).length<=1000) (hd:Span (msk ps os) d) (Z:sm (sen ps os m) p=ow d (lst_ ps os m)) (hx:Span (rch ps m ps.length) x):od (p&&&ow x (lkL ps os m))=od (d&&&x):=by
 rw[V8 p x _ hl];have hs:Span (msk ps os) (sm (lkL ps os m) p^^^d):=span_xor (DQ _ (λy Y=>pF (Pr y Y)) p) hd;have θ:ow (sm (lkL ps os m) p^^^d) (lst_ ps os m)=0:=by rw[FE,<-O8,Z,XU]
 have:=HN hs (my.mp θ) hx;rw[vX,od_xor] at this;revert this;cases od (sm (lkL ps os m) p&&&x)<;>cases od (d&&&x)<;>simp
theorem Fx:Inj ((lst_ ps os m).map (ow · (lkL ps os m))):=by
 intro F ρ e;rw[bx] at ρ;rw[<-Ei] at e;have β:=my.mp e
 have Y:ow (sm (lst_ ps os m) F) (msk ps os)=0:=by
  rw[my];intro mk Z;have hs:=span_sen (m:=m) (pF Z);obtain⟨P,_,α⟩:=jh hs;rw[O8] at α;have θ:ow (sm (lkL ps os m) P^^^mk) (lst_ ps os m)=0:=by rw[FE,α,XU]
  have h1:=sQ _ (my.mp θ) _ (sm_span (lst_ ps os m) F);have h2:=sQ _ β _ (sm_span (lkL ps os m) P);rw[vX,od_xor,Xy _ (sm (lst_ ps os m) F),h2,YF] at h1;rw[Xy];exact h1
 have hI:=Lo ((rch ps m ps.length).map (ow · (msk ps os)));rw[PD] at hI;exact hI F (by rw[bx];exact ρ) (by rw[<-Ei];exact Y)
theorem Rr:(lkp ps os m).length=(ldp ps os m).length:=by
 have h1:=AY (QQ (ps:=ps) (os:=os) (m:=m)) (t:=(lst_ ps os m).length) (λx Y=>by
  obtain⟨y,_,rfl⟩:=ic.mp Y;exact ow_lt _ _)
 have h2:=AY (Fx (ps:=ps) (os:=os) (m:=m)) (t:=(lkL ps os m).length) (λx Y=>by
  obtain⟨y,_,rfl⟩:=ic.mp Y;exact ow_lt _ _)
 rw[sen_len,lst_len] at h1;rw[bx,lst_len,uA] at h2;omega
theorem many_le:(lkp ps os m).length<=ps.length:=by
 have h:=AY (ws:=lst_ ps os m) (t:=ps.length) (λF ρ e=>?_) (λx Y=>rch_lt ps m _ x (lst_in x Y))
 ·rw[Rr,<-lst_len];exact h
 ·refine Fx (ps:=ps) (os:=os) (m:=m) F (by rw[bx];exact ρ) ?_;rw[<-Ei,e,Ar]
structure Lsr (ps os:A') (m:Nat) (nx' os':A'):Prop where
 ln:nx'.length=(lkp ps os m).length
 lo:os'.length=os.length
 n1:∀(j:Nat) (q:Nat×Nat),nx'[j]? =a' q->q.1 < 2 ^ (lkp ps os m).length/\sm (sen ps os m) q.1=ow (sm (ps.map (·.1)) ((lkL ps os m).getD j 0)) (lst_ ps os m)/\q.2=sm (ps.map (·.2)) ((lkL ps os m).getD j 0)
 o1:∀(j:Nat) (q:Nat×Nat),os'[j]? =a' q->q.1 < 2 ^ (lkp ps os m).length/\sm (sen ps os m) q.1=ow (os.getD j (0,0)).1 (lst_ ps os m)/\q.2=(os.getD j (0,0)).2
structure Fit (ps os:A') (m:Nat):Prop where
 ln:ps.length<=120
 bn:∀q∈ps++os,q.1 < 2 ^ ps.length
theorem Fit.A (f:Fit ps os m):∀x∈ps.map (·.1),x < 2 ^ ps.length:=λx Y=>by
 obtain⟨q,Z,rfl⟩:=ic.mp Y;exact f.bn q (qb _ Z)
theorem Fit.O (f:Fit ps os m):∀x∈os.map (·.1),x < 2 ^ ps.length:=λx Y=>by
 obtain⟨q,Z,rfl⟩:=ic.mp Y;exact f.bn q (lA _ Z)
theorem Fit.back (f:Fit ps os m) (h:x∈msk ps os):Span (msk ps os) (sm (ps.map (·.1)) x):=N3 f.A f.O h
theorem Fit.out (f:Fit ps os m) (h:x∈os.map (·.1)):Span (msk ps os) x:=Ku f.A f.O h 0
theorem getD_at' {α:Type} {X:ef α} {d:α} (h:i < X.length):X[i]? =a' (X.getD i d):=by
 rw[bB,cn h];rfl
theorem Lsr.next (a:Lsr ps os m ψ B2) (f:Fit ps os m) (hx:Span (rch ps m ps.length) x):tr2 ψ (ow x (lkL ps os m)) r=ow (tr2 ps x r) (lkL ps os m):=k' λj=>by
 have hn:=many_le (ps:=ps) (os:=os) (m:=m);have β:=f.ln;rw[tr2_bit,ow_bit,a.ln,uA];by_cases Y:j < (lkp ps os m).length
 ·rw[hE Y,Y1,Y1];have α:=a.n1 j _ (getD_at' (d:=(0,0)) (by rw[a.ln];exact Y));have hm:(lkL ps os m).getD j 0∈msk ps os:=Pr _ (getD_mem (by rw[uA];exact Y));rw[FU (by rw[uA];omega) (f.back hm) α.2.1 hx,α.2.2,Xy (tr2 ps x r),Rn _ _ _ _ @A]
 ·rw[f' Y,X8,X8]
theorem Lsr.says (a:Lsr ps os m ψ B2) (f:Fit ps os m) (hx:Span (rch ps m ps.length) x):tr2 B2 (ow x (lkL ps os m)) r=tr2 os x r:=k' λj=>by
 have hn:=many_le (ps:=ps) (os:=os) (m:=m);have β:=f.ln;rw[tr2_bit,tr2_bit,a.lo];by_cases Z:j < os.length
 ·rw[hE Z,Y1,Y1];have α:=a.o1 j _ (getD_at' (d:=(0,0)) (by rw[a.lo];exact Z));have hm:(os.getD j (0,0)).1∈os.map (·.1):=ic.mpr ⟨_,dt (getD_at' Z),rfl⟩;rw[FU (by rw[uA];omega) (f.out hm) α.2.1 hx,α.2.2]
 ·rw[f' Z,X8,X8]
theorem Lsr.walk (a:Lsr ps os m ψ B2) (f:Fit ps os m):∀(rs:C') (x:Nat),(∀r∈rs,r < 2 ^ m)->Span (rch ps m ps.length) x->wan ψ B2 (ow x (lkL ps os m)) rs=wan ps os x rs
 | [],x,_,_=>rfl
 | r::rs,x,h,hx=>by
   show tr2 B2 _ r::wan ψ B2 (tr2 ψ _ r) rs=tr2 os x r::wan ps os (tr2 ps x r) rs;rw[a.says f hx,a.next f hx,a.walk f rs _ (λy Z=>h y (W1 _ Z)) (Fz hx (h r W6))]
theorem Lsr.alike (a:Lsr ps os m ψ B2) (f:Fit ps os m) {rs:C'} (h:∀r∈rs,r < 2 ^ m):wan ψ B2 0 rs=wan ps os 0 rs:=by
 have:=a.walk f rs 0 h (span_zero _);rwa [Ar] at this
end
end M
namespace Sx
open PySem L2
def M0 (C:eO):Sp:=λvs H Q _=>∃(p:eO) (m:Nat) (nx os:ef Pr3) (d:Nat),vs=[.ref p,nat d]/\MaA H C p m nx os/\MaG m nx os/\nx.length<=16/\d < 2 ^ nx.length/\∀(H2:Hp) (P:Nat),Same H H2->M.Lst (prs nx) d P->P.log2<=nx.length->Q (nat P) H2
structure Nx (H:Hp) (r:eO) (nx:ef Pr3):Prop where
 r:H r=a' (.lst (refs nx))
 pt:Prt H nx
 ln:nx.length<=16
theorem We {n:Nat} (hn:n<=16):2 ^ n<=65536:=Yi (gB @C hn) @C
theorem Rh {L:C'} {v:Nat} (h:L[i]? =a' v):M.ow x (L.take (i + 1))=M.ow x (L.take i)^^^(if M.od (x&&&v)=true then 2 ^ i else 0):=by
 have hi:=(bA.mp h).1;have hl:(L.take i).length=i:=by rw[tu];omega
 rw[take_succ h];refine k' λk=>?_;rw[WN,M.ow_bit,M.ow_bit,eX,WS,hl];by_cases hk:k < i
 ·rw[bB,bB,mu (by rw[hl];exact hk),hE hk,hE (show k < i + 1 by omega)]
  have:(if M.od (x&&&v)=true then 2 ^ i else 0).testBit k=false:=by
   split
   ·rw[W9];exact f' @A
   ·exact Xf k
  rw[this,YW]
 ·by_cases Y:k=i
  ·subst Y;rw[f' hk,hE (Y5 _),X8,YF,Y1];rw[bB,ov @A,hl,Zq];show M.od (x&&&v)=_;by_cases hw:M.od (x&&&v)=true
   ·rw[zt hw,Xp,hw]
   ·rw[oT hw,Xf];simpa using hw
  ·rw[f' hk,f' (show ¬k < i + 1 by omega),X8,X8,YF];split
   ·rw[W9];exact(f' @A).symm
   ·exact(Xf k).symm
theorem T3 {w k:Nat} (h:k < w):M.pl w (2 ^ k)=[k]:=by
 induction w with
 | zero=>omega
 | succ w ih=>
   rw[M.pl_next];by_cases hk:k=w
   ·subst hk;rw[Xp,zt rfl]
    have:M.pl k (2 ^ k)=[]:=by
     unfold M.pl;refine ac1.mpr λx Y=>?_;have:=Xd.mp Y;simp[W9];omega
    rw[this];rfl
   ·rw[ih @A,W9,f' hk];rfl
def Nc (C:eO):Sp:=λvs H Q _=>∃(p:eO) (m:Nat) (nx os:ef Pr3),vs=[.ref p]/\MaA H C p m nx os/\MaG m nx os/\nx.length<=60/\∀(D:eO) (H2:Hp),H D=gn->Same H H2->H2 D=a' (.lst ((M.msk (prs nx) (prs os)).map nat))->Q (.ref D) H2
def Qx:Sp:=λvs H Q _=>∃(r x:Nat) (L:C'),vs=[nat x,.ref r]/\H r=a' (.lst (L.map nat))/\L.length<=1000/\x < 2 ^ 1000/\∀H2,Same H H2->Q (nat (M.ow x L)) H2
def SS:Sp:=λvs H Q _=>∃(t η τ:eO) (a b:Nat) (S Z:C'),vs=[.ref t,.ref η,.ref τ]/\H t=a' (.tup [nat a,nat b])/\H η=a' (.lst (S.map nat))/\H τ=a' (.lst (Z.map nat))/\S.length<=1000/\Z.length<=1000/\(∀z∈Z,z < 2 ^ 1000)/\a < 2 ^ 1000/\M.Span Z (M.ow a S)/\∀(ξ:eO) (H2:Hp) (q:Nat),H ξ=gn->Same H H2->H2 ξ=a' (.tup [nat q,nat b])->Sumd Z (M.ow a S) q->Q (.ref ξ) H2
def Cp (Pv:ef Pr3->Prop) (H1:Hp) (D:eO) (i:Nat) (ys:ef V) (H:Hp):Prop:=∃qs:ef Pr3,ys=refs qs/\qs.length=i/\Pv qs/\Prt H qs/\Same H1 H/\H D=a' (.lst ys)
theorem LQ {Pv:ef Pr3->Prop} (δ:H1 D=gn) (Y:Go.length=i) (pt:Prt H Go) (s:Same H1 H) (β:H D=a' (.lst (refs Go))) (α:Same H H') (et:H' t=a' (.tup [nat x,nat y])) (hi:i < 1000) (pv:Pv (Go++[(t,x,y)])):H' D=a' (.lst (refs Go))/\(refs Go).length < la/\Cp Pv H1 D (i + 1) (refs Go++[.ref t]) (upd H' D (.lst (refs Go++[.ref t]))):=by
 refine⟨α.get β,by rw[hZ,Y];exact aR @A,Go++[(t,x,y)],by unfold refs;rw[ee];rfl,by rw[eX,Y];rfl,pv,λq γ=>?_,λb ob e=>?_,ax⟩
 ·have χ:H' q.1=a' (.tup [nat q.2.1,nat q.2.2]):=by
   rcases hB.mp γ with h | h
   ·exact α.get (pt q h)
   ·rw[gA.mp h];exact et
  have n:q.1≠D:=λz=>by rw[z,α.get β] at χ;cases χ
  rw[aG n];exact χ
 ·rw[aG (ao e δ)];exact α.get (s.get e)
def Co (ob:Nat->HO) (H1:Hp) (D:eO) (i:Nat) (ys:ef V) (H:Hp):Prop:=∃ds:M',ys=ds.map V.ref/\ds.length=i/\(∀(j:Nat) (d:eO),ds[j]? =a' d->H d=a' (ob j))/\(∀d∈ds,H1 d=gn/\d≠D)/\Same H1 H/\H D=a' (.lst ys)
theorem rO (Y:H1 D=gn):Co ob H1 D 0 [] (upd H1 D (.lst [])):=⟨[],rfl,rfl,λj d h=>(by simp at h),λ_ h=>(by cases h),bo Y,ax⟩
theorem E5 {Pv:ef Pr3->Prop} (Y:H1 D=gn) (h:Pv []):Cp Pv H1 D 0 [] (upd H1 D (.lst [])):=⟨[],rfl,rfl,h,λ_ h=>(by cases h),bo Y,ax⟩
theorem yc {ys:ef V} (γ:H1 D=gn) (c:Co ob H1 D i ys H) (Z:Same H H') (ft:H t=gn) (et:H' t=a' (ob i)) (hi:i < 1000):H' D=a' (.lst ys)/\ys.length < la/\Co ob H1 D (i + 1) (ys++[.ref t]) (upd H' D (.lst (ys++[.ref t]))):=by
 obtain⟨ds,rfl,ld,ha,hf,s,β⟩:=c;have δ:t≠D:=λz=>by rw[z,β] at ft;cases ft
 refine⟨Z.get β,by rw[bx,ld];exact aR @A,ds++[t],by rw[ee];rfl,by rw[eX,ld];rfl,λj d h=>?_,λd hd=>?_,λb o e=>?_,ax⟩
 ·by_cases α:j < ds.length
  ·rw[mu α] at h;rw[aG (hf d (dt h)).2];exact Z.get (ha j d h)
  ·rw[ov @A] at h
   have hz:j - ds.length=0:=by
    cases e:j - ds.length with
    | zero=>rfl
    | succ m=>rw[e] at h;simp at h
   rw[hz] at h;have h:d=t:=(WB h).symm;have α:j=i:=by omega
   rw[h,aG δ,α];exact et
 ·rcases hB.mp hd with h | h
  ·exact hf d h
  ·rw[gA.mp h];exact⟨s.free ft,δ⟩
 ·rw[aG (ao e γ)];exact Z.get (s.get e)
structure Lrl (H:Hp) (Dr Dl:eO) (ds es:M') (m:Nat) (nx os:ef Pr3):Prop where
 r:H Dr=a' (.lst (ds.map V.ref))
 l:H Dl=a' (.lst (es.map V.ref))
 dl:ds.length=(M.ldp (prs nx) (prs os) m).length
 el:es.length=(M.lkp (prs nx) (prs os) m).length
 da:∀(j:Nat) (d k:Nat),ds[j]? =a' d->(M.ldp (prs nx) (prs os) m)[j]? =a' k->H d=a' (.lst ((M.upk m (2 ^ k) nx.length).map nat))
 ea:∀(j:Nat) (e k:Nat),es[j]? =a' e->(M.lkp (prs nx) (prs os) m)[j]? =a' k->H e=a' (.tup [nat (k / os.length),nat (k % os.length)])
def Nd (C:eO):Sp:=λvs H Q _=>∃(p:eO) (m:Nat) (nx os:ef Pr3),vs=[.ref p]/\MaA H C p m nx os/\MaG m nx os/\nx.length<=60/\∀(t x α ψ:eO) (ds es:M') (H2:Hp) (Z Y:ef Pr3),Same H H2->H2 t=a' (.tup [.ref x,.ref α,.ref ψ])->MaA H2 C x m Z Y->MaG m Z Y->M.Lsr (prs nx) (prs os) m (prs Z) (prs Y)->Lrl H2 α ψ ds es m nx os->H α=gn->H ψ=gn->α≠ψ->(∀d∈ds,H d=gn/\d≠α/\d≠ψ)->Q (.ref t) H2
end Sx
namespace M
theorem wan_zeros92 (ps os:A'):∀(T x t:Nat),t < T->(wan ps os x (n' T 0))[t]? =a' (tr2 os (zs ps x t) 0)
 | 0,x,t,h=>hQ h (YJ _)
 | T + 1,x,0,h=>rfl
 | T + 1,x,t + 1,h=>by
   rw[Yq];show(wan ps os (tr2 ps x 0) (n' T 0))[t]? =_;rw[wan_zeros92 ps os T _ t @A,IH]
end M
namespace Sx
open PySem L2
end Sx
namespace M
noncomputable def jn (p1 p2:A'):A':=p1++p2.map λq=>(q.1 <<< p1.length,q.2)
theorem jn_len (p1 p2:A'):(jn p1 p2).length=p1.length + p2.length:=by unfold jn;rw[eX,bx]
noncomputable def lo (n x:Nat):Nat:=x&&&(2 ^ n - 1)
theorem Uz (n x k:Nat):(lo n x).testBit k=(decide (k < n)&&x.testBit k):=by
 unfold lo;rw[YI,Nat.testBit_two_pow_sub_one,Bool.and_comm]
theorem lo_lt (n x:Nat):lo n x < 2 ^ n:=by
 unfold lo;rw[Zu];exact Nat.mod_lt _ (W3 n)
theorem spl (n x:Nat):lo n x^^^((x>>>n) <<< n)=x:=k' λk=>by
 rw[WN,Uz,ad0,an2];by_cases h:k < n
 ·rw[hE h,f' @A];simp
 ·rw[f' h,hE (by omega:k≥n),show n + (k - n)=k by omega];simp
theorem hi_lt {n m:Nat} (h:x < 2 ^ (n + m)):x>>>n < 2 ^ m:=by
 rw[X9,Nat.div_lt_iff_lt_mul (W3 n),Z9,<-aa9];exact h
structure Jo (p1 p2:A'):Prop where
 a1:∀q∈p1,q.1 < 2 ^ p1.length
 a2:∀q∈p2,q.1 < 2 ^ p2.length
 l:p1.length + p2.length<=500
theorem Jo.tr (j:Jo p1 p2) {a b:Nat} (ha:a < 2 ^ p1.length) (hb:b < 2 ^ p2.length):tr2 (jn p1 p2) (a^^^(b <<< p1.length)) r=tr2 p1 a r^^^(tr2 p2 b r <<< p1.length):=k' λk=>by
 have hl:=j.l;rw[tr2_bit,jn_len,WN,ad0,tr2_bit,tr2_bit];by_cases h1:k < p1.length
 ·have e:(jn p1 p2).getD k (0,0)=p1.getD k (0,0):=by
   unfold jn;rw[bB,bB,mu h1]
  have hm:p1.getD k (0,0)∈p1:=by
   rw[bB,cn h1];exact YB h1
  have Z:=j.a1 _ hm
  have ea:(p1.getD k (0,0)).1&&&(a^^^(b <<< p1.length))=(p1.getD k (0,0)).1&&&a:=by
   have:=Dc (p:=(p1.getD k (0,0)).1) (r:=a) (P:=0) (R:=b) Z ha;rw[ar4,XI,Yz,ar4,XI] at this;exact this
  rw[e,ea,hE h1,hE (show k < p1.length + p2.length by omega),f' (show ¬k≥p1.length by omega)];simp
 ·by_cases h2:k < p1.length + p2.length
  ·have Y:k - p1.length < p2.length:=by omega
   have e:(jn p1 p2).getD k (0,0)=((p2.getD (k - p1.length) (0,0)).1 <<< p1.length,(p2.getD (k - p1.length) (0,0)).2):=by
    unfold jn;rw[bB,ov @A,hH,bB,cn Y];rfl
   have hm:p2.getD (k - p1.length) (0,0)∈p2:=by
    rw[bB,cn Y];exact YB Y
   have Z:=j.a2 _ hm
   have ea:od (((p2.getD (k - p1.length) (0,0)).1 <<< p1.length)&&&(a^^^(b <<< p1.length)))=od ((p2.getD (k - p1.length) (0,0)).1&&&b):=by
    have:=Dc (p:=0) (r:=a) (P:=(p2.getD (k - p1.length) (0,0)).1) (R:=b) (W3 _) ha;rw[Yy,Yz,Yy] at this;rw[this];refine Uk (Xl ZJ (eP Z (gB @C @A))) @A
   rw[e];show(decide (k < p1.length + p2.length)&&(od (((p2.getD (k - p1.length) (0,0)).1 <<< p1.length)&&&(a^^^(b <<< p1.length)))^^od ((p2.getD (k - p1.length) (0,0)).2&&&r)))=_;rw[ea,hE h2,f' h1,hE (show k≥p1.length by omega),hE Y];simp
  ·rw[f' h2,f' h1,f' (show ¬k - p1.length < p2.length by omega)];simp
section
variable {p1 p2 o1 o2:A'} {m:Nat}
theorem Jo.tr' (j:Jo p1 p2) (hx:x < 2 ^ (p1.length + p2.length)):tr2 (jn p1 p2) x r=tr2 p1 (lo p1.length x) r^^^(tr2 p2 (x>>>p1.length) r <<< p1.length):=by
 have:=j.tr (r:=r) (lo_lt p1.length x) (hi_lt hx);rwa [spl] at this
noncomputable def sgl (p o:A') (w:Nat):Nat->Nat
 | 0=>tr2 o 0 (2 ^ w)
 | t + 1=>tr2 o (zs p (tr2 p 0 (2 ^ w)) t) 0
theorem Bx (p o:A'):∀(T x t:Nat),t < T->(wan p o x (n' T 0)).getD t 0=tr2 o (zs p x t) 0
 | 0,_,_,h=>hQ h @A
 | T + 1,x,t,h=>by
   rw[Yq];show(tr2 o x 0::wan p o (tr2 p x 0) (n' T 0)).getD t 0=_
   match t with
   | 0=>rfl
   | t + 1=>
     show(wan p o (tr2 p x 0) (n' T 0)).getD t 0=_;rw[Bx p o T _ t @A,IH]
theorem wan_sgl (p o:A') (w T:Nat):∀t,t<=T->(wan p o 0 (2 ^ w::n' T 0)).getD t 0=sgl p o w t
 | 0,_=>rfl
 | t + 1,h=>by
   show(wan p o (tr2 p 0 (2 ^ w)) (n' T 0)).getD t 0=_;rw[Bx p o T _ t @A];rfl
theorem pulse_sgl (p o:A') (w:Nat) {T t:Nat} (h:t < T):(wan p o 0 (pulse w T)).getD t 0=sgl p o w t:=by
 rw[<-pulse_eq,Fl,bB,List.getElem?_take,zt h,<-bB,wan_sgl p o w T t @A]
def Al (p1 o1 p2 o2:A') (m T:Nat):Prop:=∀t,t < T->∀w,w < m->sgl p1 o1 w t=sgl p2 o2 w t
end
noncomputable def rcf (ps:A') (m:Nat):Nat->C'
 | 0=>[]
 | T + 1=>rcf ps m T++stj ps (sg0 ps m) T
theorem rcf_len (ps:A') (m:Nat):∀T,(rcf ps m T).length=T * m
 | 0=>by show 0=0 * m;omega
 | T + 1=>by
   show(rcf ps m T++stj ps (sg0 ps m) T).length=_;rw[eX,rcf_len ps m T,stj_len,sg0_len,ah8]
theorem Eb (ps:A') (m:Nat) (x:Nat):∀T,x∈rcf ps m T↔x∈rch ps m T
 | 0=>as2
 | T + 1=>by
   show x∈rcf ps m T++stj ps (sg0 ps m) T↔x∈stj ps (sg0 ps m) T++rch ps m T;rw[hB,hB,Eb ps m x T,or_comm]
theorem mem_span:∀{L:C'} {x:Nat},x∈L->Span L x:=λ{L x} h=>by
 obtain⟨i,hi⟩:=Xm.mp h;have:=sm_span L (2 ^ i);rwa [tS,bB,hi] at this
theorem Nz (ps:A') (m T x:Nat):Span (rcf ps m T) x↔Span (rch ps m T) x:=
 ⟨rS (λy Y=>mem_span ((Eb ps m y T).mp Y)) x,rS (λy Y=>mem_span ((Eb ps m y T).mpr Y)) x⟩
noncomputable def prs2 (p1 p2:A') (m:Nat):C':=fR (rcf (jn p1 p2) m (p1.length + p2.length))
theorem BM (p1 p2:A') (m x:Nat):Span (prs2 p1 p2 m) x↔Span (rch (jn p1 p2) m (p1.length + p2.length)) x:=by
 unfold prs2;rw[Ba,Nz]
theorem prs2_next {m:Nat} (hx:Span (prs2 p1 p2 m) x) (Y:r < 2 ^ m):Span (prs2 p1 p2 m) (tr2 (jn p1 p2) x r):=by
 rw[BM] at hx ⊢;have:=Fz (ps:=jn p1 p2) (m:=m) (x:=x) (r:=r) (by rw[jn_len];exact hx) Y;rwa [jn_len] at this
theorem prs2_lt {m:Nat} (hx:x∈prs2 p1 p2 m):x < 2 ^ (p1.length + p2.length):=by
 have h:=(BM p1 p2 m x).mp (mem_span hx);rw[<-jn_len];exact span_lt (rch_lt _ _ _) h
theorem prs2_few (p1 p2:A') (m:Nat):(prs2 p1 p2 m).length<=p1.length + p2.length:=AY (Lo _) λx Y=>prs2_lt Y
end M
namespace Sx
open PySem L2
noncomputable def less (H:Hp) (R:eO->Prop):Hp:=λb=>@ite _ (R b) (Yx _) gn (H b)
structure TwoA (H:Hp) (C p1 p2:eO) (m:Nat) (nx1 os1 nx2 os2:ef Pr3):Prop where
 a1:MaA H C p1 m nx1 os1
 g1:MaG m nx1 os1
 a2:MaA H C p2 m nx2 os2
 g2:MaG m nx2 os2
 lo:os1.length=os2.length
 l:nx1.length + nx2.length<=60
theorem TwoA.same {m:Nat} (x:TwoA H C D S m Go HC Is Ix) (s:Same H H2):TwoA H2 C D S m Go HC Is Ix:=⟨x.a1.same s,x.g1,x.a2.same s,x.g2,x.lo,x.l⟩
theorem TwoA.jo {m:Nat} (x:TwoA H C D S m Go HC Is Ix):M.Jo (prs Go) (prs Is) where
 a1:=λq δ=>by
  obtain⟨r,γ,rfl⟩:=ic.mp δ;rw[aN];exact(x.g1.bn r (qb _ γ)).1
 a2:=λq δ=>by
  obtain⟨r,γ,rfl⟩:=ic.mp δ;rw[aN];exact(x.g2.bn r (qb _ γ)).1
 l:=by rw[aN,aN];have:=x.l;omega
noncomputable abbrev jnp (Z Y:ef Pr3):A':=M.jn (prs Z) (prs Y)
theorem KU (Z Y:ef Pr3):(jnp Z Y).length=Z.length + Y.length:=by rw[M.jn_len,aN,aN]
def M8 (C:eO):Sp:=λvs H Q _=>∃(p1 p2:eO) (m:Nat) (α Y Z β:ef Pr3) (x r:Nat),vs=[.ref p1,.ref p2,nat x,nat r]/\TwoA H C p1 p2 m α Y Z β/\x < 2 ^ (α.length + Z.length)/\r < 2 ^ m/\∀H2,Same H H2->Q (nat (M.tr2 (jnp α Z) x r)) H2
structure Fun2 (p1 o1 p2 o2:A') (m w t:Nat):Prop where
 hw:w < m
 ht:t<=p1.length + p2.length
 al:M.Al p1 o1 p2 o2 m t
 al':∀w',w' < w->M.sgl p1 o1 w' t=M.sgl p2 o2 w' t
 un:M.sgl p1 o1 w t≠M.sgl p2 o2 w t
theorem Fun2.not {m w t:Nat} (a:Fun2 p1 ψ p2 B2 m w t) (b:M.Al p1 ψ p2 B2 m (p1.length + p2.length + 1)):False:=a.un (b t (by have:=a.ht;omega) w a.hw)
def QD (C:eO):Sp:=λvs H Q _=>∃(p1 p2:eO) (m:Nat) (α Y Z β:ef Pr3),vs=[.ref p1,.ref p2]/\TwoA H C p1 p2 m α Y Z β/\
 (M.Al (prs α) (prs Y) (prs Z) (prs β) m (α.length + Z.length + 1)->∀H2,Same H H2->Q .non H2)/\
 (∀w t,Fun2 (prs α) (prs Y) (prs Z) (prs β) m w t->∀(tt:eO) (H2:Hp),Same H H2->H2 tt=a' (.tup [.str "apart",nat w,nat t])->Q (.ref tt) H2)
def SV (C:eO):Sp:=λvs H Q _=>∃(p1 p2:eO) (m:Nat) (α Y Z β:ef Pr3),vs=[.ref p1,.ref p2]/\TwoA H C p1 p2 m α Y Z β/\∀(D:eO) (H2:Hp),H D=gn->Same H H2->H2 D=a' (.lst ((M.prs2 (prs α) (prs Z) m).map nat))->Q (.ref D) H2
noncomputable def sfq (rows:C') (x:Nat):Nat:=@dite _ (∃q,Sumd rows x q) (Yx _) (λh=>h.choose) λ_=>0
theorem O7 (h:Sumd rows x q):q=sfq rows x:=by
 unfold sfq;rw[dif_pos ⟨q,h⟩];exact h.uniq (ab4 (⟨q,h⟩:∃q,Sumd rows x q))
structure AlkA (H:Hp) (t Ds Db Du:eO) (ts bs us:M') (m:Nat) (p1 p2:A'):Prop where
 t:H t=a' (.tup [.str "alike",.ref Ds,.ref Db,.ref Du])
 s:H Ds=a' (.lst (ts.map V.ref))
 ls:ts.length=(M.prs2 p1 p2 m).length
 sa:∀(j:Nat) a,ts[j]? =a' a->H a=a' (.tup [nat (M.lo p1.length ((M.prs2 p1 p2 m).getD j 0)),nat ((M.prs2 p1 p2 m).getD j 0>>>p1.length)])
 b:H Db=a' (.lst (bs.map V.ref))
 lb:bs.length=m
 ba:∀(j:Nat) a,bs[j]? =a' a->H a=a' (.lst ((M.pl 1000 (sfq (M.prs2 p1 p2 m) (M.tr2 (M.jn p1 p2) 0 (2 ^ j)))).map nat))
 u:H Du=a' (.lst (us.map V.ref))
 lu:us.length=(M.prs2 p1 p2 m).length
 ua:∀(j:Nat) a,us[j]? =a' a->H a=a' (.lst ((M.pl 1000 (sfq (M.prs2 p1 p2 m) (M.tr2 (M.jn p1 p2) ((M.prs2 p1 p2 m).getD j 0) 0))).map nat))
def S0 (C:eO):Sp:=λvs H Q _=>∃(p1 p2:eO) (m:Nat) (β Y α γ:ef Pr3),vs=[.ref p1,.ref p2]/\TwoA H C p1 p2 m β Y α γ/\
 (M.Al (prs β) (prs Y) (prs α) (prs γ) m (β.length + α.length + 1)->∀(t ε Z δ:eO) (ts bs us:M') (H2:Hp),Same H H2->AlkA H2 t ε Z δ ts bs us m (prs β) (prs α)->Q (.ref t) H2)/\
 (∀w t,Fun2 (prs β) (prs Y) (prs α) (prs γ) m w t->∀(tt:eO) (H2:Hp),Same H H2->H2 tt=a' (.tup [.str "apart",nat w,nat t])->Q (.ref tt) H2)
theorem J0 {m q:Nat} (hx:x=0∨x∈M.prs2 p1 p2 m) (Y:r < 2 ^ m):M.Span (M.prs2 p1 p2 m) (M.tr2 (M.jn p1 p2) x r):=by
 refine M.prs2_next ?_ Y;rcases hx with rfl | h
 ·exact M.span_zero _
 ·exact M.mem_span h
theorem IV:∀l:Nat,l + 1<=2 ^ l
 | 0=>by decide
 | l + 1=>by have:=IV l;rw[XX];omega
theorem Rz {l n:Nat} (h:l<=n):l + 1<=2 ^ n:=Yi (IV l) (gB @C h)
theorem Ry {l e n:Nat} (h:l + r<=n) (he:e < 2 ^ r):l + e<=2 ^ n:=by
 have h1:=IV l;have h2:2 ^ l * 2 ^ r<=2 ^ n:=by rw[<-aa9];exact gB @C h
 have Y:(l + 1) * 2 ^ r<=2 ^ l * 2 ^ r:=ZF _ h1;have Z:l<=l * 2 ^ r:=Nat.le_mul_of_pos_right _ (W3 _);rw[Nat.add_mul,ah5] at Y;omega
def Jq (C:eO):Sp:=λvs H Q _=>∃(p:eO) (m:Nat) (nx os:ef Pr3) (d:Nat),vs=[.ref p,nat d]/\MaA H C p m nx os/\MaG m nx os/\nx.length<=16/\d < 2 ^ nx.length/\
 ∀(t:eO) (H2:Hp) (l n:Nat),Same H H2->H2 t=a' (.tup [nat l,nat n])->l + n<=2 ^ nx.length->Q (.ref t) H2
theorem SI (ps:A') (x:Nat):M.tr (ps.map (·.1)) x=M.tr2 ps x 0:=by
 apply k';intro i;rw[M.tr2_bit,M.tr_bit,bx,Y7,M.od_zero,YW,bB,bB,hH];cases ps[i]? <;>rfl
theorem Jd (ps:A') (x:Nat):∀t,M.stt (ps.map (·.1)) x t=M.zs ps x t
 | 0=>rfl
 | t + 1=>by
   show M.tr (ps.map (·.1)) (M.stt (ps.map (·.1)) x t)=_;rw[Jd ps x t,SI];rfl
theorem P2 (b:X1):(M.bn b).testBit 0=b:=by cases b<;>rfl
theorem J6 {os:A'} (lo:os.length=1) (y:Nat):(M.tr2 os y 0).testBit 0=M.od ((os.getD 0 (0,0)).1&&&y):=by
 rw[M.tr2_bit,hE @A,Y1,Y7,M.od_zero,YW]
theorem KQ {ps os:A'} {bs:ef X1} (hx:x < 2 ^ ps.length) (lo:os.length=1) (h:M.wan ps os x (n' bs.length 0)=bs.map M.bn):∃j F,j<=ps.length/\F < 2 ^ j/\Keeps bs j F:=by
 have hb:∀t,t < bs.length->M.ans (ps.map (·.1)) (os.getD 0 (0,0)).1 x t=sq bs t:=λt ht=>by
  have e:=Wy (·[t]?) h;simp only[M.wan_zeros92 _ _ _ _ _ ht,hH,cn ht,ak8,Option.some.injEq] at e;have Z:=Wy (·.testBit 0) e;simp only[J6 lo,P2] at Z;unfold M.ans;rw[Jd,Z];exact(Jf (cn ht)).symm
 obtain⟨j,F,Y,ρ,α⟩:=M.has_rule (as:=ps.map (·.1)) (x:=x) (os.getD 0 (0,0)).1 (by rw[bx];exact hx);rw[bx] at Y;refine⟨j,F,Y,ρ,λi hi=>?_⟩;rw[<-hb (i + j) hi,α i];exact M.lf_congr λp β=>hb (i + p) @A
noncomputable def ledp (as:C') (s:Nat):A':=(lx as.length).map λk=>(as.getD k 0,M.bn (s.testBit k))
theorem sH (as:C') (s:Nat):(ledp as s).length=as.length:=by unfold ledp;rw[bx,W7]
theorem AK {s k:Nat} (h:k < as.length):(ledp as s)[k]? =a' (as.getD k 0,M.bn (s.testBit k)):=by
 unfold ledp;rw[hH,Xu h];rfl
theorem N5 (as:C') (s:Nat):(ledp as s).map (·.1)=as:=by
 refine YM λk=>?_;rw[hH];by_cases h:k < as.length
 ·rw[AK h,cn h,bB,cn h];rfl
 ·rw[X7 (by rw[sH];omega),X7 @A];rfl
theorem Kw {s:Nat} (hs:s < 2 ^ as.length):M.tr2 (ledp as s) 0 1=s:=by
 apply k';intro k;rw[M.tr2_bit,sH];by_cases h:k < as.length
 ·rw[hE h,Y1,bB,AK h,Y7,M.od_zero,YF];show M.od (M.bn (s.testBit k)&&&1)=_;cases s.testBit k<;>rfl
 ·rw[f' h,X8,Wx (eP hs (gB @C @A))]
theorem Rx {bs:ef X1} {L:Nat} (Z:L<=40) (hk:Keeps bs L G) (t:Nat) (ht:t < bs.length):M.ans (M.lm L G) (if 0 < L then 1 else 0) (M.pk (sq bs) 0 L) t=sq bs t:=by
 obtain⟨u,h1,h2,Y⟩:=M.lm_keeps (L:=L) (G:=G) (x:=M.pk (sq bs) 0 L) @A (M.pk_lt _ _ _);rw[h1];refine M.lm_follows (M:=bs.length) (λt h=>hk t h) h2 (λt h _=>?_) t ht;rw[Y t h,M.pk_bit,hE h,Y1,XH]
theorem Kv {bs:ef X1} {L:Nat} (Z:L<=40) (hk:Keeps bs L G):M.wan (ledp (M.lm L G) (M.pk (sq bs) 0 L)) [((if 0 < L then 1 else 0),0)] 0 (1::n' bs.length 0)=0::bs.map M.bn:=by
 show M.tr2 _ 0 1::M.wan _ _ (M.tr2 _ 0 1) _=_;rw[Kw (by rw[M.lm_len];exact M.pk_lt _ _ _)];refine congr (Wy List.cons ?_) ?_
 ·apply k';intro k;rw[M.tr2_bit,Y7,M.od_zero,YF,Xf]
  match k with
  | 0=>show(true&&M.od (0&&&1))=false;rfl
  | k + 1=>rfl
 ·refine YM λt=>?_;by_cases ht:t < bs.length
  ·rw[M.wan_zeros92 _ _ _ _ _ ht,hH,cn ht];refine Wy a' ?_;have e:=Rx Z hk t ht;unfold M.ans at e;have Y:=Jd (ledp (M.lm L G) (M.pk (sq bs) 0 L)) (M.pk (sq bs) 0 L) t;rw[N5] at Y;rw[Y,Jf (cn ht)] at e;apply k';intro k
   match k with
   | 0=>rw[J6 rfl,P2];exact e
   | k + 1=>
     rw[M.tr2_bit,f' (by show ¬k + 1 < 1;omega),X8];cases bs[t]<;>simp[M.bn,ZX]
  ·rw[X7 (by rw[M.wan_len,XD];omega),X7 (by rw[bx];omega)]
theorem N6 {bs:ef X1} {L:Nat} (δ:L<=40) (hk:Keeps bs L G) (ρ:∀Z,Z < L->∀q,q < 2 ^ Z->¬Keeps bs Z q) (f:M.Fit (ledp (M.lm L G) (M.pk (sq bs) 0 L)) [((if 0 < L then 1 else 0),0)] 1) (β:M.Lsr (ledp (M.lm L G) (M.pk (sq bs) 0 L)) [((if 0 < L then 1 else 0),0)] 1 ψ B2):ψ.length=L:=by
 have h1:=M.many_le (ps:=ledp (M.lm L G) (M.pk (sq bs) 0 L)) (os:=[((if 0 < L then 1 else 0),0)]) (m:=1);rw[<-β.ln,sH,M.lm_len] at h1;refine au0 h1 (Zr fun γ=>?_)
 have al:=β.alike f (rs:=1::n' bs.length 0) λr α=>by
  rcases WH.mp α with h | h
  ·rw[h];decide
  ·rw[aa8 h];decide
 rw[Kv δ hk] at al;have al:M.tr2 B2 0 1::M.wan ψ B2 (M.tr2 ψ 0 1) (n' bs.length 0)=0::bs.map M.bn:=al;obtain⟨j,F,η,ζ,ε⟩:=KQ (M.tr2_lt ψ 0 1) β.lo (Zj al).2;exact ρ j @A F ζ ε
def Gz (C:eO):Sp:=λvs H Q _=>∃(D:eO) (L G:Nat),vs=[nat L,.ref D]/\H D=a' (.lst ((M.pl 1000 G).map nat))/\G < 2 ^ L/\L<=40/\∀(p:eO) (H2:Hp) (nx os:ef Pr3),H p=gn->Same H H2->MaA H2 C p 0 nx os->MaG 0 nx os->Lfsr nx os L G->Q (.ref p) H2
def GD (C:eO):Sp:=λvs H Q _=>∃(r:eO) (bs:ef X1),vs=[.ref r]/\H r=a' (.lst (bs.map bV))/\bs.length<=40/\
 ∀(t p D:eO) (H2:Hp) (nx os:ef Pr3) (L G:Nat),Same H H2->H2 t=a' (.tup [.ref p,nat (M.pk (sq bs) 0 L),.ref D])->MaA H2 C p 0 nx os->MaG 0 nx os->Lfsr nx os L G->G < 2 ^ L->L<=bs.length->Keeps bs L G->(∀Y,Y < L->∀q,q < 2 ^ Y->¬Keeps bs Y q)->Q (.ref t) H2
theorem Lfsr.len {os:ef Pr3} {L:Nat} (l:Lfsr nx os L G):nx.length=L:=by have:=Wy X3 l.nx;rwa [bx,M.lm_len] at this
theorem QO (s k:Nat):X6 (((s:Int) / 2 ^ (k:Int).toNat)) 1=((M.bn (s.testBit k):Nat):Int):=by
 rw[wq];have e:((s:Int) / 2 ^ k)=((s / 2 ^ k:Nat):Int):=by push_cast;rfl
 rw[e,show(1:Int)=((1:Nat):Int) from rfl,dh,af8];congr 1;rw[ah1];unfold M.bn;rcases WQ (s / 2 ^ k) with h | h<;>rw[h]<;>rfl
def DM:Sp:=λvs H Q _=>∃c:Int,vs=[.int c]/\∀(D:eO) (H2:Hp) (bs:ef X1),H D=gn->Same H H2->H2 D=a' (.lst (bs.map bV))->bs.length<=16->Q (.ref D) H2
def Ju (C:eO):Sp:=λvs H Q _=>∃(p:eO) (nx os:ef Pr3) (L G s:Nat),vs=[.ref p,nat s]/\MaA H C p 0 nx os/\MaG 0 nx os/\Lfsr nx os L G/\G < 2 ^ L/\L<=16/\s < 2 ^ L/\
 ∀(p2:eO) (H2:Hp) (Z Y:ef Pr3),H p2=gn->Same H H2->MaA H2 C p2 1 Z Y->MaG 1 Z Y->prs Z=ledp (M.lm L G) s->prs Y=[((if 0 < L then 1 else 0),0)]->Q (.ref p2) H2
def DL:Sp:=λvs H Q _=>∃(D:eO) (bs:ef X1),vs=[.ref D]/\H D=a' (.lst (bs.map bV))/\bs.length<=16/\∀H2,Same H H2->Q (.bl true) H2
end Sx
namespace My
open PySem L2 Sx
local macro_rules | `(tactic| walk_at "o") =>`(tactic| first | exact ZN rfl | exact Zp rfl)
local macro_rules | `(tactic| walk_at "s") =>`(tactic| exact ⟨rfl,rfl,rfl,by decide +kernel,rfl,by decide +kernel,by decide +kernel⟩)
local macro_rules | `(tactic| walk_at "n") =>`(tactic| (intro vs H Q E h;repeat (first | (obtain ⟨e,_⟩:=h;subst e;rfl) | (obtain ⟨_,h⟩:=h))))
local macro_rules | `(tactic| walk_at "l2side") =>`(tactic| first | assumption | rfl | omega | decide | ((try dsimp only [CDiv,Wt,CPow,CMul]);first | omega | decide | (refine (⟨?_,?_⟩)<;>first | omega | decide) | (refine (⟨?_,?_,?_⟩)<;>first | omega | decide) | (left;refine (⟨?_,?_⟩)<;>first | omega | decide) | (right;refine (⟨?_,?_⟩)<;>first | omega | decide)))
local macro_rules | `(tactic| walk_at "l2len") =>`(tactic| ((with_reducible show _ + _≤la);first | assumption | (rw [ra];omega) | omega))
local macro_rules | `(tactic| walk_at "l2at") =>`(tactic| first | assumption | exact ax | (refine' Same.get (by assumption) ?h;(case h=>walk_at "l2at")))
local macro_rules | `(tactic| walk_at "l2hp") =>`(tactic| first | walk_at "l2at")
local macro_rules | `(tactic| walk_at "l2hp") =>`(tactic| first | (refine' Same.tup (by assumption) ?h;(case h=>walk_at "l2hp")) | (refine' Rep.same (by assumption) ?h;(case h=>walk_at "l2hp")))
local macro_rules | `(tactic| walk_at "l2hp") =>`(tactic| first | assumption | (refine' SqL.of ?h;(case h=>walk_at "l2at")) | (refine' SqT.of ?h;(case h=>walk_at "l2at")) | (refine' Same.seq (by assumption) ?h;(case h=>walk_at "l2hp")))
local macro_rules | `(tactic| walk_at "l2kind") =>`(tactic| first | assumption | exact rfl | (refine' ZN ⟨rfl,_,?e⟩;(case e=>walk_at "l2hp")) | (refine' Zp (ZN ⟨rfl,_,?e⟩);(case e=>walk_at "l2hp")) | (refine' Zp (Zp ⟨rfl,_,ZN ?e⟩);(case e=>walk_at "l2hp")))
local macro_rules | `(tactic| walk_at "l2step") =>`(tactic| first | ((with_reducible refine' s_go ?e ?_);(case e=>assumption)))
local macro_rules | `(tactic| walk_at "l2step") =>`(tactic| first | (with_reducible refine(⟨_,rfl,?_⟩)) | (with_reducible refine(⟨rfl,?_⟩)) | ((with_reducible refine' (⟨⟨_,?e⟩,?_⟩));(case e=>walk_at "l2hp")))
local macro_rules | `(tactic| walk_at "l2step") =>`(tactic| first | (with_reducible refine(⟨_,_,rfl,rfl,?_⟩);(with_reducible refine(⟨?l,?_⟩));(case l=>walk_at "l2len")) | (with_reducible refine(⟨_,_,rfl,rfl,?_⟩)) | (with_reducible refine ZN ⟨_,rfl,?_⟩) | (with_reducible refine Zp ⟨_,rfl,?_⟩))
local macro_rules | `(tactic| walk_at "l2step") =>`(tactic| first | (with_reducible refine Tv ?_) | ((with_reducible refine' mY ?e ?_);(case e=>first | rfl | decide | assumption)) | ((with_reducible refine' gL ?e ?_);(case e=>first | rfl | decide | assumption)) | ((with_reducible refine' Nw ?a ?b ?_);(case a=>omega);(case b=>omega)))
local macro_rules | `(tactic| walk_at "l2step") =>`(tactic| first | (with_reducible refine Q0 ?_) | (with_reducible refine s_intB ?_) | (with_reducible refine s_inS ?_) | ((with_reducible refine' s_addS ?e ?_);(case e=>walk_at "l2side")))
local macro_rules | `(tactic| walk_at "l2step") =>`(tactic| first | (with_reducible refine Tr ?_) | (with_reducible refine VZ ?_) | (with_reducible refine VM ?_) | (with_reducible refine S7 ?_))
local macro_rules | `(tactic| walk_at "l2step") =>`(tactic| first | ((with_reducible refine' Th ?e ?_);(case e=>walk_at "l2hp")) | ((with_reducible refine' Tf ?e ?_);(case e=>walk_at "l2hp")) | ((with_reducible refine' Tg ?e ?_);(case e=>walk_at "l2side")) | ((with_reducible refine' VY ?e ?m ?_);(case e=>walk_at "l2kind");(case m=>decide)))
local macro_rules | `(tactic| walk_at "l2step") =>`(tactic| first | ((with_reducible refine' VX ?e ?a ?_);(case e=>walk_at "l2hp");(case a=>first | assumption | rfl)) | ((with_reducible refine' VU ?e ?a ?_);(case e=>walk_at "l2hp");(case a=>first | assumption | rfl)) | ((with_reducible refine' s_ty ?e ?_);(case e=>first | exact rfl | (refine' ZN ⟨rfl,_,?f⟩;(case f=>walk_at "l2hp")) | (refine' Zp (Zp (ZN ⟨rfl,ZN ⟨_,?f⟩⟩));(case f=>walk_at "l2hp")))) | (with_reducible refine Tw ?_))
local macro_rules | `(tactic| walk_at "l2step") =>`(tactic| first | ((with_reducible refine' Tb ?l ?_);(case l=>exact Ky (ao1 rfl))) | ((with_reducible refine' Ta ?l ?_);(case l=>exact Ky (ao1 rfl))) | ((with_reducible refine' VP ?e ?_);(case e=>walk_at "l2hp")) | ((with_reducible refine' s_slS ?e ?_);(case e=>walk_at "l2side")))
local macro_rules | `(tactic| walk_at "l2step") =>`(tactic| first | (with_reducible refine To ?_) | ((with_reducible refine' Tj ?e ?l ?_);(case e=>walk_at "l2hp");(case l=>rfl)) | (with_reducible refine VO ?_) | (with_reducible refine VT ?_))
local macro_rules | `(tactic| walk_at "l2step") =>`(tactic| first | ((with_reducible refine' VQ ?e ?_);(case e=>rfl)) | (with_reducible refine s_leS ?_) | ((with_reducible refine' QY ?e ?_);(case e=>repeat constructor)) | (with_reducible refine QZ ?_))
local macro_rules | `(tactic| walk_at "l2step") =>`(tactic| first | (with_reducible refine VR ?_) | ((with_reducible refine' s_rI ?e ?_);(case e=>walk_at "l2side")) | (with_reducible refine s_rU ?_) | ((with_reducible refine' VS ?e ?_);(case e=>rfl)))
local macro_rules | `(tactic| walk_at "l2step") =>`(tactic| first | ((with_reducible refine S8 ?_);intro _ _) | (with_reducible refine S9 ?_) | ((with_reducible refine' VN ?e ?_);(case e=>repeat constructor)) | (with_reducible refine Q4 ?_))
local macro_rules | `(tactic| walk_at "l2") =>`(tactic| repeat walk_at "l2step")
local macro_rules | `(tactic| walk_at "l2step") =>`(tactic| first | ((with_reducible refine' S5 ?e ?_);(case e=>walk_at "l2hp")))
local macro_rules | `(tactic| walk_at "l2step") =>`(tactic| first | ((with_reducible refine' QW ?e ?_);(case e=>walk_at "l2hp")) | ((with_reducible refine' QV ?e ?_);(case e=>walk_at "l2hp")) | ((with_reducible refine' S6 ?e ?_);(case e=>walk_at "l2hp")))
local macro_rules | `(tactic| walk_at "l2step") =>`(tactic| first | (with_reducible refine Tc ?_) | (with_reducible refine Tp ?_) | (with_reducible refine Tu ?_) | (with_reducible refine QX ?_))
local macro_rules | `(tactic| walk_at "l2step") =>`(tactic| first | (with_reducible refine Nu ?_) | (with_reducible refine V0 ?_) | (with_reducible refine Td ?_) | (with_reducible refine Nv ?_))
local macro_rules | `(tactic| walk_at "l2step") =>`(tactic| first | (with_reducible refine V2 ?_) | (with_reducible refine Tq ?_) | (with_reducible refine s_disp1I ?_) | ((with_reducible refine' s_listD ?e ?_);(case e=>walk_at "l2at")))
local macro_rules | `(tactic| walk_at "l2step") =>`(tactic| first | (with_reducible refine QU ?_) | (with_reducible refine s_try0 ?_) | (with_reducible refine Q3 ?_))
noncomputable def top (i:Nat):Stmt:=PySem.Challenge.pw_sumwires_k95_whole_heard_and_written.main.body.getD i (.Pass ⟨0,0,0,0⟩)
noncomputable abbrev tY:Stmt:=top 19
theorem DX:av ["thing"] ["thing"] (ag tY):=by walk_at "s"
noncomputable abbrev wF:Stmt:=top 20
theorem GM:av ["thing","width"] ["thing","width"] (ag wF):=by walk_at "s"
noncomputable abbrev rY:Stmt:=top 21
theorem GL:av ["thing"] ["thing"] (ag rY):=by walk_at "s"
noncomputable abbrev JG:Stmt:=top 22
theorem wc:av ["number","width","half"] ["number"] (ag JG):=by walk_at "s"
noncomputable abbrev rZ:Stmt:=top 23
theorem GN:av ["mask"] ["mask"] (ag rZ):=by walk_at "s"
noncomputable abbrev wC:Stmt:=top 24
theorem pH:av ["places","mask","place"] ["places"] (ag wC):=by walk_at "s"
noncomputable abbrev tX:Stmt:=top 25
theorem DT:av ["row"] ["row"] (ag tX):=by walk_at "s"
noncomputable abbrev Ag:Stmt:=top 26
theorem oz:av ["masks","width","whole","place","mask"] ["masks","width"] (ag Ag):=by walk_at "s"
noncomputable abbrev pJ:Stmt:=top 27
theorem DU:av ["whole","width","count"] ["whole","width","count"] (ag pJ):=by walk_at "s"
noncomputable abbrev wD:Stmt:=top 32
theorem GK:av ["thing","stores","inputs"] ["thing","stores","inputs"] (ag wD):=by walk_at "s"
noncomputable abbrev jG:Stmt:=top 33
theorem yw:av ["inputs","nexts","outs"] ["inputs","nexts","outs"] (ag jG):=by walk_at "s"
noncomputable abbrev Ah:Stmt:=top 34
theorem JD:av ["pair","state","row"] ["pair","state","row"] (ag Ah):=by walk_at "s"
noncomputable abbrev kW:Stmt:=top 35
theorem Aa:av ["pairs","state","row"] ["pairs","state","row"] (ag kW):=by walk_at "s"
noncomputable abbrev hX:Stmt:=bE (top 36) 0
theorem qZ:av ["self","inputs","nexts","outs"] ["self","inputs","nexts","outs"] (ag hX):=by walk_at "s"
noncomputable abbrev jq:Stmt:=bE (top 36) 1
theorem tW:av ["self"] ["self"] (ag jq):=by walk_at "s"
noncomputable abbrev iB:Stmt:=bE (top 36) 2
theorem rV:av ["self"] ["self"] (ag iB):=by walk_at "s"
noncomputable abbrev l9:Stmt:=bE (top 36) 3
theorem wt:av ["self"] ["self"] (ag l9):=by walk_at "s"
noncomputable abbrev fE:Stmt:=bE (top 36) 4
theorem oa:av ["self","state"] ["self","state"] (ag fE):=by walk_at "s"
noncomputable abbrev md:Stmt:=bE (top 36) 5
theorem wu:av ["self","state","row"] ["self","state","row"] (ag md):=by walk_at "s"
noncomputable abbrev jm:Stmt:=bE (top 36) 6
theorem dG:av ["self","rows","state","answers","row","done"] ["self","rows","state"] (ag jm):=by walk_at "s"
noncomputable abbrev fY:Stmt:=bE (top 36) 7
theorem yA:av ["self","rows","state"] ["self","rows","state"] (ag fY):=by walk_at "s"
noncomputable abbrev jr:Stmt:=bE (top 36) 9
theorem mr:av ["self","which","turns","rows"] ["self","which","turns"] (ag jr):=by walk_at "s"
noncomputable abbrev me:Stmt:=bE (top 36) 10
theorem dH:av ["self","mask","store_mask","input_mask","place"] ["self","mask"] (ag me):=by walk_at "s"
noncomputable abbrev jk:Stmt:=bE (top 38) 0
theorem iA:av ["self","rows","place","row"] ["self","rows"] (ag jk):=by walk_at "s"
noncomputable abbrev kg:Stmt:=bE (top 38) 1
theorem eU:av ["self","mask","places","found"] ["self","mask"] (ag kg):=by walk_at "s"
noncomputable abbrev rn:Stmt:=bE (top 38) 2
theorem oC:av ["self","place","row","found","places"] ["self","place","row"] (ag rn):=by walk_at "s"
noncomputable abbrev ki:Stmt:=bE (top 38) 3
theorem gJ:av ["self","bit","mask","top"] ["self","bit"] (ag ki):=by walk_at "s"
noncomputable abbrev JK:Stmt:=top 39
theorem QR:av ["rows"] ["rows"] (ag JK):=by walk_at "s"
noncomputable abbrev wx:Stmt:=top 40
theorem tT:av ["rows","wish","steps","found"] ["rows","wish"] (ag wx):=by walk_at "s"
noncomputable abbrev Aj:Stmt:=top 41
theorem pI:av ["masks","place","found","sums"] ["masks"] (ag Aj):=by walk_at "s"
noncomputable abbrev jI:Stmt:=top 44
theorem yy:av ["row"] ["row"] (ag jI):=by walk_at "s"
noncomputable abbrev pK:Stmt:=top 45
theorem qW:av ["row","length","count","columns"] ["row","length"] (ag pK):=by walk_at "s"
noncomputable abbrev jE:Stmt:=top 46
theorem qw:av ["length","places","nexts"] ["length","places"] (ag jE):=by walk_at "s"
noncomputable abbrev DZ:Stmt:=top 47
theorem mW:av ["row","length","found","times"] ["row"] (ag DZ):=by walk_at "s"
noncomputable abbrev rg:Stmt:=top 49
theorem oA:av ["one","other","pair","row","width","low"] ["one","other","pair","row"] (ag rg):=by walk_at "s"
noncomputable abbrev gC:Stmt:=top 50
theorem cS:av ["one","other","turns","inputs","ones","others","turn","which"] ["one","other"] (ag gC):=by walk_at "s"
noncomputable abbrev dI:Stmt:=top 51
theorem eQ:av ["one","other","pairs","told","turn"] ["one","other"] (ag dI):=by walk_at "s"
noncomputable abbrev jY:Stmt:=top 52
theorem gK:av ["one","other","apart","pairs","begins","sums","width","states"] ["one","other"] (ag jY):=by walk_at "s"
noncomputable abbrev wB:Stmt:=top 54
theorem pG:av ["machine","turns","states","told","turn"] ["machine","turns"] (ag wB):=by walk_at "s"
noncomputable abbrev wz:Stmt:=top 55
theorem GI:av ["machine","places","turns"] ["machine","places","turns"] (ag wz):=by walk_at "s"
noncomputable abbrev j8:Stmt:=top 56
theorem ji:av ["machine","state","states","turn"] ["machine","state"] (ag j8):=by walk_at "s"
noncomputable abbrev i9:Stmt:=top 58
theorem g9:av ["machine","masks","told","turn"] ["machine"] (ag i9):=by walk_at "s"
noncomputable abbrev pL:Stmt:=top 59
theorem DV:av ["mask","others"] ["mask","others"] (ag pL):=by walk_at "s"
noncomputable abbrev j7:Stmt:=top 60
theorem u0:av ["pair","states","seen"] ["pair","states","seen"] (ag j7):=by walk_at "s"
noncomputable abbrev ka:Stmt:=top 61
theorem iY:av ["machine","leads","masks","led","states","looks","seen","nexts","outs","rows"] ["machine"] (ag ka):=by walk_at "s"
noncomputable abbrev kc:Stmt:=bE (top 63) 0
theorem va:av ["self","name"] ["self","name"] (ag kc):=by walk_at "s"
noncomputable abbrev iC:Stmt:=bE (top 64) 0
theorem rW:av ["self","name","number"] ["self","name","number"] (ag iC):=by walk_at "s"
noncomputable abbrev oH:Stmt:=bE (top 64) 2
theorem Ae:av ["self","known","row","state"] ["self","known","row","state"] (ag oH):=by walk_at "s"
noncomputable abbrev ng:Stmt:=bE (top 64) 3
theorem yB:av ["self","known"] ["self","known"] (ag ng):=by walk_at "s"
noncomputable abbrev hV:Stmt:=bE (top 65) 0
theorem qY:av ["self","name","wires"] ["self","name","wires"] (ag hV):=by walk_at "s"
noncomputable abbrev m9:Stmt:=bE (top 65) 3
theorem iZ:av ["self","known","row","state","total","wire"] ["self","known","row","state"] (ag m9):=by walk_at "s"
noncomputable abbrev lR:Stmt:=bE (top 65) 4
theorem cT:av ["self","known","store_mask","input_mask","wire","pair"] ["self","known"] (ag lR):=by walk_at "s"
noncomputable abbrev gq:Stmt:=bE (top 66) 0
theorem oB:av ["self","name","wire","number"] ["self","name","wire","number"] (ag gq):=by walk_at "s"
noncomputable abbrev ke:Stmt:=bE (top 66) 2
theorem vb:av ["self","known","row","state"] ["self","known","row","state"] (ag ke):=by walk_at "s"
noncomputable abbrev jj:Stmt:=bE (top 66) 3
theorem tU:av ["self","known"] ["self","known"] (ag jj):=by walk_at "s"
noncomputable abbrev jH:Stmt:=top 73
theorem yx:av ["ins","sums","stores","outs"] ["ins","sums","stores","outs"] (ag jH):=by walk_at "s"
noncomputable abbrev m8:Stmt:=top 74
theorem lP:av ["names","known","name"] ["names"] (ag m8):=by walk_at "s"
noncomputable abbrev oG:Stmt:=top 75
theorem Ac:av ["wire","known"] ["wire","known"] (ag oG):=by walk_at "s"
noncomputable abbrev mZ:Stmt:=top 76
theorem gw:av ["sums","stores","outs","known","row","wire"] ["sums","stores","outs","known"] (ag mZ):=by walk_at "s"
noncomputable abbrev cU:Stmt:=top 77
theorem nO:av ["ins","sums","stores","wires"] ["ins","sums","stores"] (ag cU):=by walk_at "s"
noncomputable abbrev Af:Stmt:=top 78
theorem Nr:av ["row","waiting"] ["row","waiting"] (ag Af):=by walk_at "s"
noncomputable abbrev oF:Stmt:=top 80
theorem jW:av ["sums","names","left","waiting","ready"] ["sums"] (ag oF):=by walk_at "s"
noncomputable abbrev dq:Stmt:=bE (top 81) 0
theorem wo:av ["self","ins","sums","stores","outs"] ["self","ins","sums","stores","outs"] (ag dq):=by walk_at "s"
noncomputable abbrev l6:Stmt:=bE (top 81) 1
theorem wm:av ["self"] ["self"] (ag l6):=by walk_at "s"
noncomputable abbrev lW:Stmt:=bE (top 81) 2
theorem wk:av ["self"] ["self"] (ag lW):=by walk_at "s"
noncomputable abbrev jl:Stmt:=bE (top 81) 3
theorem tV:av ["self"] ["self"] (ag jl):=by walk_at "s"
noncomputable abbrev kj:Stmt:=bE (top 81) 4
theorem vc:av ["self"] ["self"] (ag kj):=by walk_at "s"
noncomputable abbrev nc:Stmt:=bE (top 81) 7
theorem yz:av ["self","name"] ["self","name"] (ag nc):=by walk_at "s"
noncomputable abbrev dX:Stmt:=bE (top 81) 9
theorem qi:av ["self"] ["self"] (ag dX):=by walk_at "s"
noncomputable abbrev pN:Stmt:=top 83
theorem DY:av ["words"] ["words"] (ag pN):=by walk_at "s"
noncomputable abbrev wy:Stmt:=top 84
theorem GH:av ["text"] ["text"] (ag wy):=by walk_at "s"
noncomputable abbrev gW:Stmt:=top 85
theorem fB:av ["text","rows","number","words","ins","sums","stores","outs"] ["text"] (ag gW):=by walk_at "s"
noncomputable abbrev gU:Stmt:=top 86
theorem wa:av ["net","rows"] ["net"] (ag gU):=by walk_at "s"
noncomputable abbrev Ai:Stmt:=top 88
theorem JE:av ["poly"] ["poly"] (ag Ai):=by walk_at "s"
noncomputable abbrev wG:Stmt:=top 89
theorem jX:av ["one","other","quotient","rest","place"] ["one","other"] (ag wG):=by walk_at "s"
noncomputable abbrev lQ:Stmt:=top 90
theorem cR:av ["poly","top","power","turns"] ["poly"] (ag lQ):=by walk_at "s"
noncomputable abbrev oE:Stmt:=top 92
theorem rT:av ["machine","state","shown"] ["machine","state"] (ag oE):=by walk_at "s"
noncomputable abbrev wA:Stmt:=top 93
theorem mn:av ["machine","state","poly","lead"] ["machine","state"] (ag wA):=by walk_at "s"
noncomputable abbrev rf:Stmt:=top 95
theorem oy:av ["net","row","state","bits","name"] ["net","row","state"] (ag rf):=by walk_at "s"
noncomputable abbrev rX:Stmt:=top 96
theorem GJ:av ["wires","bits"] ["wires","bits"] (ag rX):=by walk_at "s"
noncomputable abbrev lV:Stmt:=bE (top 97) 0
theorem wj:av ["self","net"] ["self","net"] (ag lV):=by walk_at "s"
noncomputable abbrev pP:Stmt:=bE (top 97) 1
theorem we:av ["self","row","answer"] ["self","row"] (ag pP):=by walk_at "s"
noncomputable abbrev lU:Stmt:=bE (top 97) 4
theorem wg:av ["self"] ["self"] (ag lU):=by walk_at "s"
noncomputable abbrev Ea:Stmt:=top 99
theorem Ab:av ["net","pairs","name"] ["net"] (ag Ea):=by walk_at "s"
noncomputable abbrev mw:Stmt:=top 100
theorem mV:av ["net","pairs","nexts","outs"] ["net"] (ag mw):=by walk_at "s"
noncomputable abbrev pM:Stmt:=top 101
theorem DW:av ["letter","count"] ["letter","count"] (ag pM):=by walk_at "s"
noncomputable abbrev j9:Stmt:=top 102
theorem uM:av ["name","pair","stores"] ["name","pair"] (ag j9):=by walk_at "s"
noncomputable abbrev vN:Stmt:=top 103
theorem mq:av ["machine","next_names","out_names","pairs","sums","stores"] ["machine"] (ag vN):=by walk_at "s"
noncomputable abbrev rm:Stmt:=top 105
theorem BE:av ["_law_script","_law_k"] ["_law_script","_law_k"] (ag rm):=by walk_at "s"
noncomputable abbrev t8:Stmt:=top 106
theorem qX:av ["_law_cell_here","_law_k","_law_number"] ["_law_cell_here","_law_k"] (ag t8):=by walk_at "s"
noncomputable abbrev gX:Stmt:=top 107
theorem hU:av ["_law_cell_here","_law_size","_law_many","_law_rule","_law_row"] ["_law_cell_here"] (ag gX):=by walk_at "s"
noncomputable abbrev pO:Stmt:=top 108
theorem mX:av ["_law_other","_law_start","_law_inputs","_law_nexts","_law_outs"] ["_law_other","_law_start"] (ag pO):=by walk_at "s"
noncomputable abbrev kZ:Stmt:=top 109
theorem b4:av ["_law_row","_law_other","_law_start","_law_places","_law_led_here","_law_net_one","_law_run","_law_answers","_law_small","_law_lead","_law_length"] ["_law_row"] (ag kZ):=by walk_at "s"
noncomputable abbrev GO:Stmt:=top 110
theorem O9:av ["_law_script","_law_cell_here"] ["_law_script"] (ag GO):=by walk_at "s"
noncomputable abbrev FR (K:b') (x q:Wz) (st:ZD) (f:eO):Prop:=∃(β:xo) (od:Q') (kV χ α:xo) (an:Q') (Y ct:xo) (Z:L'),K.lookup f=a' ⟨β,od,.func (X' x q (iT st) (fP st) (ag st) .none kV χ α an Y ct),Z⟩/\YS K Y q=true/\XM K (.ref f)=true
theorem FR.mk {K:b'} {x q:Wz} {st:ZD} {f:eO} {Z:L'} (h1:K.lookup f=a' ⟨u,wE,.func (X' x q (iT st) (fP st) (ag st) .none δ χ dv an jp ct),Z⟩) (h2:YS K jp q=true) (γ:XM K (.ref f)=true):FR K x q st f:=⟨_,_,_,_,_,_,_,_,_,h1,h2,γ⟩
structure FT (K:b') (x q:Wz) (st:ZD) (f:eO) (d:iv) (ps:B'):Prop where
 F:Fun K x q st f d
 b:qv K d ps []
theorem FR.ok {K:b'} {x q:Wz} {st:ZD} {f:eO} {ps:B'} (h:FR K x q st f) (g:∀(kV χ Z:xo) (an:Q') (Y ct:xo) (us:F'),us.length=ps.length->bindArgs (X' x q (iT st) (fP st) (ag st) .none kV χ Z an Y ct) ⟨us,[]⟩=pure (ps.zip us)):∃d,FT K x q st f d ps:=by
 obtain⟨_,_,_,_,_,_,_,_,_,h1,h2,α⟩:=h;have F:=Pw (st:=st) h1 h2 α;exact⟨_,F,F.binds g⟩
theorem aj {k:Nat} {f:eO} {ps:B'} {x n q:Wz} {st:ZD} {p:Pos} {t:TA} (F:FnOk X.prog X.w X.K X.mg X.base CX k f fd ps sp) (α:Room j X.A) (hm:X.mg x=a' (.ref f)) (U:FT X.K n q st f fd ps)
  (ha:PA X (e::pT) t) (β:tH CX X E:=by exact bJ) (γ:k<=j:=by decide) (δ:Gl X x:=by rfl) (Z:(x == ("__debug__":Wz))=false:=by decide) (he:zx (e::pT) X.env=(false,eval e X.env)::zx pT X.env:=by rfl) (Y:(backTo pos (zx pT X.env)).any (·.1)=false:=by rfl):
  PE X (.Call (.Name x p) (e::pT) [] pos) (Jc sp [] E t):=Re F (α.mono γ) δ hm U.1.2 U.2 .nil β ha Z he Y
noncomputable abbrev NI (K:b') (x:Wz) (f:eO):Prop:=at0 K WZ x=a' (a' (.ref f))
noncomputable abbrev NN (K:b') (x:Wz):Prop:=at0 K WZ x=a' gn
noncomputable abbrev FI (K:b') (c:eO) (x:Wz) (f:eO):Prop:=WW K (.ref c) x=a' (a' (.ref f))
noncomputable abbrev FN (K:b') (c:eO) (x:Wz):Prop:=WW K (.ref c) x=a' gn
theorem bln0 {l:ef Xi} (h:l.length=0):l=[]:=ZC h
theorem bln1 {l:ef Xi} (h:l.length=1):∃a,l=[a]:=List.length_eq_one_iff.mp h
theorem bln2 {l:ef Xi} (h:l.length=2):∃a b,l=[a,b]:=by cases l with | nil=>cases h | cons a l=>obtain ⟨b,z⟩:=bln1 (Zz h);exact ⟨a,b,z ▸ rfl⟩
theorem bln3 {l:ef Xi} (h:l.length=3):∃a b c,l=[a,b,c]:=by cases l with | nil=>cases h | cons a l=>obtain ⟨b,c,z⟩:=bln2 (Zz h);exact ⟨a,b,c,z ▸ rfl⟩
theorem bln4 {l:ef Xi} (h:l.length=4):∃a b c d,l=[a,b,c,d]:=by cases l with | nil=>cases h | cons a l=>obtain ⟨b,c,d,z⟩:=bln3 (Zz h);exact ⟨a,b,c,d,z ▸ rfl⟩
theorem bln5 {l:ef Xi} (h:l.length=5):∃a b c d e,l=[a,b,c,d,e]:=by cases l with | nil=>cases h | cons a l=>obtain ⟨b,c,d,e,z⟩:=bln4 (Zz h);exact ⟨a,b,c,d,e,z ▸ rfl⟩
theorem bln6 {l:ef Xi} (h:l.length=6):∃a b c d e f,l=[a,b,c,d,e,f]:=by cases l with | nil=>cases h | cons a l=>obtain ⟨b,c,d,e,f,z⟩:=bln5 (Zz h);exact ⟨a,b,c,d,e,f,z ▸ rfl⟩
theorem bln7 {l:ef Xi} (h:l.length=7):∃a b c d e f g,l=[a,b,c,d,e,f,g]:=by cases l with | nil=>cases h | cons a l=>obtain ⟨b,c,d,e,f,g,z⟩:=bln6 (Zz h);exact ⟨a,b,c,d,e,f,g,z ▸ rfl⟩
local macro_rules | `(tactic| walk_at "b") =>`(tactic| first | (refine fun _ _ _ _ _ _ us hl=>?_;obtain ⟨_,hz⟩:=bln1 hl;subst hz;rfl) | (refine fun _ _ _ _ _ _ us hl=>?_;obtain ⟨_,_,hz⟩:=bln2 hl;subst hz;rfl) | (refine fun _ _ _ _ _ _ us hl=>?_;obtain ⟨_,_,_,hz⟩:=bln3 hl;subst hz;rfl) | (refine fun _ _ _ _ _ _ us hl=>?_;obtain ⟨_,_,_,_,hz⟩:=bln4 hl;subst hz;rfl) | (refine fun _ _ _ _ _ _ us hl=>?_;obtain ⟨_,_,_,_,_,hz⟩:=bln5 hl;subst hz;rfl) | (refine fun _ _ _ _ _ _ us hl=>?_;obtain ⟨_,_,_,_,_,_,hz⟩:=bln6 hl;subst hz;rfl) | (refine fun _ _ _ _ _ _ us hl=>?_;obtain ⟨_,_,_,_,_,_,_,hz⟩:=bln7 hl;subst hz;rfl))
abbrev n10:B':=["row"]
abbrev n11:B':=["words"]
abbrev n12:B':=["machine","leads","masks","led","states","looks","seen","nexts","outs","rows"]
abbrev n13:B':=["row","waiting"]
abbrev n14:B':=["text","rows","number","words","ins","sums","stores","outs"]
abbrev n15:B':=["net","rows"]
abbrev n16:B':=["_law_k","_law_cell_here"]
abbrev n17:B':=["place","machine"]
abbrev n18:B':=["ins","sums","stores","wires"]
abbrev n19:B':=["self","ins","sums","stores","outs"]
abbrev n20:B':=["_law_cell_here","_law_size","_law_many","_law_rule","_law_row"]
abbrev n21:B':=["place","pair","state","row"]
abbrev n22:B':=["place","other","mask"]
abbrev n23:B':=["one","other","pairs","told","turn"]
abbrev n24:B':=["one","other","apart","pairs","begins","sums","width","states"]
abbrev n25:B':=["_law_k","_law_pair","_law_start"]
abbrev n26:B':=["_law_k","_law_row","_law_many","_law_rule"]
abbrev n27:B':=["one","other","turns","inputs","ones","others","turn","which"]
set_option genInjectivity false in
set_option genSizeOf false in
structure Ad where
 gc:eO
 p4:iv
 ig:eO
 sS:iv
 kN:eO
 CL:iv
 xV:eO
 PQ:iv
 kP:eO
 CN:iv
 kK:eO
 CH:iv
 iH:eO
 zH:iv
 nC:eO
 F2:iv
 iI:eO
 zI:iv
 kM:eO
 CK:iv
 eG:eO
 sU:iv
 nF:eO
 F4:iv
 fK:eO
 uR:iv
 bz:eO
 lF:iv
 bR:eO
 nY:iv
 bF:eO
 mK:iv
 cx:eO
 qO:iv
 bc:eO
 jb:iv
 cy:eO
 qP:iv
 bQ:eO
 nX:iv
 cA:eO
 nI:iv
 nH:xo
 bT:eO
 nZ:iv
 cB:eO
 qR:iv
 bO:eO
 nV:iv
 b7:eO
 ph:iv
 eL:eO
 yb:iv
 b8:eO
 pj:iv
 xW:eO
 PR:iv
 kF:eO
 CB:iv
 rM:eO
 LP:iv
 eK:eO
 sX:iv
 iL:eO
 zL:iv
 eh:eO
 sR:iv
 rK:eO
 LL:iv
 gO:eO
 x8:iv
 dB:eO
 qH:iv
 c7:eO
 pd:iv
 iQ:eO
 zQ:iv
 rH:eO
 LJ:iv
 kH:eO
 CD:iv
 c6:eO
 o9:iv
 fL:eO
 uS:iv
 iN:eO
 zN:iv
 cZ:eO
 o8:iv
 rJ:eO
 LK:iv
 cH:eO
 dP:iv
 bG:eO
 mL:iv
 dm:eO
 uW:iv
 cP:eO
 tf:iv
 bw:eO
 lE:iv
 cN:eO
 sY:iv
 cj:eO
 qI:iv
 bh:eO
 jD:iv
 b5:eO
 pe:iv
 bN:eO
 nU:iv
 eI:eO
 sV:iv
 eJ:eO
 sW:iv
 fM:eO
 uT:iv
 eE:eO
 sT:iv
 cX:eO
 o7:iv
 rG:eO
 LH:iv
 kJ:eO
 CG:iv
 cw:eO
 qN:iv
 cv:eO
 qM:iv
 cu:eO
 qL:iv
 bP:eO
 nW:iv
 b9:eO
 pq:iv
 cO:eO
 sZ:iv
 bp:eO
 kQ:iv
 iP:eO
 zP:iv
 kG:eO
 CC:iv
 iM:eO
 zM:iv
 iK:eO
 zK:iv
 nG:eO
 F6:iv
 kO:eO
 CM:iv
 dA:eO
 qG:iv
 fJ:eO
 uQ:iv
 kI:eO
 CF:iv
 gN:eO
 x6:iv
 kL:eO
 CJ:iv
 cq:eO
 qK:iv
 gf:eO
 zT:iv
 ck:eO
 qJ:iv
 rL:eO
 LM:iv
 iJ:eO
 zJ:iv
 iO:eO
 zO:iv
 gP:eO
 x9:iv
 nE:eO
 F3:iv
 gQ:eO
 ya:iv
 iR:eO
 zR:iv
 fO:eO
 uV:iv
 iS:eO
 zS:iv
 fN:eO
 uU:iv
 HM:eO
 U9:iv
 aq:eO
 bH:eO
 tE:eO
 bf:eO
 aT:eO
 aB:eO
 de:eO
 gh:eO
 uK:eO
 yg:eO
 dQ:eO
 j0:eO
 p5:eO
 v9:Tok
 j6:Tok
 lM:Tok
 mT:Tok
 tQ:Tok
 gm:Tok
 jg:Tok
 fk:Tok
 g7:Tok
 qV:Tok
 ox:Tok
 ou:Tok
open PySem.W in
structure Tx (K:Frag) (mg:G') (a:Ad):Prop where
 j5:FT K "is_whole" "is_whole" tY a.gc a.p4 ["thing"]
 uF:mg "is_whole"=a' (.ref a.gc)
 iq:FT K "is_mask" "is_mask" wF a.ig a.sS ["thing","width"]
 mJ:mg "is_mask"=a' (.ref a.ig)
 jd:FT K "is_name" "is_name" rY a.kN a.CL ["thing"]
 oZ:mg "is_name"=a' (.ref a.kN)
 yp:FT K "even" "even" JG a.xV a.PQ ["number"]
 FX:mg "even"=a' (.ref a.xV)
 je:FT K "bits_of" "bits_of" rZ a.kP a.CN ["mask"]
 o4:mg "bits_of"=a' (.ref a.kP)
 gE:FT K "mask_of" "mask_of" wC a.kK a.CH ["places"]
 kE:mg "mask_of"=a' (.ref a.kK)
 p7:FT K "words_of" "words_of" tX a.iH a.zH ["row"]
 Hx:mg "words_of"=a' (.ref a.iH)
 qe:FT K "packed" "packed" Ag a.nC a.F2 ["masks","width"]
 A1:mg "packed"=a' (.ref a.nC)
 p8:FT K "unpacked" "unpacked" pJ a.iI a.zI ["whole","width","count"]
 Hy:mg "unpacked"=a' (.ref a.iI)
 tN:FT K "is_pair" "is_pair" wD a.kM a.CK ["thing","stores","inputs"]
 Ld:mg "is_pair"=a' (.ref a.kM)
 jQ:FT K "check_table" "check_table" jG a.eG a.sU ["inputs","nexts","outs"]
 A3:mg "check_table"=a' (.ref a.eG)
 vW:FT K "is_odd" "is_odd" Ah a.nF a.F4 ["pair","state","row"]
 Oj:mg "is_odd"=a' (.ref a.nF)
 jc:FT K "odd_places" "odd_places" kW a.fK a.uR ["pairs","state","row"]
 uP:mg "odd_places"=a' (.ref a.fK)
 cb:FT K "__init__" "Machine.__init__" hX a.bz a.lF ["self","inputs","nexts","outs"]
 aL:FT K "stores" "Machine.stores" jq a.bR a.nY ["self"]
 bW:FT K "outputs" "Machine.outputs" iB a.bF a.mK ["self"]
 dE:FT K "told" "Machine.told" l9 a.cx a.qO ["self"]
 bj:FT K "check_state" "Machine.check_state" fE a.bc a.jb ["self","state"]
 b0:FT K "step" "Machine.step" md a.cy a.qP ["self","state","row"]
 ff:FT K "walked" "Machine.walked" jm a.bQ a.nX ["self","rows","state"]
 iu:FunD K "run" "Machine.run" fY a.cA a.nI a.nH
 jU:qv K a.nI ["self","rows","state"] [a.nH]
 rR:RelV (.int 0) a.nH
 di:FT K "single" "Machine.single" jr a.bT a.nZ ["self","which","turns"]
 fj:FT K "back" "Machine.back" me a.cB a.qR ["self","mask"]
 fc:FT K "__init__" "Steps.__init__" jk a.bO a.nV ["self","rows"]
 dR:FT K "lowered" "Steps.lowered" kg a.b7 a.ph ["self","mask"]
 kS:FT K "lay" "Steps.lay" rn a.eL a.yb ["self","place","row"]
 fW:FT K "barring" "Steps.barring" ki a.b8 a.pj ["self","bit"]
 zX:FT K "base" "base" JK a.xW a.PR ["rows"]
 Lf:mg "base"=a' (.ref a.xW)
 ik:FT K "sum_for" "sum_for" wx a.kF a.CB ["rows","wish"]
 mI:mg "sum_for"=a' (.ref a.kF)
 Bu:FT K "chain" "chain" Aj a.rM a.LP ["masks"]
 RN:mg "chain"=a' (.ref a.rM)
 jT:FT K "check_heard" "check_heard" jI a.eK a.sX ["row"]
 A6:mg "check_heard"=a' (.ref a.eK)
 mM:FT K "rule_for" "rule_for" pK a.iL a.zL ["row","length"]
 zF:mg "rule_for"=a' (.ref a.iL)
 jN:FT K "row_machine" "row_machine" jE a.eh a.sR ["length","places"]
 AZ:mg "row_machine"=a' (.ref a.eh)
 Bq:FT K "heard" "heard" DZ a.rK a.LL ["row"]
 RL:mg "heard"=a' (.ref a.rK)
 gR:FT K "next_pair" "next_pair" rg a.gO a.x8 ["one","other","pair","row"]
 ny:mg "next_pair"=a' (.ref a.gO)
 i6:FT K "first_unlike" "first_unlike" gC a.dB a.qH ["one","other"]
 zm:mg "first_unlike"=a' (.ref a.dB)
 ip:FT K "pairs_come_to" "pairs_come_to" dI a.c7 a.pd ["one","other"]
 xR:mg "pairs_come_to"=a' (.ref a.c7)
 qg:FT K "compared" "compared" jY a.iQ a.zQ ["one","other"]
 HJ:mg "compared"=a' (.ref a.iQ)
 Bo:FT K "reach" "reach" wB a.rH a.LJ ["machine","turns"]
 RJ:mg "reach"=a' (.ref a.rH)
 tK:FT K "rows_at" "rows_at" wz a.kH a.CD ["machine","places","turns"]
 K7:mg "rows_at"=a' (.ref a.kH)
 il:FT K "states_behind" "states_behind" j8 a.c6 a.o9 ["machine","state"]
 xQ:mg "states_behind"=a' (.ref a.c6)
 lH:FT K "look_masks" "look_masks" i9 a.fL a.uS ["machine"]
 Cj:mg "look_masks"=a' (.ref a.fL)
 iU:FT K "odd_with" "odd_with" pL a.iN a.zN ["mask","others"]
 pV:mg "odd_with"=a' (.ref a.iN)
 fT:FT K "told_by_looks" "told_by_looks" j7 a.cZ a.o8 ["pair","states","seen"]
 oY:mg "told_by_looks"=a' (.ref a.cZ)
 Bp:FT K "least" "least" ka a.rJ a.LK ["machine"]
 RK:mg "least"=a' (.ref a.rJ)
 c8:FT K "__init__" "Wire.__init__" kc a.cH a.dP ["self","name"]
 gi:FT K "__init__" "InWire.__init__" iC a.bG a.mL ["self","name","number"]
 jf:FT K "bit" "InWire.bit" oH a.dm a.uW ["self","known","row","state"]
 iw:FT K "hang" "InWire.hang" ng a.cP a.tf ["self","known"]
 fz:FT K "__init__" "SumWire.__init__" hV a.bw a.lE ["self","name","wires"]
 ir:FT K "bit" "SumWire.bit" m9 a.cN a.sY ["self","known","row","state"]
 gF:FT K "hang" "SumWire.hang" lR a.cj a.qI ["self","known"]
 dF:FT K "__init__" "StoreWire.__init__" gq a.bh a.jD ["self","name","wire","number"]
 fV:FT K "bit" "StoreWire.bit" ke a.b5 a.pe ["self","known","row","state"]
 eW:FT K "hang" "StoreWire.hang" jj a.bN a.nU ["self","known"]
 jR:FT K "check_sizes" "check_sizes" jH a.eI a.sV ["ins","sums","stores","outs"]
 A4:mg "check_sizes"=a' (.ref a.eI)
 jS:FT K "check_names" "check_names" m8 a.eJ a.sW ["names"]
 A5:mg "check_names"=a' (.ref a.eJ)
 fU:FT K "check_wire" "check_wire" oG a.fM a.uT ["wire","known"]
 lD:mg "check_wire"=a' (.ref a.fM)
 jP:FT K "check_wires" "check_wires" mZ a.eE a.sT ["sums","stores","outs","known"]
 A2:mg "check_wires"=a' (.ref a.eE)
 ij:FT K "wires_by_name" "wires_by_name" cU a.cX a.o7 ["ins","sums","stores"]
 xP:mg "wires_by_name"=a' (.ref a.cX)
 yo:FT K "waits" "waits" Af a.rG a.LH ["row","waiting"]
 K5:mg "waits"=a' (.ref a.rG)
 tM:FT K "ordered" "ordered" oF a.kJ a.CG ["sums"]
 K9:mg "ordered"=a' (.ref a.kJ)
 gI:FT K "__init__" "Net.__init__" dq a.cw a.qN ["self","ins","sums","stores","outs"]
 dD:FT K "in_names" "Net.in_names" l6 a.cv a.qM ["self"]
 gH:FT K "sum_rows" "Net.sum_rows" lW a.cu a.qL ["self"]
 cK:FT K "store_rows" "Net.store_rows" jl a.bP a.nW ["self"]
 c9:FT K "out_wires" "Net.out_wires" kj a.b9 a.pq ["self"]
 cC:FT K "wire_of" "Net.wire_of" nc a.cO a.sZ ["self","name"]
 cf:FT K "names_by_need" "Net.names_by_need" dX a.bp a.kQ ["self"]
 qf:FT K "has_form" "has_form" pN a.iP a.zP ["words"]
 HI:mg "has_form"=a' (.ref a.iP)
 tJ:FT K "rows_of" "rows_of" wy a.kG a.CC ["text"]
 K6:mg "rows_of"=a' (.ref a.kG)
 qd:FT K "read_net" "read_net" gW a.iM a.zM ["text"]
 HH:mg "read_net"=a' (.ref a.iM)
 qc:FT K "show_net" "show_net" gU a.iK a.zK ["net"]
 HG:mg "show_net"=a' (.ref a.iK)
 jO:FT K "degree" "degree" Ai a.nG a.F6 ["poly"]
 pX:mg "degree"=a' (.ref a.nG)
 pC:FT K "divided" "divided" wG a.kO a.CM ["one","other"]
 Le:mg "divided"=a' (.ref a.kO)
 i5:FT K "turns_to_one" "turns_to_one" lQ a.dA a.qG ["poly"]
 zk:mg "turns_to_one"=a' (.ref a.dA)
 lG:FT K "state_poly" "state_poly" oE a.fJ a.uQ ["machine","state"]
 Cg:mg "state_poly"=a' (.ref a.fJ)
 tL:FT K "ring_of" "ring_of" wA a.kI a.CF ["machine","state"]
 K8:mg "ring_of"=a' (.ref a.kI)
 nK:FT K "turn_bits" "turn_bits" rf a.gN a.x6 ["net","row","state"]
 EO:mg "turn_bits"=a' (.ref a.gN)
 pB:FT K "mask_at" "mask_at" rX a.kL a.CJ ["wires","bits"]
 Ci:mg "mask_at"=a' (.ref a.kL)
 i7:FT K "__init__" "Run.__init__" lV a.cq a.qK ["self","net"]
 mO:FT K "step" "Run.step" pP a.gf a.zT ["self","row"]
 gG:FT K "answered" "Run.answered" lU a.ck a.qJ ["self"]
 Br:FT K "hangs" "hangs" Ea a.rL a.LM ["net"]
 RM:mg "hangs"=a' (.ref a.rL)
 p9:FT K "table_of" "table_of" mw a.iJ a.zJ ["net"]
 Hz:mg "table_of"=a' (.ref a.iJ)
 iV:FT K "numbered" "numbered" pM a.iO a.zO ["letter","count"]
 pW:mg "numbered"=a' (.ref a.iO)
 nL:FT K "named_sum" "named_sum" j9 a.gP a.x9 ["name","pair"]
 ER:mg "named_sum"=a' (.ref a.gP)
 vV:FT K "net_of" "net_of" vN a.nE a.F3 ["machine"]
 Oi:mg "net_of"=a' (.ref a.nE)
 nM:FT K "_law_cell" "_law_cell" rm a.gQ a.ya ["_law_script","_law_k"]
 ES:mg "_law_cell"=a' (.ref a.gQ)
 iW:FT K "_law_mix" "_law_mix" t8 a.iR a.zR ["_law_cell_here","_law_k"]
 pZ:mg "_law_mix"=a' (.ref a.iR)
 lK:FT K "_law_drawn" "_law_drawn" gX a.fO a.uV ["_law_cell_here"]
 Cm:mg "_law_drawn"=a' (.ref a.fO)
 qh:FT K "_law_led" "_law_led" pO a.iS a.zS ["_law_other","_law_start"]
 HK:mg "_law_led"=a' (.ref a.iS)
 lI:FT K "_law_right" "_law_right" kZ a.fN a.uU ["_law_row"]
 Ck:mg "_law_right"=a' (.ref a.fN)
 OO:Fun K "law" "law" GO a.HM a.U9
 sN:mg "Machine"=a' (.ref a.aq)
 au:Cls K a.aq
 tI:Mk K a.aq a.bz
 aU:Meth K a.aq "stores" a.bR
 gb:Meth K a.aq "outputs" a.bF
 mm:Meth K a.aq "told" a.cx
 dk:Meth K a.aq "check_state" a.bc
 fi:Meth K a.aq "step" a.cy
 vp:Meth K a.aq "walked" a.bQ
 sx:Meth K a.aq "run" a.cA
 nT:Meth K a.aq "single" a.bT
 qC:Meth K a.aq "back" a.cB
 aX:cJ K a.aq "inputs"
 cG:cJ K a.aq "nexts"
 dw:cJ K a.aq "outs"
 Li:mg "Steps"=a' (.ref a.bH)
 gS:Cls K a.bH
 Mp:Mk K a.bH a.bO
 oV:Meth K a.bH "lowered" a.b7
 ED:Meth K a.bH "lay" a.eL
 xc:Meth K a.bH "barring" a.b8
 fh:cJ K a.bH "by_top"
 gM:cJ K a.bH "free_places"
 lC:cJ K a.bH "null_masks"
 Lg:mg "Wire"=a' (.ref a.tE)
 Ol:mg "InWire"=a' (.ref a.bf)
 nN:Cls K a.bf
 OM:Mk K a.bf a.bG
 BY:Meth K a.bf "bit" a.dm
 AH:Meth K a.bf "hang" a.cP
 su:cJ K a.bf "name"
 kA:cJ K a.bf "number"
 Lh:mg "SumWire"=a' (.ref a.aT)
 kT:Cls K a.aT
 Mo:Mk K a.aT a.bw
 AG:Meth K a.aT "bit" a.cN
 yR:Meth K a.aT "hang" a.cj
 qz:cJ K a.aT "name"
 kz:cJ K a.aT "wires"
 ET:mg "StoreWire"=a' (.ref a.aB)
 fX:Cls K a.aB
 Fh:Mk K a.aB a.bh
 xa:Meth K a.aB "bit" a.b5
 vo:Meth K a.aB "hang" a.bN
 nR:cJ K a.aB "name"
 ib:cJ K a.aB "number"
 vn:cJ K a.aB "wire"
 UQ:mg "Net"=a' (.ref a.de)
 dS:Cls K a.de
 Vr:Mk K a.de a.cw
 ml:Meth K a.de "in_names" a.cv
 yT:Meth K a.de "sum_rows" a.cu
 jA:Meth K a.de "store_rows" a.bP
 kB:Meth K a.de "out_wires" a.b9
 fZ:Meth K a.de "wire_of" a.cO
 kC:Meth K a.de "names_by_need" a.bp
 jL:cJ K a.de "by_name"
 so:cJ K a.de "ins"
 dN:cJ K a.de "kept_stores"
 uk:cJ K a.de "outs"
 oR:cJ K a.de "sum_order"
 mG:cJ K a.de "sums"
 Wh:mg "Run"=a' (.ref a.gh)
 pD:Cls K a.gh
 Ws:Mk K a.gh a.cq
 Hf:Meth K a.gh "step" a.gf
 yS:Meth K a.gh "answered" a.ck
 pR:cJ K a.gh "bits"
 rD:cJ K a.gh "given"
 uj:cJ K a.gh "held"
 oQ:cJ K a.gh "net"
 dP:P8 K a.tE "__init__" a.cH
 sP:mg "BadMask"=a' (.ref a.dQ)
 i8:excIn K a.dQ [.type "ValueError",.type "Exception",.type "BaseException",.type "object"] "ValueError.__new__"=true
 p3:mg "BadTable"=a' (.ref a.j0)
 gT:excIn K a.j0 [.type "ValueError",.type "Exception",.type "BaseException",.type "object"] "ValueError.__new__"=true
 FY:mg "BadRow"=a' (.ref a.p5)
 pE:excIn K a.p5 [.type "ValueError",.type "Exception",.type "BaseException",.type "object"] "ValueError.__new__"=true
 Lj:mg "LETTERS"=a' (.str "abcdefghijklmnopqrstuvwxyz" a.v9)
 xS:mg "LONGEST_HEARD"=a' (.int 40 a.j6)
 zo:mg "LONGEST_NAME"=a' (.int 6 a.lM)
 A7:mg "MOST_INPUTS"=a' (.int 6 a.mT)
 HL:mg "MOST_INS"=a' (.int 6 a.tQ)
 qp:mg "MOST_OUTS_machines"=a' (.int 6 a.gm)
 vH:mg "MOST_OUTS_nets"=a' (.int 6 a.jg)
 oj:mg "MOST_STORES_machines"=a' (.int 120 a.fk)
 sO:mg "MOST_STORES_nets"=a' (.int 16 a.g7)
 EU:mg "MOST_SUMS"=a' (.int 40 a.qV)
 Cq:mg "MOST_WIRES"=a' (.int 24 a.ox)
 Cn:mg "NAME_SIGNS"=a' (.str "abcdefghijklmnopqrstuvwxyz0123456789" a.ou)
 NZ:mg "all"=gn
 Uu:mg "any"=gn
 Ut:mg "bool"=gn
 Pp:mg "dict"=gn
 NY:mg "divmod"=gn
 eg:mg "enumerate"=gn
 Wc:mg "int"=gn
 fI:mg "isinstance"=gn
 ia:mg "len"=gn
 g5:mg "list"=gn
 fo:mg "range"=gn
 NX:mg "sorted"=gn
 NW:mg "str"=gn
 Wb:mg "sum"=gn
 mj:mg "tuple"=gn
 Us:mg "zip"=gn
section
variable {P:WJ} {w:X5} {K:b'} {mg:G'} {base:Xj} {a:Ad}
section
theorem rA (T:Tx K mg a):FnOk P w K mg base CX0 1 a.gc a.p4 ["thing"] (vM K):=by
 refine T.j5.1.okA DX λZ A outer s H vs Q E α h=>?_;obtain⟨x,k,rfl,hk,q⟩:=h;refine⟨_,((ai (aD (wJ (aP (kR (K:=K) rfl) @F T.fI Xn (!j 0 (aa (rp (v:= .ty "int") @F T.Wc PyProof.Rows.boot_int rfl) af))) (zC (T9 (aP (kR (K:=K) rfl) @F T.fI Xn (!j 0 (aa (rp (v:= .ty "bool") @F T.Ut PyProof.Rows.boot_bool rfl) af))))))))),aw (σ':=[a' _]) rfl ?_⟩;lia;unfold IT at q;cases Y:subB k "int"
 ·rw[Y] at q;lia;exact q
 ·rw[Y] at q;lia;exact q
local macro_rules | `(tactic| walk_at "l2step") =>`(tactic| ((with_reducible refine' dC ?e ?_);(case e=>walk_at "l2kind")))
theorem mB (T:Tx K mg a):FnOk P w K mg base CX0 2 a.ig a.sS ["thing","width"] (z7 K):=by
 have Y:FnOk P w K mg base CX0 1 a.gc a.p4 ["thing"] (vM K):=rA T;refine T.iq.1.okA GM fun β A outer s H vs Q E α h=>?_;obtain⟨x,k,wd,rfl,hk,q⟩:=h;refine⟨_,((ai (aD (wJ (aj Y α T.uF T.j5 (!j 0 af)) (wJ (nh Rk (pv 0) ah (aW _)) (zC (nh Ue (oK (K:=K) rfl XB Xh Xg oS (pv 0)) (pv 1) (aW _)))))))),aw (σ':=[a' _,a' _]) rfl ?_⟩;lia;cases x with
 | int i=>
   have hk:k="int":=hk;subst hk;lia;have q:Q (.bl (decide (0<=i)&&decide (((WI i:Nat):Int)<=wd))) H:=q;cases Z:decide (0<=i)
   ·rw[Z] at q;lia;exact q
   ·rw[Z] at q;lia;exact q
 | bl b=>have hk:k="bool":=hk;subst hk;lia;exact q
 | non=>have hk:k="NoneType":=hk;subst hk;lia;exact q
 | str z=>have hk:k="str":=hk;subst hk;lia;exact q
 | ref p=>
   rcases hk with ⟨rfl,_⟩ | ⟨rfl,_⟩ | ⟨rfl,_⟩<;>lia<;>exact q
 | _=>exact Xo hk
local macro_rules | `(tactic| walk_at "l2step") =>`(tactic| ((with_reducible refine' gD ?e ?_);(case e=>walk_at "l2kind")))
theorem Aw (T:Tx K mg a):FnOk P w K mg base CX0 1 a.xV a.PQ ["number"] QF:=by
 refine T.yp.1.okA wc fun ι A outer s H vs Q E ν h=>?_;obtain⟨m,rfl,hm,q⟩:=h
 refine⟨_,((ae (az (i:=1) wc.nd rfl @D (oK (K:=K) rfl XB Xh Xg oS (pv 0)))
  (ae (jJ W5 (aM rz (pv 1) ah (aW _)) (ae (az (i:=2) wc.nd rfl @D (aE Ek (aE h9 (pv 1) ah) ah))
  (ae (az (i:=0) wc.nd rfl @D (aE jB (aE oM (pv 0) (pv 2)) (aE ko (pv 0) (aE lh (aE gZ ah (pv 2)) ah))))
  (ai (az (i:=1) wc.nd rfl @D (pv 2))))))
  (ai (aD (nh kU (pv 0) ah (aW _))))))),aw (σ':=[a' _,gn,gn]) rfl ?_⟩
 lia;refine⟨fun μ σ' H'=>∃n hf,σ'=[a' (nat n),a' (nat μ),hf]/\H'=H/\n < 2 ^ μ/\μ<=1000/\M.od n=M.od m,⟨WI (m:Int),m,gn,rfl,rfl,E7 m,Bg hm,rfl⟩,?_⟩;rintro μ σ' H' ⟨n,hf,rfl,rfl,hn,hw,ε⟩;lia;refine iteB (fun α=>?_) (fun α=>?_)
 ·have α:=WE α;have γ:(μ + 1) / 2 < μ:=by omega
  refine⟨λY H2=>∃Z hf,Y=[a' (nat Z),a' (nat ((μ + 1) / 2)),hf]/\H2=H'/\Z < 2 ^ ((μ + 1) / 2)/\M.od Z=M.od m,λY H2 ⟨Z,δ,θ,η,ζ,π⟩=>⟨(μ + 1) / 2,γ,Z,δ,θ,η,ζ,@A,π⟩,?_⟩;lia;refine⟨(n>>>((μ + 1) / 2))^^^(n&&&(2 ^ ((μ + 1) / 2) - 1)),a' (nat ((μ + 1) / 2)),?_,rfl,M.fold_lt μ _ n hn @A,?_⟩
  ·rw[K3,Lp]
  ·rw[<-ε];have f:=M.pb_fold μ ((μ + 1) / 2) n @A hn @A;show M.pb 1000 _=M.pb 1000 _;rw[M.pb_up (M.fold_lt μ _ n hn @A) @A,f,<-M.pb_up hn hw]
 ·have α:=ai5 α;have β:n < 2:=eP hn (gB @C (show μ<=1 by omega));lia;rw[show decide (V.int (n:Int)=V.int 0)= !M.od n from NS β,ε];exact q
theorem vh (T:Tx K mg a):FnOk P w K mg base CX0 2 a.b8 a.pj ["self","bit"] (S2 a.bH):=by
 refine T.fW.1.okA gJ λa0 A outer s H vs Q E π h=>?_;obtain⟨p,d,f,n,rows,b,rfl,st,hb,ω,θ,ν,q⟩:=h;have χ:=sM π;obtain⟨dx,ho⟩:=st.ho;obtain⟨es,hd,ht,g,l⟩:=st.he;have nd:(es.map λe=>e.m.log2).Nodup:=by have:=g.nd;rw[WT] at this;exact this
 refine⟨_,((ae (az (i:=2) gJ.nd rfl @D (aE gZ ah (pv 1)))
  (ae (fG W5 rfl (aK (K:=K) rfl (aP (Ia rfl) @F T.NX PyProof.Rows.boot_sorted (aa (aH (K:=K) rfl (pv 0) rfl) af))) (ar (i:=3) gJ.nd rfl @D) (ai (du (h7 (gj (aj (Aw T) π T.FX T.yp (aa (aE ko (pv 2) (!A @I (oJ χ (aH (K:=K) rfl (pv 0) rfl) (pv 3) (λ_ _=>rfl)) ah)) af)))) (ai (az (i:=2) gJ.nd rfl @D (aE jB (pv 2) (aE gZ ah (pv 3))))) bg)))
  (ai (aD (pv 2)))))),aw (σ':=[a' _,a' _,gn,gn]) rfl ?_⟩
 lia;refine aF ho T.gS T.fh rfl ?_;lia;refine QS hd (Oc es) (by unfold sL;rw[bx];omega) λL ns H1 f1 ε υ hp hw=>?_;obtain⟨ts,rfl,up,mem⟩:=DI hp hw nd;rw[<-Rq] at υ;lia;rw[shl1];refine jM (xs:=ts.map nat) (λi σ H'=>∃(m:Nat) (v:WG V),σ=[a' (.ref p),a' (nat b),a' (nat m),v]/\H'=H1/\M.BarI (es.map λe=>(e.m,e.p)) (ts.take i) b m) ⟨2 ^ b,gn,rfl,rfl,M.BarI.zero _ b⟩ (λi σ H' _ ⟨_,_,_,e,_⟩=>by rw[e];exact SqL.of υ) ?_ ?_
 ·rintro i y σ H' φ ⟨m,v,rfl,rfl,I⟩;obtain⟨t,Z,rfl⟩:=ay φ;obtain⟨hi,ο⟩:=bA.mp Z;rcases v8 es (t:Int) with ⟨e,he,ζ,ev⟩ | ⟨ρ,_⟩
  ·have ζ:e.m.log2=t:=by omega
   subst ζ;have Y:(e.m,e.p)∈es.map (λe=>(e.m,e.p)):=ic.mpr ⟨e,he,rfl⟩;have β:e.m < 2 ^ 1000:=M.span_lt ω (g.span Y);have δ:e.m.log2 < 1000:=M.log2_under (g.nz _ Y) β;have ψ:=ε.get (ht e he)
   have ι:∀t∈ts.take i,t < e.m.log2:=λt hm=>by
    obtain⟨j,hj,τ⟩:=Xe.mp hm;rw[tu] at hj;rw[ZZ] at τ;have:=ak5.mp up j i @A hi @A;rw[τ,ο] at this;exact this
   have η:e.m.log2≠b:=ν e.m (g.span Y) (g.nz _ Y);have α:=g.nd;lia;refine aF (ε.get ho) T.gS T.fh rfl ?_;lia;refine JJ (ε.get hd) ev ?_;lia;rw[dh];refine⟨m&&&e.m,rfl,Xl at3 β,?_⟩;cases γ:M.od (m&&&e.m) with
   | true=>
     lia;refine⟨m^^^2 ^ e.m.log2,a' (nat e.m.log2),by rw[shl1,cI],rfl,?_⟩;rw[take_succ Z];exact I.flip (e:=(e.m,e.p)) α g.nz Y γ ι η δ
   | false=>
     lia;rw[take_succ Z];exact I.keep (e:=(e.m,e.p)) α Y γ
  ·obtain⟨e,he,ζ⟩:=(mem t).mp (dt Z);exact hQ (by rw[ζ]) (ρ e he)
 ·rintro σ H' ⟨m,v,rfl,rfl,I⟩;rw[bx,mc] at I;lia;refine q m H' ε (I.done g λe he=>?_);obtain⟨e',ξ,rfl⟩:=ic.mp he;exact(mem _).mpr ⟨e',ξ,rfl⟩
theorem mD (T:Tx K mg a):FnOk P w K mg base CX0 1 a.kP a.CN ["mask"] QH:=by
 refine T.je.1.okA GN λZ A outer s H vs Q E α h=>?_;obtain⟨m,rfl,hm,q⟩:=h;have hb:=Bg hm;refine⟨_,((ai (aD (bC (osc:=ag rZ) (ON:=["mask"]) (N:=["place","mask"]) (n:=1) (fx:=[0]) rfl rfl rfl @H (cE @F T.fo (aa (oK (K:=K) rfl XB Xh Xg oS (pv 0)) af)) (aA @C) (λ_ _ _ _ _=>⟨(ar (i:=0) (show kv (["place","mask"]:B') from by decide +kernel) rfl @D),(mf (aM kU (aE ko (aE oM (pv 1) (pv 0)) ah) ah (aW _))),(pv 0)⟩))))),aw (σ':=[a' _]) rfl ?_⟩;lia;intro D Y;refine df (λi ys H'=>Cs (λi ys=>ys=(M.pl i m).map nat) H D i ys H') (Cs.zero Y rfl) (λi ys H' hi c=>?_) (λys H' c=>?_)
 ·lia;rw[Gd];by_cases ht:m.testBit i=true
  ·rw[zt ht];lia;refine Cs.put Y c.same c.at' c.len @A ?_;rw[c.pv,M.pl_next,zt ht,ee,YK];rfl
  ·rw[oT ht];lia;refine Cs.skip c.same c.at' c.len ?_;rw[c.pv,M.pl_next,oT ht,Y8]
 ·have e:=c.pv;rw[wq] at e;refine q D H' Y c.same ?_;rw[c.at',e,M.pl_up (E7 m) hb]
theorem iF (T:Tx K mg a):FnOk P w K mg base CX0 1 a.kK a.CH ["places"] Js:=by
 refine T.gE.1.okA pH fun α A outer s H vs Q E β h=>?_;obtain⟨r,ps,rfl,Z,hl,q⟩:=h
 refine⟨_,((ae (az (i:=1) pH.nd rfl @D ah)
  (ae (fG W5 rfl (aK (K:=K) rfl (pv 0)) (ar (i:=2) pH.nd rfl @D) (ai (az (i:=1) pH.nd rfl @D (aE jB (pv 1) (aE gZ ah (pv 2))))))
  (ai (aD (pv 1)))))),aw (σ':=[a' _,gn,gn]) rfl ?_⟩
 lia;refine jM (xs:=ps.map nat) (λi σ H'=>∃v,σ=[a' (.ref r),a' (nat (M.xm (ps.take i))),v]/\H'=H) ⟨gn,rfl,rfl⟩ (λi σ H' _ ⟨_,_,e⟩=>by rw[e];exact SqL.of Z) ?_ ?_
 ·rintro i y σ H' Y ⟨v,rfl,rfl⟩;obtain⟨k,hk,rfl⟩:=ay Y;have:=hl k (dt hk);lia;refine⟨a' (nat k),?_,rfl⟩;rw[shl1,cI,Qe hk]
 ·rintro σ H' ⟨v,rfl,rfl⟩;rw[bx,mc];lia;exact q
end
section
theorem BU (T:Tx K mg a):FnOk P w K mg base CX0 1 a.gQ a.ya ["_law_script","_law_k"] (Fu K):=by
 refine T.nM.1.okA BE fun α A outer s H vs Q E β h=>?_;obtain⟨p,ns,k,rfl,γ,θ,q⟩:=h
 refine⟨_,((ae (du (aM Kc (pv 1) (aP (be (K:=K) rfl) @F T.ia W8 (!j 0 af)) (aW _)) (ai (aD (!A (bu (K:=K) rfl) (pv 0) (pv 1)))) bg)
  (ai (aD (aE h9 (aE se ah (pv 1)) ah))))),aw (σ':=[a' _,a' _]) rfl ?_⟩
 lia;rw[bx];unfold cell at q;refine ite2 (λY=>?_) (λY=>?_)
 ·have Y:=WE Y
  have ha:atI (ns.map V.int) k=a' (.int (ns.getD k.toNat 0)):=by
   obtain⟨j,rfl⟩:=YH θ;have Z:j < ns.length:=by omega
   exact fQ (by rw[hH,cn Z,bB,wq,cn Z];rfl)
  rw[zt Y] at q;lia;exact q
 ·have Y:¬k < ns.length:=λz=>Y (hE z);rw[oT Y] at q;lia;exact q
theorem nq (T:Tx K mg a):FnOk P w K mg base CX0 1 a.iR a.zR ["_law_cell_here","_law_k"] O5:=by
 refine T.iW.1.okA qX fun β A outer s H vs Q E δ h=>?_;obtain⟨c,k,rfl,θ,h1,q⟩:=h
 refine⟨_,((ae (az (i:=2) qX.nd rfl @D (aE qx (aE h9 (aE h9 (aE se (aE qx (pv 0) ah) ah) (aE se ah (pv 1))) ah) ah))
  (ae (az (i:=2) qX.nd rfl @D (aE qx (aE se (pv 2) (pv 2)) ah))
  (ai (aD (aE qx (aE se (pv 2) (aE h9 (aE h9 (pv 2) (aE se ah (pv 1))) ah)) ah)))))),aw (σ':=[a' _,a' _,gn]) rfl ?_⟩
 lia;show Q (.int _) H;generalize γ:(_:Int) * (_ + 48271 * k + 7)=x;have Z:0<=x % 2147483587:=au5 _ @C;have Y:x % 2147483587 < 2147483587:=as0 _ @C;obtain⟨j,α⟩:=YH Z;rw[α] at Y ⊢;exact q j @A
local macro_rules | `(tactic| walk_at "l2step") =>`(tactic| first | ((with_reducible refine' LV ?e ?a ?_);(case e=>walk_at "l2hp");(case a=>walk_at "l2side")) | ((with_reducible refine' R3 ?a ?b ?_);(case a=>walk_at "l2side");(case b=>walk_at "l2side");(with_reducible intro _ _)))
theorem bit1 (x:Int):∃b:X1,X6 x 1=((M.bn b:Nat):Int):=by
 have h:0<=X6 x 1/\X6 x 1<=1:=by
  unfold X6;by_cases Y:0<=x
  ·have h1:x.toNat&&&(1:Int).toNat<=1:=at3;simp only[Y,decide_true,show decide ((0:Int)<=1)=true from rfl];omega
  ·have h1:∀y,(1:Int).toNat&&&y<=1:=λy=>ZJ;simp only[Y,decide_false,show decide ((0:Int)<=1)=true from rfl];constructor
   ·exact Int.sub_nonneg_of_le (by exact_mod_cast h1 _)
   ·exact Int.sub_le_self _ (Zc _)
 obtain⟨θ,h1⟩:=h;have:X6 x 1=0∨X6 x 1=1:=by omega
 rcases this with h | h
 ·exact⟨false,h⟩
 ·exact⟨true,h⟩
theorem Uv (x:Int):∃b:X1,x % 2=((M.bn b:Nat):Int):=by
 rcases Int.emod_two_eq x with h | h
 ·exact⟨false,h⟩
 ·exact⟨true,h⟩
theorem Ay (T:Tx K mg a):FnOk P w K mg base CX0 2 a.fO a.uV ["_law_cell_here"] DM:=by
 refine T.lK.1.okA hU λa5 A outer s H vs Q E θ h=>?_;obtain⟨c,rfl,q⟩:=h
 refine⟨_,((ae (az (i:=1) hU.nd rfl @D (aE qx (aE Ek (pv 0) ah) ah))
  (ae (du (aM kU (aE qx (pv 0) ah) ah (aW _)) (ai (aD (bC (osc:=ag gX) (ON:=n20) (N:=n16) (n:=1) (fx:=[0]) rfl rfl rfl @H (cE @F T.fo (!j 1 af)) (aA @C) (!C (ar (i:=0) (show kv (n16:B') from by decide +kernel) rfl @D) (aE ko (aE oM (aE Ek (pv 1) ah) (pv 0)) ah))))) bg)
  (ae (az (i:=2) hU.nd rfl @D (aE qx (aj (nq T) θ T.pZ T.iW (!j 0 (aa ah af))) ah))
  (ae (az (i:=3) hU.nd rfl @D (aE qx (aj (nq T) θ T.pZ T.iW (!j 0 (aa ah af))) (aE gZ ah (pv 2))))
  (ae (az (i:=4) hU.nd rfl @D (bC (osc:=ag gX) (ON:=n20) (N:=n16) (n:=1) (fx:=[0]) rfl rfl rfl @H (cE @F T.fo (!j 2 af)) (aA @C) (!C (ar (i:=0) (show kv (n16:B') from by decide +kernel) rfl @D) (aE qx (aj (nq T) θ T.pZ T.iW (!j 1 (aa (aE h9 ah (pv 0)) af))) ah))))
  (ae (jJ W5 (aM Kc (aP (be (K:=K) rfl) @F T.ia W8 (!j 4 af)) (pv 1) (aW _)) (ai (bL (gY (K:=K) rfl WC Xt Xr ie (pv 4) (aa (aE qx (aP (LS rfl) @F T.Wb PyProof.Rows.boot_sum (aa (bC (osc:=ag gX) (ON:=n20) (N:=n26) (n:=1) (fx:=[4,2,3]) rfl rfl rfl @H (cE @F T.fo (!j 2 af)) (aA @C) (!C (ar (i:=0) (show kv (n26:B') from by decide +kernel) rfl @D) (aE se (!A (bu (K:=K) rfl) (pv 1) (aE h9 (aE lh (aP (be (K:=K) rfl) @F T.ia W8 (!j 1 af)) (pv 2)) (pv 0))) (aE ko (aE oM (pv 3) (pv 0)) ah)))) af)) ah) af)))))
  (ai (aD (h8 (g8 (K:=K) rfl) (pv 4) mh (ju (pv 1)))))))))))),aw (σ':=[a' _,gn,gn,gn,gn]) rfl ?_⟩
 lia;obtain⟨N,eN,lN⟩:=F1 (c:=c / 2) (m:=17) @C;rw[eN];refine iteB (fun ω=>?_) (fun ω=>?_)
 ·lia;intro D β;refine df (λi ys H'=>Cs (λi ys=>∃bs:ef X1,ys=bs.map bV/\bs.length=i) H D i ys H') (Cs.zero β ⟨[],rfl,rfl⟩) (λi ys H' hi Y=>?_) (λys H' Y=>?_)
  ·obtain⟨⟨bs,rfl,lb⟩,α,γ,ε⟩:=Y;lia;obtain⟨b,hb⟩:=bit1 (c / 34 / 2 ^ ((0 + (i:Int)).toNat));rw[hb];exact Cs.put β α γ ε @A ⟨bs++[b],by rw[ee];rfl,by rw[eX,lb];rfl⟩
  ·obtain⟨⟨bs,rfl,lb⟩,α,γ,ε⟩:=Y;lia;exact q D H' bs β α γ @A
 ·clear ω;lia;rename_i r1 h1 _ _ r2 h2;obtain⟨m,em,lm⟩:=F1 (c:=(r1:Int)) (m:=6) @C;rw[em,wq];have hp:(0:Int) < 1 * 2 ^ m:=by rw[ap1];exact Int.pow_pos @C
  lia;generalize (r2:Int) % (1 * 2 ^ m)=ru;clear hp em h1 h2 eN;lia;intro D β;refine df (λi ys H'=>Cs (λi ys=>∃bs:ef X1,ys=bs.map bV/\bs.length=i) H D i ys H') (Cs.zero β ⟨[],rfl,rfl⟩) (λi ys H' hi Y=>?_) (λys H' Y=>?_)
  ·have k0:(0:Int)<=10 + (0 + (i:Int)):=by omega
   have k1:10 + (0 + (i:Int)) < 100000:=by omega
   have a3:¬7<=i:=by omega
   clear lm lN hi
   repeat (first | (refine R3 k0 k1 λr3 ν=>?_;clear k0 k1 ν) | walk_at "l2step")
   obtain⟨⟨bs,rfl,lb⟩,α,γ,ε⟩:=Y;obtain⟨b,hb⟩:=Uv (r3:Int);rw[hb];exact Cs.put β α γ ε @A ⟨bs++[b],by rw[ee];rfl,by rw[eX,lb];rfl⟩
  ·obtain⟨⟨bs,rfl,lb⟩,α,γ,ε⟩:=Y;lia;refine⟨fun μ σ' H'=>∃bs:ef X1,σ'=[a' (.int c),a' (nat N),a' (nat m),a' (.int ru),a' (.ref D)]/\Same H H'/\H' D=a' (.lst (bs.map bV))/\m<=bs.length/\bs.length + μ=22,⟨22 - bs.length,bs,rfl,α,γ,@A,@A⟩,?_⟩;rintro μ σ' H2 ⟨bs,rfl,η,e2,a0,lμ⟩;lia;rw[bx];by_cases hl:bs.length < N
   ·refine mY (hE @A) ?_;refine⟨fun σ' H'=>∃υ:ef X1,σ'=[a' (.int c),a' (nat N),a' (nat m),a' (.int ru),a' (.ref D)]/\Same H H'/\H' D=a' (.lst (υ.map bV))/\υ.length=bs.length + 1,fun σ' H' ⟨υ,h1,h2,ν,h4⟩=>⟨μ - 1,@A,υ,h1,h2,ν,@A,@A⟩,?_⟩;lia;intro τ ζ;refine df (λi ys H'=>Cs (λi ys=>∃ns:P',ys=ns.map V.int/\ns.length=i) H2 τ i ys H') (Cs.zero ζ ⟨[],rfl,rfl⟩) (λi ys ρ hi Y=>?_) (λys ρ Y=>?_)
    ·obtain⟨⟨ns,rfl,ln⟩,Z,δ,χ⟩:=Y;have π:=Z.get e2;have ψ:bs.length - m + i < bs.length:=by omega
     have a4:atI (bs.map bV) ((bs.length:Int) - m + (0 + (i:Int)))=a' (bV (bs[bs.length - m + i]'ψ)):=by
      have ο:(bs.length:Int) - m + (0 + (i:Int))=((bs.length - m + i:Nat):Int):=by omega
      rw[ο];exact fQ (by rw[hH,cn ψ];rfl)
     lia;rw[bx];lia;obtain⟨b2,ι⟩:=bit1 (ru / 2 ^ ((0 + (i:Int)).toNat));rw[ι];refine s_rI (by generalize bs[bs.length - m + i]=b3;unfold CMul;left;cases b3<;>decide) ?_;lia;exact Cs.put ζ Z δ χ @A ⟨ns++[_],by rw[ee];rfl,by rw[eX,ln];rfl⟩
    ·obtain⟨⟨ns,rfl,ln⟩,Z,δ,χ⟩:=Y;have π:=Z.get e2;lia;refine⟨τ,ns,rfl,δ,?_⟩;lia;obtain⟨b,hb⟩:=Uv ns.sum;rw[hb];refine kX π (aR (by rw[bx];omega)) λH5 φ=>?_;exact⟨bs++[b],rfl,φ.same β (Same.trans η Z),by rw[φ.at',ee];rfl,by rw[eX];rfl⟩
   ·refine gL (f' @A) ?_;lia;intro D3 ρ ξ Z δ;rw[PU bs N @A] at δ;exact q D3 ρ (bs.take N) (Same.free η ξ) (Same.trans η Z) δ (by rw[tu];omega)
end
section
local macro_rules | `(tactic| walk_at "l2step") =>`(tactic| first | ((with_reducible refine' dC ?e ?_);(case e=>walk_at "l2kind")) | ((with_reducible refine' gD ?e ?_);(case e=>walk_at "l2kind")) | (with_reducible refine cM ?_) | (with_reducible refine dW ?_))
theorem G6 (T:Tx K mg a):FnOk P w K mg base CX0 3 a.kM a.CK ["thing","stores","inputs"] M6:=by
 have ν:FnOk P w K mg base CX0 2 a.ig a.sS ["thing","width"] (z7 K):=mB T;refine T.tN.1.okA GK fun β A outer s H vs Q E Y h=>?_;obtain⟨t,x,y,n,m,rfl,ht,α,Z,q⟩:=h
 refine⟨_,((ae (du (PW.pt (og (h7 (gj (aP (kR (K:=K) rfl) @F T.fI Xn (!j 0 (aa (rp (v:= .ty "tuple") @F T.mj X4 rfl) af))))) (mx (aM wL (aP (be (K:=K) rfl) @F T.ia W8 (!j 0 af)) ah (aW _))))) (ai (aD yD)) bg)
  (ai (aD (wJ (aj ν Y T.mJ T.iq (aa (!A @I (pv 0) ah) (!j 1 af))) (zC (aj ν Y T.mJ T.iq (aa (!A @I (pv 0) ah) (!j 2 af))))))))),aw (σ':=[a' _,a' _,a' _]) rfl ?_⟩
 lia;refine mY (bK α) ?_;lia;rw[bK Z];exact q
theorem yG (T:Tx K mg a):FnOk P w K mg base CX0 4 a.eG a.sU ["inputs","nexts","outs"] QG:=by
 have Y:FnOk P w K mg base CX0 1 a.gc a.p4 ["thing"] (vM K):=rA T;refine T.jQ.1.okA yw fun ι A outer s H vs Q E δ h=>?_;obtain⟨n,o,m,nx,os,rfl,t,q⟩:=h
 refine⟨_,((ae (du (PW.pt (og (h7 (gj (aj Y δ T.uF T.j5 (!j 0 af)))) (og (aM Kc (pv 0) ah (aW _)) (mx (aM rz (pv 0) (jw (v:= .int 6) @F T.A7 ⟨_,rfl⟩) (aW _)))))) (ai (i0 WX T.gT thr0 rfl @F T.p3 (aa bI af))) bg)
  (ae (du (PW.pt (og (h7 (gj (aP (kR (K:=K) rfl) @F T.fI Xn (!j 1 (aa (rp (v:= .ty "list") @F T.g5 W2 rfl) af))))) (mx (aM rz (aP (be (K:=K) rfl) @F T.ia W8 (!j 1 af)) (jw (v:= .int 120) @F T.oj ⟨_,rfl⟩) (aW _))))) (ai (i0 WX T.gT thr0 rfl @F T.p3 (aa bI af))) bg)
  (ae (du (PW.pt (og (h7 (gj (aP (kR (K:=K) rfl) @F T.fI Xn (!j 2 (aa (rp (v:= .ty "list") @F T.g5 W2 rfl) af))))) (mx (aM rz (aP (be (K:=K) rfl) @F T.ia W8 (!j 2 af)) (jw (v:= .int 6) @F T.qp ⟨_,rfl⟩) (aW _))))) (ai (i0 WX T.gT thr0 rfl @F T.p3 (aa bI af))) bg)
  (ai (du (h7 (gj (aP (tD (K:=K) rfl rfl) @F T.NZ Z7 (aa (bC (osc:=ag jG) (ON:=["inputs","nexts","outs"]) (N:=["pair","nexts","inputs"]) (n:=1) (fx:=[1,0]) rfl rfl rfl @H (aK (K:=K) rfl (aE km (pv 1) (pv 2))) (aA @C) (!C (ar (i:=0) (show kv (["pair","nexts","inputs"]:B') from by decide +kernel) rfl @D) (aj (G6 T) δ T.Ld T.tN (!j 0 (aa (aP (be (K:=K) rfl) @F T.ia W8 (!j 1 af)) (!j 2 af)))))) af)))) (ai (i0 WX T.gT thr0 rfl @F T.p3 (aa bI af))) bg)))))),aw (σ':=[a' _,a' _,a' _]) rfl ?_⟩
 lia;have m6:=t.m6;have ln:=t.ln;have lo:=t.lo;have hn:=t.n;have ho:=t.o;have η:(refs nx).length=nx.length:=bx ..
 have ο:(refs os).length=os.length:=bx ..
 refine gL (f' @A) ?_;lia;refine gL (f' @A) ?_;lia;refine gL (f' @A) ?_;lia;refine rj hn ho (by rw[ra];omega) λp H2 ξ γ θ=>?_;lia;intro D ε;refine aJ (xs:=refs nx++refs os) (λi ys H'=>Cs (λi ys=>ys=(n' i true).map V.bl) H2 D i ys H') (Cs.zero ε rfl) (λi ys H' _ c=>SqL.of (c.same.get θ)) (λi x ys H' β c=>?_) (λys H' c=>?_)
 ·have β:(refs (nx++os))[i]? =a' x:=by unfold refs at β ⊢;rw[ee];exact β
  obtain⟨Z,α,rfl⟩:=ay β;have hm:=dt α;have hi:=(bA.mp α).1;rw[eX] at hi;have hb:=t.bn Z hm;have ht:H Z.1=a' (.tup [nat Z.2.1,nat Z.2.2]):=(hB.mp hm).elim (t.pn Z) (t.po Z);have ν:=c.same.get (γ.get hn);lia;rw[η];refine⟨Z.1,Z.2.1,Z.2.2,nx.length,m,rfl,c.same.get (γ.get ht),hb.1,hb.2,?_⟩;refine Cs.put ε c.same c.at' c.len @A ?_;rw[c.pv,YQ,ee];rfl
 ·have ζ:=c.at';rw[c.pv] at ζ;lia;refine BF (SqL.of ζ) ?_;lia;refine gL (by rw[aq7];simp) ?_;lia;exact q H' (γ.trans c.same)
theorem dY (T:Tx K mg a):FnOk P w K mg base CX0 5 a.bz a.lF ["self","inputs","nexts","outs"] (QC a.aq):=by
 refine T.cb.1.okA qZ λa0 A outer s H vs Q E ψ h=>?_;obtain⟨x,dx,n,o,m,nx,os,rfl,δ,t,q⟩:=h
 refine⟨_,((ae (bL (aj (yG T) ψ T.A3 T.jQ (!j 1 (!j 2 (!j 3 af)))))
  (ae (cW (K:=K) rfl (pv 0) (pv 1) rfl)
  (ae (cW (K:=K) rfl (pv 0) (a9 (eM (K:=K) rfl) @F T.mj X4 (!j 2 af)) rfl)
  (ai (cW (K:=K) rfl (pv 0) (a9 (eM (K:=K) rfl) @F T.mj X4 (!j 3 af)) rfl)))))),aw (σ':=[a' _,a' _,a' _,a' _]) rfl ?_⟩
 lia;refine⟨n,o,m,nx,os,rfl,t,λH1 ζ=>?_⟩;have ι:=cF t.n δ @E;have γ:=cF t.o δ @E;lia;refine cV (ζ.get δ) T.au T.aX @C rfl λH2 Z=>?_;have ω:=Z.oth _ _ ι (ζ.get t.n);have τ:=Z.oth _ _ γ (ζ.get t.o);lia;intro υ H3 ξ θ e3;have α:υ≠x:=λz=>by rw[z,Z.at'] at ξ;cases ξ
 lia;refine cV (θ.get Z.at') T.au T.cG (by show 1 < 1000;decide) rfl λH4 Y=>?_;have ο:=Y.oth _ _ γ (θ.get τ);have π:=Y.oth _ _ α e3;lia;intro to H5 φ ν e5;have η:to≠x:=λz=>by rw[z,Y.at'] at φ;cases φ
 lia;refine cV (ν.get Y.at') T.au T.dw (by show 2 < 1000;decide) rfl fun χ ε=>?_;have k:∀b ob,b≠x->H b=a' ob->χ b=a' ob:=λb ob ρ e=>ε.oth _ _ ρ (ν.get (Y.oth _ _ ρ (θ.get (Z.oth _ _ ρ (ζ.get e)))));lia;refine q χ k ⟨⟨dx,υ,to,ε.at',ε.oth _ _ α (ν.get π),ε.oth _ _ η e5⟩,fun β h=>k _ _ ?_ (t.pn β h),fun β h=>k _ _ ?_ (t.po β h)⟩
 ·exact cF (t.pn β h) δ @E
 ·exact cF (t.po β h) δ @E
theorem aQ (T:Tx K mg a):FnOk P w K mg base CX0 1 a.bR a.nY ["self"] (Jj a.aq):=by
 refine T.aL.1.okA tW λZ A outer s H vs Q E β h=>?_;obtain⟨p,m,nx,os,rfl,ma,q⟩:=h;obtain⟨dx,α,to,ho,hn,Y⟩:=ma.ho;refine⟨_,((ai (aD (aP (be (K:=K) rfl) @F T.ia W8 (aa (aH (K:=K) rfl (pv 0) rfl) af))))),aw (σ':=[a' _]) rfl ?_⟩;lia;refine aF ho T.au T.cG rfl ?_;lia;unfold refs;rw[bx];exact q
theorem Kh (T:Tx K mg a):FnOk P w K mg base CX0 2 a.nF a.F4 ["pair","state","row"] Nf:=by
 refine T.vW.1.okA JD λZ A outer s H vs Q E Y h=>?_;obtain⟨t,a1,b1,x,r,rfl,ht,ha,hb,q⟩:=h;refine⟨_,((ai (aD (nh wL (aj (Aw T) Y T.FX T.yp (aa (aE ko (!A @I (pv 0) ah) (pv 1)) af)) (aj (Aw T) Y T.FX T.yp (aa (aE ko (!A @I (pv 0) ah) (pv 2)) af)) (aW _))))),aw (σ':=[a' _,a' _,a' _]) rfl ?_⟩;lia;rw[dh];refine⟨a1&&&x,rfl,Xl ZJ ha,?_⟩;lia;rw[dh];refine⟨b1&&&r,rfl,Xl ZJ hb,?_⟩;lia;rw[IK];exact q
theorem sf (T:Tx K mg a):FnOk P w K mg base CX0 3 a.fK a.uR ["pairs","state","row"] (Qy K):=by
 refine T.jc.1.okA Aa fun ν A outer s H vs Q E ε h=>?_;obtain⟨r,ps,x,y,rfl,ζ,pt,hl,hb,q⟩:=h;refine⟨_,((ai (aD (aj (iF T) ε T.kE T.gE (aa (bC (osc:=ag kW) (ON:=["pairs","state","row"]) (N:=n21) (n:=2) (fx:=[1,2]) rfl rfl rfl @H (pQ (K:=K) rfl @F T.eg (pv 0)) (xO (fw (aA @C) (fw (aA @C) rF))) (λ_ _ _ _ _=>⟨(ro (K:=K) (n:=2) rfl rfl (bD (ar (i:=0) (show kv (n21:B') from by decide +kernel) rfl @D) (bD (ar (i:=1) (show kv (n21:B') from by decide +kernel) rfl @D) iE))),(mf (gj (aj (Kh T) ε T.Oj T.vW (!j 1 (!j 2 (!j 3 af)))))),(pv 0)⟩)) af))))),aw (σ':=[a' _,a' _,a' _]) rfl ?_⟩;lia;refine .inr ⟨⟨_,ζ⟩,?_⟩;intro D η;refine uH (xs:=refs ps) (λi ys H'=>Cs (λi ys=>∃qs:C',ys=qs.map nat/\(∀p∈qs,p < i)/\M.xm qs=M.tr2 (prs (ps.take i)) x y) H D i ys H') (Cs.zero η ⟨[],rfl,λ_ h=>hQ h @E,rfl⟩) (λi ys H' _ c=>Same.tup c.same ζ) (λi v ys H' p ψ ι c fp β ξ=>?_) (λys H' c=>?_)
 ·obtain⟨Z,α,rfl⟩:=ay ι;obtain⟨qs,ω,δ,Y⟩:=c.pv;have hm:=dt α;have hi:=(bA.mp α).1;have ht:=β.get (c.same.get (pt Z hm));have ts:=MS x y α;lia;refine⟨Z.1,Z.2.1,Z.2.2,x,y,rfl,ht,(hb Z hm).1,(hb Z hm).2,?_⟩;cases γ:(M.od (Z.2.1&&&x)^^M.od (Z.2.2&&&y)) with
  | true=>
    rw[γ,zt rfl] at ts;lia;refine Cs.put η (c.same.trans β) (β.get c.at') c.len @A ⟨qs++[i],?_,λk hk=>?_,?_⟩
    ·rw[ω,ee];rfl
    ·rcases hB.mp hk with h | h
     ·have:=δ k h;omega
     ·rw[gA.mp h];omega
    ·rw[M.xm_snoc,Y,ts]
  | false=>
    rw[γ,oT hF,XI] at ts;lia;refine Cs.skip (c.same.trans β) (β.get c.at') c.len ⟨qs,ω,λk hk=>?_,?_⟩
    ·have:=δ k hk;omega
    ·rw[Y,ts]
 ·obtain⟨qs,ω,δ,Y⟩:=c.pv;rw[hZ] at δ Y;have θ:=c.at';rw[ω] at θ;lia;refine⟨D,qs,rfl,θ,λk hk=>by have:=δ k hk;omega,?_⟩;rw[Y,mc];exact q _ c.same
theorem dc (T:Tx K mg a):FnOk P w K mg base (CX1 P w) 3 a.bc a.jb ["self","state"] (S1 K a.aq a.dQ):=by
 refine T.bj.1.okX oa (λvs H Q E h=>?_) (fun α A outer s H vs Q E Y h=>?_)
 ·obtain⟨p,m,nx,os,x,k,rfl,_⟩:=h;rfl
 ·obtain⟨p,m,nx,os,x,k,rfl,ma,hk,ε,ω⟩:=h;obtain⟨dx,β,to,ho,hn,Z⟩:=ma.ho;refine⟨_,((ai (du (h7 (gj (aj (mB T) Y T.mJ T.iq (!j 1 (aa (aP (be (K:=K) rfl) @F T.ia W8 (aa (aH (K:=K) rfl (pv 0) rfl) af)) af))))) (ai (i0 WX T.i8 iX rfl @F T.sP (aa bI af))) bg))),aw (σ':=[a' _,a' _]) rfl ?_⟩;lia;refine aF ho T.au T.cG rfl ?_;lia;rw[hZ];cases hm:oU x (nx.length:Int) with
  | false=>
    lia;exact⟨by rw[ra];decide,ω hm⟩
  | true=>
    lia;exact ε hm
theorem dM (T:Tx K mg a):FnOk P w K mg base (CX1 P w) 4 a.cy a.qP ["self","state","row"] (Na K a.aq a.dQ):=by
 refine T.b0.1.okX wu (λvs H Q E h=>?_) (fun ι A outer s H vs Q E Z h=>?_)
 ·obtain⟨p,m,nx,os,x,y,kx,ζ,rfl,_⟩:=h;rfl
 ·obtain⟨p,m,nx,os,x,y,kx,ζ,rfl,ma,g,π,η,ε,ω⟩:=h;obtain⟨dx,β,to,ho,hn,α⟩:=ma.ho;have ln:=g.ln;have lo:=g.lo
  refine⟨_,((ae (bL (dj (pv 0) T.au T.dk (dc T) (Z.mono @C) T.bj.2 .nil iX (!j 1 af)))
   (ae (du (h7 (gj (aj (mB T) Z T.mJ T.iq (!j 2 (aa (aH (K:=K) rfl (pv 0) rfl) af))))) (ai (i0 WX T.i8 iX rfl @F T.sP (aa bI af))) bg)
   (ai (aD (cL (aa (aj (sf T) Z T.uP T.jc (aa (aH (K:=K) rfl (pv 0) rfl) (!j 1 (!j 2 af)))) (aa (aj (sf T) Z T.uP T.jc (aa (aH (K:=K) rfl (pv 0) rfl) (!j 1 (!j 2 af)))) af)))))))),aw (σ':=[a' _,a' _,a' _]) rfl ?_⟩
  lia;refine cD ho rfl ?_;lia;refine⟨p,m,nx,os,x,kx,rfl,ma,π,λhm=>?_,λhm=>ω (.inl hm)⟩;lia;refine aF ho T.au T.aX rfl ?_;lia;cases ο:oU y (m:Int) with
  | false=>
    lia;exact⟨by rw[ra];decide,ω (.inr ο)⟩
  | true=>
    obtain⟨a1,rfl,ha⟩:=vQ hm;obtain⟨b1,rfl,hb⟩:=vQ ο;lia;refine aF ho T.au T.dw rfl ?_;lia;refine⟨to,os,a1,b1,rfl,SqT.of α,ma.hs,@A,g.b2,λH2 Y=>?_⟩;lia;refine aF (Y.get ho) T.au T.cG rfl ?_;lia;refine⟨β,nx,a1,b1,rfl,SqT.of (Y.get hn),ma.hn.same Y,@A,g.b1,fun ρ δ=>?_⟩;lia;intro t ν ξ γ θ;exact ε a1 b1 rfl rfl ha hb t ν (Y.trans (δ.trans γ)) θ
theorem ue (T:Tx K mg a):FnOk P w K mg base (CX1 P w) 5 a.bQ a.nX ["self","rows","state"] (MV K a.aq a.dQ):=by
 refine T.ff.1.okX dG (λvs H Q E h=>?_) (λa6 A outer s H vs Q E φ h=>?_)
 ·obtain⟨p,υ,m,nx,os,x,xs,rfl,_⟩:=h;rfl
 ·obtain⟨p,υ,m,nx,os,x,xs,rfl,Y,ε,ω⟩:=h;obtain⟨dx,tn,to,ho,hn,a5⟩:=Y.ma.ho;obtain⟨kx,π⟩:=Y.kx;have ln:=Y.ln;have a4:=Y.sq
  refine⟨_,((ae (bL (dj (pv 0) T.au T.dk (dc T) (φ.mono @C) T.bj.2 .nil iX (!j 2 af)))
   (ae (az (i:=3) dG.nd rfl @D (dJ af))
   (ae (fG (rq ⟨rfl,rfl⟩) rfl (aK (K:=K) rfl (pv 1)) (ar (i:=4) dG.nd rfl @D) (ae (az (i:=5) dG.nd rfl @D (dj (pv 0) T.au T.fi (dM T) (φ.mono @C) T.b0.2 .nil iX (!j 2 (!j 4 af))))
   (ae (bL (gY (K:=K) rfl WC Xt Xr ie (pv 3) (aa (!A @I (pv 5) ah) af)))
   (ai (az (i:=2) dG.nd rfl @D (!A @I (pv 5) ah))))))
   (ai (aD (cL (!j 3 (!j 2 af))))))))),aw (σ':=[a' _,a' _,a' _,gn,gn,gn]) rfl ?_⟩
  lia;refine cD ho rfl ?_;lia;refine⟨p,m,nx,os,x,kx,rfl,Y.ma,π,λhm=>?_,λhm=>ω (.inl hm) H (Same.refl _)⟩;obtain⟨β,rfl,ζ⟩:=vQ hm;lia;intro D H1 χ s1 e1;lia;refine jM (xs:=xs) (λi σ H'=>∃(rs:C') (v ψ:WG V),σ=[a' (.ref p),a' (.ref υ),a' (nat (M.wst (prs nx) β rs)),a' (.ref D),v,ψ]/\Same H H'/\H' D=a' (.lst ((M.wan (prs nx) (prs os) β rs).map nat))/\xs.take i=rs.map nat/\∀r∈rs,r < 2 ^ m) ⟨[],gn,gn,rfl,s1,e1,rfl,λ_ h=>hQ h @E⟩ (λi σ H' _ ⟨_,_,_,_,e,_⟩=>Same.seq e Y.sq) ?_ ?_
  ·rintro i y σ H' θ ⟨rs,v,ψ,rfl,Z,ν,et,ρ⟩;obtain⟨ky,τ⟩:=Y.ks y (dt θ);have hi:=(bA.mp θ).1;have a3:rs.length=i:=by have:=Wy X3 et;rw[tu,bx] at this;omega
   have γ:M.wst (prs nx) β rs < 2 ^ nx.length:=by have:=M.wst_lt (ps:=prs nx) (rs:=rs) (x:=β) (by rw[aN];exact ζ);rwa [aN] at this
   lia;refine cD (Z.get ho) rfl ?_;lia;refine⟨p,m,nx,os,nat (M.wst (prs nx) β rs),y,"int",ky,rfl,Y.ma.same Z,Y.g,rfl,KN τ Z,λa1 b1 ea eb ha hb t H7 α ι=>?_,fun δ=>?_⟩
   ·have ea:=dZ ea;subst ea;subst eb;lia;refine kX (α.get ν) (by rw[bx,M.wan_len,ra];omega) λH8 ξ=>?_;have e8:=ξ.oth _ _ (cF ι (α.get ν) @E) ι;lia;refine⟨rs++[b1],?_⟩;rw[M.wst_snoc,M.wan_snoc,ee];refine⟨_,_,rfl,λb o e=>ξ.oth _ _ (ao e χ) (α.get (Z.get e)),ξ.at',?_,λr ο=>?_⟩
    ·rw[ar6,et,θ,ee];rfl
    ·rcases hB.mp ο with h | h
     ·exact ρ r h
     ·rw[gA.mp h];exact hb
   ·rcases δ with h | h
    ·rw[bK γ] at h;cases h
    ·exact ω (.inr ⟨y,dt θ,h⟩) H' Z
  ·rintro σ H' ⟨rs,v,ψ,rfl,Z,ν,et,ρ⟩;rw[mc] at et;lia;intro t H7 η α ι;exact ε β rs ⟨rfl,et,ζ,ρ⟩ t D H7 χ (Z.trans α) ι (α.get ν)
theorem qy (T:Tx K mg a):FnOk P w K mg base (CX1 P w) 6 a.cA a.nI ["self","rows","state"] (SU K a.aq a.dQ):=by
 refine T.iu.okX yA (λvs H Q E h=>?_) (fun η A outer s H vs Q E β h=>?_)
 ·obtain⟨p,Y,m,nx,os,x,xs,rfl,_⟩:=h;rfl
 ·obtain⟨p,Y,m,nx,os,x,xs,rfl,Z,ε,ω⟩:=h;obtain⟨dx,θ,to,ho,hn,γ⟩:=Z.ma.ho;refine⟨_,((ai (aD (!A @I (dj (pv 0) T.au T.vp (ue T) (β.mono @C) T.ff.2 .nil iX (!j 1 (!j 2 af))) ah)))),aw (σ':=[a' _,a' _,a' _]) rfl ?_⟩;lia;refine cD ho rfl ?_;lia;refine⟨p,Y,m,nx,os,x,xs,rfl,Z,λa1 rs g t D H2 δ α et ζ=>?_,ω⟩;lia;exact ε a1 rs g D H2 δ α ζ
theorem mF (T:Tx K mg a):FnOk P w K mg base (CX1 P w) 7 a.bT a.nZ ["self","which","turns"] (Jl K a.aq a.dQ):=by
 refine T.di.1.okX mr (λvs H Q E h=>?_) (λa3 A outer s H vs Q E υ h=>?_)
 ·obtain⟨p,m,nx,os,x,k,Z,rfl,_⟩:=h;rfl
 ·obtain⟨p,m,nx,os,x,k,Z,rfl,ma,g,hk,hT,ε,ω⟩:=h;obtain⟨dx,tn,to,ho,hn,a0⟩:=ma.ho;have m6:=g.m6
  refine⟨_,((ae (du (PW.pt (og (h7 (gj (aj (rA T) υ T.uF T.j5 (!j 1 af)))) (og (aM Kc (pv 1) ah (aW _)) (mx (aM Rk (pv 1) (aH (K:=K) rfl (pv 0) rfl) (aW _)))))) (ai (i0 WX T.i8 iX rfl @F T.sP (aa bI af))) bg)
   (ae (az (i:=3) mr.nd rfl @D (aE km (dJ (aa (aE gZ ah (pv 1)) af)) (aE Ka (dJ (aa ah af)) (pv 2))))
   (ai (aD (dj (dvs:=[.int 0]) (pv 0) T.au T.sx (qy T) (υ.mono @C) T.jU (.cons T.rR .nil) iX (aa (h8 (g8 (K:=K) rfl) (pv 3) mh (ju (pv 2))) af))))))),aw (σ':=[a' _,a' _,a' _,gn]) rfl ?_⟩
  lia;cases x with
  | int i=>
    have hk:k="int":=hk;subst hk;lia;by_cases θ:i < 0
    ·refine mY (hE θ) ?_;lia;exact⟨by rw[ra];decide,ω (by show(decide ((0:Int)<=i)&&decide (i < (m:Int)))=false;rw[f' @A];rfl)⟩
    ·refine gL (f' θ) ?_;lia;refine aF ho T.au T.aX rfl ?_;lia;by_cases h1:(m:Int)<=i
     ·refine mY (hE h1) ?_;lia;exact⟨by rw[ra];decide,ω (by show(decide ((0:Int)<=i)&&decide (i < (m:Int)))=false;rw[f' (show ¬i < (m:Int) by omega),Y3])⟩
     ·refine gL (f' h1) ?_;obtain⟨j,rfl⟩:=YH (show 0<=i by omega);lia;rw[shl1];intro η H1 f1 ρ e1;lia;intro τ H2 f2 β e2;lia;refine QT e2 @A @A (by rw[ra,wq];simp;omega) λD3 H3 ξ α χ=>?_;rw[wq,Zm] at χ;refine rj (α.get (β.get e1)) χ (by rw[XD,ra];simp;omega) λD4 H4 f4 ι π=>?_;have er:[nat (2 ^ j)]++n' Z (V.int 0)=(2 ^ j::n' Z 0).map nat:=by rw[Xk,aq6];rfl
      rw[er] at π;lia;refine cD (ι.get (α.get (β.get (ρ.get ho)))) rfl ?_;lia;intro D5 H5 f5 ν ο;rw[vT _ Z (by rw[bx,Xa,XD];omega),<-Za,M.pulse_eq] at ο;have Y:=ρ.trans (β.trans (α.trans (ι.trans ν)));lia;refine⟨p,D5,m,nx,os,nat 0,(M.pulse j Z).map nat,rfl,⟨ma.same Y,g,⟨"int",rfl⟩,SqL.of ο,Iy.nats _ _ _,by rw[bx,M.pulse_len];omega⟩,λa1 rs gd D H6 fD ψ eD=>?_,fun ζ=>?_⟩
      ·obtain⟨ea,φ,_,_⟩:=gd;have ea:=dZ ea;subst ea
       have φ:rs=M.pulse j Z:=by
        have:=Wy (ab5 λv:V=>match v with | .int i=>i.toNat | _=>0) φ;rw[WT,WT] at this;exact(this.symm.trans (ac5 _)) ▸ (ac5 _).symm ▸ rfl
       subst φ
       have δ:H D=none:=by
        cases hx:H D with
        | none=>rfl
        | some v=>have:=Y.get hx;rw[fD] at this;cases this
       exact ε j rfl @A D H6 δ (Y.trans ψ) eD
      ·rcases ζ with h | ⟨y,hy,h⟩
       ·rw[show oU (nat 0) (nx.length:Int)=true from bK (W3 _)] at h;cases h
       ·obtain⟨r,γ,rfl⟩:=ic.mp hy;rw[bK (M.pulse_lt (show j < m by omega) Z r γ)] at h;cases h
  | bl b=>have hk:k="bool":=hk;subst hk;lia;exact⟨by rw[ra];decide,ω rfl⟩
  | non=>have hk:k="NoneType":=hk;subst hk;lia;exact⟨by rw[ra];decide,ω rfl⟩
  | str z=>have hk:k="str":=hk;subst hk;lia;exact⟨by rw[ra];decide,ω rfl⟩
  | ref p2=>
    rcases hk with ⟨rfl,_⟩ | ⟨rfl,_⟩ | ⟨rfl,_⟩<;>lia<;>exact⟨by rw[ra];decide,ω rfl⟩
  | _=>exact Xo hk
theorem oP (T:Tx K mg a):FnOk P w K mg base (CX1 P w) 4 a.cB a.qR ["self","mask"] (Nb K a.aq a.dQ):=by
 refine T.fj.1.okX dH (λvs H Q E h=>?_) (λa3 A outer s H vs Q E η h=>?_)
 ·obtain⟨p,m,nx,os,x,k,rfl,_⟩:=h;rfl
 ·obtain⟨p,m,nx,os,x,k,rfl,ma,g,hk,ε,ξ⟩:=h;obtain⟨dx,tn,to,ho,hn,τ⟩:=ma.ho;have ln:=g.ln
  refine⟨_,((ae (bL (dj (pv 0) T.au T.dk (dc T) (η.mono @C) T.bj.2 .nil iX (!j 1 af)))
   (ae (az (i:=2) dH.nd rfl @D ah)
   (ae (az (i:=3) dH.nd rfl @D ah)
   (ae (fG (rq ⟨rfl,rfl⟩) rfl (aK (K:=K) rfl (aj (mD T) η T.o4 T.je (!j 1 af))) (ar (i:=4) dH.nd rfl @D) (ae (az (i:=2) dH.nd rfl @D (aE jB (pv 2) (!A @I (!A @I (aH (K:=K) rfl (pv 0) rfl) (pv 4)) ah)))
   (ai (az (i:=3) dH.nd rfl @D (aE jB (pv 3) (!A @I (!A @I (aH (K:=K) rfl (pv 0) rfl) (pv 4)) ah))))))
   (ai (aD (cL (!j 2 (!j 3 af)))))))))),aw (σ':=[a' _,a' _,gn,gn,gn]) rfl ?_⟩
  lia;refine cD ho rfl ?_;lia;refine⟨p,m,nx,os,x,k,rfl,ma,hk,λhm=>?_,ξ⟩;obtain⟨Z,rfl,ζ⟩:=vQ hm;lia;refine⟨Z,rfl,iD ζ @A,λD H1 f1 β ι=>?_⟩;rw[M.pl_up ζ @A] at ι;generalize θ:nx.map (λq=>q.2.1)=As at ε;generalize ω:nx.map (λq=>q.2.2)=Bs at ε;have π:As.length=nx.length:=by rw[<-θ,bx]
  have ο:Bs.length=nx.length:=by rw[<-ω,bx]
  lia;refine jM (xs:=(M.pl nx.length Z).map nat) (λi σ H'=>∃v,σ=[a' (.ref p),a' (nat Z),a' (nat (((M.pl nx.length Z).take i).foldl (λa p=>a^^^As.getD p 0) 0)),a' (nat (((M.pl nx.length Z).take i).foldl (λa p=>a^^^Bs.getD p 0) 0)),v]/\H'=H1) ⟨gn,rfl,rfl⟩ (λi σ H' _ ⟨_,_,e⟩=>by rw[e];exact SqL.of ι) ?_ ?_
  ·rintro i y σ H' ρ ⟨v,rfl,rfl⟩;obtain⟨k,γ,rfl⟩:=ay ρ;have δ:k < nx.length:=Xd.mp (Y4.mp (dt γ)).1;obtain⟨α,Y⟩:∃α,nx[k]? =a' α:=⟨_,cn δ⟩;have φ:atI (refs nx) (k:Int)=a' (.ref α.1):=fQ (by unfold refs;rw[hH,Y];rfl);have ht:=β.get (ma.hn α (dt Y));have υ:=β.get hn;have ψ:As.getD k 0=α.2.1:=by rw[<-θ,bB,hH,Y];rfl
   have χ:Bs.getD k 0=α.2.2:=by rw[<-ω,bB,hH,Y];rfl
   lia;refine aF (β.get ho) T.au T.cG rfl ?_;lia;refine aF (β.get ho) T.au T.cG rfl ?_;lia;refine⟨a' (nat k),?_,rfl⟩;rw[cI,cI,take_succ γ,Ya,Ya];show _=[_,_,a' (nat (_^^^As.getD k 0)),a' (nat (_^^^Bs.getD k 0)),_];rw[ψ,χ]
  ·rintro σ H' ⟨v,rfl,rfl⟩;rw[bx,mc,M.sm_places As Z (by rw[π];exact ζ) nx.length @A,M.sm_places Bs Z (by rw[ο];exact ζ) nx.length @A];lia;intro t H2 f2 ν e2;exact ε Z rfl ζ t H2 (β.trans ν) e2
theorem fq (T:Tx K mg a):FnOk P w K mg base CX0 1 a.bF a.mK ["self"] (GA a.aq):=by
 refine T.bW.1.okA rV λZ A outer s H vs Q E β h=>?_;obtain⟨p,m,nx,os,rfl,ma,q⟩:=h;obtain⟨dx,α,to,ho,hn,Y⟩:=ma.ho;refine⟨_,((ai (aD (aP (be (K:=K) rfl) @F T.ia W8 (aa (aH (K:=K) rfl (pv 0) rfl) af))))),aw (σ':=[a' _]) rfl ?_⟩;lia;refine aF ho T.au T.dw rfl ?_;lia;unfold refs;rw[bx];exact q
theorem kr (T:Tx K mg a):FnOk P w K mg base CX0 1 a.cx a.qO ["self"] (Qq a.aq):=by
 refine T.dE.1.okA wt fun ο A outer s H vs Q E υ h=>?_;obtain⟨p,m,nx,os,rfl,ma,g,q⟩:=h;obtain⟨dx,ρ,to,ho,hn,α⟩:=ma.ho;refine⟨_,((ai (aD (cL (aa (aH (K:=K) rfl (pv 0) rfl) (aa (a9 (cc (K:=K) rfl) @F T.g5 W2 (aa (aH (K:=K) rfl (pv 0) rfl) af)) (aa (a9 (cc (K:=K) rfl) @F T.g5 W2 (aa (aH (K:=K) rfl (pv 0) rfl) af)) af))))))),aw (σ':=[a' _]) rfl ?_⟩;lia;refine aF ho T.au T.aX rfl ?_;lia;refine aF ho T.au T.cG rfl ?_;lia;intro η H1 θ Y δ;have ζ:=Y.get α;lia;refine aF (Y.get ho) T.au T.dw rfl ?_;lia;intro τ H2 γ β ν;lia;intro t π ξ Z ι
 have χ:H τ=none:=by
  cases ε:H τ with
  | none=>rfl
  | some v=>have:=Y.get ε;rw[γ] at this;cases this
 exact q t η τ π θ χ (ao δ γ) (Y.trans (β.trans Z)) ι (Z.get (β.get δ)) (Z.get ν)
end
theorem nQ (T:Tx K mg a):FnOk P w K mg base CX0 1 a.b7 a.ph ["self","mask"] (SX a.bH):=by
 refine T.dR.1.okA eU λa0 A outer s H vs Q E φ h=>?_;obtain⟨p,d,f,n,rows,x,rfl,st,q⟩:=h;have ρ:=sM φ;obtain⟨dx,ho⟩:=st.ho;obtain⟨es,hd,ht,g,l⟩:=st.he
 refine⟨_,((ae (az (i:=2) eU.nd rfl @D ah)
  (ae (jJ W5 (JX (J4 ρ (aE lh (oK (K:=K) rfl XB Xh Xg oS (pv 1)) ah) (aH (K:=K) rfl (pv 0) rfl))) (ae (az (i:=3) eU.nd rfl @D (oJ ρ (aH (K:=K) rfl (pv 0) rfl) (aE lh (oK (K:=K) rfl XB Xh Xg oS (pv 1)) ah) (λ_ _=>rfl)))
  (ae (az (i:=1) eU.nd rfl @D (aE jB (pv 1) (!A @I (pv 3) ah)))
  (ai (az (i:=2) eU.nd rfl @D (aE jB (pv 2) (!A @I (pv 3) ah)))))))
  (ai (aD (cL (!j 1 (!j 2 af)))))))),aw (σ':=[a' _,a' _,gn,gn]) rfl ?_⟩
 lia;refine⟨fun μ σ' H'=>∃ε v,σ'=[a' (.ref p),a' (nat (x^^^M.sm rows ε)),a' (nat ε),v]/\H'=H/\ε < 2 ^ rows.length/\μ=x^^^M.sm rows ε/\M.Frs rows ε,⟨x,0,gn,?_,rfl,W3 _,?_,M.Frs.zero _⟩,?_⟩
 ·rw[M.sm_zero,XI];rfl
 ·rw[M.sm_zero,XI]
 rintro μ σ' H' ⟨ε,v,rfl,rfl,ι,rfl,γ⟩;lia;refine aF ho T.gS T.fh rfl ?_;refine Tt hd ?_;lia;generalize hm:x^^^M.sm rows ε=m;refine iteB (fun δ=>?_) (fun δ=>?_)
 ·rcases v8 es ((WI (m:Int):Nat) - 1:Int) with ⟨e,he,ζ,ev⟩ | ⟨_,θ⟩
  ·have β:m≠0:=λz=>by rw[z,yh] at ζ;omega
   have hl2:m.log2=e.m.log2:=by rw[nJ β] at ζ;omega
   have Y:(e.m,e.p)∈es.map (λe=>(e.m,e.p)):=ic.mpr ⟨e,he,rfl⟩;have e0:=g.nz _ Y;refine⟨fun α H2=>∃Z v,α=[a' (.ref p),a' (nat (x^^^M.sm rows Z)),a' (nat Z),v]/\H2=H'/\Z < 2 ^ rows.length/\x^^^M.sm rows Z < m/\M.Frs rows Z,fun α H2 ⟨Z,v,h1,h2,h3,ω,ψ⟩=>⟨_,ω,Z,v,h1,h2,h3,rfl,ψ⟩,?_⟩;lia;refine aF ho T.gS T.fh rfl ?_;lia;refine JJ hd ev ?_;have υ:=ht e he;lia;refine⟨ε^^^e.p,a' (.ref e.a),?_,rfl,M.xor_lt_pow ι (g.lt _ Y),?_,γ.xor (g.sub _ Y)⟩
   ·rw[M.sm_xor,g.sm _ Y,<-Xv,hm,cI,cI]
   ·rw[M.sm_xor,g.sm _ Y,<-Xv,hm];exact M.xor_less β e0 hl2
  ·rw[θ] at δ;cases δ
 ·lia;intro t H2 f2 ο e2;subst hm;refine q t H2 ε f2 ο e2 ι (fun π y τ χ hl2=>?_) γ;rcases v8 es ((WI ((x^^^M.sm rows ε:Nat):Int):Nat) - 1:Int) with ⟨e,he,ζ,ev⟩ | ⟨h1,θ⟩
  ·rw[ev] at δ;cases δ
  ·obtain⟨e,he,η⟩:=g.all y τ χ;obtain⟨ν,ξ,rfl⟩:=ic.mp he;refine h1 ν ξ ?_;have η:ν.m.log2=y.log2:=η;rw[nJ π,η,hl2];omega
theorem BV (T:Tx K mg a):FnOk P w K mg base CX0 2 a.eL a.yb ["self","place","row"] (SY a.bH):=by
 refine T.kS.1.okA oC λa0 A outer s H vs Q E ξ h=>?_;obtain⟨p,d,f,n,rows,r,rfl,st,hl,q⟩:=h;have ρ:=sM ξ;obtain⟨dx,ho⟩:=st.ho
 refine⟨_,((ae (az (i:=3) oC.nd rfl @D (fH (pv 0) T.gS T.oV (nQ T) (ξ.mono @C) T.dR.2 .nil bJ (!j 2 af)))
  (ae (az (i:=4) oC.nd rfl @D (aE jB (!A @I (pv 3) ah) (aE gZ ah (pv 1))))
  (ai (du (aM kU (!A @I (pv 3) ah) ah (aW _)) (ai (bL (gY (K:=K) rfl WC Xt Xr ie (aH (K:=K) rfl (pv 0) rfl) (!j 4 af)))) (ae (bL (gY (K:=K) rfl WC Xt Xr ie (aH (K:=K) rfl (pv 0) rfl) (!j 1 af)))
  (ai (Ao ρ (aH (K:=K) rfl (pv 0) rfl) (aE lh (oK (K:=K) rfl XB Xh Xg oS (!A @I (pv 3) ah)) ah) (cL (aa (!A @I (pv 3) ah) (!j 4 af))) rfl)))))))),aw (σ':=[a' _,a' _,a' _,gn,gn]) rfl ?_⟩
 lia;refine aI ho rfl ?_;lia;refine⟨p,d,f,n,rows,r,rfl,st,λt H2 ε f2 γ φ ο hn θ=>?_⟩;lia;rw[shl1,cI];have Z:=γ.get ho;have Y:=st.same γ;have lf:=M.fr_len rows;refine iteB (fun δ=>?_) (fun δ=>?_)
 ·have hz:r^^^M.sm rows ε=0:=by have:=V.int.inj (WE δ);omega
  obtain⟨nms,ι,υ⟩:=Y.hn;have ln:=υ.len;lia;refine aF Z T.gS T.lC rfl ?_;lia;refine kX ι (by rw[bx];exact aR @A) fun χ α=>?_;lia;exact q χ (λb o h1 h2 τ e=>α.oth _ _ τ (γ.get e)) (Y.null ο hz υ ι α)
 ·have hz:r^^^M.sm rows ε≠0:=λz=>by rw[z] at δ;exact hQ δ @C
  obtain⟨es,hd,ht,g,le⟩:=Y.he;have ψ:=Y.hf;lia;refine aF Z T.gS T.gM rfl ?_;lia;refine kX Y.hf (by rw[bx];exact aR @A) fun χ α=>?_;have e3:=α.oth _ _ (cF φ Y.hf @E) φ;have η:=α.oth _ _ (cF Z Y.hf @E) Z;have ν:=α.oth _ _ (cF hd Y.hf @E) hd;lia;intro t' H4 f4 β π;lia;refine aF (β.get η) T.gS T.fh rfl ?_;lia;refine Q1 (β.get ν) (by unfold sL;rw[bx];exact aR @A) λH5 ζ=>?_;lia;refine q H5 (λb o h1 h2 τ e=>ζ.oth _ _ h1 (β.get (α.oth _ _ h2 (γ.get e)))) (Y.more ο hz (hn hz) θ α β π hd ht g le ?_);have ω:(((r^^^M.sm rows ε).log2 + 1:Nat):Int) - 1=(((r^^^M.sm rows ε).log2:Nat):Int):=by omega
  rw[nJ hz,ω] at ζ;exact ζ
theorem mE (T:Tx K mg a):FnOk P w K mg base CX0 3 a.bO a.nV ["self","rows"] (Qt a.bH):=by
 refine T.fc.1.okA iA λa4 A outer s H vs Q E hr h=>?_;obtain⟨x,dx,r,rows,rfl,hw,hl,χ,q⟩:=h;have ρ:=sM hr;have rx:r≠x:=cF hw χ @E
 refine⟨_,((ae (cW (K:=K) rfl (pv 0) r8 rfl)
  (ae (cW (K:=K) rfl (pv 0) (dJ af) rfl)
  (ae (cW (K:=K) rfl (pv 0) (dJ af) rfl)
  (ai (fG W5 rfl (Eg (K:=K) rfl @F T.eg (pv 1)) (wH rfl (bD (ar (i:=2) iA.nd rfl @D) (bD (ar (i:=3) iA.nd rfl @D) iE))) (ai (bL (fH (pv 0) T.gS T.ED (BV T) (hr.mono @C) T.kS.2 .nil bJ (!j 2 (!j 3 af))))))))))),aw (σ':=[a' _,a' _,gn,gn]) rfl ?_⟩
 lia;intro d H1 f1 s1 e1;lia;have Z:d≠x:=λz=>by rw[z,χ] at f1;cases f1
 refine cV (s1.get χ) T.gS T.fh @C rfl λH2 ε=>?_;lia;intro f H3 ξ ι e3;lia;have γ:f≠x:=λz=>by rw[z,ε.at'] at ξ;cases ξ
 refine cV (ι.get ε.at') T.gS T.gM (by show 1 < 1000;decide) rfl λH4 β=>?_;lia;intro n H5 ζ ν ο;lia;have π:n≠x:=λz=>by rw[z,β.at'] at ζ;cases ζ
 refine cV (ν.get β.at') T.gS T.lC (by show 2 < 1000;decide) rfl λH6 α=>?_;have k1:∀b o,b≠x->H b=a' o->H2 b=a' o:=λb o Y e=>ε.oth _ _ Y (s1.get e);have k2:∀b o,b≠x->H b=a' o->H4 b=a' o:=λb o Y e=>β.oth _ _ Y (ι.get (k1 b o Y e));have k3:∀b o,b≠x->H b=a' o->H6 b=a' o:=λb o Y e=>α.oth _ _ Y (ν.get (k2 b o Y e));have nd:∀b o,H b=a' o->b≠d:=λb o e=>ao e f1;have nf:∀b o,b≠x->H b=a' o->b≠f:=λb o Y e=>ao (k1 b o Y e) ξ;have nn:∀b o,b≠x->H b=a' o->b≠n:=λb o Y e=>ao (k2 b o Y e) ζ;have δ:=β.oth _ _ γ e3;have fn:f≠n:=ao δ ζ;have ω:H6 d=a' (.dK (sL [])):=α.oth _ _ Z (ν.get (β.oth _ _ Z (ι.get (ε.oth _ _ Z e1))));have a3:=k3 _ _ rx hw;lia;refine A9 (xs:=rows.map nat) (λi σ H'=>∃v ψ,σ=[a' (.ref x),a' (.ref r),v,ψ]/\StA H' a.bH x d f n (rows.take i)/\∀b o,b≠x->H b=a' o->H' b=a' o) ?_ ?_ ?_ ?_
 ·refine⟨gn,gn,rfl,⟨⟨dx,α.at'⟩,⟨[],ω,λ_ h=>hQ h @E,M.Ech.nil,rfl⟩,α.oth _ _ γ (ν.get δ),⟨[],α.oth _ _ π ο,M.Nul.nil⟩,fn⟩,k3⟩
 ·rintro i σ H' _ ⟨v,ψ,_,_,k⟩;exact SqL.of (k _ _ rx hw)
 ·rintro i y σ H' p H7 hy ⟨v,ψ,rfl,st,k⟩ fp θ e7;obtain⟨ri,τ,rfl⟩:=ay hy;obtain⟨φ,υ⟩:=(st.same θ).ho;lia;refine aI υ rfl ?_;lia;have tl:=Fq τ;refine⟨x,d,f,n,rows.take i,ri,by rw[tl],st.same θ,by rw[tl];have:=(bA.mp τ).1;omega,λH8 a0 η=>?_⟩;lia;refine⟨_,_,rfl,by rw[take_succ τ];exact η,λb o Y e=>a0 b o (nd b o e) (nf b o Y e) (nn b o Y e) (θ.get (k b o Y e))⟩
 ·rintro σ H' ⟨v,ψ,rfl,st,k⟩;rw[bx,mc] at st;lia;exact q H' d f n k st
theorem Eu (T:Tx K mg a):FnOk P w K mg base CX0 5 a.xW a.PR ["rows"] QL:=by
 refine T.zX.1.okA QR fun ζ A outer s H vs Q E α h=>?_;obtain⟨r,rows,rfl,hw,hl,q⟩:=h;refine⟨_,((ai (aD (a9 (cc (K:=K) rfl) @F T.g5 W2 (aa (aH (K:=K) rfl (jv T.Mp (mE T) (α.mono @C) @F T.Li T.fc.2 .nil bJ (!j 0 af)) rfl) af))))),aw (σ':=[a' _]) rfl ?_⟩;lia;intro x dx H2 γ Y δ;refine⟨x,dx,r,rows,rfl,Y.get hw,hl,δ,fun θ d f n k st=>⟨rfl,?_⟩⟩;obtain⟨ε,ho⟩:=st.ho;refine aF ho T.gS T.gM rfl ?_;have hf:=st.hf;lia;intro D η β Z π;have hs:Same H θ:=λb o e=>k b o (ao e γ) (Y.get e);exact q D η (hs.free β) (hs.trans Z) π
theorem jZ (T:Tx K mg a):FnOk P w K mg base CX0 5 a.kF a.CB ["rows","wish"] tR:=by
 refine T.ik.1.okA tT λa3 A outer s H vs Q E ι h=>?_;obtain⟨r,rows,x,rfl,hw,hl,ω,υ,θ,qA,qB⟩:=h
 refine⟨_,((ae (az (i:=2) tT.nd rfl @D (jv T.Mp (mE T) (ι.mono @C) @F T.Li T.fc.2 .nil bJ (!j 0 af)))
  (ae (az (i:=3) tT.nd rfl @D (fH (pv 2) T.gS T.oV (nQ T) (ι.mono @C) T.dR.2 .nil bJ (!j 1 af)))
  (ae (du (aM kU (!A @I (pv 3) ah) ah (aW _)) (ai (aD (cL (aa bI (aa (aj (mD T) ι T.o4 T.je (aa (!A @I (pv 3) ah) af)) af))))) bg)
  (ai (aD (cL (aa bI (aa (fH (pv 2) T.gS T.xc (vh T) (ι.mono @C) T.fW.2 .nil bJ (aa (aE lh (oK (K:=K) rfl XB Xh Xg oS (!A @I (pv 3) ah)) ah) af)) af))))))))),aw (σ':=[a' _,a' _,gn,gn]) rfl ?_⟩
 lia;intro p dx H2 f2 s2 e2;refine⟨p,dx,r,rows,rfl,s2.get hw,hl,e2,λH3 d f n k st=>⟨rfl,?_⟩⟩;obtain⟨a0,ho⟩:=st.ho;have hs:Same H H3:=λb o e=>k b o (ao e f2) (s2.get e);lia;refine aI ho rfl ?_;lia;refine⟨p,d,f,n,rows,x,rfl,st,λt H4 ε f4 Y π hq hn φ=>?_⟩;lia;refine iteB (fun ρ=>?_) (fun ρ=>?_)
 ·have hz:x^^^M.sm rows ε=0:=by have:=V.int.inj (WE ρ);omega
  have ξ:M.sm rows ε=x:=by
   have:=Wy (x^^^·) hz;simp only[<-Xv,XU,Yy,XI] at this;exact this
  lia;refine⟨ε,rfl,eP hq (gB @C hl),λD H5 f5 ν ο=>?_⟩;lia;intro t' ψ α η χ;exact qA t' D ψ ε (A8 (hs.trans Y) f5) (hs.trans (Y.trans (ν.trans η))) χ (η.get ο) ⟨hq,ξ,φ⟩
 ·have hz:x^^^M.sm rows ε≠0:=λz=>by rw[z] at ρ;exact hQ ρ @C
  have Z:x^^^M.sm rows ε < 2 ^ 1000:=M.xor_lt_pow υ (M.span_lt ω (M.sm_span rows ε));have δ:=M.log2_under hz Z;have γ:¬M.Span rows x:=fun β=>hn hz _ (M.span_xor β (M.sm_span rows ε)) hz rfl;have ζ:(M.fr rows).length < 64:=θ.resolve_left γ;have ez:(((x^^^M.sm rows ε).log2 + 1:Nat):Int) - 1=(((x^^^M.sm rows ε).log2:Nat):Int):=by omega
  lia;refine aI (Y.get ho) rfl ?_;lia;rw[nJ hz,ez];refine⟨p,d,f,n,rows,(x^^^M.sm rows ε).log2,rfl,st.same Y,δ,ω,ζ,hn hz,λm H5 ν B=>?_⟩;lia;intro t' ψ α η χ;refine qB t' ψ m (hs.trans (Y.trans (ν.trans η))) χ ⟨γ,⟨M.sm rows ε,M.sm_span _ _,hz,hn hz,B⟩,B.ev,B.odd hz rfl δ,λW hW τ=>B.lt W hW ?_⟩;exact M.log2_under hz (M.xor_lt_pow τ (M.span_lt hW (M.sm_span rows ε)))
section
local macro_rules | `(tactic| walk_at "l2step") =>`(tactic| first | ((with_reducible refine' dC ?e ?_);(case e=>walk_at "l2kind")) | ((with_reducible refine' gD ?e ?_);(case e=>walk_at "l2kind")) | (with_reducible refine cM ?_) | (with_reducible refine dW ?_))
theorem Em (T:Tx K mg a):FnOk P w K mg base CX0 1 a.iI a.zI ["whole","width","count"] Jh:=by
 refine T.p8.1.okA DU fun β A outer s H vs Q E γ h=>?_;obtain⟨ε,wd,δ,rfl,hw,hT,q⟩:=h;have χ:=W3 wd;have α:(1:Int) * 2 ^ ((wd:Int).toNat) - 1=((2 ^ wd - 1:Nat):Int):=by rw[shl1];omega
 refine⟨_,((ai (aD (bC (osc:=ag pJ) (ON:=["whole","width","count"]) (N:=["place","whole","width"]) (n:=1) (fx:=[0,1]) rfl rfl rfl @H (cE @F T.fo (!j 2 af)) (aA @C) (!C (ar (i:=0) (show kv (["place","whole","width"]:B') from by decide +kernel) rfl @D) (aE ko (aE oM (pv 1) (aE se (pv 0) (pv 2))) (aE lh (aE gZ ah (pv 2)) ah))))))),aw (σ':=[a' _,a' _,a' _]) rfl ?_⟩;lia;intro D Z;refine df (λi ys H'=>Cs (λi ys=>ys=((lx i).map λt=>(ε>>>(t * wd))&&&(2 ^ wd - 1)).map nat) H D i ys H') (Cs.zero Z rfl) (λi ys H' hi c=>?_) (λys H' c=>?_)
 ·have Y:((0:Int) + (i:Int)) * (wd:Int)=((i * wd:Nat):Int):=by rw[YK];push_cast;rfl
  lia;rw[Y];lia;rw[DS,α,dh];refine Cs.put Z c.same c.at' c.len @A ?_;rw[c.pv,XR,ee,ee];rfl
 ·have Y:=c.at';rw[c.pv,wq] at Y;exact q D H' Z c.same Y
theorem NL (T:Tx K mg a):FnOk P w K mg base CX0 5 a.rH a.LJ ["machine","turns"] (M4 a.aq):=by
 refine T.Bo.1.okA pG λa3 A outer s H vs Q E τ h=>?_;obtain⟨p,m,nx,os,T',rfl,ma,g,hT,q⟩:=h;obtain⟨dx,tn,to,ho,hn,a0⟩:=ma.ho;have m6:=g.m6;have ln:=g.ln
 refine⟨_,((ae (bU (osc:=ag wB) (ON:=["machine","turns","states","told","turn"]) (N:=["which","machine"]) (n:=1) (fx:=[0]) (i:=2) pG.nd rfl rfl rfl rfl rfl rfl @H (cE @F T.fo (aa (aH (K:=K) rfl (pv 0) rfl) af)) (aA @C) (!C (ar (i:=0) (show kv (["which","machine"]:B') from by decide +kernel) rfl @D) (!A @I (dj (pv 1) T.au T.fi (dM T) (τ.mono @C) T.b0.2 .nil thr0 (aa ah (aa (aE gZ ah (pv 0)) af))) ah)))
  (ae (az (i:=3) pG.nd rfl @D (dJ af))
  (ae (fG W5 rfl (cE @F T.fo (!j 1 af)) (ar (i:=4) pG.nd rfl @D) (ae (az (i:=3) pG.nd rfl @D (aE km (pv 2) (pv 3)))
  (ai (bU (osc:=ag wB) (ON:=["machine","turns","states","told","turn"]) (N:=["state","machine"]) (n:=1) (fx:=[0]) (i:=2) pG.nd rfl rfl rfl rfl rfl rfl @H (aK (K:=K) rfl (pv 2)) (aA @C) (!C (ar (i:=0) (show kv (["state","machine"]:B') from by decide +kernel) rfl @D) (!A @I (dj (pv 1) T.au T.fi (dM T) (τ.mono @C) T.b0.2 .nil thr0 (!j 0 (aa ah af))) ah))))))
  (ai (aD (pv 3))))))),aw (σ':=[a' _,a' _,gn,gn,gn]) rfl ?_⟩
 lia;refine aF ho T.au T.aX rfl ?_;lia;intro D φ;refine df (λi ys H'=>Cs (λi ys=>ys=((lx i).map λw=>M.tr2 (prs nx) 0 (2 ^ w)).map nat) H D i ys H') (Cs.zero φ rfl) (λi ys H' hi c=>?_) (λys H1 c=>?_)
 ·have ν:i < m:=by omega
  have ι:(0:Int) + (i:Int)=(i:Int):=YK _;lia;refine cD (c.same.get ho) rfl ?_;lia;rw[ι];lia;rw[shl1];refine⟨p,m,nx,os,nat 0,nat (2 ^ i),"int","int",rfl,ma.same c.same,g,rfl,rfl,λa1 b1 ea Z _ _ t6 H6 Y e6=>?_,fun α=>?_⟩
  ·have ea:=dZ ea;have Z:=dZ Z;subst ea Z;lia;refine Cs.put φ (c.same.trans Y) (Y.get c.at') c.len @A ?_;rw[c.pv,XR,ee,ee];rfl
  ·rcases α with h | h
   ·rw[bK (W3 _)] at h;cases h
   ·rw[bK (WV @C ν)] at h;cases h
 ·have e1:=c.at';rw[c.pv,wq] at e1;have ρ:=c.same;lia;intro D0 H2 f2 π e2;lia;refine o5 (λi σ H'=>∃(v:WG V) (ε Dt:eO),σ=[a' (.ref p),a' (nat T'),a' (.ref ε),a' (.ref Dt),v]/\Same H H'/\H' ε=a' (.lst ((M.stj (prs nx) (M.sg0 (prs nx) m) i).map nat))/\H' Dt=a' (.lst ((M.rch (prs nx) m i).map nat))/\H Dt=gn) ⟨gn,D,D0,rfl,ρ.trans π,π.get e1,e2,A8 ρ f2⟩ ?_ ?_
  ·rintro i σ H' hi ⟨v,ε,Dt,rfl,Y,es,et,ft⟩;have ls:(M.stj (prs nx) (M.sg0 (prs nx) m) i).length=m:=by rw[M.stj_len,M.sg0_len]
   have lr:=M.rch_len (prs nx) m i;have υ:i * m<=100 * 6:=Zv @A m6;lia;refine rj es et (by rw[bx,bx,ra];omega) λD7 H7 η ζ ω=>?_;rw[<-ee] at ω;have ξ:=ζ.get es;lia;intro D8 δ;refine aJ (xs:=(M.stj (prs nx) (M.sg0 (prs nx) m) i).map nat) (λj ys H'=>Cs (λj ys=>ys=(((M.stj (prs nx) (M.sg0 (prs nx) m) i).take j).map λx=>M.tr2 (prs nx) x 0).map nat) H7 D8 j ys H') (Cs.zero δ rfl) (λj ys H' _ c=>SqL.of (c.same.get ξ)) (λj x ys H' hx c=>?_) (λys H' c=>?_)
   ·obtain⟨ο,ψ,rfl⟩:=ay hx;have hj:=(bA.mp ψ).1;have γ:=M.stj_lt (prs nx) m i ο (dt ψ);rw[aN] at γ;have θ:=Y.trans (ζ.trans c.same);lia;refine cD (θ.get ho) rfl ?_;lia;refine⟨p,m,nx,os,nat ο,nat 0,"int","int",rfl,ma.same θ,g,rfl,rfl,λa1 b1 ea Z _ _ t6 H6 β e6=>?_,fun α=>?_⟩
    ·have ea:=dZ ea;have Z:=dZ Z;subst ea Z;lia;refine Cs.put δ (c.same.trans β) (β.get c.at') c.len @A ?_;rw[c.pv,take_succ ψ,ee,ee];rfl
    ·rcases α with h | h
     ·rw[bK γ] at h;cases h
     ·rw[bK (W3 _)] at h;cases h
   ·have χ:=c.at';rw[c.pv,bx,mc] at χ;exact⟨_,D8,D7,rfl,Y.trans (ζ.trans c.same),χ,c.same.get ω,A8 Y η⟩
  ·rintro σ H' ⟨v,ε,Dt,rfl,Y,es,et,ft⟩;rw[wq] at et;lia;exact q Dt H' ft Y et
theorem G3 (T:Tx K mg a):FnOk P w K mg base CX0 2 a.kH a.CD ["machine","places","turns"] (Jp a.aq):=by
 refine T.tK.1.okA GI fun δ A outer s H vs Q E Y h=>?_;obtain⟨p,D,m,nx,os,ε,ζ,rfl,ma,g,γ,Z,hT,q⟩:=h;obtain⟨dx,η,to,ho,hn,β⟩:=ma.ho;have m6:=g.m6;refine⟨_,((ai (aD (aj (Em T) Y T.Hy T.p8 (aa (aj (iF T) Y T.kE T.gE (!j 1 af)) (aa (aH (K:=K) rfl (pv 0) rfl) (!j 2 af))))))),aw (σ':=[a' _,a' _,a' _]) rfl ?_⟩;lia;refine⟨D,M.pl 1000 ε,rfl,γ,λx α=>M.pl_lt Z x α,?_⟩;rw[DF Z];lia;refine aF ho T.au T.aX rfl ?_;lia;exact⟨ε,m,ζ,rfl,@A,hT,q⟩
theorem Av (T:Tx K mg a):FnOk P w K mg base CX0 5 a.fL a.uS ["machine"] (Nc a.aq):=by
 refine T.lH.1.okA g9 λa4 A outer s H vs Q E γ h=>?_;obtain⟨p,m,nx,os,rfl,ma,g,a3,q⟩:=h;obtain⟨dx,tn,to,ho,hn,a0⟩:=ma.ho;have lo:=g.lo;have ln:=g.ln
 have hA:∀x∈(prs nx).map (·.1),x < 2 ^ nx.length:=λx ζ=>by
  obtain⟨q,χ,rfl⟩:=ic.mp ζ;obtain⟨r,γ,rfl⟩:=ic.mp χ;exact(g.bn r (qb _ γ)).1
 have hO:∀x∈(prs os).map (·.1),x < 2 ^ nx.length:=λx ζ=>by
  obtain⟨q,χ,rfl⟩:=ic.mp ζ;obtain⟨r,γ,rfl⟩:=ic.mp χ;exact(g.bn r (lA _ γ)).1
 have eA:(nx.map λq=>q.2.1)=(prs nx).map (·.1):=by rw[WT];rfl
 have lO:((prs os).map (·.1)).length=os.length:=by rw[bx,bx]
 refine⟨_,((ae (bU (osc:=ag i9) (ON:=["machine","masks","told","turn"]) (N:=["pair"]) (n:=1) (fx:=[]) (i:=1) g9.nd rfl rfl rfl rfl rfl rfl @H (kl (K:=K) rfl (aH (K:=K) rfl (pv 0) rfl)) (aA @C) (!C (ar (i:=0) (show kv (["pair"]:B') from by decide +kernel) rfl @D) (!A @I (pv 0) ah)))
  (ae (az (i:=2) g9.nd rfl @D (dJ af))
  (ae (fG W5 rfl (cE @F T.fo (aa (aZ (pv 0) T.au T.aU (aQ T) (γ.mono @C) T.aL.2 .nil bJ) af)) (ar (i:=3) g9.nd rfl @D) (ae (bL (gY (K:=K) rfl WC Xs Xq ja (pv 2) (!j 1 af)))
  (ai (bU (osc:=ag i9) (ON:=["machine","masks","told","turn"]) (N:=["mask","machine"]) (n:=1) (fx:=[0]) (i:=1) g9.nd rfl rfl rfl rfl rfl rfl @H (aK (K:=K) rfl (pv 1)) (aA @C) (!C (ar (i:=0) (show kv (["mask","machine"]:B') from by decide +kernel) rfl @D) (!A @I (dj (pv 1) T.au T.qC (oP T) (γ.mono @C) T.fj.2 .nil thr0 (!j 0 af)) ah))))))
  (ai (aD (pv 2))))))),aw (σ':=[a' _,gn,gn,gn]) rfl ?_⟩
 lia;refine aF ho T.au T.dw rfl ?_;lia;intro D hD;refine tz (xs:=refs os) (λi ys H'=>Cs (λi ys=>ys=(((prs os).map (·.1)).take i).map nat) H D i ys H') (Cs.zero hD rfl) (λi ys H' _ c=>SqT.of (c.same.get a0)) (λi v ys H' φ c=>?_) (λys H1 c=>?_)
 ·obtain⟨pr,Z,rfl⟩:=ay φ;have hi:=(bA.mp Z).1;have ht:=c.same.get (ma.hs pr (dt Z));lia;refine Cs.put hD c.same c.at' c.len @A ?_;rw[c.pv,take_succ (show((prs os).map (·.1))[i]? =a' pr.2.1 by rw[hH,hH,Z];rfl),ee];rfl
 ·have e1:=c.at';rw[c.pv,hZ,show os.length=((prs os).map (·.1)).length from lO.symm,mc] at e1;have ε:=c.same;clear c;lia;intro ξ H2 ρ π e2;lia;refine aI ((ε.trans π).get ho) rfl ?_;lia;refine⟨p,m,nx,os,rfl,ma.same (ε.trans π),?_⟩;lia;refine o5 (λi σ H'=>∃(v:WG V) (ι:eO),σ=[a' (.ref p),a' (.ref ι),a' (.ref ξ),v]/\Same H H'/\H' ι=a' (.lst ((M.lk1 ((prs nx).map (·.1)) ((prs os).map (·.1)) i).map nat))/\H' ξ=a' (.lst ((M.lkm ((prs nx).map (·.1)) ((prs os).map (·.1)) i).map nat))/\ι≠ξ) ⟨gn,D,rfl,ε.trans π,?_,e2,?_⟩ ?_ ?_
  ·rw[π.get e1];unfold M.lk1;rw[show(λs=>M.bkI ((prs nx).map (·.1)) s 0)=id from rfl,ac5]
  ·exactλz=>by rw[<-z,e1] at ρ;cases ρ
  ·rintro i σ H' hi ⟨v,ι,rfl,s',em,et,nm⟩;have θ:=M.lkm_len ((prs nx).map (·.1)) ((prs os).map (·.1)) i;have l1:=M.lk1_len ((prs nx).map (·.1)) ((prs os).map (·.1)) i;have b6:i * ((prs os).map (·.1)).length<=60 * 6:=Zv @A @A;lia;refine jF et em (by rw[bx,bx,θ,l1];exact YA (aR @A)) nm.symm λH5 τ=>?_;have f0:H ξ=none:=ε.free ρ;have ν:=τ.same f0 s';have ω:=τ.oth _ _ nm em;have β:=τ.at';rw[<-ee] at β
   have bm:∀x∈M.lk1 ((prs nx).map (·.1)) ((prs os).map (·.1)) i,x < 2 ^ nx.length:=λx ζ=>by
    obtain⟨y,Y,rfl⟩:=ic.mp ζ;exact M.bkI_lt hA (hO y Y) i
   lia;intro ο α;refine aJ (xs:=(M.lk1 ((prs nx).map (·.1)) ((prs os).map (·.1)) i).map nat) (λj ys H'=>Cs (λj ys=>ys=((M.lk1 ((prs nx).map (·.1)) ((prs os).map (·.1)) (i + 1)).take j).map nat) H5 ο j ys H') (Cs.zero α rfl) (λj ys H' _ c=>SqL.of (c.same.get ω)) (λj v ys H6 φ c=>?_) (λys H6 c=>?_)
   ·obtain⟨y,Y,rfl⟩:=ay φ;have hj:=(bA.mp Y).1;have υ:=bm y (dt Y);have δ:=ν.trans c.same;lia;refine cD (δ.get ho) rfl ?_;lia;refine⟨p,m,nx,os,nat y,"int",rfl,ma.same δ,g,rfl,λa1 ea ha t7 ψ s7 e7=>?_,fun η=>?_⟩
    ·have ea:=dZ ea;subst ea;lia;refine Cs.put α (c.same.trans s7) (s7.get c.at') c.len @A ?_;rw[c.pv,take_succ (show(M.lk1 ((prs nx).map (·.1)) ((prs os).map (·.1)) (i + 1))[j]? =a' (M.sm ((prs nx).map (·.1)) y) from ?_),ee,eA];rfl;unfold M.lk1 at Y ⊢;rw[hH] at Y ⊢;cases e:((prs os).map (·.1))[j]? with
     | none=>rw[e] at Y;cases Y
     | some z=>rw[e] at Y;rw[<-WB Y,M.bkI_succ];rfl
    ·rw[bK υ] at η;cases η
   ·have e6:=c.at';rw[c.pv,bx,l1,<-M.lk1_len ((prs nx).map (·.1)) ((prs os).map (·.1)) (i + 1),mc] at e6;have s6:=c.same;clear c;lia;exact⟨_,ο,rfl,ν.trans s6,e6,s6.get β,λz=>by rw[z,β] at α;cases α⟩
  ·rintro σ H' ⟨v,ι,rfl,s',em,et,nm⟩;lia;refine q ξ H' (ε.free ρ) s' ?_;unfold M.msk;rw[aN];exact et
theorem nj (T:Tx K mg a):FnOk P w K mg base CX0 3 a.iN a.zN ["mask","others"] Qx:=by
 refine T.iU.1.okA DV fun ξ A outer s H vs Q E ε h=>?_;obtain⟨r,x,L,rfl,ζ,ο,ι,q⟩:=h;refine⟨_,((ai (aD (aj (iF T) ε T.kE T.gE (aa (bC (osc:=ag pL) (ON:=["mask","others"]) (N:=n22) (n:=2) (fx:=[0]) rfl rfl rfl @H (pQ (K:=K) rfl @F T.eg (pv 1)) (xO (fw (aA @C) (fw (aA @C) rF))) (λ_ _ _ _ _=>⟨(ro (K:=K) (n:=2) rfl rfl (bD (ar (i:=0) (show kv (n22:B') from by decide +kernel) rfl @D) (bD (ar (i:=1) (show kv (n22:B') from by decide +kernel) rfl @D) iE))),(mf (h7 (gj (aj (Aw T) ε T.FX T.yp (aa (aE ko (pv 2) (pv 1)) af))))),(pv 0)⟩)) af))))),aw (σ':=[a' _,a' _]) rfl ?_⟩;lia;refine .inl ⟨⟨_,SqL.of ζ⟩,?_⟩;intro D η;refine uI (xs:=L.map nat) (λi ys H'=>Cs (λi ys=>∃qs:C',ys=qs.map nat/\(∀p∈qs,p < i)/\M.xm qs=M.ow x (L.take i)) H D i ys H') (Cs.zero η ⟨[],rfl,λ_ h=>hQ h @E,rfl⟩) (λi ys H' _ c=>Same.seq c.same (SqL.of ζ)) (λi v ys H' p ψ ν c fp β π=>?_) (λys H' c=>?_)
 ·obtain⟨δ,α,rfl⟩:=ay ν;obtain⟨qs,ω,Z,Y⟩:=c.pv;have hi:=(bA.mp α).1;have ts:=Rh (x:=x) α;lia;rw[dh];refine⟨x&&&δ,rfl,Xl ZJ ι,?_⟩;cases γ:M.od (x&&&δ) with
  | true=>
    rw[γ,zt rfl] at ts;refine⟨false,rfl,?_⟩;dsimp only;rw[zt (show(!false)=true from rfl)];lia;refine Cs.put η (c.same.trans β) (β.get c.at') c.len @A ⟨qs++[i],?_,λk hk=>?_,?_⟩
    ·rw[ω,ee];rfl
    ·rcases hB.mp hk with h | h
     ·have:=Z k h;omega
     ·rw[gA.mp h];omega
    ·rw[M.xm_snoc,Y,ts]
  | false=>
    rw[γ,oT hF,XI] at ts;refine⟨true,rfl,?_⟩;dsimp only;rw[oT @C];refine Cs.skip (c.same.trans β) (β.get c.at') c.len ⟨qs,ω,λk hk=>?_,?_⟩
    ·have:=Z k hk;omega
    ·rw[Y,ts]
 ·obtain⟨qs,ω,Z,Y⟩:=c.pv;rw[bx] at Z Y;have θ:=c.at';rw[ω] at θ;lia;refine⟨D,qs,rfl,θ,λk hk=>by have:=Z k hk;omega,?_⟩;rw[Y,mc];exact q _ c.same
theorem nP (T:Tx K mg a):FnOk P w K mg base CX0 7 a.cZ a.o8 ["pair","states","seen"] SS:=by
 refine T.fT.1.okA u0 fun χ A outer s H vs Q E β h=>?_;obtain⟨t,η,τ,x,b,S,Z,rfl,ht,h1,h2,ζ,δ,ω,ψ,sp,q⟩:=h;refine⟨_,((ai (aD (cL (aa (aj (iF T) β T.kE T.gE (aa (!A @I (aj (jZ T) β T.mI T.ik (!j 2 (aa (aj (nj T) β T.pV T.iU (aa (!A @I (pv 0) ah) (!j 1 af))) af))) ah) af)) (aa (!A @I (pv 0) ah) af)))))),aw (σ':=[a' _,a' _,a' _]) rfl ?_⟩;lia;refine⟨η,x,S,rfl,h1,ζ,ψ,λH3 α=>?_⟩;lia;refine⟨τ,Z,_,rfl,α.get h2,δ,ω,eP (M.ow_lt _ _) (gB @C ζ),.inl sp,fun ξ D4 H4 ε f4 Y π γ sd=>?_,fun ξ H4 mk Y π bd=>hQ sp bd.ns⟩;have θ:ε < 2 ^ 1000:=eP sd.lt (gB @C δ);have υ:=Y.get (α.get ht);lia;refine⟨D4,M.pl 1000 ε,rfl,γ,λx ρ=>M.pl_lt θ x ρ,?_⟩;rw[DF θ];lia;intro ι H5 φ ν ο;exact q ι H5 ε (α.free (Y.free φ)) (α.trans (Y.trans ν)) ο sd
theorem NM (T:Tx K mg a):FnOk P w K mg base CX0 9 a.rJ a.LK ["machine"] (Nd a.aq):=by
 refine T.Bp.1.okA iY λt4 A outer s H vs Q E hr h=>?_;obtain⟨p,m,nx,os,rfl,ma,g,d8,q⟩:=h;obtain⟨dx,tn,to,ho,hn,q2⟩:=ma.ho;have lo:=g.lo;have m6:=g.m6
 refine⟨_,((ae (az (i:=1) iY.nd rfl @D (aj (NL T) hr T.RJ T.Bo (!j 0 (aa (aZ (pv 0) T.au T.aU (aQ T) (hr.mono @C) T.aL.2 .nil bJ) af))))
  (ae (az (i:=2) iY.nd rfl @D (aj (Av T) hr T.Cj T.lH (!j 0 af)))
  (ae (az (i:=3) iY.nd rfl @D (aj (Eu T) hr T.Lf T.zX (aa (bC (osc:=ag ka) (ON:=n12) (N:=["state","masks"]) (n:=1) (fx:=[2]) rfl rfl rfl @H (aK (K:=K) rfl (pv 1)) (aA @C) (!C (ar (i:=0) (show kv (["state","masks"]:B') from by decide +kernel) rfl @D) (aj (nj T) hr T.pV T.iU (!j 0 (!j 1 af))))) af)))
  (ae (az (i:=4) iY.nd rfl @D (bC (osc:=ag ka) (ON:=n12) (N:=["place","leads"]) (n:=1) (fx:=[1]) rfl rfl rfl @H (aK (K:=K) rfl (pv 3)) (aA @C) (!C (ar (i:=0) (show kv (["place","leads"]:B') from by decide +kernel) rfl @D) (!A (bu (K:=K) rfl) (pv 1) (pv 0)))))
  (ae (az (i:=5) iY.nd rfl @D (aj (Eu T) hr T.Lf T.zX (aa (bC (osc:=ag ka) (ON:=n12) (N:=["mask","states"]) (n:=1) (fx:=[4]) rfl rfl rfl @H (aK (K:=K) rfl (pv 2)) (aA @C) (!C (ar (i:=0) (show kv (["mask","states"]:B') from by decide +kernel) rfl @D) (aj (nj T) hr T.pV T.iU (!j 0 (!j 1 af))))) af)))
  (ae (az (i:=6) iY.nd rfl @D (bC (osc:=ag ka) (ON:=n12) (N:=["place","masks","states"]) (n:=1) (fx:=[2,4]) rfl rfl rfl @H (aK (K:=K) rfl (pv 5)) (aA @C) (!C (ar (i:=0) (show kv (["place","masks","states"]:B') from by decide +kernel) rfl @D) (aj (nj T) hr T.pV T.iU (aa (!A (bu (K:=K) rfl) (pv 1) (pv 0)) (!j 2 af))))))
  (ae (bU (osc:=ag ka) (ON:=n12) (N:=["place","machine","masks","states","seen"]) (n:=1) (fx:=[0,2,4,6]) (i:=7) iY.nd rfl rfl rfl rfl rfl rfl @H (aK (K:=K) rfl (pv 5)) (aA @C) (!C (ar (i:=0) (show kv (["place","machine","masks","states","seen"]:B') from by decide +kernel) rfl @D) (aj (nP T) hr T.oY T.fT (aa (dj (pv 1) T.au T.qC (oP T) (hr.mono @C) T.fj.2 .nil thr0 (aa (!A (bu (K:=K) rfl) (pv 2) (pv 0)) af)) (!j 3 (!j 4 af))))))
  (ae (bU (osc:=ag ka) (ON:=n12) (N:=["pair","states","seen"]) (n:=1) (fx:=[4,6]) (i:=8) iY.nd rfl rfl rfl rfl rfl rfl @H (kl (K:=K) rfl (aH (K:=K) rfl (pv 0) rfl)) (aA @C) (!C (ar (i:=0) (show kv (["pair","states","seen"]:B') from by decide +kernel) rfl @D) (aj (nP T) hr T.oY T.fT (!j 0 (!j 1 (!j 2 af))))))
  (ae (bU (osc:=ag ka) (ON:=n12) (N:=n17) (n:=1) (fx:=[0]) (i:=9) iY.nd rfl rfl rfl rfl rfl rfl @H (aK (K:=K) rfl (pv 3)) (aA @C) (!C (ar (i:=0) (show kv (n17:B') from by decide +kernel) rfl @D) (aj (G3 T) hr T.K7 T.tK (!j 1 (aa (dJ (!j 0 af)) (aa (aZ (pv 1) T.au T.aU (aQ T) (hr.mono @C) T.aL.2 .nil bJ) af))))))
  (ai (aD (cL (aa (jv T.tI (dY T) (hr.mono @C) @F T.sN T.cb.2 .nil bJ (aa (aH (K:=K) rfl (pv 0) rfl) (!j 7 (!j 8 af)))) (!j 9 (aa (bC (osc:=ag ka) (ON:=n12) (N:=n17) (n:=1) (fx:=[0]) rfl rfl rfl @H (aK (K:=K) rfl (pv 5)) (aA @C) (!C (ar (i:=0) (show kv (n17:B') from by decide +kernel) rfl @D) (aP Ib @F T.NY PyProof.Rows.boot_divmod (!j 0 (aa (aZ (pv 1) T.au T.gb (fq T) (hr.mono @C) T.bW.2 .nil bJ) af))))) af)))))))))))))))),aw (σ':=[a' _,gn,gn,gn,gn,gn,gn,gn,gn,gn]) rfl ?_⟩
 lia;refine aI ho rfl ?_;lia;refine⟨p,m,nx,os,rfl,ma,?_⟩;lia;refine⟨p,m,nx,os,_,rfl,ma,g,@A,λDl H1 f1 s1 e1=>?_⟩;lia;refine⟨p,m,nx,os,rfl,ma.same s1,g,d8,λDm H2 f2 s2 e2=>?_⟩;have c5:=s2.get e1;have o0:=s1.trans s2
 have a6:M.Fit (prs nx) (prs os) m:=⟨by rw[aN];omega,λq hq=>by
  rw[show prs nx++prs os=prs (nx++os) from(ee ..).symm] at hq;obtain⟨r,hr,rfl⟩:=ic.mp hq;rw[aN];exact(g.bn r hr).1⟩
 obtain⟨X,ι⟩:∃X,X=M.rch (prs nx) m (prs nx).length:=⟨_,rfl⟩;obtain⟨Y,eY⟩:∃Y,Y=M.msk (prs nx) (prs os):=⟨_,rfl⟩;have lX:X.length=nx.length * m:=by rw[ι,M.rch_len,aN]
 have lY:Y.length=nx.length * os.length:=by rw[eY];unfold M.msk;rw[M.lkm_len,aN,bx,aN]
 have s0:nx.length * m<=60 * 6:=Zv d8 m6;have r9:nx.length * os.length<=60 * 6:=Zv d8 lo;have pw:2 ^ nx.length<=2 ^ 1000:=gB @C @A;have bX:∀x∈X,x < 2 ^ nx.length:=λx hx=>by rw[ι] at hx;have:=M.rch_lt (prs nx) m _ x hx;rwa [aN] at this
 have bY:∀x∈Y,x < 2 ^ nx.length:=λx hx=>by
  rw[eY] at hx;obtain⟨s,t,hs,ht,rfl⟩:=M.lkm_of hx;have:=M.bkI_lt a6.A (a6.O s hs) t;rwa [aN] at this
 rw[<-aN nx,<-ι] at c5;rw[<-eY] at e2;have c0:=e2;clear e1;lia;intro D3 k8;refine aJ (xs:=X.map nat) (λj ys H'=>Cs (λj ys=>ys=((X.map (M.ow · Y)).take j).map nat) H2 D3 j ys H') (Cs.zero k8 rfl) (λj ys H' _ c=>SqL.of (c.same.get c5)) (λj v ys H6 hv c=>?_) (λys H3 c=>?_)
 ·obtain⟨y,hy,rfl⟩:=ay hv;have hj:=(bA.mp hy).1;have a4:=bX y (dt hy);lia;refine⟨Dm,y,Y,rfl,c.same.get e2,@A,eP a4 pw,λH7 s7=>?_⟩;refine Cs.put k8 (c.same.trans s7) (s7.get c.at') c.len @A ?_;rw[c.pv,take_succ (show(X.map (M.ow · Y))[j]? =a' (M.ow y Y) by rw[hH,hy];rfl),ee];rfl
 have e3:=c.at';rw[c.pv,bx,<-bx (as:=X) (f:=(M.ow · Y)),mc] at e3;have n9:=o0.trans c.same;have m2:=c.same.get c5;have m1:=c.same.get e2;clear c c0 c5 e2;lia;refine⟨D3,X.map (M.ow · Y),rfl,e3,by rw[bx];omega,λDd H4 f4 s4 π=>?_⟩;obtain⟨τ,a5⟩:∃τ,τ=M.ldp (prs nx) (prs os) m:=⟨_,rfl⟩;have π:H4 Dd=a' (.lst (τ.map nat)):=by rw[π,a5,ι,eY];rfl
 have d0:∀i∈τ,i < X.length:=λi hi=>by rw[a5] at hi;have:=M.ldp_lt i hi;rw[ι];exact this
 have r7:τ.length<=360:=by
  have:=M.fr_len (X.map (M.ow · Y));rw[a5];unfold M.ldp;rw[<-ι,<-eY];rw[bx] at this;omega
 have g3:=s4.get m2;have m0:=s4.get m1;have n8:=n9.trans s4;clear m2 m1 e3;lia;intro D5 α;refine aJ (xs:=τ.map nat) (λj ys H'=>Cs (λj ys=>ys=((τ.map λi=>X.getD i 0).take j).map nat) H4 D5 j ys H') (Cs.zero α rfl) (λj ys H' _ c=>SqL.of (c.same.get π)) (λj v ys H6 hv c=>?_) (λys H5 c=>?_)
 ·obtain⟨y,hy,rfl⟩:=ay hv;have hj:=(bA.mp hy).1;have a4:=d0 y (dt hy);have s8:=c.same.get g3;have gx:atI (X.map nat) (y:Int)=a' (nat (X.getD y 0)):=fQ (by rw[hH,M.getD_at' (d:=0) a4];rfl);lia;refine Cs.put α c.same c.at' c.len @A ?_;rw[c.pv,take_succ (show(τ.map λi=>X.getD i 0)[j]? =a' (X.getD y 0) by rw[hH,hy];rfl),ee];rfl
 obtain⟨S,eS⟩:∃S,S=M.lst_ (prs nx) (prs os) m:=⟨_,rfl⟩;have ο:=c.at';rw[c.pv,bx,<-bx (as:=τ) (f:=λi=>X.getD i 0),mc] at ο;have ο:H5 D5=a' (.lst (S.map nat)):=by rw[ο,eS,a5,ι];rfl
 have lS:S.length=τ.length:=by rw[eS,a5,M.lst_len]
 have bS:∀x∈S,x < 2 ^ nx.length:=λx hx=>by rw[eS] at hx;have:=M.lst_in x hx;rw[<-ι] at this;exact bX x this
 have n7:=n8.trans c.same;have q8:=c.same.get g3;have g0:=c.same.get m0;have l5:=c.same.get π;clear c g3 m0 π;lia;intro D6 k7;refine aJ (xs:=Y.map nat) (λj ys H'=>Cs (λj ys=>ys=((Y.map (M.ow · S)).take j).map nat) H5 D6 j ys H') (Cs.zero k7 rfl) (λj ys H' _ c=>SqL.of (c.same.get g0)) (λj v ys H6 hv c=>?_) (λys H6 c=>?_)
 ·obtain⟨y,hy,rfl⟩:=ay hv;have hj:=(bA.mp hy).1;have a4:=bY y (dt hy);lia;refine⟨D5,y,S,rfl,c.same.get ο,@A,eP a4 pw,λH7 s7=>?_⟩;refine Cs.put k7 (c.same.trans s7) (s7.get c.at') c.len @A ?_;rw[c.pv,take_succ (show(Y.map (M.ow · S))[j]? =a' (M.ow y S) by rw[hH,hy];rfl),ee];rfl
 have e6:=c.at';rw[c.pv,bx,<-bx (as:=Y) (f:=(M.ow · S)),mc] at e6;have n6:=n7.trans c.same;have l8:=c.same.get g0;have γ:=c.same.get ο;have l4:=c.same.get l5;clear c q8 g0 ο l5;lia;refine⟨D6,Y.map (M.ow · S),rfl,e6,by rw[bx];omega,λDk H7 f7 s7 e7=>?_⟩;obtain⟨a0,a3⟩:∃a0,a0=M.lkp (prs nx) (prs os) m:=⟨_,rfl⟩;have e7:H7 Dk=a' (.lst (a0.map nat)):=by rw[e7,a3,eY,eS];rfl
 have c1:∀i∈a0,i < Y.length:=λi hi=>by rw[a3] at hi;have:=M.lkp_lt i hi;rw[eY];exact this
 have r5:a0.length<=nx.length:=by rw[a3,<-aN nx];exact M.many_le
 have f9:=s7.get l8;have h0:=s7.get γ;have l3:=s7.get l4;have n5:=n6.trans s7;clear l8 γ l4 e6;lia;intro D8 k6;refine aJ (xs:=a0.map nat) (λj ys H'=>Cs (λj ys=>ys=((a0.map λi=>M.ow (Y.getD i 0) S).take j).map nat) H7 D8 j ys H') (Cs.zero k6 rfl) (λj ys H' _ c=>SqL.of (c.same.get e7)) (λj v ys H8 hv c=>?_) (λys H8 c=>?_)
 ·obtain⟨y,hy,rfl⟩:=ay hv;have hj:=(bA.mp hy).1;have a4:=c1 y (dt hy);have f8:=c.same.get f9;have gy:atI (Y.map nat) (y:Int)=a' (nat (Y.getD y 0)):=fQ (by rw[hH,M.getD_at' (d:=0) a4];rfl);lia;refine⟨D5,Y.getD y 0,S,rfl,c.same.get h0,@A,eP (bY _ (M.getD_mem a4)) pw,λH9 s9=>?_⟩;refine Cs.put k6 (c.same.trans s9) (s9.get c.at') c.len @A ?_;rw[c.pv,take_succ (show(a0.map λi=>M.ow (Y.getD i 0) S)[j]? =a' (M.ow (Y.getD y 0) S) by rw[hH,hy];rfl),ee];rfl
 obtain⟨Z,eZ⟩:∃Z,Z=M.sen (prs nx) (prs os) m:=⟨_,rfl⟩;have e8:=c.at';rw[c.pv,bx,<-bx (as:=a0) (f:=λi=>M.ow (Y.getD i 0) S),mc] at e8
 have e8:H8 D8=a' (.lst (Z.map nat)):=by
  rw[e8,eZ,a3,eY,eS];unfold M.sen M.lkL;rw[WT (l:=M.lkp _ _ _) (g:=λx=>M.ow x _)];rfl
 have lZ:Z.length=a0.length:=by rw[eZ,a3,M.sen_len]
 have bZ:∀x∈Z,x < 2 ^ 1000:=λx hx=>by
  rw[eZ] at hx;obtain⟨y,_,rfl⟩:=ic.mp hx;exact eP (M.ow_lt _ _) (gB @C (by rw[<-eS];omega))
 have θ:=n5.trans c.same;have f8:=c.same.get f9;have g4:=c.same.get h0;have ψ:=c.same.get l3;have f6:=c.same.get e7;clear c f9 h0 l3 e7;have eA:(nx.map λq=>q.2.1)=(prs nx).map (·.1):=by rw[WT];rfl
 have eB:(nx.map λq=>q.2.2)=(prs nx).map (·.2):=by rw[WT];rfl
 have ξ:∀y,M.sm ((prs nx).map (·.1)) y < 2 ^ nx.length:=λy=>by have:=M.sm_lt y a6.A;rwa [aN] at this
 have ν:∀y,M.sm ((prs nx).map (·.2)) y < 2 ^ m:=λy=>M.sm_lt y λx hx=>by
  obtain⟨q,hq,rfl⟩:=ic.mp hx;obtain⟨r,hr,rfl⟩:=ic.mp hq;exact(g.bn r (qb _ hr)).2
 lia;intro D9 k4;refine aJ (xs:=a0.map nat) (λj ys H'=>Cp (λqs=>∀(j:Nat) (q:Pr3),qs[j]? =a' q->q.2.1 < 2 ^ a0.length/\M.sm Z q.2.1=M.ow (M.sm ((prs nx).map (·.1)) (Y.getD (a0.getD j 0) 0)) S/\q.2.2=M.sm ((prs nx).map (·.2)) (Y.getD (a0.getD j 0) 0)) H8 D9 j ys H') (E5 k4 λj q h=>by simp at h) (λj ys H' _ ⟨_,_,_,_,_,s',_⟩=>SqL.of (s'.get f6)) (λj v ys H9 hv c=>?_) (λys H9 c=>?_)
 ·obtain⟨y,hy,rfl⟩:=ay hv;obtain⟨qs,rfl,lq,pv,pt,s9,r1⟩:=c;have hj:=(bA.mp hy).1;have a4:=c1 y (dt hy);have d9:=M.getD_mem a4;have s6:=s9.get f8;have a7:=θ.trans s9;have gy:atI (Y.map nat) (y:Int)=a' (nat (Y.getD y 0)):=fQ (by rw[hH,M.getD_at' (d:=0) a4];rfl);lia;refine cD (a7.get ho) rfl ?_;lia;refine⟨p,m,nx,os,nat (Y.getD y 0),"int",rfl,ma.same a7,g,rfl,λa1 ea ha n3 t5 d4 m7=>?_,λn2=>?_⟩
  ·have ea:=dZ ea;subst ea;rw[eA,eB] at m7;lia;refine⟨n3,D5,D8,_,_,S,Z,rfl,m7,d4.get (s9.get g4),d4.get (s9.get e8),@A,@A,bZ,eP (ξ _) pw,?_,λd1 φ qq q4 d3 υ sd=>?_⟩
   ·rw[eZ,eS];rw[eY] at d9;exact M.span_sen (a6.back (by rw[eY];exact d9))
   ·refine LQ k4 lq pt s9 r1 (d4.trans d3) υ @A λk q hk=>?_;by_cases f3:k < qs.length
    ·rw[mu f3] at hk;exact pv k q hk
    ·rw[ov @A] at hk
     have hz:k - qs.length=0:=by
      cases e:k - qs.length with
      | zero=>rfl
      | succ m=>rw[e] at hk;simp at hk
     rw[hz] at hk;have hk:q=(d1,qq,M.sm ((prs nx).map (·.2)) (Y.getD y 0)):=(WB hk).symm;have f0:k=j:=by omega
     have a8:a0.getD k 0=y:=by rw[f0,bB,hy];rfl
     rw[hk,a8];exact⟨by have:=sd.lt;rwa [lZ] at this,sd.sm,rfl⟩
  ·rw[bK (bY _ d9)] at n2;cases n2
 obtain⟨c4,rfl,d7,i3,h5,s9,e9⟩:=c;rw[bx] at d7;have a7:=θ.trans s9;have m3:=s9.get g4;have l7:=s9.get e8;have l2:=s9.get ψ;have l0:=s9.get f6;clear f8 g4 e8 ψ f6;lia;refine aF (a7.get ho) T.au T.dw rfl ?_;have q1:=a7.get q2;lia;intro DA j4;refine tz (xs:=refs os) (λj ys H'=>Cp (λqs=>∀(j:Nat) (q:Pr3),qs[j]? =a' q->q.2.1 < 2 ^ a0.length/\M.sm Z q.2.1=M.ow ((prs os).getD j (0,0)).1 S/\q.2.2=((prs os).getD j (0,0)).2) H9 DA j ys H') (E5 j4 λj q h=>by simp at h) (λj ys H' _ ⟨_,_,_,_,_,s',_⟩=>SqT.of (s'.get q1)) (λj v ys HA hv c=>?_) (λys HA c=>?_)
 ·obtain⟨pr,e0,rfl⟩:=ay hv;obtain⟨qs,rfl,lq,pv,pt,β,r0⟩:=c;have hj:=(bA.mp e0).1;have hm:=dt e0;have b3:=a7.trans β;have j3:(prs os)[j]? =a' pr.2:=JZ e0;lia;refine⟨pr.1,D5,D8,pr.2.1,pr.2.2,S,Z,rfl,b3.get (ma.hs pr hm),β.get m3,β.get l7,@A,@A,bZ,eP (g.bn pr (lA _ hm)).1 pw,?_,λd1 φ qq q4 d3 υ sd=>?_⟩
  ·rw[eZ,eS];exact M.span_sen (a6.out (ic.mpr ⟨pr.2,dt j3,rfl⟩))
  ·refine LQ j4 lq pt β r0 d3 υ @A λk q hk=>?_;by_cases f3:k < qs.length
   ·rw[mu f3] at hk;exact pv k q hk
   ·rw[ov @A] at hk
    have hz:k - qs.length=0:=by
     cases e:k - qs.length with
     | zero=>rfl
     | succ m=>rw[e] at hk;simp at hk
    rw[hz] at hk;have hk:q=(d1,qq,pr.2.2):=(WB hk).symm;have f0:k=j:=by omega
    have a8:(prs os).getD k (0,0)=pr.2:=by rw[f0,bB,j3];rfl
    rw[hk,a8];exact⟨by have:=sd.lt;rwa [lZ] at this,sd.sm,rfl⟩
 obtain⟨c3,rfl,i4,h6,o3,β,δ⟩:=c;rw[hZ] at i4;have b3:=a7.trans β;have l1:=β.get l2;have k9:=β.get l0;have m5:=β.get e9;have h4:=h5.same β;clear m3 l7 l2 l0 e9 h5;lia;intro DB f5;refine aJ (xs:=τ.map nat) (λj ys H'=>Co (λj=> .lst ((M.upk m (2 ^ τ.getD j 0) nx.length).map nat)) HA DB j ys H') (rO f5) (λj ys H' _ ⟨_,_,_,_,_,s',_⟩=>SqL.of (s'.get l1)) (λj v ys η hv c=>?_) (λys η c=>?_)
 ·obtain⟨y,hy,rfl⟩:=ay hv;have c':=c;obtain⟨qs,q5,lq,pa,pf,sB,t3⟩:=c';have hj:=(bA.mp hy).1;have a4:=d0 y (dt hy);have ε:=b3.trans sB;lia;intro Dq ρ fC sC eC;have d6:=ε.trans sC;lia;refine aI (d6.get ho) rfl ?_;lia;refine⟨p,m,nx,os,rfl,ma.same d6,?_⟩;lia;refine⟨p,Dq,m,nx,os,2 ^ y,_,rfl,ma.same d6,g,by rw[T3 (show y < 1000 by omega)];exact eC,WV @C @A,@A,λD2 r4 χ d2 c0=>?_⟩;refine yc f5 c (sC.trans d2) (sC.free χ) ?_ @A;rw[c0];have a8:τ.getD j 0=y:=by rw[bB,hy];rfl
  rw[a8]
 obtain⟨ds,rfl,j2,ζ,q3,sB,m4⟩:=c;rw[bx] at j2;have ε:=b3.trans sB
 have tabB:Tab η D9 DA m c4 c3:=⟨m6,sB.get m5,sB.get δ,h4.same sB,o3.same sB,@A,@A,λq hq=>by
  rw[d7];rcases hB.mp hq with h | h
  ·obtain⟨j,hj,ej⟩:=Xe.mp h;have:=i3 j q (by rw[cn hj,ej]);exact⟨this.1,by rw[this.2.2];exact ν _⟩
  ·obtain⟨j,hj,ej⟩:=Xe.mp h;have:=h6 j q (by rw[cn hj,ej]);refine⟨this.1,?_⟩;rw[this.2.2,bB];cases e:(prs os)[j]? with
   | none=>exact W3 m
   | some r=>
     obtain⟨r',q0,rfl⟩:=ic.mp (dt e);exact(g.bn r' (lA _ q0)).2⟩
 have q7:=sB.get k9;clear k9 l1 m5 δ;lia;refine aF (ε.get ho) T.au T.aX rfl ?_;lia;intro x r2 ρ fC sC eC;refine⟨x,r2,D9,DA,m,c4,c3,rfl,eC,tabB.same sC,λHD kD p0=>⟨rfl,?_⟩⟩;have ω:Same η HD:=λb ob e=>kD _ _ (ao e fC) (sC.get e);have q6:=ω.get q7;have d5:=ε.trans ω;lia;intro DE b6;refine aJ (xs:=a0.map nat) (λj ys H'=>Co (λj=> .tup [nat (a0.getD j 0 / os.length),nat (a0.getD j 0 % os.length)]) HD DE j ys H') (rO b6) (λj ys H' _ ⟨_,_,_,_,_,s',_⟩=>SqL.of (s'.get q6)) (λj v ys HE hv c=>?_) (λys HE c=>?_)
 ·obtain⟨y,hy,rfl⟩:=ay hv;have c':=c;obtain⟨qs,q5,lq,pa,pf,sE,t1⟩:=c';have hj:=(bA.mp hy).1;have a4:=c1 y (dt hy);have c2:=d5.trans sE;have s3:0 < os.length:=Nat.pos_of_ne_zero λz=>by rw[lY,z,Nat.mul_zero] at a4;omega
  lia;refine aI (c2.get ho) rfl ?_;lia;refine⟨p,m,nx,os,rfl,ma.same c2,?_⟩;lia;refine Ts @A @A λt2 r4 χ d2 c0=>?_;refine yc b6 c d2 χ ?_ @A;have a8:a0.getD j 0=y:=by rw[bB,hy];rfl
  rw[c0,a8];rfl
 obtain⟨es,rfl,j1,r3,s5,sE,q9⟩:=c;rw[bx] at j1;have c2:=d5.trans sE;have n4:=ω.trans sE;lia;intro t HF fF sF eF;have h3:=n4.trans sF;have gl:∀(l:C') (j k:Nat),l[j]? =a' k->l.getD j 0=k:=λl j k h=>by rw[bB,h];rfl
 refine q t x DB DE ds es HF c4 c3 (c2.trans sF) eF ((p0.same sE).same sF) ⟨m6,by omega,by omega,tabB.bn⟩ ?_ ⟨h3.get m4,sF.get q9,by rw[j2,a5],by rw[j1,a3],λj d k h1 h2=>?_,λj d k h1 h2=>?_⟩ (b3.free f5) (d5.free b6) ?_ λd hd=>?_
 ·refine⟨by rw[aN,d7,a3],by rw[aN,aN,i4],λj q hq=>?_,λj q hq=>?_⟩
  ·rw[hH] at hq;cases e:c4[j]? with
   | none=>rw[e] at hq;cases hq
   | some r=>
     rw[e] at hq;have hq:=WB hq;have hj:=(bA.mp e).1;have h:=i3 j r e
     have hL:(M.lkL (prs nx) (prs os) m).getD j 0=Y.getD (a0.getD j 0) 0:=by
      unfold M.lkL;rw[<-eY,<-a3,bB,hH,M.getD_at' (d:=0) (show j < a0.length by omega)];rfl
     rw[<-hq,hL,<-a3,<-eZ,<-eS];exact h
  ·rw[hH] at hq;cases e:c3[j]? with
   | none=>rw[e] at hq;cases hq
   | some r=>
     rw[e] at hq;have hq:=WB hq;have h:=h6 j r e;rw[<-hq,<-a3,<-eZ,<-eS];exact h
 ·rw[<-a5] at h2;rw[<-gl _ _ _ h2];exact h3.get (ζ j d h1)
 ·rw[<-a3] at h2;rw[<-gl _ _ _ h2];exact sF.get (r3 j d h1)
 ·exactλz=>by rw[<-z,ω.get m4] at b6;cases b6
 ·have h:=q3 d hd;refine⟨b3.free h.1,h.2,λz=>?_⟩;obtain⟨j,hj,ej⟩:=Xe.mp hd;have:=ω.get (ζ j d (by rw[cn hj,ej]));rw[z,b6] at this;cases this
section
local macro_rules | `(tactic| walk_at "l2step") =>`(tactic| first | (with_reducible refine Te ?_))
theorem lj (T:Tx K mg a):FnOk P w K mg base CX0 6 a.gO a.x8 ["one","other","pair","row"] (M8 a.aq):=by
 refine T.gR.1.okA oA λa8 A outer s H vs Q E ι h=>?_;obtain⟨p1,p2,m,Z,Y,α,η,x,r,rfl,γ,π,δ,q⟩:=h;obtain⟨a7,ψ,τ,χ,a5,a3⟩:=γ.a1.ho;obtain⟨a6,φ,ρ,ν,a4,a0⟩:=γ.a2.ho;have ο:=M.lo_lt Z.length x;have ε:=M.hi_lt π;have θ:=γ.l;have e6:(1:Int) * 2 ^ ((Z.length:Int).toNat) - 1=((2 ^ Z.length - 1:Nat):Int):=by rw[shl1];have:=W3 Z.length;omega
 have ek:M.tr2 (jnp Z α) x r=M.tr2 (prs Z) (M.lo Z.length x) r^^^(M.tr2 (prs α) (x>>>Z.length) r * 2 ^ Z.length):=by
  have:=γ.jo.tr' (x:=x) (r:=r) (by rw[aN,aN];exact π);rw[aN,ai6] at this;exact this
 have cp:CPow ((M.tr2 (prs α) (x>>>Z.length) r:Nat):Int) (Z.length:Int):=⟨@A,@A,by
  rw[af9];refine eP (M.tr2_lt _ _ _) (gB @C ?_);rw[aN];omega⟩
 refine⟨_,((ae (az (i:=4) oA.nd rfl @D (aZ (pv 0) T.au T.aU (aQ T) (ι.mono @C) T.aL.2 .nil bJ))
  (ae (az (i:=5) oA.nd rfl @D (aE ko (pv 2) (aE lh (aE gZ ah (pv 4)) ah)))
  (ai (aD (aE jB (!A @I (dj (pv 0) T.au T.fi (dM T) (ι.mono @C) T.b0.2 .nil thr0 (!j 5 (!j 3 af))) ah) (aE gZ (!A @I (dj (pv 1) T.au T.fi (dM T) (ι.mono @C) T.b0.2 .nil thr0 (aa (aE oM (pv 2) (pv 4)) (!j 3 af))) ah) (pv 4)))))))),aw (σ':=[a' _,a' _,a' _,a' _,gn,gn]) rfl ?_⟩
 lia;refine aI χ rfl ?_;lia;refine⟨p1,m,Z,Y,rfl,γ.a1,?_⟩;lia;rw[e6,dh];lia;refine cD χ rfl ?_;lia;refine⟨p1,m,Z,Y,nat (M.lo Z.length x),nat r,"int","int",rfl,γ.a1,γ.g1,rfl,rfl,λa1 b1 ea β ha hb ξ H2 ζ e2=>?_,λbad=>?_⟩
 ·have ea:=dZ ea;have β:=dZ β;subst ea;subst β;lia;refine cD (ζ.get ν) rfl ?_;lia;rw[DS];refine⟨p2,m,α,η,nat (x>>>Z.length),nat r,"int","int",rfl,γ.a2.same ζ,γ.g2,rfl,rfl,λa1 b1 ea β ha hb υ H3 ω e3=>?_,λbad=>?_⟩
  ·have ea:=dZ ea;have β:=dZ β;subst ea;subst β;lia;rw[JB,cI,<-ek];exact q H3 (ζ.trans ω)
  ·rw[bK ε,bK δ] at bad;rcases bad with bad | bad<;>cases bad
 ·rw[bK ο,bK δ] at bad;rcases bad with bad | bad<;>cases bad
theorem wQ (T:Tx K mg a):FnOk P w K mg base CX0 8 a.dB a.qH ["one","other"] (QD a.aq):=by
 refine T.i6.1.okA cS λe8 A outer s H vs Q E hr h=>?_;obtain⟨p1,p2,m,δ,Y,ο,π,rfl,γ,q1,q2⟩:=h;obtain⟨e7,d9,d7,χ,e4,e2⟩:=γ.a1.ho;obtain⟨e6,d8,d6,c3,e3,e0⟩:=γ.a2.ho;have θ:=γ.l;have m6:=γ.g1.m6;obtain⟨β,c5⟩:∃β,β=δ.length + ο.length + 1:=⟨_,rfl⟩;have eT:(δ.length:Int) + (ο.length:Int) + 1=(β:Int):=by omega
 refine⟨_,((ae (az (i:=2) cS.nd rfl @D (aE h9 (aE h9 (aZ (pv 0) T.au T.aU (aQ T) (hr.mono @C) T.aL.2 .nil bJ) (aZ (pv 1) T.au T.aU (aQ T) (hr.mono @C) T.aL.2 .nil bJ)) ah))
  (ae (az (i:=3) cS.nd rfl @D (BO rfl @F @F T.g5 T.fo (aH (K:=K) rfl (pv 0) rfl)))
  (ae (bU (osc:=ag gC) (ON:=n27) (N:=["which","one","turns"]) (n:=1) (fx:=[0,2]) (i:=4) cS.nd rfl rfl rfl rfl rfl rfl @H (aK (K:=K) rfl (pv 3)) (aA @C) (!C (ar (i:=0) (show kv (["which","one","turns"]:B') from by decide +kernel) rfl @D) (dj (pv 1) T.au T.nT (mF T) (hr.mono @C) T.di.2 .nil thr0 (!j 0 (!j 2 af)))))
  (ae (bU (osc:=ag gC) (ON:=n27) (N:=["which","other","turns"]) (n:=1) (fx:=[1,2]) (i:=5) cS.nd rfl rfl rfl rfl rfl rfl @H (aK (K:=K) rfl (pv 3)) (aA @C) (!C (ar (i:=0) (show kv (["which","other","turns"]:B') from by decide +kernel) rfl @D) (dj (pv 1) T.au T.nT (mF T) (hr.mono @C) T.di.2 .nil thr0 (!j 0 (!j 2 af)))))
  (ae (fG W5 rfl (cE @F T.fo (!j 2 af)) (ar (i:=6) cS.nd rfl @D) (ai (fG W5 rfl (aK (K:=K) rfl (pv 3)) (ar (i:=7) cS.nd rfl @D) (ai (du (aM wL (!A (bu (K:=K) rfl) (!A (bu (K:=K) rfl) (pv 4) (pv 7)) (pv 6)) (!A (bu (K:=K) rfl) (!A (bu (K:=K) rfl) (pv 5) (pv 7)) (pv 6)) (aW _)) (ai (aD (cL (aa bI (!j 7 (!j 6 af)))))) bg)))))
  (ai (aD Pi)))))))),aw (σ':=[a' _,a' _,gn,gn,gn,gn,gn,gn]) rfl ?_⟩
 lia;refine aI χ rfl ?_;lia;refine⟨p1,m,δ,Y,rfl,γ.a1,?_⟩;lia;refine aI c3 rfl ?_;lia;refine⟨p2,m,ο,π,rfl,γ.a2,?_⟩;lia;rw[eT];refine aF χ T.au T.aX rfl ?_;lia;refine⟨m,rfl,@A,λD H1 f1 s1 e1=>?_⟩;have e1:H1 D=a' (.lst ((lx m).map nat)):=e1;lia;intro D1 b3;refine aJ (xs:=(lx m).map nat) (λj ys H'=>Co (λj=> .lst ((M.wan (prs δ) (prs Y) 0 (M.pulse j β)).map nat)) H1 D1 j ys H') (rO b3) (λj ys H' _ ⟨_,_,_,_,_,s',_⟩=>SqL.of (s'.get e1)) (λj v ys HB hv c=>?_) (λys H2 c=>?_)
 ·obtain⟨w',Z,rfl⟩:=ay hv;have hj:=(bA.mp Z).1;rw[W7] at hj;rw[Xu hj] at Z;cases Z;have c':=c;obtain⟨_,_,_,_,_,sB,_⟩:=c';have ε:=s1.trans sB;lia;refine cD (ε.get χ) rfl ?_;lia;refine⟨p1,m,δ,Y,nat j,"int",β,rfl,γ.a1.same ε,γ.g1,rfl,@A,λi ι hi Dn H9 f9 s9 e9=>?_,fun ρ=>?_⟩
  ·have ι:=dZ ι;subst ι;exact yc b3 c s9 f9 e9 @A
  ·unfold idxB at ρ;simp at ρ;omega
 obtain⟨a4,rfl,c4,a1,d3,υ,b6⟩:=c;rw[bx,W7] at c4;have a6:=s1.trans υ;have c0:=υ.get e1;lia;intro τ a8;refine aJ (xs:=(lx m).map nat) (λj ys H'=>Co (λj=> .lst ((M.wan (prs ο) (prs π) 0 (M.pulse j β)).map nat)) H2 τ j ys H') (rO a8) (λj ys H' _ ⟨_,_,_,_,_,s',_⟩=>SqL.of (s'.get c0)) (λj v ys HB hv c=>?_) (λys H3 c=>?_)
 ·obtain⟨w',Z,rfl⟩:=ay hv;have hj:=(bA.mp Z).1;rw[W7] at hj;rw[Xu hj] at Z;cases Z;have c':=c;obtain⟨_,_,_,_,_,sB,_⟩:=c';have ε:=a6.trans sB;lia;refine cD (ε.get c3) rfl ?_;lia;refine⟨p2,m,ο,π,nat j,"int",β,rfl,γ.a2.same ε,γ.g2,rfl,@A,λi ι hi Dn H9 f9 s9 e9=>?_,fun ρ=>?_⟩
  ·have ι:=dZ ι;subst ι;exact yc a8 c s9 f9 e9 @A
  ·unfold idxB at ρ;simp at ρ;omega
 obtain⟨c1,rfl,ν,a2,d0,ζ,d4⟩:=c;rw[bx,W7] at ν;have c2:=a6.trans ζ;have d5:=ζ.get c0;have b6:=ζ.get b6;have a1:∀(j:Nat) d,a4[j]? =a' d->H3 d=a' (.lst ((M.wan (prs δ) (prs Y) 0 (M.pulse j β)).map nat)):=λj d h=>ζ.get (a1 j d h);clear c0 e1 s1 υ a6 d3 d0 b3 a8 f1;lia;refine o5 (λi σ H'=>∃v6 v7,σ=[a' (.ref p1),a' (.ref p2),a' (nat β),a' (.ref D),a' (.ref D1),a' (.ref τ),v6,v7]/\Same H3 H'/\M.Al (prs δ) (prs Y) (prs ο) (prs π) m i) ⟨gn,gn,rfl,Same.refl _,λt h=>hQ h @A⟩ ?_ ?_
 ·rintro i σ H' hi ⟨v6,v7,rfl,s',al⟩;have hi:i < β:=by omega
  have ι:(0:Int) + (i:Int)=(i:Int):=YK _;lia;rw[ι];refine jM (xs:=(lx m).map nat) (λj σ a5=>∃v7,σ=[a' (.ref p1),a' (.ref p2),a' (nat β),a' (.ref D),a' (.ref D1),a' (.ref τ),a' (nat i),v7]/\Same H3 a5/\∀w',w' < j->M.sgl (prs δ) (prs Y) w' i=M.sgl (prs ο) (prs π) w' i) ⟨v7,rfl,s',λw' h=>hQ h @A⟩ (λj σ a5 _ ⟨_,_,α,_⟩=>SqL.of (α.get d5)) ?_ ?_
  ·rintro j y σ a5 hy ⟨v7,rfl,α,a0⟩;obtain⟨w',Z,rfl⟩:=ay hy;have hj:=(bA.mp Z).1;rw[W7] at hj;rw[Xu hj] at Z;cases Z;have η:=cn (l:=a4) (i:=j) @A;have a7:=cn (l:=c1) (i:=j) @A;generalize a4[j]=d1 at η;generalize c1[j]=d2 at a7;have ω:=α.get b6;have ψ:=α.get d4;have e5:=α.get (a1 j d1 η);have φ:=α.get (a2 j d2 a7);have t1:atI (a4.map V.ref) (j:Int)=a' (.ref d1):=fQ (by rw[hH,η];rfl);have ξ:atI (c1.map V.ref) (j:Int)=a' (.ref d2):=fQ (by rw[hH,a7];rfl)
   have sg:∀(p o:A'),atI ((M.wan p o 0 (M.pulse j β)).map nat) (i:Int)=a' (nat (M.sgl p o j i)):=λp o=>fQ (by
    have hl:i < (M.wan p o 0 (M.pulse j β)).length:=by rw[M.wan_len,M.pulse_len];exact hi
    rw[hH,cn hl,<-M.pulse_sgl p o j hi,bB,cn hl];rfl)
   have t3:=sg (prs δ) (prs Y);have t4:=sg (prs ο) (prs π);lia;by_cases hs:M.sgl (prs δ) (prs Y) j i=M.sgl (prs ο) (prs π) j i
   ·refine gL (by rw[hs];simp) ?_;lia;refine⟨α,λw2 h2=>?_⟩;by_cases a3:w2=j
    ·rw[a3];exact hs
    ·exact a0 w2 @A
   ·refine mY (by rw[as1,decide_eq_false_iff_not];intro e;exact hs (dZ e)) ?_;lia;intro tt H9 f9 s9 e9;exact q2 j i ⟨hj,by rw[aN,aN];omega,al,a0,hs⟩ tt H9 (c2.trans (α.trans s9)) e9
  ·rintro σ a5 ⟨v7,rfl,α,a0⟩;rw[bx,W7] at a0;lia;refine⟨_,_,rfl,α,λt ht w2 a3=>?_⟩;by_cases h:t=i
   ·rw[h];exact a0 w2 a3
   ·exact al t @A w2 a3
 ·rintro σ H' ⟨v6,v7,rfl,s',al⟩;rw[wq,c5] at al;lia;exact q1 al H' (c2.trans s')
theorem vf (T:Tx K mg a):FnOk P w K mg base CX0 8 a.c7 a.pd ["one","other"] (SV a.aq):=by
 refine T.ip.1.okA eQ λd2 A outer s H vs Q E hr h=>?_;obtain⟨p1,p2,m,δ,Y,Z,ξ,rfl,γ,q⟩:=h;obtain⟨d1,a8,a6,χ,c3,c1⟩:=γ.a1.ho;obtain⟨d0,a7,a5,a4,c2,c0⟩:=γ.a2.ho;have ll:=γ.l;have m6:=γ.g1.m6;obtain⟨β,τ⟩:∃β,β=δ.length + Z.length:=⟨_,rfl⟩;have eT:(δ.length:Int) + (Z.length:Int)=(β:Int):=by omega
 have lJ:(jnp δ Z).length=β:=by rw[KU,τ]
 have l0:=M.sg0_len (jnp δ Z) m
 refine⟨_,((ae (bU (osc:=ag dI) (ON:=n23) (N:=["which","one","other"]) (n:=1) (fx:=[0,1]) (i:=2) eQ.nd rfl rfl rfl rfl rfl rfl @H (cE @F T.fo (aa (aH (K:=K) rfl (pv 0) rfl) af)) (aA @C) (!C (ar (i:=0) (show kv (["which","one","other"]:B') from by decide +kernel) rfl @D) (aj (lj T) hr T.ny T.gR (!j 1 (!j 2 (aa ah (aa (aE gZ ah (pv 0)) af)))))))
  (ae (az (i:=3) eQ.nd rfl @D (dJ af))
  (ae (fG W5 rfl (cE @F T.fo (aa (aE h9 (aZ (pv 0) T.au T.aU (aQ T) (hr.mono @C) T.aL.2 .nil bJ) (aZ (pv 1) T.au T.aU (aQ T) (hr.mono @C) T.aL.2 .nil bJ)) af)) (ar (i:=4) eQ.nd rfl @D) (ae (bL (gY (K:=K) rfl WC Xs Xq ja (pv 3) (!j 2 af)))
  (ai (bU (osc:=ag dI) (ON:=n23) (N:=["pair","one","other"]) (n:=1) (fx:=[0,1]) (i:=2) eQ.nd rfl rfl rfl rfl rfl rfl @H (aK (K:=K) rfl (pv 2)) (aA @C) (!C (ar (i:=0) (show kv (["pair","one","other"]:B') from by decide +kernel) rfl @D) (aj (lj T) hr T.ny T.gR (!j 1 (!j 2 (!j 0 (aa ah af))))))))))
  (ai (aD (bC (osc:=ag dI) (ON:=n23) (N:=["place","told"]) (n:=1) (fx:=[3]) rfl rfl rfl @H (aK (K:=K) rfl (aj (Eu T) hr T.Lf T.zX (!j 3 af))) (aA @C) (!C (ar (i:=0) (show kv (["place","told"]:B') from by decide +kernel) rfl @D) (!A (bu (K:=K) rfl) (pv 1) (pv 0)))))))))),aw (σ':=[a' _,a' _,gn,gn,gn]) rfl ?_⟩
 lia;refine aF χ T.au T.aX rfl ?_;lia;rw[wq];intro D hD;refine df (λi ys H'=>Cs (λi ys=>ys=((lx i).map λw=>M.tr2 (jnp δ Z) 0 (2 ^ w)).map nat) H D i ys H') (Cs.zero hD rfl) (λi ys H' hi c=>?_) (λys H1 c=>?_)
 ·lia;rw[YK,shl1];refine⟨p1,p2,m,δ,Y,Z,ξ,0,2 ^ i,rfl,γ.same c.same,W3 _,WV @C hi,λH6 s6=>?_⟩;refine Cs.put hD (c.same.trans s6) (s6.get c.at') c.len @A ?_;rw[c.pv,XR,ee,ee];rfl
 have e1:=c.at';rw[c.pv] at e1;have e1:H1 D=a' (.lst ((M.stj (jnp δ Z) (M.sg0 (jnp δ Z) m) 0).map nat)):=e1;have s1:=c.same;clear c;lia;intro D0 H2 f2 s2 e2;have ε:=s1.trans s2;lia;refine aI (ε.get χ) rfl ?_;lia;refine⟨p1,m,δ,Y,rfl,γ.a1.same ε,?_⟩;lia;refine aI (ε.get a4) rfl ?_;lia;refine⟨p2,m,Z,ξ,rfl,γ.a2.same ε,?_⟩;lia;rw[eT];have f0:H D0=none:=s1.free f2;refine o5 (λi σ H'=>∃(v:WG V) (Dm:eO),σ=[a' (.ref p1),a' (.ref p2),a' (.ref Dm),a' (.ref D0),v]/\Same H H'/\H' Dm=a' (.lst ((M.stj (jnp δ Z) (M.sg0 (jnp δ Z) m) i).map nat))/\H' D0=a' (.lst ((M.rcf (jnp δ Z) m i).map nat))/\Dm≠D0) ⟨gn,D,rfl,ε,s2.get e1,e2,λz=>by rw[<-z,e1] at f2;cases f2⟩ ?_ ?_
 ·rintro i σ H' hi ⟨v,Dm,rfl,s',em,et,π⟩;have hi:i < β:=by omega
  have lr:=M.rcf_len (jnp δ Z) m i;have θ:(M.stj (jnp δ Z) (M.sg0 (jnp δ Z) m) i).length=m:=by rw[M.stj_len,l0]
  have b6:i * m<=60 * 6:=Zv @A m6;lia;refine jF et em (by rw[bx,bx,lr,θ];exact YA (aR @A)) π.symm λH5 u5=>?_;have ν:=u5.same f0 s';have ω:=u5.oth _ _ π em;have ζ:=u5.at';rw[<-ee] at ζ;have ζ:H5 D0=a' (.lst ((M.rcf (jnp δ Z) m (i + 1)).map nat)):=ζ;lia;intro D5 α;refine aJ (xs:=(M.stj (jnp δ Z) (M.sg0 (jnp δ Z) m) i).map nat) (λj ys H'=>Cs (λj ys=>ys=(((M.stj (jnp δ Z) (M.sg0 (jnp δ Z) m) i).take j).map λx=>M.tr2 (jnp δ Z) x 0).map nat) H5 D5 j ys H') (Cs.zero α rfl) (λj ys H' _ c=>SqL.of (c.same.get ω)) (λj v ys H6 hv c=>?_) (λys H6 c=>?_)
  ·obtain⟨y,ρ,rfl⟩:=ay hv;have hj:=(bA.mp ρ).1;have a0:=M.stj_lt (jnp δ Z) m i y (dt ρ);rw[lJ,τ] at a0;lia;refine⟨p1,p2,m,δ,Y,Z,ξ,y,0,rfl,γ.same (ν.trans c.same),a0,W3 _,fun ψ φ=>?_⟩;refine Cs.put α (c.same.trans φ) (φ.get c.at') c.len @A ?_;rw[c.pv,take_succ ρ,ee,ee];rfl
  have e6:=c.at';rw[c.pv,bx,mc] at e6;have s6:=c.same;clear c;lia;exact⟨_,D5,rfl,ν.trans s6,e6,s6.get ζ,λz=>by rw[z,ζ] at α;cases α⟩
 ·rintro σ H' ⟨v,Dm,rfl,s',em,et,π⟩;rw[wq] at et;have lr:=M.rcf_len (jnp δ Z) m β;have b6:β * m<=60 * 6:=Zv @A m6;obtain⟨rows,ο⟩:∃rows,rows=M.rcf (jnp δ Z) m β:=⟨_,rfl⟩;rw[<-ο] at et lr;lia;refine⟨D0,rows,rfl,et,@A,λB ψ η φ e7=>?_⟩;have ι:=φ.get et;lia;intro D8 υ;refine aJ (xs:=(M.fr rows).map nat) (λj ys H'=>Cs (λj ys=>ys=(((M.fr rows).take j).map λi=>rows.getD i 0).map nat) ψ D8 j ys H') (Cs.zero υ rfl) (λj ys H' _ c=>SqL.of (c.same.get e7)) (λj v ys H8 hv c=>?_) (λys H8 c=>?_)
  ·obtain⟨y,ρ,rfl⟩:=ay hv;have hj:=(bA.mp ρ).1;have a3:=M.fr_lt y (dt ρ);have c5:=c.same.get ι;have c4:atI (rows.map nat) (y:Int)=a' (nat (rows.getD y 0)):=fQ (by rw[hH,bB,cn a3];rfl);have b3:=M.fr_len rows;lia;refine Cs.put υ c.same c.at' c.len @A ?_;rw[c.pv,take_succ ρ,ee,ee];rfl
  have e8:=c.at';rw[c.pv,bx,mc] at e8;refine q D8 H8 ((s'.trans φ).free υ) ((s'.trans φ).trans c.same) ?_;unfold M.prs2 M.fR;rw[aN,aN,<-τ,<-ο];exact e8
theorem Et (T:Tx K mg a):FnOk P w K mg base CX0 10 a.iQ a.zQ ["one","other"] (S0 a.aq):=by
 refine T.qg.1.okA gK λh0 A outer s H vs Q E hr h=>?_;obtain⟨p1,p2,m,β,Y,δ,ω,rfl,γ,q1,q2⟩:=h;obtain⟨g4,e5,e3,χ,f4,f1⟩:=γ.a1.ho;obtain⟨g3,e4,e0,d0,f3,f0⟩:=γ.a2.ho;have θ:=γ.l;have d4:=γ.lo;have m6:=γ.g1.m6;obtain⟨Z,υ⟩:∃Z,Z=M.prs2 (prs β) (prs δ) m:=⟨_,rfl⟩;have e8:Z.length<=60:=by rw[υ];have:=M.prs2_few (prs β) (prs δ) m;rw[aN,aN] at this;omega
 have ν:∀x∈Z,x < 2 ^ (β.length + δ.length):=λx hx=>by
  rw[υ] at hx;have:=M.prs2_lt hx;rwa [aN,aN] at this
 have a0:∀x∈Z,x < 2 ^ 1000:=λx hx=>eP (ν x hx) (gB @C @A);have ι:∀x r,M.tr2 (jnp β δ) x r < 2 ^ 1000:=λx r=>eP (M.tr2_lt _ _ _) (gB @C (by rw[KU];omega))
 have a3:∀{x r:Nat},(x=0∨x∈Z)->r < 2 ^ m->M.Span Z (M.tr2 (jnp β δ) x r):=λhx d6=>by
  rw[υ] at hx ⊢;exact J0 (q:=0) hx d6
 have e6:(1:Int) * 2 ^ ((β.length:Int).toNat) - 1=((2 ^ β.length - 1:Nat):Int):=by rw[shl1];have:=W3 β.length;omega
 refine⟨_,((ae (du (PW.pt (og (aM wL (aH (K:=K) rfl (pv 0) rfl) (aH (K:=K) rfl (pv 1) rfl) (aW _)) (mx (aM wL (aZ (pv 0) T.au T.gb (fq T) (hr.mono @C) T.bW.2 .nil bJ) (aZ (pv 1) T.au T.gb (fq T) (hr.mono @C) T.bW.2 .nil bJ) (aW _))))) (ai jt) bg)
  (ae (az (i:=2) gK.nd rfl @D (aj (wQ T) hr T.zm T.i6 (!j 0 (!j 1 af))))
  (ae (du (aM Ri (pv 2) Pi (aW _)) (ai (aD (pv 2))) bg)
  (ae (az (i:=3) gK.nd rfl @D (aj (vf T) hr T.xR T.ip (!j 0 (!j 1 af))))
  (ae (bU (osc:=ag jY) (ON:=n24) (N:=["which","pairs","one","other"]) (n:=1) (fx:=[3,0,1]) (i:=4) gK.nd rfl rfl rfl rfl rfl rfl @H (cE @F T.fo (aa (aH (K:=K) rfl (pv 0) rfl) af)) (aA @C) (!C (ar (i:=0) (show kv (["which","pairs","one","other"]:B') from by decide +kernel) rfl @D) (!A @I (aj (jZ T) hr T.mI T.ik (!j 1 (aa (aj (lj T) hr T.ny T.gR (!j 2 (!j 3 (aa ah (aa (aE gZ ah (pv 0)) af))))) af))) ah)))
  (ae (bU (osc:=ag jY) (ON:=n24) (N:=["pair","pairs","one","other"]) (n:=1) (fx:=[3,0,1]) (i:=5) gK.nd rfl rfl rfl rfl rfl rfl @H (aK (K:=K) rfl (pv 3)) (aA @C) (!C (ar (i:=0) (show kv (["pair","pairs","one","other"]:B') from by decide +kernel) rfl @D) (!A @I (aj (jZ T) hr T.mI T.ik (!j 1 (aa (aj (lj T) hr T.ny T.gR (!j 2 (!j 3 (!j 0 (aa ah af))))) af))) ah)))
  (ae (az (i:=6) gK.nd rfl @D (aZ (pv 0) T.au T.aU (aQ T) (hr.mono @C) T.aL.2 .nil bJ))
  (ae (bU (osc:=ag jY) (ON:=n24) (N:=["pair","width"]) (n:=1) (fx:=[6]) (i:=7) gK.nd rfl rfl rfl rfl rfl rfl @H (aK (K:=K) rfl (pv 3)) (aA @C) (!C (ar (i:=0) (show kv (["pair","width"]:B') from by decide +kernel) rfl @D) (cL (aa (aE ko (pv 0) (aE lh (aE gZ ah (pv 1)) ah)) (aa (aE oM (pv 0) (pv 1)) af)))))
  (ai (aD (cL (aa bI (!j 7 (!j 4 (!j 5 af)))))))))))))))),aw (σ':=[a' _,a' _,gn,gn,gn,gn,gn,gn]) rfl ?_⟩
 lia;refine aF χ T.au T.aX rfl ?_;lia;refine aF d0 T.au T.aX rfl ?_;lia;dsimp only;rw[oT @E];lia;refine aI χ rfl ?_;lia;refine⟨p1,m,β,Y,rfl,γ.a1,?_⟩;lia;refine aI d0 rfl ?_;lia;refine⟨p2,m,δ,ω,rfl,γ.a2,?_⟩;lia;dsimp only;rw[oT (by rw[d4];simp)];lia;refine⟨p1,p2,m,β,Y,δ,ω,rfl,γ,λal H1 s1=>?_,λw' t' fu tt H1 s1 e1=>?_⟩
 ·lia;refine⟨p1,p2,m,β,Y,δ,ω,rfl,γ.same s1,λD H2 f2 s2 e2=>?_⟩;rw[<-υ] at e2;have a8:=s1.trans s2;lia;refine aF (a8.get χ) T.au T.aX rfl ?_;lia;rw[wq];intro D3 d2;refine df (λj ys H'=>Co (λj=> .lst ((M.pl 1000 (sfq Z (M.tr2 (jnp β δ) 0 (2 ^ j)))).map nat)) H2 D3 j ys H') (rO d2) (λi ys H' hi c=>?_) (λys H3 c=>?_)
  ·have c':=c;obtain⟨_,_,_,_,_,sB,_⟩:=c';have ε:=a8.trans sB;have c0:2 ^ i < 2 ^ m:=WV @C hi;lia;rw[YK,shl1];refine⟨p1,p2,m,β,Y,δ,ω,0,2 ^ i,rfl,γ.same ε,W3 _,c0,λH6 φ=>?_⟩;lia;refine⟨D,Z,_,rfl,φ.get (sB.get e2),@A,a0,ι _ _,.inl (a3 (.inl rfl) c0),λt7 D7 ψ qq η s7 e7 c1 sd=>?_,λt7 ψ mk s7 e7 bd=>hQ (a3 (.inl rfl) c0) bd.ns⟩;lia;exact yc d2 c (φ.trans s7) (φ.free η) (by rw[c1,O7 sd]) @A
  obtain⟨bs,rfl,d5,ξ,g0,ζ,ο⟩:=c;have a7:=a8.trans ζ;have c2:=ζ.get e2;lia;intro D4 d1;refine aJ (xs:=Z.map nat) (λj ys H'=>Co (λj=> .lst ((M.pl 1000 (sfq Z (M.tr2 (jnp β δ) (Z.getD j 0) 0))).map nat)) H3 D4 j ys H') (rO d1) (λj ys H' _ ⟨_,_,_,_,_,s',_⟩=>SqL.of (s'.get c2)) (λj v ys H' hv c=>?_) (λys H4 c=>?_)
  ·obtain⟨y,hy,rfl⟩:=ay hv;have hj:=(bA.mp hy).1;have b3:=dt hy;have b6:Z.getD j 0=y:=by rw[bB,hy];rfl
   have c':=c;obtain⟨_,_,_,_,_,sB,_⟩:=c';have ε:=a7.trans sB;lia;refine⟨p1,p2,m,β,Y,δ,ω,y,0,rfl,γ.same ε,ν y b3,W3 _,λH6 φ=>?_⟩;lia;refine⟨D,Z,_,rfl,φ.get (sB.get c2),@A,a0,ι _ _,.inl (a3 (.inr b3) (W3 _)),λt7 D7 ψ qq η s7 e7 c1 sd=>?_,λt7 ψ mk s7 e7 bd=>hQ (a3 (.inr b3) (W3 _)) bd.ns⟩;lia;exact yc d1 c (φ.trans s7) (φ.free η) (by rw[c1,O7 sd,b6]) @A
  obtain⟨us,rfl,c4,d9,f5,a6,d8⟩:=c;rw[bx] at c4;have c3:=a7.trans a6;have ρ:=a6.get c2;lia;refine aI (c3.get χ) rfl ?_;lia;refine⟨p1,m,β,Y,rfl,γ.a1.same c3,?_⟩;lia;intro D5 α;refine aJ (xs:=Z.map nat) (λj ys H'=>Co (λj=> .tup [nat (M.lo β.length (Z.getD j 0)),nat (Z.getD j 0>>>β.length)]) H4 D5 j ys H') (rO α) (λj ys H' _ ⟨_,_,_,_,_,s',_⟩=>SqL.of (s'.get ρ)) (λj v ys H' hv c=>?_) (λys H5 c=>?_)
  ·obtain⟨y,hy,rfl⟩:=ay hv;have hj:=(bA.mp hy).1;have b6:Z.getD j 0=y:=by rw[bB,hy];rfl
   lia;rw[e6,dh,DS];intro t9 H9 f9 s9 e9;exact yc α c s9 f9 (by rw[e9,b6];rfl) @A
  obtain⟨ts,rfl,c5,τ,f8,d3,d7⟩:=c;rw[bx] at c5;lia;intro tt H6 f6 φ π;have a4:=d3.trans φ;have a5:=a6.trans a4;subst υ;exact q1 al tt D5 D3 D4 ts bs us H6 (a7.trans a5) ⟨π,φ.get d7,c5,λj d h=>by rw[aN];exact φ.get (τ j d h),a5.get ο,d5,λj d h=>a5.get (ξ j d h),a4.get d8,c4,λj d h=>a4.get (d9 j d h)⟩
 ·lia;exact q2 w' t' fu tt H1 s1 e1
end
end
theorem mz (T:Tx K mg a):FnOk P w K mg base CX0 1 a.kN a.CL ["thing"] (Jr K):=by
 refine T.jd.1.okA GL fun δ A outer s H vs Q E ε h=>?_;obtain⟨x,k,rfl,hk,hz,q⟩:=h;have Y:=q H (Same.refl H)
 refine⟨_,((ae (du (PW.pt (og (h7 (gj (aP (kR (K:=K) rfl) @F T.fI Xn (!j 0 (aa (rp (v:= .ty "str") @F T.NW Z6 rfl) af))))) (og (aM kU (pv 0) bI (aW _)) (mx (aM rz (aP (be (K:=K) rfl) @F T.ia W8 (!j 0 af)) (jw (v:= .int 6) @F T.zo ⟨_,rfl⟩) (aW _)))))) (ai (aD yD)) bg)
  (ai (aD (wJ (nh BQ (!A UK (pv 0) ah) (jw (v:= .str "abcdefghijklmnopqrstuvwxyz") @F T.Lj ⟨_,rfl⟩) @F) (zC (aP (tD (K:=K) rfl rfl) @F T.NZ Z7 (aa (bC (osc:=ag rY) (ON:=["thing"]) (N:=["sign"]) (n:=1) (fx:=[]) rfl rfl rfl @H (T6 (pv 0)) (aA @C) (!C (ar (i:=0) (show kv (["sign"]:B') from by decide +kernel) rfl @D) (nh BQ (pv 0) (jw (v:= .str "abcdefghijklmnopqrstuvwxyz0123456789") @F T.Cn ⟨_,rfl⟩) @F))) af)))))))),aw (σ':=[a' _]) rfl ?_⟩
 lia;cases x with
 | int i=>have hk:k="int":=hk;subst hk;lia;exact Y
 | bl b=>have hk:k="bool":=hk;subst hk;lia;exact Y
 | non=>have hk:k="NoneType":=hk;subst hk;lia;exact Y
 | ref p=>rcases hk with ⟨rfl,_⟩ | ⟨rfl,_⟩ | ⟨rfl,_⟩<;>lia<;>exact Y
 | str z=>
   have hk:k="str":=hk;subst hk;have hz:=hz z rfl;have hs:z.length<=sizeLine:=YA (aR hz);have q:∀H',Same H H'->Q (.bl (nm z.cps.toList)) H':=q;have Y:=q H (Same.refl H);lia;by_cases h1:z=""
   ·rw[DK.mp h1] at Y;refine mY (by rw[hE];rw[h1]) ?_;lia;exact Y
   ·refine gL (by rw[f'];exactλz=>h1 (V.str.inj z)) ?_;lia
    obtain⟨c,r,Z⟩:∃c r,z.cps.toList=c::r:=by
     cases hl:z.cps.toList with
     | nil=>exact hQ (DK.mpr hl) h1
     | cons c r=>exact⟨c,r,rfl⟩
    have α:=pU z;rw[Z] at Y α;have q:∀H',Same H H'->Q (.bl (decide ((c::r).length<=6)&&low c&&(c::r).all λc=>low c||fig c)) H':=λH' s=>by have:=q H' s;rw[Z] at this;exact this
    by_cases h2:(6:Int) < z.length
    ·refine mY (hE h2) ?_;lia;have:=q H (Same.refl H);rw[f' (show ¬(c::r).length<=6 by omega)] at this;exact this
    ·refine gL (f' h2) ?_;rw[hE (show(c::r).length<=6 by omega)] at q;lia;refine VW hs (c:=c) (by rw[Z];exact fQ (j:=0) rfl) ?_;lia;rw[an8,memL];cases β:low c
     ·rw[β] at q;lia;exact q H (Same.refl H)
     ·rw[β] at q;lia;intro D f;refine Oz (Cs (λi ys=>ys=(((c::r).take i).map λc=>low c||fig c).map V.bl) H D) (Cs.zero f rfl) (λi d ys H' hd ⟨e,s,at',len⟩=>?_) (λys H' ⟨e,s,at',len⟩=>?_)
      ·have hi:i < z.cps.size:=(Ym.mp hd).1;have γ:(c::r)[i]? =a' d:=by rw[<-Z];simpa using hd
       lia;rw[an8,memN];refine Cs.put f s at' len (by have:z.cps.size=z.length:=rfl;omega) ?_;rw[e,ad2,γ,ee,ee];rfl
      ·have hsz:z.cps.size=(c::r).length:=α.symm;rw[hsz,mc] at e;refine BF (SqL.of (by rw[at',e])) ?_;have:=q H' s;rw[aw0];exact this
 | _=>exact Xo hk
theorem jx (T:Tx K mg a):FnOk P w K mg base CX0 1 a.cH a.dP ["self","name"] (Ni K):=by
 refine T.c8.1.okA va fun α A outer s H vs Q E β h=>?_;obtain⟨x,C,dx,nm,rfl,Z,hn,Y,q⟩:=h;refine⟨_,((ai (cW (K:=K) rfl (pv 0) (pv 1) rfl))),aw (σ':=[a' _,a' _]) rfl ?_⟩;lia;exact cV Y Z hn @C rfl q
theorem si (T:Tx K mg a):FnOk P w K mg base CX0 2 a.bG a.mL ["self","name","number"] (Nh a.bf):=by
 refine T.gi.1.okA rW fun β A outer s H vs Q E α h=>?_;obtain⟨x,dx,nm,k,rfl,Z,q⟩:=h
 refine⟨_,((ae (bL (wI @F T.Lg T.dP (jx T) (α.mono @C) T.c8.2 .nil bJ (!j 0 (!j 1 af))))
  (ai (cW (K:=K) rfl (pv 0) (pv 2) rfl)))),aw (σ':=[a' _,a' _,a' _]) rfl ?_⟩
 lia;refine⟨x,_,dx,nm,rfl,T.nN,T.su,Z,λH2 u=>?_⟩;lia;exact cV u.at' T.nN T.kA (by show 1 < 1000;decide) rfl fun γ Y=>q γ (u.trans Y)
theorem oN (T:Tx K mg a):FnOk P w K mg base CX0 2 a.bh a.jD ["self","name","wire","number"] (Ng a.aB):=by
 refine T.dF.1.okA oB fun γ A outer s H vs Q E β h=>?_;obtain⟨x,dx,nm,wr,k,rfl,α,q⟩:=h
 refine⟨_,((ae (bL (wI @F T.Lg T.dP (jx T) (β.mono @C) T.c8.2 .nil bJ (!j 0 (!j 1 af))))
  (ae (cW (K:=K) rfl (pv 0) (pv 2) rfl)
  (ai (cW (K:=K) rfl (pv 0) (pv 3) rfl))))),aw (σ':=[a' _,a' _,a' _,a' _]) rfl ?_⟩
 lia;refine⟨x,_,dx,nm,rfl,T.fX,T.nR,α,λH2 u=>?_⟩;lia;refine cV u.at' T.fX T.vn (by show 1 < 1000;decide) rfl fun ε Y=>?_;lia;exact cV Y.at' T.fX T.ib (by show 2 < 1000;decide) rfl fun δ Z=>q δ ((u.trans Y).trans Z)
theorem rB (T:Tx K mg a):FnOk P w K mg base CX0 2 a.bw a.lE ["self","name","wires"] (Jv K a.aT):=by
 refine T.fz.1.okA qY fun ε A outer s H vs Q E δ h=>?_;obtain⟨x,dx,nm,γ,ws,rfl,hw,Z,q⟩:=h;have Y:γ≠x:=cF hw Z λz=>by cases z
 refine⟨_,((ae (bL (wI @F T.Lg T.dP (jx T) (δ.mono @C) T.c8.2 .nil bJ (!j 0 (!j 1 af))))
  (ai (cW (K:=K) rfl (pv 0) (a9 (eM (K:=K) rfl) @F T.mj X4 (!j 2 af)) rfl)))),aw (σ':=[a' _,a' _,a' _]) rfl ?_⟩
 lia;refine⟨x,_,dx,nm,rfl,T.kT,T.qz,Z,λH2 u=>?_⟩;have β:=u.oth _ _ Y hw;lia;exact cV u.at' T.kT T.kz (by show 1 < 1000;decide) rfl fun ζ α=>q ζ (u.trans α)
theorem Az (T:Tx K mg a):FnOk P w K mg base CX0 1 a.dm a.uW ["self","known","row","state"] (QK a.bf):=by
 refine T.jf.1.okA Ae λZ A outer s H vs Q E β h=>?_;obtain⟨p,dx,nm,k,α,row,st,rfl,Y,θ,q⟩:=h;refine⟨_,((ai (aD (aE ko (aE oM (pv 2) (aH (K:=K) rfl (pv 0) rfl)) ah)))),aw (σ':=[a' _,a' _,a' _,a' _]) rfl ?_⟩;lia;refine aF Y T.nN T.kA rfl ?_;lia;exact q
theorem vg (T:Tx K mg a):FnOk P w K mg base CX0 1 a.b5 a.pe ["self","known","row","state"] (QI a.aB):=by
 refine T.fV.1.okA vb λZ A outer s H vs Q E β h=>?_;obtain⟨p,dx,nm,wr,k,α,row,st,rfl,Y,θ,q⟩:=h;refine⟨_,((ai (aD (aE ko (aE oM (pv 3) (aH (K:=K) rfl (pv 0) rfl)) ah)))),aw (σ':=[a' _,a' _,a' _,a' _]) rfl ?_⟩;lia;refine aF Y T.fX T.ib rfl ?_;lia;exact q
theorem yK (T:Tx K mg a):FnOk P w K mg base CX0 1 a.cN a.sY ["self","known","row","state"] (QJ K a.aT):=by
 refine T.ir.1.okA iZ fun β A outer s H vs Q E Z h=>?_;obtain⟨p,dx,nm,γ,d,ws,kvs,f,row,st,rfl,α,ht,hd,hf,q⟩:=h;have ρ:=sM Z
 refine⟨_,((ae (az (i:=4) iZ.nd rfl @D ah)
  (ae (fG W5 rfl (kl (K:=K) rfl (aH (K:=K) rfl (pv 0) rfl)) (ar (i:=5) iZ.nd rfl @D) (ai (az (i:=4) iZ.nd rfl @D (aE jB (pv 4) (oJ ρ (pv 1) (pv 5) (λ_ _=>rfl))))))
  (ai (aD (pv 4)))))),aw (σ':=[a' _,a' _,a' _,a' _,gn,gn]) rfl ?_⟩
 lia;refine aF α T.kT T.kz rfl ?_;lia;refine uG (λi σ H2=>∃v,σ=[a' (.ref p),a' (.ref d),a' (.int row),a' (.int st),a' (.int (((ws.take i).map f).foldl Xb 0)),v]/\H2=H) ⟨gn,rfl,rfl⟩ (λi σ H2 _ ⟨v,_,e⟩=>by rw[e];exact ht) ?_ ?_
 ·rintro i x σ H2 Y ⟨v,rfl,rfl⟩;obtain⟨z,hz,rfl⟩:=ay Y;lia;refine tZ hd (hf z (dt hz)) ?_;lia;exact⟨_,by rw[xT hz],rfl⟩
 ·rintro σ H2 ⟨v,rfl,rfl⟩;lia;rw[bx,mc];exact q
theorem yL (T:Tx K mg a):FnOk P w K mg base CX0 1 a.cP a.tf ["self","known"] (Nn a.bf):=by
 refine T.iw.1.okA yB λZ A outer s H vs Q E β h=>?_;obtain⟨p,dx,nm,k,α,rfl,Y,θ,h1,q⟩:=h;refine⟨_,((ai (aD (cL (aa ah (aa (aE gZ ah (aH (K:=K) rfl (pv 0) rfl)) af)))))),aw (σ':=[a' _,a' _]) rfl ?_⟩;lia;refine aF Y T.nN T.kA rfl ?_;lia;exactλt H2 _ s e=>q t H2 s e
theorem ud (T:Tx K mg a):FnOk P w K mg base CX0 1 a.bN a.nU ["self","known"] (Nk a.aB):=by
 refine T.eW.1.okA tU λZ A outer s H vs Q E β h=>?_;obtain⟨p,dx,nm,wr,k,α,rfl,Y,θ,h1,q⟩:=h;refine⟨_,((ai (aD (cL (aa (aE gZ ah (aH (K:=K) rfl (pv 0) rfl)) (aa ah af)))))),aw (σ':=[a' _,a' _]) rfl ?_⟩;lia;refine aF Y T.fX T.ib rfl ?_;lia;exactλt H2 _ s e=>q t H2 s e
theorem wR (T:Tx K mg a):FnOk P w K mg base CX0 1 a.cj a.qI ["self","known"] (Nl K a.aT):=by
 refine T.gF.1.okA cT fun β A outer s H vs Q E Z h=>?_;obtain⟨p,dx,nm,γ,d,ws,kvs,f,g,rfl,α,ht,hd,hf,q⟩:=h;have ρ:=sM Z
 refine⟨_,((ae (az (i:=2) cT.nd rfl @D ah)
  (ae (az (i:=3) cT.nd rfl @D ah)
  (ae (fG W5 rfl (kl (K:=K) rfl (aH (K:=K) rfl (pv 0) rfl)) (ar (i:=4) cT.nd rfl @D) (ae (az (i:=5) cT.nd rfl @D (oJ ρ (pv 1) (pv 4) (λ_ _=>rfl)))
  (ae (az (i:=2) cT.nd rfl @D (aE jB (pv 2) (!A @I (pv 5) ah)))
  (ai (az (i:=3) cT.nd rfl @D (aE jB (pv 3) (!A @I (pv 5) ah)))))))
  (ai (aD (cL (!j 2 (!j 3 af))))))))),aw (σ':=[a' _,a' _,gn,gn,gn,gn]) rfl ?_⟩
 lia;refine aF α T.kT T.kz rfl ?_;lia;refine uG (λi σ H2=>∃v ψ,σ=[a' (.ref p),a' (.ref d),a' (.int (((ws.take i).map f).foldl Xb 0)),a' (.int (((ws.take i).map g).foldl Xb 0)),v,ψ]/\H2=H) ⟨gn,gn,rfl,rfl⟩ (λi σ H2 _ ⟨v,ψ,_,e⟩=>by rw[e];exact ht) ?_ ?_
 ·rintro i x σ H2 Y ⟨v,ψ,rfl,rfl⟩;obtain⟨z,hz,rfl⟩:=ay Y;obtain⟨t,δ,ο⟩:=hf z (dt hz);lia;refine tZ hd δ ?_;lia;exact⟨_,_,by rw[xT hz,xT hz],rfl⟩
 ·rintro σ H2 ⟨v,ψ,rfl,rfl⟩;lia;rw[bx,mc];exactλt ε _ s e=>q t ε s e
section
local macro_rules | `(tactic| walk_at "l2step") =>`(tactic| first | ((with_reducible refine' dC ?e ?_);(case e=>walk_at "l2kind")) | ((with_reducible refine' gD ?e ?_);(case e=>walk_at "l2kind")) | (with_reducible refine cM ?_) | (with_reducible refine dW ?_))
theorem yH (T:Tx K mg a):FnOk P w K mg base CX0 1 a.eI a.sV ["ins","sums","stores","outs"] Jx:=by
 refine T.jR.1.okA yx fun γ A outer s H vs Q E δ h=>?_;obtain⟨i,s,t,o,rs,qs,N,rfl,hn,g,q⟩:=h;have hi:=hn.i;have hs:=hn.s;have ht:=hn.t;have ho:=hn.o;have li:=g.li;have ls:=g.ls;have lt:=g.lt;have lo:=g.lo;have π:rs.length=N.sums.length:=by rw[<-hn.es,bx]
 have ν:qs.length=N.sts.length:=by rw[<-hn.et,bx]
 refine⟨_,((ae (du (aM rz (aP (be (K:=K) rfl) @F T.ia W8 (!j 0 af)) (jw (v:= .int 6) @F T.HL ⟨_,rfl⟩) (aW _)) (ai jt) bg)
  (ae (du (aM rz (aP (be (K:=K) rfl) @F T.ia W8 (!j 1 af)) (jw (v:= .int 40) @F T.EU ⟨_,rfl⟩) (aW _)) (ai jt) bg)
  (ae (du (aM rz (aP (be (K:=K) rfl) @F T.ia W8 (!j 2 af)) (jw (v:= .int 16) @F T.sO ⟨_,rfl⟩) (aW _)) (ai jt) bg)
  (ae (du (aM rz (aP (be (K:=K) rfl) @F T.ia W8 (!j 3 af)) (jw (v:= .int 6) @F T.vH ⟨_,rfl⟩) (aW _)) (ai jt) bg)
  (ai (du (gj (aP (CZ (K:=K) rfl rfl) @F T.Uu ai8 (aa (bC (osc:=ag jH) (ON:=["ins","sums","stores","outs"]) (N:=n10) (n:=1) (fx:=[]) rfl rfl rfl @H (aK (K:=K) rfl (pv 1)) (aA @C) (!C (ar (i:=0) (show kv (n10:B') from by decide +kernel) rfl @D) (nh rz (aP (be (K:=K) rfl) @F T.ia W8 (aa (!A @I (pv 0) ah) af)) (jw (v:= .int 24) @F T.Cq ⟨_,rfl⟩) (aW _)))) af))) (ai jt) bg))))))),aw (σ':=[a' _,a' _,a' _,a' _]) rfl ?_⟩
 lia;rw[bx];refine gL (f' @A) ?_;lia;rw[bx];refine gL (f' @A) ?_;lia;rw[bx];refine gL (f' @A) ?_;lia;rw[bx];refine gL (f' @A) ?_;lia;intro D Z;refine aJ (xs:=rs.map λr=>V.ref r.1) (λi ys H'=>Cs (λi ys=>ys=(n' i false).map V.bl) H D i ys H') (Cs.zero Z rfl) (λi ys H' _ c=>SqL.of (c.same.get hs)) (λi x ys H' β c=>?_) (λys H' c=>?_)
 ·obtain⟨r,Y,rfl⟩:=ay β;have hi:=(bA.mp Y).1;have hm:=dt Y;have ζ:=c.same.get (hn.sr r hm).1;have ε:=c.same.get (hn.sr r hm).2;have hw:=g.lw r.2.2 (by rw[<-hn.es];exact ic.mpr ⟨r,hm,rfl⟩);lia;rw[bx,f' (show ¬(24:Int) < (r.2.2.2.length:Int) by omega)];refine Cs.put Z c.same c.at' c.len @A ?_;rw[c.pv,YQ,ee];rfl
 ·have α:=c.at';rw[c.pv] at α;lia;refine Pc (SqL.of α) ?_;lia;refine gL @E ?_;lia;exact q H' c.same
theorem yI (T:Tx K mg a):FnOk P w K mg base CX0 2 a.eJ a.sW ["names"] Jy:=by
 refine T.jS.1.okA lP fun ν A outer s H vs Q E ε h=>?_;obtain⟨l,zs,rfl,hl,ln,nd,hn,q⟩:=h;have ρ:=sM ε
 refine⟨_,((ae (az (i:=1) lP.nd rfl @D r8)
  (ai (fG W5 rfl (aK (K:=K) rfl (pv 0)) (ar (i:=2) lP.nd rfl @D) (ae (du (h7 (gj (aj (mz T) ε T.oZ T.jd (!j 2 af)))) (ai jt) bg)
  (ae (du (JX (J4 ρ (pv 2) (pv 1))) (ai jt) bg)
  (ai (Ao ρ (pv 1) (pv 2) yD rfl)))))))),aw (σ':=[a' _,gn,gn]) rfl ?_⟩
 lia;intro D H1 η δ ι;have hl1:=δ.get hl;lia;refine jM (xs:=zs.map V.str) (λi σ H'=>∃v,σ=[a' (.ref l),a' (.ref D),v]/\Same H H'/\∃kvs:ef (Key×V),H' D=a' (.dK kvs)/\kvs.map (·.1)=(zs.take i).map WO) ⟨gn,rfl,δ,[],ι,rfl⟩ (λi σ H' _ ⟨_,_,s',_⟩=>SqL.of (s'.get hl)) ?_ ?_
 ·rintro i y σ H' ζ ⟨v,rfl,s',kvs,θ,α⟩;obtain⟨z,hz,rfl⟩:=ay ζ;have hi:=(bA.mp hz).1
  have Y:z∉zs.take i:=λm=>by
   have h2:=nd;rw[<-ac8 i zs,Xz] at h2;exact h2.2.2 z m z (dt (i:=0) (by rw[Zb,Nat.add_zero];exact hz)) rfl
  have lk:kvs.length<=1000:=by have:=Wy X3 α;rw[bx,bx,tu] at this;omega
  lia;refine c_nm (hn z (dt hz)) λH2 γ=>?_;have Z:=γ.get θ;lia;refine Pb Z ?_;rw[vL α z,f' Y];lia;refine rh Z (aR lk) fun ξ β=>?_;rw[Ee α Y] at β;lia;refine⟨λb o e=>β.oth _ _ (ao e η) (γ.get (s'.get e)),_,β.at',?_⟩;rw[ee,α,take_succ hz,ee];rfl
 ·rintro σ H' ⟨v,rfl,s',_⟩;lia;exact q H' s'
theorem jK (T:Tx K mg a):FnOk P w K mg base CX0 2 a.fM a.uT ["wire","known"] Np:=by
 refine T.fU.1.okA Ac fun γ A outer s H vs Q E α h=>?_;obtain⟨z,d,zs,rfl,⟨kvs,Y,β⟩,hz,hn,q⟩:=h;have ρ:=sM α;refine⟨_,((ai (du (PW.pt (og (h7 (gj (aj (mz T) α T.oZ T.jd (!j 0 af)))) (mx (JX (J3 ρ (pv 0) (pv 1)))))) (ai jt) bg))),aw (σ':=[a' _,a' _]) rfl ?_⟩;lia;refine c_nm hn λH2 Z=>?_;have υ:=Z.get Y;lia;refine Q2 υ ?_;rw[vL β z,hE hz];lia;exact q H2 Z
theorem yF (T:Tx K mg a):FnOk P w K mg base CX0 3 a.eE a.sT ["sums","stores","outs","known"] Jw:=by
 refine T.jP.1.okA gw fun υ A outer s H vs Q E ο h=>?_;obtain⟨i,s,t,o,d,rs,qs,N,rfl,kp,g,ν,q⟩:=h;have hs:=kp.s;have ht:=kp.t;have ho:=kp.o
 refine⟨_,((ae (fG W5 rfl (kl (K:=K) rfl (pv 0)) (ar (i:=4) gw.nd rfl @D) (ai (fG W5 rfl (kl (K:=K) rfl (!A @I (pv 4) ah)) (ar (i:=5) gw.nd rfl @D) (ai (bL (aj (jK T) ο T.lD T.fU (!j 5 (!j 3 af))))))))
  (ae (fG W5 rfl (kl (K:=K) rfl (pv 1)) (ar (i:=4) gw.nd rfl @D) (ai (bL (aj (jK T) ο T.lD T.fU (aa (!A @I (pv 4) ah) (!j 3 af))))))
  (ai (fG W5 rfl (kl (K:=K) rfl (pv 2)) (ar (i:=5) gw.nd rfl @D) (ai (bL (aj (jK T) ο T.lD T.fU (!j 5 (!j 3 af)))))))))),aw (σ':=[a' _,a' _,a' _,a' _,gn,gn]) rfl ?_⟩
 lia;refine uG (xs:=rs.map λr=>V.ref r.1) (λi σ H'=>∃γ β,σ=[a' (.ref s),a' (.ref t),a' (.ref o),a' (.ref d),γ,β]/\Same H H') ⟨gn,gn,rfl,Same.refl _⟩ (λi σ H' _ ⟨_,_,_,s'⟩=>SqT.of (s'.get hs)) ?_ ?_
 ·rintro i y σ H' ε ⟨γ,β,rfl,s'⟩;obtain⟨r,ζ,rfl⟩:=ay ε;have hm:=dt ζ;have τ:=s'.get (kp.sr r hm).1;have ρ:=s'.get (kp.sr r hm).2;have θ:r.2.2∈N.sums:=by rw[<-kp.es];exact ic.mpr ⟨r,hm,rfl⟩
  lia;refine uG (xs:=r.2.2.2.map V.str) (λj σ H2=>∃v,σ=[a' (.ref s),a' (.ref t),a' (.ref o),a' (.ref d),a' (.ref r.1),v]/\Same H' H2) ⟨_,rfl,Same.refl _⟩ (λj σ H2 _ ⟨_,_,Z⟩=>SqT.of (Z.get ρ)) ?_ ?_
  ·rintro j y σ H2 ε ⟨v,rfl,Z⟩;obtain⟨z,hz,rfl⟩:=ay ε;have Y:=g.ws r.2.2 θ z (dt hz);lia;refine⟨z,d,N.names,rfl,(ν.same s').same Z,Y,g.nm z Y,fun ι α=>?_⟩;lia;exact Z.trans α
  ·rintro σ H2 ⟨v,rfl,Z⟩;lia;exact⟨_,_,rfl,s'.trans Z⟩
 ·rintro σ H' ⟨γ,β,rfl,s'⟩;have ξ:=s'.get ht;lia;refine uG (xs:=qs.map λr=>V.ref r.1) (λi σ H2=>∃γ,σ=[a' (.ref s),a' (.ref t),a' (.ref o),a' (.ref d),γ,β]/\Same H' H2) ⟨_,rfl,Same.refl _⟩ (λi σ H2 _ ⟨_,_,Z⟩=>SqT.of (Z.get ξ)) ?_ ?_
  ·rintro i y σ H2 ε ⟨γ,rfl,Z⟩;obtain⟨r,ζ,rfl⟩:=ay ε;have hm:=dt ζ;have τ:=Z.get (s'.get (kp.tr r hm));have θ:r.2∈N.sts:=by rw[<-kp.et];exact ic.mpr ⟨r,hm,rfl⟩
   have Y:=g.ts r.2 θ;lia;refine⟨r.2.2,d,N.names,rfl,(ν.same s').same Z,Y,g.nm _ Y,fun ι α=>?_⟩;lia;exact Z.trans α
  ·rintro σ H2 ⟨γ,rfl,Z⟩;have δ:=s'.trans Z;have η:=δ.get ho;lia;refine uG (xs:=N.outs.map V.str) (λi σ ι=>∃β,σ=[a' (.ref s),a' (.ref t),a' (.ref o),a' (.ref d),γ,β]/\Same H2 ι) ⟨_,rfl,Same.refl _⟩ (λi σ ι _ ⟨_,_,α⟩=>SqT.of (α.get η)) ?_ ?_
   ·rintro i y σ ι ε ⟨β,rfl,α⟩;obtain⟨z,hz,rfl⟩:=ay ε;have Y:=g.os z (dt hz);lia;refine⟨z,d,N.names,rfl,(ν.same δ).same α,Y,g.nm z Y,fun φ π=>?_⟩;lia;exact α.trans π
   ·rintro σ ι ⟨β,rfl,α⟩;lia;exact q _ (δ.trans α)
theorem FG (T:Tx K mg a):FnOk P w K mg base CX0 1 a.rG a.LH ["row","waiting"] MW:=by
 refine T.yo.1.okA Nr fun ζ A outer s H vs Q E γ h=>?_;obtain⟨r,d,zs,rfl,η,δ,lw,⟨kvs,Y,ε⟩,q⟩:=h;have ρ:=sM γ;refine⟨_,((ai (aD (aP (CZ (K:=K) rfl rfl) @F T.Uu ai8 (aa (bC (osc:=ag Af) (ON:=n13) (N:=["wire","waiting"]) (n:=1) (fx:=[1]) rfl rfl rfl @H (kl (K:=K) rfl (!A @I (pv 0) ah)) (aA @C) (!C (ar (i:=0) (show kv (["wire","waiting"]:B') from by decide +kernel) rfl @D) (Ub (J4 ρ (pv 0) (pv 1))))) af))))),aw (σ':=[a' _,a' _]) rfl ?_⟩;lia;intro D Z;refine tz (xs:=r.2.2.2.map V.str) (λi ys H'=>Cs (λi ys=>ys=((r.2.2.2.take i).map λw=>decide (w∈zs)).map V.bl) H D i ys H') (Cs.zero Z rfl) (λi ys H' _ c=>SqT.of (c.same.get δ)) (λi x ys H' β c=>?_) (λys H' c=>?_)
 ·obtain⟨z,hz,rfl⟩:=ay β;have hi:=(bA.mp hz).1;lia;refine Pb (c.same.get Y) ?_;rw[vL ε z];refine Cs.put Z c.same c.at' c.len @A ?_;rw[c.pv,take_succ hz,ee,ee];rfl
 ·have α:=c.at';rw[c.pv,bx,mc] at α;lia;refine Pc (SqL.of α) ?_;have π:(r.2.2.2.map λw=>decide (w∈zs)).any id=iz zs r.2.2.2:=by rw[List.any_map];rfl
  lia;rw[π];exact q H' c.same
theorem vd (T:Tx K mg a):FnOk P w K mg base CX0 4 a.cX a.o7 ["ins","sums","stores"] (Gw a.bf a.aT a.aB):=by
 refine T.ij.1.okA nO λe0 A outer s H vs Q E hr h=>?_;obtain⟨i,s,t,o,rs,qs,N,rfl,kp,g,q⟩:=h;have hi:=kp.i;have hs:=kp.s;have ht:=kp.t;have li:=g.li;have ls:=g.ls;have lt:=g.lt;have π:rs.length=N.sums.length:=by rw[<-kp.es,bx]
 have d9:qs.length=N.sts.length:=by rw[<-kp.et,bx]
 refine⟨_,((ae (bU (osc:=ag cU) (ON:=n18) (N:=["number","name"]) (n:=2) (fx:=[]) (i:=3) nO.nd rfl rfl rfl rfl rfl rfl @H (pQ (K:=K) rfl @F T.eg (pv 0)) (xO (fw (aA @C) (fw (aA @C) rF))) (!C (ro (K:=K) (n:=2) rfl rfl (bD (ar (i:=0) (show kv (["number","name"]:B') from by decide +kernel) rfl @D) (bD (ar (i:=1) (show kv (["number","name"]:B') from by decide +kernel) rfl @D) iE))) (jv T.OM (si T) (hr.mono @C) @F T.Ol T.gi.2 .nil bJ (!j 1 (!j 0 af)))))
  (ae (bL (gY (K:=K) rfl WC Xs Xq ja (pv 3) (aa (bC (osc:=ag cU) (ON:=n18) (N:=n10) (n:=1) (fx:=[]) rfl rfl rfl @H (kl (K:=K) rfl (pv 1)) (aA @C) (!C (ar (i:=0) (show kv (n10:B') from by decide +kernel) rfl @D) (jv T.Mo (rB T) (hr.mono @C) @F T.Lh T.fz.2 .nil bJ (aa (!A @I (pv 0) ah) (aa (!A @I (pv 0) ah) af))))) af)))
  (ae (bL (gY (K:=K) rfl WC Xs Xq ja (pv 3) (aa (bC (osc:=ag cU) (ON:=n18) (N:=["number","row"]) (n:=2) (fx:=[]) rfl rfl rfl @H (pQ (K:=K) rfl @F T.eg (pv 2)) (xO (fw (aA @C) (fw (aA @C) rF))) (!C (ro (K:=K) (n:=2) rfl rfl (bD (ar (i:=0) (show kv (["number","row"]:B') from by decide +kernel) rfl @D) (bD (ar (i:=1) (show kv (["number","row"]:B') from by decide +kernel) rfl @D) iE))) (jv T.Fh (oN T) (hr.mono @C) @F T.ET T.dF.2 .nil bJ (aa (!A @I (pv 1) ah) (aa (!A @I (pv 1) ah) (!j 0 af)))))) af)))
  (ai (aD (a9 (zW rfl) @F T.Pp ai2 (aa (bC (osc:=ag cU) (ON:=n18) (N:=["wire"]) (n:=1) (fx:=[]) rfl rfl rfl @H (aK (K:=K) rfl (pv 3)) (aA @C) (!C (ar (i:=0) (show kv (["wire"]:B') from by decide +kernel) rfl @D) (cL (aa (aH (K:=K) rfl (pv 0) rfl) (!j 0 af))))) af)))))))),aw (σ':=[a' _,a' _,a' _,gn]) rfl ?_⟩
 lia;refine .inr ⟨⟨_,SqT.of hi⟩,?_⟩;intro D hD;refine uH (xs:=N.ins.map V.str) (λi ys H'=>∃ws,WL H H' a.bf a.aT a.aB N D ys (N.ins.take i) ws) ⟨[],rfl,rfl,λ_ h=>hQ h @E,bo hD,ax⟩ (λi ys H' _ ⟨ws,c⟩=>SqT.of (c.same.get hi)) (λi x ys H' pz H2 hx ⟨ws,c⟩ fp s2 e2=>?_) (λys H' ⟨ws,c⟩=>?_)
 ·obtain⟨z,hz,rfl⟩:=ay hx;have a5:=(bA.mp hz).1;have lw:ws.length=i:=by have:=Wy X3 c.nm;rw[bx,tu] at this;omega
  lia;intro x dx H3 f3 s3 e3;refine⟨x,dx,.str z,nat i,rfl,e3,λH4 u4=>⟨rfl,?_⟩⟩;have ι:Same H2 H4:=λb o e=>u4.oth _ _ (ao e f3) (s3.get e);exact c.put hD (s2.trans ι) (.i i dx hz u4.at') (by rw[tu];omega) (take_succ hz)
 ·rw[bx,mc] at c;have c0:=c.same.get hs;have δ:=c.same.get ht;have d1:=c.d;lia;intro τ a7;refine tz (xs:=rs.map λr=>V.ref r.1) (λi ys H2=>∃ws,WL H' H2 a.bf a.aT a.aB N τ ys ((rs.take i).map (·.2.2.1)) ws) ⟨[],rfl,rfl,λ_ h=>hQ h @E,bo a7,ax⟩ (λi ys H2 _ ⟨ws,ε⟩=>SqT.of (ε.same.get c0)) (λi x ζ H2 hx ⟨a8,ε⟩=>?_) (fun ζ H2 ⟨a8,ε⟩=>?_)
  ·obtain⟨r,Z,rfl⟩:=ay hx;have a5:=(bA.mp Z).1;have hm:=dt Z;have b3:=c.same.trans ε.same;have er:=b3.get (kp.sr r hm).1;have ew:=b3.get (kp.sr r hm).2;lia;intro x dx H3 f3 s3 e3;refine⟨x,dx,.str r.2.2.1,r.2.1,_,rfl,s3.get ew,e3,λH4 u4=>⟨rfl,?_⟩⟩;have ι:Same H2 H4:=λb o e=>u4.oth _ _ (ao e f3) (s3.get e);exact ε.put a7 ι (.s r.2.2.2 dx r.2.1 (by rw[<-kp.es];exact ic.mpr ⟨r,hm,rfl⟩) u4.at' (ι.get ew)) (by rw[bx,tu];omega) (by rw[take_succ Z,ee];rfl)
  ·rw[bx,mc] at ε;have υ:=ε.same.get d1;have d4:=ε.d;have b6:ys.length=N.ins.length:=by rw[c.ey,<-c.nm,bx,bx]
   have ν:ζ.length=rs.length:=by rw[ε.ey,bx,<-bx (f:=(·.1)),ε.nm,bx]
   lia;refine jF υ d4 (by rw[ra];omega) λH3 u3=>?_;have ρ:=c.join ε hD u3;have d0:=ρ.d;have a0:=ρ.same.get ht;have d6:(ys++ζ).length=N.ins.length + rs.length:=by rw[eX,b6,ν]
   clear c ε υ d4 c0 δ d1 b6 ν a7;generalize ys++ζ=ys3 at *
   lia;refine .inr ⟨⟨_,SqT.of a0⟩,?_⟩;intro D4 a6;refine uH (xs:=qs.map λq=>V.ref q.1) (λi ys H'=>∃ws,WL H3 H' a.bf a.aT a.aB N D4 ys ((qs.take i).map (·.2.1)) ws) ⟨[],rfl,rfl,λ_ h=>hQ h @E,bo a6,ax⟩ (λi ys H' _ ⟨ws,c⟩=>SqT.of (c.same.get a0)) (λi x ys H4 pz H5 hx ⟨ws,c⟩ fp s5 ο=>?_) (fun φ H4 ⟨χ,c4⟩=>?_)
   ·obtain⟨r,Z,rfl⟩:=ay hx;have a5:=(bA.mp Z).1;have hm:=dt Z;have er:=s5.get (c.same.get (ρ.same.get (kp.tr r hm)));lia;intro x dx H6 f6 s6 e6;refine⟨x,dx,.str r.2.1,.str r.2.2,nat i,rfl,e6,λH7 u7=>⟨rfl,?_⟩⟩;have θ:Same H5 H7:=λb o e=>u7.oth _ _ (ao e f6) (s6.get e);exact c.put a6 (s5.trans θ) (.t i r.2.2 dx (by rw[<-kp.et,hH,Z];rfl) u7.at') (by rw[bx,tu];omega) (by rw[take_succ Z,ee];rfl)
   ·rw[bx,mc] at c4;have ξ:=c4.same.get d0;have d3:=c4.d;have d5:φ.length=qs.length:=by rw[c4.ey,bx,<-bx (f:=(·.1)),c4.nm,bx]
    lia;refine jF ξ d3 (by rw[ra];omega) λH5 u5=>?_;have γ:=ρ.join c4 hD u5;have α:=γ.d;have ω:=γ.ey
    have d2:N.ins++rs.map (·.2.2.1)++qs.map (·.2.1)=N.names:=by
     unfold Nt.names;rw[<-kp.es,<-kp.et,WT,WT];rfl
    rw[d2] at γ;clear ρ c4 ξ d3 d0 a0 a6;rw[ω] at α;generalize ws++a8++χ=wl at *
    have d8:wl.length<=100:=by rw[<-bx (f:=(·.1)),γ.nm,<-d2,eX,eX,bx,bx];omega
    lia;intro D6 c1;refine aJ (xs:=wl.map λq=>V.ref q.2) (λi ys H'=>∃ps:ef (eO×Key×V),ys=ps.map (λq=>V.ref q.1)/\ps.map (·.2)=(wl.take i).map (λq=>((WO q.1:Key),V.ref q.2))/\(∀q∈ps,H' q.1=a' (.tup [kV q.2.1,q.2.2]))/\Same H5 H'/\H' D6=a' (.lst ys)) ⟨[],rfl,rfl,λ_ h=>hQ h @E,bo c1,ax⟩ (λi ys H' _ ⟨_,_,_,_,s',_⟩=>SqL.of (s'.get α)) ?_ ?_
    ·rintro i y ys H' hy ⟨ps,rfl,β,hq,s',eD⟩;obtain⟨Y,a3,rfl⟩:=ay hy;have a5:=(bA.mp a3).1;have d7:ps.length=i:=by have:=Wy X3 β;rw[bx,bx,tu] at this;omega
     have wb:=(γ.ob Y (dt a3)).same s'
     have fld:∀{Q:VK},Q (.str Y.1) H'->Sm K (YZ "name") Q (V.ref Y.2) H':=λh=>by
      cases wb with
      | i k dx hk e=>exact aF e T.nN T.su rfl h
      | s ws dx tw hk e et=>exact aF e T.kT T.qz rfl h
      | t k y dx hk e=>exact aF e T.fX T.nR rfl h
     lia;refine fld ?_;lia;intro tt H6 f6 s6 e6;have ψ:tt≠D6:=λz=>by rw[z,eD] at f6;cases f6
     refine⟨s6.get eD,by rw[bx];exact aR @A,ps++[(tt,WO Y.1,.ref Y.2)],by rw[ee];rfl,by rw[ee,β,take_succ a3,ee];rfl,λq' a4=>?_,λb o e=>?_,ax⟩
     ·rcases hB.mp a4 with h | h
      ·have e:=hq q' h;rw[aG (cF e eD λz=>by cases z)];exact s6.get e
      ·rw[gA] at h;subst h;rw[aG ψ];exact e6
     ·rw[aG (ao e c1)];exact s6.get (s'.get e)
    ·rintro ys H6 ⟨ps,rfl,β,hq,s',eD⟩;rw[bx,mc] at β
     have ek:ps.map (λq=>q.2.1)=N.names.map Sum.inr:=by
      have:=Wy (ab5 (·.1)) β;rw[WT,WT] at this;rw[<-γ.nm,WT];exact this
     lia;refine JI eD hq (by rw[ek];exact ac4 _ (λx y h z=>h (ZV z)) g.nd) λd H7 η s7 e7=>?_;have θ:=s'.trans s7;rw[β] at e7;exact q d H7 wl ((γ.same.trans s').free η) (γ.same.trans θ) ⟨e7,γ.nm,λq' a4=>(γ.ob q' a4).same θ⟩
theorem G5 (T:Tx K mg a):FnOk P w K mg base CX0 2 a.kJ a.CG ["sums"] GB:=by
 refine T.tM.1.okA jW λf5 A outer s H vs Q E ζ h=>?_;obtain⟨s,rs,N,rfl,hs,ω,a0,g,q⟩:=h;have π:rs.length=N.sums.length:=by rw[<-a0,bx]
 have ls:=g.ls
 refine⟨_,((ae (az (i:=1) jW.nd rfl @D (dJ af))
  (ae (az (i:=2) jW.nd rfl @D (a9 (cc (K:=K) rfl) @F T.g5 W2 (!j 0 af)))
  (ae (jJ W5 (aM rz (aP (be (K:=K) rfl) @F T.ia W8 (!j 2 af)) ah (aW _)) (ae (az (i:=3) jW.nd rfl @D (a9 (zW rfl) @F T.Pp ai2 (!j 2 af)))
  (ae (bU (osc:=ag oF) (ON:=["sums","names","left","waiting","ready"]) (N:=n13) (n:=1) (fx:=[3]) (i:=4) jW.nd rfl rfl rfl rfl rfl rfl @H (aK (K:=K) rfl (pv 2)) (aA @C) (λ_ _ _ _ _=>⟨(ar (i:=0) (show kv (n13:B') from by decide +kernel) rfl @D),(mf (h7 (gj (aj (FG T) ζ T.K5 T.yo (!j 0 (!j 1 af)))))),(!A @I (pv 0) ah)⟩))
  (ae (du (aM kU (aP (be (K:=K) rfl) @F T.ia W8 (!j 4 af)) ah (aW _)) (ai jt) bg)
  (ae (bL (gY (K:=K) rfl WC Xs Xq ja (pv 1) (!j 4 af)))
  (ai (bU (osc:=ag oF) (ON:=["sums","names","left","waiting","ready"]) (N:=n13) (n:=1) (fx:=[3]) (i:=2) jW.nd rfl rfl rfl rfl rfl rfl @H (aK (K:=K) rfl (pv 2)) (aA @C) (λ_ _ _ _ _=>⟨(ar (i:=0) (show kv (n13:B') from by decide +kernel) rfl @D),(mf (gj (aj (FG T) ζ T.K5 T.yo (!j 0 (!j 1 af))))),(pv 0)⟩))))))))
  (ai (aD (pv 1))))))),aw (σ':=[a' _,gn,gn,gn,gn]) rfl ?_⟩
 lia;intro η H1 f1 s1 e1;have f3:=s1.get hs;lia;intro ψ H2 f2 s2 e2;lia;have nd:=g.nds;refine⟨fun μ σ' H'=>∃(od:B') (lf:ef Rw) (ψ:eO) (ε δ:WG V),σ'=[a' (.ref s),a' (.ref η),a' (.ref ψ),ε,δ]/\Same H H'/\H' η=a' (.lst (od.map V.str))/\H' ψ=a' (.lst (lf.map λr=>V.ref r.1))/\ψ≠η/\(∀r∈lf,r∈rs)/\Otp N.sums od (lf.map (·.2.2))/\μ=lf.length,⟨rs.length,[],rs,ψ,gn,gn,rfl,s1.trans s2,s2.get e1,e2,λz=>(by rw[z,e1] at f2;cases f2),λ_ h=>h,by rw[a0];exact Otp.start _,rfl⟩,?_⟩;rintro μ σ' H3 ⟨od,lf,ψ,ε,δ,rfl,s3,en,el,d1,sub,χ,rfl⟩;lia;rw[bx];by_cases θ:lf=[]
 ·subst θ;refine gL (f' @E) ?_;lia;exact q η H3 od f1 s3 en χ.done
 ·have e6:0 < lf.length:=List.length_pos_iff.mpr θ;refine mY (hE @A) ?_;have γ:=χ.perm.nodup_iff.mpr nd;rw[Xz] at γ;have d2:(lf.map (·.2.2.1)).Nodup:=by have:=γ.2.1;rw[WT] at this;exact this
  have e9:od.length + lf.length=N.sums.length:=by have:=χ.perm.length_eq;rw[eX,bx,bx,bx] at this;exact this
  have τ:=χ.ready g (by simpa using θ);have b6:(lf.map (·.2.2)).map (·.1)=lf.map (·.2.2.1):=by rw[WT];rfl
  rw[b6] at τ;have ι:∀r∈lf,∀{H'},Same H H'->H' r.1=a' (.tup [.str r.2.2.1,.ref r.2.1])/\H' r.2.1=a' (.tup (r.2.2.2.map V.str)):=λr ζ H' s'=>⟨s'.get (ω r (sub r ζ)).1,s'.get (ω r (sub r ζ)).2⟩;have c2:∀r∈lf,r.2.2.2.length<=24:=λr ζ=>g.lw r.2.2 (by rw[<-a0];exact ic.mpr ⟨r,sub r ζ,rfl⟩);refine⟨fun σ' H'=>∃(od:B') (β:ef Rw) (ψ:eO) (ε δ:WG V),σ'=[a' (.ref s),a' (.ref η),a' (.ref ψ),ε,δ]/\Same H H'/\H' η=a' (.lst (od.map V.str))/\H' ψ=a' (.lst (β.map λr=>V.ref r.1))/\ψ≠η/\(∀r∈β,r∈rs)/\Otp N.sums od (β.map (·.2.2))/\β.length < lf.length,fun σ' H' ⟨od,β,ψ,ε,δ,a1,a2,a3,a4,a5,a6,a7,a8⟩=>⟨β.length,a8,od,β,ψ,ε,δ,a1,a2,a3,a4,a5,a6,a7,rfl⟩,?_⟩;lia;refine JI (ps:=lf.map λr=>(r.1,WO r.2.2.1,V.ref r.2.1)) (by rw[WT];exact el) (λq' d6=>?_) ?_ λd H4 f4 s4 e4=>?_
  ·obtain⟨r,Z,rfl⟩:=ic.mp d6;exact(ι r Z s3).1
  ·rw[WT];have:=ac4 (WO:Wz->Key) (S:=λa b=>a≠b) (λx y h z=>h (ZV z)) d2;rw[WT] at this;exact this
  have kn:Knw H4 d (lf.map (·.2.2.1)):=⟨_,e4,by rw[WT,WT,WT];rfl⟩;have d0:=s4.get el;have c5:=s4.get en;have c1:=s3.trans s4;lia;intro D5 α;refine aJ (xs:=lf.map λr=>V.ref r.1) (λi ys H'=>ys=(((lf.take i).filter λr=> !iz (lf.map (·.2.2.1)) r.2.2.2).map (·.2.2.1)).map V.str/\Same H4 H'/\H' D5=a' (.lst ys)) ⟨rfl,bo α,ax⟩ (λi ys H' _ ⟨_,s',_⟩=>SqL.of (s'.get d0)) (λi x ys H' hx ⟨ey,s',e'⟩=>?_) (λys H5 ⟨ey,ν,ο⟩=>?_)
  ·obtain⟨r,Z,rfl⟩:=ay hx;have hm:=dt Z;have d7:=(bA.mp Z).1;have rr:=ι r hm (c1.trans s');have r1:=rr.1;have fs:(lf.take (i + 1)).filter (λr=> !iz (lf.map (·.2.2.1)) r.2.2.2)=(lf.take i).filter (λr=> !iz (lf.map (·.2.2.1)) r.2.2.2)++(if (!iz (lf.map (·.2.2.1)) r.2.2.2)=true then [r] else []):=by rw[take_succ Z,Yb,ZI];rfl
   lia;refine⟨r,d,lf.map (·.2.2.1),rfl,rr.1,rr.2,c2 r hm,kn.same s',λH6 s6=>?_⟩;have e8:=s6.get r1;cases hw:iz (lf.map (·.2.2.1)) r.2.2.2 with
   | true=>
     lia;refine⟨?_,s'.trans s6,s6.get e'⟩;rw[fs,hw,ey];simp
   | false=>
     lia;refine⟨s6.get e',?_,?_,λb o e=>?_,ax⟩
     ·rw[ey,bx,bx];have:=Yn (λr:Rw=> !iz (lf.map (·.2.2.1)) r.2.2.2) (lf.take i);rw[tu] at this;exact aR @A
     ·rw[fs,hw,ey];simp
     ·rw[aG (ao e α)];exact s6.get (s'.get e)
  ·rw[bx,mc] at ey;have fm:((lf.map (·.2.2)).filter λr=> !iz (lf.map (·.2.2.1)) r.2)=(lf.filter λr=> !iz (lf.map (·.2.2.1)) r.2.2.2).map (·.2.2):=by rw[at6];rfl
   have d8:((lf.map (·.2.2)).filter λr=>iz (lf.map (·.2.2.1)) r.2)=(lf.filter λr=>iz (lf.map (·.2.2.1)) r.2.2.2).map (·.2.2):=by rw[at6];rfl
   rw[fm,bx] at τ;have d4:ys.length=(lf.filter λr=> !iz (lf.map (·.2.2.1)) r.2.2.2).length:=by rw[ey,bx,bx]
   have f0:=Yn (λr:Rw=> !iz (lf.map (·.2.2.1)) r.2.2.2) lf;have ξ:=EW (λr:Rw=>iz (lf.map (·.2.2.1)) r.2.2.2) lf τ;have φ:=χ.step nd;rw[b6,fm,d8,WT] at φ;have e3:=ν.get d0;have d9:=ν.get c5;lia;refine gL (f' λz=>by have:=V.int.inj z;omega) ?_;lia;refine jF d9 ο (by rw[bx,d4,ra];omega) λH6 u6=>?_;have υ:∀b o,b≠η->H4 b=a' o->H6 b=a' o:=λb o n e=>u6.oth _ _ n (ν.get e);have c0:Same H H6:=λb o e=>υ b o (ao e f1) (c1.get e);have e0:=u6.oth _ _ d1 e3;have b3:=u6.at';rw[ey,<-ee] at b3
   have d5:Knw H6 d (lf.map (·.2.2.1)):=by
    obtain⟨kvs,Y,ek⟩:=kn;exact⟨kvs,υ _ _ (cF Y c5 λz=>by cases z) Y,ek⟩
   lia;intro D7 ρ;refine aJ (xs:=lf.map λr=>V.ref r.1) (λi ys H'=>ys=((lf.take i).filter λr=>iz (lf.map (·.2.2.1)) r.2.2.2).map (λr=>V.ref r.1)/\Same H6 H'/\H' D7=a' (.lst ys)) ⟨rfl,bo ρ,ax⟩ (λi ys H' _ ⟨_,s',_⟩=>SqL.of (s'.get e0)) (λi x ys H' hx ⟨ey,s',e'⟩=>?_) (λys H7 ⟨c4,s7,e7⟩=>?_)
   ·obtain⟨r,Z,rfl⟩:=ay hx;have hm:=dt Z;have d7:=(bA.mp Z).1;have rr:=ι r hm (c0.trans s');have fs:(lf.take (i + 1)).filter (λr=>iz (lf.map (·.2.2.1)) r.2.2.2)=(lf.take i).filter (λr=>iz (lf.map (·.2.2.1)) r.2.2.2)++(if iz (lf.map (·.2.2.1)) r.2.2.2=true then [r] else []):=by rw[take_succ Z,Yb,ZI];rfl
    lia;refine⟨r,d,lf.map (·.2.2.1),rfl,rr.1,rr.2,c2 r hm,d5.same s',λH8 s8=>?_⟩;cases hw:iz (lf.map (·.2.2.1)) r.2.2.2 with
    | false=>
      lia;refine⟨?_,s'.trans s8,s8.get e'⟩;rw[fs,hw,ey];simp
    | true=>
      lia;refine⟨s8.get e',?_,?_,λb o e=>?_,ax⟩
      ·rw[ey,bx];have:=Yn (λr:Rw=>iz (lf.map (·.2.2.1)) r.2.2.2) (lf.take i);rw[tu] at this;exact aR @A
      ·rw[fs,hw,ey];simp
      ·rw[aG (ao e ρ)];exact s8.get (s'.get e)
   ·rw[bx,mc] at c4;rw[c4] at e7;lia;have c3:∀r∈lf.filter (λr=>iz (lf.map (·.2.2.1)) r.2.2.2),r∈rs:=λr ζ=>sub r (Y4.mp ζ).1;have d3:D7≠η:=λz=>(by rw[z,b3] at ρ;cases ρ);exact⟨_,_,D7,_,_,rfl,c0.trans s7,s7.get b3,e7,d3,c3,φ,ξ⟩
theorem oO (T:Tx K mg a):FnOk P w K mg base CX0 5 a.cw a.qN ["self","ins","sums","stores","outs"] (SW a.de a.bf a.aT a.aB):=by
 refine T.gI.1.okA wo λr4 A outer s H vs Q E hr h=>?_;obtain⟨x,dx,i,s,t,o,rs,qs,N,rfl,hx,hn,g,q⟩:=h;have li:=g.li;have ls:=g.ls;have lt:=g.lt;have lo:=g.lo;have q7:rs.length=N.sums.length:=by rw[<-hn.es,bx]
 have ν:qs.length=N.sts.length:=by rw[<-hn.et,bx]
 refine⟨_,((ae (bL (aj (yH T) hr T.A4 T.jR (!j 1 (!j 2 (!j 3 (!j 4 af))))))
  (ae (bL (aj (yI T) hr T.A5 T.jS (aa (aE km (aE km (a9 (cc (K:=K) rfl) @F T.g5 W2 (!j 1 af)) (bC (osc:=ag dq) (ON:=n19) (N:=n10) (n:=1) (fx:=[]) rfl rfl rfl @H (aK (K:=K) rfl (pv 2)) (aA @C) (!C (ar (i:=0) (show kv (n10:B') from by decide +kernel) rfl @D) (!A @I (pv 0) ah)))) (bC (osc:=ag dq) (ON:=n19) (N:=n10) (n:=1) (fx:=[]) rfl rfl rfl @H (aK (K:=K) rfl (pv 3)) (aA @C) (!C (ar (i:=0) (show kv (n10:B') from by decide +kernel) rfl @D) (!A @I (pv 0) ah)))) af)))
  (ae (cW (K:=K) rfl (pv 0) (a9 (eM (K:=K) rfl) @F T.mj X4 (!j 1 af)) rfl)
  (ae (cW (K:=K) rfl (pv 0) (a9 (eM (K:=K) rfl) @F T.mj X4 (aa (bC (osc:=ag dq) (ON:=n19) (N:=n10) (n:=1) (fx:=[]) rfl rfl rfl @H (aK (K:=K) rfl (pv 2)) (aA @C) (!C (ar (i:=0) (show kv (n10:B') from by decide +kernel) rfl @D) (cL (aa (!A @I (pv 0) ah) (aa (a9 (eM (K:=K) rfl) @F T.mj X4 (aa (!A @I (pv 0) ah) af)) af))))) af)) rfl)
  (ae (cW (K:=K) rfl (pv 0) (a9 (eM (K:=K) rfl) @F T.mj X4 (aa (bC (osc:=ag dq) (ON:=n19) (N:=n10) (n:=1) (fx:=[]) rfl rfl rfl @H (aK (K:=K) rfl (pv 3)) (aA @C) (!C (ar (i:=0) (show kv (n10:B') from by decide +kernel) rfl @D) (cL (aa (!A @I (pv 0) ah) (aa (!A @I (pv 0) ah) af))))) af)) rfl)
  (ae (cW (K:=K) rfl (pv 0) (a9 (eM (K:=K) rfl) @F T.mj X4 (!j 4 af)) rfl)
  (ae (cW (K:=K) rfl (pv 0) (aj (vd T) hr T.xP T.ij (aa (aH (K:=K) rfl (pv 0) rfl) (aa (aH (K:=K) rfl (pv 0) rfl) (aa (aH (K:=K) rfl (pv 0) rfl) af)))) rfl)
  (ae (bL (aj (yF T) hr T.A2 T.jP (aa (aH (K:=K) rfl (pv 0) rfl) (aa (aH (K:=K) rfl (pv 0) rfl) (aa (aH (K:=K) rfl (pv 0) rfl) (aa (aH (K:=K) rfl (pv 0) rfl) af))))))
  (ai (cW (K:=K) rfl (pv 0) (a9 (eM (K:=K) rfl) @F T.mj X4 (aa (aj (G5 T) hr T.K9 T.tM (aa (aH (K:=K) rfl (pv 0) rfl) af)) af)) rfl))))))))))),aw (σ':=[a' _,a' _,a' _,a' _,a' _]) rfl ?_⟩
 lia;refine⟨i,s,t,o,rs,qs,N,rfl,hn,g,λH1 s1=>?_⟩;have c3:=hn.same s1;have o3:=c3.i;have l8:=c3.s;have δ:=c3.t;lia;intro D2 H2 f2 s2 e2;have l7:=s2.get l8;lia;intro D3 j2;refine aJ (xs:=rs.map λr=>V.ref r.1) (λi ys H'=>Cs (λi ys=>ys=((rs.take i).map (·.2.2.1)).map V.str) H2 D3 i ys H') (Cs.zero j2 rfl) (λi ys H' _ c=>SqL.of (c.same.get l7)) (λi x ys H' hx c=>?_) (λys H3 c=>?_)
 ·obtain⟨r,θ,rfl⟩:=ay hx;have i4:=(bA.mp θ).1;have er:=c.same.get (s2.get (c3.sr r (dt θ)).1);lia;refine Cs.put j2 c.same c.at' c.len @A ?_;rw[c.pv,take_succ θ,ee,ee];rfl
 ·have e3:=c.at';rw[c.pv,bx,mc] at e3;have ζ:=c.same;clear c;refine rj (ζ.get e2) e3 (by rw[bx,bx,bx,ra];omega) λD4 H4 f4 s4 e4=>?_;have a3:=s2.trans (ζ.trans s4);have l4:=a3.get δ;lia;intro D5 j1;refine aJ (xs:=qs.map λr=>V.ref r.1) (λi ys H'=>Cs (λi ys=>ys=((qs.take i).map (·.2.1)).map V.str) H4 D5 i ys H') (Cs.zero j1 rfl) (λi ys H' _ c=>SqL.of (c.same.get l4)) (λi x ys H' hx c=>?_) (λys H5 c=>?_)
  ·obtain⟨r,θ,rfl⟩:=ay hx;have i4:=(bA.mp θ).1;have er:=c.same.get (a3.get (c3.tr r (dt θ)));lia;refine Cs.put j1 c.same c.at' c.len @A ?_;rw[c.pv,take_succ θ,ee,ee];rfl
  ·have e5:=c.at';rw[c.pv,bx,mc] at e5;have h0:=c.same;clear c
   have m5:N.ins++rs.map (·.2.2.1)++qs.map (·.2.1)=N.names:=by
    unfold Nt.names;rw[<-hn.es,<-hn.et,WT,WT];rfl
   have q8:N.names.length<=100:=by rw[<-m5,eX,eX,bx,bx];omega
   refine rj (h0.get e4) e5 (by rw[eX,bx,bx,bx,bx,bx,ra];omega) λD6 H6 f6 s6 e6=>?_;rw[<-ee,<-ee,m5] at e6;have a5:=a3.trans (h0.trans s6);lia;refine⟨D6,N.names,rfl,e6,@A,g.nd,g.nm,λH7 s7=>?_⟩;have d9:=s1.trans (a5.trans s7);have i3:=hn.same d9;have h6:=d9.get hx;clear e6 e5 e4 e3 e2 a5 a3 l7 l4 o3 l8 δ c3 j2 j1 f2 f4 f6 s1 s2 ζ s4 h0 s6 s7;have o0:=i3.i;lia;intro ti H8 f8 s8 e8;lia;refine cV (s8.get h6) T.dS T.so (by show 0 < 1000;decide) rfl fun η u9=>?_;have h5:=s8.get h6;have d4:=(Kx.upd u9).hnd h5 (i3.same s8);have e9:=(Kx.upd u9).tup h5 e8;have l1:=u9.at';have k9:Kx x H η:=(Kx.same (d9.trans s8)).trans (Kx.upd u9);have l5:=d4.s;clear u9 h5 s8 e8 f8 o0 h6 i3 d9;lia;intro j4 d6;refine aJ (xs:=rs.map λr=>V.ref r.1) (λi ys H'=>∃a4:ef Rw,ys=a4.map (λr=>V.ref r.1)/\a4.map (·.2.2)=(rs.take i).map (·.2.2)/\RwK H' a4/\Same η H'/\H' j4=a' (.lst ys)) ⟨[],rfl,rfl,λ_ h=>hQ h @E,bo d6,ax⟩ (λi ys H' _ ⟨_,_,_,_,s',_⟩=>SqL.of (s'.get l5)) ?_ ?_
   ·rintro i y ys H' hy ⟨a4,rfl,c2,hk,s',eD⟩;obtain⟨r,θ,rfl⟩:=ay hy;have i4:=(bA.mp θ).1;have hm:=dt θ;have er:=s'.get (d4.sr r hm).1;have ew:=s'.get (d4.sr r hm).2;have m2:a4.length=i:=by have:=Wy X3 c2;rw[bx,bx,tu] at this;omega
    lia;intro γ q6 β ι e7;lia;intro tr j3 m4 υ e1;have h4:tr≠j4:=λz=>(by rw[z,ι.get eD] at m4;cases m4);have n8:γ≠j4:=λz=>(by rw[z,eD] at β;cases β);have g3:=υ.get (ι.get eD);refine⟨g3,by rw[bx];exact aR @A,a4++[(tr,γ,r.2.2)],by rw[ee];rfl,by rw[ee,c2,take_succ θ,ee];rfl,λr2 h2=>?_,λb ob e=>?_,ax⟩
    ·rcases hB.mp h2 with h2 | h2
     ·exact((hk.same ι).same υ).updL g3 (λb ob n e=>by rw[aG n];exact e) r2 h2
     ·rw[gA] at h2;subst h2;exact⟨by rw[aG h4];exact e1,by rw[aG n8];exact υ.get e7⟩
    ·rw[aG (ao e d6)];exact υ.get (ι.get (s'.get e))
   ·rintro ys s9 ⟨a4,rfl,c2,hk,k6,n2⟩;rw[bx,mc,hn.es] at c2;lia;intro ts q6 β ι e7;have ξ:=k6.trans ι;have b3:=ξ.get l1;lia;refine cV b3 T.dS T.mG (by show 1 < 1000;decide) rfl λj3 c1=>?_;have α:=(Kx.upd c1).hnd b3 (d4.same ξ);have g4:=(Kx.upd c1).tup b3 (ξ.get e9);have e1:=(Kx.upd c1).tup b3 e7;have ρ:=(Kx.upd c1).rw b3 (hk.same ι);have φ:=c1.at';have l0:Kx x H j3:=k9.trans ((Kx.same ξ).trans (Kx.upd c1));have χ:=α.t;clear c1 b3 ξ k6 ι e7 β hk n2 d6 d4 l5 l1 e9 k9;lia;intro n5 d5;refine aJ (xs:=qs.map λr=>V.ref r.1) (λi ys H'=>∃a6:ef Qs,ys=a6.map (λr=>V.ref r.1)/\a6.map (·.2)=(qs.take i).map (·.2)/\QsK H' a6/\Same j3 H'/\H' n5=a' (.lst ys)) ⟨[],rfl,rfl,λ_ h=>hQ h @E,bo d5,ax⟩ (λi ys H' _ ⟨_,_,_,_,s',_⟩=>SqL.of (s'.get χ)) ?_ ?_
    ·rintro i y ys H' hy ⟨a6,rfl,d3,hk,s',eD⟩;obtain⟨r,θ,rfl⟩:=ay hy;have i4:=(bA.mp θ).1;have er:=s'.get (α.tr r (dt θ));have m2:a6.length=i:=by have:=Wy X3 d3;rw[bx,bx,tu] at this;omega
     lia;intro tr q5 π a3 e0;have h4:tr≠n5:=λz=>(by rw[z,eD] at π;cases π);have g0:=a3.get eD;refine⟨g0,by rw[bx];exact aR @A,a6++[(tr,r.2)],by rw[ee];rfl,by rw[ee,d3,take_succ θ,ee];rfl,λr2 h2=>?_,λb ob e=>?_,ax⟩
     ·rcases hB.mp h2 with h2 | h2
      ·exact(hk.same a3).updL g0 (λb ob n e=>by rw[aG n];exact e) r2 h2
      ·rw[gA] at h2;subst h2;rw[aG h4];exact e0
     ·rw[aG (ao e d5)];exact a3.get (s'.get e)
    ·rintro ys s5 ⟨a6,rfl,d3,m0,k4,m7⟩;rw[bx,mc,hn.et] at d3;lia;intro tk q5 π a3 e0;have ε:=k4.trans a3;have a0:=ε.get φ;lia;refine cV a0 T.dS T.dN (by show 2 < 1000;decide) rfl λq4 b6=>?_;have ψ:=(Kx.upd b6).hnd a0 (α.same ε);have f9:=(Kx.upd b6).tup a0 (ε.get g4);have f7:=(Kx.upd b6).tup a0 (ε.get e1);have f1:=(Kx.upd b6).rw a0 (ρ.same ε);have ω:=(Kx.upd b6).tup a0 e0;have f3:=(Kx.upd b6).qs a0 (m0.same a3);have f5:=b6.at';have k8:Kx x H q4:=l0.trans ((Kx.same ε).trans (Kx.upd b6));have m1:=ψ.o;clear b6 a0 ε k4 a3 e0 π m0 m7 d5 α χ φ e1 g4 l0 ρ;lia;intro to s3 q0 a5 n3;have d2:=a5.get f5;lia;refine cV d2 T.dS T.uk (by show 3 < 1000;decide) rfl λn4 d7=>?_;have d1:Kpt n4 ti ts tk to a4 a6 N:=(Kx.upd d7).kpt d2 ⟨a5.get f9,a5.get f7,f1.same a5,c2,a5.get ω,f3.same a5,d3,n3⟩;have ο:=d7.at';have k7:Kx x H n4:=k8.trans ((Kx.same a5).trans (Kx.upd d7));clear d7 d2 a5 n3 q0 f5 k8 f9 f7 f1 ω f3 m1 ψ;lia;refine aF ο T.dS T.so rfl ?_;lia;refine aF ο T.dS T.mG rfl ?_;lia;refine aF ο T.dS T.dN rfl ?_;lia;refine⟨ti,ts,tk,to,a4,a6,N,rfl,d1,g,λdb s0 ws p0 d8 wi=>?_⟩;have a8:=d8.get ο;lia;refine cV a8 T.dS T.jL (by show 4 < 1000;decide) rfl λq3 c5=>?_;have m3:db≠x:=cF wi.d a8 λz=>by cases z
     have l3:∀q∈ws,q.2≠x:=λq hq z=>by
      obtain⟨C,r3,fs,e,_⟩:=(wi.ob q hq).name;rw[z,a8] at e;injection e with e
      injection e with _ _ e
      injection e with e _
      injection e with e _
      exact hQ e @C
     have f0:=(Kx.upd c5).wia wi m3 l3 a8;have d0:=(Kx.upd c5).kpt a8 (d1.same d8);have a7:=c5.at';have n9:Kx x H q3:=k7.trans ((Kx.same d8).trans (Kx.upd c5));clear c5 wi d1 ο a8 d8 k7 p0;lia;refine aF a7 T.dS T.mG rfl ?_;lia;refine aF a7 T.dS T.dN rfl ?_;lia;refine aF a7 T.dS T.uk rfl ?_;lia;refine aF a7 T.dS T.jL rfl ?_;lia;refine⟨ti,ts,tk,to,db,a4,a6,N,rfl,d0,g,f0.knw,λr9 h3=>?_⟩;have l2:=h3.get a7;have τ:=d0.same h3;lia;refine aF l2 T.dS T.mG rfl ?_;lia;refine⟨ts,a4,N,rfl,τ.s,τ.sr,c2,g,λDo r7 od r0 n7 r1 tp=>?_⟩;lia;intro Y r5 q9 n6 q1;have c0:=h3.trans (n7.trans n6);have Z:=c0.get a7;lia;refine cV Z T.dS T.oR (by show 5 < 1000;decide) rfl λq2 c4=>?_;lia;exact q q2 od (n9.trans ((Kx.same c0).trans (Kx.upd c4))) ⟨⟨dx,ti,ts,tk,to,db,Y,a4,a6,ws,c4.at',(Kx.upd c4).kpt Z (d0.same c0),(Kx.upd c4).wia (f0.same c0) m3 l3 Z,(Kx.upd c4).tup Z q1⟩,g,tp⟩
noncomputable abbrev NAof (a:Ad):NP:=λH p N od=>NetA H a.de a.bf a.aT a.aB p N od
theorem kq (T:Tx K mg a):FnOk P w K mg base CX0 1 a.cv a.qM ["self"] (GC (NAof a)):=by
 refine T.dD.1.okA wm fun α A outer s H vs Q E γ h=>?_;obtain⟨p,N,od,rfl,na,q⟩:=h;obtain⟨dx,i,s,t,o,d,Y,rs,qs,ws,Z,kp,β,eq⟩:=na.ho;have hi:=kp.i;refine⟨_,((ai (aD (a9 (cc (K:=K) rfl) @F T.g5 W2 (aa (aH (K:=K) rfl (pv 0) rfl) af))))),aw (σ':=[a' _]) rfl ?_⟩;lia;refine aF Z T.dS T.so rfl ?_;lia;exact q
theorem jy (T:Tx K mg a):FnOk P w K mg base CX0 1 a.b9 a.pq ["self"] (Qw (NAof a)):=by
 refine T.c9.1.okA vc fun α A outer s H vs Q E γ h=>?_;obtain⟨p,N,od,rfl,na,q⟩:=h;obtain⟨dx,i,s,t,o,d,Y,rs,qs,ws,Z,kp,β,eq⟩:=na.ho;have ho:=kp.o;refine⟨_,((ai (aD (a9 (cc (K:=K) rfl) @F T.g5 W2 (aa (aH (K:=K) rfl (pv 0) rfl) af))))),aw (σ':=[a' _]) rfl ?_⟩;lia;refine aF Z T.dS T.uk rfl ?_;lia;exact q
theorem iG (T:Tx K mg a):FnOk P w K mg base CX0 1 a.bP a.nW ["self"] (Jk (NAof a)):=by
 refine T.cK.1.okA tV fun δ A outer s H vs Q E ζ h=>?_;obtain⟨p,N,od,rfl,na,q⟩:=h;obtain⟨dx,i,s,t,o,d,Y,rs,qs,ws,α,kp,ε,eq⟩:=na.ho;have ht:=kp.t;refine⟨_,((ai (aD (a9 (cc (K:=K) rfl) @F T.g5 W2 (aa (aH (K:=K) rfl (pv 0) rfl) af))))),aw (σ':=[a' _]) rfl ?_⟩;lia;refine aF α T.dS T.dN rfl ?_;lia;intro D H2 β Z γ;exact q D H2 qs β Z γ (fun φ m=>Z.get (kp.tr φ m)) kp.et
theorem fg (T:Tx K mg a):FnOk P w K mg base CX0 3 a.cO a.sZ ["self","name"] (Jg (NAof a) a.bf a.aT a.aB):=by
 refine T.cC.1.okA yz fun θ A outer s H vs Q E ε h=>?_;obtain⟨p,N,od,z,rfl,na,hz,q⟩:=h;have ρ:=sM ε;obtain⟨dx,i,s,t,o,d,Y,rs,qs,ws,ζ,kp,α,eq⟩:=na.ho;have g:=na.g
 refine⟨_,((ae (bL (aj (jK T) ε T.lD T.fU (!j 1 (aa (aH (K:=K) rfl (pv 0) rfl) af))))
  (ai (aD (oJ ρ (aH (K:=K) rfl (pv 0) rfl) (pv 1) (λ_ _=>rfl)))))),aw (σ':=[a' _,a' _]) rfl ?_⟩
 lia;refine aF ζ T.dS T.jL rfl ?_;lia;refine⟨z,d,N.names,rfl,α.knw,hz,g.nm z hz,λH2 γ=>?_⟩;have Z:=α.same γ;lia;refine aF (γ.get ζ) T.dS T.jL rfl ?_;lia
 have β:∀ws:Tn,z∈ws.map (·.1)->∃q∈ws,q.1=z/\valV (ws.map λq=>((WO q.1:Key),V.ref q.2)) (WO z)=a' (.ref q.2):=by
  intro ws
  induction ws with
  | nil=>intro h;cases h
  | cons q l ih=>
    intro h;by_cases e:q.1=z
    ·exact⟨q,W6 ..,e,mQ (Wy WO e)⟩
    ·rw[Xk] at h;obtain⟨φ,m,η,v⟩:=ih ((WH.mp h).resolve_left λh2=>e h2.symm);refine⟨φ,W1 _ m,η,?_⟩;rw[Xk,mR λh2=>e (ZV h2)];exact v
 obtain⟨φ,m,e,v⟩:=β ws (by rw[α.nm];exact hz);refine tZ Z.d v ?_;have δ:=Z.ob φ m;rw[e] at δ;lia;exact q φ.2 H2 γ δ
theorem jC (T:Tx K mg a):FnOk P w K mg base CX0 1 a.bp a.kQ ["self"] (QB (NAof a)):=by
 refine T.cf.1.okA qi λa3 A outer s H vs Q E hr h=>?_;obtain⟨p,N,od,rfl,na,q⟩:=h;obtain⟨dx,i,s,t,o,d,Y,rs,qs,ws,θ,kp,wi,eq⟩:=na.ho;have g:=na.g;have φ:=AD g na.tp;have hi:=kp.i;have ht:=kp.t;have χ:qs.length=N.sts.length:=by rw[<-kp.et,bx]
 have δ:=φ;unfold need at δ;rw[eX,eX,bx] at δ;refine⟨_,((ai (aD (aE km (aE km (a9 (cc (K:=K) rfl) @F T.g5 W2 (aa (aH (K:=K) rfl (pv 0) rfl) af)) (bC (osc:=ag dX) (ON:=["self"]) (N:=n10) (n:=1) (fx:=[]) rfl rfl rfl @H (kl (K:=K) rfl (aH (K:=K) rfl (pv 0) rfl)) (aA @C) (!C (ar (i:=0) (show kv (n10:B') from by decide +kernel) rfl @D) (!A @I (pv 0) ah)))) (a9 (cc (K:=K) rfl) @F T.g5 W2 (aa (aH (K:=K) rfl (pv 0) rfl) af)))))),aw (σ':=[a' _]) rfl ?_⟩;lia;refine aF θ T.dS T.so rfl ?_;lia;intro τ H2 f2 η e2;have ο:=η.get ht;lia;refine aF (η.get θ) T.dS T.dN rfl ?_;lia;intro D3 ε;refine tz (xs:=qs.map λr=>V.ref r.1) (λi ys H'=>Cs (λi ys=>ys=((qs.take i).map (·.2.1)).map V.str) H2 D3 i ys H') (Cs.zero ε rfl) (λi ys H' _ c=>SqT.of (c.same.get ο)) (λi x ys H' ψ c=>?_) (λys H3 c=>?_)
 ·obtain⟨r,β,rfl⟩:=ay ψ;have ω:=(bA.mp β).1;have er:=c.same.get (η.get (kp.tr r (dt β)));lia;refine Cs.put ε c.same c.at' c.len @A ?_;rw[c.pv,take_succ β,ee,ee];rfl
 ·have ξ:=c.at';rw[c.pv,bx,mc] at ξ;have ζ:=c.same;clear c;refine rj (ζ.get e2) ξ (by rw[bx,bx,bx,ra];omega) λD4 H4 f4 υ π=>?_;have Z:=η.trans (ζ.trans υ);have a0:=Z.get eq;lia;refine aF (Z.get θ) T.dS T.oR rfl ?_;lia;intro D5 H5 f5 ν e5;refine rj (ν.get π) e5 (by rw[eX,bx,bx,bx,bx,ra];omega) λD6 H6 α ρ ι=>?_;have en:N.ins++qs.map (·.2.1)++od=need N od:=by unfold need;rw[<-kp.et,WT];rfl
  rw[<-ee,<-ee,en] at ι;have γ:=Z.trans ν;exact q D6 H6 (γ.free α) (γ.trans ρ) ι
theorem BR (T:Tx K mg a):FnOk P w K mg base CX0 4 a.gN a.x6 ["net","row","state"] (MY (NAof a)):=by
 refine T.nK.1.okA oy λb6 A outer s H vs Q E ν h=>?_;obtain⟨p,N,od,row,st,rfl,na,q⟩:=h;have ρ:=sM ν;obtain⟨dx,i,s,t,o,d,Y,rs,qs,ws,hp,kp,wi,eq⟩:=na.ho;have g:=na.g;have tp:=na.tp;have nl:=AD g tp
 refine⟨_,((ae (az (i:=3) oy.nd rfl @D r8)
  (ae (fG W5 rfl (aK (K:=K) rfl (aZ (pv 0) T.dS T.kC (jC T) (ν.mono @C) T.cf.2 .nil bJ)) (ar (i:=4) oy.nd rfl @D) (ai (Ao ρ (pv 3) (pv 4) (PE.or (fH (fH (pv 0) T.dS T.fZ (fg T) (ν.mono @C) T.cC.2 .nil bJ (!j 4 af)) T.nN T.BY (Az T) (ν.mono @C) T.jf.2 .nil bJ (!j 3 (!j 1 (!j 2 af)))) (PE.or (fH (fH (pv 0) T.dS T.fZ (fg T) (ν.mono @C) T.cC.2 .nil bJ (!j 4 af)) T.kT T.AG (yK T) (ν.mono @C) T.ir.2 .nil bJ (!j 3 (!j 1 (!j 2 af)))) (fH (fH (pv 0) T.dS T.fZ (fg T) (ν.mono @C) T.cC.2 .nil bJ (!j 4 af)) T.fX T.xa (vg T) (ν.mono @C) T.fV.2 .nil bJ (!j 3 (!j 1 (!j 2 af)))))) rfl)))
  (ai (aD (pv 3)))))),aw (σ':=[a' _,a' _,a' _,gn,gn]) rfl ?_⟩
 lia;intro Z H1 f1 s1 e1;have a5:=s1.get hp;lia;refine aI a5 rfl ?_;lia;refine⟨p,N,od,rfl,na.same s1,fun τ H2 f2 s2 e2=>?_⟩;have a0:=s1.trans s2;lia;refine jM (xs:=(need N od).map V.str) (λi σ H'=>∃v f,σ=[a' (.ref p),a' (nat row),a' (nat st),a' (.ref Z),v]/\Same H H'/\H' τ=a' (.lst ((need N od).map V.str))/\H' Z=a' (.dK (bitK f ((need N od).take i)))/\Pre N row st ((need N od).take i) f) ⟨gn,λ_=>false,rfl,a0,e2,s2.get e1,Pre.nil ..⟩ (λi σ H' _ ⟨_,_,_,_,e',_⟩=>SqL.of e') ?_ ?_
 ·rintro i y σ H' ψ ⟨v,f,rfl,s',eD,π,pr⟩;obtain⟨z,hz,rfl⟩:=ay ψ;have b3:=(bA.mp hz).1;have θ:=(ly g tp z).mp (dt hz);have φ:=s'.get hp;have ο:=na.same s';obtain⟨a8,a7,a6,x1,x2,x3⟩:=nr g;have ε:=w8 g tp hz
  have fin:∀(b:X1) (H4 ζ:Hp),Same H' H4->Upd H4 ζ Z (.dK (putK (bitK f ((need N od).take i)) (WO z) (nat (M.bn b))))->Bt N row st ((need N od).take i) f z b->∃ξ,Same H ζ/\ζ τ=a' (.lst ((need N od).map V.str))/\ζ Z=a' (.dK (bitK ξ ((need N od).take (i + 1))))/\Pre N row st ((need N od).take (i + 1)) ξ:=λb H4 ζ s4 η bt=>by
   have ek:putK (bitK f ((need N od).take i)) (WO z) (nat (M.bn b))=bitK (λy=>if y=z then b else f y) ((need N od).take (i + 1)):=by
    rw[Ee (LZ f _) ε,take_succ hz];unfold bitK;rw[ee];congr 1
    ·exact Ye λy ψ=>by show(_,nat (M.bn (f y)))=(_,nat (M.bn (if y=z then b else f y)));rw[oT (λ(e:y=z)=>ε (e ▸ ψ))]
    ·show[(_,nat (M.bn b))]=[(_,nat (M.bn (if z=z then b else f z)))];rw[zt rfl]
   rw[ek] at η;refine⟨_,λbb o e=>η.oth _ _ (ao e f1) (s4.get (s'.get e)),η.oth _ _ (cF (s4.get eD) (s4.get π) λz=>by cases z) (s4.get eD),η.at',by rw[take_succ hz];exact pr.step ε bt⟩
  have lk:(bitK f ((need N od).take i)).length<=1000:=by unfold bitK;rw[bx,tu];omega
  lia;have υ:=θ;unfold Nt.names at υ;rcases hB.mp υ with h' | h'
  ·rcases hB.mp h' with h' | h'
   ·refine ZN ?_;lia;refine aI φ rfl ?_;lia;refine⟨p,N,od,z,rfl,ο,θ,λw H3 ι χ=>?_⟩;have α:=ι.get π;cases χ with
    | i k δ hk e=>
      lia;refine aI e rfl ?_;lia;refine⟨w,δ,.str z,(k:Int),.ref Z,(row:Int),(st:Int),rfl,e,@A,?_⟩;rw[C1,show(if row.testBit k=true then (1:Int) else 0)=((M.bn (row.testBit k):Nat):Int) by unfold M.bn;cases row.testBit k<;>rfl];lia;refine rh α (aR lk) fun ζ η=>?_;obtain⟨ξ,a1,a2,a3,a4⟩:=fin (row.testBit k) H3 ζ ι η (Vg g hk);lia;exact⟨_,ξ,rfl,a1,a2,a3,a4⟩
    | s β δ γ hk e et=>exact hQ (ic.mpr ⟨_,hk,rfl⟩) (x1 z h')
    | t k y δ hk e=>exact hQ (ic.mpr ⟨_,dt hk,rfl⟩) (x2 z h')
   ·refine Zp (ZN ?_);lia;refine aI φ rfl ?_;lia;refine⟨p,N,od,z,rfl,ο,θ,λw H3 ι χ=>?_⟩;have α:=ι.get π;cases χ with
    | i k δ hk e=>exact hQ h' (x1 z (dt hk))
    | s β δ γ hk e et=>
      have ω:=EA g tp hz β hk;lia;refine aI e rfl ?_;lia;refine⟨w,δ,.str z,γ,Z,β,_,λy=>((M.bn (f y):Nat):Int),(row:Int),(st:Int),rfl,e,SqT.of et,α,λy ψ=>zZ f (ω y ψ),?_⟩;rw[RQ];lia;refine rh α (aR lk) fun ζ η=>?_;obtain⟨ξ,a1,a2,a3,a4⟩:=fin (xb f β) H3 ζ ι η (P1 g hk ω);lia;exact⟨_,ξ,rfl,a1,a2,a3,a4⟩
    | t k y δ hk e=>exact hQ (ic.mpr ⟨_,dt hk,rfl⟩) (x3 z h')
  ·refine Zp (Zp ?_);lia;refine aI φ rfl ?_;lia;refine⟨p,N,od,z,rfl,ο,θ,λw H3 ι χ=>?_⟩;have α:=ι.get π;cases χ with
   | i k δ hk e=>exact hQ h' (x2 z (dt hk))
   | s β δ γ hk e et=>exact hQ h' (x3 z (ic.mpr ⟨_,hk,rfl⟩))
   | t k y δ hk e=>
     lia;refine aI e rfl ?_;lia;refine⟨w,δ,.str z,.str y,(k:Int),.ref Z,(row:Int),(st:Int),rfl,e,@A,?_⟩;rw[C1,show(if st.testBit k=true then (1:Int) else 0)=((M.bn (st.testBit k):Nat):Int) by unfold M.bn;cases st.testBit k<;>rfl];lia;refine rh α (aR lk) fun ζ η=>?_;obtain⟨ξ,a1,a2,a3,a4⟩:=fin (st.testBit k) H3 ζ ι η (Vf g hk);lia;exact⟨_,ξ,rfl,a1,a2,a3,a4⟩
 ·rintro σ H' ⟨v,f,rfl,s',eD,π,pr⟩;rw[bx,mc] at π pr;lia;exact q Z H' f f1 s' π (J1 g tp pr)
theorem zD (T:Tx K mg a):FnOk P w K mg base CX0 2 a.kL a.CJ ["wires","bits"] Jt:=by
 refine T.pB.1.okA GJ fun η A outer s H vs Q E β h=>?_;obtain⟨l,d,ws,zs,f,rfl,hl,hd,ln,sub,q⟩:=h;have ρ:=sM β;refine⟨_,((ai (aD (aj (iF T) β T.kE T.gE (aa (bC (osc:=ag rX) (ON:=["wires","bits"]) (N:=["place","wire","bits"]) (n:=2) (fx:=[1]) rfl rfl rfl @H (pQ (K:=K) rfl @F T.eg (pv 0)) (xO (fw (aA @C) (fw (aA @C) rF))) (λ_ _ _ _ _=>⟨(ro (K:=K) (n:=2) rfl rfl (bD (ar (i:=0) (show kv (["place","wire","bits"]:B') from by decide +kernel) rfl @D) (bD (ar (i:=1) (show kv (["place","wire","bits"]:B') from by decide +kernel) rfl @D) iE))),(mf (aM kU (oJ ρ (pv 2) (pv 1) (λ_ _=>rfl)) ah (aW _))),(pv 0)⟩)) af))))),aw (σ':=[a' _,a' _]) rfl ?_⟩;lia;refine .inl ⟨⟨_,SqL.of hl⟩,?_⟩;intro D γ;refine uI (xs:=ws.map V.str) (λi ys H'=>ys=((lx i).filter λk=>f (ws.getD k "")).map nat/\Same H H'/\H' D=a' (.lst ys)) ⟨rfl,bo γ,ax⟩ (λi ys H' _ ⟨_,s',_⟩=>SqL.of (s'.get hl)) (λi x ys H' θ H2 δ ⟨ey,s',α⟩ fp Z ι=>?_) (λys H' ⟨ey,s',α⟩=>?_)
 ·obtain⟨z,hz,rfl⟩:=ay δ;have ε:=(bA.mp hz).1;have ζ:ws.getD i ""=z:=by rw[bB,hz];rfl
  have fs:(lx (i + 1)).filter (λk=>f (ws.getD k ""))=(lx i).filter (λk=>f (ws.getD k ""))++(if f z=true then [i] else []):=by rw[XR,Yb,ZI,ζ];rfl
  have Y:=Z.get α;lia;refine tZ (Z.get (s'.get hd)) (zZ f (sub z (dt hz))) ?_;cases hf:f z with
  | true=>
    lia;refine⟨Y,?_,?_,λb o e=>?_,ax⟩
    ·rw[ey,bx];have:=Yn (λk=>f (ws.getD k "")) (lx i);rw[W7] at this;exact aR @A
    ·rw[fs,hf,ey];simp
    ·rw[aG (ao e γ)];exact Z.get (s'.get e)
  | false=>
    lia;refine⟨?_,s'.trans Z,Y⟩;rw[fs,hf,ey];simp
 ·rw[bx] at ey;rw[ey] at α;lia;refine⟨D,_,rfl,α,λk hk=>?_,?_⟩
  ·have:=Xd.mp (Y4.mp hk).1;omega
  ·rw[Uw];exact q H' s'
theorem TB:(∀(v:V) (r:ef (Wz×V)),([]:ef (Wz×V))≠(("name":Wz),v)::r)/\∀(v:V) (r:ef (Wz×V)),([]:ef (Wz×V))≠(("ins":Wz),v)::r:=⟨λ_ _ h=>(by cases h),λ_ _ h=>(by cases h)⟩
theorem JM (x:V) (fs:ef (Wz×V)):(∀(v:V) (r:ef (Wz×V)),(("net":Wz),x)::fs≠(("name":Wz),v)::r)/\∀(v:V) (r:ef (Wz×V)),(("net":Wz),x)::fs≠(("ins":Wz),v)::r:=
 ⟨λ_ _ h=>(by injection h with h _;injection h with h _;exact hQ h @C),λ_ _ h=>(by injection h with h _;injection h with h _;exact hQ h @C)⟩
theorem wV (T:Tx K mg a):FnOk P w K mg base CX0 1 a.cq a.qK ["self","net"] (Gy (NAof a) a.gh):=by
 refine T.i7.1.okA wj fun ρ A outer s H vs Q E τ h=>?_;obtain⟨x,dx,n,N,od,rfl,θ,na,q⟩:=h
 refine⟨_,((ae (cW (K:=K) rfl (pv 0) (pv 1) rfl)
  (ae (cW (K:=K) rfl (pv 0) ah rfl)
  (ae (cW (K:=K) rfl (pv 0) r8 rfl)
  (ai (cW (K:=K) rfl (pv 0) (dJ af) rfl)))))),aw (σ':=[a' _,a' _]) rfl ?_⟩
 lia;refine cV θ T.pD T.oQ (by show 0 < 1000;decide) rfl λH1 ζ=>?_;lia;refine cV ζ.at' T.pD T.uj (by show 1 < 1000;decide) rfl λH2 π=>?_;have Y:=ζ.trans π;lia;intro d ψ ξ γ υ;lia;refine cV (γ.get Y.at') T.pD T.pR (by show 2 < 1000;decide) rfl fun χ α=>?_;lia;intro l φ ε ν ο;lia;refine cV (ν.get α.at') T.pD T.rD (by show 3 < 1000;decide) rfl fun ι β=>?_;lia;have η:Kx x H ι:=(Kx.upd Y).trans ((Kx.same γ).trans ((Kx.upd α).trans ((Kx.same ν).trans (Kx.upd β))));have Z:l≠x:=λz=>(by rw[z,α.at'] at ε;cases ε)
 have δ:H l=none:=by
  cases e:H l with
  | none=>rfl
  | some o=>
    have:=α.oth _ _ Z (γ.get (Y.oth _ _ Z e));rw[ε] at this;cases this
 exact q ι l η δ ⟨⟨dx,d,β.at'⟩,β.oth _ _ Z ο,na.keep θ TB η⟩
theorem wU (T:Tx K mg a):FnOk P w K mg base CX0 1 a.ck a.qJ ["self"] (M5 (NAof a) a.gh):=by
 refine T.gG.1.okA wg λZ A outer s H vs Q E α h=>?_;obtain⟨p,l,n,N,od,st,as,rfl,θ,q⟩:=h;obtain⟨dx,d,Y⟩:=θ.ho;have hl:=θ.hl;refine⟨_,((ai (aD (a9 (cc (K:=K) rfl) @F T.g5 W2 (aa (aH (K:=K) rfl (pv 0) rfl) af))))),aw (σ':=[a' _]) rfl ?_⟩;lia;refine aF Y T.pD T.rD rfl ?_;lia;exact q
theorem Ex (T:Tx K mg a):FnOk P w K mg base CX0 5 a.gf a.zT ["self","row"] (M3 (NAof a) a.gh):=by
 refine T.mO.1.okA we λe0 A outer s H vs Q E τ h=>?_;obtain⟨p,l,n,N,od,st,row,as,rfl,θ,χ,d7,q⟩:=h;obtain⟨dx,d,ω⟩:=θ.ho;have hl:=θ.hl;have na:=θ.na;have g:=na.g;have tp:=na.tp;have a0:l≠p:=cF hl ω λz=>by cases z
 obtain⟨d9,ni,ns,δ,no,nd,d4,d5,d6,d3,hn,_⟩:=na.ho
 refine⟨_,((ae (du (h7 (gj (aj (mB T) τ T.mJ T.iq (!j 1 (aa (aP (be (K:=K) rfl) @F T.ia W8 (aa (aZ (aH (K:=K) rfl (pv 0) rfl) T.dS T.ml (kq T) (τ.mono @C) T.dD.2 .nil bJ) af)) af))))) (ai jt) bg)
  (ae (cW (K:=K) rfl (pv 0) (aj (BR T) τ T.EO T.nK (aa (aH (K:=K) rfl (pv 0) rfl) (!j 1 (aa (aH (K:=K) rfl (pv 0) rfl) af)))) rfl)
  (ae (cW (K:=K) rfl (pv 0) (aj (zD T) τ T.Ci T.pB (aa (bC (osc:=ag pP) (ON:=["self","row","answer"]) (N:=["store"]) (n:=1) (fx:=[]) rfl rfl rfl @H (aK (K:=K) rfl (aZ (aH (K:=K) rfl (pv 0) rfl) T.dS T.jA (iG T) (τ.mono @C) T.cK.2 .nil bJ)) (aA @C) (!C (ar (i:=0) (show kv (["store"]:B') from by decide +kernel) rfl @D) (!A @I (pv 0) ah))) (aa (aH (K:=K) rfl (pv 0) rfl) af))) rfl)
  (ae (az (i:=2) we.nd rfl @D (aj (zD T) τ T.Ci T.pB (aa (aZ (aH (K:=K) rfl (pv 0) rfl) T.dS T.kB (jy T) (τ.mono @C) T.c9.2 .nil bJ) (aa (aH (K:=K) rfl (pv 0) rfl) af))))
  (ae (bL (gY (K:=K) rfl WC Xt Xr ie (aH (K:=K) rfl (pv 0) rfl) (!j 2 af)))
  (ai (aD (pv 2))))))))),aw (σ':=[a' _,a' _,gn]) rfl ?_⟩
 lia;refine aF ω T.pD T.oQ rfl ?_;lia;refine aI hn rfl ?_;lia;refine⟨n,N,od,rfl,na,λD1 H1 f1 s1 e1=>?_⟩;have b3:=s1.get ω;lia;rw[bx,bK χ];lia;refine aF b3 T.pD T.oQ rfl ?_;lia;refine aF b3 T.pD T.uj rfl ?_;lia;refine⟨n,N,od,row,st,rfl,na.same s1,λdb H2 f f2 s2 e2 vl=>?_⟩;have a3:=s1.trans s2;have ζ:=a3.get ω;lia;refine cV ζ T.pD T.pR (by show 4 < 1000;decide) rfl λH3 u3=>?_;have Z:=u3.at';have k3:Kx p H H3:=(Kx.same a3).trans (Kx.upd u3);have a5:=na.keep ω (JM _ _) k3;have d0:=k3 _ _ a0 hl
 have b6:n≠p:=λz=>by
  rw[z,ω] at hn;injection hn with hn
  injection hn with _ _ hn
  exact(JM _ _).2 _ _ hn
 have c0:=k3 _ _ b6 hn;have ε:=u3.oth _ _ (cF e2 ζ λz=>by cases z) e2;lia;refine aF Z T.pD T.oQ rfl ?_;lia;refine aI c0 rfl ?_;lia;refine⟨n,N,od,rfl,a5,λD4 H4 qs f4 s4 π qk et=>?_⟩;have ν:qs.length<=16:=by have:=g.lt;rw[<-et,bx] at this;exact this
 lia;intro D5 α;refine aJ (xs:=qs.map λr=>V.ref r.1) (λi ys H'=>Cs (λi ys=>ys=((qs.take i).map (·.2.2)).map V.str) H4 D5 i ys H') (Cs.zero α rfl) (λi ys H' _ c=>SqL.of (c.same.get π)) (λi x ys H' hx c=>?_) (λys H5 c=>?_)
 ·obtain⟨r,ρ,rfl⟩:=ay hx;have d8:=(bA.mp ρ).1;have er:=c.same.get (qk r (dt ρ));lia;refine Cs.put α c.same c.at' c.len @A ?_;rw[c.pv,take_succ ρ,ee,ee];rfl
 ·have ο:=c.at';rw[c.pv,bx,mc] at ο;have φ:=s4.trans c.same;clear c;have d1:qs.map (·.2.2)=N.sts.map (·.2):=by rw[<-et,WT];rfl
  rw[d1] at ο;have a8:=φ.get Z;lia;refine aF a8 T.pD T.pR rfl ?_;lia;refine⟨D5,db,_,need N od,f,rfl,ο,φ.get ε,by rw[bx,<-et,bx];omega,λw hw=>(ly g tp w).mpr (by obtain⟨q',c2,rfl⟩:=ic.mp hw;exact g.ts q' c2),λH6 s6=>?_⟩;rw[Pl g tp vl];have ι:=φ.trans s6;have a7:=ι.get Z;lia;refine cV a7 T.pD T.uj (by show 4 < 1000;decide) rfl fun ψ u7=>?_;have υ:=u7.at';have ξ:Kx p H3 ψ:=(Kx.same ι).trans (Kx.upd u7);have k7:Kx p H ψ:=k3.trans ξ;have a4:=na.keep ω (JM _ _) k7;have c5:=k7 _ _ a0 hl;have c4:=k7 _ _ b6 hn;have d2:=ξ _ _ (cF ε Z λz=>by cases z) ε;clear u7 a7 ι s6 a8 ο α φ π qk et f4 s4 c0 a5 d0 ξ ε Z;lia;refine aF υ T.pD T.oQ rfl ?_;lia;refine aI c4 rfl ?_;lia;refine⟨n,N,od,rfl,a4,λD8 H8 f8 s8 e8=>?_⟩;have c3:=s8.get υ;lia;refine aF c3 T.pD T.pR rfl ?_;lia;have lo:=g.lo;refine⟨D8,db,N.outs,need N od,f,rfl,e8,s8.get d2,@A,λw hw=>(ly g tp w).mpr (g.os w hw),fun η s9=>?_⟩;rw[Po g tp vl];have γ:=s8.trans s9;have a6:=γ.get υ;have c1:=γ.get c5;lia;refine aF a6 T.pD T.rD rfl ?_;lia;refine kX c1 (by rw[bx,ra];omega) λY β=>?_;lia;refine q Y (λb ob n1 n2 e=>β.oth _ _ n2 (γ.get (k7 _ _ n1 e))) ⟨⟨dx,db,β.oth _ _ a0.symm a6⟩,by rw[β.at',ee];rfl,(a4.same γ).updL c1 β.oth⟩
theorem NQ (T:Tx K mg a):FnOk P w K mg base CX0 4 a.rL a.LM ["net"] (Nj (NAof a)):=by
 refine T.Br.1.okA Ab λc3 A outer s H vs Q E χ h=>?_;obtain⟨p,N,od,rfl,na,q⟩:=h;have ρ:=sM χ;obtain⟨dx,i,s,t,o,d,Y,rs,qs,ws,hp,kp,wi,eq⟩:=na.ho;have g:=na.g;have tp:=na.tp;have nl:=AD g tp;have hg:=K0 g tp
 refine⟨_,((ae (az (i:=1) Ab.nd rfl @D r8)
  (ae (fG W5 rfl (aK (K:=K) rfl (aZ (pv 0) T.dS T.kC (jC T) (χ.mono @C) T.cf.2 .nil bJ)) (ar (i:=2) Ab.nd rfl @D) (ai (Ao ρ (pv 1) (pv 2) (PE.or (fH (fH (pv 0) T.dS T.fZ (fg T) (χ.mono @C) T.cC.2 .nil bJ (!j 2 af)) T.nN T.AH (yL T) (χ.mono @C) T.iw.2 .nil bJ (!j 1 af)) (PE.or (fH (fH (pv 0) T.dS T.fZ (fg T) (χ.mono @C) T.cC.2 .nil bJ (!j 2 af)) T.kT T.yR (wR T) (χ.mono @C) T.gF.2 .nil bJ (!j 1 af)) (fH (fH (pv 0) T.dS T.fZ (fg T) (χ.mono @C) T.cC.2 .nil bJ (!j 2 af)) T.fX T.vo (ud T) (χ.mono @C) T.eW.2 .nil bJ (!j 1 af)))) rfl)))
  (ai (aD (pv 1)))))),aw (σ':=[a' _,gn,gn]) rfl ?_⟩
 lia;intro Z H1 f1 s1 e1;have a7:=s1.get hp;lia;refine aI a7 rfl ?_;lia;refine⟨p,N,od,rfl,na.same s1,fun τ H2 f2 s2 e2=>?_⟩;have a6:=s1.trans s2;lia;refine jM (xs:=(need N od).map V.str) (λi σ H'=>∃v hs,σ=[a' (.ref p),a' (.ref Z),v]/\Same H H'/\H' τ=a' (.lst ((need N od).map V.str))/\Hgd H' Z N ((need N od).take i) hs) ⟨gn,[],rfl,a6,e2,s2.get e1,rfl,λ_ h=>by cases h⟩ (λi σ H' _ ⟨_,_,_,_,e',_⟩=>SqL.of e') ?_ ?_
 ·rintro i y σ H' hy ⟨v,hs,rfl,s',eD,hd⟩;obtain⟨z,hz,rfl⟩:=ay hy;have c2:=(bA.mp hz).1;have ν:=(ly g tp z).mp (dt hz);have φ:=s'.get hp;have ψ:=na.same s';obtain⟨c1,c0,b6,x1,x2,x3⟩:=nr g;have a4:=w8 g tp hz
  have lk:(hs.map λq=>((WO q.1:Key),V.ref q.2)).length<=1000:=by
   have:=Wy X3 hd.nm;rw[bx,tu] at this;rw[bx];omega
  have fin:∀(t:eO) (β θ:Hp),Same H' β->β t=a' (.tup [nat (hgp N z).1,nat (hgp N z).2])->Upd β θ Z (.dK (putK (hs.map λq=>((WO q.1:Key),V.ref q.2)) (WO z) (.ref t)))->∃ι,Same H θ/\θ τ=a' (.lst ((need N od).map V.str))/\Hgd θ Z N ((need N od).take (i + 1)) ι:=λt β θ α et ε=>by
   rw[Ee (zs:=(need N od).take i) (by rw[WT,<-hd.nm,WT];rfl) a4] at ε;have a0:=α.get hd.d;refine⟨hs++[(z,t)],λbb o e=>ε.oth _ _ (ao e f1) (α.get (s'.get e)),ε.oth _ _ (cF (α.get eD) a0 λz=>by cases z) (α.get eD),by rw[ee];exact ε.at',by rw[ee,hd.nm,take_succ hz];rfl,λq hq=>?_⟩;rcases hB.mp hq with h | h
   ·have π:=α.get (hd.ob q h);exact ε.oth _ _ (cF π a0 λz=>by cases z) π
   ·rw[gA.mp h];exact ε.oth _ _ (cF et a0 λz=>by cases z) et
  lia;have υ:=ν;unfold Nt.names at υ;rcases hB.mp υ with h' | h'
  ·rcases hB.mp h' with h' | h'
   ·refine ZN ?_;lia;refine aI φ rfl ?_;lia;refine⟨p,N,od,z,rfl,ψ,ν,λw H3 ο wb=>?_⟩;cases wb with
    | i k δ hk e=>
      have a8:=(bA.mp hk).1;have:=g.li;lia;refine aI e rfl ?_;lia;refine⟨w,δ,.str z,(k:Int),.ref Z,rfl,e,@A,@A,λt β α et=>?_⟩;rw[shl1] at et;have η:β t=a' (.tup [nat (hgp N z).1,nat (hgp N z).2]):=by rw[hg.i k z hk];exact et
      lia;refine rh (α.get (ο.get hd.d)) (aR lk) fun θ ε=>?_;obtain⟨ι,a1,a2,a3⟩:=fin t β θ (ο.trans α) η ε;lia;exact⟨_,ι,rfl,a1,a2,a3⟩
    | s ζ δ γ hk e et=>exact hQ (ic.mpr ⟨_,hk,rfl⟩) (x1 z h')
    | t k y δ hk e=>exact hQ (ic.mpr ⟨_,dt hk,rfl⟩) (x2 z h')
   ·refine Zp (ZN ?_);lia;refine aI φ rfl ?_;lia;refine⟨p,N,od,z,rfl,ψ,ν,λw H3 ο wb=>?_⟩;cases wb with
    | i k δ hk e=>exact hQ h' (x1 z (dt hk))
    | s ζ δ γ hk e et=>
      have b3:=EA g tp hz ζ hk;have ω:=hd.same ο;lia;refine aI e rfl ?_;lia;refine⟨w,δ,.str z,γ,Z,ζ,_,λy=>(((hgp N y).1:Nat):Int),λy=>(((hgp N y).2:Nat):Int),rfl,e,SqT.of et,ω.d,λy hy=>(by obtain⟨t,t1,ξ⟩:=ω.val (b3 y hy);exact⟨t,t1,SqT.of ξ⟩),λt β α a5=>?_⟩;rw[Lm,Lm] at a5;have η:β t=a' (.tup [nat (hgp N z).1,nat (hgp N z).2]):=by rw[hg.s z ζ hk];exact a5
      lia;refine rh (α.get ω.d) (aR lk) fun θ ε=>?_;obtain⟨ι,a1,a2,a3⟩:=fin t β θ (ο.trans α) η ε;lia;exact⟨_,ι,rfl,a1,a2,a3⟩
    | t k y δ hk e=>exact hQ (ic.mpr ⟨_,dt hk,rfl⟩) (x3 z h')
  ·refine Zp (Zp ?_);lia;refine aI φ rfl ?_;lia;refine⟨p,N,od,z,rfl,ψ,ν,λw H3 ο wb=>?_⟩;cases wb with
   | i k δ hk e=>exact hQ h' (x2 z (dt hk))
   | s ζ δ γ hk e et=>exact hQ h' (x3 z (ic.mpr ⟨_,hk,rfl⟩))
   | t k y δ hk e=>
     have a8:=(bA.mp hk).1;have:=g.lt;lia;refine aI e rfl ?_;lia;refine⟨w,δ,.str z,.str y,(k:Int),.ref Z,rfl,e,@A,@A,λt β α et=>?_⟩;rw[shl1] at et;have η:β t=a' (.tup [nat (hgp N z).1,nat (hgp N z).2]):=by rw[hg.t k z y hk];exact et
     lia;refine rh (α.get (ο.get hd.d)) (aR lk) fun θ ε=>?_;obtain⟨ι,a1,a2,a3⟩:=fin t β θ (ο.trans α) η ε;lia;exact⟨_,ι,rfl,a1,a2,a3⟩
 ·rintro σ H' ⟨v,hs,rfl,s',eD,hd⟩;rw[bx,mc] at hd;lia;exact q Z H' hs f1 s' hd
theorem Eo (T:Tx K mg a):FnOk P w K mg base CX0 7 a.iJ a.zJ ["net"] (MZ (NAof a) a.aq):=by
 refine T.p9.1.okA mV λc5 A outer s H vs Q E υ h=>?_;obtain⟨p,N,od,rfl,na,q⟩:=h;have ρ:=sM υ;obtain⟨dx,i,s,t,o,d,tq,rs,qs,ws,hp,kp,wi,eq⟩:=na.ho;have g:=na.g;have tp:=na.tp;have lt:=g.lt;have lo:=g.lo;have li:=g.li
 refine⟨_,((ae (az (i:=1) mV.nd rfl @D (aj (NQ T) υ T.RM T.Br (!j 0 af)))
  (ae (bU (osc:=ag mw) (ON:=["net","pairs","nexts","outs"]) (N:=["row","pairs"]) (n:=1) (fx:=[1]) (i:=2) mV.nd rfl rfl rfl rfl rfl rfl @H (aK (K:=K) rfl (aZ (pv 0) T.dS T.jA (iG T) (υ.mono @C) T.cK.2 .nil bJ)) (aA @C) (!C (ar (i:=0) (show kv (["row","pairs"]:B') from by decide +kernel) rfl @D) (oJ ρ (pv 1) (!A @I (pv 0) ah) (λ_ _=>rfl))))
  (ae (bU (osc:=ag mw) (ON:=["net","pairs","nexts","outs"]) (N:=["wire","pairs"]) (n:=1) (fx:=[1]) (i:=3) mV.nd rfl rfl rfl rfl rfl rfl @H (aK (K:=K) rfl (aZ (pv 0) T.dS T.kB (jy T) (υ.mono @C) T.c9.2 .nil bJ)) (aA @C) (!C (ar (i:=0) (show kv (["wire","pairs"]:B') from by decide +kernel) rfl @D) (oJ ρ (pv 1) (pv 0) (λ_ _=>rfl))))
  (ai (aD (jv T.tI (dY T) (υ.mono @C) @F T.sN T.cb.2 .nil bJ (aa (aP (be (K:=K) rfl) @F T.ia W8 (aa (aZ (pv 0) T.dS T.ml (kq T) (υ.mono @C) T.dD.2 .nil bJ) af)) (!j 2 (!j 3 af)))))))))),aw (σ':=[a' _,gn,gn,gn]) rfl ?_⟩
 lia;refine⟨p,N,od,rfl,na,λDd H1 hs f1 s1 hd=>?_⟩;lia;refine aI (s1.get hp) rfl ?_;lia;refine⟨p,N,od,rfl,na.same s1,fun τ H2 ζ f2 s2 e2 qk et=>?_⟩;have a6:=s1.trans s2;have ξ:=hd.same s2;have Y:ζ.length=N.sts.length:=by rw[<-et,bx]
 have χ:∀{k:Nat} {r:Qs},ζ[k]? =a' r->(N.sts.map (·.2))[k]? =a' r.2.2:=λ{k r} h=>by rw[<-et,hH,hH,h];rfl
 lia;intro D3 a3;refine aJ (xs:=ζ.map λr=>V.ref r.1) (λi ys H'=>∃nx:ef Pr3,ys=refs nx/\Same H2 H'/\H' D3=a' (.lst ys)/\Prt H2 nx/\prs nx=((N.sts.map (·.2)).take i).map (hgp N)) ⟨[],rfl,bo a3,ax,λ_ h=>(by cases h),rfl⟩ (λi ys H' _ ⟨_,_,s',_⟩=>SqL.of (s'.get e2)) ?_ ?_
 ·rintro i y ys H' hy ⟨nx,rfl,s',e',pt,ep⟩;obtain⟨r,θ,rfl⟩:=ay hy;have c0:=(bA.mp θ).1;have er:=s'.get (qk r (dt θ));have ω:=χ θ;have ι:r.2.2∈need N od:=(ly g tp _).mpr (by obtain⟨φ,Z,e'⟩:=ic.mp (dt ω);rw[<-e'];exact g.ts φ Z);obtain⟨tt,v1,v2⟩:=ξ.val ι;have ln:nx.length=i:=by have:=Wy X3 ep;rw[bx,bx,tu,bx] at this;omega
  lia;refine tZ (s'.get ξ.d) v1 ?_;lia;refine⟨e',by rw[hZ];exact aR @A,nx++[(tt,hgp N r.2.2)],by unfold refs;rw[ee];rfl,λb ob e=>?_,ax,fun φ Z=>?_,?_⟩
  ·rw[aG (ao e a3)];exact s'.get e
  ·rcases hB.mp Z with h | h
   ·exact pt φ h
   ·rw[gA.mp h];exact v2
  ·show ab5 _ (nx++_)=_;rw[ee,show nx.map (·.2)=_ from ep,take_succ ω,ee];rfl
 ·rintro ys H3 ⟨nx,rfl,s3,e3,pn,en⟩;rw[bx,Y,XN (by rw[bx];exact p' _)] at en;have b3:=pn.same s3;have c1:=ξ.same s3;have ε:=a6.trans s3;clear e2 qk et χ pn f2;lia;refine aI (ε.get hp) rfl ?_;lia;refine⟨p,N,od,rfl,na.same ε,λD4 H4 f4 s4 π=>?_⟩;have a0:=c1.same s4;lia;intro ο α;refine aJ (xs:=N.outs.map V.str) (λi ys H'=>∃nx:ef Pr3,ys=refs nx/\Same H4 H'/\H' ο=a' (.lst ys)/\Prt H4 nx/\prs nx=(N.outs.take i).map (hgp N)) ⟨[],rfl,bo α,ax,λ_ h=>(by cases h),rfl⟩ (λi ys H' _ ⟨_,_,s',_⟩=>SqL.of (s'.get π)) ?_ ?_
  ·rintro i y ys H' hy ⟨nx,rfl,s',e',pt,ep⟩;obtain⟨z,hz,rfl⟩:=ay hy;have c0:=(bA.mp hz).1;have ι:z∈need N od:=(ly g tp _).mpr (g.os z (dt hz));obtain⟨tt,v1,v2⟩:=a0.val ι;have ln:nx.length=i:=by have:=Wy X3 ep;rw[bx,bx,tu] at this;omega
   lia;refine tZ (s'.get a0.d) v1 ?_;lia;refine⟨e',by rw[hZ];exact aR @A,nx++[(tt,hgp N z)],by unfold refs;rw[ee];rfl,λb ob e=>?_,ax,fun φ Z=>?_,?_⟩
   ·rw[aG (ao e α)];exact s'.get e
   ·rcases hB.mp Z with h | h
    ·exact pt φ h
    ·rw[gA.mp h];exact v2
   ·show ab5 _ (nx++_)=_;rw[ee,show nx.map (·.2)=_ from ep,take_succ hz,ee];rfl
  ·rintro ys H5 ⟨os,rfl,ν,e5,po,eo⟩;rw[bx,mc] at eo;have δ:=s4.trans ν;have γ:=ε.trans δ;have a7:=po.same ν;have a8:=b3.same δ;have c2:=δ.get e3;have b6:nx.length=N.sts.length:=by have:=Wy X3 en;rw[bx,bx,bx] at this;exact this
   have c4:os.length=N.outs.length:=by have:=Wy X3 eo;rw[bx,bx] at this;exact this
   have a4:∀q∈nx++os,q.2.1 < 2 ^ nx.length/\q.2.2 < 2 ^ N.ins.length:=fun φ Z=>by
    have:∃z,φ.2=hgp N z:=by
     rcases hB.mp Z with h | h
     ·have:φ.2∈prs nx:=ic.mpr ⟨φ,h,rfl⟩;rw[en] at this;obtain⟨z,_,e⟩:=ic.mp this;exact⟨z,e.symm⟩
     ·have:φ.2∈prs os:=ic.mpr ⟨φ,h,rfl⟩;rw[eo] at this;obtain⟨z,_,e⟩:=ic.mp this;exact⟨z,e.symm⟩
    obtain⟨z,e⟩:=this;rw[e,b6];exact⟨UP N z,UO N z⟩
   clear π f4;lia;refine aI (γ.get hp) rfl ?_;lia;refine⟨p,N,od,rfl,na.same γ,λD6 H6 f6 s6 e6=>?_⟩;lia;rw[bx];intro x c3 ψ η s7 e7;have β:=s6.trans s7;refine⟨x,c3,D3,ο,N.ins.length,nx,os,rfl,e7,⟨li,β.get c2,β.get e5,a8.same β,a7.same β,@A,@A,a4⟩,λH8 k8 ma=>⟨rfl,?_⟩⟩;have a5:Same H6 H8:=λb ob e=>k8 _ _ (ao e η) (s7.get e);exact q x H8 nx os (γ.free (s6.free η)) (γ.trans (s6.trans a5)) ma ⟨li,by omega,by omega,a4⟩ en eo
section
local macro_rules | `(tactic| walk_at "l2step") =>`(tactic| first | (with_reducible refine Ti ?_) | (with_reducible refine VL ?_))
theorem nk (T:Tx K mg a):FnOk P w K mg base CX0 1 a.iO a.zO ["letter","count"] Qz:=by
 refine T.iV.1.okA DW λZ A outer s H vs Q E α h=>?_;obtain⟨l,n,rfl,hl,hn,q⟩:=h;refine⟨_,((ai (aD (bC (osc:=ag pM) (ON:=["letter","count"]) (N:=["number","letter"]) (n:=1) (fx:=[0]) rfl rfl rfl @H (cE @F T.fo (!j 1 af)) (aA @C) (!C (ar (i:=0) (show kv (["number","letter"]:B') from by decide +kernel) rfl @D) (aE uc (pv 1) (a9 pA @F T.NW Z6 (!j 0 af)))))))),aw (σ':=[a' _,a' _]) rfl ?_⟩;lia;rw[wq];intro D Y;refine df (λi ys H'=>Cs (λi ys=>ys=(nmb l i).map V.str) H D i ys H') (Cs.zero Y rfl) (λi ys H' hi c=>?_) (λys H' c=>?_)
 ·lia;rw[YK];refine⟨OE @A,l,tx i,rfl,rfl,LU hl @A,?_⟩;refine Cs.put Y c.same c.at' c.len @A ?_;rw[c.pv,NT,ee];rfl
 ·have e:=c.at';rw[c.pv] at e;lia;exact q D H' Y c.same e
theorem BS (T:Tx K mg a):FnOk P w K mg base CX0 2 a.gP a.x9 ["name","pair"] QA:=by
 refine T.nL.1.okA uM λa0 A outer s H vs Q E ζ h=>?_;obtain⟨z,t,x,y,rfl,et,ψ,χ,q⟩:=h
 have pb:∀{m k i:Nat},(M.pl 1000 m)[i]? =a' k->k < 1000/\i < 1000:=λ{m k i} h=>by
  have a1:=Xd.mp (Y4.mp (dt h)).1;have a2:=(bA.mp h).1;have a3:=M.pl_le 1000 m;omega
 have l1:=M.pl_le 1000 x;have φ:=M.pl_le 1000 y
 refine⟨_,((ae (bU (osc:=ag j9) (ON:=["name","pair","stores"]) (N:=["place"]) (n:=1) (fx:=[]) (i:=2) uM.nd rfl rfl rfl rfl rfl rfl @H (aK (K:=K) rfl (aj (mD T) ζ T.o4 T.je (aa (!A @I (pv 1) ah) af))) (aA @C) (!C (ar (i:=0) (show kv (["place"]:B') from by decide +kernel) rfl @D) (aE uc bI (a9 pA @F T.NW Z6 (!j 0 af)))))
  (ai (aD (cL (!j 0 (aa (aE km (pv 2) (bC (osc:=ag j9) (ON:=["name","pair","stores"]) (N:=["place"]) (n:=1) (fx:=[]) rfl rfl rfl @H (aK (K:=K) rfl (aj (mD T) ζ T.o4 T.je (aa (!A @I (pv 1) ah) af))) (aA @C) (!C (ar (i:=0) (show kv (["place"]:B') from by decide +kernel) rfl @D) (aE uc bI (a9 pA @F T.NW Z6 (!j 0 af)))))) af))))))),aw (σ':=[a' _,a' _,gn]) rfl ?_⟩
 lia;refine⟨x,rfl,ψ,fun η H1 f1 ρ e1=>?_⟩;lia;intro τ γ;refine aJ (xs:=(M.pl 1000 x).map nat) (λi ys H'=>Cs (λi ys=>ys=(((M.pl 1000 x).take i).map λk=>("s":Wz)++tx k).map V.str) H1 τ i ys H') (Cs.zero γ rfl) (λi ys H' _ c=>SqL.of (c.same.get e1)) (λi v ys H' δ c=>?_) (λys H2 c=>?_)
 ·obtain⟨k,hk,rfl⟩:=ay δ;have b1:=pb hk;lia;refine⟨OE @A,"s",tx k,rfl,rfl,LU @H @A,?_⟩;refine Cs.put γ c.same c.at' c.len @A ?_;rw[c.pv,take_succ hk,ee,ee];rfl
 ·have θ:=c.at';rw[c.pv,bx,mc] at θ;have υ:=c.same;have Z:=ρ.trans υ;clear c;lia;refine⟨y,rfl,χ,λD3 H3 ξ ι e3=>?_⟩;lia;intro D4 β;refine aJ (xs:=(M.pl 1000 y).map nat) (λi ys H'=>Cs (λi ys=>ys=(((M.pl 1000 y).take i).map λk=>("i":Wz)++tx k).map V.str) H3 D4 i ys H') (Cs.zero β rfl) (λi ys H' _ c=>SqL.of (c.same.get e3)) (λi v ys H' δ c=>?_) (λys H4 c=>?_)
  ·obtain⟨k,hk,rfl⟩:=ay δ;have b1:=pb hk;lia;refine⟨OE @A,"i",tx k,rfl,rfl,LU @H @A,?_⟩;refine Cs.put β c.same c.at' c.len @A ?_;rw[c.pv,take_succ hk,ee,ee];rfl
  ·have π:=c.at';rw[c.pv,bx,mc] at π;have Y:=ι.trans c.same;clear c;refine rj (Y.get θ) π (by rw[bx,bx,bx,bx,ra];omega) λD5 H5 ω ν ο=>?_;rw[<-ee] at ο;lia;intro tt H6 α ε e6;exact q tt D5 H6 ((Z.trans Y).free ω) (Z.trans (Y.trans (ν.trans ε))) e6 (ε.get ο)
theorem Kg (T:Tx K mg a):FnOk P w K mg base CX0 7 a.nE a.F3 ["machine"] (M9 (NAof a) a.aq):=by
 refine T.vV.1.okA mq λk4 A outer s H vs Q E hr h=>?_;obtain⟨p,m,nx,os,rfl,ma,ρ,q⟩:=h;have lp:=ρ.lp;have lo:=ρ.lo;have m6:=ρ.m6;rw[aN] at lp lo;obtain⟨dx,tn,to,hp,hn,ho⟩:=ma.ho;have pn:=ma.hn;have po:=ma.hs;have d8:("n":Wz).length<=10:=by decide +kernel
 have d7:("o":Wz).length<=10:=by decide +kernel
 have d6:("s":Wz).length<=10:=by decide +kernel
 have d9:("i":Wz).length<=10:=by decide +kernel
 refine⟨_,((ae (az (i:=1) mq.nd rfl @D (aj (nk T) hr T.pW T.iV (aa bI (aa (aZ (pv 0) T.au T.aU (aQ T) (hr.mono @C) T.aL.2 .nil bJ) af))))
  (ae (az (i:=2) mq.nd rfl @D (aj (nk T) hr T.pW T.iV (aa bI (aa (aZ (pv 0) T.au T.gb (fq T) (hr.mono @C) T.bW.2 .nil bJ) af))))
  (ae (az (i:=3) mq.nd rfl @D (aE km (a9 (cc (K:=K) rfl) @F T.g5 W2 (aa (aH (K:=K) rfl (pv 0) rfl) af)) (a9 (cc (K:=K) rfl) @F T.g5 W2 (aa (aH (K:=K) rfl (pv 0) rfl) af))))
  (ae (bU (osc:=ag vN) (ON:=["machine","next_names","out_names","pairs","sums","stores"]) (N:=["name","pair"]) (n:=2) (fx:=[]) (i:=4) mq.nd rfl rfl rfl rfl rfl rfl @H (T4 (K:=K) rfl @F T.Us (aE km (pv 1) (pv 2)) (pv 3)) (xO (fw (aA @C) (fw (aA @C) rF))) (!C (ro (K:=K) (n:=2) rfl rfl (bD (ar (i:=0) (show kv (["name","pair"]:B') from by decide +kernel) rfl @D) (bD (ar (i:=1) (show kv (["name","pair"]:B') from by decide +kernel) rfl @D) iE))) (aj (BS T) hr T.ER T.nL (!j 0 (!j 1 af)))))
  (ae (az (i:=5) mq.nd rfl @D (G0 (K:=K) rfl rfl @F @F T.g5 T.Us (aj (nk T) hr T.pW T.iV (aa bI (aa (aZ (pv 0) T.au T.aU (aQ T) (hr.mono @C) T.aL.2 .nil bJ) af))) (pv 1)))
  (ai (aD (jv T.Vr (oO T) (hr.mono @C) @F T.UQ T.gI.2 .nil bJ (aa (aj (nk T) hr T.pW T.iV (aa bI (aa (aH (K:=K) rfl (pv 0) rfl) af))) (!j 4 (!j 5 (!j 2 af))))))))))))),aw (σ':=[a' _,gn,gn,gn,gn,gn]) rfl ?_⟩
 lia;refine aI hp rfl ?_;lia;refine⟨p,m,nx,os,rfl,ma,?_⟩;lia;refine⟨"n",nx.length,rfl,d8,@A,λD1 H1 f1 s1 e1=>?_⟩;lia;refine aI (s1.get hp) rfl ?_;lia;refine⟨p,m,nx,os,rfl,ma.same s1,?_⟩;lia;refine⟨"o",os.length,rfl,d7,@A,fun τ H2 f2 s2 e2=>?_⟩;have a3:=s1.trans s2;have h3:=a3.get hn;have c4:=a3.get ho;have ζ:=a3.get hp;lia;refine aF ζ T.au T.cG rfl ?_;lia;intro D3 H3 f3 s3 e3;lia;refine aF (s3.get ζ) T.au T.dw rfl ?_;have h0:=s3.get c4;lia;intro D4 H4 f4 s4 e4;refine rj (s4.get e3) e4 (by rw[hZ,hZ,ra];omega) λD5 H5 f5 ν ο=>?_;have ο:H5 D5=a' (.lst (refs (nx++os))):=by unfold refs;rw[ee];exact ο
 have a7:=s3.trans (s4.trans ν);have j1:=a7.get (s2.get e1);have i3:=a7.get e2;lia;refine rj j1 i3 (by rw[bx,bx,bM,bM,ra];omega) λD6 H6 f6 s6 e6=>?_;rw[<-ee] at e6;have d1:=s6.get ο;have a6:=a7.trans s6;have b3:=a3.trans a6;have e0:Prt H6 (nx++os):=fun φ χ=>(hB.mp χ).elim (λh=>b3.get (pn φ h)) (λh=>b3.get (po φ h));have a4:(nmb "n" nx.length++nmb "o" os.length).length=(nx++os).length:=by rw[eX,eX,bM,bM]
 clear f3 s3 e3 h0 f4 s4 e4 f5 ν ο s6 c4 h3;lia;refine⟨D6,D5,_,_,rfl,rfl,SqL.of e6,SqL.of d1,by rw[hZ,bx];exact a4,?_⟩;intro D7 c5;refine Oy (xs:=(nmb "n" nx.length++nmb "o" os.length).map V.str) (ys:=refs (nx++os)) (by rw[hZ,bx];exact a4) (λi zs H'=>∃rs:ef Rw,zs=rs.map (λr=>V.ref r.1)/\Same H6 H'/\H' D7=a' (.lst zs)/\RwL H' rs/\(∀r∈rs,r.2.1≠D7)/\rs.map (·.2.2)=(YL (nmb "n" nx.length++nmb "o" os.length) ((prs (nx++os)).map wr2)).take i) ⟨[],rfl,bo c5,ax,λ_ h=>(by cases h),λ_ h=>(by cases h),rfl⟩ (λi zs H' _ ⟨_,_,s',_⟩=>⟨SqL.of (s'.get e6),SqL.of (s'.get d1)⟩) (λi u v zs H8 pz η g0 hv ⟨rs,ez,s8,e8,rl,rd,er⟩ fp s9 j4=>?_) (λzs ψ ⟨rs,ez,s7,e7,rl,rd,er⟩=>?_)
 ·obtain⟨z,hz,rfl⟩:=ay g0;obtain⟨r,c0,rfl⟩:=ay (f:=λq:Pr3=>V.ref q.1) hv;have h4:=(bA.mp c0).1;rw[eX] at h4;have hm:=dt c0;have bq:=ρ.bn r.2 (by rw[show prs nx++prs os=prs (nx++os) from(ee ..).symm];exact ic.mpr ⟨r,hm,rfl⟩);rw[aN] at bq;have h5:=s9.get (s8.get (e0 r hm));lia;refine⟨z,r.1,r.2.1,r.2.2,rfl,h5,iD bq.1 @A,iD bq.2 @A,λtt DD Y c1 Z a5 d0=>?_⟩;have a0:=Z.get (s9.get e8);have α:DD≠D7:=λz=>by rw[z,s9.get e8] at c1;cases c1
  have j3:rs.length=i:=by
   have:=Wy X3 er;rw[bx,tu,Zw,bx,aN,a4,eX] at this;omega
  have θ:∀b ob,b≠D7->Y b=a' ob->upd Y D7 (.lst (zs++[.ref tt])) b=a' ob:=λb ob n e=>by rw[aG n];exact e
  refine⟨a0,by rw[ez,bx];exact aR @A,rs++[(tt,DD,z,wr2 r.2)],by rw[ez,ee];rfl,λb ob e=>θ _ _ (ao e c5) (Z.get (s9.get (s8.get e))),ax,λr' b6=>?_,λr' b6=>?_,?_⟩
  ·rcases hB.mp b6 with h | h
   ·have t1:=Z.get (s9.get (rl r' h).1);have t2:=Z.get (s9.get (rl r' h).2);exact⟨θ _ _ (cF t1 a0 λz=>by cases z) t1,θ _ _ (rd r' h) t2⟩
   ·rw[gA.mp h];exact⟨θ _ _ (cF a5 a0 λz=>by cases z) a5,θ _ _ α d0⟩
  ·rcases hB.mp b6 with h | h
   ·exact rd r' h
   ·rw[gA.mp h];exact α
  ·have c3:(YL (nmb "n" nx.length++nmb "o" os.length) ((prs (nx++os)).map wr2))[i]? =a' (z,wr2 r.2):=Yf.mpr ⟨hz,by rw[hH,JZ c0];rfl⟩;rw[ee,er,take_succ c3];rfl
 ·subst ez;have ε:=b3.trans s7;have lz:(YL (nmb "n" nx.length++nmb "o" os.length) ((prs (nx++os)).map wr2)).length=(nmb "n" nx.length++nmb "o" os.length).length:=by rw[Zw,bx,aN,a4];exact ah9 _
  rw[bx,<-lz,mc] at er;have i4:=s7.get (a6.get (s2.get e1));have h6:=s7.get (a6.get e2);lia;refine aI (ε.get hp) rfl ?_;lia;refine⟨p,m,nx,os,rfl,ma.same ε,?_⟩;lia;refine⟨"s",nx.length,rfl,d6,@A,λD8 H8 f8 s8 e8=>?_⟩;lia;refine⟨D8,D1,_,_,rfl,rfl,SqL.of e8,SqL.of (s8.get i4),by rw[bx,bx,bM,bM],λD9 qa η f9 s9 e9 f0 g3=>?_⟩;have c2:=s8.trans s9;have g4:=c2.get (ε.get hp);lia;refine aF g4 T.au T.aX rfl ?_;lia;refine⟨"i",m,rfl,d9,@A,λd5 Y c1 Z j2=>?_⟩;have δ:=c2.trans Z;lia;intro x d2 d4 β ι υ;have π:=δ.trans ι;have lq:qa.length=nx.length:=by rw[f0,bx,bM]
  obtain⟨qs,ω⟩:∃qs:ef Qs,qs=YL qa (YL (nmb "s" nx.length) (nmb "n" nx.length)):=⟨_,rfl⟩
  have q1:qs.map (λq=>V.ref q.1)=qa.map V.ref:=by
   rw[ω,show(λq:Qs=>V.ref q.1)=V.ref ∘ an6 from rfl,<-WT,ae4];rw[Zw,bM,bM,ah9,lq];exact p' _
  have q2:qs.map (·.2)=YL (nmb "s" nx.length) (nmb "n" nx.length):=by
   rw[ω];show ab5 Prod.snd _=_;rw[as7];rw[Zw,bM,bM,ah9,lq];exact p' _
  have γ:∀φ∈qs,η φ.1=a' (.tup [.str φ.2.1,.str φ.2.2]):=fun φ χ=>by
   obtain⟨j,hj⟩:=Xm.mp χ;rw[ω] at hj;obtain⟨z1,z2⟩:=Yf.mp hj;obtain⟨ξ,z4⟩:=Yf.mp z2;exact g3 j φ.1 _ _ z1 (by rw[hH,ξ];rfl) (by rw[hH,z4];rfl)
  rw[<-q1] at e9;have hnd:Hnd d4 d5 D7 D9 τ rs qs (jz m (prs nx) (prs os)):=⟨ι.get j2,π.get e7,(rl.same π),by rw[er];unfold jz;rw[aN,aN,show prs (nx++os)=prs nx++prs os from ee ..],ι.get (Z.get e9),fun φ χ=>ι.get (Z.get (γ φ χ)),by rw[q2];unfold jz;rw[aN],by show d4 τ=a' (.lst ((nmb "o" (prs os).length).map V.str));rw[aN];exact π.get h6⟩;refine⟨x,d2,d5,D7,D9,τ,rs,qs,jz m (prs nx) (prs os),rfl,υ,hnd,ui ρ,λd3 od f7 na=>⟨rfl,?_⟩⟩;have a8:Same Y d3:=λb ob e=>f7 _ _ (ao e β) (ι.get e);exact q x d3 od (ε.free (δ.free β)) (ε.trans (δ.trans a8)) na
end
theorem El (T:Tx K mg a):FnOk P w K mg base CX0 1 a.iH a.zH ["row"] Gv:=by
 refine T.p7.1.okA DT fun β A outer s H vs Q E γ h=>?_;obtain⟨z,rfl,hl,q⟩:=h;refine⟨_,((ai (aD (gY (K:=K) rfl Zd ak3 ak2 FP (pv 0) (aa bI af))))),aw (σ':=[a' _]) rfl ?_⟩;lia;refine JF @H (by rw[ra];omega) λD H2 α Z Y=>?_;rw[z8] at Y;exact q D H2 α Z Y
theorem G2 (T:Tx K mg a):FnOk P w K mg base CX0 1 a.kG a.CC ["text"] Jn:=by
 refine T.tJ.1.okA GH fun β A outer s H vs Q E γ h=>?_;obtain⟨z,rfl,hl,q⟩:=h;refine⟨_,((ai (aD (FD (aM kU (pv 0) bI (aW _)) (dJ af) (gY (K:=K) rfl Zd ak3 ak2 FP (pv 0) (aa bI af)))))),aw (σ':=[a' _]) rfl ?_⟩;lia;by_cases hz:z=""
 ·refine mY (hE (by rw[hz])) ?_;rw[zt hz] at q;lia;intro D H2 α Z Y;exact q D H2 α Z Y
 ·refine gL (f' λe=>hz (V.str.inj e)) ?_;rw[oT hz] at q;lia;refine JF @H (by rw[ra];omega) λD H2 α Z Y=>?_;rw[DN] at Y;exact q D H2 α Z Y
theorem Es (T:Tx K mg a):FnOk P w K mg base CX0 2 a.iP a.zP ["words"] QE:=by
 refine T.qf.1.okA DY λa6 A outer s H vs Q E ψ h=>?_;obtain⟨l,r,rfl,hl,fm,q⟩:=h;have ν:∀(z:Wz) (xs:B'),atI ((z::xs).map V.str) 0=a' (.str z):=λz xs=>fQ (j:=0) rfl;have a1:∀(y z:Wz) (xs:B'),atI ((y::z::xs).map V.str) 1=a' (.str z):=λy z xs=>fQ (j:=1) rfl;have a2:∀(x y z:Wz) (xs:B'),atI ((x::y::z::xs).map V.str) 2=a' (.str z):=λx y z xs=>fQ (j:=2) rfl;have i1:inV (V.str "in") [V.str "in",V.str "out"]=true:=by decide +kernel
 have i2:inV (V.str "out") [V.str "in",V.str "out"]=true:=by decide +kernel
 have i3:inV (V.str "sum") [V.str "in",V.str "out"]=false:=by decide +kernel
 have i4:inV (V.str "store") [V.str "in",V.str "out"]=false:=by decide +kernel
 have j3:inV (V.str "sum") [V.str "sum",V.str "store"]=true:=by decide +kernel
 have j4:inV (V.str "store") [V.str "sum",V.str "store"]=true:=by decide +kernel
 have a5:("sum":Wz)≠"store":=by decide +kernel
 refine⟨_,((ae (du (aM (Ug (K:=K) rfl) (!A (bu (K:=K) rfl) (pv 0) ah) (cL (aa bI (aa bI af))) @F) (ai (aD (wJ (nh kU (aP (be (K:=K) rfl) @F T.ia W8 (!j 0 af)) ah (aW _)) (zC (aj (mz T) ψ T.oZ T.jd (aa (!A (bu (K:=K) rfl) (pv 0) ah) af)))))) bg)
  (ae (du (PW.pt (og (aM (Kb (K:=K) rfl) (!A (bu (K:=K) rfl) (pv 0) ah) (cL (aa bI (aa bI af))) @F) (og (aM Kc (aP (be (K:=K) rfl) @F T.ia W8 (!j 0 af)) ah (aW _)) (mx (aM wL (!A (bu (K:=K) rfl) (pv 0) ah) bI (aW _)))))) (ai (aD yD)) bg)
  (ae (du (PW.pt (TZ (aM kU (!A (bu (K:=K) rfl) (pv 0) ah) bI (aW _)) (Q9 (aM wL (aP (be (K:=K) rfl) @F T.ia W8 (!j 0 af)) ah (aW _))))) (ai (aD yD)) bg)
  (ai (aD (wJ (aj (mz T) ψ T.oZ T.jd (aa (!A (bu (K:=K) rfl) (pv 0) ah) af)) (zC (aP (tD (K:=K) rfl rfl) @F T.NZ Z7 (aa (bC (osc:=ag pN) (ON:=n11) (N:=["word"]) (n:=1) (fx:=[]) rfl rfl rfl @H (aK (K:=K) rfl (h8 (g8 (K:=K) rfl) (pv 0) (ju ah) mh)) (aA @C) (!C (ar (i:=0) (show kv (["word"]:B') from by decide +kernel) rfl @D) (aj (mz T) ψ T.oZ T.jd (!j 0 af)))) af)))))))))),aw (σ':=[a' _]) rfl ?_⟩
 cases fm with
 | i z h=>
   have hz:=ν "in" [z];have Z:=a1 "in" z [];lia;intro η H1 g1 Y ε;refine⟨η,_,rfl,.inr (SqT.of ε),rfl,rfl,?_⟩;rw[oT hF,i1];have hl1:=Y.get hl;lia;exact c_nm h fun ι γ=>q ι (Y.trans γ)
 | o z h=>
   have hz:=ν "out" [z];have Z:=a1 "out" z [];lia;intro η H1 g1 Y ε;refine⟨η,_,rfl,.inr (SqT.of ε),rfl,rfl,?_⟩;rw[oT hF,i2];have hl1:=Y.get hl;lia;exact c_nm h fun ι γ=>q ι (Y.trans γ)
 | s z ws h hw ω=>
   have hz:=ν "sum" (z::"="::ws);have Z:=a1 "sum" z ("="::ws);have υ:=a2 "sum" z "=" ws;lia;intro η H1 g1 Y ε;refine⟨η,_,rfl,.inr (SqT.of ε),rfl,rfl,?_⟩;rw[oT hF,i3];have hl1:=Y.get hl;lia;intro τ H2 g2 θ e2;refine⟨τ,_,rfl,.inr (SqT.of e2),rfl,rfl,?_⟩;rw[zt rfl,j3];have hl2:=θ.get hl1;lia;refine c_nm h fun ι γ=>?_;have a4:=γ.get hl2;lia;intro D4 H4 f4 ρ π;rw[show cutV ((("sum":Wz)::z::("=":Wz)::ws).map V.str) (a' 3) gn=(ws).map V.str from(vU _ 3 @E).trans rfl] at π;have δ:=Y.trans (θ.trans (γ.trans ρ));lia;intro D5 α;refine aJ (xs:=(ws).map V.str) (λi ys H'=>Cs (λi ys=>ys=(n' i true).map V.bl) H4 D5 i ys H') (Cs.zero α rfl) (λi ys H' _ c=>SqL.of (c.same.get π)) (λi x ys H' φ c=>?_) (λys H5 c=>?_)
   ·obtain⟨ξ,β,rfl⟩:=ay φ;have hi:=(bA.mp β).1;have a3:=ω;lia;refine c_nm (hw ξ (dt β)) λH6 ζ=>?_;refine Cs.put α (c.same.trans ζ) (ζ.get c.at') c.len @A ?_;rw[c.pv,YQ,ee];rfl
   ·have ο:=c.at';rw[c.pv] at ο;lia;refine BF (SqL.of ο) ?_;rw[show(n' ((ws).map V.str).length true).all id=true from YC.mpr λb hb=>(aq4.mp hb).2];exact q _ (δ.trans c.same)
 | t z y h hy=>
   have χ:∀w∈[y],Nm w:=λw hw=>by rw[gA.mp hw];exact hy
   have hz:=ν "store" [z,"=",y];have Z:=a1 "store" z ["=",y];have υ:=a2 "store" z "=" [y];lia;intro η H1 g1 Y ε;refine⟨η,_,rfl,.inr (SqT.of ε),rfl,rfl,?_⟩;rw[oT hF,i4];have hl1:=Y.get hl;lia;intro τ H2 g2 θ e2;refine⟨τ,_,rfl,.inr (SqT.of e2),rfl,rfl,?_⟩;rw[zt rfl,j4];have hl2:=θ.get hl1;lia;refine c_nm h fun ι γ=>?_;have a4:=γ.get hl2;lia;intro D4 H4 f4 ρ π;rw[show cutV (([("store":Wz),z,("=":Wz),y]).map V.str) (a' 3) gn=([y]).map V.str from(vU _ 3 @E).trans rfl] at π;have δ:=Y.trans (θ.trans (γ.trans ρ));lia;intro D5 α;refine aJ (xs:=([y]).map V.str) (λi ys H'=>Cs (λi ys=>ys=(n' i true).map V.bl) H4 D5 i ys H') (Cs.zero α rfl) (λi ys H' _ c=>SqL.of (c.same.get π)) (λi x ys H' φ c=>?_) (λys H5 c=>?_)
   ·obtain⟨ξ,β,rfl⟩:=ay φ;have hi:=(bA.mp β).1;have a3:=(show([y]:B').length<=24 by simp);lia;refine c_nm (χ ξ (dt β)) λH6 ζ=>?_;refine Cs.put α (c.same.trans ζ) (ζ.get c.at') c.len @A ?_;rw[c.pv,YQ,ee];rfl
   ·have ο:=c.at';rw[c.pv] at ο;lia;refine BF (SqL.of ο) ?_;rw[show(n' (([y]).map V.str).length true).all id=true from YC.mpr λb hb=>(aq4.mp hb).2];exact q _ (δ.trans c.same)
theorem Er (T:Tx K mg a):FnOk P w K mg base CX0 7 a.iM a.zM ["text"] (Qv (NAof a)):=by
 refine T.qd.1.okA fB λh3 A outer s H vs Q E hr h=>?_;obtain⟨rows,rfl,fm,lr,g,q⟩:=h;have tl:=MQ fm
 have d5:(if txtR rows="" then [] else Yw (txtR rows) ⟨#[10]⟩)=rows.map rowT:=by
  by_cases e:rows=[]
  ·subst e;rw[zt (show txtR []="" from rfl)];rfl
  ·rw[oT (Qk fm e),Gi (λr γ=>(fm r γ).wd) e]
 have rl:∀r∈rows,(rowT r).length<=1000:=λr γ=>by
  have b1:=(fm r γ).len;have b2:=Ak b1.2;omega
 have gd:∀(r:B') (k:Nat),k < r.length->atI (r.map V.str) (k:Int)=a' (.str (r.getD k "")):=λr k hk=>fQ (by rw[hH,cn hk,bB,cn hk];rfl);have fl:∀r∈rows,2<=r.length:=λr γ=>by cases fm r γ<;>simp
 have f4:∀r∈rows,kd "store" r=true->4<=r.length:=λr γ hk=>by
  obtain⟨n1,n2,n3,n4,n5,n6,n7,n8,n9,e7,c2,c1⟩:=w_ne;cases fm r γ with
  | i z h=>exact hQ (WE hk) n2
  | o z h=>exact hQ (WE hk) c1
  | s z ws h hw f2=>exact hQ (WE hk) n5
  | t z y h θ=>simp
 have ξ:∀r∈rows,kd "sum" r=true->3<=r.length:=λr γ hk=>by
  obtain⟨n1,n2,n3,n4,n5,n6,n7,n8,n9,e7,c2,c1⟩:=w_ne;cases fm r γ with
  | i z h=>exact hQ (WE hk) n1
  | o z h=>exact hQ (WE hk) c2
  | s z ws h hw f2=>simp
  | t z y h θ=>simp
 have fs:∀(k:Wz) (i:Nat) (r:B'),rows[i]? =a' r->(rows.take (i + 1)).filter (kd k)=(rows.take i).filter (kd k)++(if kd k r=true then [r] else []):=λk i r h=>by
  rw[take_succ h,Yb,ZI];rfl
 refine⟨_,((ae (bU (osc:=ag gW) (ON:=n14) (N:=n10) (n:=1) (fx:=[]) (i:=1) fB.nd rfl rfl rfl rfl rfl rfl @H (aK (K:=K) rfl (aj (G2 T) hr T.K6 T.tJ (!j 0 af))) (aA @C) (!C (ar (i:=0) (show kv (n10:B') from by decide +kernel) rfl @D) (aj (El T) hr T.Hx T.p7 (!j 0 af))))
  (ae (fG W5 rfl (Eg (K:=K) rfl @F T.eg (pv 1)) (wH rfl (bD (ar (i:=2) fB.nd rfl @D) (bD (ar (i:=3) fB.nd rfl @D) iE))) (ai (du (h7 (gj (aj (Es T) hr T.HI T.qf (!j 3 af)))) (ai jt) bg)))
  (ae (bU (osc:=ag gW) (ON:=n14) (N:=n11) (n:=1) (fx:=[]) (i:=4) fB.nd rfl rfl rfl rfl rfl rfl @H (aK (K:=K) rfl (pv 1)) (aA @C) (λ_ _ _ _ _=>⟨(ar (i:=0) (show kv (n11:B') from by decide +kernel) rfl @D),(mf (aM kU (!A (bu (K:=K) rfl) (pv 0) ah) bI (aW _))),(!A (bu (K:=K) rfl) (pv 0) ah)⟩))
  (ae (bU (osc:=ag gW) (ON:=n14) (N:=n11) (n:=1) (fx:=[]) (i:=5) fB.nd rfl rfl rfl rfl rfl rfl @H (aK (K:=K) rfl (pv 1)) (aA @C) (λ_ _ _ _ _=>⟨(ar (i:=0) (show kv (n11:B') from by decide +kernel) rfl @D),(mf (aM kU (!A (bu (K:=K) rfl) (pv 0) ah) bI (aW _))),(cL (aa (!A (bu (K:=K) rfl) (pv 0) ah) (aa (h8 (g8 (K:=K) rfl) (pv 0) (ju ah) mh) af)))⟩))
  (ae (bU (osc:=ag gW) (ON:=n14) (N:=n11) (n:=1) (fx:=[]) (i:=6) fB.nd rfl rfl rfl rfl rfl rfl @H (aK (K:=K) rfl (pv 1)) (aA @C) (λ_ _ _ _ _=>⟨(ar (i:=0) (show kv (n11:B') from by decide +kernel) rfl @D),(mf (aM kU (!A (bu (K:=K) rfl) (pv 0) ah) bI (aW _))),(cL (aa (!A (bu (K:=K) rfl) (pv 0) ah) (aa (!A (bu (K:=K) rfl) (pv 0) ah) af)))⟩))
  (ae (bU (osc:=ag gW) (ON:=n14) (N:=n11) (n:=1) (fx:=[]) (i:=7) fB.nd rfl rfl rfl rfl rfl rfl @H (aK (K:=K) rfl (pv 1)) (aA @C) (λ_ _ _ _ _=>⟨(ar (i:=0) (show kv (n11:B') from by decide +kernel) rfl @D),(mf (aM kU (!A (bu (K:=K) rfl) (pv 0) ah) bI (aW _))),(!A (bu (K:=K) rfl) (pv 0) ah)⟩))
  (ai (aD (jv T.Vr (oO T) (hr.mono @C) @F T.UQ T.gI.2 .nil bJ (!j 4 (!j 5 (!j 6 (!j 7 af)))))))))))))),aw (σ':=[a' _,gn,gn,gn,gn,gn,gn,gn]) rfl ?_⟩
 lia;refine⟨txtR rows,rfl,@A,λD1 H1 f1 s1 e1=>?_⟩;rw[d5] at e1;lia;intro τ d3;refine aJ (xs:=(rows.map rowT).map V.str) (λi ys H'=>∃ds:M',ys=ds.map V.ref/\Same H1 H'/\H' τ=a' (.lst ys)/\ds.length=i/\(∀d∈ds,d≠τ)/\∀(j:Nat) (d:eO) (r:B'),ds[j]? =a' d->rows[j]? =a' r->H' d=a' (.lst (r.map V.str))) ⟨[],rfl,bo d3,ax,rfl,λ_ h=>(by cases h),λj d r h=>(by simp at h)⟩ (λi ys H' _ ⟨_,_,s',_⟩=>SqL.of (s'.get e1)) ?_ ?_
 ·rintro i y ys H' θ ⟨ds,rfl,s',e',ld,nd,hd⟩;obtain⟨z,hz,rfl⟩:=ay θ;rw[hH] at hz;obtain⟨r,γ,rfl⟩:=YR.mp hz;have a3:=(bA.mp γ).1;have hm:=dt γ;have g4:=rl r hm;lia;refine⟨rowT r,rfl,@A,λD3 H3 d4 ρ e3=>?_⟩;rw[GP (fm r hm).wd (fm r hm).ne] at e3;have d2:D3≠τ:=λz=>by rw[z,e'] at d4;cases d4
  have k3:∀b ob,b≠τ->H3 b=a' ob->upd H3 τ (.lst (ds.map V.ref++[.ref D3])) b=a' ob:=λb ob n e=>by rw[aG n];exact e
  refine⟨ρ.get e',by rw[bx];exact aR @A,ds++[D3],by rw[ee];rfl,λb ob e=>k3 _ _ (ao e d3) (ρ.get (s'.get e)),ax,by rw[eX,ld];rfl,λd ζ=>?_,λj d r' hj π=>?_⟩
  ·rcases hB.mp ζ with h | h
   ·exact nd d h
   ·rw[gA.mp h];exact d2
  ·by_cases f7:j < ds.length
   ·rw[mu f7] at hj;exact k3 _ _ (nd d (dt hj)) (ρ.get (hd j d r' hj π))
   ·have hl:=(bA.mp hj).1;rw[eX,WS] at hl;rw[ov @A,show j - ds.length=0 by omega] at hj;cases hj;rw[show j=i by omega,γ] at π;cases π;exact k3 _ _ d2 e3
 ·rintro ys H2 ⟨ds,rfl,s2,e2,ld,nd,hd⟩;rw[bx,bx] at ld;have χ:∀{j:Nat} {d:eO} {r:B'},ds[j]? =a' d->rows[j]? =a' r->H2 d=a' (.lst (r.map V.str)):=λ{j d r}=>hd j d r
  have dr:∀{j:Nat} {d:eO},ds[j]? =a' d->∃r,rows[j]? =a' r/\r∈rows:=λ{j d} h=>by
   have hl:=(bA.mp h).1;exact⟨_,cn @A,YB _⟩
  have e4:=s1.trans s2;clear hd nd e1 s2 s1 f1;lia;refine A9 (xs:=ds.map V.ref) (λi σ H'=>∃v2 ε δ v5 v6 v7,σ=[a' (.str (txtR rows)),a' (.ref τ),v2,ε,δ,v5,v6,v7]/\Same H2 H') ⟨gn,gn,gn,gn,gn,gn,rfl,Same.refl _⟩ (λi σ H' _ ⟨_,_,_,_,_,_,_,s'⟩=>SqL.of (s'.get e2)) ?_ ?_
  ·rintro i y σ H' pz H3 θ ⟨v2,ε,δ,v5,v6,v7,rfl,s'⟩ fp ρ e3;obtain⟨d,ζ,rfl⟩:=ay θ;obtain⟨r,γ,hm⟩:=dr ζ;lia;refine⟨d,r,rfl,ρ.get (s'.get (χ ζ γ)),fm r hm,λH4 s4=>?_⟩;lia;exact⟨_,_,_,_,_,_,rfl,s'.trans (ρ.trans s4)⟩
  ·rintro σ H3 ⟨v2,ε,δ,v5,v6,v7,rfl,ρ⟩;have h0:=ρ.get e2;lia;intro Di d1;refine aJ (xs:=ds.map V.ref) (λi ys H'=>Cs (λi ys=>ys=(((rows.take i).filter (kd "in")).map λr=>r.getD 1 "").map V.str) H3 Di i ys H') (Cs.zero d1 rfl) (λi ys H' _ c=>SqL.of (c.same.get (ρ.get e2))) (λi y ys H' θ c=>?_) (λys H4 c=>?_)
   ·obtain⟨d,ζ,rfl⟩:=ay θ;obtain⟨r,γ,hm⟩:=dr ζ;have a3:=(bA.mp γ).1;have er:=c.same.get (ρ.get (χ ζ γ));have β:=fl r hm;have g0:=gd r 0 @A;have g1:=gd r 1 @A;lia;by_cases hk:r.getD 0 ""="in"
    ·refine mY (hE (by rw[hk])) ?_;lia;refine Cs.put d1 c.same c.at' c.len @A ?_;rw[c.pv,fs "in" i r γ,zt (show kd "in" r=true from hE hk),ee,ee];rfl
    ·refine gL (f' λe=>hk (V.str.inj e)) ?_;refine Cs.skip c.same c.at' c.len ?_;rw[c.pv,fs "in" i r γ,oT (show ¬kd "in" r=true from λz=>hk (WE z)),Y8]
   ·have d7:=c.at';rw[c.pv,bx,ld,mc] at d7;have e0:=c.same;clear c;have a7:=ρ.trans e0;lia;intro Ds c5;refine aJ (xs:=ds.map V.ref) (λi ys H'=>∃rs:ef Rw,ys=rs.map (λr=>V.ref r.1)/\Same H4 H'/\H' Ds=a' (.lst ys)/\rs.length<=i/\RwL H' rs/\(∀r∈rs,r.2.1≠Ds)/\rs.map (·.2.2)=((rows.take i).filter (kd "sum")).map λr=>(r.getD 1 "",r.drop 3)) ⟨[],rfl,bo c5,ax,p' _,λ_ h=>(by cases h),λ_ h=>(by cases h),rfl⟩ (λi ys H' _ ⟨_,_,s',_⟩=>SqL.of (s'.get (a7.get e2))) ?_ ?_
    ·rintro i y ys H' θ ⟨rs,ey,s',e',e9,rk,rd,ω⟩;obtain⟨d,ζ,rfl⟩:=ay θ;obtain⟨r,γ,hm⟩:=dr ζ;have a3:=(bA.mp γ).1;have er:=s'.get (a7.get (χ ζ γ));have β:=fl r hm;have g0:=gd r 0 @A;have g1:=gd r 1 @A;lia;by_cases hk:r.getD 0 ""="sum"
     ·have υ:kd "sum" r=true:=hE hk;refine mY (hE (by rw[hk])) ?_;lia;intro Dw H5 f5 s5 ο;rw[show cutV (r.map V.str) (a' 3) gn=(r.drop 3).map V.str from(vU (r.map V.str) 3 (by rw[bx];exact ξ r hm υ)).trans (ad8 ..).symm] at ο;lia;intro tp H6 f6 s6 e6;have a0:=s5.trans s6;have ι:=a0.get e';have c3:Dw≠Ds:=λz=>by rw[z,e'] at f5;cases f5
      have k6:∀b ob,b≠Ds->H6 b=a' ob->upd H6 Ds (.lst (ys++[.ref tp])) b=a' ob:=λb ob n e=>by rw[aG n];exact e
      refine⟨ι,by rw[ey,bx];exact aR @A,rs++[(tp,Dw,r.getD 1 "",r.drop 3)],by rw[ey,ee];rfl,λb ob e=>k6 _ _ (ao e c5) (a0.get (s'.get e)),ax,by rw[eX,WS];omega,λr' a8=>?_,λr' a8=>?_,?_⟩
      ·rcases hB.mp a8 with h | h
       ·have t1:=a0.get (rk r' h).1;exact⟨k6 _ _ (cF t1 ι λz=>by cases z) t1,k6 _ _ (rd r' h) (a0.get (rk r' h).2)⟩
       ·rw[gA.mp h];exact⟨k6 _ _ (cF e6 ι λz=>by cases z) e6,k6 _ _ c3 (s6.get ο)⟩
      ·rcases hB.mp a8 with h | h
       ·exact rd r' h
       ·rw[gA.mp h];exact c3
      ·rw[ee,ω,fs "sum" i r γ,zt υ,ee];rfl
     ·refine gL (f' λe=>hk (V.str.inj e)) ?_;exact⟨rs,ey,s',e',@A,rk,rd,by rw[ω,fs "sum" i r γ,oT (show ¬kd "sum" r=true from λz=>hk (WE z)),Y8]⟩
    ·rintro ys H5 ⟨rs,rfl,b6,Y,e9,rk,rd,ω⟩;rw[bx,ld,mc] at ω;have a6:=a7.trans b6;lia;intro Dt c4;refine aJ (xs:=ds.map V.ref) (λi ys H'=>∃qs:ef Qs,ys=qs.map (λr=>V.ref r.1)/\Same H5 H'/\H' Dt=a' (.lst ys)/\qs.length<=i/\QsK H' qs/\qs.map (·.2)=((rows.take i).filter (kd "store")).map λr=>(r.getD 1 "",r.getD 3 "")) ⟨[],rfl,bo c4,ax,p' _,λ_ h=>(by cases h),rfl⟩ (λi ys H' _ ⟨_,_,s',_⟩=>SqL.of (s'.get (a6.get e2))) ?_ ?_
     ·rintro i y ys H' θ ⟨qs,ey,s',e',ν,qk,eq0⟩;obtain⟨d,ζ,rfl⟩:=ay θ;obtain⟨r,γ,hm⟩:=dr ζ;have a3:=(bA.mp γ).1;have er:=s'.get (a6.get (χ ζ γ));have β:=fl r hm;have g0:=gd r 0 @A;have g1:=gd r 1 @A;lia;by_cases hk:r.getD 0 ""="store"
      ·have υ:kd "store" r=true:=hE hk;have g3:=gd r 3 (by have:=f4 r hm υ;omega);refine mY (hE (by rw[hk])) ?_;lia;intro tp H6 f6 s6 e6;have ι:=s6.get e';refine⟨ι,by rw[ey,bx];exact aR @A,qs++[(tp,r.getD 1 "",r.getD 3 "")],by rw[ey,ee];rfl,λb ob e=>?_,ax,by rw[eX,WS];omega,fun φ f0=>?_,?_⟩
       ·rw[aG (ao e c4)];exact s6.get (s'.get e)
       ·have:H6 φ.1=a' (.tup [.str φ.2.1,.str φ.2.2]):=by
         rcases hB.mp f0 with h | h
         ·exact s6.get (qk φ h)
         ·rw[gA.mp h];exact e6
        rw[aG (cF this ι λz=>by cases z)];exact this
       ·rw[ee,eq0,fs "store" i r γ,zt υ,ee];rfl
      ·refine gL (f' λe=>hk (V.str.inj e)) ?_;exact⟨qs,ey,s',e',@A,qk,by rw[eq0,fs "store" i r γ,oT (show ¬kd "store" r=true from λz=>hk (WE z)),Y8]⟩
     ·rintro ys H6 ⟨qs,rfl,ψ,f9,ν,qk,eq0⟩;rw[bx,ld,mc] at eq0;have a5:=a6.trans ψ;lia;intro Do d0;refine aJ (xs:=ds.map V.ref) (λi ys H'=>Cs (λi ys=>ys=(((rows.take i).filter (kd "out")).map λr=>r.getD 1 "").map V.str) H6 Do i ys H') (Cs.zero d0 rfl) (λi ys H' _ c=>SqL.of (c.same.get (a5.get e2))) (λi y ys H' θ c=>?_) (λys H7 c=>?_)
      ·obtain⟨d,ζ,rfl⟩:=ay θ;obtain⟨r,γ,hm⟩:=dr ζ;have a3:=(bA.mp γ).1;have er:=c.same.get (a5.get (χ ζ γ));have β:=fl r hm;have g0:=gd r 0 @A;have g1:=gd r 1 @A;lia;by_cases hk:r.getD 0 ""="out"
       ·refine mY (hE (by rw[hk])) ?_;lia;refine Cs.put d0 c.same c.at' c.len @A ?_;rw[c.pv,fs "out" i r γ,zt (show kd "out" r=true from hE hk),ee,ee];rfl
       ·refine gL (f' λe=>hk (V.str.inj e)) ?_;refine Cs.skip c.same c.at' c.len ?_;rw[c.pv,fs "out" i r γ,oT (show ¬kd "out" r=true from λz=>hk (WE z)),Y8]
      ·have d6:=c.at';rw[c.pv,bx,ld,mc] at d6;have b3:=c.same;clear c;lia;intro x Z H8 f8 s8 e8;have a4:=b3.trans s8;have α:=ψ.trans a4;have d9:=b6.trans α;refine⟨x,Z,Di,Ds,Dt,Do,rs,qs,netR rows,rfl,e8,⟨d9.get d7,α.get Y,rk.same α,ω,a4.get f9,fun φ m=>a4.get (qk φ m),eq0,s8.get d6⟩,g,fun η od k9 na=>⟨rfl,?_⟩⟩;have d8:Same H7 η:=λb ob e=>k9 _ _ (ao e f8) (s8.get e);have c0:=e4.trans (a5.trans b3);exact q x η od (c0.free f8) (c0.trans d8) na
theorem wW (T:Tx K mg a):FnOk P w K mg base CX0 1 a.cu a.qL ["self"] (Qr (NAof a)):=by
 refine T.gH.1.okA wk fun δ A outer s H vs Q E ζ h=>?_;obtain⟨p,N,od,rfl,na,q⟩:=h;obtain⟨dx,i,s,t,o,d,Y,rs,qs,ws,α,kp,ε,eq⟩:=na.ho;have hs:=kp.s;refine⟨_,((ai (aD (a9 (cc (K:=K) rfl) @F T.g5 W2 (aa (aH (K:=K) rfl (pv 0) rfl) af))))),aw (σ':=[a' _]) rfl ?_⟩;lia;refine aF α T.dS T.mG rfl ?_;lia;intro D H2 β Z γ;exact q D H2 rs β Z γ (RwK.same kp.sr Z) kp.es
theorem Ep (T:Tx K mg a):FnOk P w K mg base CX0 2 a.iK a.zK ["net"] (Qu (NAof a)):=by
 refine T.qc.1.okA wa λj2 A outer s H vs Q E hr h=>?_;obtain⟨p,N,od,rfl,na,q⟩:=h;obtain⟨dx,i,s,t,o,d,tq,rs,qs,ws,hp,kp,wi,eq⟩:=na.ho;have g:=na.g;have li:=g.li;have ls:=g.ls;have lt:=g.lt;have lo:=g.lo;have fm:=Fy g;have i4:=BG g
 refine⟨_,((ae (bU (osc:=ag gU) (ON:=n15) (N:=["name"]) (n:=1) (fx:=[]) (i:=1) wa.nd rfl rfl rfl rfl rfl rfl @H (aK (K:=K) rfl (aZ (pv 0) T.dS T.ml (kq T) (hr.mono @C) T.dD.2 .nil bJ)) (aA @C) (!C (ar (i:=0) (show kv (["name"]:B') from by decide +kernel) rfl @D) (dJ (aa bI (!j 0 af)))))
  (ae (bL (gY (K:=K) rfl WC Xs Xq ja (pv 1) (aa (bC (osc:=ag gU) (ON:=n15) (N:=n10) (n:=1) (fx:=[]) rfl rfl rfl @H (aK (K:=K) rfl (aZ (pv 0) T.dS T.yT (wW T) (hr.mono @C) T.gH.2 .nil bJ)) (aA @C) (!C (ar (i:=0) (show kv (n10:B') from by decide +kernel) rfl @D) (aE km (dJ (aa bI (aa (!A @I (pv 0) ah) (aa bI af)))) (a9 (cc (K:=K) rfl) @F T.g5 W2 (aa (!A @I (pv 0) ah) af))))) af)))
  (ae (bL (gY (K:=K) rfl WC Xs Xq ja (pv 1) (aa (bC (osc:=ag gU) (ON:=n15) (N:=n10) (n:=1) (fx:=[]) rfl rfl rfl @H (aK (K:=K) rfl (aZ (pv 0) T.dS T.jA (iG T) (hr.mono @C) T.cK.2 .nil bJ)) (aA @C) (!C (ar (i:=0) (show kv (n10:B') from by decide +kernel) rfl @D) (dJ (aa bI (aa (!A @I (pv 0) ah) (aa bI (aa (!A @I (pv 0) ah) af))))))) af)))
  (ae (bL (gY (K:=K) rfl WC Xs Xq ja (pv 1) (aa (bC (osc:=ag gU) (ON:=n15) (N:=["wire"]) (n:=1) (fx:=[]) rfl rfl rfl @H (aK (K:=K) rfl (aZ (pv 0) T.dS T.kB (jy T) (hr.mono @C) T.c9.2 .nil bJ)) (aA @C) (!C (ar (i:=0) (show kv (["wire"]:B') from by decide +kernel) rfl @D) (dJ (aa bI (!j 0 af))))) af)))
  (ai (aD (gY (K:=K) rfl Zd al6 al5 (FQ (K:=K) rfl) bI (aa (bC (osc:=ag gU) (ON:=n15) (N:=n11) (n:=1) (fx:=[]) rfl rfl rfl @H (aK (K:=K) rfl (pv 1)) (aA @C) (!C (ar (i:=0) (show kv (n11:B') from by decide +kernel) rfl @D) (gY (K:=K) rfl Zd al6 al5 (FQ (K:=K) rfl) bI (!j 0 af)))) af))))))))),aw (σ':=[a' _,gn]) rfl ?_⟩
 lia;refine aI hp rfl ?_;lia;refine⟨p,N,od,rfl,na,λD1 H1 f1 s1 e1=>?_⟩;lia;intro τ a5;refine aJ (xs:=N.ins.map V.str) (λi ys H'=>Same H1 H'/\H' τ=a' (.lst ys)/\Lrw H1 H' τ ys ((N.ins.take i).map λz=>[("in":Wz),z])) ⟨bo a5,ax,Lrw.nil⟩ (λi ys H' _ ⟨s',_⟩=>SqL.of (s'.get e1)) ?_ ?_
 ·rintro i y ys H' hy ⟨s',e',lr⟩;obtain⟨z,hz,rfl⟩:=ay hy;have c0:=(bA.mp hz).1;lia;intro D3 H3 f3 s3 e3;have ω:=lr.len;rw[bx,tu] at ω;refine⟨s3.get e',aR @A,λb ob e=>?_,ax,?_⟩
  ·rw[aG (ao e a5)];exact s3.get (s'.get e)
  ·rw[take_succ hz,ee];exact lr.put (s'.free f3) e' f3 s3 e3
 ·rintro ys H2 ⟨s2,e2,b6⟩;rw[bx,mc] at b6;have d7:=s1.trans s2;have l2:=b6.len;rw[bx] at l2;lia;refine aI (d7.get hp) rfl ?_;lia;refine⟨p,N,od,rfl,na.same d7,λD3 H3 d9 f3 s3 e3 rk es=>?_⟩;have π:d9.length=N.sums.length:=by rw[<-es,bx]
  lia;intro D4 f2;refine aJ (xs:=d9.map λr=>V.ref r.1) (λi ys H'=>Same H3 H'/\H' D4=a' (.lst ys)/\Lrw H3 H' D4 ys ((N.sums.take i).map λr=>("sum":Wz)::r.1::("=":Wz)::r.2)) ⟨bo f2,ax,Lrw.nil⟩ (λi ys H' _ ⟨s',_⟩=>SqL.of (s'.get e3)) ?_ ?_
  ·rintro i y ys H' hy ⟨s',e',lr⟩;obtain⟨r,χ,rfl⟩:=ay hy;have c0:=(bA.mp χ).1;obtain⟨ζ,h6⟩:=rk r (dt χ);have c5:=s'.get ζ;have ξ:N.sums[i]? =a' r.2.2:=by rw[<-es,hH,χ];rfl
   have j1:=g.lw _ (dt ξ);lia;intro D5 H5 f5 ν ο;have ε:=ν.get c5;have h5:=ν.get (s'.get h6);lia;intro D6 H6 f6 s6 e6;refine rj (s6.get ο) e6 (by rw[bx,ra];simp;omega) λD7 ψ f7 s7 e7=>?_;have a0:=ν.trans (s6.trans s7);have ω:=lr.len;rw[bx,tu] at ω;have f4:H' D7=none:=ν.free (s6.free f7);refine⟨a0.get e',aR @A,λb ob e=>?_,ax,?_⟩
   ·rw[aG (ao e f2)];exact a0.get (s'.get e)
   ·rw[take_succ ξ,ee];exact lr.put (s'.free f4) e' f4 a0 e7
  ·rintro d3 H4 ⟨s4,e4,a8⟩;rw[bx,π,mc] at a8;have l4:=a8.len;rw[bx] at l4;have d0:=s3.trans s4;have c1:Lrw H2 H4 D4 d3 _:=a8.base s3;lia;refine jF (d0.get e2) e4 (by rw[ra];omega) λH5 u5=>?_;have δ:=b6.join e2 s2 d0 c1 u5;have d2:Same H1 H5:=λb ob e=>u5.oth _ _ (ao e a5) (d0.get (s2.get e));have d6:=s1.trans d2;have l5:=δ.len;clear b6 a8 c1 e4 e3 rk es f3;have ο:=u5.at';lia;refine aI (d6.get hp) rfl ?_;lia;refine⟨p,N,od,rfl,na.same d6,λD6 H6 e0 f6 s6 e6 qk et=>?_⟩;have h3:e0.length=N.sts.length:=by rw[<-et,bx]
   lia;intro D7 ρ;refine aJ (xs:=e0.map λr=>V.ref r.1) (λi ys H'=>Same H6 H'/\H' D7=a' (.lst ys)/\Lrw H6 H' D7 ys ((N.sts.take i).map λr=>[("store":Wz),r.1,("=":Wz),r.2])) ⟨bo ρ,ax,Lrw.nil⟩ (λi ys H' _ ⟨s',_⟩=>SqL.of (s'.get e6)) ?_ ?_
   ·rintro i y ys H' hy ⟨s',e',lr⟩;obtain⟨r,χ,rfl⟩:=ay hy;have c0:=(bA.mp χ).1;have c5:=s'.get (qk r (dt χ));have ξ:N.sts[i]? =a' r.2:=by rw[<-et,hH,χ];rfl
    lia;intro D8 H8 f8 s8 e8;have ω:=lr.len;rw[bx,tu] at ω;refine⟨s8.get e',aR @A,λb ob e=>?_,ax,?_⟩
    ·rw[aG (ao e ρ)];exact s8.get (s'.get e)
    ·rw[take_succ ξ,ee];exact lr.put (s'.free f8) e' f8 s8 e8
   ·rintro α ψ ⟨s7,e7,a7⟩;rw[bx,h3,mc] at a7;have l7:=a7.len;rw[bx] at l7;have a0:=s6.trans s7;simp only[eX,bx] at l5;lia;refine jF (a0.get ο) e7 (by rw[ra];simp only[eX];omega) λH8 u8=>?_;have γ:=δ.join ο d2 a0 (a7.base s6) u8;have d1:Same H1 H8:=λb ob e=>u8.oth _ _ (ao e a5) (a0.get (d2.get e));have θ:=s1.trans d1;have l8:=γ.len;clear δ a7 e7 e6 qk et f6 ο;have e8:=u8.at';lia;refine aI (θ.get hp) rfl ?_;lia;refine⟨p,N,od,rfl,na.same θ,λD9 η f9 s9 e9=>?_⟩;lia;intro h0 c4;refine aJ (xs:=N.outs.map V.str) (λi ys H'=>Same η H'/\H' h0=a' (.lst ys)/\Lrw η H' h0 ys ((N.outs.take i).map λz=>[("out":Wz),z])) ⟨bo c4,ax,Lrw.nil⟩ (λi ys H' _ ⟨s',_⟩=>SqL.of (s'.get e9)) ?_ ?_
    ·rintro i y ys H' hy ⟨s',e',lr⟩;obtain⟨z,hz,rfl⟩:=ay hy;have c0:=(bA.mp hz).1;lia;intro k4 φ g0 ι υ;have ω:=lr.len;rw[bx,tu] at ω;refine⟨ι.get e',aR @A,λb ob e=>?_,ax,?_⟩
     ·rw[aG (ao e c4)];exact ι.get (s'.get e)
     ·rw[take_succ hz,ee];exact lr.put (s'.free g0) e' g0 ι υ
    ·rintro d4 j4 ⟨Z,g4,β⟩;rw[bx,mc] at β;have h4:=β.len;rw[bx] at h4;have a3:=s9.trans Z;simp only[eX,bx] at l8;lia;refine jF (a3.get e8) g4 (by rw[ra];simp only[eX];omega) fun φ a6=>?_;have c2:Lrw H1 φ τ _ (ub N):=γ.join e8 d1 a3 (β.base s9) a6;have d5:Same H1 φ:=λb ob e=>a6.oth _ _ (ao e a5) (a3.get (d1.get e));have d8:=s1.trans d5;have υ:=a6.at';clear γ β g4 e9 f9 e8 a6;generalize ys++d3++α++d4=Y at c2 υ;obtain⟨ds,rfl,ld,_,_,hd⟩:=c2;lia;intro i3 c3;refine aJ (xs:=ds.map V.ref) (λi ys H'=>Cs (λi ys=>ys=(((ub N).take i).map rowT).map V.str) φ i3 i ys H') (Cs.zero c3 rfl) (λi ys H' _ c=>SqL.of (c.same.get υ)) (λi y ys H' hy c=>?_) (λys j3 c=>?_)
     ·obtain⟨d,f0,rfl⟩:=ay hy;have c0:=(bA.mp f0).1;obtain⟨r,χ⟩:∃r,(ub N)[i]? =a' r:=⟨_,cn @A⟩;have hm:=dt χ;have er:=c.same.get (hd i d r f0 χ);have b1:=(fm r hm).len
      have a4:∀(l:B'),(∀w∈l,w.length<=6)->(l.map (·.length)).sum<=l.length * 6:=λl=>by
       induction l with
       | nil=>intro _;simp
       | cons x l ih=>intro h;have:=ih λw hw=>h w (W1 _ hw);have:=h x W6;simp only[Xk,av2,Xa];omega
      have hs:=a4 r b1.2;lia;refine Pa (SqL.of er) (by rw[z8];show _ + r.length * 1<=_;omega) ?_;rw[Fo,z8];refine Cs.put c3 c.same c.at' c.len @A ?_;rw[c.pv,take_succ χ,ee,ee];rfl
     ·have g3:=c.at';rw[c.pv,bx,ld,mc] at g3
      have a4:∀(l:ef B'),(∀r∈l,Fm r)->((l.map rowT).map (·.length)).sum<=l.length * 189:=λl=>by
       induction l with
       | nil=>intro _;simp
       | cons x l ih=>
         intro h;have:=ih λw hw=>h w (W1 _ hw);have b1:=(h x W6).len;have b2:=Ak b1.2;have b3:x.length * 7<=27 * 7:=ZF 7 b1.1;simp only[Xk,av2,Xa];omega
      have hs:=a4 (ub N) fm;lia;refine Pa (SqL.of g3) (by rw[DN,bx];show _ + (ub N).length * 1<=_;omega) ?_;rw[Fo,DN];exact q _ (d8.trans c.same)
section
theorem wO (T:Tx K mg a):FnOk P w K mg base CX0 1 a.nC a.F2 ["masks","width"] M7:=by
 refine T.qe.1.okA oz fun δ A outer s H vs Q E ε h=>?_;obtain⟨r,bs,rfl,β,hl,q⟩:=h
 refine⟨_,((ae (az (i:=2) oz.nd rfl @D ah)
  (ae (fG W5 rfl (Eg (K:=K) rfl @F T.eg (pv 0)) (wH rfl (bD (ar (i:=3) oz.nd rfl @D) (bD (ar (i:=4) oz.nd rfl @D) iE))) (ai (az (i:=2) oz.nd rfl @D (aE jB (pv 2) (aE gZ (pv 4) (aE se (pv 3) (pv 1)))))))
  (ai (aD (pv 2)))))),aw (σ':=[a' _,a' _,gn,gn,gn]) rfl ?_⟩
 lia;refine A9 (xs:=bs.map bV) (λi σ H'=>∃v ψ,σ=[a' (.ref r),a' (.int 1),a' (nat (M.pk (sq bs) 0 i)),v,ψ]/\Same H H') ⟨gn,gn,rfl,Same.refl _⟩ (λi σ H' _ ⟨_,_,_,e⟩=>SqL.of (e.get β)) ?_ ?_
 ·rintro i y σ H' p η α ⟨v,ψ,rfl,Y⟩ fp Z ζ;obtain⟨b,hb,rfl⟩:=ay α;have hi:=(bA.mp hb).1;have γ:M.bn b<=1:=by cases b<;>decide
  lia;refine⟨a' (nat i),a' (bV b),?_,Y.trans Z⟩;rw[M.pk,XH,Jf hb,Int.mul_one]
  have e:((M.bn b:Nat):Int) * 2 ^ ((i:Int).toNat)=((if b=true then 2 ^ i else 0:Nat):Int):=by
   cases b
   ·rw[oT hF];exact Int.zero_mul _
   ·rw[zt rfl];exact shl1 i
  rw[e,cI]
 ·rintro σ H' ⟨v,ψ,rfl,Y⟩;rw[bx];lia;exact q _ Y
local macro_rules | `(tactic| walk_at "l2step") =>`(tactic| first | ((with_reducible refine' dC ?e ?_);(case e=>walk_at "l2kind")) | ((with_reducible refine' gD ?e ?_);(case e=>walk_at "l2kind")))
theorem yJ (T:Tx K mg a):FnOk P w K mg base CX0 3 a.eK a.sX ["row"] Jz:=by
 have ν:FnOk P w K mg base CX0 2 a.ig a.sS ["thing","width"] (z7 K):=mB T;refine T.jT.1.okA yy fun δ A outer s H vs Q E β h=>?_;obtain⟨r,bs,rfl,γ,hl,q⟩:=h;have ε:(bs.map bV).length=bs.length:=bx ..
 refine⟨_,((ae (du (PW.pt (og (h7 (gj (aP (kR (K:=K) rfl) @F T.fI Xn (!j 0 (aa (rp (v:= .ty "list") @F T.g5 W2 rfl) af))))) (mx (aM rz (aP (be (K:=K) rfl) @F T.ia W8 (!j 0 af)) (jw (v:= .int 40) @F T.xS ⟨_,rfl⟩) (aW _))))) (ai (i0 WX T.pE thr0 rfl @F T.FY (aa bI af))) bg)
  (ai (du (h7 (gj (aP (tD (K:=K) rfl rfl) @F T.NZ Z7 (aa (bC (osc:=ag jI) (ON:=n10) (N:=["bit"]) (n:=1) (fx:=[]) rfl rfl rfl @H (aK (K:=K) rfl (pv 0)) (aA @C) (!C (ar (i:=0) (show kv (["bit"]:B') from by decide +kernel) rfl @D) (aj ν β T.mJ T.iq (!j 0 (aa ah af))))) af)))) (ai (i0 WX T.pE thr0 rfl @F T.FY (aa bI af))) bg)))),aw (σ':=[a' _]) rfl ?_⟩
 lia;refine gL (f' @A) ?_;lia;intro D Y;refine aJ (xs:=bs.map bV) (λi ys H'=>Cs (λi ys=>ys=(n' i true).map V.bl) H D i ys H') (Cs.zero Y rfl) (λi ys H' _ c=>SqL.of (c.same.get γ)) (λi x ys H' α c=>?_) (λys H' c=>?_)
 ·obtain⟨b,hb,rfl⟩:=ay α;have hi:=(bA.mp hb).1;have hm:oU (bV b) 1=true:=bK (n:=1) (by cases b<;>decide);lia;refine Cs.put Y c.same c.at' c.len @A ?_;rw[c.pv,YQ,ee,hm];rfl
 ·have Z:=c.at';rw[c.pv] at Z;lia;refine BF (SqL.of Z) ?_;lia;refine gL (by rw[aq7];simp) ?_;lia;exact q H' c.same
theorem wN (T:Tx K mg a):FnOk P w K mg base CX0 6 a.iL a.zL ["row","length"] Jm:=by
 have Mr:=(jZ (P:=P) (w:=w) (base:=base) T).imp DJ;refine T.mM.1.okA qW λa3 A outer s H vs Q E χ h=>?_;obtain⟨r,bs,L,rfl,hp,hl,hL,qa,α⟩:=h;have ν:(((bs.map bV).length:Nat):Int) - (L:Int)=((bs.length - L:Nat):Int):=by rw[bx];omega
 refine⟨_,((ae (az (i:=2) qW.nd rfl @D (aE lh (aP (be (K:=K) rfl) @F T.ia W8 (!j 0 af)) (pv 1)))
  (ae (bU (osc:=ag pK) (ON:=["row","length","count","columns"]) (N:=["place","row","count"]) (n:=1) (fx:=[0,2]) (i:=3) qW.nd rfl rfl rfl rfl rfl rfl @H (cE @F T.fo (!j 1 af)) (aA @C) (!C (ar (i:=0) (show kv (["place","row","count"]:B') from by decide +kernel) rfl @D) (aj (wO T) χ T.A1 T.qe (aa (h8 (g8 (K:=K) rfl) (pv 1) (ju (pv 0)) (ju (aE h9 (pv 0) (pv 2)))) (aa ah af)))))
  (ai (aD (aj Mr χ T.mI T.ik (!j 3 (aa (aj (wO T) χ T.A1 T.qe (aa (h8 (g8 (K:=K) rfl) (pv 0) (ju (pv 1)) mh) (aa ah af))) af)))))))),aw (σ':=[a' _,a' _,gn,gn]) rfl ?_⟩
 lia;rw[ν];generalize hc:bs.length - L=γ;lia;intro D hD;refine df (λi ys H'=>Cs (λi ys=>ys=((lx i).map λp=>M.pk (sq bs) p γ).map nat) H D i ys H') (Cs.zero hD rfl) (λi ys H' hi c=>?_) (λys H' c=>?_)
 ·have φ:=c.same.get hp;lia;intro p H2 f2 β θ;have ι:(0:Int) + (i:Int)=(i:Int):=YK _;have η:(i:Int) + (γ:Int)=((i + γ:Nat):Int):=by push_cast;rfl
  have δ:i < L:=by omega
  rw[ι,η,Ox bs i (i + γ) @A @A,Nat.add_sub_cancel_left] at θ;lia;refine⟨p,(bs.drop i).take γ,rfl,θ,by rw[tu];omega,λH3 Z=>?_⟩;rw[Ef bs i γ @A];refine Cs.put hD (c.same.trans (β.trans Z)) (Z.get (β.get c.at')) c.len @A ?_;rw[c.pv,XR,ee,ee];rfl
 ·have φ:=c.same.get hp;have ν:=c.at';rw[c.pv,wq] at ν;lia;intro p H2 f2 β θ;have Y:bs.drop L=(bs.drop L).take γ:=(XN (by rw[Zg];omega)).symm;rw[Ow bs L hL,Y] at θ;lia;refine⟨p,(bs.drop L).take γ,rfl,θ,by rw[tu];omega,λH3 Z=>?_⟩;rw[Ef bs L γ @A];lia;have wd:∀t,M.pk (sq bs) t γ < 2 ^ 1000:=λt=>eP (M.pk_lt _ _ _) (gB @C @A);have ζ:((lx L).map λp=>M.pk (sq bs) p γ).length=L:=by rw[bx,W7]
  have a0:=M.fr_len ((lx L).map λp=>M.pk (sq bs) p γ);have hs:=c.same.trans (β.trans Z);have τ:=fun ε=>KR (bs:=bs) (L:=L) (q:=ε) hL;rw[hc] at τ;refine⟨D,(lx L).map (λp=>M.pk (sq bs) p γ),M.pk (sq bs) L γ,rfl,Z.get (β.get ν),@A,λx υ=>?_,wd L,.inr @A,λt D' ω ε ρ π ο hq ξ=>?_,λt ω m ρ π ψ _ _ hw=>?_⟩
  ·obtain⟨y,_,rfl⟩:=ic.mp υ;exact wd y
  ·rw[ζ] at hq;exact qa t D' ω ε (hs.trans ρ) π ο hq ((τ ε).mp ξ)
  ·refine α t ω m (hs.trans ρ) π (hw 1000 (λx υ=>?_) (wd L)) fun ε _ hk=>ψ ?_
   ·obtain⟨y,_,rfl⟩:=ic.mp υ;exact wd y
   ·rw[<-(τ ε).mpr hk];exact M.sm_span _ _
theorem yE (T:Tx K mg a):FnOk P w K mg base CX0 7 a.eh a.sR ["length","places"] (Gz a.aq):=by
 refine T.jN.1.okA qw λa4 A outer s H vs Q E hr h=>?_;obtain⟨D0,L,G,rfl,hp,hG,hL,q⟩:=h
 refine⟨_,((ae (bU (osc:=ag jE) (ON:=["length","places","nexts"]) (N:=["place"]) (n:=1) (fx:=[]) (i:=2) qw.nd rfl rfl rfl rfl rfl rfl @H (cE @F T.fo (aa (aE lh (pv 0) ah) af)) (aA @C) (!C (ar (i:=0) (show kv (["place"]:B') from by decide +kernel) rfl @D) (cL (aa (aE gZ ah (aE h9 (pv 0) ah)) (aa ah af)))))
  (Ra (du (aM rz (pv 0) ah (aW _)) (ai (bL (gY (K:=K) rfl WC Xt Xr ie (pv 2) (aa (cL (aa (aj (iF T) hr T.kE T.gE (!j 1 af)) (aa ah af))) af)))) bg)
  (ai (aD (jv T.tI (dY T) (hr.mono @C) @F T.sN T.cb.2 .nil bJ (aa ah (!j 2 (aa (dJ (aa (cL (aa (FD (aM rz (pv 0) ah (aW _)) ah ah) (aa ah af))) af)) af))))))))),aw (σ':=[a' _,a' _,gn]) rfl ?_⟩
 lia;intro D χ;refine df (λi ys H'=>∃ps:ef Pr3,Cs (λi ys=>ys=refs ps) H D i ys H'/\Prt H' ps/\ps.map (λq=>q.2)=(lx i).map λp=>(2 ^ (p + 1),0)) ⟨[],Cs.zero χ rfl,λ_ h=>hQ h @E,rfl⟩ (λi ys H' hi ⟨ps,c,pt,γ⟩=>?_) (λys H' ⟨ps,c,pt,γ⟩=>?_)
 ·lia;intro p H2 f2 α ζ;have ι:(0:Int) + (i:Int) + 1=((i + 1:Nat):Int):=by push_cast;omega
  rw[ι,shl1] at ζ;obtain⟨a1,a2,ω⟩:=Cs.put (Pv:=λi ys=>ys=refs (ps++[(p,2 ^ (i + 1),0)])) (v:=V.ref p) χ (c.same.trans α) (α.get c.at') c.len @A (by rw[c.pv];unfold refs;rw[ee];rfl);have Z:=α.get c.at';refine⟨a1,a2,ps++[(p,2 ^ (i + 1),0)],⟨?_,ω.same,ω.at',ω.len⟩,fun υ β=>?_,?_⟩
  ·rw[c.pv];unfold refs;rw[ee];rfl
  ·rcases hB.mp β with h | h
   ·have:=α.get (pt υ h);rw[aG (cF this Z @E)];exact this
   ·rw[gA.mp h];show upd H2 D _ p=_;rw[aG (cF ζ Z @E)];exact ζ
  ·rw[ee,γ,XR,ee];rfl
 ·have Z:=c.at';rw[c.pv] at Z;have el:((L:Int) - 1).toNat=L - 1:=by omega
  rw[el] at γ;have a0:ps.length=L - 1:=by have:=Wy X3 γ;rw[bx,bx,W7] at this;exact this
  have φ:=c.same.get hp;lia;refine V3 (fun σ H2=>∃nx:ef Pr3,σ=[a' (nat L),a' (.ref D0),a' (.ref D)]/\Same H H2/\H2 D=a' (.lst (refs nx))/\Prt H2 nx/\nx.map (λq=>q.2)=(M.lm L G).map λx=>(x,0)) ?_ ?_
  ·lia;refine iteB (fun ρ=>?_) (fun ρ=>?_)
   ·have θ:0 < L:=by have:=WE ρ;omega
    have ε:G < 2 ^ 1000:=eP hG (gB @C @A);lia;refine⟨D0,M.pl 1000 G,rfl,φ,λp h=>M.pl_lt ε p h,?_⟩;rw[DF ε];lia;intro t H3 ξ Y τ;lia;refine kX (Y.get Z) (by unfold refs;rw[bx,ra];omega) λH4 η=>?_;lia;refine⟨ps++[(t,G,0)],rfl,λb o e=>η.oth _ _ (ao e χ) (Y.get (c.same.get e)),?_,fun υ β=>?_,?_⟩
    ·rw[η.at'];unfold refs;rw[ee];rfl
    ·rcases hB.mp β with h | h
     ·have:=Y.get (pt υ h);exact η.oth _ _ (cF this (Y.get Z) @E) this
     ·rw[gA.mp h];exact η.oth _ _ (cF τ (Y.get Z) @E) τ
    ·unfold M.lm;rw[zt θ,ee,γ,ee,WT];rfl
   ·have θ:¬0 < L:=λz=>by rw[hE (show(0:Int) < (L:Int) by omega)] at ρ;cases ρ
    lia;refine⟨ps,rfl,c.same,Z,pt,?_⟩;unfold M.lm;rw[oT θ,γ,Y8,WT];rfl
  ·rintro σ H2 ⟨nx,rfl,α,ζ,pn,en⟩
   have ψ:∀(R:V->Prop),R (nat (if 0 < L then 1 else 0))->(if decide ((0:Int) < (L:Int))=true then R (.int 1) else R (.int 0)):=λR h=>by
    by_cases θ:0 < L
    ·rw[zt (hE @A)];rw[zt θ] at h;exact h
    ·rw[oT (by simp;omega)];rw[oT θ] at h;exact h
   lia;refine ψ (λv=>tC v _ H2 _) ?_;lia;intro t H3 ξ Y τ;lia;intro o H4 f4 δ π;lia;intro x dx H5 f5 ν ο;have tab:=N4 hL hG (ν.get (δ.get (Y.get ζ))) (ν.get π) (ν.get (δ.get τ)) ((pn.same Y).same (δ.trans ν)) en;refine⟨x,dx,D,o,0,nx,_,rfl,ο,tab.1,λH6 k ma=>⟨rfl,?_⟩⟩
   have fx:H x=none:=by
    cases hx:H x with
    | none=>rfl
    | some v=>have:=δ.get (Y.get (α.get hx));rw[f5] at this;cases this
   exact q x H6 nx _ fx (λb ob e=>k b ob (ao e fx) (ν.get (δ.get (Y.get (α.get e))))) ma tab.1.g tab.2
theorem NO (T:Tx K mg a):FnOk P w K mg base CX0 8 a.rK a.LL ["row"] (GD a.aq):=by
 refine T.Bq.1.okA mW λa4 A outer s H vs Q E Z h=>?_;obtain⟨r,bs,rfl,δ,hl,q⟩:=h
 refine⟨_,((ae (bL (aj (yJ T) Z T.A6 T.jT (!j 0 af)))
  (ae (az (i:=1) mW.nd rfl @D ah)
  (ae (az (i:=2) mW.nd rfl @D (aj (wN T) Z T.zF T.mM (!j 0 (!j 1 af))))
  (ae (az (i:=3) mW.nd rfl @D (dJ af))
  (ae (jJ W5 (aM kU (!A @I (pv 2) ah) bI (aW _)) (ae (az (i:=3) mW.nd rfl @D (aj (mD T) Z T.o4 T.je (aa (!A @I (pv 2) ah) af)))
  (ae (az (i:=1) mW.nd rfl @D (aE h9 (pv 1) ah))
  (ai (az (i:=2) mW.nd rfl @D (aj (wN T) Z T.zF T.mM (!j 0 (!j 1 af))))))))
  (ai (aD (cL (aa (aj (yE T) Z T.AZ T.jN (!j 1 (aa (!A @I (pv 2) ah) af))) (aa (aj (wO T) Z T.A1 T.qe (aa (h8 (g8 (K:=K) rfl) (pv 0) mh (ju (pv 1))) (aa ah af))) (!j 3 af)))))))))))),aw (σ':=[a' _,gn,gn,gn]) rfl ?_⟩
 lia;refine⟨r,bs,rfl,δ,hl,λH1 ω=>?_⟩;lia;refine PZ (L:=0) (ω.get δ) hl (XZ _) λt0 H2 s2 F0=>?_;lia;intro D0 H3 f3 υ e3;lia;refine⟨fun μ σ' H'=>∃(L:Nat) (t D:eO),σ'=[a' (.ref r),a' (nat L),a' (.ref t),a' (.ref D)]/\Same H H'/\L<=bs.length/\μ=bs.length - L/\Fnd H' bs t L/\∀Y,Y < L->∀q,q < 2 ^ Y->¬Sx.Keeps bs Y q,⟨bs.length,0,t0,D0,rfl,ω.trans (s2.trans υ),XZ _,rfl,F0.same υ,λY h=>hQ h (YJ _)⟩,?_⟩;rintro μ σ' H' ⟨L,t,D,rfl,γ,ε,rfl,F,ρ⟩;rcases F with ⟨η,G,e,e',hG,hk⟩ | ⟨m,e,hm,hn⟩
 ·have φ:=γ.get δ;lia;refine⟨η,L,G,rfl,e',hG,@A,λp H4 nx os _ β ma χ lf=>?_⟩;have a0:=β.get φ;lia;intro u H5 f5 ν ο;rw[PU bs L ε] at ο;have et:bs.take L=(bs.drop 0).take L:=rfl;rw[et] at ο;lia;refine⟨u,(bs.drop 0).take L,rfl,ο,by rw[tu];omega,λH6 θ=>?_⟩;rw[Ef bs 0 L @A];lia;intro t' ψ f7 ζ e7;exact q t' p D ψ nx os L G (γ.trans (β.trans (ν.trans (θ.trans ζ)))) e7 (ma.same (ν.trans (θ.trans ζ))) χ lf hG ε hk ρ
 ·have ι:L < bs.length:=af7 ε λz=>hn 0 (W3 _) (by rw[z];exact KS bs 0);lia;refine⟨fun α H2=>∃(t D:eO),α=[a' (.ref r),a' (nat (L + 1)),a' (.ref t),a' (.ref D)]/\Same H H2/\Fnd H2 bs t (L + 1),fun α H2 ⟨ξ,τ,h1,h2,h3⟩=>⟨bs.length - (L + 1),@A,L + 1,ξ,τ,h1,h2,@A,rfl,h3,λY a3=>?_⟩,?_⟩
  ·by_cases h:Y < L
   ·exact ρ Y h
   ·rw[show Y=L by omega];exact hn
  ·lia;refine⟨m,rfl,hm,fun τ H4 f4 β π=>?_⟩;lia;have e1:(L:Int) + 1=((L + 1:Nat):Int):=by push_cast;rfl
   rw[e1];refine PZ (L:=L + 1) (β.get (γ.get δ)) hl ι fun ξ H5 ν F5=>?_;lia;exact⟨ξ,τ,rfl,γ.trans (β.trans ν),F5⟩
end
theorem NR (T:Tx K mg a):FnOk P w K mg base CX0 6 a.rM a.LP ["masks"] Nq:=by
 refine T.Bu.1.okA pI λd0 A outer s H vs Q E hr h=>?_;obtain⟨r,ms,n,rfl,hp,c2,hn,hb,q⟩:=h;have a5:∀x∈ms,x < 2 ^ 1000:=λx α=>Uy hn (hb x α)
 have Y:∀k,ms.getD k 0 < 2 ^ 1000:=λk=>by
  rw[bB];cases e:ms[k]? with
  | none=>exact W3 _
  | some x=>exact a5 x (dt e)
 have a6:∀k,k<=n->atI (ms.map nat) ((k:Nat):Int)=a' (nat (ms.getD k 0)):=λk hk=>R8 @A;have c5:=a6 0 (XZ n)
 refine⟨_,((ae (az (i:=1) pI.nd rfl @D ah)
  (ae (az (i:=2) pI.nd rfl @D (aj (jZ T) hr T.mI T.ik (aa (dJ af) (aa (!A (bu (K:=K) rfl) (pv 0) ah) af))))
  (ae (jJ W5 (aM kU (!A @I (pv 2) ah) bI (aW _)) (ae (az (i:=1) pI.nd rfl @D (aE h9 (pv 1) ah))
  (ai (az (i:=2) pI.nd rfl @D (aj (jZ T) hr T.mI T.ik (aa (h8 (g8 (K:=K) rfl) (pv 0) mh (ju (pv 1))) (aa (!A (bu (K:=K) rfl) (pv 0) (pv 1)) af)))))))
  (ae (bU (osc:=ag Aj) (ON:=["masks","place","found","sums"]) (N:=["number"]) (n:=1) (fx:=[]) (i:=3) pI.nd rfl rfl rfl rfl rfl rfl @H (cE @F T.fo (aa (aE lh (pv 1) ah) af)) (aA @C) (!C (ar (i:=0) (show kv (["number"]:B') from by decide +kernel) rfl @D) (dJ (aa (aE h9 (pv 0) ah) af))))
  (ae (du (aM rz (pv 1) ah (aW _)) (ai (bL (gY (K:=K) rfl WC Xt Xr ie (pv 3) (aa (!A @I (pv 2) ah) af)))) bg)
  (ai (aD (cL (aa (h8 (g8 (K:=K) rfl) (pv 0) mh (ju (pv 1))) (!j 3 af))))))))))),aw (σ':=[a' _,gn,gn,gn]) rfl ?_⟩
 lia;intro E0 H1 f1 s1 e1;have θ:=s1.get hp;lia;refine C0 (rows:=[]) (x:=ms.getD 0 0) e1 @C (λ_ h=>hQ h @E) (Y 0) @C λt0 H2 s2 F0=>?_;lia
 have c0:∀{p:Nat},p<=n->(∀k,k < p->¬M.Span (ms.take k) (ms.getD k 0))->¬M.Span (ms.take p) (ms.getD p 0)->p + 1<=n:=λ{p} θ h h'=>
  M.chain_short hb @A λk hk=>if hkp:k < p then h k hkp else by rw[show k=p by omega];exact h'
 refine⟨fun μ σ' H'=>∃(p:Nat) (t:eO),σ'=[a' (.ref r),a' (nat p),a' (.ref t),gn]/\Same H H'/\p<=n/\μ=n - p/\FdS H H' t (ms.take p) (ms.getD p 0)/\∀k,k < p->¬M.Span (ms.take k) (ms.getD k 0),⟨n,0,t0,rfl,s1.trans s2,XZ n,rfl,F0.back s1,λk h=>hQ h (YJ k)⟩,?_⟩;rintro μ σ' H' ⟨p,t,rfl,s6,b6,rfl,F,ρ⟩;have ζ:=s6.get hp;rcases F with ⟨η,ε,e,e',sd,fD⟩ | ⟨m,e,bd⟩
 ·lia;intro S hS;refine df (λi ys ψ=>∃rs:M',Cs (λi ys=>ys=rs.map V.ref) H' S i ys ψ/\rs.length=i/\∀k r,rs[k]? =a' r->ψ r=a' (.lst [nat (k + 1)])/\r≠S) ⟨[],Cs.zero hS rfl,rfl,λk r h=>by simp at h⟩ (λi ys ψ hi ⟨rs,c,lr,hg⟩=>?_) (λys ψ ⟨rs,c,lr,hg⟩=>?_)
  ·lia;intro r2 H8 f8 s8 e8;have ω:=s8.get c.at';have nS:r2≠S:=λz=>by subst z;rw[c.at'] at f8;cases f8
   have ei:(0:Int) + (i:Int) + 1=((i + 1:Nat):Int):=by push_cast;omega
   rw[ei] at e8;obtain⟨a1,a2,a3⟩:=Cs.put (Pv:=λi ys=>ys=(rs++[r2]).map V.ref) (v:=V.ref r2) hS (c.same.trans s8) ω c.len @A (by rw[c.pv,ee];rfl);refine⟨a1,a2,rs++[r2],a3,by rw[eX,lr];rfl,λk x α=>?_⟩;by_cases hk:k < rs.length
   ·rw[mu hk] at α;obtain⟨h1,h2⟩:=hg k x α;exact⟨by rw[aG h2];exact s8.get h1,h2⟩
   ·have τ:k=rs.length:=by
     have:=(bA.mp α).1;rw[eX] at this;have:k < rs.length + 1:=this;omega
    subst τ;rw[ov (p' _),Zq] at α;cases α;exact⟨by rw[aG nS,lr];exact e8,nS⟩
  ·have ω:=c.at';rw[c.pv] at ω;have el:((p:Int) - 1).toNat=p - 1:=by omega
   rw[el] at lr;have π:=c.same.get ζ;have e7:=c.same.get e;have a8:=c.same.get e';have ο:=s6.trans c.same;have fS:H S=none:=s6.free hS;have a4:η≠S:=ao e' hS;have a0:r≠S:=ao ζ hS;lia;refine iteB (λhc=>?_) (λhc=>?_)
   ·have χ:0 < p:=by have:=WE hc;omega
    lia;refine kX ω (by rw[bx,ra];omega) λH9 u=>?_;have s9:Same H H9:=λb o e=>u.oth b o (ao e fS) (ο.get e);have c4:=u.oth _ _ a0 π;have a7:H9 S=a' (.lst ((rs++[η]).map V.ref)):=by rw[u.at',ee];rfl
    have ξ:∀k x,(rs++[η])[k]? =a' x->H9 x=a' (.lst ((cps p ε k).map nat)):=λk x α=>by
     by_cases hk:k < rs.length
     ·rw[mu hk] at α;obtain⟨h1,h2⟩:=hg k x α;rw[u.oth _ _ h2 h1];unfold cps;rw[zt @A];rfl
     ·have τ:k=rs.length:=by
       have:=(bA.mp α).1;rw[eX] at this;have:k < rs.length + 1:=this;omega
      subst τ;rw[ov (p' _),Zq] at α;cases α;rw[u.oth _ _ a4 a8];unfold cps;rw[oT @A]
    have b3:(rs++[η]).length=p:=by rw[eX,lr];show p - 1 + 1=p;omega
    clear u hg ω lr e7 a8 π ζ c ο s6 e e' fD a4 a0 hc hS;lia;intro Dm c1 γ Z δ;rw[vT _ _ (by rw[bx];omega),<-Za] at δ;lia;intro tt φ β ι υ;exact q tt Dm S φ p ε (s9.free γ) fS (λz=>by subst z;rw[a7] at γ;cases γ) ((s9.trans Z).trans ι) υ ⟨⟨by omega,ρ,by rw[<-sd.sm];exact M.sm_span _ _⟩,sd,ι.get δ,rs++[η],(ChS.mk a7 b3 ξ).same (Z.trans ι)⟩
   ·have χ:p=0:=by
     have:¬(0:Int) < (p:Int):=ai5 hc;omega
    subst χ;have ν:rs=[]:=ZC lr;subst ν;lia;intro Dm c1 γ Z δ;rw[vT _ 0 (XZ _),<-Za] at δ;lia;intro tt φ β ι υ;exact q tt Dm S φ 0 ε (ο.free γ) fS (λz=>by subst z;rw[ω] at γ;cases γ) ((ο.trans Z).trans ι) υ ⟨⟨by omega,ρ,by rw[<-sd.sm];exact M.sm_span _ _⟩,sd,ι.get δ,[],(ChS.mk ω rfl (λk x α=>by simp at α)).same (Z.trans ι)⟩
 ·have θ:=c0 b6 ρ bd.ns;lia;refine⟨fun σ2 H2=>∃t,σ2=[a' (.ref r),a' (nat (p + 1)),a' (.ref t),gn]/\Same H H2/\FdS H H2 t (ms.take (p + 1)) (ms.getD (p + 1) 0),fun σ2 H2 ⟨t2,h1,h2,h3⟩=>⟨n - (p + 1),@A,p + 1,t2,h1,h2,θ,rfl,h3,λk hk=>?_⟩,?_⟩
  ·by_cases h:k < p
   ·exact ρ k h
   ·rw[show k=p by omega];exact bd.ns
  ·lia;have e1:(p:Int) + 1=((p + 1:Nat):Int):=by push_cast;rfl
   rw[e1];intro Dm ψ f7 ο e7;rw[vT _ _ (by rw[bx];omega),<-Za] at e7;have π:=ο.get ζ;have c3:=a6 (p + 1) θ;lia;refine C0 (rows:=ms.take (p + 1)) (x:=ms.getD (p + 1) 0) e7 (by rw[tu];omega) (λx α=>a5 x (ad3 α)) (Y _) (Xl (M.rank_le λx α=>hb x (ad3 α)) @A) λt2 H8 s8 F8=>?_;lia;exact⟨(s6.trans ο).trans s8,F8.back (s6.trans ο)⟩
end
section
theorem mC (T:Tx K mg a):FnOk P w K mg base CX0 1 a.nG a.F6 ["poly"] O6:=by
 refine T.jO.1.okA JE λY A outer s H vs Q E Z h=>?_;obtain⟨m,rfl,q⟩:=h;refine⟨_,((ai (aD (aE lh (oK (K:=K) rfl XB Xh Xg oS (pv 0)) ah)))),aw (σ':=[a' _]) rfl ?_⟩;lia;exact q
theorem Wk {m:Nat} (q:Q (.int (dg m)) H):O6 [nat m] H Q E:=⟨m,rfl,q⟩
local macro_rules | `(tactic| walk_at "l2step") =>`(tactic| (with_reducible refine Wk ?_))
theorem G7 (T:Tx K mg a):FnOk P w K mg base (CX1 P w) 2 a.kO a.CM ["one","other"] (SZ a.dQ):=by
 refine T.pC.1.okX jX (λvs H Q E h=>?_) (λa0 A outer s H vs Q E β h=>?_)
 ·obtain⟨x,d,rfl,_⟩:=h;rfl
 ·obtain⟨x,d,rfl,π,hd,ω,γ⟩:=h
  refine⟨_,((ae (du (aM kU (pv 1) ah (aW _)) (ai (i0 WX T.i8 iX rfl @F T.sP (aa bI af))) bg)
   (ae (az (i:=2) jX.nd rfl @D ah)
   (ae (az (i:=3) jX.nd rfl @D (pv 0))
   (ae (jJ (rq ⟨rfl,rfl⟩) (aM Rk (aj (mC T) β T.pX T.jO (!j 3 af)) (aj (mC T) β T.pX T.jO (!j 1 af)) (aW _)) (ae (az (i:=4) jX.nd rfl @D (aE lh (aj (mC T) β T.pX T.jO (!j 3 af)) (aj (mC T) β T.pX T.jO (!j 1 af))))
   (ae (az (i:=2) jX.nd rfl @D (aE jB (pv 2) (aE gZ ah (pv 4))))
   (ai (az (i:=3) jX.nd rfl @D (aE jB (pv 3) (aE J7 (pv 1) (pv 4))))))))
   (ai (aD (cL (!j 2 (!j 3 af)))))))))),aw (σ':=[a' _,a' _,gn,gn,gn]) rfl ?_⟩
  lia;by_cases Z:d=0
  ·subst Z;lia;exact⟨by rw[ra];decide,ω rfl⟩
  ·refine gL (f' λz=>Z (by have:=V.int.inj z;omega)) ?_;have γ:=γ Z;lia;refine⟨fun μ σ' H'=>∃ε v,σ'=[a' (nat x),a' (nat d),a' (nat ε),a' (nat μ),v]/\H'=H/\M.cm ε d^^^μ=x/\μ<=x/\M.Dv d (x^^^μ),⟨x,0,gn,rfl,rfl,by rw[M.zero_cm,Yy],p' _,by rw[XU];exact M.Dv.zero d⟩,?_⟩;rintro μ σ' H' ⟨ε,v,rfl,rfl,ξ,θ,ν⟩;lia;refine iteB (λhb=>?_) (λhb=>?_)
   ·obtain⟨δ,hl⟩:=(U5 Z).mp (WE hb);have ζ:μ < 2 ^ 1000:=Xl θ π;have ι:=M.log2_under δ ζ;have ep:dg μ - dg d=((μ.log2 - d.log2:Nat):Int):=by rw[qF δ,qF Z];omega
    have ht:=M.div_turn Z δ hl;have hs:CShl (d:Int) ((μ.log2 - d.log2:Nat):Int):=cshl (zY hd @C) @A;generalize ρ:μ.log2 - d.log2=pl at *
    refine⟨fun α H2=>∃ε Y v,α=[a' (nat x),a' (nat d),a' (nat ε),a' (nat Y),v]/\H2=H'/\M.cm ε d^^^Y=x/\Y < μ/\M.Dv d (x^^^Y),fun α H2 ⟨ε,Y,v,h1,h2,φ,υ,τ⟩=>⟨Y,υ,ε,v,h1,h2,φ,@A,τ⟩,?_⟩;lia;rw[ep];lia;refine⟨ε^^^2 ^ pl,μ^^^d * 2 ^ pl,a' (nat pl),?_,rfl,by rw[RZ];exact ξ,ht,?_⟩
    ·rw[shl1,cI,JB,cI]
    ·have:=ν.xor (M.turn_dv d μ pl);rwa [<-Xv,M.xor_cancel] at this
   ·have η:=Kr Z (λz=>hQ ((U5 Z).mpr z) (ai5 hb));lia;intro t H2 χ ο ψ;exact γ t H2 ε μ χ ο ψ ⟨η,ν⟩ ξ
theorem wM (T:Tx K mg a):FnOk P w K mg base CX0 3 a.dA a.qG ["poly"] MX:=by
 refine T.i5.1.okA cR λa0 A outer s H vs Q E π h=>?_;obtain⟨d,rfl,β,hl1,δ,q⟩:=h;have θ:d≠0:=by omega
 have η:d < 2 ^ 1000:=zY δ @C;obtain⟨Z,O⟩:=M.order_exists β hl1
 refine⟨_,((ae (az (i:=1) cR.nd rfl @D (aj (mC T) π T.pX T.jO (!j 0 af)))
  (ae (az (i:=2) cR.nd rfl @D (!A @I (NK (G7 T) (π.mono @C) @F T.Le T.pC.1.2 T.pC.2 .nil thr0 (aa ah (!j 0 af))) ah))
  (ae (az (i:=3) cR.nd rfl @D ah)
  (ae (jJ W5 (aM wL (pv 2) ah (aW _)) (ae (az (i:=2) cR.nd rfl @D (aE J7 (pv 2) ah))
  (ae (du (aM kU (aj (mC T) π T.pX T.jO (!j 2 af)) (pv 1) (aW _)) (ai (az (i:=2) cR.nd rfl @D (aE jB (pv 2) (pv 0)))) bg)
  (ai (az (i:=3) cR.nd rfl @D (aE h9 (pv 3) ah))))))
  (ai (aD (pv 3)))))))),aw (σ':=[a' _,gn,gn,gn]) rfl ?_⟩
 lia;refine⟨2,d,rfl,zY (show 2 < 2 ^ 2 by decide) @C,η,λz=>hQ z θ,λ_ t H2 ε r f2 υ e2 R _=>?_⟩;lia;refine⟨fun μ σ' H'=>∃p n,σ'=[a' (nat d),a' (.int (dg d)),a' (nat p),a' (nat n)]/\H'=H2/\M.Rm d (2 ^ n) p/\1<=n/\n<=Z/\μ=Z - n,⟨Z - 1,r,1,rfl,rfl,by rw[ah4];exact R,p' _,O.pos,rfl⟩,?_⟩;rintro μ σ' H' ⟨p,n,rfl,rfl,ο,ρ,ν,rfl⟩;lia;by_cases p1:p=1
 ·subst p1;refine gL rfl ?_;lia
  have:n=Z:=by
   refine au0 ν (Zr fun δ=>O.least n ρ δ ο)
  rw[this];exact q H' Z υ O
 ·refine mY (by rw[f' λz=>p1 (by have:=V.int.inj z;omega)];rfl) ?_;have Y:n < Z:=af7 ν λz=>p1 (by rw[z] at ο;exact ο.uniq θ O.one);have α:p < 2 ^ 17:=ad9 ο.lt (Xl (Z0 θ) δ);have hs:CShl (p:Int) 1:=cshl (p:=1) (zY α @C) @C;have γ:=ο.next θ;have e1:(p:Int) * 2 ^ (1:Int).toNat=((p * 2:Nat):Int):=by push_cast;rfl
  refine⟨fun ι H2=>∃p ζ,ι=[a' (nat d),a' (.int (dg d)),a' (nat p),a' (nat ζ)]/\H2=H'/\M.Rm d (2 ^ ζ) p/\1<=ζ/\ζ<=Z/\Z - ζ < Z - n,fun ι H2 ⟨p,ζ,h1,h2,ω,ψ,φ,χ⟩=>⟨_,χ,p,ζ,h1,h2,ω,ψ,φ,rfl⟩,?_⟩;lia;rw[e1];lia;by_cases ξ:p * 2≠0/\(p * 2).log2=d.log2
  ·rw[zt ξ] at γ;refine mY (hE (by rw[qF ξ.1,qF θ,ξ.2])) ?_;lia;refine⟨p * 2^^^d,n + 1,?_,rfl,γ,@A,@A,@A⟩;rw[cI];rfl
  ·rw[oT ξ] at γ;refine gL (f' λz=>ξ ?_) ?_
   ·have z:=V.int.inj z;have τ:p * 2≠0:=λy=>by rw[y,Lz,qF θ] at z;omega
    exact⟨τ,by rw[qF τ,qF θ] at z;omega⟩
   ·lia;exact⟨γ,(show 1<=n + 1 by omega),(show n + 1<=Z by omega),(show Z - (n + 1) < Z - n by omega)⟩
end
section
local macro_rules | `(tactic| walk_at "l2step") =>`(tactic| first | ((with_reducible refine' dC ?e ?_);(case e=>walk_at "l2kind")) | ((with_reducible refine' gD ?e ?_);(case e=>walk_at "l2kind")) | (with_reducible refine cM ?_) | (with_reducible refine dW ?_))
theorem ve (T:Tx K mg a):FnOk P w K mg base CX0 5 a.c6 a.o9 ["machine","state"] (Gx a.aq):=by
 refine T.il.1.okA ji fun ξ A outer s H vs Q E ε h=>?_;obtain⟨p,m,nx,os,d,rfl,ma,g,hd,q⟩:=h;obtain⟨dx,ρ,to,ho,hn,ι⟩:=ma.ho;have ln:=g.ln
 refine⟨_,((ae (az (i:=2) ji.nd rfl @D (dJ (!j 1 af)))
  (ae (fG W5 rfl (cE @F T.fo (aa (aZ (pv 0) T.au T.aU (aQ T) (ε.mono @C) T.aL.2 .nil bJ) af)) (ar (i:=3) ji.nd rfl @D) (ai (bL (gY (K:=K) rfl WC Xt Xr ie (pv 2) (aa (!A @I (dj (pv 0) T.au T.fi (dM T) (ε.mono @C) T.b0.2 .nil thr0 (aa (!A (bu (K:=K) rfl) (pv 2) (T8 OV ah)) (aa ah af))) ah) af)))))
  (ai (aD (pv 2)))))),aw (σ':=[a' _,a' _,gn,gn]) rfl ?_⟩
 lia;intro D H1 η α ν;lia;refine aI (α.get ho) rfl ?_;lia;refine⟨p,m,nx,os,rfl,ma.same α,?_⟩;lia;refine o5 (λi σ H'=>∃v,σ=[a' (.ref p),a' (nat d),a' (.ref D),v]/\Same H H'/\H' D=a' (.lst ((M.zl (prs nx) d i).map nat))) ⟨gn,rfl,α,ν⟩ ?_ ?_
 ·rintro i σ H' hi ⟨v,rfl,Y,Z⟩;have θ:(M.zl (prs nx) d i).map nat=((lx i).map (M.zs (prs nx) d)).map nat++[nat (M.zs (prs nx) d i)]:=by unfold M.zl;rw[XR,ee,ee];rfl
  have hz:=M.zs_lt (ps:=prs nx) (d:=d) (by rw[aN];exact hd) i;rw[aN] at hz;rw[θ] at Z;have π:=Ge (((lx i).map (M.zs (prs nx) d)).map nat) (nat (M.zs (prs nx) d i));have ο:=ma.same Y;have ζ:=Y.get ho;lia;refine cD ζ rfl ?_;lia;refine⟨p,m,nx,os,nat (M.zs (prs nx) d i),nat 0,"int","int",rfl,ο,g,rfl,rfl,λa1 b1 ea β _ _ τ ψ δ υ=>?_,fun γ=>?_⟩
  ·have ea:=dZ ea;have β:=dZ β;subst ea β;lia;refine kX (δ.get Z) (by rw[eX,bx,bx,W7,ra];show i + 1 < _;omega) fun φ u=>?_;lia;refine⟨λb o e=>u.oth b o (ao e η) (δ.get (Y.get e)),?_⟩;rw[u.at',<-θ];unfold M.zl;rw[XR (n:=i + 1),ee,ee];rfl
  ·rcases γ with h | h
   ·rw[bK hz] at h;cases h
   ·rw[bK (W3 _)] at h;cases h
 ·rintro σ H' ⟨v,rfl,Y,Z⟩;lia;exact q D H' η Y Z
theorem Au (T:Tx K mg a):FnOk P w K mg base CX0 7 a.fJ a.uQ ["machine","state"] (M0 a.aq):=by
 refine T.lG.1.okA rT λa3 A outer s H vs Q E ο h=>?_;obtain⟨p,m,nx,os,d,rfl,ma,g,γ,hd,q⟩:=h
 refine⟨_,((ae (az (i:=2) rT.nd rfl @D (aj (NR T) ο T.RN T.Bu (aa (aj (ve T) ο T.xQ T.il (!j 0 (!j 1 af))) af)))
  (ae (du (aM kU (aP (be (K:=K) rfl) @F T.ia W8 (aa (!A @I (pv 2) ah) af)) ah (aW _)) (ai (aD ah)) bg)
  (ai (aD (aj (iF T) ο T.kE T.gE (aa (aE km (!A (bu (K:=K) rfl) (!A @I (pv 2) ah) (T8 OV ah)) (dJ (aa (aP (be (K:=K) rfl) @F T.ia W8 (aa (!A @I (pv 2) ah) af)) af))) af))))))),aw (σ':=[a' _,a' _,gn]) rfl ?_⟩
 lia;refine⟨p,m,nx,os,d,rfl,ma,g,hd,λD H1 f1 s1 e1=>?_⟩;lia
 have ρ:∀x∈M.zl (prs nx) d nx.length,x < 2 ^ nx.length:=λx hx=>by
  have:=M.zl_lt (ps:=prs nx) (d:=d) (n:=nx.length) (by rw[aN];exact hd) x hx;rwa [aN] at this
 refine⟨D,M.zl (prs nx) d nx.length,nx.length,rfl,e1,M.zl_len _ _ _,@A,ρ,λt A S H2 Y ε fA fS ne s2 et ch=>?_⟩;have δ:=s1.trans s2;obtain⟨rs,ν⟩:=ch.s;have υ:Y<=nx.length:=by have:=ch.fs.lt;rw[M.zl_len] at this;omega
 have η:((M.zl (prs nx) d nx.length).take Y).length=Y:=by rw[tu,M.zl_len];omega
 have ι:ε < 2 ^ Y:=by have:=ch.sd.lt;rwa [η] at this
 obtain⟨Z,lg⟩:=M.least_of ch.fs ι ch.sd.sm;have eA:=ch.d;lia;rw[bx,η];by_cases θ:Y=0
 ·refine mY (hE (by rw[θ];rfl)) ?_;lia;subst θ;have τ:ε=0:=by have:ε < 1:=ι;omega
  subst τ;exact q H2 1 δ Z (by have h1:(0^^^2 ^ 0:Nat).log2=0:=lg;have h2:Nat.log2 1=0:=h1;omega)
 ·refine gL (f' λz=>θ (by have:=V.int.inj z;omega)) ?_;obtain⟨r,ζ⟩:∃r,rs[Y - 1]? =a' r:=⟨_,cn (by rw[ν.len];omega)⟩;have χ:=ν.get _ _ ζ;unfold cps at χ;rw[oT @A] at χ
  have φ:rs=rs.take (Y - 1)++[r]:=by
   have:=take_succ ζ;rw[show Y - 1 + 1=rs.length by rw[ν.len];omega,mc] at this;exact this
  have eS:=ν.at_;rw[φ,ee] at eS;have π:=Ge ((rs.take (Y - 1)).map V.ref) (V.ref r);lia;intro B H3 ξ ω e3;rw[bx,η] at e3;have a0:=M.pl_le 1000 ε;refine rj (ω.get χ) e3 (by rw[bx,ra];simp;omega) fun α H4 f4 s4 e4=>?_;have ψ:H4 α=a' (.lst ((M.pl 1000 ε++[Y]).map nat)):=by rw[e4,ee];rfl
  have β:ε < 2 ^ 1000:=eP ι (gB @C @A);lia;refine⟨α,M.pl 1000 ε++[Y],rfl,ψ,λz hz=>?_,?_⟩
  ·rcases hB.mp hz with h | h
   ·have:=M.pl_lt ι z h;omega
   ·rw[gA.mp h];omega
  ·rw[M.xm_snoc,DF β];exact q _ _ (δ.trans (ω.trans s4)) Z (by rw[lg];exact υ)
theorem G4 (T:Tx K mg a):FnOk P w K mg base CX0 8 a.kI a.CF ["machine","state"] (Jq a.aq):=by
 refine T.tL.1.okA mn fun φ A outer s H vs Q E η h=>?_;obtain⟨p,m,nx,os,d,rfl,ma,g,γ,hd,q⟩:=h;obtain⟨dx,ψ,to,ho,hn,π⟩:=ma.ho
 refine⟨_,((ae (bL (dj (pv 0) T.au T.dk (dc T) (η.mono @C) T.bj.2 .nil thr0 (!j 1 af)))
  (ae (az (i:=2) mn.nd rfl @D (aj (Au T) η T.Cg T.lG (!j 0 (!j 1 af))))
  (ae (az (i:=3) mn.nd rfl @D ah)
  (ae (jJ W5 (aM kU (aE ko (pv 2) ah) ah (aW _)) (ae (az (i:=2) mn.nd rfl @D (aE oM (pv 2) ah))
  (ai (az (i:=3) mn.nd rfl @D (aE h9 (pv 3) ah)))))
  (ae (du (aM kU (pv 2) ah (aW _)) (ai (aD (cL (!j 3 (aa ah af))))) bg)
  (ai (aD (cL (!j 3 (aa (aj (wM T) η T.zk T.i5 (!j 2 af)) af))))))))))),aw (σ':=[a' _,a' _,gn,gn]) rfl ?_⟩
 lia;refine cD ho rfl ?_;lia;refine⟨p,m,nx,os,nat d,"int",rfl,ma,rfl,λht=>?_,λht=>hQ (bK hd) (by rw[ht];decide)⟩;lia;refine⟨p,m,nx,os,d,rfl,ma,g,γ,hd,λH1 P0 ν L0 ω=>?_⟩;lia;refine⟨fun μ σ' H'=>∃l:Nat,σ'=[a' (.ref p),a' (nat d),a' (nat μ),a' (nat l)]/\H'=H1/\μ * 2 ^ l=P0,⟨P0,0,rfl,rfl,@E⟩,?_⟩;rintro μ σ' H' ⟨l,rfl,rfl,Y⟩;have Z:μ≠0:=λz=>L0.nz (by rw[<-Y,z,Nat.zero_mul]);have δ:X6 (μ:Int) 1=((μ % 2:Nat):Int):=by rw[show(1:Int)=((1:Nat):Int) from rfl,dh,af8]
 lia;rw[δ];rcases WQ μ with h2 | h2
 ·refine mY (hE (by rw[h2];rfl)) ?_;refine⟨fun β H2=>β=[a' (.ref p),a' (nat d),a' (nat (μ / 2)),a' (nat (l + 1))]/\H2=H',fun β H2 ⟨υ,ι⟩=>⟨μ / 2,@A,l + 1,υ,ι,?_⟩,?_⟩
  ·rw[XX,<-Y,Z9 (2 ^ l),<-av9,show μ / 2 * 2=μ by omega]
  ·lia;rfl
 ·refine gL (f' λz=>by have:=V.int.inj z;omega) ?_;have ζ:=M.log2_shift Z l;rw[Y] at ζ;have hl:l<=nx.length:=by omega
  rw[<-Y] at L0;lia;by_cases h1:μ=1
  ·subst h1;refine mY (hE rfl) ?_;lia;intro t H2 f2 ε ι;exact q t H2 l 1 (ν.trans ε) ι (Rz hl)
  ·refine gL (f' λz=>h1 (by have:=V.int.inj z;omega)) ?_;have α:1<=μ.log2:=(an5 Z).mpr (by show 2<=μ;omega);lia;refine⟨μ,rfl,h2,α,?_,λH2 e ε O=>?_⟩
   ·exact eP XO (gB @C @A)
   ·have θ:=M.order_lt h2 α O;have ρ:=We (show μ.log2<=16 by omega);lia;intro t χ ξ ο τ;exact q t χ l e (ν.trans (ε.trans ο)) τ (Ry @A θ)
theorem Ew (T:Tx K mg a):FnOk P w K mg base CX0 7 a.iS a.zS ["_law_other","_law_start"] (Ju a.aq):=by
 refine T.qh.1.okA mX λa5 A outer s H vs Q E ο h=>?_;obtain⟨p,nx,os,L,G,Z,rfl,ma,χ,lf,hG,hL,hs,q⟩:=h;obtain⟨dx,tn,to,ho,hn,a3⟩:=ma.ho;have ln:=lf.len
 refine⟨_,((ae (JY (aZ (pv 0) T.au T.mm (kr T) (ο.mono @C) T.dE.2 .nil bJ) (wH rfl (bD (ar (i:=2) mX.nd rfl @D) (bD (ar (i:=3) mX.nd rfl @D) (bD (ar (i:=4) mX.nd rfl @D) iE)))))
  (ai (aD (jv T.tI (dY T) (ο.mono @C) @F T.sN T.cb.2 .nil bJ (aa ah (aa (bC (osc:=ag pO) (ON:=["_law_other","_law_start","_law_inputs","_law_nexts","_law_outs"]) (N:=n25) (n:=2) (fx:=[1]) rfl rfl rfl @H (pQ (K:=K) rfl @F T.eg (pv 3)) (xO (fw (aA @C) (fw (aA @C) rF))) (!C (ro (K:=K) (n:=2) rfl rfl (bD (ar (i:=0) (show kv (n25:B') from by decide +kernel) rfl @D) (bD (ar (i:=1) (show kv (n25:B') from by decide +kernel) rfl @D) iE))) (cL (aa (!A @I (pv 1) ah) (aa (aE ko (aE oM (pv 2) (pv 0)) ah) af))))) (!j 4 af)))))))),aw (σ':=[a' _,a' _,gn,gn,gn]) rfl ?_⟩
 lia;refine aI ho rfl ?_;lia;refine⟨p,0,nx,os,rfl,ma,χ,λt η D2 H1 f1 f2 ne ε et φ e2=>?_⟩;lia;refine .inl ⟨⟨_,SqL.of φ⟩,?_⟩;intro D ρ;refine uI (xs:=refs nx) (λi ys H'=>Cp (λqs=>qs.map (·.2)=(ledp (M.lm L G) Z).take qs.length) H1 D i ys H') (E5 ρ rfl) (λi ys H' _ ⟨_,_,_,_,_,s',_⟩=>SqL.of (s'.get φ)) (λi v ys H' pz H2 hv c fp ν a4=>?_) (λys H' c=>?_)
 ·obtain⟨qs,rfl,Y,pv,pt,γ,ι⟩:=c;obtain⟨r,α,rfl⟩:=ay hv;have hi:=(bA.mp α).1;have er:=ν.get (γ.get (ε.get (ma.hn r (dt α))));lia;intro tp ψ f4 s4 π;rw[QO] at π;refine LQ ρ Y pt γ ι (ν.trans s4) π @A ?_;have τ:i < (M.lm L G).length:=by rw[M.lm_len];omega
  have hg:(M.lm L G).getD i 0=r.2.1:=by rw[<-lf.nx,bB,hH,α];rfl
  have hz:=AK (s:=Z) τ;rw[hg] at hz;show(qs++_).map (·.2)=_;rw[ee,pv,eX,Y,WS,take_succ hz];rfl
 ·obtain⟨qs,rfl,Y,pv,pt,γ,ι⟩:=c;have Y:qs.length=L:=by rw[Y,<-ln];exact bx ..
  have ω:qs.map (·.2)=ledp (M.lm L G) Z:=by rw[pv,Y,XN (by rw[sH,M.lm_len];exact p' _)]
  lia;intro x δ H3 ξ θ e3;have β:=γ.trans θ;have tab:Tab H3 D D2 1 qs os:=⟨@C,θ.get ι,β.get e2,pt.same θ,(ma.hs.same ε).same β,@A,χ.lo,λr α=>?_⟩
  ·refine⟨x,δ,D,D2,1,qs,os,rfl,e3,tab,fun ψ k4 ζ=>⟨rfl,?_⟩⟩;have fx:H x=none:=(ε.trans γ).free ξ;obtain⟨a0,υ⟩:=lf.os;exact q x ψ qs os fx (λb ob e=>k4 b ob (ao e fx) (β.get (ε.get e))) ζ tab.g ω (by rw[υ];rfl)
  ·rcases hB.mp α with h | h
   ·have hm:r.2∈ledp (M.lm L G) Z:=by rw[<-ω];exact ic.mpr ⟨r,h,rfl⟩
    unfold ledp at hm;obtain⟨k,hk,e⟩:=ic.mp hm;rw[<-e,Y];have hk:=Xd.mp hk;refine⟨UA hG _ (by rw[bB,cn hk];exact YB hk),?_⟩;show M.bn _ < 2 ^ 1;cases Z.testBit k<;>decide
   ·have:=χ.bn r (lA _ h);rw[Y];rw[ln] at this;exact⟨this.1,eP this.2 @C⟩
theorem FC {l:ef Pr3} {ps:A'} (h:prs l=ps):l.map Eh=ps.map λq=>Dt.tup [.int q.1,.int q.2]:=by rw[<-h,WT];rfl
theorem Ql {m:Nat} {os:ef Pr3} (h1:prs Go=prs nx) (h2:prs HC=prs os):tabD m Go HC=tabD m nx os:=by
 unfold tabD;rw[FC h1,FC h2,FC (l:=nx) rfl,FC (l:=os) rfl]
theorem Ax (T:Tx K mg a):FnOk P w K mg base CX0 14 a.fN a.uU ["_law_row"] DL:=by
 refine T.lI.1.okA b4 λcdv A outer s H vs Q E hr h=>?_;obtain⟨Db,bs,rfl,eB,lb,q⟩:=h;have m7:=UN hr;have v2:=Q6 hr
 refine⟨_,((ae (JY (aj (NO T) hr T.RL T.Bq (!j 0 af)) (wH rfl (bD (ar (i:=1) b4.nd rfl @D) (bD (ar (i:=2) b4.nd rfl @D) (bD (ar (i:=3) b4.nd rfl @D) iE)))))
  (ae (az (i:=4) b4.nd rfl @D (aj (Ew T) hr T.HK T.qh (!j 1 (!j 2 af))))
  (ae (az (i:=5) b4.nd rfl @D (aj (Er T) hr T.HH T.qd (aa (aj (Ep T) hr T.HG T.qc (aa (aj (Kg T) hr T.Oi T.vV (!j 4 af)) af)) af)))
  (ae (az (i:=6) b4.nd rfl @D (jv T.Ws (wV T) (hr.mono @C) @F T.Wh T.i7.2 .nil bJ (!j 5 af)))
  (ae (bU (osc:=ag kZ) (ON:=["_law_row","_law_other","_law_start","_law_places","_law_led_here","_law_net_one","_law_run","_law_answers","_law_small","_law_lead","_law_length"]) (N:=["_law_sign","_law_run"]) (n:=1) (fx:=[6]) (i:=7) b4.nd rfl rfl rfl rfl rfl rfl @H (aK (K:=K) rfl (aE km (dJ (aa ah af)) (aE Ka (dJ (aa ah af)) (aP (be (K:=K) rfl) @F T.ia W8 (!j 0 af))))) (aA @C) (!C (ar (i:=0) (show kv (["_law_sign","_law_run"]:B') from by decide +kernel) rfl @D) (fH (pv 1) T.pD T.Hf (Ex T) (hr.mono @C) T.mO.2 .nil bJ (!j 0 af))))
  (ae (du (PW.pt (og (aM (Ej (K:=K) rfl m7) (h8 (g8 (K:=K) rfl) (pv 7) (ju ah) mh) (pv 0) (aW _)) (og (aM wL (!A (bu (K:=K) rfl) (pv 7) ah) ah (aW _)) (mx (aM (Ej (K:=K) rfl m7) (aZ (pv 6) T.pD T.yS (wU T) (hr.mono @C) T.gG.2 .nil bJ) (pv 7) (aW _)))))) (ai (aD yD)) bg)
  (ae (du (PW.pt (og (aM (Rj (K:=K) rfl v2) (aZ (aj (Eo T) hr T.Hz T.p9 (!j 5 af)) T.au T.mm (kr T) (hr.mono @C) T.dE.2 .nil bJ) (aZ (pv 4) T.au T.mm (kr T) (hr.mono @C) T.dE.2 .nil bJ) (aW _)) (mx (aM (Ej (K:=K) rfl m7) (dj (dvs:=[.int 0]) (pv 4) T.au T.sx (qy T) (hr.mono @C) T.jU (.cons T.rR .nil) thr0 (aa (aE km (dJ (aa ah af)) (aE Ka (dJ (aa ah af)) (aP (be (K:=K) rfl) @F T.ia W8 (!j 0 af)))) af)) (pv 7) (aW _))))) (ai (aD yD)) bg)
  (ae (az (i:=8) b4.nd rfl @D (!A @I (aj (NM T) hr T.RK T.Bp (!j 4 af)) ah))
  (ae (du (PW.pt (og (aM wL (aZ (pv 8) T.au T.aU (aQ T) (hr.mono @C) T.aL.2 .nil bJ) (aZ (pv 1) T.au T.aU (aQ T) (hr.mono @C) T.aL.2 .nil bJ) (aW _)) (mx (aM wL (!A @I (aj (Et T) hr T.HJ T.qg (!j 4 (!j 8 af))) ah) bI (aW _))))) (ai (aD yD)) bg)
  (ae (JY (aj (G4 T) hr T.K8 T.tL (!j 1 (!j 2 af))) (wH rfl (bD (ar (i:=9) b4.nd rfl @D) (bD (ar (i:=10) b4.nd rfl @D) iE))))
  (ai (aD (nh Ue (aE h9 (pv 9) (pv 10)) (aE gZ ah (aZ (pv 1) T.au T.aU (aQ T) (hr.mono @C) T.aL.2 .nil bJ)) (aW _))))))))))))))),aw (σ':=[a' _,gn,gn,gn,gn,gn,gn,gn,gn,gn,gn]) rfl ?_⟩
 lia;refine⟨Db,bs,rfl,eB,@A,λt p D H1 nx os L G s1 et ma q3 lf hG hL hk v6=>?_⟩;have q9:M.pk (sq bs) 0 L < 2 ^ L:=M.pk_lt _ _ _;have q8:=lf.len;lia;refine⟨p,nx,os,L,G,M.pk (sq bs) 0 L,rfl,ma,q3,lf,hG,@A,q9,λp2 H2 a0 a3 f2 s2 ο e0 n6 n5=>?_⟩;have u4:=s1.trans s2;have l2x:a0.length=L:=by have:=Wy X3 n6;rwa [aN,sH,M.lm_len] at this
 have u9:a3.length=1:=by have:=Wy X3 n5;rwa [aN] at this
 have h0:Sml 1 (prs a0) (prs a3):=⟨@C,by rw[aN];omega,by rw[aN,u9];decide,λq' i3=>by
  rw[show prs a0++prs a3=prs (a0++a3) from(ee ..).symm] at i3;obtain⟨r,c3,rfl⟩:=ic.mp i3;rw[aN];exact e0.bn r c3⟩
 lia;refine⟨p2,1,a0,a3,rfl,ο,h0,λn2 H3 u5 f3 s3 m1=>?_⟩;obtain⟨N2,f0⟩:∃N2,N2=jz 1 (prs a0) (prs a3):=⟨_,rfl⟩;rw[<-f0] at m1;have g2:Gn N2:=by rw[f0];exact ui h0
 have t7:=Hc N2;have γ:=BG g2;lia;refine⟨n2,N2,u5,rfl,m1,λH4 s4=>?_⟩;lia;refine⟨ub N2,rfl,Fy g2,@A,by rw[t7];exact g2,λn3 H5 b3 f5 s5 a8=>?_⟩;rw[t7] at a8;have h3:=s3.trans (s4.trans s5);have o0:=u4.trans h3;have j4:N2.ins.length=1:=by rw[f0];exact bM _ _
 have δ:(N2.sts.map (·.2)).map (hgp N2)=prs a0/\N2.outs.map (hgp N2)=prs a3:=by
  have n8:=a8.tp;rw[f0] at n8 ⊢;exact Kp h0 n8
 have r5:∀rs st,ran N2 st rs=M.wan (prs a0) (prs a3) st rs:=λrs st=>by rw[<-δ.1,<-δ.2];exact Pe a8.g a8.tp (K0 a8.g a8.tp) rs st
 have q5:=(ma.same s2).same h3;have k4:=ο.same h3;have i4:=o0.get eB;clear m1 f0 s3 s4 s5 f3 f5 ma ο h3;lia;intro x dx H6 α s6 e6;refine⟨x,dx,n3,N2,b3,rfl,e6,a8.same s6,λH7 l k7 fl θ=>⟨rfl,?_⟩⟩;have l8:Same H5 H7:=λb ob e=>k7 _ _ (ao e α) (s6.get e);have w3:H5 l=none:=s6.free fl;have t9:=l8.get i4;lia;intro B3 H8 f8 s8 e8;have f7:=s8.get t9;lia;intro B4 H9 f9 s9 e9;have φ:=s9.get f7;lia;rw[bx];refine QT e9 @A @A (by rw[ra,wq];simp;omega) λB5 Y n4 Z b6=>?_;rw[wq,Zm] at b6;refine rj (Z.get (s9.get e8)) b6 (by rw[XD,ra];simp;omega) λB6 y4 β ι υ=>?_;have er:[V.int 1]++n' bs.length (V.int 0)=(1::n' bs.length 0).map nat:=by rw[Xk,aq6];rfl
 rw[er] at υ;obtain⟨rs,e5⟩:∃rs,rs=1::n' bs.length 0:=⟨_,rfl⟩;rw[<-e5] at υ;have lrs:rs.length=bs.length + 1:=by rw[e5,Xa,XD]
 have u3:∀r∈rs,r < 2 ^ 1:=λr c3=>by
  rw[e5] at c3;rcases WH.mp c3 with h | h
  ·rw[h];decide
  ·rw[aa8 h];decide
 have e4:M.wan (prs a0) (prs a3) 0 rs=0::bs.map M.bn:=by rw[n6,n5,e5];exact Kv @A hk
 have π:=s8.trans (s9.trans (Z.trans ι));have c5:=l8.trans π;obtain⟨dx7,d7,τ⟩:=θ.ho;have ζ:RunA (NAof a) y4 a.gh x l n3 N2 b3 0 []:=⟨⟨_,_,π.get τ⟩,π.get θ.hl,θ.na.same π⟩;lia;intro g0 a4;have ν:g0≠l:=λz=>by rw[z,ζ.hl] at a4;cases a4
 have m2:g0≠x:=λz=>by rw[z,π.get τ] at a4;cases a4
 have w4:H5 g0=none:=c5.free a4;have q1:B6≠x:=λz=>by rw[z,π.get τ] at υ;cases υ
 have q2:B6≠l:=λz=>by rw[z,(s8.trans (s9.trans Z)).get θ.hl] at β;cases β
 refine aJ (xs:=rs.map nat) (λi ys H'=>ys=(ran N2 0 (rs.take i)).map nat/\Same H5 H'/\RunA (NAof a) H' a.gh x l n3 N2 b3 (rst N2 0 (rs.take i)) (ran N2 0 (rs.take i))/\H' g0=a' (.lst ys)/\H' B6=a' (.lst (rs.map nat))) ⟨rfl,c5.trans (bo a4),⟨⟨_,_,by rw[aG (WK m2)];exact π.get τ⟩,by rw[aG (WK ν)];exact ζ.hl,ζ.na.same (bo a4)⟩,ax,by rw[aG (λz=>by rw[<-z,υ] at a4;cases a4)];exact υ⟩ (λi ys H' _ ⟨_,_,_,_,e'⟩=>SqL.of e') (λi v ys H' hv ⟨ey,s',a7,eD,eR⟩=>?_) (λys H' ⟨ey,s',a7,eD,eR⟩=>?_)
 ·obtain⟨z,hz,rfl⟩:=ay hv;have hlt:=(bA.mp hz).1;obtain⟨dx',d',v1⟩:=a7.ho;lia;refine aI v1 rfl ?_;lia;refine⟨x,l,n3,N2,b3,_,z,_,rfl,a7,by rw[j4];exact u3 z (dt hz),by rw[An,tu];omega,λy3 m4 d2=>?_⟩;have c0:=m4 g0 _ m2 ν eD;have f1:=m4 B6 _ q1 q2 eR;have d1:Same H5 y3:=λb ob e=>m4 _ _ (ao e α) (ao e w3) (s'.get e);obtain⟨x7,d4,v0⟩:=d2.ho;lia;rw[ey] at c0 ⊢;refine⟨c0,by rw[bx,An,tu];exact aR @A,?_,λb ob e=>?_,?_,ax,?_⟩
  ·rw[take_succ hz,Am,ee];rfl
  ·rw[aG (ao e w4)];exact d1.get e
  ·rw[take_succ hz,Fw,Am];exact⟨⟨x7,d4,by rw[aG (WK m2)];exact v0⟩,by rw[aG (WK ν)];exact d2.hl,d2.na.updL c0 λb ob nb e=>by rw[aG nb];exact e⟩
  ·rw[aG (λz=>by rw[z,c0] at f1;injection f1 with h1;injection h1 with h2;have:=Wy X3 h2;rw[bx,bx,An,tu] at this;omega)];exact f1
 ·rw[bx,mc] at a7;rw[ey,bx,mc,r5,e4] at eD;rw[r5,e4] at a7;have eb:(bs.map M.bn).map nat=bs.map bV:=by rw[WT];rfl
  have u1:=s'.get i4;obtain⟨dxz,dz,m5⟩:=a7.ho;have y6:atI ((0::bs.map M.bn).map nat) 0=a' (nat 0):=fQ (j:=0) rfl;lia;intro y5 n7 w7 a5 j1;have j1:n7 y5=a' (.lst ((bs.map M.bn).map nat)):=by rw[j1];exact Wy (λl=>a' (HO.lst l)) (by rw[show(a' (1:Int))=a' (((1:Nat):Nat):Int) from rfl,vU _ _ (by rw[bx];show 1<=(bs.map M.bn).length + 1;omega)];rfl)
  have l7:n7 Db=a' (.lst ((bs.map M.bn).map nat)):=by rw[eb];exact a5.get u1
  have ρ:=a5.get eD;lia;refine JH (SqL.of j1) (SqL.of l7) ?_;refine⟨_,rfl,?_⟩;dsimp only;rw[oT @C];lia;refine aI (a5.get m5) rfl ?_;lia;have j2:RunA (NAof a) n7 a.gh x l n3 N2 b3 _ _:=⟨⟨_,_,a5.get m5⟩,a5.get a7.hl,a7.na.same a5⟩;refine⟨x,l,n3,N2,b3,_,_,rfl,j2,λB15 H15 w6 c1 u2=>?_⟩;have f4:=c1.get ρ;lia;refine JH (SqL.of u2) (SqL.of f4) ?_;have ψ:=s'.trans (a5.trans c1);have j3:=a8.same ψ;have e3:=k4.same ψ;have k8:=q5.same ψ;have l5:=ψ.get i4;clear j2 a7 ζ θ u2 w6 l7 j1 w7 ρ u1 m5 eD c1 a5 υ β n4 f9 f8 e8 e9 b6 π c5 q5 k4 l8 i4 t9 f7 φ;lia;refine⟨n3,N2,b3,rfl,j3,λx3 H16 q0 p0 w5 m0 c2 ξ s7 r9=>?_⟩;rw[j4] at c2 ξ;have s0:prs q0=prs a0:=by rw[s7,δ.1]
  have r7:prs p0=prs a3:=by rw[r9,δ.2]
  obtain⟨d3,tn3,z3,r2,_,_⟩:=c2.ho;lia;refine aI r2 rfl ?_;lia;refine⟨x3,1,q0,p0,rfl,c2,ξ,λt4 E1 E2 H17 g1 w2 u7 d0 r4 t6 t3=>?_⟩;have ω:=(e3.same m0).same d0;obtain⟨d4,tn4,z2,r1,_,_⟩:=ω.ho;lia;refine aI r1 rfl ?_;lia;refine⟨p2,1,a0,a3,rfl,ω,e0,λt5 E3 E4 H18 g3 g4 u6 a6 r3 t2 t1=>?_⟩;refine V1 (JO (a6.get r4) (a6.get t6) (a6.get t3) ((c2.hn.same d0).same a6) ((c2.hs.same d0).same a6)) (JO r3 t2 t1 (ω.hn.same a6) (ω.hs.same a6)) (RT _ _ _) ?_;rw[Ql s0 r7,FZ];refine⟨_,rfl,?_⟩;dsimp only;rw[oT @C];have χ:=m0.trans (d0.trans a6);have l3:=χ.get l5;have l1:=χ.get f4;have η:=e3.same χ;have k6:=k8.same χ;have o3:=o0.trans (ψ.trans χ);clear c2 ξ s7 r9 r2 r1 ω r4 r3 t6 t3 t2 t1 g1 w2 g3 g4 u7 u6 χ m0 d0 a6 w5 j3 e3 k8 l5 f4;obtain⟨d5,tn5,z1,r0,_,_⟩:=η.ho;lia;refine cD r0 rfl ?_;lia;intro C3 J8 f8 s8 e8;have f7:=s8.get l3;lia;intro C4 J9 f9 s9 e9;have φ:=s9.get f7;lia;rw[bx];refine QT e9 @A @A (by rw[ra,wq];simp;omega) λC5 J10 n4 Z b6=>?_;rw[wq,Zm] at b6;refine rj (Z.get (s9.get e8)) b6 (by rw[XD,ra];simp;omega) λC6 J11 β ι υ=>?_;rw[er,<-e5] at υ;have c4:=s8.trans (s9.trans (Z.trans ι));have y0:0 < 2 ^ a0.length:=W3 _;have q4:=η.same c4;lia;refine⟨p2,C6,1,a0,a3,nat 0,rs.map nat,rfl,⟨q4,e0,⟨"int",rfl⟩,SqL.of υ,Iy.nats _ _ _,by rw[bx];omega⟩,λa1 rs1 gd Da J12 x0 n9 ea=>?_,λy1=>Xo (Ro y0 u3 y1)⟩;obtain⟨rfl,rfl⟩:=K4 gd;rw[e4] at ea;have ε:=c4.trans n9;have l2:=ε.get l1;lia;refine JH (SqL.of ea) (SqL.of l2) ?_;have l0:=η.same ε;have q6:=k6.same ε;clear ea υ b6 e9 e8 f8 f9 n4 β x0 s8 s9 Z ι n9 c4 f7 φ l3 l1 q4 r0 η k6 l2;have e7:M.Fit (prs a0) (prs a3) 1:=⟨by rw[aN];omega,λq' i3=>(h0.bn q' i3).1⟩;lia;refine⟨p2,1,a0,a3,rfl,l0,e0,@A,λtl x4 Dr Dl ds es J13 h5 h4 d1 etl m3 u8 h6 lrl _ _ _ _=>?_⟩
  have l4:h5.length=L:=by
   rw[n6,n5] at h6 e7;have:=N6 @A hk v6 e7 h6;rwa [aN] at this
  have l4o:h4.length=1:=by have:=h6.lo;rw[aN,aN] at this;omega
  obtain⟨d6,tn6,z0,v5,_,_⟩:=m3.ho;have q7:=l0.same d1;have e1:=q6.same d1;obtain⟨d7',tn7,y9,v4,_,_⟩:=e1.ho;lia;refine aI v5 rfl ?_;lia;refine⟨x4,_,h5,h4,rfl,m3,?_⟩;lia;refine aI v4 rfl ?_;lia;refine⟨p,_,nx,os,rfl,e1,?_⟩;rw[l4,q8];lia;dsimp only;rw[oT @E]
  have w1:∀T,M.Al (prs a0) (prs a3) (prs h5) (prs h4) 1 T:=λT t' ht w' hw=>by
   have hz:=h6.alike e7 (rs:=2 ^ w'::n' t' 0) λr c3=>by
    rcases WH.mp c3 with rfl | h
    ·exact WV @C hw
    ·rw[aa8 h];decide
   rw[<-M.wan_sgl _ _ w' t' t' (p' _),<-M.wan_sgl _ _ w' t' t' (p' _),hz]
  lia;refine⟨p2,x4,1,a0,a3,h5,h4,rfl,⟨q7,e0,m3,u8,@A,@A⟩,λal tt Ds2 Db2 Du ts bs' us J14 a5 ak=>?_,λw' t' fn=>(fn.not (w1 _)).elim⟩;have ett:=ak.t;have e2:=e1.same a5;obtain⟨d8,z5,y8,ho8,_,_⟩:=e2.ho;lia;refine⟨p,0,nx,os,M.pk (sq bs) 0 L,rfl,e2,q3,@A,by rw[q8];exact q9,λtr y2 ll nn c1 etr v7=>?_⟩;have k9:=e2.same c1;obtain⟨d9,z4,y7,v3,_,_⟩:=k9.ho;lia;refine aI v3 rfl ?_;lia;refine⟨p,_,nx,os,rfl,k9,?_⟩;lia;rw[shl1,hE (by have:=v7;omega)];exact q y2 (o3.trans (ε.trans (d1.trans (a5.trans c1))))
end
end
local macro_rules | `(tactic| walk_at "l2step") =>`(tactic| first | ((with_reducible refine' LV ?e ?a ?_);(case e=>walk_at "l2hp");(case a=>walk_at "l2side")) | ((with_reducible refine' R3 ?a ?b ?_);(case a=>walk_at "l2side");(case b=>walk_at "l2side");(with_reducible intro _ _)))
section
variable {P:WJ} {w:X5} {K:b'} {mg:G'} {base:Xj} {a:Ad}
local macro_rules | `(tactic| walk_at "l2step") =>`(tactic| first | ((with_reducible refine' dC ?e ?_);(case e=>walk_at "l2kind")) | ((with_reducible refine' gD ?e ?_);(case e=>walk_at "l2kind")) | (with_reducible refine cM ?_) | (with_reducible refine dW ?_))
theorem RY (ns:P') (b:Nat):∃zs:P',cutV (ns.map V.int) gn (a' (b:Int))=zs.map V.int/\zs.length<=b:=by
 have hl:(cutV (ns.map V.int) gn (a' (b:Int))).length<=b:=by
  unfold cutV;rw[tu];have h1:=HT.sIx_nat (ns.map V.int).length (ns.map V.int).length b;rw[h1];omega
 have:∃zs:P',cutV (ns.map V.int) gn (a' (b:Int))=zs.map V.int:=by
  unfold cutV;rw[<-ad8,<-Za];exact⟨_,rfl⟩
 obtain⟨zs,e⟩:=this;rw[e,bx] at hl;exact⟨zs,e,hl⟩
theorem Uh (T:Tx K mg a):FnOk P w K mg base CX0 16 a.HM a.U9 ["_law_script"] (Ft K):=by
 refine T.OO.okA O9 λa3 A outer s H vs Q E θ h=>?_;obtain⟨ω,ns,rfl,hS,ψ,q⟩:=h;obtain⟨zs,Z,ρ⟩:=RY ns 4;have Z:cutV (ns.map V.int) gn (a' 4)=zs.map V.int:=Z
 refine⟨_,((ae (fG W5 rfl (aK (K:=K) rfl (aE km (h8 (g8 (K:=K) rfl) (pv 0) mh (ju ah)) (dJ (aa (aj (nq T) θ T.pZ T.iW (aa (aj (BU T) θ T.ES T.nM (!j 0 (aa ah af))) (aa ah af))) af)))) (ar (i:=1) O9.nd rfl @D) (ai (du (h7 (gj (aj (Ax T) θ T.Ck T.lI (aa (aj (Ay T) θ T.Cm T.lK (!j 1 af)) af)))) (ai (aD yD)) bg)))
  (ai (aD yD)))),aw (σ':=[a' _,gn]) rfl ?_⟩
 lia;rw[Z];intro La a7 τ β ε;have γ:=Same.seq β hS;lia;rename_i φ h1;intro Lb a6 π α δ;refine rj (α.get ε) δ (by rw[bx];exact YA (aR (by show zs.length + 1<=1000;omega))) fun η ζ χ ο Y=>?_;have Y:ζ η=a' (.lst ((zs++[(φ:Int)]).map V.int)):=by rw[Y,ee];rfl
 refine⟨η,rfl,⟨_,SqL.of Y⟩,?_⟩;generalize zs++[(φ:Int)]=ys at Y;clear ε δ τ π χ β α ο γ h1 Z ρ;refine jM (xs:=ys.map V.int) (λj σ H'=>∃(ι:WG V),σ=[a' (.ref ω),ι]/\Same ζ H') ⟨gn,rfl,Same.refl _⟩ (λj σ H' _ ⟨_,_,s'⟩=>SqL.of (s'.get Y)) ?_ ?_
 ·rintro j v σ H' hv ⟨ι,rfl,s'⟩;obtain⟨c,hc,rfl⟩:=ay hv;lia;refine⟨c,rfl,λD a5 bs a0 ξ υ lb=>?_⟩;lia;refine⟨D,bs,rfl,υ,lb,λa4 ν=>?_⟩;lia;exact s'.trans (ξ.trans ν)
 ·rintro σ H' ⟨ι,rfl,s'⟩;lia;exact q _
end
open PySem.W in
theorem all_mk {l:aq8} {w:X5} {K:Frag} {h:Xj} {mg:G'} {fa:eO} (X:K.In h) (G:h.Ns WZ mg) (hfa:mg "law"=a' (.ref fa)){gc ig kN xV kP kK iH nC iI kM eG nF fK bz bR bF cx bc cy bQ tG:eO}{yu:xo}{yt:Q'}{yr:Nat}{yq:L'}{qD:Tok}{yM zv:Q'}{yv:L'}{yN zj zr yC qS zu:xo}{cA bT cB bO b7 eL b8 xW kF rM eK iL eh rK gO dB c7 iQ rH kH c6 fL iN cZ rJ cH bG dm cP bw cN cj bh b5 bN eI eJ fM eE cX rG kJ cw cv cu bP b9 cO bp iP kG iM iK nG kO dA fJ kI gN kL cq gf ck rL iJ iO gP nE gQ iR fO iS fN:eO}{Um Vj:Q'}{S4:L'}{Uo UE U8 T2 PY Va:xo}{HM aq:eO}(Mj:NI K "Machine" aq){bH:eO}(Sh:NI K "Steps" bH){tE:eO}(Vn:NI K "Wire" tE){bf:eO}(OK:NI K "InWire" bf){aT:eO}(Mi:NI K "SumWire" aT){aB:eO}(Ff:NI K "StoreWire" aB){de:eO}(Wq:NI K "Net" de){gh:eO}(Wp:NI K "Run" gh)(Im:NI K "is_whole" gc)(Ho:FR K "is_whole" "is_whole" tY gc)(Mf:NI K "is_mask" ig)(KJ:FR K "is_mask" "is_mask" wF ig)(Me:NI K "is_name" kN)(KI:FR K "is_name" "is_name" rY kN)(Vl:NI K "even" xV)(UC:FR K "even" "even" JG xV)(Mh:NI K "bits_of" kP)(KM:FR K "bits_of" "bits_of" rZ kP)(Mb:NI K "mask_of" kK)(KF:FR K "mask_of" "mask_of" wC kK)(Ic:NI K "words_of" iH)(Hg:FR K "words_of" "words_of" tX iH)(OG:NI K "packed" nC)(N8:FR K "packed" "packed" Ag nC)(Ie:NI K "unpacked" iI)(Hh:FR K "unpacked" "unpacked" pJ iI)(Md:NI K "is_pair" kM)(KH:FR K "is_pair" "is_pair" wD kM)(Bj:NI K "check_table" eG)(AN:FR K "check_table" "check_table" jG eG)(OI:NI K "is_odd" nF)(Oa:FR K "is_odd" "is_odd" Ah nF)(Df:NI K "odd_places" fK)(B7:FR K "odd_places" "odd_places" kW fK)(Fk:FI K aq "__init__" bz)(sJ:FR K "__init__" "Machine.__init__" hX bz)(IF:FI K aq "stores" bR)(vF:FR K "stores" "Machine.stores" jq bR)(Gg:FI K aq "outputs" bF)(uC:FR K "outputs" "Machine.outputs" iB bF)(MD:FI K aq "told" cx)(zg:FR K "told" "Machine.told" l9 cx)(Bw:FI K aq "check_state" bc)(oX:FR K "check_state" "Machine.check_state" fE bc)(ME:FI K aq "step" cy)(zh:FR K "step" "Machine.step" md cy)(IE:FI K aq "walked" bQ)(vE:FR K "walked" "Machine.walked" jm bQ)(MK:FI K aq "run" cA)(AV:K.lookup cA=a' ⟨yN,yM,.func (fnOf "run" "Machine.run" (iT fY) (fP fY) (ag fY) (.ref tG) zj zr yC zv qS zu),yv⟩)(y6:K.lookup tG=a' ⟨yu,yt,.seq #[.int 0 qD] yr,yq⟩)(Bf:codeIn K qS "Machine.run"=true)(r9:keepIn K (.ref cA)=true)(IG:FI K aq "single" bT)(vG:FR K "single" "Machine.single" jr bT)(MF:FI K aq "back" cB)(zi:FR K "back" "Machine.back" me cB)(IC:FI K bH "__init__" bO)(vC:FR K "__init__" "Steps.__init__" jk bO)(IP:FI K bH "lowered" b7)(xI:FR K "lowered" "Steps.lowered" kg b7)(Qh:FI K bH "lay" eL)(EM:FR K "lay" "Steps.lay" rn eL)(IQ:FI K bH "barring" b8)(xJ:FR K "barring" "Steps.barring" ki b8)(Vm:NI K "base" xW)(UD:FR K "base" "base" JK xW)(L6:NI K "sum_for" kF)(Kz:FR K "sum_for" "sum_for" wx kF)(Sg:NI K "chain" rM)(RF:FR K "chain" "chain" Aj rM)(Bm:NI K "check_heard" eK)(AR:FR K "check_heard" "check_heard" jI eK)(Ii:NI K "rule_for" iL)(Hk:FR K "rule_for" "rule_for" pK iL)(Bh:NI K "row_machine" eh)(AL:FR K "row_machine" "row_machine" jE eh)(Se:NI K "heard" rK)(RD:FR K "heard" "heard" DZ rK)(Fc:NI K "next_pair" gO)(EJ:FR K "next_pair" "next_pair" rg gO)(zy:NI K "first_unlike" dB)(y9:FR K "first_unlike" "first_unlike" gC dB)(ym:NI K "pairs_come_to" c7)(xF:FR K "pairs_come_to" "pairs_come_to" dI c7)(Ip:NI K "compared" iQ)(Hr:FR K "compared" "compared" jY iQ)(Sb:NI K "reach" rH)(RB:FR K "reach" "reach" wB rH)(L8:NI K "rows_at" kH)(KB:FR K "rows_at" "rows_at" wz kH)(yl:NI K "states_behind" c6)(xE:FR K "states_behind" "states_behind" j8 c6)(Dg:NI K "look_masks" fL)(B8:FR K "look_masks" "look_masks" i9 fL)(Ik:NI K "odd_with" iN)(Hm:FR K "odd_with" "odd_with" pL iN)(yk:NI K "told_by_looks" cZ)(xD:FR K "told_by_looks" "told_by_looks" j7 cZ)(Sd:NI K "least" rJ)(RC:FR K "least" "least" ka rJ)(IL:FI K tE "__init__" cH)(xG:FR K "__init__" "Wire.__init__" kc cH)(Gh:FI K bf "__init__" bG)(uD:FR K "__init__" "InWire.__init__" iC bG)(OU:FI K bf "bit" dm)(Cc:FR K "bit" "InWire.bit" oH dm)(ML:FI K bf "hang" cP)(AW:FR K "hang" "InWire.hang" ng cP)(Fj:FI K aT "__init__" bw)(sI:FR K "__init__" "SumWire.__init__" hV bw)(MI:FI K aT "bit" cN)(AS:FR K "bit" "SumWire.bit" m9 cN)(Mw:FI K aT "hang" cj)(za:FR K "hang" "SumWire.hang" lR cj)(Dz:FI K aB "__init__" bh)(qo:FR K "__init__" "StoreWire.__init__" gq bh)(IM:FI K aB "bit" b5)(xH:FR K "bit" "StoreWire.bit" ke b5)(IB:FI K aB "hang" bN)(vB:FR K "hang" "StoreWire.hang" jj bN)(Bk:NI K "check_sizes" eI)(AO:FR K "check_sizes" "check_sizes" jH eI)(Bl:NI K "check_names" eJ)(AQ:FR K "check_names" "check_names" m8 eJ)(Dh:NI K "check_wire" fM)(B9:FR K "check_wire" "check_wire" oG fM)(Bi:NI K "check_wires" eE)(AM:FR K "check_wires" "check_wires" mZ eE)(yj:NI K "wires_by_name" cX)(xC:FR K "wires_by_name" "wires_by_name" cU cX)(Sa:NI K "waits" rG)(RA:FR K "waits" "waits" Af rG)(Ma:NI K "ordered" kJ)(KD:FR K "ordered" "ordered" oF kJ)(MC:FI K de "__init__" cw)(zf:FR K "__init__" "Net.__init__" dq cw)(MB:FI K de "in_names" cv)(ze:FR K "in_names" "Net.in_names" l6 cv)(MA:FI K de "sum_rows" cu)(zd:FR K "sum_rows" "Net.sum_rows" lW cu)(ID:FI K de "store_rows" bP)(vD:FR K "store_rows" "Net.store_rows" jl bP)(IR:FI K de "out_wires" b9)(xK:FR K "out_wires" "Net.out_wires" kj b9)(MJ:FI K de "wire_of" cO)(AU:FR K "wire_of" "Net.wire_of" nc cO)(DG:FI K de "names_by_need" bp)(rE:FR K "names_by_need" "Net.names_by_need" dX bp)(Io:NI K "has_form" iP)(Hq:FR K "has_form" "has_form" pN iP)(L7:NI K "rows_of" kG)(KA:FR K "rows_of" "rows_of" wy kG)(Ij:NI K "read_net" iM)(Hl:FR K "read_net" "read_net" gW iM)(Ih:NI K "show_net" iK)(Hj:FR K "show_net" "show_net" gU iK)(OJ:NI K "degree" nG)(Ob:FR K "degree" "degree" Ai nG)(Mg:NI K "divided" kO)(KL:FR K "divided" "divided" wG kO)(zw:NI K "turns_to_one" dA)(y8:FR K "turns_to_one" "turns_to_one" lQ dA)(De:NI K "state_poly" fJ)(B1:FR K "state_poly" "state_poly" oE fJ)(L9:NI K "ring_of" kI)(KC:FR K "ring_of" "ring_of" wA kI)(Fb:NI K "turn_bits" gN)(EI:FR K "turn_bits" "turn_bits" rf gN)(Mc:NI K "mask_at" kL)(KG:FR K "mask_at" "mask_at" rX kL)(Mz:FI K gh "__init__" cq)(zc:FR K "__init__" "Run.__init__" lV cq)(Sq:FI K gh "step" gf)(Hu:FR K "step" "Run.step" pP gf)(Mx:FI K gh "answered" ck)(zb:FR K "answered" "Run.answered" lU ck)(Sf:NI K "hangs" rL)(RE:FR K "hangs" "hangs" Ea rL)(Ig:NI K "table_of" iJ)(Hi:FR K "table_of" "table_of" mw iJ)(Il:NI K "numbered" iO)(Hn:FR K "numbered" "numbered" pM iO)(Fd:NI K "named_sum" gP)(EK:FR K "named_sum" "named_sum" j9 gP)(OH:NI K "net_of" nE)(N9:FR K "net_of" "net_of" vN nE)(Fe:NI K "_law_cell" gQ)(EL:FR K "_law_cell" "_law_cell" rm gQ)(Iq:NI K "_law_mix" iR)(Hs:FR K "_law_mix" "_law_mix" t8 iR)(Dp:NI K "_law_drawn" fO)(Cb:FR K "_law_drawn" "_law_drawn" gX fO)(Ir:NI K "_law_led" iS)(Ht:FR K "_law_led" "_law_led" pO iS)(Dj:NI K "_law_right" fN)(Ca:FR K "_law_right" "_law_right" kZ fN)(Wn:NI K "law" HM)(Wf:K.lookup HM=a' ⟨Uo,Um,.func (fnOf "law" "law" (iT GO) (fP GO) (ag GO) .none UE U8 T2 Vj PY Va),S4⟩)(Wj:codeIn K PY "law"=true)(V7:keepIn K (.ref HM)=true)(GX:plainGet K aq ZU=true)(GV:hasDictIn K aq=true)(GT:plainOver K aq=true)(GR:findIn K (.ref aq) "__setattr__"=a' (a' (.builtin "object.__setattr__")))(HX:makesIn K aq=true)(HV:FI K aq "__init__" bz)(HS:isFn K (.ref bz)=true)(HQ:keepIn K (.ref aq)=true)(uy:FI K aq "stores" bR)(ur:isFn K (.ref bR)=true)(sD:FI K aq "outputs" bF)(sy:isFn K (.ref bF)=true)(xu:FI K aq "told" cx)(xk:isFn K (.ref cx)=true)(oi:FI K aq "check_state" bc)(oh:isFn K (.ref bc)=true)(xv:FI K aq "step" cy)(xl:isFn K (.ref cy)=true)(ux:FI K aq "walked" bQ)(uq:isFn K (.ref bQ)=true)(y3:FI K aq "run" cA)(yW:isFn K (.ref cA)=true)(uz:FI K aq "single" bT)(uu:isFn K (.ref bT)=true)(xw:FI K aq "back" cB)(xn:isFn K (.ref cB)=true)(vk:FN K aq "inputs")(w4:FN K aq "nexts")(yQ:FN K aq "outs")(NH:plainGet K bH ZU=true)(NG:hasDictIn K bH=true)(NF:plainOver K bH=true)(ND:findIn K (.ref bH) "__setattr__"=a' (a' (.builtin "object.__setattr__")))(Ou:makesIn K bH=true)(Ot:FI K bH "__init__" bO)(Os:isFn K (.ref bO)=true)(Oq:keepIn K (.ref bH)=true)(vy:FI K bH "lowered" b7)(vt:isFn K (.ref b7)=true)(B0:FI K bH "lay" eL)(BZ:isFn K (.ref eL)=true)(vz:FI K bH "barring" b8)(vv:isFn K (.ref b8)=true)(yP:FN K bH "by_top")(rC:FN K bH "free_places")(sk:FN K bH "null_masks")(JW:plainGet K bf ZU=true)(JV:hasDictIn K bf=true)(JU:plainOver K bf=true)(JT:findIn K (.ref bf) "__setattr__"=a' (a' (.builtin "object.__setattr__")))(Lw:makesIn K bf=true)(Lv:FI K bf "__init__" bG)(Lu:isFn K (.ref bG)=true)(Lr:keepIn K (.ref bf)=true)(AJ:FI K bf "bit" dm)(AI:isFn K (.ref dm)=true)(y4:FI K bf "hang" cP)(yX:isFn K (.ref cP)=true)(AB:FN K bf "name")(w6:FN K bf "number")(GW:plainGet K aT ZU=true)(GU:hasDictIn K aT=true)(GS:plainOver K aT=true)(GQ:findIn K (.ref aT) "__setattr__"=a' (a' (.builtin "object.__setattr__")))(HW:makesIn K aT=true)(HU:FI K aT "__init__" bw)(HR:isFn K (.ref bw)=true)(HP:keepIn K (.ref aT)=true)(yY:FI K aT "bit" cN)(yU:isFn K (.ref cN)=true)(xp:FI K aT "hang" cj)(xg:isFn K (.ref cj)=true)(yO:FN K aT "name")(wX:FN K aT "wires")(BL:plainGet K aB ZU=true)(BK:hasDictIn K aB=true)(BJ:plainOver K aB=true)(BI:findIn K (.ref aB) "__setattr__"=a' (a' (.builtin "object.__setattr__")))(CA:makesIn K aB=true)(Cz:FI K aB "__init__" bh)(Cy:isFn K (.ref bh)=true)(Cw:keepIn K (.ref aB)=true)(vx:FI K aB "bit" b5)(vq:isFn K (.ref b5)=true)(uv:FI K aB "hang" bN)(um:isFn K (.ref bN)=true)(vj:FN K aB "name")(sj:FN K aB "number")(vi:FN K aB "wire")(TY:plainGet K de ZU=true)(TV:hasDictIn K de=true)(TR:plainOver K de=true)(TN:findIn K (.ref de) "__setattr__"=a' (a' (.builtin "object.__setattr__")))(U2:makesIn K de=true)(U0:FI K de "__init__" cw)(UY:isFn K (.ref cw)=true)(UW:keepIn K (.ref de)=true)(xt:FI K de "in_names" cv)(xj:isFn K (.ref cv)=true)(xr:FI K de "sum_rows" cu)(xi:isFn K (.ref cu)=true)(uw:FI K de "store_rows" bP)(uo:isFn K (.ref bP)=true)(vA:FI K de "out_wires" b9)(vw:isFn K (.ref b9)=true)(yZ:FI K de "wire_of" cO)(yV:isFn K (.ref cO)=true)(qm:FI K de "names_by_need" bp)(ql:isFn K (.ref bp)=true)(AA:FN K de "by_name")(Kl:FN K de "ins")(uf:FN K de "kept_stores")(Hb:FN K de "outs")(wZ:FN K de "sum_order")(Ha:FN K de "sums")(TX:plainGet K gh ZU=true)(TU:hasDictIn K gh=true)(TQ:plainOver K gh=true)(TM:findIn K (.ref gh) "__setattr__"=a' (a' (.builtin "object.__setattr__")))(U1:makesIn K gh=true)(UZ:FI K gh "__init__" cq)(UX:isFn K (.ref cq)=true)(UV:keepIn K (.ref gh)=true)(EF:FI K gh "step" gf)(EE:isFn K (.ref gf)=true)(xq:FI K gh "answered" ck)(xh:isFn K (.ref ck)=true)(G9:FN K gh "bits")(Ey:FN K gh "given")(G8:FN K gh "held")(Kk:FN K gh "net"){uK:eO}(Sr:NI K "BadSizes" uK){yg:eO}(Vo:NI K "TooMany" yg){dQ:eO}(Mm:NI K "BadMask" dQ){j0:eO}(Iv:NI K "BadTable" j0){p5:eO}(OL:NI K "BadRow" p5)(i8:excIn K dQ [.type "ValueError",.type "Exception",.type "BaseException",.type "object"] "ValueError.__new__"=true)(gT:excIn K j0 [.type "ValueError",.type "Exception",.type "BaseException",.type "object"] "ValueError.__new__"=true)(pE:excIn K p5 [.type "ValueError",.type "Exception",.type "BaseException",.type "object"] "ValueError.__new__"=true)(uZ:specialIn K (.ref tE) "__getattribute__"=a' (a' (.builtin "type.__getattribute__")))(uY:readsIn K tE (.type "type")=true)(uX:findCls K (.ref tE) (.type "type") "__init__"=a' (.val (.ref cH))){v9:Tok}(Ml:nsIn K WZ "LETTERS"=a' (a' (.str "abcdefghijklmnopqrstuvwxyz" v9))){j6:Tok}(yn:nsIn K WZ "LONGEST_HEARD"=a' (a' (.int 40 j6))){lM:Tok}(zz:nsIn K WZ "LONGEST_NAME"=a' (a' (.int 6 lM))){mT:Tok}(Bn:nsIn K WZ "MOST_INPUTS"=a' (a' (.int 6 mT))){tQ:Tok}(Iu:nsIn K WZ "MOST_INS"=a' (a' (.int 6 tQ))){gm:Tok}(qt:nsIn K WZ "MOST_OUTS_machines"=a' (a' (.int 6 gm))){jg:Tok}(vI:nsIn K WZ "MOST_OUTS_nets"=a' (a' (.int 6 jg))){fk:Tok}(om:nsIn K WZ "MOST_STORES_machines"=a' (a' (.int 120 fk))){g7:Tok}(tF:nsIn K WZ "MOST_STORES_nets"=a' (a' (.int 16 g7))){qV:Tok}(Fg:nsIn K WZ "MOST_SUMS"=a' (a' (.int 40 qV))){ox:Tok}(Dy:nsIn K WZ "MOST_WIRES"=a' (a' (.int 24 ox))){ou:Tok}(Dx:nsIn K WZ "NAME_SIGNS"=a' (a' (.str "abcdefghijklmnopqrstuvwxyz0123456789" ou)))(VB:NN K "all")(VA:NN K "any")(Sy:NN K "bool")(Sw:NN K "dict")(MH:NN K "divmod")(DC:NN K "enumerate")(Vz:NN K "int")(Bv:NN K "isinstance")(Vy:NN K "len")(Sv:NN K "list")(Qc:NN K "range")(MG:NN K "sorted")(Vx:NN K "str")(Vw:NN K "sum")(Qb:NN K "tuple")(Vv:NN K "zip"):∃fd:iv,(∀(s:vr) (v:xo),BindsTo s fd ⟨[v],[]⟩ [("_law_script",v)])/\∀base:Xj,K.In base->base.Ns WZ mg->FnOk l.prog w K mg base CX0 16 fa fd ["_law_script"] (Ft K):=by
 have e:=hfa.symm.trans (WM X G Wn);cases e;obtain⟨_,j5⟩:=Ho.ok (ps:=["thing"]) @G;obtain⟨_,iq⟩:=KJ.ok (ps:=["thing","width"]) @G;obtain⟨_,jd⟩:=KI.ok (ps:=["thing"]) @G;obtain⟨_,yp⟩:=UC.ok (ps:=["number"]) @G;obtain⟨_,je⟩:=KM.ok (ps:=["mask"]) @G;obtain⟨_,gE⟩:=KF.ok (ps:=["places"]) @G;obtain⟨_,p7⟩:=Hg.ok (ps:=["row"]) @G;obtain⟨_,qe⟩:=N8.ok (ps:=["masks","width"]) @G;obtain⟨_,p8⟩:=Hh.ok (ps:=["whole","width","count"]) @G;obtain⟨_,tN⟩:=KH.ok (ps:=["thing","stores","inputs"]) @G;obtain⟨_,jQ⟩:=AN.ok (ps:=["inputs","nexts","outs"]) @G;obtain⟨_,vW⟩:=Oa.ok (ps:=["pair","state","row"]) @G;obtain⟨_,jc⟩:=B7.ok (ps:=["pairs","state","row"]) @G;obtain⟨_,cb⟩:=sJ.ok (ps:=["self","inputs","nexts","outs"]) @G;obtain⟨_,aL⟩:=vF.ok (ps:=["self"]) @G;obtain⟨_,bW⟩:=uC.ok (ps:=["self"]) @G;obtain⟨_,dE⟩:=zg.ok (ps:=["self"]) @G;obtain⟨_,bj⟩:=oX.ok (ps:=["self","state"]) @G;obtain⟨_,b0⟩:=zh.ok (ps:=["self","state","row"]) @G;obtain⟨_,ff⟩:=vE.ok (ps:=["self","rows","state"]) @G;have iu:=RP (st:=fY) AV y6 Bf r9;have b_Machine_run:=iu.binds (ps:=["self","rows","state"]) (ds:=[]) λ_ _ _ _ _ _ _ us hl=>match us,hl with | [_,_,_],_=>⟨_,rfl,rfl⟩
 have jU:=iu.binds (ps:=["self","rows","state"]) (ds:=[.int 0 qD]) λ_ _ _ _ _ _ _ us hl=>match us,(show us.length=2 by simpa using hl) with | [_,_],_=>⟨_,rfl,rfl⟩
 obtain⟨_,di⟩:=vG.ok (ps:=["self","which","turns"]) @G;obtain⟨_,fj⟩:=zi.ok (ps:=["self","mask"]) @G;obtain⟨_,fc⟩:=vC.ok (ps:=["self","rows"]) @G;obtain⟨_,dR⟩:=xI.ok (ps:=["self","mask"]) @G;obtain⟨_,kS⟩:=EM.ok (ps:=["self","place","row"]) @G;obtain⟨_,fW⟩:=xJ.ok (ps:=["self","bit"]) @G;obtain⟨_,zX⟩:=UD.ok (ps:=["rows"]) @G;obtain⟨_,ik⟩:=Kz.ok (ps:=["rows","wish"]) @G;obtain⟨_,Bu⟩:=RF.ok (ps:=["masks"]) @G;obtain⟨_,jT⟩:=AR.ok (ps:=["row"]) @G;obtain⟨_,mM⟩:=Hk.ok (ps:=["row","length"]) @G;obtain⟨_,jN⟩:=AL.ok (ps:=["length","places"]) @G;obtain⟨_,Bq⟩:=RD.ok (ps:=["row"]) @G;obtain⟨_,gR⟩:=EJ.ok (ps:=["one","other","pair","row"]) @G;obtain⟨_,i6⟩:=y9.ok (ps:=["one","other"]) @G;obtain⟨_,ip⟩:=xF.ok (ps:=["one","other"]) @G;obtain⟨_,qg⟩:=Hr.ok (ps:=["one","other"]) @G;obtain⟨_,Bo⟩:=RB.ok (ps:=["machine","turns"]) @G;obtain⟨_,tK⟩:=KB.ok (ps:=["machine","places","turns"]) @G;obtain⟨_,il⟩:=xE.ok (ps:=["machine","state"]) @G;obtain⟨_,lH⟩:=B8.ok (ps:=["machine"]) @G;obtain⟨_,iU⟩:=Hm.ok (ps:=["mask","others"]) @G;obtain⟨_,fT⟩:=xD.ok (ps:=["pair","states","seen"]) @G;obtain⟨_,Bp⟩:=RC.ok (ps:=["machine"]) @G;obtain⟨_,c8⟩:=xG.ok (ps:=["self","name"]) @G;obtain⟨_,gi⟩:=uD.ok (ps:=["self","name","number"]) @G;obtain⟨_,jf⟩:=Cc.ok (ps:=["self","known","row","state"]) @G;obtain⟨_,iw⟩:=AW.ok (ps:=["self","known"]) @G;obtain⟨_,fz⟩:=sI.ok (ps:=["self","name","wires"]) @G;obtain⟨_,ir⟩:=AS.ok (ps:=["self","known","row","state"]) @G;obtain⟨_,gF⟩:=za.ok (ps:=["self","known"]) @G;obtain⟨_,dF⟩:=qo.ok (ps:=["self","name","wire","number"]) @G;obtain⟨_,fV⟩:=xH.ok (ps:=["self","known","row","state"]) @G;obtain⟨_,eW⟩:=vB.ok (ps:=["self","known"]) @G;obtain⟨_,jR⟩:=AO.ok (ps:=["ins","sums","stores","outs"]) @G;obtain⟨_,jS⟩:=AQ.ok (ps:=["names"]) @G;obtain⟨_,fU⟩:=B9.ok (ps:=["wire","known"]) @G;obtain⟨_,jP⟩:=AM.ok (ps:=["sums","stores","outs","known"]) @G;obtain⟨_,ij⟩:=xC.ok (ps:=["ins","sums","stores"]) @G;obtain⟨_,yo⟩:=RA.ok (ps:=["row","waiting"]) @G;obtain⟨_,tM⟩:=KD.ok (ps:=["sums"]) @G;obtain⟨_,gI⟩:=zf.ok (ps:=["self","ins","sums","stores","outs"]) @G;obtain⟨_,dD⟩:=ze.ok (ps:=["self"]) @G;obtain⟨_,gH⟩:=zd.ok (ps:=["self"]) @G;obtain⟨_,cK⟩:=vD.ok (ps:=["self"]) @G;obtain⟨_,c9⟩:=xK.ok (ps:=["self"]) @G;obtain⟨_,cC⟩:=AU.ok (ps:=["self","name"]) @G;obtain⟨_,cf⟩:=rE.ok (ps:=["self"]) @G;obtain⟨_,qf⟩:=Hq.ok (ps:=["words"]) @G;obtain⟨_,tJ⟩:=KA.ok (ps:=["text"]) @G;obtain⟨_,qd⟩:=Hl.ok (ps:=["text"]) @G;obtain⟨_,qc⟩:=Hj.ok (ps:=["net"]) @G;obtain⟨_,jO⟩:=Ob.ok (ps:=["poly"]) @G;obtain⟨_,pC⟩:=KL.ok (ps:=["one","other"]) @G;obtain⟨_,i5⟩:=y8.ok (ps:=["poly"]) @G;obtain⟨_,lG⟩:=B1.ok (ps:=["machine","state"]) @G;obtain⟨_,tL⟩:=KC.ok (ps:=["machine","state"]) @G;obtain⟨_,nK⟩:=EI.ok (ps:=["net","row","state"]) @G;obtain⟨_,pB⟩:=KG.ok (ps:=["wires","bits"]) @G;obtain⟨_,i7⟩:=zc.ok (ps:=["self","net"]) @G;obtain⟨_,mO⟩:=Hu.ok (ps:=["self","row"]) @G;obtain⟨_,gG⟩:=zb.ok (ps:=["self"]) @G;obtain⟨_,Br⟩:=RE.ok (ps:=["net"]) @G;obtain⟨_,p9⟩:=Hi.ok (ps:=["net"]) @G;obtain⟨_,iV⟩:=Hn.ok (ps:=["letter","count"]) @G;obtain⟨_,nL⟩:=EK.ok (ps:=["name","pair"]) @G;obtain⟨_,vV⟩:=N9.ok (ps:=["machine"]) @G;obtain⟨_,nM⟩:=EL.ok (ps:=["_law_script","_law_k"]) @G;obtain⟨_,iW⟩:=Hs.ok (ps:=["_law_cell_here","_law_k"]) @G;obtain⟨_,lK⟩:=Cb.ok (ps:=["_law_cell_here"]) @G;obtain⟨_,qh⟩:=Ht.ok (ps:=["_law_other","_law_start"]) @G;obtain⟨_,lI⟩:=Ca.ok (ps:=["_law_row"]) @G;have OO:=Pw (st:=GO) Wf Wj V7;have b_law:=OO.binds (ps:=["_law_script"]) λ_ _ _ _ _ _ us hl=>match us,hl with | [_],_=>rfl
 have T:Tx K mg ⟨gc,_,ig,_,kN,_,xV,_,kP,_,kK,_,iH,_,nC,_,iI,_,kM,_,eG,_,nF,_,fK,_,bz,_,bR,_,bF,_,cx,_,bc,_,cy,_,bQ,_,cA,_,_,bT,_,cB,_,bO,_,b7,_,eL,_,b8,_,xW,_,kF,_,rM,_,eK,_,iL,_,eh,_,rK,_,gO,_,dB,_,c7,_,iQ,_,rH,_,kH,_,c6,_,fL,_,iN,_,cZ,_,rJ,_,cH,_,bG,_,dm,_,cP,_,bw,_,cN,_,cj,_,bh,_,b5,_,bN,_,eI,_,eJ,_,fM,_,eE,_,cX,_,rG,_,kJ,_,cw,_,cv,_,cu,_,bP,_,b9,_,cO,_,bp,_,iP,_,kG,_,iM,_,iK,_,nG,_,kO,_,dA,_,fJ,_,kI,_,gN,_,kL,_,cq,_,gf,_,ck,_,rL,_,iJ,_,iO,_,gP,_,nE,_,gQ,_,iR,_,fO,_,iS,_,fN,_,fa,_,aq,bH,tE,bf,aT,aB,de,gh,uK,yg,dQ,j0,p5,_,_,_,_,_,_,_,_,_,_,_,_⟩:=⟨j5,WM X G Im,iq,WM X G Mf,jd,WM X G Me,yp,WM X G Vl,je,WM X G Mh,gE,WM X G Mb,p7,WM X G Ic,qe,WM X G OG,p8,WM X G Ie,tN,WM X G Md,jQ,WM X G Bj,vW,WM X G OI,jc,WM X G Df,cb,aL,bW,dE,bj,b0,ff,iu,jU,⟨_,rfl⟩,di,fj,fc,dR,kS,fW,zX,WM X G Vm,ik,WM X G L6,Bu,WM X G Sg,jT,WM X G Bm,mM,WM X G Ii,jN,WM X G Bh,Bq,WM X G Se,gR,WM X G Fc,i6,WM X G zy,ip,WM X G ym,qg,WM X G Ip,Bo,WM X G Sb,tK,WM X G L8,il,WM X G yl,lH,WM X G Dg,iU,WM X G Ik,fT,WM X G yk,Bp,WM X G Sd,c8,gi,jf,iw,fz,ir,gF,dF,fV,eW,jR,WM X G Bk,jS,WM X G Bl,fU,WM X G Dh,jP,WM X G Bi,ij,WM X G yj,yo,WM X G Sa,tM,WM X G Ma,gI,dD,gH,cK,c9,cC,cf,qf,WM X G Io,tJ,WM X G L7,qd,WM X G Ij,qc,WM X G Ih,jO,WM X G OJ,pC,WM X G Mg,i5,WM X G zw,lG,WM X G De,tL,WM X G L9,nK,WM X G Fb,pB,WM X G Mc,i7,mO,gG,Br,WM X G Sf,p9,WM X G Ig,iV,WM X G Il,nL,WM X G Fd,vV,WM X G OH,nM,WM X G Fe,iW,WM X G Iq,lK,WM X G Dp,qh,WM X G Ir,lI,WM X G Dj,OO,WM X G Mj,⟨GX,GV,GT,GR⟩,⟨HX,HV,HS,HQ⟩,⟨uy,ur,aL.1.2⟩,⟨sD,sy,bW.1.2⟩,⟨xu,xk,dE.1.2⟩,⟨oi,oh,bj.1.2⟩,⟨xv,xl,b0.1.2⟩,⟨ux,uq,ff.1.2⟩,⟨y3,yW,r9⟩,⟨uz,uu,di.1.2⟩,⟨xw,xn,fj.1.2⟩,vk,w4,yQ,WM X G Sh,⟨NH,NG,NF,ND⟩,⟨Ou,Ot,Os,Oq⟩,⟨vy,vt,dR.1.2⟩,⟨B0,BZ,kS.1.2⟩,⟨vz,vv,fW.1.2⟩,yP,rC,sk,WM X G Vn,WM X G OK,⟨JW,JV,JU,JT⟩,⟨Lw,Lv,Lu,Lr⟩,⟨AJ,AI,jf.1.2⟩,⟨y4,yX,iw.1.2⟩,AB,w6,WM X G Mi,⟨GW,GU,GS,GQ⟩,⟨HW,HU,HR,HP⟩,⟨yY,yU,ir.1.2⟩,⟨xp,xg,gF.1.2⟩,yO,wX,WM X G Ff,⟨BL,BK,BJ,BI⟩,⟨CA,Cz,Cy,Cw⟩,⟨vx,vq,fV.1.2⟩,⟨uv,um,eW.1.2⟩,vj,sj,vi,WM X G Wq,⟨TY,TV,TR,TN⟩,⟨U2,U0,UY,UW⟩,⟨xt,xj,dD.1.2⟩,⟨xr,xi,gH.1.2⟩,⟨uw,uo,cK.1.2⟩,⟨vA,vw,c9.1.2⟩,⟨yZ,yV,cC.1.2⟩,⟨qm,ql,cf.1.2⟩,AA,Kl,uf,Hb,wZ,Ha,WM X G Wp,⟨TX,TU,TQ,TM⟩,⟨U1,UZ,UX,UV⟩,⟨EF,EE,mO.1.2⟩,⟨xq,xh,gG.1.2⟩,G9,Ey,G8,Kk,⟨uZ,uY,uX,@F,c8.1.2⟩,WM X G Mm,i8,WM X G Iv,gT,WM X G OL,pE,WM X G Ml,WM X G yn,WM X G zz,WM X G Bn,WM X G Iu,WM X G qt,WM X G vI,WM X G om,WM X G tF,WM X G Fg,WM X G Dy,WM X G Dx,Y6 X G VB,Y6 X G VA,Y6 X G Sy,Y6 X G Sw,Y6 X G MH,Y6 X G DC,Y6 X G Vz,Y6 X G Bv,Y6 X G Vy,Y6 X G Sv,Y6 X G Qc,Y6 X G MG,Y6 X G Vx,Y6 X G Vw,Y6 X G Qb,Y6 X G Vv⟩;exact⟨_,λs v=> .of_eq rfl,λbase _ _=>Uh T⟩
open PySem.W in
theorem walk {l:aq8} {q:WJ} {loose:B'} {XP:G'->Xj->Prop} {YP:X5->Xj->Prop} {d:DefRec} {K:Params->Frag} (hn:l.most=a' 63) (hdf:d.params.defaults=[])
  (hY:∀(w:X5) (h:Xj),YP w h->(K w.params).In h)
  (F:∀(w:X5) (mg:G') (fa:eO) (h:Xj),(K w.params).In h->h.Ns WZ mg->mg d.name=a' (.ref fa)->
   ∃fd:iv,(∀(s:vr) (u:xo),BindsTo s fd ⟨[u],[]⟩ [("_law_script",u)])/\∀base:Xj,(K w.params).In base->base.Ns WZ mg->FnOk l.prog w (K w.params) mg base CX0 16 fa fd ["_law_script"] (Ft (K w.params))):
  WalkO q loose XP YP l.row.toRowW d [] (λf vs=>ap0 f vs):=
 L2.walk_of (n:=63) (k:=16) (x:="_law_script") (CX:=λ_=>CX0) (sp:=λw=>Ft (K w.params)) hn @C hdf ⟨rfl,@C,@C⟩ hY F (λ_ _ a ns hl _ hS=>⟨a,ns,rfl,hS,hl,λ_=>rfl⟩) λ_ _ _ _ _ z=>z
end My
structure PySem.W.Fast:Prop where(tw1000769698066680230 tw10028781170173599610 tw10032705723587333019 tw10076020071710003732 tw10159489410820416251 tw10340801915363257499 tw10349851553110495947 tw1036795976725137488 tw10426136469320433858 tw10459428577706160199 tw10484753939538619221 tw10492427042460950741 tw10519376251276394825 tw10520812880170698815 tw10601079454874246244 tw10655963121554302448 tw10666064567696036837 tw10719892443452684951 tw10729660256665777212 tw1075188872279084455 tw10840215072181980981 tw10848640107712428317 tw10871504957375788922 tw10873438177262370725 tw10895674052413234041 tw1089742468731175329 tw10902636236400840964 tw1090836498502148824 tw10912370168995440302 tw10922353660837714915 tw10938768148833261619 tw10944707804161638694 tw10953656945536649154 tw10986497167116814438 tw10988426883668566120 tw11004767970135581393 tw11060119373544103684 tw11083831599578868705 tw11089875816817169130 tw11122140589640607376 tw11125598296979577394 tw11131868440670431408 tw11139211518882187159 tw11140771817133291816 tw11163153927581787285 tw11180464565792666806 tw11247731004000237030 tw11270390837328257069 tw11274113623596413299 tw11274152037698380641 tw11307860028887416233 tw11309102348897839656 tw1131558123352993614 tw1133289024126754136 tw11351404889087830275 tw11400011638693068929 tw11405793918061495422 tw11435650034046850136 tw11440189630846292890 tw11441988293023511444 tw1151469318349911109 tw11531239455968077188 tw11599857679803110754 tw11602502933259958352 tw11619351027475148199 tw11650514719999612999 tw11664284701020005775 tw11671065275218470653 tw11671851011998412828 tw11695336124973789129 tw11738963257739716678 tw11739948448532144365 tw11741764264526093249 tw11756542875966986857 tw11808606108553445167 tw11831954638151136783 tw11863088670319775675 tw11898938983425213424 tw11928433594527343096 tw1196263127955117734 tw12022959154899961746 tw12023769650935327802 tw12034951559641805933 tw1207409104947204280 tw12111701317269100191 tw12153914868346938077 tw12155322318270264019 tw12160795503118974635 tw12164704239320636545 tw12167050451452420319 tw12186731716680136241 tw12211772945774009022 tw12236767261288593867 tw12274625636808604475 tw12285733716864258064 tw12305246270818911356 tw12315578185442721839 tw12340569040170414647 tw1235744431199947698 tw12428188741265272912 tw12452864663722901073 tw12468679694545585218 tw1249014425426487131 tw12535840376482885662 tw12540758155330558116 tw12550420507766161344 tw12558771270886783439 tw12568254816813842099 tw12570635460496747776 tw12607602644656498729 tw12641555403392610694 tw1265918090574505439 tw12709213130690402489 tw12734416250388247857 tw1280589633712325300 tw12805897990157175125 tw12811150211762946591 tw1281300529281602913 tw1285708297598611091 tw12878264276601496795 tw12904846660090858353 tw12947598412732865492 tw12972403038375962667 tw13006425702471451240 tw13026847352020461704 tw13038476295559226229 tw13065447083724242160 tw13079735553194341499 tw1309887109110996211 tw13123313173967932075 tw1315125165745201485 tw13164979534106949033 tw13210663368854444805 tw13224256205366106933 tw13255753978444474393 tw13256440990618040999 tw13284848529345561039 tw13285018823206338839 tw13322997265597396358 tw13421968010852264733 tw13424522124822906143 tw13461755872409931765 tw13487930009002059597 tw13488847005174097753 tw13494924205775801552 tw13499860578265594551 tw13517804782939070324 tw13524092898331779347 tw13527242467395151283 tw13619522240486885687 tw13628091142386583160 tw13638860445891899607 tw13640952597354336919 tw13653571428245404489 tw13659345004182424006 tw13682508085063669926 tw13715804065584205858 tw13725716935768065799 tw13755670063881234806 tw13797867080866704089 tw13868004241250845615 tw13903262041582277111 tw13930437185475217118 tw13948560616421658588 tw13965378390507970325 tw13965532184608901052 tw14019709895393464732 tw1402932583768318051 tw14047705057674009912 tw1407489050087270711 tw14081403311965428059 tw14083468264807016569 tw14084040827872386470 tw14086442096532661740 tw14097034631494226500 tw14176251221799897262 tw14179515674182209321 tw1419927925523509887 tw1426297024532239574 tw14276571069186111933 tw14279960062521936164 tw14289511389924010411 tw14343234000379082951 tw14350041483217855660 tw1436124780643806413 tw1441300446057168745 tw14442082125803378030 tw14450276971565611861 tw14458800766332917912 tw14463079902866939227 tw14468934143342045618 tw14494662753689309662 tw14533881313102044301 tw14567466213321328643 tw14587345159770905244 tw145905440896477421 tw14616620385325637994 tw14640889775995521094 tw14669622352235891601 tw14744529480677997134 tw14791605775887329697 tw14821511512235364912 tw14843273206590406038 tw14846246840494024768 tw14846527118740225359 tw14860811472287644380 tw14873345144800039544 tw14890217773886236726 tw14909109985946137445 tw14930350110984752422 tw1493497293234496126 tw14997442608000301839 tw14999567060610077092 tw15004535984212925283 tw15038520092121321929 tw15040018233246282239 tw15132446779352335785 tw15167469225371064802 tw15301346593269974218 tw15314431525187594697 tw15315186513822492896 tw15356504801182310054 tw15374791558576656308 tw15375875525551993722 tw15381125243698661547 tw15434735695188951435 tw15480888229732480358 tw15483954454649336483 tw15485021443202782045 tw15488535019515594497 tw15501039311397072025 tw1550610151732485197 tw15509787336909779836 tw15543839681739417819 tw15547591574576061841 tw15556534107001424134 tw15570997899643222716 tw15579976190943666628 tw15591327820817540875 tw15615428101803021051 tw15636757272005622066 tw15685610555129759197 tw1568653726433975830 tw15758198704431650824 tw15802665265098791194 tw15861814045518439624 tw15886244898896718087 tw15889985509966773957 tw1590716993626884589 tw15915075602319910319 tw15957323630005255930 tw15960090969870378267 tw15970092056788076463 tw15971928691135966683 tw16017885638756604140 tw16047926488991923593 tw16057033425351935587 tw16076904277843214231 tw1608888409773982687 tw16099489952517600191 tw16128230354768040101 tw16130624809814142506 tw16152068211801089027 tw16171956847159643265 tw16194968129895371987 tw16215812351983661752 tw16216011700286465149 tw16218540501377154462 tw16218724744561112242 tw16263431483215618826 tw16294488367365864338 tw16297720426603179942 tw16321539764530881943 tw16323366095497460081 tw16408159570954442894 tw16413870666099340971 tw16427153350437117428 tw16466944129988518038 tw1647480351038327857 tw16478041358704320862 tw16496464836412697355 tw16558165520112163943 tw16597405786514404403 tw16608722890164021548 tw16731690042224417510 tw16766486886504483863 tw16781962476545227625 tw16789522026842618568 tw16790621223016886104 tw16793791011071097703 tw16858866462222485810 tw16920241728334352658 tw17032225653490302911 tw1705475472626130842 tw17094544749383569485 tw17100700754226718577 tw17104236372857467544 tw1712874092140695789 tw17178893176477022228 tw17217954225276695031 tw17262564516794731785 tw17282068332238042891 tw17315454904246326734 tw17315567809513023214 tw17350455402677319606 tw17365551896928650554 tw17404454150672259371 tw17440935429104942571 tw17475386392270631533 tw17517631512883044645 tw17550385737288561631 tw17585546058363711610 tw17659151288885467697 tw17690608459041143502 tw17751461509573035977 tw1783691998646893451 tw17837725230771580872 tw17863794188836731175 tw17873086159879199842 tw17877910795879539535 tw17942547406059372868 tw17945187898012367686 tw17968719629663618679 tw17970986500625119801 tw18057597772652468823 tw18063248190362240592 tw18091796155673913000 tw18159538706632779566 tw18203055142713804456 tw18244287924032838281 tw18299862538663030958 tw18312286694847108973 tw18312987576819075435 tw18331028241052496749 tw18393875353917934277 tw18420741729461792448 tw1860119011164134194 tw1869540541187778914 tw1900296887034791626 tw1933649422531565779 tw1939913519844844213 tw196154980222684834 tw2033187418648476755 tw2060958393647903397 tw2069296393078390799 tw2119101966415102036 tw2129244515939805056 tw2164854089703096064 tw2245965780433060897 tw225404767841896981 tw2304228117271063549 tw2362927170896446575 tw2382296559848566264 tw243324274683189132 tw2448563302014275412 tw2454076871685879341 tw247783606691705974 tw2487261087485226799 tw2500250765409910367 tw2541958734473278822 tw2559773122650862456 tw2619153169376159335 tw2623914318927973335 tw2636848713502565860 tw2639323219870135794 tw2640848891274563343 tw2646358038034187439 tw2693657808809862974 tw2747994983492468049 tw2769946508185984842 tw2801431545575045802 tw2819997006499169690 tw2835763429004288116 tw2841809788748281508 tw2850699898076947983 tw2869035020417066683 tw2978165264487516384 tw2996502841704726102 tw302989499166461973 tw3046390670365570425 tw3061021413087802561 tw3062767794577258061 tw3186843846002486985 tw3192601713908918044 tw3302076571700963131 tw332973673703302885 tw3344722354149993648 tw3419617346519753896 tw351436873545908350 tw3573542126270941779 tw3670176993437535472 tw3698454550058887336 tw3721862540665914537 tw3722456022171168464 tw3966145776208644857 tw3966810731924196007 tw3967964948501638857 tw3970649940033550580 tw4001374659387633012 tw4006541155086971064 tw4044659254097698158 tw4065871337995694760 tw4072268512472909920 tw4113350575748700925 tw4145485309882205499 tw414660566951302769 tw4155188526371846050 tw4156184826844477559 tw4181990413809951939 tw4187845263457808127 tw4203055189684917720 tw4206478787424905976 tw4229544454668236271 tw4229574198993496780 tw4292208075106016052 tw4319212317708517255 tw4336940199812388730 tw4345529963488038182 tw4370628997932763804 tw4401140794846612842 tw4460891928338292318 tw4463949480138080387 tw4496973682244044909 tw4509606792516279532 tw453584555306010802 tw4540172507324995277 tw4579444112970251506 tw4589633756456596572 tw4592825601264014701 tw4618180864423920869 tw4632038232948821920 tw4653875687760597226 tw4675683797755575585 tw4743453651719913897 tw4765440417346841010 tw4799820449742415452 tw4813022982735033215 tw484641352427384225 tw4924977634574196156 tw4948227695403144779 tw4954805861500937933 tw4988998132504654499 tw5016858605853393684 tw5019054145240110940 tw502263513652440189 tw502569880071762310 tw5030446830581295385 tw5050896876106441689 tw5082212751251822834 tw5104672156551524423 tw5125172528603453109 tw515888363721712454 tw5182591037836868758 tw5194317307110600017 tw5227517110482437023 tw5264626322196246364 tw5297347173836561954 tw5304398844410326379 tw5304856423348905302 tw532709624132897473 tw5351825262610523211 tw5383409366153415188 tw5396131946864930680 tw539893203819032902 tw5399697476402640344 tw5404216236957033467 tw5510017266798211934 tw5534140868099675443 tw5535125351465587842 tw5544243205124479074 tw5577013313348818535 tw562577680860510511 tw5629217943490438306 tw56305425455592453 tw5638963156258918313 tw5642706355780099622 tw5667406104501947683 tw5722279485924602318 tw5777467949567625544 tw5792701232872333016 tw5809633764072645522 tw5826787180961211666 tw5845538493553054489 tw5863916339858772102 tw5871087193394077778 tw587733583545973303 tw5913385813485270046 tw5916556910705886369 tw5933759803470672286 tw5967867738117715966 tw5974569150470286444 tw5977647771502214698 tw6019143096544657457 tw6051241257152040122 tw6060925703334045734 tw6081575495909526704 tw6128229006740136119 tw6132018838640519229 tw6154774489768202746 tw618445491596071975 tw6200087763046388134 tw6213020517625907373 tw6242366730712072426 tw6251267539337005020 tw6254418958937012959 tw6261154452921525434 tw6273757726747166199 tw6287737499293940626 tw6292730871506850567 tw6310836833022366648 tw6333082826485500416 tw6360558040573267512 tw6412464097468933122 tw6432263262630396027 tw6474247423376307279 tw6545277608073504017 tw6578314739890650906 tw6643854498920253265 tw6653779439637016235 tw6658949909754769713 tw666181223847892128 tw6672703916985132088 tw6676235916939935707 tw6698916195879893787 tw6702437332970019191 tw6712824527108669545 tw6721489724949120924 tw6723766091714637245 tw6730337703690023435 tw6737887892982367839 tw6740125565771476197 tw6749063474682743515 tw6756210956959994390 tw6756484630124557108 tw6765043205131539241 tw6788134618605409979 tw6804489062104710802 tw6818211458585356198 tw6825675900470016860 tw6841928291505701148 tw6982604052767715206 tw6992185548815441839 tw6995146785822700859 tw6996611525105219375 tw7011941706328871664 tw7023180246429750593 tw7040884939058442909 tw7045234965192474027 tw705002608627573693 tw7060159607075105544 tw7065894759316806706 tw7085789307233450502 tw7106474991175252795 tw7124514226116458423 tw7156610561878556938 tw7164883175785083975 tw7230205808871253374 tw7326706518887564289 tw7410719562431050013 tw7417047536503441586 tw7420056011310796417 tw7421787624712460370 tw7426733420145063228 tw7444789938206506589 tw7455990002703213682 tw745661765861374160 tw7504128965228962456 tw7527588563677039893 tw7533121559022158536 tw7562587155629792124 tw7630158035010397941 tw765608818168199124 tw7672432270540739628 tw7722693060233984860 tw7753799608030254739 tw778499361342326034 tw7786157008235795814 tw7811642825128203456 tw7916031872545702618 tw7927611725606750833 tw7980340730472162559 tw7990316950238813966 tw8006344709831054980 tw8021537529661837355 tw803456404825519706 tw8040931365877580183 tw8054616038906124325 tw8058644950024036343 tw8064743032975934236 tw80654669267787752 tw8066269402085654893 tw8088016603939375818 tw8095545508790265217 tw810392658568468392 tw8140731556768861590 tw8151793567518219435 tw8166252243928608820 tw8196158964975083024 tw8247284687230072677 tw8258799116053332196 tw826003772237604594 tw8388571372979462030 tw8398086248041694212 tw8424959426333328703 tw8426173723436179044 tw8473447873403449913 tw8476069074082242216 tw8490587924539344059 tw8515350046368489766 tw8527782657706968411 tw8539622239547247955 tw8615869411932882083 tw8640512749386863097 tw8668591432128065103 tw8703479194304350492 tw8713278761968665213 tw8724270545432572693 tw8769809818196040957 tw8770384377376044558 tw8775733489424824020 tw8790449346381133645 tw8797262620967602766 tw8818809722744654139 tw8825169098148123507 tw8865763926754436741 tw8898179473183617670 tw8898351503377880786 tw8920073335121822520 tw8933322834546737331 tw893698151172758088 tw8947066214223656695 tw8987343830505535409 tw9023848035569305961 tw9041529190710308262 tw9059822748921505879 tw9089067790080585749 tw9100149827819751782 tw9103799695319697938 tw9204872865371668516 tw9218042003942579734 tw9246927253276945181 tw9250966341460231470 tw9285360728800453893 tw9433078213939110171 tw9434638739532288124 tw9450887014975403955 tw9455861403456553619 tw9461682860582822865 tw9504550904378697063 tw9600173837266869347 tw9623662995149556659 tw9660560574008329726 tw9663413499625470821 tw9679482659810500512 tw9701698222185495604 tw9724424527833716603 tw9736691593953823238 tw9743836130682731844 tw9764671534994816350 tw9817626680408146448 tw9849457423587595711 tw9856517945465765318 tw9861396602917763626 tw9864949227440649811 tw9924288054706736156 tw9932648384606603063 tw9941313362099165514 tw9981608755158812468 tw9997429198985576709:True)
open PySem PySem.W PyProof.Rows
set_option maxRecDepth 100000 in
set_option maxHeartbeats 0 in
theorem PySem.Challenge.cw_sumwires_k95_whole_heard_and_written_holds : PySem.Challenge.rw_sumwires_k95_whole_heard_and_written.Holds := by
 w_on;o_law;k_head;(case hw=>w_witness2)
 k_fill
 refine My.walk (l:=PySem.Challenge.rw_sumwires_k95_whole_heard_and_written) rfl rfl (λw h Y=>PySem.W.kIn_of Y) ?F
 case F=>
  intro w mg fa h KX G hmg;refine' My.all_mk KX G hmg _ _ _ _ _ _ _ _ _ _ _ _ _ _ _ _ _ _ _ _ _ _ _ _ _ _ _ _ _ _ _ _ _ _ _ _ _ _ _ _ _ _ _ _ _ _ _ _ _ _ _ _ _ _ _ _ _ _ _ _ _ _ _ _ _ _ _ _ _ _ _ _ _ _ _ _ _ _ _ _ _ _ _ _ _ _ _ _ _ _ _ _ _ _ _ _ _ _ _ _ _ _ _ _ _ _ _ _ _ _ _ _ _ _ _ _ _ _ _ _ _ _ _ _ _ _ _ _ _ _ _ _ _ _ _ _ _ _ _ _ _ _ _ _ _ _ _ _ _ _ _ _ _ _ _ _ _ _ _ _ _ _ _ _ _ _ _ _ _ _ _ _ _ _ _ _ _ _ _ _ _ _ _ _ _ _ _ _ _ _ _ _ _ _ _ _ _ _ _ _ _ _ _ _ _ _ _ _ _ _ _ _ _ _ _ _ _ _ _ _ _ _ _ _ _ _ _ _ _ _ _ _ _ _ _ _ _ _ _ _ _ _ _ _ _ _ _ _ _ _ _ _ _ _ _ _ _ _ _ _ _ _ _ _ _ _ _ _ _ _ _ _ _ _ _ _ _ _ _ _ _ _ _ _ _ _ _ _ _ _ _ _ _ _ _ _ _ _ _ _ _ _ _ _ _ _ _ _ _ _ _ _ _ _ _ _ _ _ _ _ _ _ _ _ _ _ _ _ _ _ _ _ _ _ _ _ _ ?i8 ?gT ?pE _ _ _ _ _ _ _ _ _ _ _ _ _ _ _ _ _ _ _ _ _ _ _ _ _ _ _ _ _ _ _
  any_goals ((with_reducible show _=_);k_is)
  any_goals (refine' My.FR.mk ?u ?v ?w;(case u=>k_is);(case v=>k_is);(case w=>k_is))
  (case i8=>k_exc)
  (case gT=>k_exc)
  (case pE=>k_exc)
