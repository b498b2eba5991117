import PyProof.Rows.All
import Wide.FinOn
import Lean
import KE.KDictOf
import KE.KFromBytes
import KE.KIsAll
import KE.KItem
import KE.KItemsList
import KE.KRevIter
import PySem.Challenge.RW_sumwires_k93_whole_told_back_over_texts
section
variable {α β γ δ ε ζ η θ ι : Sort _}{G:Prop}
theorem exx2{P:α→β→Prop}(h:∃a b,P a b)(k:∀a b,P a b→G):G:=h.elim fun a h=>Exists.elim h (k a)
theorem eyy2{P:α→β→Prop}(a:α)(b:β)(h:P a b):∃a b,P a b:=⟨a,b,h⟩
theorem exx3{P:α→β→γ→Prop}(h:∃a b c,P a b c)(k:∀a b c,P a b c→G):G:=h.elim fun a h=>exx2 h (k a)
theorem eyy3{P:α→β→γ→Prop}(a:α)(b:β)(c:γ)(h:P a b c):∃a b c,P a b c:=⟨a,b,c,h⟩
theorem exx4{P:α→β→γ→δ→Prop}(h:∃a b c d,P a b c d)(k:∀a b c d,P a b c d→G):G:=h.elim fun a h=>exx3 h (k a)
theorem eyy4{P:α→β→γ→δ→Prop}(a:α)(b:β)(c:γ)(d:δ)(h:P a b c d):∃a b c d,P a b c d:=⟨a,b,c,d,h⟩
theorem exx5{P:α→β→γ→δ→ε→Prop}(h:∃a b c d e,P a b c d e)(k:∀a b c d e,P a b c d e→G):G:=h.elim fun a h=>exx4 h (k a)
theorem eyy5{P:α→β→γ→δ→ε→Prop}(a:α)(b:β)(c:γ)(d:δ)(e:ε)(h:P a b c d e):∃a b c d e,P a b c d e:=⟨a,b,c,d,e,h⟩
theorem exx6{P:α→β→γ→δ→ε→ζ→Prop}(h:∃a b c d e f,P a b c d e f)(k:∀a b c d e f,P a b c d e f→G):G:=h.elim fun a h=>exx5 h (k a)
theorem eyy6{P:α→β→γ→δ→ε→ζ→Prop}(a:α)(b:β)(c:γ)(d:δ)(e:ε)(f:ζ)(h:P a b c d e f):∃a b c d e f,P a b c d e f:=⟨a,b,c,d,e,f,h⟩
theorem exx7{P:α→β→γ→δ→ε→ζ→η→Prop}(h:∃a b c d e f g,P a b c d e f g)(k:∀a b c d e f g,P a b c d e f g→G):G:=h.elim fun a h=>exx6 h (k a)
theorem eyy7{P:α→β→γ→δ→ε→ζ→η→Prop}(a:α)(b:β)(c:γ)(d:δ)(e:ε)(f:ζ)(g:η)(h:P a b c d e f g):∃a b c d e f g,P a b c d e f g:=⟨a,b,c,d,e,f,g,h⟩
theorem exx8{P:α→β→γ→δ→ε→ζ→η→θ→Prop}(h:∃a b c d e f g i,P a b c d e f g i)(k:∀a b c d e f g i,P a b c d e f g i→G):G:=h.elim fun a h=>exx7 h (k a)
theorem eyy8{P:α→β→γ→δ→ε→ζ→η→θ→Prop}(a:α)(b:β)(c:γ)(d:δ)(e:ε)(f:ζ)(g:η)(i:θ)(h:P a b c d e f g i):∃a b c d e f g i,P a b c d e f g i:=⟨a,b,c,d,e,f,g,i,h⟩
theorem exx9{P:α→β→γ→δ→ε→ζ→η→θ→ι→Prop}(h:∃a b c d e f g i j,P a b c d e f g i j)(k:∀a b c d e f g i j,P a b c d e f g i j→G):G:=h.elim fun a h=>exx8 h (k a)
theorem eyy9{P:α→β→γ→δ→ε→ζ→η→θ→ι→Prop}(a:α)(b:β)(c:γ)(d:δ)(e:ε)(f:ζ)(g:η)(i:θ)(j:ι)(h:P a b c d e f g i j):∃a b c d e f g i j,P a b c d e f g i j:=⟨a,b,c,d,e,f,g,i,j,h⟩
end
section
variable {G A B C D E F H I J K L M:Prop}
theorem axx3(h:A∧B∧C)(k:A→B→C→G):G:=k h.1 h.2.1 h.2.2
theorem ayy3(a:A)(b:B)(c:C):A∧B∧C:=⟨a,b,c⟩
theorem axx4(h:A∧B∧C∧D)(k:A→B→C→D→G):G:=axx3 h.2 (k h.1)
theorem ayy4(a:A)(b:B)(c:C)(d:D):A∧B∧C∧D:=⟨a,b,c,d⟩
theorem axx5(h:A∧B∧C∧D∧E)(k:A→B→C→D→E→G):G:=axx4 h.2 (k h.1)
theorem ayy5(a:A)(b:B)(c:C)(d:D)(e:E):A∧B∧C∧D∧E:=⟨a,b,c,d,e⟩
theorem axx6(h:A∧B∧C∧D∧E∧F)(k:A→B→C→D→E→F→G):G:=axx5 h.2 (k h.1)
theorem ayy6(a:A)(b:B)(c:C)(d:D)(e:E)(f:F):A∧B∧C∧D∧E∧F:=⟨a,b,c,d,e,f⟩
theorem axx7(h:A∧B∧C∧D∧E∧F∧H)(k:A→B→C→D→E→F→H→G):G:=axx6 h.2 (k h.1)
theorem ayy7(a:A)(b:B)(c:C)(d:D)(e:E)(f:F)(g:H):A∧B∧C∧D∧E∧F∧H:=⟨a,b,c,d,e,f,g⟩
theorem axx8(h:A∧B∧C∧D∧E∧F∧H∧I)(k:A→B→C→D→E→F→H→I→G):G:=axx7 h.2 (k h.1)
theorem ayy8(a:A)(b:B)(c:C)(d:D)(e:E)(f:F)(g:H)(i:I):A∧B∧C∧D∧E∧F∧H∧I:=⟨a,b,c,d,e,f,g,i⟩
theorem axx9(h:A∧B∧C∧D∧E∧F∧H∧I∧J)(k:A→B→C→D→E→F→H→I→J→G):G:=axx8 h.2 (k h.1)
theorem ayy9(a:A)(b:B)(c:C)(d:D)(e:E)(f:F)(g:H)(i:I)(j:J):A∧B∧C∧D∧E∧F∧H∧I∧J:=⟨a,b,c,d,e,f,g,i,j⟩
theorem axx10(h:A∧B∧C∧D∧E∧F∧H∧I∧J∧K)(k:A→B→C→D→E→F→H→I→J→K→G):G:=axx9 h.2 (k h.1)
theorem ayy10(a:A)(b:B)(c:C)(d:D)(e:E)(f:F)(g:H)(i:I)(j:J)(l:K):A∧B∧C∧D∧E∧F∧H∧I∧J∧K:=⟨a,b,c,d,e,f,g,i,j,l⟩
theorem axx11(h:A∧B∧C∧D∧E∧F∧H∧I∧J∧K∧L)(k:A→B→C→D→E→F→H→I→J→K→L→G):G:=axx10 h.2 (k h.1)
theorem ayy11(a:A)(b:B)(c:C)(d:D)(e:E)(f:F)(g:H)(i:I)(j:J)(l:K)(m:L):A∧B∧C∧D∧E∧F∧H∧I∧J∧K∧L:=⟨a,b,c,d,e,f,g,i,j,l,m⟩
theorem axx12(h:A∧B∧C∧D∧E∧F∧H∧I∧J∧K∧L∧M)(k:A→B→C→D→E→F→H→I→J→K→L→M→G):G:=axx11 h.2 (k h.1)
theorem ayy12(a:A)(b:B)(c:C)(d:D)(e:E)(f:F)(g:H)(i:I)(j:J)(l:K)(m:L)(n:M):A∧B∧C∧D∧E∧F∧H∧I∧J∧K∧L∧M:=⟨a,b,c,d,e,f,g,i,j,l,m,n⟩
end
open Lean in
local macro_rules
  | `(tactic| obtain ⟨$ps,*⟩ := $t:term) => do
    let ps := ps.getElems
    let n := ps.size
    if n < 3 then Macro.throwUnsupported
    -- what a pattern is bound to, and what is done behind
    let one (i : Nat) (p : TSyntax `Lean.Parser.Tactic.rcasesPatLo) : MacroM (TSyntax `term × Option (TSyntax `tactic)) := do
      let z := mkIdent (Name.mkSimple s!"zz{i}")
      match p with
      | `(Lean.Parser.Tactic.rcasesPatLo| $x:ident) => if x.getId == `rfl then return (z, some (← `(tactic| subst $z:term))) else return (x, none)
      | `(Lean.Parser.Tactic.rcasesPatLo| _) => return (← `(_), none)
      | `(Lean.Parser.Tactic.rcasesPatLo| $q:rcasesPatMed) => return (z, some (← `(tactic| obtain $q:rcasesPatMed := $z:term)))
      | _ => Macro.throwUnsupported
    let mut alts : Array (TSyntax ``Lean.Parser.Tactic.tacticSeq) := #[]
    let clr : TSyntax `tactic ← if t.raw.isIdent then `(tactic| try clear $(⟨t.raw⟩):ident) else `(tactic| skip)
    let w := mkIdent `ww
    for ex in [true, false] do
      for k in [0:n] do
        let i := if ex then n - 1 - k else n - k
        if i < 1 || i > (if ex then 9 else 12) || (!ex && i < 3) then continue
        let f := mkIdent (if ex then if i == 1 then `Exists.elim else Name.mkSimple s!"exx{i}" else Name.mkSimple s!"axx{i}")
        let m := if ex then i else if i == n then i else i - 1
        let mut bs : Array (TSyntax `term) := #[]
        let mut post : Array (TSyntax `tactic) := #[]
        for j in [0:m] do
          let (b, q) ← one j ps[j]!
          bs := bs.push b
          if let some q := q then post := post.push q
        if m < n then
          if m + 1 == n then
            let (b, q) ← one m ps[m]!
            bs := bs.push b
            if let some q := q then post := post.push q
          else
            bs := bs.push w
            let rest := ps.extract m n
            post := post.push (← `(tactic| obtain ⟨$rest,*⟩ := $w:term))
        alts := alts.push (← `(Lean.Parser.Tactic.tacticSeq| refine $f $t ?_; $clr:tactic; intro $bs*; $post;*))
    alts := alts.push (← `(Lean.Parser.Tactic.tacticSeq| rcases $t:term with ⟨$ps,*⟩))
    `(tactic| first $[| $alts]*)
open Lean in
local macro_rules
  | `(tactic| rintro $rs:rintroPat*) => do
    let mut out : Array (TSyntax `tactic) := #[]
    let mut any := false
    for r in rs do
      match r with
      | `(rintroPat| $x:ident) => if x.getId == `rfl then out := out.push (← `(tactic| (intro zz; subst zz))) else out := out.push (← `(tactic| intro $x:ident))
      | `(rintroPat| _) => out := out.push (← `(tactic| intro _))
      | `(rintroPat| ⟨$ps,*⟩) =>
        if ps.getElems.size ≥ 3 then any := true
        out := out.push (← `(tactic| (intro zz; obtain ⟨$ps,*⟩ := zz)))
      | _ => Macro.throwUnsupported
    if !any then Macro.throwUnsupported
    `(tactic| ($[$out:tactic];*))
open Lean in
local macro_rules
  | `(tactic| refine ⟨$xs,*⟩) => do
    let xs := xs.getElems
    let n := xs.size
    if n < 4 then Macro.throwUnsupported
    let mut alts : Array (TSyntax ``Lean.Parser.Tactic.tacticSeq) := #[]
    for k in [0:n] do
      let i := n - 1 - k
      if i > 9 then continue
      let ws := xs.extract 0 i
      let rs := xs.extract i n
      let m := n - i
      let cs : List (TSyntax `term) ← if m == 1 then pure [rs[0]!] else if m == 2 || m > 12 then pure [← `(⟨$rs,*⟩)] else pure [← `($(mkIdent (Name.mkSimple s!"ayy{m}")) $rs*), ← `(⟨$rs,*⟩)]
      for c in cs do
        if i == 0 then
          if m > 2 then alts := alts.push (← `(Lean.Parser.Tactic.tacticSeq| refine ($c)))
        else if i == 1 then alts := alts.push (← `(Lean.Parser.Tactic.tacticSeq| refine Exists.intro $(ws[0]!) $c))
        else alts := alts.push (← `(Lean.Parser.Tactic.tacticSeq| refine $(mkIdent (Name.mkSimple s!"eyy{i}")) $ws* $c))
    alts := alts.push (← `(Lean.Parser.Tactic.tacticSeq| refine (⟨$xs,*⟩)))
    `(tactic| first $[| $alts]*)
  | `(tactic| exact ⟨$xs,*⟩) => do
    let xs := xs.getElems
    if xs.size < 4 then Macro.throwUnsupported
    `(tactic| (refine ⟨$xs,*⟩))
open Option renaming some→ak,none→f',map_eq_some_iff→Vv,isSome_map→YO,getD_some→ZW,getD_none→ZX,map_some→ab8
open List renaming length_map→aI,getElem?_eq_some_iff→a',getD_eq_getElem?_getD→dm,map_append→dt,getElem?_eq_getElem→ef,mem_of_getElem?→eH,length_append→fD,mem_singleton→gs,mem_append→gz,replicate→hC,mem_map→hD,getElem?_map→hH,mem_append_left→hJ,mem_append_right→hL,take_length→ic,mem_cons_of_mem→ik,mem_cons_self→j',Nodup→ka,range→kv,getElem?_append_left→ky,getElem?_append_right→lB,length_take→pa,length_cons→pA,length_singleton→pO,size_toArray→qb,mem_cons→qq,length_range→qQ,map_map→u2,length_replicate→w5,getElem?_eq_none→w8,mem_range→wh,mem_iff_getElem?→wq,length→zz,nodup_append→UK,map_cons→UL,mem_filter→UQ,filter_append→UV,getElem_mem→UX,append_nil→UY,foldl_append→UZ,range_succ→V9,take_of_length_le→Va,map_congr_left→Vc,zipWith→Vp,getElem?_range→Vt,mem_iff_getElem→Vu,singleton_append→Vz,length_filter_le→VB,filter_cons→VF,getElem?_zip_eq_some→VG,eq_of_mem_replicate→VN,all_eq_true→VR,map_singleton→W7,replicate_succ→We,zip→Wh,ext_getElem?→Wj,replicate_succ'→Wn,not_mem_nil→Wz,length_drop→WB,any_eq_true→WC,append_assoc→WH,take_append_drop→WI,getElem?_zipWith→WJ,nodup_cons→WV,length_set→WW,map→Xa,length_zip→Xb,find?_cons→Xc,lookup→Xd,take_append_of_le_length→Xg,getElem?_drop→Xi,lookup_cons→Xk,reverse_cons→Xu,flatten_cons→Xw,foldl_cons→XG,take_append→XR,getElem_map→XS,pairwise_lt_range→Y6,getElem?_set_self→Y7,of_mem_zip→Yc,forIn_cons→Yd,getElem?_toArray→Ye,getElem?_set_ne→Yi,any_cons→Yr,all_cons→Ys,map_fst_zip→Yv,length_pos_iff→Yw,filterMap_cons→Yx,map_id→YM,mem_range'→YN,pairwise_map→YQ,getElem_take→YR,getElem?_inj→YS,map_nil→Z0,sum_cons→Z2,map_take→Z5,range'→Z9,eq_nil_of_length_eq_zero→Zd,take_zero→Ze,foldl_nil→Zf,take_succ→Zn,pairwise_iff_getElem→Zw,length_erase_of_mem→ZE,getElem?_take_of_lt→ZF,pairwise_singleton→ZI,getElem?_replicate→ZJ,filter_append_perm→ZK,range_succ_eq_map→ZQ,length_pos_of_mem→ZR,filter_eq_nil_iff→ZS,perm_append_comm→ZZ,reverse_reverse→aa5,pairwise_append→aa6,mem_of_mem_take→aa7,length_reverse→ab6,foldl→ab9,count→ac0,mem_replicate→ac5,mem_filterMap→ac6,getElem_range→ac7,take_add_one→ad5,filter_congr→ad6,nodup_range→ae2,map_snd_zip→ae3,ext_getElem→ae4,length_nil→af3,filter_map→af4,take_left→af9,forIn_nil→ag0,drop_zero→ag1,map_drop→ag9,map_id'→ah6,any_map→ah7,all_map→ah8
open PySem.W renaming Frag→b',mg_of→w1,findIn→wb,mg_none_of→Vi,fnOf→Vj,keepIn→Vk,emptyDict→VE,instObj→VY,mroIn→V',specialIn→Wk,codeIn→Wp,callWith_K→WO,methodCall_KW→WZ,plainGet→XI,lookIn→Ya,plainGet_of→Yf,excIn→Yh,isFn→YA,methodObj→YB,hasDictIn→YC,handedIn→YG,takesIn→YX,takerIn→YY,cellsFrom_some→Zv,plainOver→aa2,readsIn→ac1,makesIn→ac2,isClsIn→ac3,findCls→ac4,OpenLaw→ac8,typeIn→ad2,nsIn→ae9
open PySem renaming Addr→ee,wpAny_bind→gn,FuncData→hM,sizeLine_eq→ix,Shared→kb,sizeLine→kf,Value→kk,Str→lA,wpAny→lT,wpAny_pure→nr,boot_len→n',starEach→ov,model→oS,Program→pT,Expr→xo,Around→xY,World→z0,mainGlobals→z5,Heap→zx,mem_of_lookup→V6,Value→Vd,wpAny_field→Vn,wpAny_holding→VH,wpAny_truthy_bool→W8,wpAny_pyIter_enum→W9,Scope→Wf,wpAny_passesOwn→Wv,builtinLookup_eq_fast→Wx,wpAny_mono→WM,wpAny_seqItems→WN,Stmt→WX,codeAny_builtin→WY,call_meets→X1,wpAny_callSpecial?_slot→X9,wpAny_call_entry→Xl,Spec→Xq,wpAny_updateSeq→Xy,wpAny_specialOf→Xz,wpAny_loadPart'→XA,typeLookup_type→XB,wpAny_setField→XQ,wpAny_pyIter_tuple→XU,wpAny_Call_Name_kw→XX,tupleKind_room_in1→XY,wpAny_pyIter_list→Y4,wpAny_newObj_type→Y5,plainId_quiet→Y9,codeAny_mono→Yl,wpAny_execs_nil→Yu,Str→YU,typeIs_str→Z8,wpAny_typeOf→Zg,Addr→Zh,Obj→Zs,wpAny_pyIter_zip→Zt,wpAny_execs_cons→Zu,Within→ZG,Shared→ZH,callType_codes→ZY,wpAny_standAt→ab0,call→ab4,wpAny_comprehension_free→ab5,seqIndex_neg→ac9,wpAny_nextOf_list_item→ad0,wpAny_isTrue_Compare1→ad9,wpAny_of_eq→ae7,seqIndex_of→ae8,call_enumerate_list→af5,wpAny_rule→ag3,wpAny_call→ag4,wpAny_Name→ag5,typeIs_int→ag6,wpAny_assign_Name→ah1
open _root_ renaming List→eS,decide_eq_false→hA,decide_eq_true→hE,absurd→hF,if_neg→mu,if_pos→oL,congrArg→px,Option→qE,of_decide_eq_true→v5,beq_eq_false_iff_ne→vr,Bool→US,String→U',decide_eq_true_eq→V1,beq_self_eq_true→Vo,decide_eq_true_iff→W1,beq_iff_eq→Yk,or_false→YF,ne_true_of_eq_false→YW,if_true→ZN,Array→ae6
open Nat renaming lt_of_lt_of_le→fy,pow_le_pow_right→gA,eq_of_testBit_eq→iv,testBit_lt_two_pow→lx,two_pow_pos→mm,le_refl→oe,testBit_xor→oT,testBit_two_pow→pB,shiftRight_eq_div_pow→tu,ne_of_lt→u',lt_of_le_of_lt→w2,testBit_shiftLeft→x3,testBit_mod_two_pow→U4,xor_assoc→U7,pow_lt_pow_right→U8,and_comm→UM,zero_testBit→V3,xor_zero→Vf,testBit_and→Vg,zero_le→Vh,ne_of_gt→Vr,le_trans→Vs,le_of_lt→Vw,and_two_pow_sub_one_eq_mod→Vy,mul_le_mul_right→VA,testBit_shiftRight→VC,shiftLeft_eq→VD,lt_irrefl→VJ,and_zero→VM,lt_succ_self→VP,not_lt_zero→VQ,mod_two_eq_zero_or_one→VX,lt_pow_two_of_testBit→W2,zero_add→W5,testBit_two_pow_self→W6,xor_self→Wc,lt_log2_self→Wi,zero_and→Wm,one_mul→Wt,add_mul→Wu,mul_le_mul→Wy,min_eq_left→WA,le_add_right→WG,lt_trichotomy→WS,le_mul_of_pos_left→X3,pow_add→X5,zero_xor→X6,sub_self→X7,and_le_right→X8,xor_comm→Xj,testBit_div_two→Xn,le_of_not_lt→Xv,add_comm→XF,lt_succ_of_lt→XN,div_add_mod→XT,mod_lt→Y0,exists_eq_add_of_le→Y1,add_sub_cancel_left→Y2,div_lt_iff_lt_mul→Yg,div_lt_of_lt_mul→Yn,succ_mul→Yo,pow_succ→Yp,le_of_eq→Yq,log2_lt→Yy,le_succ→Yz,zero_shiftLeft→YI,xor_lt_two_pow→YJ,zero_mul→Z1,mul_comm→Z3,min_self→Z4,lt_trans→Z6,strongRecOn→Zi,and_le_left→Zj,mul_lt_mul_of_pos_right→Zo,zero_mod→Zy,le_of_ble_eq_true→aa4,lt_or_eq_of_le→ad3,eq_zero_or_pos→ad4,shiftLeft_add→ae1,testBit_zero→af0,lt_of_not_le→af1,log2_self_le→af2,le_antisymm→af8
open PySem.Heap renaming get?_push_of_some→gB,lt_size→ib,get?_push_size→mc,get?_update_other→U9,get?_update_self→Vb,get?_none_of_le→Xf,SameBut→Xm,size_push→Xx
open Bool renaming false_ne_true→ia,and_eq_true→U6,true_and→UR,false_and→V2,eq_iff_iff→VI,false_xor→VU,and_false→VW,xor_false→Wa,xor_assoc→ag2,or_true→ai1
open PySem.F renaming plainAttrs_list→la,type_list_append→sb,slot_list_append→so,type_list_extend→UI,slot_list_extend→UJ,type_int_bit_length→UT,slot_int_bit_length→UU,excBase_ValueError→V0,plainAttrs_str→Vl,plainAttrs_int→Vm,type_str_join→W',slot_str_join→X0,type_str_split→XZ,slot_str_split→X'
open Int renaming toNat_natCast→lj,emod_lt_of_pos→y2,emod_nonneg→UN,eq_ofNat_of_zero_le→Ve,zero_add→Wg,natCast_nonneg→WT,natAbs_natCast→XC,one_mul→Ym,toNat→Yt,fdiv_eq_ediv_of_nonneg→Zx
open PySem.PassesOwn renaming never→lI
open PyProof.Rows renaming boot_list→oD,callWith_type1→vu,boot_tuple→zt,boot_isinstance→V4,boot_str→Wb,boot_all→XH,int_text_len_1921→Yj,boot_dict→Z7,boot_zip→Za,boot_max→Zb,boot_any→Zc,Call_→ZV,subscriptTail_builtinR→ad1,Subscript_→ag7
open PySem.Value renaming ref→p',none→V5,type→Xp,str→YT,int→Zz,bool→ab2,isStrOf→af6,isInt→ah3,float→ah4,bytes→ah5
open Ne renaming symm→ro
open Option.some renaming inj→ry
open PySem.Builtin.Int renaming intBits→u1
open Sum renaming inr→v3,inl→V8
open PySem.Builtin.List renaming listExtendWith→xn,listTooLong→Wr,listSameRef→Ws,listItems→WK,listUpdate→Xo,listLengthHint→YE
open PySem.Builtin renaming bitXor→U5,bitAnd→Vx,bitNot→VO,bitOr→ae5
open PySem.Obj renaming mapSeq→UO,mapFields→WQ,data_mapFields→YH,isFreed_of_fields→aa3,cls_mapFields→ae0
open False renaming elim→UP
open PySem.Builtin.SmallTypes renaming nextOf→UW,ownedTupleIsFree→XD
open PySem.NameKind renaming free→V7,cell→X2
open PySem.Str renaming ofString→Vq,join→Xh,empty→Xs
open Array renaming length_toList→VL,getElem?_eq_some_iff→VT,getElem?_eq_getElem→WE,getElem?_eq_none→ZM,toList_append→aa8,forIn_toList→ab7,toList→ah0
open Classical renaming byContradiction→VS,propDecidable→W4,epsilon_spec→XM,epsilon→ZU
open PySem.Heap.SameBut renaming update→VZ
open PySem.Txt renaming split→W3,join→aa9
open PySem.WalksT renaming enumerateD→Wl,zip2→YV
open PySem.Around renaming under_plainId→Wq,under→ZA
open List.cons renaming inj→Ww
open ForInStep renaming yield→WD
open Or renaming inr→WU,inl→X4
open Nat.succ renaming inj→Xe
open PySem.Builtin.Str renaming occurrences→Xr,strKind→Zr
open Sum.inr renaming inj→Xt
open List.Pairwise renaming filter→XJ,map→Yb,imp_of_mem→YL,nil→Zq
open List.Perm renaming trans→XO,append_left→Zp
open True renaming intro→Y3
open PySem.EntryCells renaming newEntry→Y8
open PySem.Calls renaming spliced_cons→YD,spliced_nil→YK,Name_function_global→Zk,callWith_builtin→ZL,evalArgs_plain→Z'
open PySem.Builtin.Dict renaming updateFrom→YZ
open Prod renaming ext→Zl,fst→aa0
open PySem.Paired renaming length→Zm,snoc→ag8
open PySem.SeqAt.EqAt renaming str_int→ZC,int_str→ZD,same→ad8,of_refs→ah9
open PySem.Code renaming isFrame→ZO,builtin→ai0
open PySem.Heap.DictOf renaming new→ZT
open PySem.StrLaws renaming found_one→aa1
open PySem.Walks renaming list→ab1
open PySem.SeqAt renaming EqAt→ab3
open Iff renaming rfl→ad7
open Sum.inl renaming inj→af7
open PySem.W.WShape renaming has→ah2
abbrev A':=eS (Nat×Nat)
abbrev C':=eS YU
abbrev Cr:=eS Nat
abbrev D':=Vd->ZH->Prop
abbrev Dn:=eS (Zh×PySem.Obj)
abbrev E':=eS Vd
abbrev F':=YU->qE Vd
abbrev G':=ae6 Vd
abbrev K':=ae6 (qE Vd)
abbrev L':=Unit->ZH->Prop
abbrev M':=eS Zh
abbrev P':=eS Int
abbrev Q':=qE Zh
abbrev R':=YU->US
abbrev U0:=PySem.Result->ZH->Prop
abbrev U1:=eS (YU×Zh)
abbrev U2:=eS (YU×Vd)
abbrev U3:=qE Vd
set_option Elab.async false
open Lean in
def Tb.st0 (as:Array Syntax)(st:List Syntax)(t:String):List Syntax:=
 let r:=(t.drop 1).toString
 let k:=r.toNat?.getD 0
 let c:=t.front
 let A(s:String):Syntax:=.atom .none s
 let N(n:Name)(l:List Syntax):Syntax:=.node .none n l.toArray
 let T(s:String)(l:List Syntax):Syntax:=N (`Lean.Parser.Term++.mkSimple s) l
 let I:=mkIdent r.toName
 if c=='i' then I::st else
 if c=='$' then as[k]!::st else
 if c=='_' then T "hole" [A "_"]::st else
 if c=='?' then T "syntheticHole" [A "?",A "_"]::st else
 if c=='n' then Syntax.mkNumLit r::st else
 if c=='t' then Syntax.mkStrLit r::st else
 if c=='d' then T "dotIdent" [A ".",I]::st else
 if c=='@' then T "explicit" [A "@",I]::st else
 if c=='c' then T "anonymousCtor" [A "⟨",mkNullNode ((st.take k).reverse.intersperse (A ",")).toArray,A "⟩"]::st.drop k else
 if c=='l' then N (.mkSimple "term[_]") [A "[",mkNullNode ((st.take k).reverse.intersperse (A ",")).toArray,A "]"]::st.drop k else
 if c=='a' then match st.drop k with|f::s=>T "app" [f,mkNullNode (st.take k).reverse.toArray]::s|_=>st else
 match st with
 |x::s=>
  if c=='!' then N (.mkSimple "term!_") [A "!",x]::s else
  if c=='p' then T "proj" [x,A ".",Syntax.mkLit fieldIdxKind r]::s else
  if c=='q' then T "proj" [x,A ".",I]::s else
  if c=='N' then T "namedArgument" [A "(",I,A ":=",x,A ")"]::s else
  if c=='f' then T "fun" [A "fun",T "basicFun" [mkNullNode (s.take k).reverse.toArray,mkNullNode,A "=>",x]]::s.drop k else
  match s with
  |y::s=>(if c=='>' then T "arrow" [y,A "→",x] else N (.mkSimple ("term_"++r++"_")) [y,A r,x])::s
  |_=>st
 |_=>st
def Tb.tb0:List (List String):=("@A @zo
@F @zx
@D @zd
c4 iaQ $0 $1 $2 _ _ irfl f2 a4
@O @zk
@C @zs
@M @zy
ar iaa ipv $0 a1 $1 a2
O _ _ _ _ _ $0 iaR $1 c3 f5
@E iprs inx a1
@G @zr
@K ipv n0 a1
@H iprs ios a1
aF ii iys iH' _ ic iSqL.of ic.same.get $0 a1 a1 f5
j dref $0 a1
a5 iar $0 iaf a2 !
ay iupd $0 $1 dlst $2 a1 a3
@am is.heap.objs.size n1 o+
@J ii n1 o+
C iau $0 $1 iag $2 a1 a3
K iai iaF $0 a1 a1
U iaG iK NK irfl $0 a3
ae iisFn iK ij $0 a1 ! a2 itrue o=
a7 dlst $0 qmap inat a1 a1
@Q iaE @D a1
Z iaa $0 iaf a2
@I ipv n1 a1
@R ieS iPr3 a1
@T ioS iX.prog iX.w a2
@P ij ip a1 !
a4 iCs.zero $0 irfl a2
ah iar $0 ia5 $1 a1 ! a2 !
co ic4 iaC iK NK irfl a2 $0 $1 a3 !
@bp dbuiltin tobject.__setattr__ a1
@X dlst iys a1
@a4 id n1 o+
bS iInv $0 ipins iσ $1 $2 a5
bg ii iys iys $0 qmap iV.str a1 o= f2
bn iaw iak _ a1 iak _ a1 iak _ a1 l3 Nσ' $0 ? a3
@ab irows ir l1 o++
@ak ieS iKey iV o× a1
@bP dtup dstr ir p2 p2 p1 a1 dref ir p2 p1 a1 l2 a1
aN iOpR $0 icompareOp $1 a1 $2 a3
@ar ins.map iV.int a1
@bQ tself tknown trow tstate l4
@V ie ies o::
M ia'.mp $0 a1
bk _ _ _ _ _ $0 ij8 $1 a1 $2 c3 f5
@df ik iV7 o== ienv.scope.kind dfunction o== o&& ienv.kindOf in a1 iak dcell a1 o== o&&
a2 is'.get $0 a1
@a8 iys iv l1 o++
@cn inmb tn inx.length a2 inmb to ios.length a2 o++
@W iaK iK NK irfl @K irfl a4
@aS ij is.heap.objs.size a1 !
b3 iar $0 iZ $1 a1 ! a2 !
@bu dbuiltin tobject.__class__ a1
aO ify $0 igA @D $1 a2 a2
V ico $0 iah a2 !
A dlst $0 a1
be ii iys iys $0 qmap inat a1 o= f2
@S ipv n2 a1
@av ihr.mono @D a1
@as ieS ilA iV o× a1
bo ienvOfC $0 $1 is.heap.objs.size $2 $3 a5
@bv irs.map ir iV.ref ir p1 a1 f1 a1
@bk ibo _ a1
@Z ij iD a1 !
a9 iaa $0 iZ $1 a1 ! a2
aP dCall dName $0 $1 a2 $2 $3 $4 a4
az ieval $0 iX.env a2
@aI iX.calm itrue o=
ao dbuiltin $0 a1
@ah ddK ikvs a1
bA iI1.fpOk $0 iI1.hok.fresh $1 a1 a2
@bl ir iM.sm irows iq a2 o^^^
b8 iOpR $0 ibinaryOp $1 a1 $2 a3
@bR ii iv iys iH' ihv ic ? f6
b9 iaW icf iK NK $0 a2 $1 $2 $3 $4 a5
@b0 izs.map iV.str a1
@bm ik imixV ic n403 a2 o+
@a2 ia5 n0 a1 !
bT iaw iak _ a1 iak _ a1 if' if' l4 Nσ' $0 ? a3
@bw imixV ic n401 a2 n1000 o%
ab iav $0 $1 iav $2 $3 $4 a3 a3
aw iaJ $0 $1 $2 irfl ? a5
@aj dinl irfl a1
@U ipv n3 a1
@bc ieS ilA ieS ilA a1 o× a1
@al iA ixs a1 !
bh dCall dAttribute $0 $1 $2 a3 $3 $4 $5 a4
@Y ioe _ a1
@a0 ineed iN iod a2
@a3 ioS iprog iw a2
@a5 ij it a1 !
@ad iV @K a1 !
@bx ir p2 p2 p2 qmap iV.str a1
@bd iA.handled if' o=
G dtup $0 a1
@cm iapos.endLine icpos.line o==
aD iM.pl n1000 $0 a2
cj ibA iag idy a1 Nosc in19 NON in10 NN n1 Nn l0 Nfx $0 $1 $2 $3 iU $4 a1 ! $5 $6 a12
bH ibackToKw $0 ikeywordEach $1 $2 a2 a2
c1 ii iys iH' _ ic iSqT.of ic.same.get $0 a1 a1 f5
@ai tself l1
bz $0 qmap iV.str a1
b7 iax n4 Ni $0 $1 @F $2 a5
@bs ips.length n1000 o≤
X iaV $0 $1 $2 @bk a4
@de ic n2147483647 o% n48271 o* n7919 ik o* o+ n11 o+
@bb irows.take ii a1
@aZ ieS iκ iV o× a1
@bt @a4 ios.length o*
aE ibackTo $0 iov $1 iX.env a2 a2
a6 iaO $0 @A a2 !
bR ii iys iH' iCs $0 iH iD ii iys iH' a6 f3
@cF ikvs.any iG idecide iG p1 ik o= a1 f1 a1
@L iTx iK img ia a3
@N ibS iX iH is a3 !
@a6 ij if a1 !
c0 iaw iak _ a1 iak _ a1 iak _ a1 iak _ a1 l4 Nσ' irfl $0 a3
@br ieS ieS iKey a1 iV o× a1
@cQ ib iX.ex o∈ iX.s₀.heap.objs.size ib o≤ o∨
aH dins iC idx $0 a3
@b2 irs.map inat a1
@bJ ios.length n1000 o≤
an iao $0 $1 $2 $3 ib3 $4 $5 a2 ! a5
@bq ips.length im o+
@a7 ipv n4 a1
@ae ia5 n2 a1 !
@af ia2 ie a1 !
ba iax n1 Ni $0 $1 @F $2 a5
@bj iη.mono @D a1
@cN ips.length @a4 ios.length o* o+ n1000 o≤
@bF tself tknown l2
@aO iNat iNat o×
aq ihD.mpr $0 a1
@bi iK iw.params a1
bK iqL iK NK n2 Nn $0 $1 iaZ $2 $3 a2 a5
@ao dstr iz a1
@be iI.ok.hd ihc a1
bC iG inat $0 p1 a1 inat $1 p2 a1 l2 a1 !
bN idW $0 $1 ii iys iH' ihi ic ? f5 $2 a4
bV ikg dint n6 a1 Nv $0 $1 _ irfl c2 a4
bE iassignEach $0 iX.env a2
ai dtype $0 a1
ag iSqL.of $0 a1
@dt iQq ilk iY iS ilen iA iouter is iH ivs iQ iE iα iO ? f9 a5
@c0 ia isysModules o==
aJ iaw $0 iT.aB $1 a3 !
c3 iaw iak _ a1 iak _ a1 if' if' if' l5 Nσ' $0 ? a3
F dinr $0 a1
bL iCs.put $0 ic.same.trans $1 a1 $2 $3 $4 $5 a6
E iPE iX $0 $1 a3
J dinl $0 a1
@bn _ _ irfl f2
H iFnOk iP iw iK img ibase iCX0 $0 $1 $2 $3 $4 a11
bp ikeepIn iK ij $0 a1 ! a2 itrue o=
@aq iaH ifs a1 !
@ag ia5 n1 a1 !
@ds t_law_cell_here t_law_many t_law_width l3
@cE iqs.map iq iV.ref iq p1 a1 f1 a1
@cD tself trows tstate l3
@ay iNAof ia a1
cn iswapsWith ivalue iak $0 a1 ipos.line iX.env a4 ipure ifalse a1 o=
@ax iG ixs a1 !
ak iKx.upd $0 a1
am ilf.map $0 a1
@aQ irs ir l1 o++
@bZ ipkw iw ips a2 iw o<<<
@aP ivs idvs o++
@c6 ieS iKey a1 iee ikk o× o×
@d5 inx.length ios.length ii o+ o+
bY dbuiltin ttype.__call__ $0 a2
@bH iη.map iV.str a1
@bB ilA iNat iNat o× >
@bA _ _ iFalse f2
bj iaq n4 Ni $0 $1 @F a4
@d3 iA ips.map iq iV.ref iq p1 a1 f1 a1 a1 !
@cV imixV ic n401 a2 n1000 o% n37 ik o* o+
@cl ivs iH iQ iE ih ? f5
aT iK idh $0 a1 a1 !
bm iSame iH $0 a2
@aG ieS iEnv a1
W iaP $0 irfl ? a3
bc iiI iK NK irfl $0 a3
@bT ij iL.heap.objs.size a1 !
@ap ibm iH2 a1 !
@cS iG dstr iq p2 p1 a1 dstr iq p2 p2 a1 l2 a1 !
bQ ii iys iys $0 qmap iV.bl a1 o= f2
bF inms $0 $1 irows.length a3
al itr2 ips $0 $1 a3
@bV iys iH5 ic ? f3
@cX t_law_cell_here t_law_k l2
@c3 iys iH' ic ? f3
@cz iq n2 irows.length o^ o<
@an icR iaf a1
b1 iM.tol $0 $1 $2 @a4 a4
@bo iM.fr irows a1
@dF ibinT iha ihb iI ih iv iu iG ix iy iH2 iY iO iL iq iho ipins iG iσ iH2 ix iy iv iu iQ iY iO iL iq a13 f10 a5
bf dcons $0 dnil a2
aL ima.same $0 a1
@bO irfl irfl c2
@dB inmb tn ips.length a2 inmb to ios.length a2 o++
bv is.heap.update $0 $1 a2
@bI ir.map iV.str a1
Y iupd iH $0 $1 a3
@aa ij ia a1 !
@cR ik ies.map ie ie.m.log2 f1 a1 o∈
au iH ip a1 iak $0 a1 o=
@au ij n1 o+
@dp tself tins tsums tstores touts l5
@dE t_law_cell_here t_law_start t_law_many t_law_width t_law_digits l5
ca ii iys iH' iCs ibg $0 a1 ! iH2 iD3 ii iys iH' a6 f3
@cd iI.hok.fresh @Y a1
ch ii iys iH' iCs $0 iH4 iD5 ii iys iH' a6 f3
aM iws.map $0 a1
bI $0 qstop ii iH2 a2 iQ iH2 a1 o∧
@dv dint _ a1 iH iI.tok _ a1 _ irfl c2 iq c5
cc iaw iak _ a1 iak _ a1 if' l3 Nσ' $0 ? a3
bx iaW ieF iK NK $0 a2 $1 $2 $3 $4 a5
bU ie is' iR derror $0 a1 is' a2 f2
@cH iI1.kept iL.toks Nt' ihk a2
@c9 ir iV.ref ir p1 a1 f1
@aE iZ @W a1 !
@ck is.heap.push iVE a1
b5 is'.trans $0 a1
@cs iw n2 ips.length o^ o%
bi ic.same.get $0 a1
@cB n2 ios.length o^ n1 o-
@cv inx.map iq iq p2 p2 f1 a1
@co ix n2 ips.length o^ o<
a3 iav $0 $1 iah a3
aW iaw $0 iT.dZ $1 a3 !
@db iai tmethod_descriptor a1 !
c2 dListComp $0 itg iiter iG n0 c4 l1 $1 $2 a4
cg $0 qreverse qmap ir iV.ref ir p1 a1 f1 a1
@bD iiv ij ? f1 a1
@cy iG inat ix a1 inat iy a1 l2 a1 !
I iw1 iX iG $0 a3
@a9 ij iC a1 !
ad ic4 ibf iK NK irfl a2 $0 $1 a3 !
af iax n2 Ni $0 irfl @F $1 a5
ci iv iH2 iv dnon o= iQ ij $0 a1 ! iH2 a2 o∧ f2
aa iaM iaT iK NK irfl a2 @G iT.gb in' $0 a5
@bK iε.mono @D a1
br iM.rowsJ $0 $1 ibars a3
cq iXl iF.slot_tuple_iterator_next iη.typeIs iF.entry_tuple_iterator_next ? $0 a5
@dH ik iV7 o== ienv.scope.kind dfunction o== o&& ienv.kindOf iy a1 iak dcell a1 o== o&&
@bN iai tlist a1 !
@ch iys iH1 ic ? f3
@ci tself tname l2
@ce inx.length im o+
@cj iT ios.length o*
@aY iY iy l1 o++
@d4 iX.A.units n1 o+ icLine o<
c6 iaw iak _ a1 if' if' l3 Nσ' $0 ? a3
@aB iag ist a1
@cA iN.outs.map iV.str a1
@bh iI.tok _ a1
bd iA ibz $0 a1 ! a1 !
a1 iay $0 iD $1 a3 !
@dy tself tinputs tnexts touts l4
@aV iM ihz a1 !
@cY ii iv iys iH' iγ ic ? f6
@da ies.map ie ie.m.log2 f1 a1
@dd ies.map ie ie p1 qlog2 f1 a1
@d0 dbl _ a1 iH iI irfl ? c5
@cU iaq _ ieH ihk a1 irfl c3 a1 !
@bC iH il a1 iak @al a1 o=
bG ixs.getD $0 dnon a2
c7 irI0 ii ij dbl idecide $0 a1 a1 f2 a1
@cu imixV ic n400 a2 n26 o%
@bL tmachine l1
@du tself tname twire tnumber l4
@aM ix iy o^^^
@bG im n2 iw o^ o<
aZ iao $0 $1 $2 $3 iZ $4 a1 ! a5
@b3 inx ios o++
@dG t_law_cell_here t_law_start t_law_names t_law_digits l4
@b8 ius ids o++
cp ir is' ir dok $0 a1 o= iOldK iG.heap is'.heap a2 is'.os iG.os o= iAllBare is'.gens a1 o∧ o∧ o∧ f2
@cg iμ n1 o+ n2 o/
@aL iaw iak _ a1 l1 Nσ' irfl ? a3
@aA ij il a1 !
av iwan ips ios $0 $1 a4
@aD iM iG a1 !
cm iaw iak _ a1 iak _ a1 iak _ a1 if' if' l5 Nσ' $0 ? a3
@cp iN.ins.map iV.str a1
@dl iao tgetset_descriptor.__get__ a1 !
@dz tins tsums tstores touts l4
@dc ips.length im o+ n1000 o≤
@d6 is.heap.objs.size ia o≤
@cL iA.units n1 o+ icLine o<
@d8 iUO ix ix.push iV5 a1 f1 a1
b2 dName ix $0 a2
aG iRelV $0 iu a2
@c4 dbool itrue a1
bw dBoolOp $0 $1 ipos a3
bl ixor_lt_pow $0 $1 a2
bt iax n5 Ni $0 $1 @F $2 a5
@dq t_law_other t_law_answers l2
@aR n2 ij o^
@dI iHT.sIx ixs.length ixs.length ihi a3 iHT.sIx ixs.length n0 ilo a3 o-
@cC ikk ikk iSem ikk a1 > >
@bS iai ttype a1 !
L iaj ie $0 a2
c8 iw ihw irZ iG ifx ir ifs iw $0 a6 f2
ce ihA ie ihk iV.str.inj $0 a1 a1 f1 a1
@cq iG dint ii a1 ix l2 a1 !
aj iL.get $0 a1
bX iaN ids.map iV.ref a1 Nxs $0 $1 $2 $3 $4 a6
@bf dref ip a1 l1
b6 ij9 igZ $0 a1 a1
bu iws.getD $0 t a2
@dg iwan ips ios ix iv ivs o:: a4 iY iy l1 o++ o=
@bg dint ii a1
@ca ieS iκ ikk o× a1
@b9 iaH l0 a1 !
@di if' if' irfl iSame.refl _ a1 c4
@cr iys iH3 ic ? f3
@cx iw ips.length o>>>
@cI tmachine tdelay l2
@cw id ios.length o*
@a1 iG _ @D a2
@aF ij iS a1 !
@b5 iM ihk a1 !
@c7 iο.mono @D a1
@cP inx.map iq iq p2 p1 f1 a1
@dn tthing tstores tinputs l3
@dA ips.length id ios.length o* o+
@cO ix n2 ips.length o^ o%
@aU ia ib o^^^
@dw ixs.length izs.length o+ ikf o≤
@d2 iX.A.units icLine o<
@b6 iaO @A a1
@aw ipv n5 a1
@az imm _ a1
@cW iaq _ ihk irfl c3 a1 !
@bX iws.take ii a1
@aW ieqU ix a1
@dJ t_law_ins t_law_sums t_law_stores t_law_outs l4
@dr iao ttype.__getattribute__ a1 !
aI ibI @K $0 $1 $2 $3 $4 dnil $5 a8
@aT iJ ih a1 !
@bW iG ix iy l2 a1 !
aC icS $0 $1 @C a3
ap iV.ref $0 a1
@dx ia ik ia irows.getD ik n0 a2 o^^^ f2
@dC iFD iosc iON iN in ifx isc a6 itrue o=
bZ irI0 ii ij dint $0 a1 f2 a1
b4 ic6 $0 iT.fh $1 a3
aK id7 $0 iai $1 a1 ibz a3
aQ $0 qtake ii a1
@cb iq iq p2 p1 f1
@d9 ib iM.tr2 ips n0 iu a3 o&&&
@cK il.cps.toList ic l1 o=
@cZ dref iC a1 ius o:: iL c2
@bU iaM iV.str a1 !
@aH iib ie a1
@aC iak iv a1
bP dSubscript $0 $1 ipos a3
@dm twhole twidth tcount l3
@dk tinputs tnexts touts l3
bO ipn.mem_iff.mp $0 a1
@b4 ik n1 o+
aU ievj @E @H $0 $1 a4
@ba ifO ist a1
aA icZ iK NK irfl @K $0 irfl a5
@aJ ij iG a1 !
@c2 ips.take ii a1
N ihJ _ $0 a2
@ct il.eraseIdx ij a1
@b7 inr ? a1
@c5 iH ix a1 iak @aq a1 o=
bB dok dret $0 a1 a1
aY is8.get $0 a1
bb irs.take $0 a1
ck ii iys iH' iCs $0 iH1 iD2 ii iys iH' a6 f3
@dj t_law_script t_law_k l2
@dh tself tname tnumber l3
@bM iee iNat o×
@cJ ix iM.sm irows iO a2 o^^^
@bz ilA iNat >
@bY ik n2500 o<
@bE ips ip l1 o++
@cG iys.size ixs.size o=
cf $0 qstop ii iH a2 iD.nx iσ iH a2 o∧
@dD ib iob _ _ iG ie _ iob.slots ik ib iob iG ie a4 c2 f7
@cT ix ix p1 qisSome f1
c5 ib io ihb ie $0 qtrans ie a1 f4
@d1 iX.env.scope iosc o=
aV iH ia a1 iak $0 a1 o=
@cM ilA iqE iNameKind a1 >
aR iao $0 $1 $2 $3 iah $4 $5 a2 ! a5
b0 imixV ic $0 a2
@cf iτ.mono @D a1
@aK iv3 iz a1
bq iSpan irows $0 a2
aX iRoom ik $0 a2
@d7 iUO ix ix.pop f1 a1
c9 iVY $0 is.heap.objs.size a2
ax iax n3 Ni $0 irfl @F $1 a5
@aX ij id a1 !
Q ihL _ $0 a2
bW ifk $0 qmap inat a1 Nxs $1 $2 $3 ? $4 a6
@c8 ipd iK NK irfl a2
@b1 ij iz a1 !
@cc imz iK NK irfl a2
@aN iaw iak _ a1 iak _ a1 l2 Nσ' irfl ? a3
@c1 igs.mpr irfl a1
bM iaq n3 Ni $0 irfl $1 a4
bJ iaq n2 Ni $0 irfl $1 a4
aS icX $0 irfl $1 $2 iai $3 a1 a5
aB idi iK NK irfl $0 $1 $2 $3 $4 iZ $5 a1 ! a8
bD idi iK NK irfl $0 $1 $2 $3 $4 $5 a8".splitOn "\n").map (·.splitOn " ")
open Lean in
def Tb.dc0(m:String)(as:Array Syntax):MacroM Syntax:=
 match Tb.tb0.find? (·.head! ==m) with
 |some r=>return (r.tail!.foldl (Tb.st0 as) []).head!
 |none=>Macro.throwUnsupported
set_option hygiene false in
local macro_rules
|`(@$x:ident)=>Tb.dc0 ("@"++x.getId.toString) #[]
|`(!$x:ident $a*)=>Tb.dc0 x.getId.toString (a.map (·.raw))
set_option hygiene false in
local macro_rules
|`(@zd)=>`((by decide))
|`(@zk)=>`((by decide +kernel))
|`(@zo)=>`((by omega))
|`(@zr)=>`((by rfl))
|`(@zs)=>`((by simp))
|`(@zy)=>`((by walk_at "b"))
|`(@zx)=>`((by walk_at "o"))
local macro_rules | `(tactic| lia) => `(tactic| walk_at "l2")
set_option linter.all false
set_option maxRecDepth 100000
namespace L2
open PySem PySem.Spec PyProof.Rows
noncomputable abbrev Key:=Sum Int lA
noncomputable def BX:Key->kk->US
 | .inl k,v=>ah3 k v
 | .inr x,v=>af6 x v
noncomputable def keyH (w:z0):Key->Int
 | .inl k=>hashInt k
 | .inr x=>hashStr w x
theorem dB:∀{k:Key} {v:kk},BX k v=true->(∃i t,k=V8 i/\v=Zz i t)∨(∃x t,k=v3 x/\v=YT x t)
 | .inl i,v,h=>by
   obtain⟨t,e⟩:=Value.isInt_shape (k:=i) (v:=v) h;exact !J ⟨i,t,rfl,e⟩
 | .inr x,v,h=>by
   obtain⟨t,e⟩:=Value.isStrOf_shape (x:=x) (v:=v) h;exact !F ⟨x,t,rfl,e⟩
theorem Kd (i:Int) (t:Tok):BX (!J i) (.int i t)=true:=by simp[BX,ah3]
theorem Kc (x:lA) (t:Tok):BX (!F x) (.str x t)=true:=by simp[BX,af6]
theorem SK (a b:Int):decide ((V8 a:Key)=V8 b)=(a == b):=by
 by_cases e:a=b
 ·subst e;simp
 ·have h:¬(V8 a:Key)=V8 b:=λq=>e (af7 q);rw[hA h];exact(vr.mpr e).symm
theorem SH (a b:lA):decide ((v3 a:Key)=v3 b)=decide (a=b):=by
 by_cases e:a=b
 ·subst e;simp
 ·have h:¬(v3 a:Key)=v3 b:=λq=>e (Xt q);rw[hA h,hA e]
theorem SJ (a:Int) (b:lA):decide ((V8 a:Key)=v3 b)=false:=hA (λq=>nomatch q)
theorem SI (a:lA) (b:Int):decide ((v3 a:Key)=V8 b)=false:=hA (λq=>nomatch q)
noncomputable def dR (prog:pT) (w:z0):PySem.KeyKind prog w Key where
 is:=BX
 hash:=keyH w
 inj:=λv a b ha hb=>by
  rcases dB ha with ⟨i,t,rfl,rfl⟩ | ⟨x,t,rfl,rfl⟩
  ·rcases dB hb with ⟨j,u,rfl,e⟩ | ⟨y,u,rfl,e⟩
   ·injection e with G _;rw[G]
   ·exact nomatch e
  ·rcases dB hb with ⟨j,u,rfl,e⟩ | ⟨y,u,rfl,e⟩
   ·exact nomatch e
   ·injection e with G _;rw[G]
 byValue:=λk v h=>by
  rcases dB h with ⟨i,t,rfl,rfl⟩ | ⟨x,t,rfl,rfl⟩<;>rfl
 pyHash:=λL h=>by
  rcases dB L with ⟨i,t,rfl,rfl⟩ | ⟨x,t,rfl,rfl⟩
  ·exact wpAny_pyHash_int h
  ·exact wpAny_pyHash_str h
 eqBool:=λhu L h=>by
  rcases dB hu with ⟨i,t,rfl,rfl⟩ | ⟨x,t,rfl,rfl⟩
  ·rcases dB L with ⟨j,u,rfl,rfl⟩ | ⟨y,u,rfl,rfl⟩
   ·rw[SK] at h;exact wpAny_eqBool_int h
   ·rw[SJ] at h;exact ZD i t y u _ _ _ _ h
  ·rcases dB L with ⟨j,u,rfl,rfl⟩ | ⟨y,u,rfl,rfl⟩
   ·rw[SI] at h;exact ZC x t j u _ _ _ _ h
   ·rw[SH] at h;exact wpAny_eqBool_str h
 «strs»:=λk x t v h=>by
  rcases dB h with ⟨i,u,rfl,e⟩ | ⟨y,u,rfl,e⟩
  ·exact nomatch e
  ·injection e with G _
   subst G
   cases v<;>rfl
theorem DX (prog:pT) (w:z0) (i:Int) (t:Tok):(dR prog w).is (!J i) (.int i t)=true:=Kd i t
theorem DW (prog:pT) (w:z0) (x:lA) (t:Tok):(dR prog w).is (!F x) (.str x t)=true:=Kc x t
inductive V where
 | non | bl (b:US) | int (i:Int) | str (x:lA) | byt (b:ae6 UInt8) | flt (b:UInt64) | ref (a:ee) | ty (n:U')
 deriving DecidableEq
noncomputable def RelV:V->kk->Prop
 | .non,u=>u=V5
 | .bl b,u=>u=ab2 b
 | .int i,u=>∃t,u=Zz i t
 | .str x,u=>∃t,u=YT x t
 | .byt b,u=>∃t,u=ah5 b t
 | .flt b,u=>∃t,u=ah4 b t
 | .ref a,u=>u=p' a
 | .ty n,u=>u=Xp n
noncomputable abbrev Vals:eS V->E'->Prop:=Paired RelV
theorem Vals.length {xs:eS V} {us:E'} (r:Vals xs us):xs.length=us.length:=Zm r
theorem Vals.get:∀{xs:eS V} {us:E'} {i:Nat} {x:V},Vals xs us->xs[i]? =ak x->∃u,us[i]? =ak u/\RelV x u
 | _,_,_,_,.nil,e=>by simp at e
 | _,_,0,_,.cons r _,e=>by simp at e;subst e;exact⟨_,rfl,r⟩
 | _,_,i + 1,x,.cons _ t,e=>by
   obtain⟨u,h1,h2⟩:=Vals.get (i:=i) (x:=x) t (by simpa using e);exact⟨u,by simpa using h1,h2⟩
theorem Vals.set {x:V} {u:kk} (r:!aG x):∀{xs:eS V} {us:E'} (i:Nat),Vals xs us->Vals (xs.set i x) (us.set i u)
 | _,_,_,.nil=> .nil
 | _,_,0,.cons _ t=> .cons r t
 | _,_,i + 1,.cons q t=> .cons q (Vals.set r i t)
theorem Vals.append:∀{xs ys:eS V} {us ws:E'},Vals xs us->Vals ys ws->Vals (xs++ys) (us++ws)
 | _,_,_,_,.nil,s=>s
 | _,_,_,_,.cons r t,s=> .cons r (Vals.append t s)
theorem Vals.take:∀{xs:eS V} {us:E'} (n:Nat),Vals xs us->Vals (xs.take n) (us.take n)
 | _,_,0,_=> .nil
 | _,_,_ + 1,.nil=> .nil
 | _,_,n + 1,.cons r t=> .cons r (Vals.take n t)
theorem Vals.drop:∀{xs:eS V} {us:E'} (n:Nat),Vals xs us->Vals (xs.drop n) (us.drop n)
 | _,_,0,r=>r
 | _,_,_ + 1,.nil=> .nil
 | _,_,n + 1,.cons _ t=>Vals.drop n t
noncomputable def RelO:qE V->U3->Prop
 | some v,ak u=>RelV v u
 | none,f'=>True
 | _,_=>False
noncomputable def KV {κ:Type}:eS (κ×V)->eS (κ×kk)->Prop:=Paired λ(p:κ×V) (q:κ×kk)=>p.1=q.1/\RelV p.2 q.2
noncomputable def kV:Key->V
 | .inl i=> .int i
 | .inr x=> .str x
inductive HO where
 | lst (xs:eS V)
 | tup (xs:eS V)
 | dK (kvs:@ak) | dT (kvs:@br)
 | set (S:Int->US) (n:Nat)
 | ins (C dx:ee) (fs:@as)
 | own (x:ee)
 | xd (fs:@as)
 | met (f x:ee)
 | rng (lo hi:Int)
 | frz (o:Zs) (u:HO)
 | tbl (ps:G')
 | ext (φ:zx->Prop)
noncomputable abbrev Hp:=ee->qE HO
noncomputable def upd (H:Hp) (a:ee) (o:HO):Hp:=λb=>if b=a then ak o else H b
theorem ay {H:Hp} {a:ee} {o:HO}:upd H a o a=ak o:=by unfold upd;rw[oL rfl]
theorem aH {H:Hp} {a b:ee} {o:HO} (h:b≠a):upd H a o b=H b:=by unfold upd;rw[mu h]
theorem cF {H:Hp} {a b:ee} {o u:HO} (h:H a=ak o) (h':H b=ak u) (d:o≠u):a≠b:=by
 intro e;subst e;rw[h] at h';exact d (ry h')
theorem aj {H:Hp} {a b:ee} {o:HO} (h:H a=ak o) (h':H b=f'):a≠b:=by
 intro e;subst e;rw[h] at h';cases h'
section
variable (P:pT) (w:z0)
noncomputable def ip (H:Hp) (h:zx) (a:ee):HO->Prop
 | .lst xs=>xs.length<=kf/\∃(its:E') (n:Nat),Vals xs its/\h.get? a=ak {cls:= .type "list",data:= .seq its.toArray n}
 | .tup xs=>xs.length<=kf/\∃its:E',Vals xs its/\IsTup h a its.toArray
 | .dK kvs=>kvs.length<=kf/\@c0=false/\∃vs,KV kvs vs/\h.DictOf (dR P w) a vs
 | .dT kvs=>kvs.length<=kf/\@c0=false/\∃xs:eS @c6,
   Paired (λ(p:eS Key×V) (q:eS Key×ee×kk)=>p.1=q.1/\H q.2.1=ak (!G (p.1.map kV))/\RelV p.2 q.2.2) kvs xs/\
   ∃o es ep,h.get? a=ak o/\o.ExactDict/\o.data= .dict es ep/\es.toList=xs.map (entryOfKey (tupleKind (dR P w)))/\(xs.map (·.1)).Nodup
 | .set S n=>h.SetOf (intKind P w) a S n
 | .ins C dx fs=>H dx=ak (.own a)/\fs.length<=1000/\dx≠a/\h.get? a=ak (VY C dx)/\
   ∃mA,h.Ns1 dx mA/\(∀f,RelO (fs.lookup f) (mA f))/\ZG mA (fs.map (·.1))
 | .own _=>∃o,h.get? a=ak o
 | .xd fs=>∃mA,h.Ns1 a mA/\∀f,RelO (fs.lookup f) (mA f)
 | .rng lo hi=>∃t u v,h.get? a=ak {cls:= .type "range",data:= .fields #[.int lo t,.int hi u,.int 1 v]}
 | .frz o u=>h.get? a=ak o/\ip H h a u
 | .tbl ps=>h.get? a=ak {cls:= .none,data:= .fields ps}
 | .met f x=>h.get? a=ak (YB @a6 (!j x))
 | .ext φ=>φ h/\(∃o,h.get? a=ak o)/\∀h1 h2:zx,φ h1->(∀o,h1.get? a=ak o->h2.get? a=ak o)->φ h2
def HOk (H:Hp) (h:zx):Prop:=∀a o,H a=ak o->ip P w H h a o
end
section
variable {P:pT} {w:z0} {H H':Hp} {h h':zx} {a:ee} {o:HO}
theorem ip.lt (x:ip P w H h a o):a < h.objs.size:=by
 cases o with
 | lst xs=>obtain⟨_,_,_,_,e⟩:=x;exact ib e
 | tup xs=>obtain⟨_,_,_,p⟩:=x;exact p.lt
 | dK kvs=>obtain⟨_,_,_,_,o,_,_,e,_⟩:=x;exact ib e
 | dT kvs=>obtain⟨_,_,_,_,o,_,_,e,_⟩:=x;exact ib e
 | set S n=>obtain⟨o,_,_,_,e,_⟩:=x;exact ib e
 | ins C dx fs=>obtain⟨_,_,_,e,_⟩:=x;exact ib e
 | own y=>obtain⟨_,e⟩:=x;exact ib e
 | xd fs=>obtain⟨_,⟨_,_,_,e,_⟩,_⟩:=x;exact ib e
 | rng lo hi=>obtain⟨_,_,_,e⟩:=x;exact ib e
 | frz ob u=>obtain⟨e,_⟩:=x;exact ib e
 | tbl ps=>exact ib (show h.get? a=ak _ from x)
 | met f y=>exact ib (show h.get? a=ak _ from x)
 | ext φ=>obtain⟨_,⟨_,e⟩,_⟩:=x;exact ib e
theorem Paired.mapP {α β:Type} {F G:α->β->Prop}:∀{l₁:eS α} {l₂:eS β},Paired F l₁ l₂->(∀a b,F a b->G a b)->Paired G l₁ l₂
 | _,_,.nil,_=> .nil
 | _,_,.cons r t,f=> .cons (f _ _ r) (Paired.mapP t f)
theorem ip.stay (x:ip P w H h a o) (k:∀b u,(b=a∨H b=ak (.own a))->h.get? b=ak u->h'.get? b=ak u)
  (ho:∀b,H b=ak (.own a)->H' b=ak (.own a)) (ht:∀b xs,H b=ak @ax->H' b=ak @ax):ip P w H' h' a o:=by
 induction o with
 | lst xs=>obtain⟨z,its,n,r,e⟩:=x;exact⟨z,its,n,r,k _ _ @aj e⟩
 | tup xs=>obtain⟨z,its,r,ob,e,c⟩:=x;exact⟨z,its,r,ob,k _ _ @aj e,c⟩
 | dK kvs=>obtain⟨z,y,vs,r,ob,es,ep,e,c⟩:=x;exact⟨z,y,vs,r,ob,es,ep,k _ _ @aj e,c⟩
 | dT kvs=>
   obtain⟨z,y,xs,r,ob,es,ep,e,c⟩:=x;exact⟨z,y,xs,Paired.mapP r λp q z=>⟨z.1,ht _ _ z.2.1,z.2.2⟩,ob,es,ep,k _ _ @aj e,c⟩
 | set S n=>obtain⟨ob,es,ep,t,e,c⟩:=x;exact⟨ob,es,ep,t,k _ _ @aj e,c⟩
 | ins C dx fs=>
   obtain⟨d,z,ne,e,mA,⟨od,es,ep,G,c⟩,r⟩:=x;exact⟨ho _ d,z,ne,k _ _ @aj e,mA,⟨od,es,ep,k _ _ (!F d) G,c⟩,r⟩
 | own y=>obtain⟨ob,e⟩:=x;exact⟨ob,k _ _ @aj e⟩
 | xd fs=>obtain⟨mA,⟨od,es,ep,e,c⟩,r⟩:=x;exact⟨mA,⟨od,es,ep,k _ _ @aj e,c⟩,r⟩
 | rng lo hi=>obtain⟨t,u,v,e⟩:=x;exact⟨t,u,v,k _ _ @aj e⟩
 | frz ob u ih=>obtain⟨e,q⟩:=x;exact⟨k _ _ @aj e,ih q⟩
 | tbl ps=>
   have e:h.get? a=ak {cls:= .none,data:= .fields ps}:=x;show h'.get? a=ak {cls:= .none,data:= .fields ps};exact k a _ @aj e
 | met f y=>
   have e:h.get? a=ak (YB @a6 (!j y)):=x;show h'.get? a=ak (YB @a6 (!j y));exact k a _ @aj e
 | ext φ=>obtain⟨p,⟨o,e⟩,st⟩:=x;exact⟨st _ _ p λo q=>k _ _ @aj q,⟨o,k _ _ @aj e⟩,st⟩
theorem HOk.lt (x:HOk P w H h) (e:H a=ak o):a < h.objs.size:=(x a o e).lt
theorem HOk.fresh (x:HOk P w H h) (e:h.objs.size<=a):H a=none:=by
 cases q:H a with
 | none=>rfl
 | some u=>exact hF (fy (x.lt q) e) (VJ _)
theorem HOk.kept (x:HOk P w H h) (k:∀b u,h.get? b=ak u->h'.get? b=ak u):HOk P w H h':=λa o e=>
 (x a o e).stay (λb u _ q=>k b u q) (λ_ q=>q) λ_ _ q=>q
theorem HOk.laid (x:HOk P w H h) (k:∀b u,h.get? b=ak u->h'.get? b=ak u) (L:h.objs.size<=a) (G:ip P w (!Y a o) h' a o):HOk P w (!Y a o) h':=λb u e=>by
 have hn:=x.fresh L;by_cases hb:b=a
 ·subst hb;rw[ay] at e;cases e;exact G
 ·rw[aH hb] at e;exact(x b u e).stay (λc v _ q=>k c v q) (λc q=>by rw[aH (aj q hn)];exact q) λc xs q=>by rw[aH (aj q hn)];exact q
end
def Rd (H:Hp) (a:ee) (u:HO):Prop:=H a=ak u∨∃o,H a=ak (.frz o u)
theorem Rd.ok {P:pT} {w:z0} {H:Hp} {h:zx} {a:ee} {u:HO} (r:Rd H a u) (x:HOk P w H h):ip P w H h a u:=by
 rcases r with r | ⟨o,r⟩
 ·exact x a u r
 ·obtain⟨_,q⟩:=x a _ r;exact q
noncomputable def Mut:qE HO->Prop
 | some (.lst _)=>True
 | some (.dK _)=>True
 | some (.dT _)=>True
 | some (.set _ _)=>True
 | some (.ins _ _ _)=>True
 | some (.ext _)=>True
 | _=>False
section
variable {P:pT} {w:z0} {H:Hp} {h h':zx} {x e:ee} {o':HO}
theorem HOk.write (ok:HOk P w H h) (O:Mut (H x)) (he:e=x∨H e=ak (.own x)) (k:∀b u,b≠e->h.get? b=ak u->h'.get? b=ak u) (ζ:∃u,h'.get? e=ak u)
  (Y:ip P w (!Y x o') h' x o'):HOk P w (!Y x o') h':=λb u q=>by
 have L:∀c y,H c=ak (.own y)->c≠x:=λc y r z=>by subst z;rw[r] at O;exact O
 have ι:∀c xs,H c=ak @ax->c≠x:=λc xs r z=>by subst z;rw[r] at O;exact O
 by_cases hb:b=x
 ·subst hb;rw[ay] at q;cases q;exact Y
 ·rw[aH hb] at q;by_cases G:b=e
  ·have β:H b=ak (.own x):=by
    rcases he with z | z
    ·exact hF (G.trans z) hb
    ·rw[G];exact z
   rw[q] at β;cases β;obtain⟨v,Z⟩:=ζ;exact⟨v,by rw[G];exact Z⟩
  ·refine(ok b u q).stay (λc v hc r=>k c v ?_ r) (λc r=>by rw[aH (L c b r)];exact r) λc xs r=>by rw[aH (ι c xs r)];exact r
   rcases hc with rfl | hc
   ·exact G
   ·rintro rfl;rcases he with z | z
    ·exact L c b hc z
    ·rw[hc] at z;cases z;exact hb rfl
end
structure Un (fs ex:M') (H H':Hp) (h h':zx):Prop where
 keep:∀b o,h.get? b=ak o->H b=f'->b∉fs->b∉ex->h'.get? b=ak o
 slot:∀b o,h.get? b=ak o->H b=f'->b∈fs->b∉ex->∃sl,h'.get? b=ak {o with slots:=sl}
 free:∀b o,h.get? b=ak o->H b=f'->b∉ex->H' b=f'
 there:∀b o,h.get? b=ak o->b∉ex->∃o',h'.get? b=ak o'
 tups:∀b xs,H b=ak @ax->H' b=ak @ax
 frzs:∀b o u,H b=ak (.frz o u)->H' b=ak (.frz o u)
 tbls:∀b ps,H b=ak (.tbl ps)->∃more,H' b=ak (.tbl (ps++more))
section
variable {fs fs' ex ex':M'} {H H1 H2:Hp} {h h1 h2 h':zx} {a x e:ee} {o:HO}
theorem Un.any (u:Un fs ex H H1 h h1) {b:ee} {ob:Zs} (q:h.get? b=ak ob) (n:H b=f') (hx:b∉ex):∃L,h1.get? b=ak {ob with slots:=L}:=by
 by_cases hb:b∈fs
 ·exact u.slot b ob q n hb hx
 ·exact⟨ob.slots,u.keep b ob q n hb hx⟩
theorem Un.kept (k:∀b u,h.get? b=ak u->h'.get? b=ak u):Un fs ex H H h h':=
 ⟨λb ob q _ _ _=>k b ob q,λb ob q _ _ _=>⟨ob.slots,k b ob q⟩,λ_ _ _ n _=>n,λb ob q _=>⟨ob,k b ob q⟩,λ_ _ q=>q,λ_ _ _ q=>q,λ_ ps q=>⟨#[],by rw[q];simp⟩⟩
theorem Un.refl:Un fs ex H H h h:=Un.kept λ_ _ q=>q
theorem Un.laid (k:∀b u,h.get? b=ak u->h'.get? b=ak u) (G:h.objs.size<=a) (hn:H a=f'):Un fs ex H (!Y a o) h h' where
 keep:=λb u q _ _ _=>k b u q
 slot:=λb u q _ _ _=>⟨u.slots,k b u q⟩
 free:=λb u q n _=>by rw[aH (u' (fy (ib q) G))];exact n
 there:=λb u q _=>⟨u,k b u q⟩
 tups:=λb xs q=>by rw[aH (aj q hn)];exact q
 frzs:=λb u xs q=>by rw[aH (aj q hn)];exact q
 tbls:=λb ps q=>⟨#[],by rw[aH (aj q hn),q];simp⟩
theorem Un.write (L:Mut (H x)) (he:e=x∨H e=ak (.own x)) (k:∀b u,b≠e->h.get? b=ak u->h'.get? b=ak u) (ζ:∃u,h'.get? e=ak u):Un fs ex H (!Y x o) h h':=by
 have O:∀b,H b=f'->b≠x:=λb n z=>by subst z;rw[n] at L;exact L
 have hb:∀b,H b=f'->b≠e:=λb n z=>by
  subst z;rcases he with r | r
  ·exact O b n r
  ·rw[n] at r;cases r
 have hm:∀b u,H b=ak u->¬Mut (ak u)->b≠x:=λb u q nm z=>by subst z;rw[q] at L;exact nm L
 refine⟨λb u q n _ _=>k b u (hb b n) q,λb u q n _ _=>⟨u.slots,k b u (hb b n) q⟩,λb u q n _=>by rw[aH (O b n)];exact n,λb u q _=>?_,
  λb xs q=>by rw[aH (hm b _ q λz=>z)];exact q,λb u xs q=>by rw[aH (hm b _ q λz=>z)];exact q,λb ps q=>⟨#[],by rw[aH (hm b _ q λz=>z),q];simp⟩⟩
 by_cases G:b=e
 ·subst G;exact ζ
 ·exact⟨u,k b u G q⟩
end
noncomputable def trk (h:zx) (H:Hp):M':=(kv h.objs.size).filter λa=>(H a).isSome
noncomputable def hidT (h:zx) (H:Hp):Heap:=PySem.W.hideAll h (trk h H)
theorem Kj (h:zx) (H:Hp):(hidT h H).objs.size=h.objs.size:=PySem.W.hideAll_size _ _
theorem M3 {h:zx} {H:Hp} {b:ee} {o:Zs} (e:h.get? b=ak o) (n:H b=f'):(hidT h H).get? b=ak o:=
 PySem.W.hideAll_get _ e λhm=>by
  have q:(H b).isSome=true:=(UQ.mp hm).2;rw[n] at q;simp at q
theorem P6 {h:zx} {H:Hp} {b:ee} {o:Zs} (e:(hidT h H).get? b=ak o):h.get? b=ak o/\H b=none:=by
 have G:h.get? b=ak o:=PySem.W.of_hideAll (trk h H) e;refine⟨G,?_⟩;cases q:H b with
 | none=>rfl
 | some x=>
   have hm:b∈trk h H:=UQ.mpr ⟨wh.mpr (ib G),by simp[q]⟩;have z:(hidT h H).get? b=none:=PySem.W.hideAll_none (trk h H) hm;rw[z] at e;cases e
noncomputable def Qy (g h:zx) (L:ee):Dn:=(kv h.objs.size).filterMap λa=>if a=L∨(g.get? a).isSome=true then f' else (h.get? a).map λo=>(a,o)
noncomputable def rest (g h:zx) (L d:ee):Dn:=(Qy g h L).filter λp=>decide (p.1≠d)
structure Mod (K:b') (mg:F') (base:zx):Prop where
 kin:K.In base
 glob:base.Ns z5 mg
 blt:∃mb,base.Ns builtinsNs mb/\∀x:lA,x≠"__name__"->mb x=bootBuiltins x
 nolimit:base.NoLimit
structure Cx where
 prog:pT
 w:z0
 K:b'
 mg:F'
 base:zx
 A:xY
 N:C'
 s₀:kb
 H₀:Hp
 env:Env
 outer:eS Env
 stack:eS Env
 ex:M'
 fn:R'
 calm:US
 pn:Dn
 xe:D'
noncomputable def frs (l:@aG):M':=l.filterMap (·.frame)
noncomputable abbrev Cx.fs (X:Cx):M':=frs X.outer
def Vis (G:Wf) (x:lA):Prop:=G.names.lookup x=ak .local∨G.names.lookup x=ak .cell∨G.names.lookup x=ak .free
def Loc (G:Wf) (x:lA):Prop:=G.names.lookup x=ak .local∨G.names.lookup x=ak .cell
def Look (env:Env) (h:zx) (m:F') (x:lA) (u:kk):Prop:=
 (env.kindOf x=ak .local/\m x=ak u)∨((env.kindOf x=ak .cell∨env.kindOf x=ak .free)/\∃c,env.cells.lookup x=ak c/\h.IsCell c (ak u))
structure Cx.Ok (X:Cx):Prop where
 mod:Mod X.K X.mg X.base
 kind:X.env.scope.kind= .function
 glob:X.env.globals=z5
 blt:X.env.builtins=builtinsNs
 above:X.s₀.heap.objs.size<=X.env.locals
 inj:∀x y c,X.env.cells.lookup x=ak c->X.env.cells.lookup y=ak c->x=y
 has:∀x,(X.env.kindOf x=ak .cell∨X.env.kindOf x=ak .free)->∃c,X.env.cells.lookup x=ak c
 cab:∀x c,X.fn x=true->X.env.cells.lookup x=ak c->X.s₀.heap.objs.size<=c
 hd:X.calm=true->X.A.handled=f'
 frames:X.A.frames=ak X.stack
 stk:X.stack=X.outer∨(X.stack=X.env::X.outer/\X.env.frame=ak X.env.locals)
 exf:∀b∈X.ex,b≠X.env.locals/\∀x c,X.env.cells.lookup x=ak c->c≠b
 bs:∀b o,X.base.get? b=ak o->X.s₀.heap.get? b=ak o/\X.H₀ b=f'
 bsz:X.base.objs.size<=X.s₀.heap.objs.size
 noex:∀b o,X.base.get? b=ak o->b∉X.ex
 exfs:∀b∈X.ex,b∉X.fs
 funs:X.s₀.heap.FunFrames X.base X.outer
 frf:∀b∈X.fs,X.H₀ b=f'
structure Inv (X:Cx) (pins:Dn) (σ:eS (qE V)) (H:Hp) (s:kb):Prop where
 ok:X.Ok
 os:s.os=X.s₀.os
 bare:AllBare s.gens
 base:Un X.fs X.ex X.H₀ H X.s₀.heap s.heap
 loc:∃m,s.heap.Ns X.env.locals m/\∀(i:Nat) (x:lA) (v:V),X.N[i]? =ak x->σ[i]? =ak @aC->Vis X.env.scope x->∃u,RelV v u/\Look X.env s.heap m x u
 cell:∀x c,X.env.cells.lookup x=ak c->∃v,s.heap.IsCell c v
 free:H X.env.locals=f'
 freeC:∀x c,X.env.cells.lookup x=ak c->H c=f'
 pin:∀p∈X.pn++pins,s.heap.get? p.1=ak p.2/\H p.1=f'/\p.1≠X.env.locals/\p.1∉X.fs/\∀v,p.2.data≠.cell v
 hok:HOk X.prog X.w H s.heap
 len:σ.length=X.N.length
section
variable {X:Cx} {pins:Dn} {σ:eS (qE V)} {H H':Hp} {s:kb} {h':zx}
theorem Cx.Ok.nofr (ok:X.Ok) {b:ee} {o:Zs} (e:X.base.get? b=ak o):b∉X.fs:=λhb=>by
 have:=(ok.funs.mem hb).1;rw[e] at this;cases this
theorem Inv.bs (I:@N):∀b o,X.base.get? b=ak o->s.heap.get? b=ak o/\H b=none:=λb o e=>
 ⟨I.base.keep b o (I.ok.bs b o e).1 (I.ok.bs b o e).2 (I.ok.nofr e) (I.ok.noex b o e),I.base.free b o (I.ok.bs b o e).1 (I.ok.bs b o e).2 (I.ok.noex b o e)⟩
theorem Inv.bk (I:@N):∀b o,X.base.get? b=ak o->s.heap.get? b=ak o:=λb o e=>(I.bs b o e).1
theorem Inv.mod (I:@N):Mod X.K X.mg X.base:=I.ok.mod
theorem Inv.kIn (I:@N):X.K.In s.heap:=I.ok.mod.kin.keeps I.bk
theorem Inv.lt (I:@N):X.env.locals < s.heap.objs.size:=let ⟨_,hn,_⟩:=I.loc;hn.lt
theorem Inv.sz (I:@N):X.s₀.heap.objs.size<=s.heap.objs.size:=Vs I.ok.above (Vw I.lt)
theorem Inv.nofs (I:@N) {a:ee} (h:@d6):a∉X.fs:=λhb=>by
 obtain⟨_,o,ho,_⟩:=I.ok.funs.mem hb;exact hF (fy (ib ho) (Vs I.sz h)) (VJ _)
theorem Inv.cne (I:@N):∀x c,X.env.cells.lookup x=ak c->c≠X.env.locals:=λx c e z=>by
 obtain⟨v,o,ho,hd⟩:=I.cell x c e;obtain⟨m,⟨o',es,ep,ι,γ,_⟩,_⟩:=I.loc;rw[z,ι] at ho;cases ho;rw[γ] at hd;cases hd
theorem Inv.funs (I:@N):s.heap.FunFrames X.base X.outer:=by
 have all:∀(l:@aG),(∀b∈frs l,b∈X.fs)->X.s₀.heap.FunFrames X.base l->s.heap.FunFrames X.base l:=by
  intro l
  induction l with
  | nil=>intro _ _;trivial
  | cons env r ih=>
    intro hs hl;obtain⟨hk,⟨L,o,hf,hn,ho,hd⟩,G⟩:=hl;have υ:L∈X.fs:=hs L (by unfold frs;rw[Yx,hf];exact j');obtain⟨O,e⟩:=I.base.slot L o ho (I.ok.frf L υ) υ λz=>I.ok.exfs L z υ;exact⟨hk,⟨L,_,hf,hn,e,hd⟩,ih (λb hb=>hs b (by unfold frs;rw[Yx,hf];exact ik _ hb)) G⟩
 exact all X.outer (λ_ hb=>hb) I.ok.funs
theorem Inv.stack (I:@N):s.heap.FunFrames X.base X.stack:=by
 rcases I.ok.stk with e | ⟨e,hf⟩
 ·rw[e];exact I.funs
 ·rw[e];obtain⟨m,hn,_⟩:=I.loc;refine .cons (by rw[I.ok.kind];decide) hf hn ?_ I.funs;exact Xf (Vs I.ok.bsz I.ok.above)
theorem Inv.stkSub (I:@N):∀b∈frs X.stack,b∈X.env.locals::X.fs:=λb hb=>by
 rcases I.ok.stk with e | ⟨e,hf⟩
 ·rw[e] at hb;exact ik _ hb
 ·rw[e] at hb;unfold frs at hb;rw[Yx,hf] at hb;exact hb
theorem Inv.stkFree (I:@N):∀b∈frs X.stack,H b=none:=λb hb=>by
 rcases qq.mp (I.stkSub b hb) with e | hb
 ·rw[e];exact I.free
 ·obtain⟨_,o,ho,_⟩:=I.ok.funs.mem hb;exact I.base.free b o ho (I.ok.frf b hb) λz=>I.ok.exfs b z hb
theorem Inv.step {g':ae6 GenState} {t':Nat} {d':Drawn} {ch:M'} (I:@N)
  (Z:∀b∈ch,@cQ/\b≠X.env.locals/\(∀x c,X.env.cells.lookup x=ak c->c≠b)/\∀p∈X.pn++pins,p.1≠b)
  (keep:∀b o,b≠X.env.locals->b∉X.fs->b∉ch->s.heap.get? b=ak o->H b=f'->h'.get? b=ak o)
  (slot:∀b o,b≠X.env.locals->b∈X.fs->b∉ch->s.heap.get? b=ak o->H b=f'->∃L,h'.get? b=ak {o with slots:=L}) (free:∀b o,b∉ch->s.heap.get? b=ak o->H b=f'->H' b=f')
  (there:∀b o,b∉ch->s.heap.get? b=ak o->∃o',h'.get? b=ak o')
  (tups:∀b xs,H b=ak @ax->H' b=ak @ax) (frzs:∀b o u,H b=ak (.frz o u)->H' b=ak (.frz o u)) (tbls:∀b ps,H b=ak (.tbl ps)->∃more,H' b=ak (.tbl (ps++more)))
  (ns:∀m,s.heap.Ns X.env.locals m->h'.Ns X.env.locals m) (hok:HOk X.prog X.w H' h') (ν:AllBare g'):
  Inv X pins σ H' {s with heap:=h',gens:=g',drawn:=d',toks:=t'}:=by
 have γ:∀b o,X.s₀.heap.get? b=ak o->b≠X.env.locals:=λb o e=>u' (fy @aH I.ok.above)
 have Y:∀b o,X.s₀.heap.get? b=ak o->b∉X.ex->b∉ch:=λb o e G hb=>by
  rcases(Z b hb).1 with z | z
  ·exact G z
  ·exact hF (fy @aH z) (VJ _)
 have α:∀x c,X.env.cells.lookup x=ak c->∀v,s.heap.IsCell c v->h'.IsCell c v:=λx c e v ⟨o,ho,hd⟩=>by
  have O:c∉ch:=λz=>(Z c z).2.2.1 x c e rfl;by_cases η:c∈X.fs
  ·obtain⟨L,q⟩:=slot c o (I.cne x c e) η O ho (I.freeC x c e);exact⟨_,q,hd⟩
  ·exact⟨o,keep c o (I.cne x c e) η O ho (I.freeC x c e),hd⟩
 refine⟨I.ok,I.os,ν,⟨λb o e n hb G=>?_,λb o e n hb G=>?_,λb o e n G=>?_,λb o e G=>?_,λb xs e=>tups b xs (I.base.tups b xs e),λb o xs e=>frzs b o xs (I.base.frzs b o xs e),λb ps e=>?_⟩,?_,λx c e=>?_,?_,λx c e=>?_,λp ζ=>?_,hok,I.len⟩
 ·exact keep b o (γ b o e) hb (Y b o e G) (I.base.keep b o e n hb G) (I.base.free b o e n G)
 ·obtain⟨L,β⟩:=I.base.slot b o e n hb G;obtain⟨ο,δ⟩:=slot b _ (γ b o e) hb (Y b o e G) β (I.base.free b o e n G);exact⟨ο,δ⟩
 ·obtain⟨o',β⟩:=I.base.there b o e G;exact free b o' (Y b o e G) β (I.base.free b o e n G)
 ·obtain⟨o',β⟩:=I.base.there b o e G;exact there b o' (Y b o e G) β
 ·obtain⟨ι,β⟩:=I.base.tbls b ps e;obtain⟨θ,δ⟩:=tbls b _ β;exact⟨ι++θ,by rw[δ,Array.append_assoc]⟩
 ·obtain⟨m,hn,hl⟩:=I.loc;refine⟨m,ns m hn,λi x v β δ ξ=>?_⟩;obtain⟨u,r,l⟩:=hl i x v β δ ξ;refine⟨u,r,?_⟩;rcases l with l | ⟨k,c,e,z⟩
  ·exact !J l
  ·exact !F ⟨k,c,e,α x c e _ z⟩
 ·obtain⟨v,z⟩:=I.cell x c e;exact⟨v,α x c e v z⟩
 ·obtain⟨m,⟨o,_,_,ho,_⟩,_⟩:=I.loc;exact free _ o (λz=>(Z _ z).2.1 rfl) ho I.free
 ·obtain⟨v,o,ho,hd⟩:=I.cell x c e;exact free c o (λz=>(Z c z).2.2.1 x c e rfl) ho (I.freeC x c e)
 ·obtain⟨e,n,ne,ε,d⟩:=I.pin p ζ;have O:p.1∉ch:=λz=>(Z p.1 z).2.2.2 p ζ rfl;exact⟨keep p.1 p.2 ne ε O e n,free p.1 p.2 O e n,ne,ε,d⟩
theorem Inv.un {t':Nat} (I:@N) (u:Un X.fs [] H H' s.heap h') (hok:HOk X.prog X.w H' h'):Inv X pins σ H' {s with heap:=h',toks:=t'}:=by
 obtain⟨m,⟨o,es,ep,ho,r⟩,_⟩:=id I.loc;obtain⟨L,υ⟩:=u.any ho I.free @C
 exact I.step (g':=s.gens) (d':=s.drawn) (ch:=[]) (λ_ z=>nomatch z) (λb o _ hb _ e n=>u.keep b o e n hb @C) (λb o _ hb _ e n=>u.slot b o e n hb @C) (λb o _ e n=>u.free b o e n @C) (λb o _ e=>u.there b o e @C) u.tups u.frzs u.tbls (fun ν hm=>by
  obtain⟨o',G,O,ι,r'⟩:=hm;rw[ho] at ι;cases ι;exact⟨_,G,O,υ,r'⟩) hok I.bare
theorem Inv.call {g':ae6 GenState} {t':Nat} {d':Drawn} {ch:M'} (I:@N) (u:Un (frs X.stack) ch H H' s.heap h') (hok:HOk X.prog X.w H' h') (α:AllBare g')
  (O:∀b∈ch,@cQ/\b≠X.env.locals/\(∀x c,X.env.cells.lookup x=ak c->c≠b)/\∀p∈X.pn++pins,p.1≠b):
  Inv X pins σ H' {s with heap:=h',gens:=g',drawn:=d',toks:=t'}:=by
 obtain⟨m,⟨o,es,ep,ho,r⟩,_⟩:=id I.loc;obtain⟨L,υ⟩:=u.any ho I.free λz=>(O _ z).2.1 rfl
 exact I.step (ch:=ch) O (λb o υ hb G e n=>u.keep b o e n (λz=>(qq.mp (I.stkSub b z)).elim υ hb) G) (λb o _ _ G e n=>u.any e n G) (λb o G e n=>u.free b o e n G) (λb o G e=>u.there b o e G) u.tups u.frzs u.tbls (fun ν hm=>by
  obtain⟨o',Y,Z,ι,r'⟩:=hm;rw[ho] at ι;cases ι;exact⟨_,Y,Z,υ,r'⟩) hok α
theorem Inv.turned {t':Nat} {G:ee} (I:@N) (k:∀b o,b≠G->s.heap.get? b=ak o->h'.get? b=ak o) (hn:H G=f') (υ:G≠X.env.locals)
  (h1:G∈X.ex∨X.s₀.heap.objs.size<=G) (h2:∀x c,X.env.cells.lookup x=ak c->c≠G) (O:∀p∈X.pn++pins,p.1≠G):Inv X pins σ H {s with heap:=h',toks:=t'}:=by
 have β:∀b u,H b=ak u->b≠G:=λb u e z=>by rw[z,hn] at e;cases e
 refine I.step (g':=s.gens) (d':=s.drawn) (ch:=[G]) (λb hb=>?_) (λb o _ _ L e _=>k b o (λz=>L (by simp[z])) e) (λb o _ _ L e _=>⟨o.slots,k b o (λz=>L (by simp[z])) e⟩) (λ_ _ _ _ n=>n)
  (λb o L e=>⟨o,k b o (λz=>L (by simp[z])) e⟩) (λ_ _ e=>e) (λ_ _ _ e=>e) (λb ps e=>⟨#[],by rw[e];simp⟩) (λm hm=>?_) (λb u e=>?_) I.bare
 ·have e:b=G:=by simpa using hb
  subst e;exact⟨h1,υ,h2,O⟩
 ·obtain⟨o,es,ep,ho,r⟩:=hm;exact⟨o,es,ep,k _ o (ro υ) ho,r⟩
 ·refine(I.hok b u e).stay (λc v L q=>k c v ?_ q) (λ_ q=>q) λ_ _ q=>q;rcases L with z | z
  ·rw[z];exact β b u e
  ·exact β c _ z
theorem Inv.tok (I:@N) (t:Nat):Inv X pins σ H {s with toks:=t}:=I.un (h':=s.heap) (t':=t) Un.refl I.hok
theorem Inv.kept {t':Nat} (I:@N) (k:∀b u,s.heap.get? b=ak u->h'.get? b=ak u):Inv X pins σ H {s with heap:=h',toks:=t'}:=I.un (Un.kept k) (I.hok.kept k)
theorem Inv.laid {a:ee} {o:HO} {t':Nat} (I:@N) (k:∀b u,s.heap.get? b=ak u->h'.get? b=ak u) (L:@d6) (G:ip X.prog X.w (!Y a o) h' a o):
  Inv X pins σ (!Y a o) {s with heap:=h',toks:=t'}:=I.un (Un.laid k L (I.hok.fresh L)) (I.hok.laid k L G)
theorem Inv.write {x e:ee} {o:HO} {t':Nat} (I:@N) (L:Mut (H x)) (he:e=x∨H e=ak (.own x)) (k:∀b u,b≠e->s.heap.get? b=ak u->h'.get? b=ak u) (ζ:∃u,h'.get? e=ak u)
  (G:ip X.prog X.w (!Y x o) h' x o):Inv X pins σ (!Y x o) {s with heap:=h',toks:=t'}:=I.un (Un.write L he k ζ) (I.hok.write L he k ζ G)
theorem Inv.weak {σ':eS (qE V)} (I:@N) (hl:σ'.length=σ.length) (w:∀(i:Nat) v,σ'[i]? =ak @aC->σ[i]? =ak @aC):Inv X pins σ' H s:=
 ⟨I.ok,I.os,I.bare,I.base,let ⟨m,hn,γ⟩:=I.loc;⟨m,hn,λi x v O L G=>γ i x v O (w i v L) G⟩,I.cell,I.free,I.freeC,I.pin,I.hok,hl.trans I.len⟩
theorem Inv.pins_of {G:Dn} (I:@N) (h:∀p∈G,s.heap.get? p.1=ak p.2/\H p.1=f'/\p.1≠X.env.locals/\p.1∉X.fs/\∀v,p.2.data≠.cell v):Inv X G σ H s:=
 ⟨I.ok,I.os,I.bare,I.base,I.loc,I.cell,I.free,I.freeC,λp L=>(gz.mp L).elim (λz=>I.pin p (!N z)) (h p),I.hok,I.len⟩
theorem Fj {N:C'} (γ:N.Nodup) {i j:Nat} {x:lA} (a:N[i]? =ak x) (b:N[j]? =ak x):i=j:=by
 obtain⟨h1,L⟩:=a'.mp a;obtain⟨h2,G⟩:=a'.mp b;exact(List.getElem_inj γ).mp (L.trans G.symm)
theorem Bi {M:Model} {A:xY} {E:D'} {i:Nat} {x:lA} {v:V} {u:kk} {Q:L'} (I:@N) (γ:X.N.Nodup) (hi:X.N[i]? =ak x) (hx:Loc X.env.scope x) (r:!aG v)
  (h:∀s',Inv X pins (σ.set i @aC) H s'->(∃a,Xm a s.heap s'.heap/\(a=X.env.locals∨X.env.cells.lookup x=ak a))->Q () s') (hf:X.fn x=true∨X.env.scope.names.lookup x=ak .local:=by first | exact .inl rfl | exact .inr rfl | assumption):lT M A (storeName X.env x u) Q E s:=by
 obtain⟨m,hn,hl⟩:=id I.loc;have ο:(X.env.scope.kind == .class||(X.env.scope.kind == .module&&X.env.locals != X.env.globals))=false:=by rw[I.ok.kind];rfl
 have O:i < σ.length:=by rw[I.len];exact(!M hi).1
 have cne:=I.cne
 have δ:∀{a:ee} {h':zx},(∃o,s.heap.get? a=ak o/\H a=f')->Xm a s.heap h'->HOk X.prog X.w H h':=λ{a h'} ha hs b ob e=>by
  obtain⟨_,_,G⟩:=ha;refine(I.hok b ob e).stay (λc τ hc q=>(hs.2 c ?_).trans q) (λ_ q=>q) λ_ _ q=>q;rintro rfl;rcases hc with rfl | hc
  ·rw[G] at e;cases e
  ·rw[G] at hc;cases hc
 rcases hx with hk | hk
 ·refine wpAny_storeName_local hk hn (λh' θ hs=>?_) ο;obtain⟨ε,_,_,ω,_⟩:=id hn;refine h _ ⟨I.ok,I.os,I.bare,⟨λb o e n hb hx=>?_,λb o e n hb hx=>?_,I.base.free,λb o e hx=>?_,I.base.tups,I.base.frzs,I.base.tbls⟩,⟨_,θ,λj y φ Z α e3=>?_⟩,λy c e=>?_,I.free,I.freeC,λp ψ=>?_,δ ⟨ε,ω,I.free⟩ hs,by simpa using I.len⟩ ⟨_,hs,.inl rfl⟩
  ·exact(hs.2 b (u' (fy @aH I.ok.above))).trans (I.base.keep b o e n hb hx)
  ·obtain⟨L,Z⟩:=I.base.slot b o e n hb hx;exact⟨L,(hs.2 b (u' (fy @aH I.ok.above))).trans Z⟩
  ·obtain⟨o',Z⟩:=I.base.there b o e hx;exact⟨o',(hs.2 b (u' (fy @aH I.ok.above))).trans Z⟩
  ·by_cases ζ:j=i
   ·subst ζ;rw[hi] at Z;cases Z;rw[Y7 O] at α;cases α;exact⟨u,r,!J ⟨hk,by simp⟩⟩
   ·rw[Yi (ro ζ)] at α;obtain⟨η,r',q⟩:=hl j y φ Z α e3;refine⟨η,r',?_⟩;rcases q with ⟨k,e⟩ | ⟨k,c,e,z⟩
    ·refine !J ⟨k,?_⟩;have:y≠x:=λe=>ζ (Fj γ Z (e ▸ hi));simp[this,e]
    ·exact !F ⟨k,c,e,z.sameBut hs (cne y c e)⟩
  ·obtain⟨τ,z⟩:=I.cell y c e;exact⟨τ,z.sameBut hs (cne y c e)⟩
  ·obtain⟨e,n,ne,χ,d⟩:=I.pin p ψ;exact⟨(hs.2 p.1 ne).trans e,n,ne,χ,d⟩
 ·have ι:X.fn x=true:=by
   rcases hf with z | z
   ·exact z
   ·rw[z] at hk;cases hk
  obtain⟨c,hc⟩:=I.ok.has x (!J hk);obtain⟨τ,z⟩:=I.cell x c hc;refine wpAny_storeName_cell I.ok.kind hk hc z (λh' ρ hs=>?_);obtain⟨oc,ξ,ν⟩:=id z;refine h {s with heap:=h'} ⟨I.ok,I.os,I.bare,⟨λb o e n hb hx=>?_,λb o e n hb hx=>?_,I.base.free,λb o e hx=>?_,I.base.tups,I.base.frzs,I.base.tbls⟩,⟨m,hn.sameBut hs (ro (cne x c hc)),λj y φ Z α e3=>?_⟩,λy υ e=>?_,I.free,I.freeC,λp ψ=>?_,δ ⟨oc,ξ,I.freeC x c hc⟩ hs,by simpa using I.len⟩ ⟨c,hs,.inr hc⟩
  ·exact(hs.2 b (u' (fy @aH (I.ok.cab x c ι hc)))).trans (I.base.keep b o e n hb hx)
  ·obtain⟨L,Z⟩:=I.base.slot b o e n hb hx;exact⟨L,(hs.2 b (u' (fy @aH (I.ok.cab x c ι hc)))).trans Z⟩
  ·obtain⟨o',Z⟩:=I.base.there b o e hx;exact⟨o',(hs.2 b (u' (fy @aH (I.ok.cab x c ι hc)))).trans Z⟩
  ·by_cases ζ:j=i
   ·subst ζ;rw[hi] at Z;cases Z;rw[Y7 O] at α;cases α;exact⟨u,r,!F ⟨.inl hk,c,hc,ρ⟩⟩
   ·rw[Yi (ro ζ)] at α;obtain⟨η,r',q⟩:=hl j y φ Z α e3;refine⟨η,r',?_⟩;rcases q with q | ⟨k,υ,e,z'⟩
    ·exact !J q
    ·refine !F ⟨k,υ,e,z'.sameBut hs ?_⟩;rintro rfl;exact ζ (Fj γ Z (I.ok.inj _ _ _ e hc ▸ hi))
  ·by_cases π:υ=c
   ·subst π;exact⟨_,ρ⟩
   ·obtain⟨Y,z2⟩:=I.cell y υ e;exact⟨Y,z2.sameBut hs π⟩
  ·obtain⟨e,n,ne,χ,d⟩:=I.pin p ψ;refine⟨(hs.2 p.1 ?_).trans e,n,ne,χ,d⟩;intro q;rw[q,ξ] at e;have β:oc=p.2:=ry e;exact d τ (by rw[<-β];exact ν)
theorem EX {M:Model} {A:xY} {E:D'} {i:Nat} {x:lA} {v:V} {u:kk} {Q:L'} (I:@N) (γ:X.N.Nodup) (hi:X.N[i]? =ak x) (hx:Loc X.env.scope x) (r:!aG v)
  (h:∀s',Inv X pins (σ.set i @aC) H s'->Q () s') (hf:X.fn x=true∨X.env.scope.names.lookup x=ak .local:=by first | exact .inl rfl | exact .inr rfl | assumption):lT M A (storeName X.env x u) Q E s:=
 Bi I γ hi hx r (λs' G _=>h s' G) hf
theorem Inv.call' {s':kb} {ch:M'} (I:@N) (ho:s'.os=s.os) (u:Un (frs X.stack) ch H H' s.heap s'.heap) (hok:HOk X.prog X.w H' s'.heap) (L:AllBare s'.gens)
  (G:∀b∈ch,@cQ/\b≠X.env.locals/\(∀x c,X.env.cells.lookup x=ak c->c≠b)/\∀p∈X.pn++pins,p.1≠b):!bS X H' s':=by
 obtain⟨h',g',d',t',o'⟩:=s';have e:o'=s.os:=ho;subst e;exact I.call (g':=g') (t':=t') (d':=d') u hok L G
end
noncomputable abbrev XK:=kk->Q'->Hp->Prop
noncomputable abbrev St:=eS (qE V)
noncomputable abbrev VK:=V->Hp->Prop
noncomputable abbrev TE:=St->Hp->VK->Prop
noncomputable abbrev TT:=St->Hp->(US->Hp->Prop)->Prop
noncomputable abbrev TA:=St->Hp->(eS V->Hp->Prop)->Prop
structure Ends where
 nx:St->Hp->Prop
 rt:VK
 bk:St->Hp->Prop:=λ_ _=>False
 ct:St->Hp->Prop:=λ_ _=>False
noncomputable abbrev TS:=Ends->St->Hp->Prop
def EP (X:Cx) (pins:Dn) (σ:St) (Q:VK) (u:kk) (s':kb):Prop:=∃v H',Inv X pins σ H' s'/\RelV v u/\Q v H'
def TP (X:Cx) (pins:Dn) (σ:St) (Q:US->Hp->Prop) (b:US) (s':kb):Prop:=∃H',Inv X pins σ H' s'/\Q b H'
def AP (X:Cx) (pins:Dn) (σ:St) (Q:eS V->Hp->Prop) (us:E') (s':kb):Prop:=∃vs H',Inv X pins σ H' s'/\Vals vs us/\Q vs H'
def SP (X:Cx) (pins:Dn) (D:Ends) (f:Flow) (s':kb):Prop:=
 match f with
 | .next=>∃σ' H',Inv X pins σ' H' s'/\D.nx σ' H'
 | .brk=>∃σ' H',Inv X pins σ' H' s'/\D.bk σ' H'
 | .cont=>∃σ' H',Inv X pins σ' H' s'/\D.ct σ' H'
 | .ret u=>∃v σ' H',Inv X pins σ' H' s'/\RelV v u/\D.rt v H'
def PE (X:Cx) (e:xo) (t:TE):Prop:=
 ∀(pins:Dn) (s:kb) (σ:St) (H:Hp) (Q:VK),Inv X pins σ H s->t σ H Q->lT @T X.A (!az e) (EP X pins σ Q) X.xe s
def PT (X:Cx) (e:xo) (t:TT):Prop:=
 ∀(pins:Dn) (s:kb) (σ:St) (H:Hp) (Q:US->Hp->Prop),Inv X pins σ H s->t σ H Q->lT @T X.A (isTrue e X.env (!az e)) (TP X pins σ Q) X.xe s
def PW (X:Cx) (e:xo) (t:TT):Prop:=
 ∀(G:Sem kk) (pins:Dn) (s:kb) (σ:St) (H:Hp) (Q:US->Hp->Prop),Inv X pins σ H s->t σ H Q->lT @T X.A (isTrue e X.env G) (TP X pins σ Q) X.xe s
theorem PW.pt {X:Cx} {e:xo} {t:TT} (h:PW X e t):PT X e t:=h _
def PA (X:Cx) (es:eS xo) (t:TA):Prop:=
 ∀(pos:Pos) (pins:Dn) (s:kb) (σ:St) (H:Hp) (Q:eS V->Hp->Prop),Inv X pins σ H s->t σ H Q->lT @T X.A (spliced (!aE pos es)) (AP X pins σ Q) X.xe s
def PS (X:Cx) (st:WX) (t:TS):Prop:=
 ∀(pins:Dn) (s:kb) (σ:St) (H:Hp) (D:Ends),Inv X pins σ H s->t D σ H->lT @T X.A (exec st X.env) (SP X pins D) X.xe s
def PSs (X:Cx) (st:eS WX) (t:TS):Prop:=
 ∀(pins:Dn) (s:kb) (σ:St) (H:Hp) (D:Ends),Inv X pins σ H s->t D σ H->lT @T X.A (execs st X.env) (SP X pins D) X.xe s
theorem thn {α:Type} {t:Sem α} {Q ω:α->kb->Prop} {M:Model} {A:xY} {E:D'} {s:kb} (h:lT M A t Q E s) (G:∀a s,Q a s->ω a s):lT M A t ω E s:=WM h G λ_ _ x=>x
section
variable {X:Cx}
noncomputable def tVar (i:Nat):TE:=fun σ H Q=>∃v,σ[i]? =ak @aC/\Q v H
noncomputable abbrev tC (v:V):TE:=λ_ H Q=>Q v H
theorem R8 {i:Nat} {x:lA} {pos:Pos} (γ:X.N[i]? =ak x) (Y:Vis X.env.scope x) (hd:(x == ("__debug__":lA))=false:=by decide) (L:(x == ("__classdict__":lA))=false:=by decide):!E (!b2 pos) (tVar i):=by
 intro pins s σ H Q I h;obtain⟨v,e,h⟩:=h;obtain⟨m,hn,hl⟩:=I.loc;obtain⟨u,r,l⟩:=hl i x v γ e Y;have fin:EP X pins σ Q u s:=⟨v,H,I,r,h⟩;rcases l with ⟨hk,hm⟩ | ⟨hk,c,O,G⟩
 ·exact ag5 (wpAny_loadName_local I.ok.kind hk hn hm fin) hd
 ·rcases hk with hk | hk
  ·exact ag5 (wpAny_loadName_cell I.ok.kind hk O G fin) hd
  ·exact ag5 (wpAny_loadName_free I.ok.kind hk O G fin L) hd
theorem ah {i j pos}:!E (.Constant @bg j pos) (tC @bg):=λ_ _ _ H _ I h=>wpAny_Constant_int ⟨@bg,H,@bh,⟨_,rfl⟩,h⟩
theorem DK {b j pos}:!E (.Constant (.bool b) j pos) (tC (.bl b)):=λ_ _ _ H _ I h=>Constant_bool ⟨.bl b,H,I,rfl,h⟩
theorem N8 {j pos}:!E (.Constant .none j pos) (tC .non):=λ_ _ _ H _ I h=>Constant_none ⟨.non,H,I,rfl,h⟩
theorem bc {x j pos}:!E (.Constant (.str x) j pos) (tC (.str x)):=λ_ _ _ H _ I h=>Calls.Constant_str ⟨.str x,H,@bh,⟨_,rfl⟩,h⟩
def Gl (X:Cx) (x:lA):Prop:=X.env.kindOf x=ak .globalImplicit
theorem xx {E:D'} {pins:Dn} {s:kb} {σ:St} {H:Hp} {x:lA} {u:kk} {pos:Pos} {Q:D'} (I:@N) (G:Gl X x) (hm:X.mg x=ak u) (h:Q u s)
  (hd:(x == ("__debug__":lA))=false:=by decide):lT @T X.A (!az (!b2 pos)) Q E s:=
 Zk I.ok.kind G (Calls.loadGlobal_global (by rw[I.ok.glob];exact I.mod.glob.keeps I.bk) hm h) hd
theorem nK {E:D'} {pins:Dn} {s:kb} {σ:St} {H:Hp} {x:lA} {u:kk} {pos:Pos} {Q:D'} (I:@N) (L:Gl X x) (hm:X.mg x=f') (G:bootBuiltins x=ak u) (h:Q u s)
  (hn:x≠"__name__":=by decide) (hd:(x == ("__debug__":lA))=false:=by decide):lT @T X.A (!az (!b2 pos)) Q E s:=by
 obtain⟨Z,h1,h2⟩:=I.mod.blt;exact Zk I.ok.kind L (Calls.loadGlobal_builtin (by rw[I.ok.glob];exact I.mod.glob.keeps I.bk) hm (by rw[I.ok.blt];exact h1.keeps I.bk) ((h2 x hn).trans G) h) hd
theorem kg {x:lA} {v:V} {u:kk} {pos:Pos} (G:Gl X x) (hm:X.mg x=ak u) (r:!aG v) (hd:(x == ("__debug__":lA))=false:=by decide):!E (!b2 pos) (tC v):=
 λ_ _ _ H _ I h=>xx I G hm ⟨v,H,I,r,h⟩ hd
theorem tH {x:lA} {v:V} {u:kk} {pos:Pos} (L:Gl X x) (hm:X.mg x=f') (G:bootBuiltins x=ak u) (r:!aG v) (hn:x≠"__name__":=by decide) (hd:(x == ("__debug__":lA))=false:=by decide):!E (!b2 pos) (tC v):=
 λ_ _ _ H _ I h=>nK I L hm G ⟨v,H,I,r,h⟩ hn hd
variable {a b:xo} {ta tb:TE} {pos:Pos}
def PC (X:Cx) (υ:CmpOp) (a b:xo) (t:TE):Prop:=
 ∀(pins:Dn) (s:kb) (σ:St) (H:Hp) (Q:VK),Inv X pins σ H s->t σ H Q->
  lT @T X.A (!az a) (λv G=>lT @T X.A (!az b) (λu Y=>lT @T X.A (compareOp υ v u) (EP X pins σ Q) X.xe Y) X.xe G) X.xe s
noncomputable abbrev tB (t:TE):TT:=fun σ H Q=>t σ H λx H1=>∃c,x= .bl c/\Q c H1
theorem Sb {υ:CmpOp} {t:TE} (h:PC X υ a b t) (h1:behindInMarks υ b=false:=by first | exact nobehind _ (by decide) (by decide) | rfl):!E (.Compare a [υ] [b] pos) t:=λpins s σ H Q I hw=>wpAny_Compare1 (h pins s σ H Q I hw) h1
theorem Fb {υ:CmpOp} {t:TE} (h:PC X υ a b t) (h1:behindInMarks υ b=false:=by first | exact nobehind _ (by decide) (by decide) | rfl):PT X (.Compare a [υ] [b] pos) (tB t):=by
 intro pins s σ H Q I hw;refine ad9 (thn (h pins s σ H _ I hw) λv Z h1=>thn h1 λu Y h2=>thn h2 λc O ⟨x,H1,L,ζ,G⟩=>?_) h1;obtain⟨d,rfl,q⟩:=G;cases ζ;exact W8 ⟨H1,L,q⟩
theorem gZ {e:xo} {t:TE} (h:!E e t) (he:∀L,isTrue e X.env L=(do let v <-L;standAt e.pos;holding [v] (truthy v)):=by intro _;rfl):PT X e (tB t):=by
 intro pins s σ H Q I hw;refine isTrue_plain (thn (h pins s σ H _ I hw) λv Y ⟨x,H1,O,ζ,G⟩=>?_) (he _);obtain⟨d,rfl,q⟩:=G;cases ζ;exact W8 ⟨H1,O,q⟩
variable {tA tB':TT} {rest:eS xo}
noncomputable abbrev tAnd (t u:TT):TT:=fun σ H Q=>t σ H λc H1=>if c=true then u σ H1 Q else Q false H1
noncomputable abbrev tOr (t u:TT):TT:=fun σ H Q=>t σ H λc H1=>if c=true then Q true H1 else u σ H1 Q
noncomputable abbrev tNot (t:TT):TT:=fun σ H Q=>t σ H λc H1=>Q (!c) H1
theorem Jq (ha:PT X a tA):PW X (!bw .And [a]) tA:=by
 intro ρ pins s σ H Q I h;refine isTrue_and (thn (ha pins s σ H Q I h) λc G e=>?_);cases c with
 | true=>exact isTrue_and_nil e
 | false=>exact e
theorem uz (ha:PT X a tA):PW X (!bw .Or [a]) tA:=by
 intro ρ pins s σ H Q I h;refine isTrue_or (thn (ha pins s σ H Q I h) λc G e=>?_);cases c with
 | false=>exact isTrue_or_nil e
 | true=>exact e
theorem N6 (ha:PT X a tA) (hb:PW X (!bw .And (b::rest)) tB'):PW X (!bw .And (a::b::rest)) (tAnd tA tB'):=by
 intro ρ pins s σ H Q I h;refine isTrue_and (thn (ha pins s σ H _ I h) λc O ⟨H1,L,G⟩=>?_);cases c with
 | true=>exact hb ρ pins O σ H1 Q L G
 | false=>exact⟨H1,L,G⟩
theorem uS (ha:PT X a tA) (hb:PW X (!bw .Or (b::rest)) tB'):PW X (!bw .Or (a::b::rest)) (tOr tA tB'):=by
 intro ρ pins s σ H Q I h;refine isTrue_or (thn (ha pins s σ H _ I h) λc O ⟨H1,L,G⟩=>?_);cases c with
 | true=>exact⟨H1,L,G⟩
 | false=>exact hb ρ pins O σ H1 Q L G
theorem j9 (ha:PT X a tA):PT X (.UnaryOp .Not a pos) (tNot tA):=by
 intro pins s σ H Q I h;exact isTrue_not (ha pins s σ H (λc H1=>Q (!c) H1) I h)
noncomputable abbrev T2 (ta tb:TE):TE:=fun σ H Q=>ta σ H λx H1=>∃c,x= .bl c/\if c=true then tb σ H1 Q else Q (.bl false) H1
noncomputable abbrev TY (ta:TE):TE:=fun σ H Q=>ta σ H λx H1=>∃c,x= .bl c/\Q (.bl (!c)) H1
theorem wA {op} {t:TE} (h:!E a t):!E (!bw op [a]) t:=λpins s σ H Q I hw=>BoolOp_one (h pins s σ H Q I hw)
theorem uB (ha:!E a ta) (hb:!E (!bw .And (b::rest)) tb):!E (!bw .And (a::b::rest)) (T2 ta tb):=by
 intro pins s σ H Q I h;refine BoolOp_and (thn (ha pins s σ H _ I h) λv O ⟨x,H1,L,ζ,G⟩=>?_);obtain⟨c,rfl,G⟩:=G;cases ζ;refine W8 ?_;cases c with
 | true=>exact hb pins O σ H1 Q L G
 | false=>exact⟨.bl false,H1,L,rfl,G⟩
theorem R9 (ha:!E a ta):!E (.UnaryOp .Not a pos) (TY ta):=by
 intro pins s σ H Q I h;refine UnaryOp_ (thn (ha pins s σ H _ I h) λv O ⟨x,H1,L,ζ,G⟩=>?_);obtain⟨c,rfl,G⟩:=G;cases ζ;exact not_of (W8 ⟨.bl (!c),H1,L,rfl,G⟩)
noncomputable abbrev tIf (t:TT) (ta tb:TE):TE:=fun σ H Q=>t σ H λc H1=>if c=true then ta σ H1 Q else tb σ H1 Q
theorem Fe {c:xo} (hc:PT X c tA) (ha:!E a ta) (hb:!E b tb):!E (.IfExp c a b pos) (tIf tA ta tb):=by
 intro pins s σ H Q I h;refine wpAny_IfExp (thn (hc pins s σ H _ I h) λd L ⟨H1,O,G⟩=>?_);cases d with
 | true=>exact ha pins L σ H1 Q O G
 | false=>exact hb pins L σ H1 Q O G
end
def SqL (K:b') (H:Hp) (a:ee) (xs:eS V):Prop:=
 Rd H a @al∨
  ∃(o:Zs) (its:G') (n:Nat),K.lookup a=ak o/\o.cls= .type "list"/\o.dict=f'/\o.data= .seq its n/\its.size<=kf/\Vals xs its.toList
def SqT (K:b') (H:Hp) (a:ee) (xs:eS V):Prop:=
 Rd H a @ax∨
  ∃(o:Zs) (its:G') (n:Nat),K.lookup a=ak o/\o.cls= .type "tuple"/\o.data= .seq its n/\its.size<=kf/\Vals xs its.toList
noncomputable def absV:kk->qE V
 | .none=>ak .non
 | .bool b=>ak (.bl b)
 | .int i _=>ak @bg
 | .str x _=>ak (.str x)
 | .bytes b _=>ak (.byt b)
 | .float b _=>ak (.flt b)
 | .ref a=>ak @aa
 | .type n=>ak (.ty n)
 | _=>f'
theorem RelV.abs {x:V} {u:kk} (r:!aG x):absV u=ak x:=by
 cases x with
 | non=>cases r;rfl
 | bl _=>cases r;rfl
 | int _=>obtain⟨t,rfl⟩:=r;rfl
 | str _=>obtain⟨t,rfl⟩:=r;rfl
 | byt _=>obtain⟨t,rfl⟩:=r;rfl
 | flt _=>obtain⟨t,rfl⟩:=r;rfl
 | ref _=>cases r;rfl
 | ty _=>cases r;rfl
theorem RelV.inj {x y:V} {u:kk} (r:!aG x) (q:!aG y):x=y:=ry (r.abs.symm.trans q.abs)
theorem Vals.inj:∀{xs ys:eS V} {us:E'},Vals xs us->Vals ys us->xs=ys
 | _,_,_,.nil,.nil=>rfl
 | _,_,_,.cons r t,.cons r' t'=>by rw[r.inj r',Vals.inj t t']
section
variable {X:Cx} {pins:Dn} {σ:St} {H:Hp} {s:kb} {a:ee} {xs ys:eS V}
theorem SqL.of {K:b'} (h:!aV @al):SqL K H a xs:= .inl @aT
theorem SqT.of {K:b'} (h:!aV @ax):SqT K H a xs:= .inl @aT
theorem Inv.list (I:@N) (h:SqL X.K H a xs):∃its:E',Vals xs its/\PlainL s.heap a its.toArray/\xs.length<=sizeLine:=by
 rcases h with h | ⟨o,its,n,hk,G,hd,hs,hz,r⟩
 ·obtain⟨z,its,n,r,e⟩:=h.ok I.hok;exact⟨its,r,⟨_,n,e,rfl,rfl,rfl⟩,z⟩
 ·refine⟨its.toList,r,⟨o,n,I.kIn a o hk,G,hd,by simpa using hs⟩,?_⟩;have e:=r.length;simp only[VL] at e;omega
theorem Inv.tuple (I:@N) (h:SqT X.K H a xs):∃its:E',Vals xs its/\IsTup s.heap a its.toArray/\xs.length<=sizeLine:=by
 rcases h with h | ⟨o,its,n,hk,G,hs,hz,r⟩
 ·obtain⟨z,its,r,p⟩:=h.ok I.hok;exact⟨its,r,p,z⟩
 ·refine⟨its.toList,r,⟨o,I.kIn a o hk,G,n,by simpa using hs⟩,?_⟩;have e:=r.length;simp only[VL] at e;omega
theorem Inv.list_inj (I:@N) (h:SqL X.K H a xs) (h':SqL X.K H a ys):xs=ys:=by
 obtain⟨its,r,⟨o,n,e,_,_,d⟩,_⟩:=I.list h;obtain⟨its',r',⟨o',L,G,_,_,d'⟩,_⟩:=I.list h';rw[e] at G;cases G;rw[d] at d';injection d' with π _
 have:its=its':=by simpa using px ah0 π
 subst this;exact r.inj r'
theorem Inv.tuple_inj (I:@N) (h:SqT X.K H a xs) (h':SqT X.K H a ys):xs=ys:=by
 obtain⟨its,r,⟨o,e,_,n,d⟩,_⟩:=I.tuple h;obtain⟨its',r',⟨o',G,_,L,d'⟩,_⟩:=I.tuple h';rw[e] at G;cases G;rw[d] at d';injection d' with π _
 have:its=its':=by simpa using px ah0 π
 subst this;exact r.inj r'
end
noncomputable abbrev Cx.wish (X:Cx) (E:D'):Cx:={X with xe:=E}
noncomputable abbrev Cx.nox (X:Cx):Cx:=X.wish λ_ _=>False
theorem Cx.Ok.wish {X:Cx} (ok:X.Ok) (E:D'):(X.wish E).Ok:=
 ⟨ok.mod,ok.kind,ok.glob,ok.blt,ok.above,ok.inj,ok.has,ok.cab,ok.hd,ok.frames,ok.stk,ok.exf,ok.bs,ok.bsz,ok.noex,ok.exfs,ok.funs,ok.frf⟩
theorem Cx.Ok.unwish {X:Cx} {E:D'} (ok:(X.wish E).Ok):X.Ok:=
 ⟨ok.mod,ok.kind,ok.glob,ok.blt,ok.above,ok.inj,ok.has,ok.cab,ok.hd,ok.frames,ok.stk,ok.exf,ok.bs,ok.bsz,ok.noex,ok.exfs,ok.funs,ok.frf⟩
section
variable {X:Cx} {pins:Dn} {σ:St} {H:Hp} {s:kb} {E:D'}
theorem Inv.wish (I:@N) (E:D'):!bS (X.wish E) H s:=⟨I.ok.wish E,I.os,I.bare,I.base,I.loc,I.cell,I.free,I.freeC,I.pin,I.hok,I.len⟩
theorem Inv.unwish (I:!bS (X.wish E) H s):@N:=⟨I.ok.unwish,I.os,I.bare,I.base,I.loc,I.cell,I.free,I.freeC,I.pin,I.hok,I.len⟩
theorem SP.unwish {D:Ends} {f:Flow} {s':kb} (h:SP (X.wish E) pins D f s'):SP X pins D f s':=by
 cases f with
 | next=>obtain⟨σ',H',I,q⟩:=h;exact⟨σ',H',I.unwish,q⟩
 | brk=>obtain⟨σ',H',I,q⟩:=h;exact⟨σ',H',I.unwish,q⟩
 | cont=>obtain⟨σ',H',I,q⟩:=h;exact⟨σ',H',I.unwish,q⟩
 | ret u=>obtain⟨v,σ',H',I,r,q⟩:=h;exact⟨v,σ',H',I.unwish,r,q⟩
theorem PSs.nox {st:eS WX} {t:TS} (h:PSs X.nox st t):PSs X st t:=λpins s σ H D I hw=>
 WM (h pins s σ H D (I.wish _) hw) (λ_ _ q=>q.unwish) λ_ _ z=>UP z
end
section
variable {X:Cx} {st:WX} {rest:eS WX} {t u:TS} {e:xo} {te:TE} {pos:Pos}
noncomputable def QY:TS:=λD σ H=>D.nx σ H
noncomputable def tSeq (t u:TS):TS:=λD σ H=>t {D with nx:=u D} σ H
theorem bz:PSs X [] QY:=λ_ _ σ H _ I h=>Yu ⟨σ,H,I,h⟩
theorem ae (h1:PS X st t) (h2:PSs X rest u):PSs X (st::rest) (tSeq t u):=by
 intro pins s σ H D I h;refine Zu (thn (h1 pins s σ H {D with nx:=u D} I h) λf G q=>?_);cases f with
 | next=>
   obtain⟨σ',H',L,q⟩:=q;exact h2 pins G σ' H' D L q
 | ret v=>exact q
 | brk=>exact q
 | cont=>exact q
theorem ai (h1:PS X st t):PSs X [st] t:=by
 intro pins s σ H D I h;refine Zu (thn (h1 pins s σ H D I h) λf G q=>?_);cases f with
 | next=>exact Yu q
 | ret v=>exact q
 | brk=>exact q
 | cont=>exact q
theorem Inv.quiet {pins:Dn} {σ:St} {H:Hp} {s:kb} (I:@N):interactive X.env=false:=by simp[interactive,I.ok.kind]
noncomputable abbrev TZ (te:TE):TS:=λD σ H=>te σ H λ_ H1=>D.nx σ H1
theorem bp (he:!E e te) (hs:swapsWith e f' pos.line X.env=pure false:=by rfl):PS X (.Expr e pos) (TZ te):=by
 intro pins s σ H D I h;exact wpAny_Expr_any (thn (he pins s σ H _ I h) λv O ⟨x,H1,L,ζ,G⟩=>⟨σ,H1,L,G⟩) I.quiet hs
noncomputable abbrev tRet (te:TE):TS:=λD σ H=>te σ H D.rt
theorem aF (he:!E e te):PS X (.Return (ak e) pos) (tRet te):=by
 intro pins s σ H D I h;exact wpAny_Return_some (thn (he pins s σ H _ I h) λv O ⟨x,H1,L,ζ,G⟩=>⟨x,σ,H1,L,ζ,G⟩)
noncomputable abbrev tIfS (c:TT) (t u:TS):TS:=λD σ H=>c σ H λb H1=>if b=true then t D σ H1 else u D σ H1
theorem d7 {c:xo} {a b:eS WX} {tc:TT} (hc:PT X c tc) (ha:PSs X a t) (hb:PSs X b u):PS X (.If c a b pos) (tIfS tc t u):=by
 intro pins s σ H D I h;refine wpAny_If (thn (hc pins s σ H _ I h) λd L ⟨H1,O,G⟩=>?_);cases d with
 | true=>exact ha pins L σ H1 D O G
 | false=>exact hb pins L σ H1 D O G
end
noncomputable abbrev TG:=V->St->Hp->(St->Hp->Prop)->Prop
noncomputable abbrev TGs:=eS V->St->Hp->(St->Hp->Prop)->Prop
def PG (X:Cx) (α:xo) (t:TG):Prop:=
 ∀(pins:Dn) (s:kb) (σ:St) (H:Hp) (v:V) (u:kk) (Q:St->Hp->Prop),Inv X pins σ H s->RelV v u->t v σ H Q->
  lT @T X.A (assign α X.env u) (λ_ s'=>∃σ' H',Inv X pins σ' H' s'/\Q σ' H') X.xe s
def PGs (X:Cx) (ts:eS xo) (t:TGs):Prop:=
 ∀(pins:Dn) (s:kb) (σ:St) (H:Hp) (vs:eS V) (us:E') (Q:St->Hp->Prop),Inv X pins σ H s->Vals vs us->t vs σ H Q->
  lT @T X.A (assignInOrder ((!bE ts).map (·.2)) us) (λ_ s'=>∃σ' H',Inv X pins σ' H' s'/\Q σ' H') X.xe s
noncomputable abbrev TSet:=V->V->V->Hp->(Hp->Prop)->Prop
def PSet (X:Cx) (t:TSet):Prop:=
 ∀(pins:Dn) (s:kb) (σ:St) (H:Hp) (o i v:V) (G ε u:kk) (Q:Hp->Prop),Inv X pins σ H s->RelV o G->RelV i ε->RelV v u->t o i v H Q->
  lT @T X.A (setItem G ε u) (λ_ s'=>∃H',Inv X pins σ H' s'/\Q H') X.xe s
section
variable {X:Cx} {pos:Pos}
noncomputable def Kv (i:Nat):TG:=λv σ H Q=>Q (σ.set i @aC) H
theorem aq {i:Nat} {x:lA} (γ:X.N.Nodup) (hi:X.N[i]? =ak x) (hx:Loc X.env.scope x) (hf:X.fn x=true∨X.env.scope.names.lookup x=ak .local:=by first | exact .inl rfl | exact .inr rfl | assumption):PG X (!b2 pos) (Kv i):=by
 intro pins s σ H v u Q I r h;exact ah1 (EX I γ hi hx r (λs' G=>⟨_,H,G,h⟩) hf)
noncomputable def gNil:TGs:=λvs σ H Q=>vs=[]/\Q σ H
noncomputable def Qn (t:TG) (u:TGs):TGs:=λvs σ H Q=>∃v r,vs=v::r/\t v σ H fun σ' H'=>u r σ' H' Q
theorem ie:PGs X [] gNil:=by
 intro pins s σ H vs us Q I r h;obtain⟨e,h⟩:=h;subst e;cases r;exact assignInOrder_nil ⟨σ,H,I,h⟩
theorem aZ {e:xo} {es:eS xo} {t:TG} {u:TGs} (h1:PG X e t) (h2:PGs X es u)
  (hs:(!bE @V).map (·.2)=assign e X.env::(!bE es).map (·.2):=by rfl):PGs X @V (Qn t u):=by
 intro pins s σ H vs us Q I r h;obtain⟨v,β,Z,h⟩:=h;subst Z;cases r with
 | cons r Y=>
   rw[hs];refine assignInOrder_cons (thn (h1 pins s σ H _ _ _ I r h) λ_ O ⟨L,H1,α,G⟩=>?_);exact h2 pins O L H1 _ _ Q α Y G
noncomputable def gTup (K:b') (n:Nat) (t:TGs):TG:=λv σ H Q=>∃a xs,v= .ref a/\SqT K H a xs/\xs.length=n/\t xs σ H Q
theorem uA {es:eS xo} {k:Nat} {t:TGs} {n:Nat} (hc:@aI) (h:PGs X es t)
  (hn:(!bE es).length=n:=by rfl) (Z:(!bE es).findIdx? (·.1)=none:=by rfl):PG X (.Tuple es k pos) (gTup X.K n t):=by
 intro pins s σ H v u Q I r hw;obtain⟨a,xs,Y,O,hl,hw⟩:=hw;subst Y;cases r;obtain⟨its,G,ht,hz⟩:=I.tuple O;refine assign_Tuple_tuple @be ht (by simp[hn,<-hl,G.length]) Z λh' L=>?_;have α:Inv X pins σ H {s with heap:=h'}:=I.kept (t':=s.toks) λb o e=>L b o (u' @aH) e;exact h pins _ σ H xs _ Q α (by simpa using G) hw
noncomputable def gSub (to G:TE) (t:TSet):TG:=λv σ H Q=>to σ H λo H1=>G σ H1 λi H2=>t o i v H2 λL=>Q σ L
theorem R7 {o i:xo} {to O:TE} {t:TSet} (ho:!E o to) (hi:!E i O) (hs:PSet X t)
  (ha:∀v,assign (!bP o i) X.env v=(do
   let L <-holding [v] (!az o)
   let ε <-holding [v,L] (!az i)
   standAt pos
   holding [v,L,ε] (setItem L ε v)
   release [v,L,ε] []):=by intro _;rfl):PG X (!bP o i) (gSub to O t):=by
 intro pins s σ H v u Q I r h;rw[ha];refine gn (VH (thn (ho pins s σ H _ I h) λL Z ⟨x,H1,η,ζ,G⟩=>?_));refine gn (VH (thn (hi pins Z σ H1 _ η G) fun ε Y ⟨y,H2,δ,α,γ⟩=>?_));refine gn (ab0 (gn (VH (thn (hs pins Y σ H2 x y v L ε u _ δ ζ α r γ) λ_ ι ⟨θ,φ,β⟩=>?_))));exact wpAny_release ⟨σ,θ,φ,β⟩
noncomputable abbrev tAsg (te:TE) (g:TG):TS:=λD σ H=>te σ H λx H1=>g x σ H1 D.nx
theorem Js {tg e:xo} {te:TE} {g:TG} (he:!E e te) (O:PG X tg g) (hs:swapsWithSole [tg] e pos.line X.env=pure false:=by rfl) (hw:swappedStores [tg] e X.env=pure none:=by rfl)
  (h1:(!bE [tg]).map (·.2)=[assign tg X.env]:=by rfl):PS X (.Assign [tg] e pos) (tAsg te g):=by
 intro pins s σ H D I h;refine wpAny_Assign_stores (thn (he pins s σ H _ I h) λv L ⟨x,H1,Y,ζ,G⟩=>?_) hs hw;rw[h1];exact thn (O pins L σ H1 x v _ Y ζ G) λ_ Z q=>q
theorem ax {i:Nat} {x:lA} {e:xo} {te:TE} {pos':Pos} (γ:X.N.Nodup) (hi:X.N[i]? =ak x) (hx:Loc X.env.scope x) (he:!E e te) (hs:swapsWith e (ak (!b2 pos')) pos.line X.env=pure false:=by rfl) (hf:X.fn x=true∨X.env.scope.names.lookup x=ak .local:=by first | exact .inl rfl | exact .inr rfl | assumption):
  PS X (.Assign [.Name x pos'] e pos) (tAsg te (Kv i)):=by
 intro pins s σ H D I h;refine wpAny_Assign_Name (thn (he pins s σ H _ I h) λv Z ⟨y,H1,O,ζ,G⟩=>?_) hs;exact EX O γ hi hx ζ (λY L=>⟨_,H1,L,G⟩) hf
end
section
variable {X:Cx} {pos:Pos}
noncomputable def QX (c:TT) (tb:TS):TS:=λD σ H=>∃W:Nat->St->Hp->Prop,(∃m,W m σ H)/\∀m σ H,W m σ H->
 c σ H λb H1=>if b=true then ∃N:St->Hp->Prop,(∀σ' H',N σ' H'->∃ν,ν < m/\W ν σ' H')/\tb {D with nx:=N,ct:=N,bk:=D.nx} σ H1 else D.nx σ H1
theorem rJ {c:xo} {O:eS WX} {tc:TT} {tb:TS} (η:PassesOwn @T X.A X.env X.xe) (hc:PT X c tc) (hb:PSs X O tb):PS X (.While c O [] pos) (QX tc tb):=by
 intro pins s σ H D I h;obtain⟨W,⟨β,w0⟩,ζ⟩:=h;refine wpAny_While (codeAny_whileLoop (λn s'=>∃σ' H',Inv X pins σ' H' s'/\W n σ' H') ?_ β ⟨σ,H,I,w0⟩);rintro n ξ ⟨L,H1,ο,ρ⟩;refine Wv η (thn (hc pins ξ L H1 _ ο (ζ n L H1 ρ)) λb ι ⟨H2,θ,α⟩=>?_);cases b with
 | true=>
   obtain⟨N,γ,α⟩:=α;rw[oL rfl];refine Wv η (thn (hb pins ι L H2 _ θ α) λf π Z=>?_);cases f with
   | next=>
     obtain⟨G,Y,φ,ε⟩:=Z;obtain⟨ν,hm,δ⟩:=γ G Y ε;exact⟨ν,hm,G,Y,φ,δ⟩
   | cont=>
     obtain⟨G,Y,φ,ε⟩:=Z;obtain⟨ν,hm,δ⟩:=γ G Y ε;exact⟨ν,hm,G,Y,φ,δ⟩
   | brk=>exact Z
   | ret v=>exact Z
 | false=>
   rw[mu ia];exact Yu ⟨L,H2,θ,α⟩
end
structure It where
 go:Nat->Hp->Prop
 yld:Nat->Hp->V->Hp->Prop
 stop:Nat->Hp->Prop
def FpOk (X:Cx) (pins:Dn) (H:Hp) (b:ee):Prop:=
 H b=f'/\b≠X.env.locals/\b∉X.fs/\@cQ/\(∀x c,X.env.cells.lookup x=ak c->c≠b)/\∀p∈X.pn++pins,p.1≠b
theorem Inv.fpOk {X:Cx} {pins:Dn} {σ:St} {H H':Hp} {s:kb} {b:ee} (I:@N) (hb:s.heap.objs.size<=b) (hn:H' b=f'):FpOk X pins H' b:=by
 refine⟨hn,Vr (fy I.lt hb),I.nofs hb,!F (Vs I.sz hb),λx c e z=>?_,λp G z=>?_⟩
 ·obtain⟨v,q⟩:=I.cell x c e;exact hF (fy q.lt (by rw[z];exact hb)) (VJ _)
 ·exact hF (fy (ib (I.pin p G).1) (by rw[z];exact hb)) (VJ _)
structure Turn (P:pT) (w:z0) (K:b') (tg:xo) (J:It) (fp:M') (it:ee) (tn:Nat->zx->Prop):Prop where
 mem:it∈fp
 obj:∀i h,tn i h->∀b∈fp,∃o,h.get? b=ak o/\∀v,o.data≠.cell v
 keep:∀i h h',tn i h->(∀b∈fp,∀o,h.get? b=ak o->h'.get? b=ak o)->tn i h'
 item:∀(X:Cx),X.prog=P->X.w=w->X.K=K->X.calm=true->∀(i:Nat) (pins:Dn) (s:kb) (σ:St) (H:Hp) (E:D'),Inv X pins σ H s->(∀b∈fp,FpOk X pins H b)->tn i s.heap->J.go i H->
  lT (oS P w) X.A (pyNext (!j it)) (λr s1=>∃u,r=ak u/\
   lT (oS P w) X.A (letOwnedTupleGo tg (!j it) u) (λ_ s2=>∃x H',Inv X pins σ H' s2/\RelV x u/\J.yld i H x H'/\tn @J s2.heap/\∀b∈fp,H' b=f') E s1) E s
 done:∀(X:Cx),X.prog=P->X.w=w->X.K=K->X.calm=true->∀(i:Nat) (pins:Dn) (s:kb) (σ:St) (H:Hp) (E:D'),Inv X pins σ H s->(∀b∈fp,FpOk X pins H b)->tn i s.heap->J.stop i H->
  lT (oS P w) X.A (pyNext (!j it)) (λr s1=>r=f'/\Inv X pins σ H s1) E s
 self:∀(A:xY) (i:Nat) (s:kb) (Q:D') (E:D'),tn i s.heap->Q (!j it) s->lT (oS P w) A (pyIter (!j it)) Q E s
noncomputable abbrev TI:=St->Hp->(It->Hp->Prop)->Prop
def PIE (X:Cx) (pins:Dn) (σ:St) (tg:xo) (R:It->Hp->Prop) (G:kk) (O:kb):Prop:=
 ∃(Y:ee) (fp:M') (L:Nat->zx->Prop) (J:It) (H':Hp),G= .ref Y/\Inv X pins σ H' O/\Turn X.prog X.w X.K tg J fp Y L/\L 0 O.heap/\(∀b∈fp,FpOk X pins H' b)/\R J H'
def PI (X:Cx) (tg iter:xo) (G:TI):Prop:=
 ∀(pins:Dn) (s:kb) (σ:St) (H:Hp) (R:It->Hp->Prop),Inv X pins σ H s->G σ H R->
  lT @T X.A (!az iter) (λv L=>lT @T X.A (pyIter v) (PIE X pins σ tg R) X.xe L) X.xe s
theorem M5 {M:Model} {A:xY} {E:D'} {s:kb} {tg:xo} {L:ee} {u:kk} {o:Zs} {n:U'} {vs:G'} {Q:L'} (ho:s.heap.get? L=ak o) (hc:o.cls= .type n) (hd:o.data= .fields vs)
  (hn:["enumerate","zip","dict_itemiterator","dict_reverseitemiterator","odict_iterator","itertools.zip_longest","itertools.pairwise"].contains n=false) (G:Q () s):lT M A (letOwnedTupleGo tg (!j L) u) Q E s:=by
 unfold letOwnedTupleGo
 cases tg<;>first
  | exact nr G
  | (cases u<;>first
    | exact nr G
    | (refine gn (wpAny_load ho ?_)
       rw[hc,hd];show lT M A (if (["enumerate","zip","dict_itemiterator","dict_reverseitemiterator","odict_iterator","itertools.zip_longest","itertools.pairwise"].contains n&&vs[0]? == ak (rawInt _))=true then _ else _) Q E s;rw[mu (by intro h;rw[hn,V2] at h;cases h)];exact nr G))
noncomputable def Itl (K:b') (a:ee):It:=
 ⟨λi H=>∃xs x,SqL K H a xs/\xs[i]? =ak x,λi H x H'=>H'=H/\∀xs,SqL K H a xs->xs[i]? =ak x,λi H=>∃xs,SqL K H a xs/\xs.length<=i⟩
noncomputable def Itt (K:b') (a:ee):It:=
 ⟨λi H=>∃xs x,SqT K H a xs/\xs[i]? =ak x,λi H x H'=>H'=H/\∀xs,SqT K H a xs->xs[i]? =ak x,λi H=>∃xs,SqT K H a xs/\xs.length<=i⟩
noncomputable def Itr (lo:Int) (n:Nat):It:=⟨λi _=>i < n,λi H x H'=>H'=H/\x= .int (lo + i),λi _=>n<=i⟩
theorem Ih {P:pT} {w:z0} {K:b'} {tg:xo} (a G:ee):Turn P w K tg (Itl K a) [G] G (λi h=>h.IsListIter G a i) where
 mem:=by simp
 obj:=λi h st b hb=>by
  have e:b=G:=by simpa using hb
  subst e;obtain⟨o,e,c,d⟩:=st;exact⟨o,e,λv z=>by rw[d] at z;cases z⟩
 keep:=λi h h' st k=>st.at λo e=>k G @C o e
 item:=by
  intro X γ hw Z θ i pins s σ H E I hf st β;subst γ hw Z;obtain⟨xs,x,O,α⟩:=β;obtain⟨its,Y,p,hz⟩:=I.list O;obtain⟨u,hu,ν⟩:=Y.get α;obtain⟨ε,η,π,δ,ζ,ξ⟩:=hf G @C;refine wpAny_pyNext_list_item st p.isList (x:=u) (by simpa using hu) λh' L ι=>?_;have τ:Inv X pins σ H {s with heap:=h'}:=I.turned (t':=s.toks) (!c5 (ι.2 b hb)) ε η δ ζ ξ;obtain⟨o,e,c,d⟩:=id L;exact⟨u,rfl,M5 (s:={s with heap:=h'}) e c d @D ⟨x,H,τ,ν,⟨rfl,λys ο=>by rw[I.list_inj ο O];exact α⟩,L,λb hb=>(hf b hb).1⟩⟩
 done:=by
  intro X γ hw Z θ i pins s σ H E I hf st β;subst γ hw Z;obtain⟨xs,O,α⟩:=β;obtain⟨its,Y,p,hz⟩:=I.list O;obtain⟨ε,η,π,δ,ζ,ξ⟩:=hf G @C;have hl:=Y.length;exact wpAny_pyNext_list_end (I.ok.hd θ) st p.isList (by simp;omega) λh' ρ=>⟨rfl,I.turned (t':=s.toks) (λb o hb e=>ρ b o hb e) ε η δ ζ ξ⟩
 self:=λ_ _ _ _ _ st h=>wpAny_pyIter_listiter st h
theorem FS {P:pT} {w:z0} {K:b'} {tg:xo} (a G:ee):Turn P w K tg (Itt K a) [G] G (λi h=>h.IsTupleIter G a i) where
 mem:=by simp
 obj:=λi h st b hb=>by
  have e:b=G:=by simpa using hb
  subst e;obtain⟨o,e,c,d⟩:=st;exact⟨o,e,λv z=>by rw[d] at z;cases z⟩
 keep:=λi h h' st k=>st.at λo e=>k G @C o e
 item:=by
  intro X γ hw Z θ i pins s σ H E I hf st β;subst γ hw Z;obtain⟨xs,x,O,α⟩:=β;obtain⟨its,Y,p,hz⟩:=I.tuple O;obtain⟨u,hu,ν⟩:=Y.get α;obtain⟨ε,η,π,δ,ζ,ξ⟩:=hf G @C;refine wpAny_pyNext_tuple_item st (show s.heap.IsTuple a its.toArray from p) (x:=u) (by simpa using hu) λh' L ι=>?_;have τ:Inv X pins σ H {s with heap:=h'}:=I.turned (t':=s.toks) (!c5 (ι.2 b hb)) ε η δ ζ ξ;obtain⟨o,e,c,d⟩:=id L;exact⟨u,rfl,M5 (s:={s with heap:=h'}) e c d @D ⟨x,H,τ,ν,⟨rfl,λys ο=>by rw[I.tuple_inj ο O];exact α⟩,L,λb hb=>(hf b hb).1⟩⟩
 done:=by
  intro X γ hw Z θ i pins s σ H E I hf st β;subst γ hw Z;obtain⟨xs,O,α⟩:=β;obtain⟨its,Y,p,hz⟩:=I.tuple O;obtain⟨ε,η,π,δ,ζ,ξ⟩:=hf G @C;have hl:=Y.length;exact wpAny_pyNext_tuple_end (I.ok.hd θ) st (show s.heap.IsTuple a its.toArray from p) (by simp;omega) λh' ρ=>⟨rfl,I.turned (t':=s.toks) (λb o hb e=>ρ b o hb e) ε η δ ζ ξ⟩
 self:=λ_ _ _ _ _ st h=>wpAny_pyIter_tupleiter st h
theorem FU {P:pT} {w:z0} {K:b'} {tg:xo} (G:ee) (lo:Int) (n:Nat):Turn P w K tg (Itr lo n) [G] G (λi h=>IsRangeIter h G (lo + (i:Nat) * 1) ((n:Int) - (i:Nat)) 1) where
 mem:=by simp
 obj:=λi h st b hb=>by
  have e:b=G:=by simpa using hb
  subst e
  exact⟨_,st,λv z=>by
   have η:Data.fields _=Data.cell v:=z;cases η⟩
 keep:=λi h h' st k=>k G @C _ st
 item:=by
  intro X α hw Z Y i pins s σ H E I hf st O;subst α hw Z;obtain⟨ε,γ,ι,δ,β,ξ⟩:=hf G @C;have W:=Walks.range (prog:=X.prog) (w:=X.w) (I.ok.hd Y) G lo 1 n;refine W.item i s _ _ O st λv h' tk θ L ζ=>?_;obtain⟨t,rfl⟩:=θ;have ο:Inv X pins σ H {s with heap:=h',toks:=tk}:=I.turned (λb o hb e=>ζ b o (by simpa using hb) e) ε γ δ β ξ;refine⟨_,rfl,M5 (s:={s with heap:=h',toks:=tk}) (n:="range_iterator") L rfl rfl @D ⟨.int (lo + i),H,ο,⟨t,?_⟩,⟨rfl,rfl⟩,L,λb hb=>(hf b hb).1⟩⟩;rw[Int.mul_one]
 done:=by
  intro X α hw Z Y i pins s σ H E I hf st O;subst α hw Z;obtain⟨ε,γ,ι,δ,β,ξ⟩:=hf G @C;exact wpAny_pyNext_range_end (I.ok.hd Y) st (by have:n<=i:=O;omega) λh' ν=>⟨rfl,I.turned (t':=s.toks) (λb o hb e=>ν b o hb e) ε γ δ β ξ⟩
 self:=λ_ _ _ _ _ st h=>wpAny_pyIter_rangeiter st h
section
variable {X:Cx} {tg:xo}
noncomputable abbrev SM (K:b') (tl:TE):TI:=fun σ H R=>tl σ H λx H1=>∃a,x= .ref a/\(∃xs,SqL K H1 a xs)/\R (Itl K a) H1
noncomputable abbrev iTup (K:b') (tl:TE):TI:=fun σ H R=>tl σ H λx H1=>∃a,x= .ref a/\(∃xs,SqT K H1 a xs)/\R (Itt K a) H1
theorem PV {l:xo} {tl:TE} (hl:!E l tl):PI X tg l (SM X.K tl):=by
 intro pins s σ H R I h;refine thn (hl pins s σ H _ I h) λv L ⟨x,H1,I1,ζ,G⟩=>?_;obtain⟨a,e,⟨xs,O⟩,q⟩:=G;subst e;cases ζ;obtain⟨its,Y,p,hz⟩:=I1.list O;refine Y4 p.isList ?_;refine⟨L.heap.objs.size,[L.heap.objs.size],_,_,H1,rfl,I1.kept (t':=L.toks) λb o e=>gB _ e,Ih a _,⟨_,mc _ rfl,rfl,rfl⟩,λb hb=>?_,q⟩;have e:b=L.heap.objs.size:=by simpa using hb
 subst e;exact !bA @Y @Y
theorem R5 {l:xo} {tl:TE} (hl:!E l tl):PI X tg l (iTup X.K tl):=by
 intro pins s σ H R I h;refine thn (hl pins s σ H _ I h) λv L ⟨x,H1,I1,ζ,G⟩=>?_;obtain⟨a,e,⟨xs,O⟩,q⟩:=G;subst e;cases ζ;obtain⟨its,Y,p,hz⟩:=I1.tuple O;refine XU (show L.heap.IsTuple a its.toArray from p) ?_;refine⟨L.heap.objs.size,[L.heap.objs.size],_,_,H1,rfl,I1.kept (t':=L.toks) λb o e=>gB _ e,FS a _,⟨_,mc _ rfl,rfl,rfl⟩,λb hb=>?_,q⟩;have e:b=L.heap.objs.size:=by simpa using hb
 subst e;exact !bA @Y @Y
theorem E7 {pins:Dn} {σ:St} {H:Hp} {s:kb} {R:It->Hp->Prop} {E:D'} {lo hi:Int} {t u v:Tok} {tk:Nat} (I:@N) (h1: -(2 ^ 62)<=lo) (h2:lo < 2 ^ 62) (L: -(2 ^ 62)<=hi) (G:hi < 2 ^ 62)
  (q:R (Itr lo (hi - lo).toNat) H):lT @T X.A (pyIter @aS) (PIE X pins σ tg R) E {s with heap:=s.heap.push {cls:= .type "range",data:= .fields #[.int lo t,.int hi u,.int 1 v]},toks:=tk}:=by
 refine wpAny_pyIter_range (IsRange.new ..) (small_one h1 h2 L G) ?_;have I1:Inv X pins σ H {s with heap:=s.heap.push {cls:= .type "range",data:= .fields #[.int lo t,.int hi u,.int 1 v]},toks:=tk}:=I.kept λb o e=>gB _ e
 refine⟨(s.heap.push {cls:= .type "range",data:= .fields #[.int lo t,.int hi u,.int 1 v]}).objs.size,[(s.heap.push {cls:= .type "range",data:= .fields #[.int lo t,.int hi u,.int 1 v]}).objs.size],_,_,H,rfl,
  I1.kept (t':=tk) λb o e=>gB _ e,FU _ lo (hi - lo).toNat,?_,λb hb=>?_,q⟩
 ·have Y:lo + ((0:Nat):Int) * 1=lo:=by simp
  have O:(((hi - lo).toNat:Nat):Int) - ((0:Nat):Int)=Builtin.Range.rangeSize lo hi 1:=by rw[rangeSize_one];split<;>omega
  show IsRangeIter _ _ (lo + ((0:Nat):Int) * 1) ((((hi - lo).toNat:Nat):Int) - ((0:Nat):Int)) 1;rw[Y,O];exact mc _ rfl
 ·have e:b=(s.heap.push {cls:= .type "range",data:= .fields #[.int lo t,.int hi u,.int 1 v]}).objs.size:=by simpa using hb
  subst e;exact !bA @Y @Y
noncomputable abbrev Uu (ta:TA):TI:=fun σ H R=>ta σ H λvs H1=>∃j:Int,vs=[.int j]/\-(2 ^ 62)<=j/\j < 2 ^ 62/\R (Itr 0 j.toNat) H1
noncomputable abbrev Ut (ta:TA):TI:=fun σ H R=>ta σ H λvs H1=>∃i j:Int,vs=[.int i,.int j]/\(-(2 ^ 62)<=i/\i < 2 ^ 62/\-(2 ^ 62)<=j/\j < 2 ^ 62)/\R (Itr i (j - i).toNat) H1
theorem c6 {a:xo} {ta:TA} {p pos:Pos} (Y:Gl X "range") (hm:X.mg "range"=f') (ha:PA X [a] ta) (hs:ov [a] X.env=[(false,eval a X.env)]:=by rfl):PI X tg (!aP "range" p [a] [] pos) (Uu ta):=by
 intro pins s σ H R I h;refine ZV (nK I Y hm boot_range (vu (thn (ha pos pins s σ H _ I h) λus α ⟨vs,H1,Z,ζ,G⟩=>?_) hs rfl));obtain⟨j,e,G,O,q⟩:=G;subst e;cases ζ with
 | cons r L=>
   cases L;obtain⟨t,rfl⟩:=r;exact call_range_1 (E7 Z @A @A G O (by simpa using q))
theorem wz {a b:xo} {ta:TA} {p pos:Pos} (α:Gl X "range") (hm:X.mg "range"=f') (ha:PA X [a,b] ta) (hs:ov [a,b] X.env=[(false,eval a X.env),(false,eval b X.env)]:=by rfl) (L:ov [b] X.env=[(false,eval b X.env)]:=by rfl):
  PI X tg (!aP "range" p [a,b] [] pos) (Ut ta):=by
 intro pins s σ H R I h;refine ZV (nK I α hm boot_range (vu (thn (ha pos pins s σ H _ I h) λus δ ⟨vs,H1,β,ζ,G⟩=>?_) (by rw[hs,L]) (by rw[L];rfl)));obtain⟨i,j,e,⟨G,Z,Y,γ⟩,q⟩:=G;subst e;cases ζ with
 | cons r O=>
   cases O with
   | cons r' O=>
     cases O;obtain⟨t,rfl⟩:=r;obtain⟨t',rfl⟩:=r';exact call_range_2 (E7 β G Z Y γ q)
noncomputable def tFor (L:TI) (g:TG) (tb:TS):TS:=λD σ H=>L σ H λJ H1=>∃W:Nat->Nat->St->Hp->Prop,(∃m,W 0 m σ H1)/\∀i m σ H,W i m σ H->
 (J.stop i H/\D.nx σ H)∨(J.go i H/\∃N:St->Hp->Prop,(∀σ' H',N σ' H'->∃ν,ν < m/\W @J ν σ' H')/\∀x H',J.yld i H x H'->g x σ H' λG H2=>tb {D with nx:=N,ct:=N,bk:=D.nx} G H2)
noncomputable def Bu (fp:M') (h:zx):Dn:=fp.filterMap λb=>(h.get? b).map λo=>(b,o)
theorem pF {fp:M'} {h:zx} {b:ee} {o:Zs} (hb:b∈fp) (e:h.get? b=ak o):(b,o)∈Bu fp h:=ac6.mpr ⟨b,hb,by rw[e];rfl⟩
theorem JI {fp:M'} {h:zx} {p:ee×Zs} (G:p∈Bu fp h):p.1∈fp/\h.get? p.1=ak p.2:=by
 obtain⟨b,hb,e⟩:=ac6.mp G;cases q:h.get? b with
 | none=>rw[q] at e;cases e
 | some o=>
   rw[q] at e;have L:(b,o)=p:=ry e;subst L;exact⟨hb,q⟩
theorem Inv.pinned {pins:Dn} {σ:St} {H:Hp} {s:kb} {fp:M'} (I:@N) (hf:∀b∈fp,FpOk X pins H b) (ho:∀b∈fp,∃o,s.heap.get? b=ak o/\∀v,o.data≠.cell v):Inv X (pins++Bu fp s.heap) σ H s:=
 I.pins_of λp L=>(gz.mp L).elim (λz=>I.pin p (!Q z)) λz=>by
  obtain⟨hb,e⟩:=JI z;obtain⟨ε,Y,O,_⟩:=hf p.1 hb;obtain⟨o,G,d⟩:=ho p.1 hb;rw[e] at G;cases G;exact⟨e,ε,Y,O,d⟩
theorem Inv.unpinned {pins pl:Dn} {σ:St} {H:Hp} {s:kb} (I:Inv X (pins++pl) σ H s):@N:=I.pins_of λp G=>I.pin p (!Q (!N G))
theorem cX {iter:xo} {ξ:eS WX} {wi:TI} {g:TG} {tb:TS} {pos:Pos} (ο:PassesOwn @T X.A X.env X.xe) (hc:@aI) (hi:PI X tg iter wi) (hg:PG X tg g) (hb:PSs X ξ tb)
  (hs:∀x,foldedSetIterable iter X.env x=pure x:=by intro _;rfl):PS X (.For tg iter ξ [] pos) (tFor wi g tb):=by
 intro pins s σ H D I h;refine wpAny_For (thn (hi pins s σ H _ I h) λv s1 h1=>thn h1 λa0 s2 h2=>?_) hs;obtain⟨it,fp,tn,J,H2,e,I2,T,χ,f2,W,⟨β,w0⟩,ζ⟩:=h2;subst e;have Z:∀{H':Hp},(∀b∈fp,H' b=f')->∀b∈fp,FpOk X pins H' b:=λhn b hb=>⟨hn b hb,(f2 b hb).2⟩;refine codeAny_forLoop_any (λn s'=>∃i σ' H',Inv X pins σ' H' s'/\tn i s'.heap/\(∀b∈fp,H' b=f')/\W i n σ' H') ?_ β ⟨0,σ,H2,I2,χ,λb hb=>(f2 b hb).1,w0⟩;rintro n s3 ⟨i,G,π,φ,τ,υ,w3⟩;rcases ζ i n G π w3 with ⟨stop,qn⟩ | ⟨go,N,γ,step⟩
 ·refine Wv ο (thn (T.done X rfl rfl rfl hc i pins s3 G π X.xe φ (Z υ) τ stop) λr L ⟨ψ,I4⟩=>?_);subst ψ;exact Yu ⟨G,π,I4,qn⟩
 ·refine Wv ο (thn (T.item X rfl rfl rfl hc i pins s3 G π X.xe φ (Z υ) τ go) λr L ⟨u,ψ,h4⟩=>?_);subst ψ;refine Wv ο (thn h4 λ_ s5 ⟨x,H5,I5,θ,y5,ι,η⟩=>?_);have ω:=I5.pinned (Z η) (T.obj _ _ ι);refine Wv ο (thn (hg _ s5 G H5 x u _ ω θ (step x H5 y5)) λ_ s6 ⟨ρ,H6,I6,q6⟩=>?_);refine Wv ο (thn (hb _ s6 ρ H6 _ I6 q6) λf α δ=>?_)
  have again:∀{Y:St} {O:Hp},Inv X (pins++Bu fp s5.heap) Y O α->N Y O->∃m,m < n/\∃i σ' H',Inv X pins σ' H' α/\tn i α.heap/\(∀b∈fp,H' b=f')/\W i m σ' H':=λ{Y O} I7 ε=>by
   obtain⟨ν,hm,w7⟩:=γ Y O ε;refine⟨ν,hm,i + 1,Y,O,I7.unpinned,T.keep _ _ _ ι λb hb o e=>(I7.pin (b,o) (!Q (!Q (pF hb e)))).1,λb hb=>?_,w7⟩;obtain⟨o,e,d⟩:=T.obj _ _ ι b hb;exact(I7.pin (b,o) (!Q (!Q (pF hb e)))).2.1
  cases f with
  | next=>obtain⟨Y,O,I7,ε⟩:=δ;exact again I7 ε
  | cont=>obtain⟨Y,O,I7,ε⟩:=δ;exact again I7 ε
  | brk=>obtain⟨Y,O,I7,δ⟩:=δ;exact⟨Y,O,I7.unpinned,δ⟩
  | ret v=>obtain⟨x7,Y,O,I7,r7,δ⟩:=δ;exact⟨x7,Y,O,I7.unpinned,r7,δ⟩
end
theorem fk {K:b'} {a:ee} {xs:eS V} {g:TG} {tb:TS} {D:Ends} {σ:St} {H:Hp} (G:Nat->St->Hp->Prop) (h0:G 0 σ H) (hl:∀i σ H,i<=xs.length->G i σ H->SqL K H a xs)
  (hs:∀i x σ H,xs[i]? =ak x->G i σ H->g x σ H λL H2=>tb {D with nx:=G @J,ct:=G @J,bk:=D.nx} L H2) (hd:∀σ H,G xs.length σ H->D.nx σ H):
  ∃W:Nat->Nat->St->Hp->Prop,(∃m,W 0 m σ H)/\∀i m σ H,W i m σ H->
    (!cf (Itl K a))∨((Itl K a).go i H/\∃N:St->Hp->Prop,(∀σ' H',N σ' H'->∃ν,ν < m/\W @J ν σ' H')/\∀x H',(Itl K a).yld i H x H'->g x σ H' λL H2=>tb {D with nx:=N,ct:=N,bk:=D.nx} L H2):=by
 refine⟨λi m σ H=>m=xs.length - i/\i<=xs.length/\G i σ H,⟨xs.length,@C,Vh _,h0⟩,?_⟩;rintro i m σ H ⟨rfl,hi,p⟩;have q:=hl i σ H hi p;by_cases O:i < xs.length
 ·refine !F ⟨⟨xs,xs[i],q,by simp[O]⟩,G @J,fun σ' H' ε=>⟨xs.length - @J,by omega,rfl,O,ε⟩,λx H' y=>?_⟩;obtain⟨e,y⟩:=y;subst e;exact hs i x σ _ (y xs q) p
 ·have e:i=xs.length:=by omega
  subst e;exact !J ⟨⟨xs,q,oe _⟩,hd σ H p⟩
theorem uo {K:b'} {a:ee} {xs:eS V} {g:TG} {tb:TS} {D:Ends} {σ:St} {H:Hp} (G:Nat->St->Hp->Prop) (h0:G 0 σ H) (hl:∀i σ H,i<=xs.length->G i σ H->SqT K H a xs)
  (hs:∀i x σ H,xs[i]? =ak x->G i σ H->g x σ H λL H2=>tb {D with nx:=G @J,ct:=G @J,bk:=D.nx} L H2) (hd:∀σ H,G xs.length σ H->D.nx σ H):
  ∃W:Nat->Nat->St->Hp->Prop,(∃m,W 0 m σ H)/\∀i m σ H,W i m σ H->
    (!cf (Itt K a))∨((Itt K a).go i H/\∃N:St->Hp->Prop,(∀σ' H',N σ' H'->∃ν,ν < m/\W @J ν σ' H')/\∀x H',(Itt K a).yld i H x H'->g x σ H' λL H2=>tb {D with nx:=N,ct:=N,bk:=D.nx} L H2):=by
 refine⟨λi m σ H=>m=xs.length - i/\i<=xs.length/\G i σ H,⟨xs.length,@C,Vh _,h0⟩,?_⟩;rintro i m σ H ⟨rfl,hi,p⟩;have q:=hl i σ H hi p;by_cases O:i < xs.length
 ·refine !F ⟨⟨xs,xs[i],q,by simp[O]⟩,G @J,fun σ' H' ε=>⟨xs.length - @J,by omega,rfl,O,ε⟩,λx H' y=>?_⟩;obtain⟨e,y⟩:=y;subst e;exact hs i x σ _ (y xs q) p
 ·have e:i=xs.length:=by omega
  subst e;exact !J ⟨⟨xs,q,oe _⟩,hd σ H p⟩
theorem kB {lo:Int} {n:Nat} {g:TG} {tb:TS} {D:Ends} {σ:St} {H:Hp} (O:Nat->St->Hp->Prop) (h0:O 0 σ H)
  (hs:∀i σ H,i < n->O i σ H->g (.int (lo + i)) σ H λG H2=>tb {D with nx:=O @J,ct:=O @J,bk:=D.nx} G H2) (hd:∀σ H,O n σ H->D.nx σ H):
  ∃W:Nat->Nat->St->Hp->Prop,(∃m,W 0 m σ H)/\∀i m σ H,W i m σ H->
    (!cf (Itr lo n))∨((Itr lo n).go i H/\∃N:St->Hp->Prop,(∀σ' H',N σ' H'->∃ν,ν < m/\W @J ν σ' H')/\∀x H',(Itr lo n).yld i H x H'->g x σ H' λG H2=>tb {D with nx:=N,ct:=N,bk:=D.nx} G H2):=by
 refine⟨λi m σ H=>m=n - i/\i<=n/\O i σ H,⟨n,@C,Vh _,h0⟩,?_⟩;rintro i m σ H ⟨rfl,hi,p⟩;by_cases L:i < n
 ·refine !F ⟨L,O @J,fun σ' H' ε=>⟨n - @J,by omega,rfl,L,ε⟩,λx H' y=>?_⟩;obtain⟨e,y⟩:=y;subst e y;exact hs i σ _ L p
 ·have e:i=n:=by omega
  subst e;exact !J ⟨oe _,hd σ H p⟩
noncomputable abbrev R2:=V->V->Hp->VK->Prop
def OpR (X:Cx) (f:@cC) (r:R2):Prop:=
 ∀(pins:Dn) (s:kb) (σ:St) (H:Hp) (x y:V) (v u:kk) (Q:VK),Inv X pins σ H s->RelV x v->RelV y u->r x y H Q->
  lT @T X.A (f v u) (EP X pins σ Q) X.xe s
def nY (X:Cx) (f:kk) (r:eS V->Hp->VK->Prop):Prop:=
 ∀(pins:Dn) (s:kb) (σ:St) (H:Hp) (xs:eS V) (us:E') (Q:VK),Inv X pins σ H s->Vals xs us->r xs H Q->
  lT @T X.A (call f us) (EP X pins σ Q) X.xe s
noncomputable abbrev tOp (r:R2) (ta tb:TE):TE:=fun σ H Q=>ta σ H λx H1=>tb σ H1 λy H2=>r x y H2 Q
noncomputable def rI (C:Int->Int->Prop) (g:Int->Int->V):R2:=λx y H Q=>∃i j,x= .int i/\y= .int j/\C i j/\Q (g i j) H
noncomputable def rI0 (g:Int->Int->V):R2:=λx y H Q=>∃i j,x= .int i/\y= .int j/\Q (g i j) H
section
variable {X:Cx} {a b c:xo} {ta tb tc:TE} {pos:Pos}
theorem binT (ha:!E a ta) (hb:!E b tb) {pins:Dn} {s:kb} {σ:St} {H:Hp} {R:V->V->Hp->Prop} (I:@N)
  (h:ta σ H λx H1=>tb σ H1 λy H2=>R x y H2) {Q:D'} {f:@cC}
  (hf:∀v u O x y H2,Inv X pins σ H2 O->RelV x v->RelV y u->R x y H2->lT @T X.A (f v u) Q X.xe O):
  lT @T X.A (!az a) (λv L=>lT @T X.A (!az b) (λu Y=>lT @T X.A (f v u) Q X.xe Y) X.xe L) X.xe s:=by
 refine thn (ha pins s σ H _ I h) λv Z ⟨x,H1,δ,ζ,G⟩=>?_;refine thn (hb pins Z σ H1 _ δ G) λu O ⟨y,H2,γ,α,β⟩=>?_;exact hf v u O x y H2 γ ζ α β
theorem av {υ:Operator} {r:R2} (ho:!b8 X υ r) (ha:!E a ta) (hb:!E b tb):!E (.BinOp a υ b pos) (tOp r ta tb):=by
 intro pins s σ H Q I h;exact wpAny_BinOp @dF
theorem opI {f:@cC} {C:Int->Int->Prop} {g:Int->Int->Int}
  (rule:∀(i j:Int) (t u:Tok) (s:kb) (Q:D') (E:D'),C i j->Q (.int (g i j) s.toks) {s with toks:=s.toks + 1}->lT @T X.A (f (.int i t) (.int j u)) Q E s):
  OpR X f (rI C λi j=> .int (g i j)):=by
 intro pins s σ H x y v u Q I L G h;obtain⟨i,j,rfl,rfl,O,q⟩:=h;obtain⟨t,rfl⟩:=L;obtain⟨t',rfl⟩:=G;exact rule i j t t' s _ _ O ⟨.int (g i j),H,I.tok _,⟨_,rfl⟩,q⟩
theorem opI0 {f:@cC} {g:Int->Int->Int}
  (rule:∀(i j:Int) (t u:Tok) (s:kb) (Q:D') (E:D'),Q (.int (g i j) s.toks) {s with toks:=s.toks + 1}->lT @T X.A (f (.int i t) (.int j u)) Q E s):
  OpR X f (!bZ (g i j)):=by
 intro pins s σ H x y v u Q I L G h;obtain⟨i,j,rfl,rfl,q⟩:=h;obtain⟨t,rfl⟩:=L;obtain⟨t',rfl⟩:=G;exact rule i j t t' s _ _ ⟨.int (g i j),H,I.tok _,⟨_,rfl⟩,q⟩
theorem opB0 {f:@cC} {g:Int->Int->US}
  (rule:∀(i j:Int) (t u:Tok) (s:kb) (Q:D') (E:D'),Q (.bool (g i j)) s->lT @T X.A (f (.int i t) (.int j u)) Q E s):
  OpR X f (rI0 λi j=> .bl (g i j)):=by
 intro pins s σ H x y v u Q I L G h;obtain⟨i,j,rfl,rfl,q⟩:=h;obtain⟨t,rfl⟩:=L;obtain⟨t',rfl⟩:=G;exact rule i j t t' s _ _ ⟨.bl (g i j),H,I,rfl,q⟩
def CDiv (i j:Int):Prop:=0 < j/\j < 1073741824
def UE (i j:Int):Prop:=j≠0/\j.natAbs < 1073741824
def CPow (i j:Int):Prop:=0<=j/\j<=1000000/\i.natAbs < 2 ^ 64
def CMul (i j:Int):Prop:=(-(2 ^ 64) < i/\i < 2 ^ 64)∨(-(2 ^ 64) < j/\j < 2 ^ 64)
theorem CMul.ok {i j:Int} (h:CMul i j):IntMulOk i j:=by
 rcases h with ⟨h1,h2⟩ | ⟨h1,h2⟩
 ·exact .of_left (intBits_le_64 h1 h2)
 ·exact .of_right (intBits_le_64 h1 h2)
theorem FQ (k:Nat):(0:Int)<=2 ^ k:=by
 rw[two_pow_cast];exact WT _
theorem cL:!b8 X .Add (!bZ (i + j)):=opI0 λ_ _ _ _ _ _ _ q=>add_int q
theorem mf:!b8 X .Sub (!bZ (i - j)):=opI0 λ_ _ _ _ _ _ _ q=>sub_int q
theorem ki:!b8 X .Mult (rI CMul λi j=> .int (i * j)):=opI λ_ _ _ _ _ _ _ hc q=>mul_int q hc.ok
theorem z8:!b8 X .FloorDiv (rI CDiv λi j=> .int (i / j)):=opI λi j _ _ _ _ _ hc q=>by
 have h1:(0:Int) < j:=hc.1;have h2:j < 1073741824:=hc.2;exact floordiv_int @A (by rw[Zx i @A];exact q) (!J (PyProof.noPylong_small @A))
theorem eJ:!b8 X .Mod (rI (λ_ j=>0 < j) λi j=> .int (i % j)):=opI λi j _ _ _ _ _ hc q=>by
 have h1:(0:Int) < j:=hc;exact mod_int' @A (by rw[Int.fmod_eq_emod_of_nonneg i @A];exact q)
theorem Sf:!b8 X .Pow (rI CPow λi j=> .int (i ^ j.toNat)):=opI λ_ _ _ _ _ _ _ hc q=>pow_int_small hc.1 hc.2.1 hc.2.2 q
theorem fw:!b8 X .LShift (rI CPow λi j=> .int (i * 2 ^ j.toNat)):=opI λ_ _ _ _ _ _ _ hc q=>lshift_int_small hc.1 hc.2.1 hc.2.2 q
theorem wF:!b8 X .RShift (rI (λ_ j=>0<=j) λi j=> .int (i / 2 ^ j.toNat)):=opI λi j _ _ _ _ _ hc q=>
 rshift_int hc (by rw[Zx i (FQ _)];exact q)
theorem mh:!b8 X .BitAnd (!bZ (Vx i j)):=opI0 λ_ _ _ _ _ _ _ q=>and_int q
theorem iB:!b8 X .BitXor (!bZ (U5 i j)):=opI0 λ_ _ _ _ _ _ _ q=>xor_int q
end
noncomputable def scal:V->V->US
 | .non,.non=>true | .non,.int _=>true | .int _,.non=>true | .non,.bl _=>true | .bl _,.non=>true | .non,.str _=>true | .str _,.non=>true
 | .int _,.int _=>true | .bl _,.bl _=>true | .str _,.str _=>true | .byt _,.byt _=>true
 | .int _,.str _=>true | .str _,.int _=>true | .bl _,.str _=>true | .str _,.bl _=>true
 | _,_=>false
noncomputable def rEq:R2:=λx y H Q=>scal x y=true/\Q (.bl (decide (x=y))) H
noncomputable def rNe:R2:=λx y H Q=>scal x y=true/\Q (.bl (!decide (x=y))) H
theorem KO {i j:Int}:decide (V.int i=V.int j)=(i == j):=by
 rw[VI];simp
theorem Oy {i j:US}:decide (V.bl i=V.bl j)=(i == j):=by
 rw[VI];simp
theorem KN {i j:lA}:decide (V.str i=V.str j)=(i == j):=by
 rw[VI];simp
theorem KP {i j:ae6 UInt8}:decide (V.byt i=V.byt j)=(i.toList == j.toList):=by
 rw[VI];cases i;cases j;simp
section
variable {X:Cx} {a b c:xo} {ta tb tc:TE} {pos:Pos}
theorem cS {pins:Dn} {σ:St} {H:Hp} {s:kb} {Q:VK} {k G:US} (I:@N) (q:Q (.bl k) H) (e:k=G):EP X pins σ Q (.bool G) s:=by
 subst e;exact⟨.bl k,H,I,rfl,q⟩
theorem lR:!aN X .Eq rEq:=by
 intro pins s σ H x y v u Q I L G h;obtain⟨hs,q⟩:=h;cases x with
 | non=>
   cases L;cases y with
   | non=>cases G;exact PySem.EqNone.eq_none_none (!aC I q)
   | bl j=>cases G;exact PySem.EqNone.eq_none_bool (!aC I q)
   | int j=>obtain⟨t',rfl⟩:=G;exact PySem.EqNone.eq_none_int (!aC I q)
   | str j=>obtain⟨t',rfl⟩:=G;exact PySem.EqNone.eq_none_str (!aC I q)
   | _=>exact hF (show false=true from hs) ia
 | bl i=>
   cases L;cases y with
   | non=>cases G;exact PySem.EqNone.eq_bool_none (!aC I q)
   | bl j=>cases G;exact eq_bool (cS I q Oy)
   | str j=>obtain⟨t',rfl⟩:=G;exact PySem.EqMixed.eq_bool_str (!aC I q)
   | _=>exact hF (show false=true from hs) ia
 | int i=>
   obtain⟨t,rfl⟩:=L;cases y with
   | non=>cases G;exact PySem.EqNone.eq_int_none (!aC I q)
   | int j=>obtain⟨t',rfl⟩:=G;exact eq_int (cS I q KO)
   | str j=>obtain⟨t',rfl⟩:=G;exact PySem.EqMixed.eq_int_str (!aC I q)
   | _=>exact hF (show false=true from hs) ia
 | str i=>
   obtain⟨t,rfl⟩:=L;cases y with
   | non=>cases G;exact PySem.EqNone.eq_str_none (!aC I q)
   | bl j=>cases G;exact PySem.EqMixed.eq_str_bool (!aC I q)
   | int j=>obtain⟨t',rfl⟩:=G;exact PySem.EqMixed.eq_str_int (!aC I q)
   | str j=>obtain⟨t',rfl⟩:=G;exact eq_str (cS I q KN)
   | _=>exact hF (show false=true from hs) ia
 | byt i=>
   obtain⟨t,rfl⟩:=L;cases y with
   | byt j=>obtain⟨t',rfl⟩:=G;exact PySem.W.eq_bytes (cS I q KP)
   | _=>exact hF (show false=true from hs) ia
 | _=>cases y<;>exact hF (show false=true from hs) ia
theorem MG:!aN X .NotEq rNe:=by
 intro pins s σ H x y v u Q I L G h;obtain⟨hs,q⟩:=h;cases x with
 | non=>
   cases L;cases y with
   | non=>cases G;exact PySem.EqNone.ne_none_none (!aC I q)
   | bl j=>cases G;exact PySem.EqNone.ne_none_bool (!aC I q)
   | int j=>obtain⟨t',rfl⟩:=G;exact PySem.EqNone.ne_none_int (!aC I q)
   | str j=>obtain⟨t',rfl⟩:=G;exact PySem.EqNone.ne_none_str (!aC I q)
   | _=>exact hF (show false=true from hs) ia
 | bl i=>
   cases L;cases y with
   | non=>cases G;exact PySem.EqNone.ne_bool_none (!aC I q)
   | bl j=>cases G;exact ne_bool (cS I q (px not Oy))
   | str j=>obtain⟨t',rfl⟩:=G;exact PySem.EqMixed.ne_bool_str (!aC I q)
   | _=>exact hF (show false=true from hs) ia
 | int i=>
   obtain⟨t,rfl⟩:=L;cases y with
   | non=>cases G;exact PySem.EqNone.ne_int_none (!aC I q)
   | int j=>obtain⟨t',rfl⟩:=G;exact ne_int (cS I q (px not KO))
   | str j=>obtain⟨t',rfl⟩:=G;exact PySem.EqMixed.ne_int_str (!aC I q)
   | _=>exact hF (show false=true from hs) ia
 | str i=>
   obtain⟨t,rfl⟩:=L;cases y with
   | non=>cases G;exact PySem.EqNone.ne_str_none (!aC I q)
   | bl j=>cases G;exact PySem.EqMixed.ne_str_bool (!aC I q)
   | int j=>obtain⟨t',rfl⟩:=G;exact PySem.EqMixed.ne_str_int (!aC I q)
   | str j=>obtain⟨t',rfl⟩:=G;exact ne_str (cS I q (px not KN))
   | _=>exact hF (show false=true from hs) ia
 | byt i=>
   obtain⟨t,rfl⟩:=L;cases y with
   | byt j=>obtain⟨t',rfl⟩:=G;exact PySem.W.ne_bytes (cS I q (px not KP))
   | _=>exact hF (show false=true from hs) ia
 | _=>cases y<;>exact hF (show false=true from hs) ia
theorem GF:!aN X .Lt (!c7 (i < j)):=opB0 λ_ _ _ _ _ _ _ q=>lt_int q
theorem Um:!aN X .LtE (!c7 (i<=j)):=opB0 λ_ _ _ _ _ _ _ q=>le_int q
theorem qP:!aN X .Gt (!c7 (j < i)):=opB0 λ_ _ _ _ _ _ _ q=>gt_int q
theorem Sh:!aN X .GtE (!c7 (j<=i)):=opB0 λ_ _ _ _ _ _ _ q=>ge_int q
theorem Bx:!aN X .In (λx y H Q=>∃i j,x= .str i/\y= .str j/\Q (.bl (!(Xr j i 0 j.length 1).isEmpty)) H):=by
 intro pins s σ H x y v u Q I L G h;obtain⟨i,j,rfl,rfl,q⟩:=h;obtain⟨t,rfl⟩:=L;obtain⟨t',rfl⟩:=G;exact in_str (cS I q rfl)
theorem P2:!aN X .IsNot (λx y H Q=>y= .non/\Q (.bl (!decide (x= .non))) H):=by
 intro pins s σ H x y v u Q I G L h;obtain⟨rfl,q⟩:=h;cases L;refine isnot_none_gen (cS I q ?_)
 cases x<;>first
  | (cases G;rfl)
  | (obtain⟨t,rfl⟩:=G;rfl)
theorem bo (b:xo) {υ:CmpOp} (h:υ≠.In:=by decide) (h2:υ≠.NotIn:=by decide):behindInMarks υ b=false:=by
 have L:(υ == CmpOp.In)=false:=by cases υ<;>first | rfl | exact hF rfl h
 have G:(υ == CmpOp.NotIn)=false:=by cases υ<;>first | rfl | exact hF rfl h2
 cases b<;>simp[behindInMarks,L,G]
theorem jq {υ:CmpOp} {r:R2} (ho:!aN X υ r) (ha:!E a ta) (hb:!E b tb) (hm:behindInMarks υ b=false):!E (.Compare a [υ] [b] pos) (tOp r ta tb):=by
 intro pins s σ H Q I h;exact wpAny_Compare1 @dF hm
noncomputable abbrev TV (t:TE):TT:=fun σ H Q=>t σ H λx H'=>∃k,x= .bl k/\Q k H'
theorem aV {υ:CmpOp} {r:R2} (ho:!aN X υ r) (ha:!E a ta) (hb:!E b tb) (hm:behindInMarks υ b=false):PT X (.Compare a [υ] [b] pos) (TV (tOp r ta tb)):=by
 intro pins s σ H Q I h
 refine ad9 (thn (ha pins s σ H _ I h) λv O ⟨x,H1,δ,ζ,G⟩=>thn (hb pins O σ H1 _ δ G) λu L ⟨y,H2,γ,Z,β⟩=>
  thn (ho pins L σ H2 x y v u _ γ ζ Z β) λc η ⟨z,ε,φ,Y,k,e,α⟩=>?_) hm
 subst e;cases Y;exact W8 ⟨ε,φ,α⟩
theorem BK:(kf:Nat) < 2 ^ 63:=by rw[ix];decide
theorem eW:!b8 X .Add (λx y H Q=>∃i j,x= .str i/\y= .str j/\i.length + j.length<=kf/\Q (.str (i++j)) H):=by
 intro pins s σ H x y v u Q I L G h;obtain⟨i,j,rfl,rfl,hz,q⟩:=h;obtain⟨t,rfl⟩:=L;obtain⟨t',rfl⟩:=G;exact add_str (λt' tk=>⟨.str (i++j),H,I.tok _,⟨_,rfl⟩,q⟩) hz
theorem vT {x:V} {us:E'} (r:Vals [x] us):∃u,us=[u]/\RelV x u:=by
 cases r with
 | cons ζ G=>cases G;exact⟨_,rfl,ζ⟩
theorem Ig {x y:V} {us:E'} (r:Vals [x,y] us):∃u τ,us=[u,τ]/\RelV x u/\RelV y τ:=by
 cases r with
 | cons ζ O=>
   cases O with
   | cons L G=>cases G;exact⟨_,_,rfl,ζ,L⟩
theorem K0 (hc:@aI):nY X (!ao "max") (λxs H Q=>∃i j,xs=[.int i,.int j]/\Q (.int (if j > i then j else i)) H):=by
 intro pins s σ H xs us Q I r h;obtain⟨i,j,rfl,q⟩:=h;obtain⟨u,τ,rfl,⟨t,rfl⟩,⟨t',rfl⟩⟩:=Ig r;refine max_two_ints @be λh' tk k=>⟨_,H,I.kept k,?_,q⟩;by_cases G:j > i
 ·rw[oL G,oL G];exact⟨_,rfl⟩
 ·rw[mu G,mu G];exact⟨_,rfl⟩
theorem kZ:nY X (!ai "str") (λxs H Q=>∃i,xs=[.int i]/\i.natAbs.log2 < 1920/\Q (.str (toString i)) H):=by
 intro pins s σ H xs us Q I r h;obtain⟨i,rfl,hz,q⟩:=h;obtain⟨u,rfl,t,rfl⟩:=vT r;exact PySem.P.str_of_int hz ⟨.str _,H,I.tok _,⟨_,rfl⟩,q⟩
def LenV (K:b') (x:V) (H:Hp) (n:Nat):Prop:=
 match x with
 | .str y=>y.length<=kf/\n=y.length
 | .byt y=>y.size<=kf/\n=y.size
 | .ref p=>(∃xs,SqL K H p xs/\n=xs.length)∨∃xs,SqT K H p xs/\n=xs.length
 | _=>False
theorem Nq:nY X (!ao "len") (λxs H Q=>∃x n,xs=[x]/\LenV X.K x H n/\Q (.int n) H):=by
 intro pins s σ H xs us Q I r h;obtain⟨x,n,rfl,e,q⟩:=h;obtain⟨u,rfl,O⟩:=vT r;have hl:=BK;have hs:kf=16777216:=ix;cases x with
 | str y=>
   obtain⟨t,rfl⟩:=O;obtain⟨Z,L⟩:y.length<=kf/\n=y.length:=e;subst L;exact len_str @A @dv
 | byt y=>
   obtain⟨t,rfl⟩:=O;obtain⟨Z,L⟩:y.size<=kf/\n=y.size:=e;subst L;exact PySem.W.len_bytes @A @dv
 | ref p=>
   cases O;have L:(∃xs,SqL X.K H p xs/\n=xs.length)∨∃xs,SqT X.K H p xs/\n=xs.length:=e;rcases L with ⟨xs,Y,L⟩ | ⟨xs,Y,L⟩
   ·subst L;obtain⟨its,r',pl,hz⟩:=I.list Y;have G:=r'.length;exact Calls.call_len_list pl.isList (by simp only[qb];omega) ⟨.int xs.length,H,I.tok _,⟨_,by simp only[qb];rw[G]⟩,q⟩
   ·subst L;obtain⟨its,r',pl,hz⟩:=I.tuple Y;have G:=r'.length;exact len_tuple pl (by simp only[qb];omega) ⟨.int xs.length,H,I.tok _,⟨_,by simp only[qb];rw[G]⟩,q⟩
 | _=>exact(show False from e).elim
end
structure ObjM (h:zx) (x dx C:ee) (mA:F'):Prop where
 obj:h.get? x=ak (VY C dx)
 ns:h.Ns1 dx mA
 ne:dx≠x
theorem JX {h:zx} {dx:ee} {mA:F'} (n:h.Ns1 dx mA):∃od,h.get? dx=ak od/\∀name,Ya name od=ak (mA name):=by
 obtain⟨o,es,ep,ho,hd,hk,_,hm⟩:=n;refine⟨o,ho,λname=>?_⟩;have e:=hm name;unfold nsFind findBy at e;rw[<-Array.find?_toList] at e;unfold Ya;rw[hd];dsimp only;split
 ·rename_i y q;rw[q] at e;exact px ak e
 ·rename_i q;rw[q] at e
  have a:es.toList.any (·.refKey)=false:=by
   rw[List.any_eq_false];intro y L;obtain⟨z,t,G⟩:=hk y (Array.mem_toList_iff.mp L);simp[DictEntry.refKey,G]
  have Z:¬es.toList.any (·.refKey)=true:=by rw[a];exact ia
  rw[mu Z];exact px ak e
theorem ObjM.look {h:zx} {x dx C:ee} {mA:F'} (I:ObjM h x dx C mA):∃od,PySem.W.InstAt h x (VY C dx) C (ak od)/\∀name,Ya name od=ak (mA name):=
 let ⟨od,ho,hl⟩:=JX I.ns
 ⟨od,⟨I.obj,rfl,rfl,ho⟩,hl⟩
section
variable {prog:pT} {w:z0} {A:xY} {E:D'} {s:kb} {K:b'} {x dx C f:ee} {mA:F'} {name:lA} {v:kk}
theorem aA {φ:US} {Q:D'} (X:K.In s.heap) (I:ObjM s.heap x dx C mA) (L:XI K C name=true) (τ:YC K C=true)
  (ha:wb K @a9 name=ak f') (G:mA name=ak v) (χ:YG v=true) (h:Q v {s with toks:=s.toks + 1}):
  lT @a3 A (getAttr (!j x) name φ) Q E s:=by
 obtain⟨od,J,hl⟩:=I.look;exact PySem.W.get_value X J (Yf L).1 (PySem.W.findObj_own τ ha rfl (by rw[hl,G])) χ h
theorem M6 {pl:Sem US} {Q:kk×eS kk->kb->Prop} (X:K.In s.heap) (I:ObjM s.heap x dx C mA) (G:XI K C name=true)
  (hf:wb K @a9 name=ak (ak @a6)) (ht:YA K @a6=true) (L:mA name=f') (h:Q (.ref f,[.ref x]) s):
  lT @a3 A (getMethod (!j x) name pl) Q E s:=by
 obtain⟨od,J,hl⟩:=I.look;exact PySem.W.method_fn X J (Yf G).1 (Yf G).2 hf (Yk.mp ht) (by show(Ya name od).map (·.isSome)=ak false;rw[hl,L];rfl) h
theorem Pl {ns:C'} {Q:L'} (X:K.In s.heap) (I:ObjM s.heap x dx C mA)
  (hs:wb K @a9 "__setattr__"=ak (ak @bp)) (Z:aa2 K C=true) (ht:YY K C name=ak f') (τ:YC K C=true)
  (hw:ZG mA ns) (hsz:ns.length<=kf)
  (h:∀h',ObjM h' x dx C (λy=>if y=name then ak v else mA y)->Xm dx s.heap h'->Q () {s with heap:=h',toks:=s.toks + 2}):
  lT @a3 A (setAttr (!j x) name v) Q E s:=by
 obtain⟨od,J,hl⟩:=I.look;refine PySem.W.set_plain X J hs (PySem.W.osa_open (s:={s with toks:=s.toks + 1}) (r:=f') X J Z ht λb=>?_);obtain⟨χ,α,γ⟩:=PySem.W.any_some τ;have Y:s.heap.get? x=ak ⟨@a9,ak dx,.plain,#[]⟩:=I.obj;refine gn (nr (gn (gn (wpAny_loadPart Y (gn (PySem.W.Looks.here (s:={s with toks:=s.toks + 1}) (PySem.W.looks_clsIn X α) ?_))))));rw[γ];refine nr (a:=ak dx) (gn (nr (gn ?_)));refine wpAny_nsSet1 (s:={s with toks:=s.toks + 1}) I.ns λh' L G=>?_;obtain⟨β,ν,ξ,ψ,ω,O⟩:=L.count (PySem.Within.cons name v hw);refine gn (wpAny_lookBehind ψ (by rw[ω];exact pastItsLine_dict (Vs O (by rw[pA];omega))) ?_);exact nr (h _ ⟨(G.2 _ (ro I.ne)).trans I.obj,L,I.ne⟩ G)
theorem MQ {R:U0} {vs:E'} {L:U2} (X:K.In s.heap) (hm:ac2 K C=true)
  (hi:wb K @a9 "__init__"=ak (ak @a6)) (hf:ad2 K @a6=ak (!ai "function"))
  (h:codeAny @a3 (A.under (!bY ⟨.ref C::vs,L⟩)) (.call @a6 ⟨.ref @am::vs,L⟩) (PySem.W.InitBack @am R)
   {s with heap:=(@ck).push (!c9 C)}):
  codeAny @a3 A (.call @a9 ⟨vs,L⟩) R s:=by
 obtain⟨τ,g,d,t,os⟩:=s;exact PySem.W.make_core (PySem.W.makes_of X hm) (PySem.W.looks_findIn X hi) (λself=>PySem.W.bind_fn X self hf) @aj h
end
noncomputable def putF (f:lA) (v:V):eS (lA×V)->eS (lA×V)
 | []=>[(f,v)]
 | (g,x)::r=>if g=f then (g,v)::r else (g,x)::putF f v r
theorem xt (f g:lA) (v:V):∀fs:eS (lA×V),(putF f v fs).lookup g=if g=f then ak v else fs.lookup g
 | []=>by
   show Xd g [(f,v)]=_;by_cases h:g=f
   ·have hb:(g == f)=true:=Yk.mpr h;simp only[Xd,hb,oL h]
   ·have hb:(g == f)=false:=vr.mpr h;simp only[Xd,hb,mu h]
 | (k,x)::r=>by
   have ih:=xt f g v r;rw[show putF f v ((k,x)::r)=(if k=f then (k,v)::r else (k,x)::putF f v r) from rfl];by_cases hk:k=f
   ·rw[oL hk];by_cases h:g=k
    ·have hb:(g == k)=true:=Yk.mpr h;simp only[Xd,hb,oL (h.trans hk)]
    ·have hb:(g == k)=false:=vr.mpr h;simp only[Xd,hb,mu (λe:g=f=>h (e.trans hk.symm))]
   ·rw[mu hk];by_cases h:g=k
    ·have hb:(g == k)=true:=Yk.mpr h;simp only[Xd,hb,mu (λe:g=f=>hk (h.symm.trans e))]
    ·have hb:(g == k)=false:=vr.mpr h;simp only[Xd,hb];exact ih
theorem xG (f:lA) (v:V):∀fs:eS (lA×V),f∈(putF f v fs).map (·.1)/\∀g,g∈fs.map (·.1)->g∈(putF f v fs).map (·.1)
 | []=>⟨by simp[putF],λg h=>by simp at h⟩
 | (k,x)::r=>by
   obtain⟨i1,i2⟩:=xG f v r;rw[show putF f v ((k,x)::r)=(if k=f then (k,v)::r else (k,x)::putF f v r) from rfl];by_cases hk:k=f
   ·rw[oL hk];subst hk;exact⟨@C,λg h=>by simpa using h⟩
   ·rw[mu hk];refine⟨?_,λg h=>?_⟩
    ·rw[UL];exact ik _ i1
    ·rw[UL] at h ⊢;rcases qq.mp h with e | e
     ·exact qq.mpr (!J e)
     ·exact ik _ (i2 g e)
theorem xw (f:lA) (v:V):∀fs:eS (lA×V),(putF f v fs).length<=fs.length + 1
 | []=>by simp[putF]
 | (k,x)::r=>by
   have ih:=xw f v r;rw[show putF f v ((k,x)::r)=(if k=f then (k,v)::r else (k,x)::putF f v r) from rfl];by_cases hk:k=f
   ·rw[oL hk,pA,pA];omega
   ·rw[mu hk,pA,pA];omega
theorem RelO.some_of {v:V} {o:U3} (r:RelO @aC o):∃u,o=ak u/\RelV v u:=by
 cases o with
 | none=>exact(show False from r).elim
 | some u=>exact⟨u,rfl,r⟩
theorem RelO.none_of {o:U3} (r:RelO f' o):o=none:=by
 cases o with
 | none=>rfl
 | some u=>exact(show False from r).elim
theorem Kk {v:V} {u:kk} (r:!aG v):YG u=true:=by
 cases v with
 | non=>cases(show u=V5 from r);rfl
 | bl b=>cases(show u=ab2 b from r);rfl
 | int i=>obtain⟨t,e⟩:=(show ∃t,u=Zz i t from r);cases e;rfl
 | str x=>obtain⟨t,e⟩:=(show ∃t,u=YT x t from r);cases e;rfl
 | byt b=>obtain⟨t,e⟩:=(show ∃t,u=ah5 b t from r);cases e;rfl
 | flt b=>obtain⟨t,e⟩:=(show ∃t,u=ah4 b t from r);cases e;rfl
 | ref a=>cases(show u=p' a from r);rfl
 | ty n=>cases(show u=Xp n from r);rfl
section
variable {P:pT} {w:z0} {H H':Hp} {h h':zx} {a C dx:ee} {fs fs':eS (lA×V)}
theorem Ek (hok:HOk P w H h) (e:!aV @aq):∃mA,ObjM h a dx C mA/\(∀f,RelO (fs.lookup f) (mA f))/\ZG mA (fs.map (·.1))/\fs.length<=1000/\H dx=ak (.own a):=by
 obtain⟨d,z,ne,ob,mA,n,r,q⟩:=(show ip P w H h a @aq from hok a _ e);exact⟨mA,⟨ob,n,ne⟩,r,q,z,d⟩
end
structure Cls (K:b') (C:ee):Prop where
 pg:XI K C Xs=true
 hd:YC K C=true
 po:aa2 K C=true
 sa:wb K @a9 "__setattr__"=ak (ak @bp)
theorem Cls.get {K:b'} {C:ee} (c:Cls K C) (f:lA):XI K C f=true:=c.pg
def cI (K:b') (C:ee) (f:lA):Prop:=wb K @a9 f=ak f'
theorem cI.taker {K:b'} {C:ee} {f:lA} (n:cI K C f):YY K C f=ak none:=by
 unfold YY;rw[show wb K @a9 f=ak f' from n];rfl
structure Con (K:b') (C:ee) (f:lA) (v:V) (u:kk):Prop where
 at_:wb K @a9 f=ak (ak u)
 rel:RelV v u
 get:Wk K u "__get__"=ak f'
 cp:PySem.W.copiedNames.contains f=false
structure Meth (K:b') (C:ee) (m:lA) (f:ee):Prop where
 at_:wb K @a9 m=ak (ak @a6)
 fn:YA K @a6=true
 kp:Vk K @a6=true
section
variable {X:Cx} {pins:Dn} {σ:St} {H:Hp} {s:kb} {a C dx:ee} {fs:eS (lA×V)} {f:lA} {v:V} {A:xY} {E:D'}
theorem G5 {b:US} {Q:D'} (I:@N) (e:!aV @aq) (c:Cls X.K C) (n:cI X.K C f) (l:fs.lookup f=ak v)
  (h:∀u s',Inv X pins σ H s'->RelV v u->Q u s'):lT @T A (getAttr @aa f b) Q E s:=by
 obtain⟨mA,O,r,_,_,_⟩:=Ek I.hok e;obtain⟨u,hu,G⟩:=RelO.some_of (v:=v) (o:=mA f) (by rw[<-l];exact r f);exact aA I.kIn O (c.get f) c.hd n hu (Kk G) (h u _ @bh G)
theorem ui {m:lA} {g:ee} {pl:Sem US} {Q:kk×eS kk->kb->Prop} (I:@N) (e:!aV @aq) (c:Cls X.K C) (k:Meth X.K C m g) (l:fs.lookup m=f')
  (h:Q (.ref g,[.ref a]) s):lT @T A (getMethod @aa m pl) Q E s:=by
 obtain⟨mA,O,r,_,_,_⟩:=Ek I.hok e;have hn:mA m=none:=RelO.none_of (by rw[<-l];exact r m);exact M6 I.kIn O (c.get m) k.at_ k.fn hn h
theorem Gb {y:V} {u:kk} {Q:L'} (I:@N) (e:!aV @aq) (c:Cls X.K C) (n:cI X.K C f) (hl:fs.length < 1000) (Y:!aG y)
  (h:∀s',Inv X pins σ (!Y a (!aH (putF f y fs))) s'->Q () s'):lT @T A (setAttr @aa f u) Q E s:=by
 obtain⟨mA,O,r,G,_,ho⟩:=Ek I.hok e;have hz:(fs.map (·.1)).length<=sizeLine:=by rw[aI,ix];omega
 refine Pl I.kIn O c.sa c.po n.taker c.hd G hz λh' O' L=>h _ ?_;have hd:∃o,h'.get? dx=ak o:=let ⟨o,_,_,α,_⟩:=O'.ns;⟨o,α⟩
 refine I.write (x:=a) (e:=dx) (by rw[e];exact Y3) (!F ho) (λb q hb z=>(L.2 b hb).trans z) hd ?_;refine⟨by rw[aH O.ne];exact ho,?_,O.ne,O'.obj,_,O'.ns,λg=>?_,λg Z=>?_⟩
 ·have:=xw f y fs;omega
 ·show RelO ((putF f y fs).lookup g) (if g=f then ak u else mA g);rw[xt];by_cases q:g=f
  ·rw[oL q,oL q];exact Y
  ·rw[mu q,mu q];exact r g
 ·by_cases q:g=f
  ·rw[q];exact(xG f y fs).1
  ·refine(xG f y fs).2 g (G g λz=>Z ?_);show(if g=f then ak u else mA g)=f';rw[mu q];exact z
theorem Inv.made (I:@N):Inv X pins σ (upd (!Y s.heap.objs.size (.own @am)) @am (.ins C s.heap.objs.size []))
  {s with heap:=(@ck).push (!c9 C)}:=by
 have G:(@ck).get? s.heap.objs.size=ak PySem.W.emptyDict:=mc s.heap rfl
 have Y:((@ck).push (!c9 C)).get? @am=ak (!c9 C):=by
  have:=mc @ck (o:=VY C s.heap.objs.size) rfl;rwa [Xx] at this
 have O:(@ck).Ns s.heap.objs.size (λ_=>f'):=⟨VE,#[],_,G,rfl,(λe he=>hF he @C),λ_=>rfl⟩;have I1:=I.laid (a:=s.heap.objs.size) (o:= .own @am) (h':=s.heap.push VE) (t':=s.toks) (λb u q=>gB _ q) @Y ⟨_,G⟩;refine I1.laid (a:=s.heap.objs.size + 1) (o:= .ins C s.heap.objs.size []) (t':=s.toks) (λb u q=>gB _ q) (Yq (Xx _ _)) ?_;have ne:s.heap.objs.size≠s.heap.objs.size + 1:=u' (VP _);refine⟨by rw[aH ne,ay],Vh _,ne,Y,λ_=>f',(Heap.Ns1.of_empty O).at λo q=>gB _ q,λ_=>Y3,λy L=>hF rfl L⟩
theorem Qx {prog:pT} {w:z0} {env:Env} {e:xo} {f:lA} {pos:Pos} {s:kb} {Q:D'} (hb:attributeBase e f env (eval e env)=eval e env)
  (h:lT @a3 A (eval e env) (λo G=>lT @a3 A (getAttr o f true) Q E G) E s):lT @a3 A (eval (.Attribute e f pos) env) Q E s:=
 Attribute_any_ h (by rw[arm_eval_Attribute,hb])
end
noncomputable def tFld (K:b') (ta:TE) (f:lA):TE:=fun σ H Q=>ta σ H λx H1=>∃a C dx fs v,x= .ref a/\H1 a=ak @aq/\Cls K C/\cI K C f/\fs.lookup f=ak v/\Q v H1
noncomputable def sFld (K:b') (ta tv:TE) (f:lA):TS:=λD σ H=>tv σ H λy H1=>ta σ H1 λx H2=>∃a C dx fs,x= .ref a/\H2 a=ak @aq/\Cls K C/\cI K C f/\fs.length < 1000/\
 D.nx σ (upd H2 a (!aH (putF f y fs)))
section
variable {X:Cx} {o e value:xo} {f:lA} {pos pos' tpos:Pos} {ta tv:TE}
theorem Sa (he:!E e ta) (hb:attributeBase e f X.env (!az e)=eval e X.env):!E (.Attribute e f pos) (tFld X.K ta f):=by
 intro pins s σ H Q I h;refine Qx hb (thn (he pins s σ H _ I h) λu α zq=>?_);obtain⟨x,H1,Y,G,a,C,dx,fs,v,ex,ea,c,n,l,q⟩:=zq;subst ex;obtain rfl:u=p' a:=G;exact G5 Y ea c n l fun η Z O L=>⟨v,H1,O,L,q⟩
theorem R3 (ha:!E o ta) (α:!E value tv) (hs:!cn (.Attribute o f pos')):PS X (.Assign [.Attribute o f pos'] value pos) (sFld X.K ta tv f):=by
 intro pins s σ H D I h;refine plainObj_wpAny_Assign_Attribute (thn (α pins s σ H _ I h) λu G ⟨y,H1,γ,L,q⟩=>thn (ha pins G σ H1 _ γ q) λZ ε zq=>?_) hs;obtain⟨x,H2,β,O,a,C,dx,fs,ex,ea,c,n,l,Y⟩:=zq;subst ex;obtain rfl:Z=p' a:=O;exact Gb β ea c n l L fun δ φ=>⟨σ,_,φ,Y⟩
end
section
variable {X:Cx} {pins:Dn} {σ:St} {H:Hp} {s:kb} {A:xY} {E:D'} {Q:D'} {c:kk} {b:US}
inductive TyOf (K:b') (H:Hp):V->kk->Prop where
 | non:TyOf K H .non (.type "NoneType")
 | bl (x:US):TyOf K H (.bl x) (.type "bool")
 | int (i:Int):TyOf K H (.int i) (.type "int")
 | str (x:lA):TyOf K H (.str x) (.type "str")
 | flt (x:UInt64):TyOf K H (.flt x) (!ai "float")
 | lst {a:ee} {xs:eS V} (e:!aV @al):TyOf K H @aa @bN
 | frz {a:ee} {o:Zs} {xs:eS V} (e:!aV (.frz o @al)):TyOf K H @aa @bN
 | tup {a:ee} {xs:eS V} (e:!aV @ax):TyOf K H @aa (!ai "tuple")
 | dK {a:ee} {kvs:@ak} (e:!aV @ah):TyOf K H @aa (!ai "dict")
 | dT {a:ee} {kvs:@br} (e:!aV (.dT kvs)):TyOf K H @aa (!ai "dict")
 | ins {a C dx:ee} {fs:@as} (e:!aV @aq) (cl:Cls K C) (ha:wb K @a9 "__class__"=ak (ak @bu))
   (hn:Wk K @bu "__get__"=ak (ak @dl)) (htk:YX K @bu=ak true)
   (hm:V' K C (!ai "object")=ak true):TyOf K H @aa @a9
end
structure Room (k:Nat) (A:xY):Prop where
 hd:A.handled=f'
 dp:A.depth + 3 * k + 5 < recursionLimit
 un:A.units + 16 * k + 200 < cLine
theorem Room.mono {j k:Nat} {A:xY} (r:!aX A) (h:j<=k):Room j A:=⟨r.hd,by have:=r.dp;omega,by have:=r.un;omega⟩
theorem Room.deeper {k:Nat} {A:xY} (r:Room @b4 A) (env:Env):!aX (A.deeper env):=
 ⟨r.hd,by have:=r.dp;show A.depth + 1 + 3 * k + 5 < _;omega,by have:=r.un;show A.units + 3 + 16 * k + 200 < _;omega⟩
theorem GQ {A:xY} {C:ee} {us:E'} {L:U2}:(A.under (!bY @cZ)).depth=A.depth + 1:=by
 first | rfl | simp[ZA,Code.weight,Code.isCreation,Code.isGuard,Code.isCaller,Code.frames,ZO,guardIds]
theorem GP {A:xY} {C:ee} {us:E'} {L:U2}:(A.under (!bY @cZ)).units=A.units + 1:=by
 first | rfl | simp[ZA,Code.cUnits,Code.frames,ZO]
theorem Room.make {k:Nat} {A:xY} (r:Room @b4 A) (C:ee) (us:E') (L:U2):!aX (A.under (!bY @cZ)):=
 ⟨r.hd,by have:=r.dp;rw[GQ];omega,by have:=r.un;rw[GP];omega⟩
theorem Room.depth {k:Nat} {A:xY} (r:!aX A):A.depth < recursionLimit:=by have:=r.dp;omega
theorem Room.units {k:Nat} {A:xY} (r:!aX A):A.units + 64 < cLine:=by have:=r.un;omega
noncomputable abbrev tNil:TA:=λ_ H Q=>Q [] H
noncomputable abbrev T1 (ta:TE) (tr:TA):TA:=fun σ H Q=>ta σ H λx H1=>tr σ H1 λxs H2=>Q (x::xs) H2
section
variable {X:Cx} {e:xo} {es:eS xo} {te:TE} {t:TA} {pos:Pos}
theorem af:PA X [] tNil:=λ_ _ _ _ H Q I h=>YK ⟨[],H,I,.nil,h⟩
theorem aa (ha:!E e te) (Z:PA X es t) (hs:ov @V X.env=(false,eval e X.env)::ov es X.env:=by rfl):PA X @V (T1 te t):=by
 intro pos pins s σ H Q I h;rw[hs];show lT _ _ (spliced ((false,eval e X.env)::backTo pos (ov es X.env))) _ _ s;refine YD (thn (ha pins s σ H _ I h) λu L ⟨x,H1,β,ζ,G⟩=>?_);exact thn (Z pos pins L σ H1 _ β G) λus γ ⟨xs,H2,α,O,Y⟩=>⟨x::xs,H2,α,.cons ζ O,Y⟩
noncomputable def tTup (t:TA):TE:=fun σ H Q=>t σ H λxs H1=>xs.length<=kf/\∀p,H1 p=f'->Q @P (upd H1 p @ax)
noncomputable def tLst (t:TA):TE:=fun σ H Q=>t σ H λxs H1=>xs.length<=kf/\∀p,H1 p=f'->Q @P (!ay H1 p xs)
theorem dh {x1} (h:PA X es t):!E (.Tuple es x1 pos) (tTup t):=by
 intro pins s σ H Q I L;refine wpAny_Tuple_spliced (thn (h pos pins s σ H _ I L) λus G ⟨xs,H1,I1,r,z,q⟩=>⟨by rw[<-r.length];exact z,?_⟩);have hf:H1 G.heap.objs.size=none:=I1.hok.fresh @Y;refine⟨!j G.heap.objs.size,upd H1 G.heap.objs.size @ax,I1.laid (t':=G.toks) (λb u e=>gB _ e) @Y ?_,rfl,q _ hf⟩;exact⟨z,us,r,⟨_,mc _ rfl,rfl,_,rfl⟩⟩
theorem cR (h:PA X es t):!E (.List es pos) (tLst t):=by
 intro pins s σ H Q I L;refine wpAny_List_spliced (thn (h pos pins s σ H _ I L) λus G ⟨xs,H1,I1,r,z,q⟩=>⟨by rw[<-r.length];exact z,?_⟩);have hf:H1 G.heap.objs.size=none:=I1.hok.fresh @Y;refine⟨!j G.heap.objs.size,!ay H1 G.heap.objs.size xs,I1.laid (t':=G.toks) (λb u e=>gB _ e) @Y ?_,rfl,q _ hf⟩;exact⟨z,us,0,r,mc _ rfl⟩
end
noncomputable abbrev Sp:=eS V->Hp->VK->XK->Prop
noncomputable abbrev CXT:=eS Env->Hp->kb->XK->D'
structure Env0 (P:pT) (w:z0) (K:b') (mg:F') (base:zx) (A:xY) (outer:@aG) (s:kb) (H:Hp):Prop where
 frames:A.frames=ak outer
 mod:Mod K mg base
 bs:∀b o,base.get? b=ak o->s.heap.get? b=ak o/\H b=f'
 bsz:base.objs.size<=s.heap.objs.size
 funs:s.heap.FunFrames base outer
 frf:∀b∈frs outer,H b=f'
 hok:HOk P w H s.heap
 bare:AllBare s.gens
def CE (outer:@aG) (P:pT) (w:z0) (H:Hp) (s:kb) (Q:VK) (u:kk) (s':kb):Prop:=
 ∃v H',s'.os=s.os/\AllBare s'.gens/\Un (frs outer) [] H H' s.heap s'.heap/\HOk P w H' s'.heap/\RelV v u/\Q v H'
def CR (CX:CXT) (outer:@aG) (P:pT) (w:z0) (H:Hp) (s:kb) (Q:VK) (E:XK) (r:Result) (s':kb):Prop:=
 match r with
 | .ok (.ret u)=>CE outer P w H s Q u s'
 | .ok _=>False
 | .error e=>CX outer H s E e s'
structure FnOk (P:pT) (w:z0) (K:b') (mg:F') (base:zx) (CX:CXT) (k:Nat) (f:ee) (fd:hM) (ps:C') (sp:Sp):Prop where
 len:∀vs H Q E,sp vs H Q E->vs.length=ps.length
 run:∀(A:xY) (outer:@aG) (s:kb) (H:Hp) (args:Args) (us:E') (vs:eS V) (Q:VK) (E:XK),Room k A->Env0 P w K mg base A outer s H->BindsTo s fd args (ps.zip us)->Vals vs us->sp vs H Q E->
  codeAny (oS P w) A (.call @a6 args) (CR CX outer P w H s Q E) s
theorem FnOk.imp {P:pT} {w:z0} {K:b'} {mg:F'} {base:zx} {CX:CXT} {k:Nat} {f:ee} {fd:hM} {ps:C'} {sp χ:Sp} (F:FnOk P w K mg base CX k f fd ps sp)
  (h:∀vs H Q E,χ vs H Q E->sp vs H Q E):FnOk P w K mg base CX k f fd ps χ:=
 ⟨λvs H Q E q=>F.len vs H Q E (h _ _ _ _ q),λA outer s H args us vs Q E L he hb G hs=>F.run A outer s H args us vs Q E L he hb G (h _ _ _ _ hs)⟩
theorem Env0.make {P:pT} {w:z0} {K:b'} {mg:F'} {base:zx} {A:xY} {outer:@aG} {s:kb} {H:Hp} (e:Env0 P w K mg base A outer s H) (C:ee) (us:E') (L:U2):
  Env0 P w K mg base (A.under (!bY @cZ)) outer s H:=⟨by first | exact e.frames | (simpa[ZA,Code.envs,ZO,pushEnvs] using e.frames),e.mod,e.bs,e.bsz,e.funs,e.frf,e.hok,e.bare⟩
section
variable {X:Cx} {pins:Dn} {σ:St} {H:Hp} {s s':kb}
theorem Inv.env0 (I:@N):Env0 X.prog X.w X.K X.mg X.base X.A X.stack s H:=
 ⟨I.ok.frames,I.ok.mod,I.bs,Vs I.ok.bsz I.sz,I.stack,I.stkFree,I.hok,I.bare⟩
theorem Inv.after {Q:VK} {u:kk} (I:@N) (h:CE X.stack X.prog X.w H s Q u s'):EP X pins σ Q u s':=by
 obtain⟨v,H',os,bare,un,hok,r,q⟩:=h;obtain⟨τ,g,d,t,G⟩:=s';obtain rfl:G=s.os:=os;exact⟨v,H',I.call (h':=τ) (g':=g) (d':=d) (t':=t) (ch:=[]) un hok bare (λb z=>hF z @C),r,q⟩
end
noncomputable def Io (sp:Sp) (dvs:eS V) (E:XK) (t:TA):TE:=fun σ H Q=>t σ H λvs H1=>sp @aP H1 Q E
noncomputable def OX (C:ee) (m:lA) (sp:Sp) (dvs:eS V) (E:XK) (ta:TE) (t:TA):TE:=fun σ H Q=>ta σ H λx H1=>∃a dx fs,x= .ref a/\H1 a=ak @aq/\fs.lookup m=f'/\
 t σ H1 λvs H2=>sp (x::@aP) H2 Q E
noncomputable def QZ (C:ee) (sp:Sp) (dvs:eS V) (E:XK) (t:TA):TE:=fun σ H Q=>t σ H λvs H1=>∀x dx,H1 x=f'->H1 dx=f'->dx≠x->
 sp (.ref x::@aP) (upd (upd H1 dx (.own x)) x @b9) (!ci x) E
def rn (K:b') (fd:hM) (ps:C') (ds:E'):Prop:=
 ∀(s:kb) (us:E'),K.In s.heap->(@b8).length=ps.length->BindsTo s fd ⟨us,[]⟩ (ps.zip @b8)
theorem rn.all {K:b'} {fd:hM} {ps:C'} (h:∀us:E',us.length=ps.length->bindArgs fd ⟨us,[]⟩=pure (ps.zip us)):rn K fd ps []:=λs us _ hl=>by
 rw[UY] at hl ⊢;exact .of_eq (h us hl)
def sN (CX:CXT) (X:Cx) (E:XK):Prop:=∀(pins:Dn) (σ:St) (H:Hp) (s:kb) (e:kk) (s':kb),Inv X pins σ H s->CX X.stack H s E e s'->X.xe e s'
section
variable {X:Cx} {CX:CXT} {k:Nat} {f C:ee} {fd:hM} {ps:C'} {sp:Sp} {dvs:eS V} {ds:E'} {E:XK} {x m:lA} {p pos apos:Pos} {e o:xo} {es:eS xo} {ta:TE} {t:TA}
theorem E4 {pins:Dn} {σ:St} {H:Hp} {s:kb} {Q:VK} {us:E'} {vs:eS V} (F:FnOk X.prog X.w X.K X.mg X.base CX k f fd ps sp) (O:!aX X.A) (hb:rn X.K fd ps ds) (hd:Vals dvs ds) (hx:sN CX X E)
  (I:@N) (r:Vals vs us) (h:sp @aP H Q E):lT @T X.A (call @a6 us) (EP X pins σ Q) X.xe s:=by
 have L:Vals @aP @b8:=r.append hd;have hl:(@b8).length=ps.length:=by rw[<-L.length];exact F.len _ _ _ _ h
 refine ag4 (Yl (F.run X.A X.stack s H ⟨us,[]⟩ @b8 @aP Q E O I.env0 (hb s us I.kIn hl) L h) λr s' G=>?_);cases r with
 | error e=>exact hx pins σ H s e s' I G
 | ok Y=>
   cases Y with
   | ret u=>exact I.after G
   | next=>exact UP G
   | brk=>exact UP G
   | cont=>exact UP G
theorem PX (F:FnOk X.prog X.w X.K X.mg X.base CX k f fd ps sp) (O:!aX X.A) (Y:Gl X x) (hm:X.mg x=ak @a6) (hk:Vk X.K @a6=true) (hb:rn X.K fd ps ds) (hd:Vals dvs ds) (hx:sN CX X E)
  (ha:PA X @V t) (L:(x == ("__debug__":lA))=false:=by decide) (he:ov @V X.env=(false,eval e X.env)::ov es X.env:=by rfl) (G:(!aE pos es).any (·.1)=false:=by rfl):
  PE X (!aP x p @V [] pos) (Io sp dvs E t):=by
 intro pins s σ H Q I h;refine XX (xx I Y hm ?_ L);refine WO (h₀:=X.base) I.ok.mod.kin hk (thn (ha pos pins s σ H _ I h) λus Z ⟨vs,H1,I1,r,q⟩=>⟨I1.kIn,?_⟩) he G;exact E4 F O hb hd hx I1 r q
theorem fc {pl:Sem US} (he:!E o ta) (c:Cls X.K C) (hm:Meth X.K C m f) (F:FnOk X.prog X.w X.K X.mg X.base CX k f fd ps sp) (γ:!aX X.A) (hb:rn X.K fd ps ds) (hd:Vals dvs ds) (hx:sN CX X E) (ha:PA X @V t)
  (Z:ov @V X.env=(false,eval e X.env)::ov es X.env:=by rfl) (G:(!aE pos es).any (·.1)=false:=by rfl)
  (ht:eval (!bh o m apos @V [] pos) X.env=(do
   let L <-eval o X.env
   standAt apos.atName
   let (f,first) <-holding [L] (getMethod L m pl)
   callWith pos f first (!aE pos @V) (!bH pos [] X.env)):=by rfl):
  PE X (!bh o m apos @V [] pos) (OX C m sp dvs E ta t):=by
 intro pins s σ H Q I h;refine WZ (pl:=pl) (thn (he pins s σ H _ I h) λu Y zq=>?_) ht;obtain⟨x,H1,O,α,a,dx,fs,ex,ea,l,q⟩:=zq;subst ex;obtain rfl:u=p' a:=α;refine ui O ea c hm l ?_;refine WO (first:=[.ref a]) (h₀:=X.base) I.ok.mod.kin hm.kp (thn (ha pos pins Y σ H1 _ O q) λus δ ⟨vs,H2,I2,r,β⟩=>⟨I2.kIn,?_⟩) Z G;exact E4 (us:= .ref a::us) (vs:= .ref a::vs) F γ hb hd hx I2 (.cons rfl r) β
theorem bI {pl:Sem US} (he:!E o ta) (c:Cls X.K C) (hm:Meth X.K C m f) (F:FnOk X.prog X.w X.K X.mg X.base CX k f fd ps sp) (O:!aX X.A) (hb:rn X.K fd ps ds) (hd:Vals dvs ds) (hx:sN CX X E)
  (ht:eval (!bh o m apos [] [] pos) X.env=(do
   let G <-eval o X.env
   standAt apos.atName
   let (f,first) <-holding [G] (getMethod G m pl)
   callWith pos f first (!aE pos []) (!bH pos [] X.env)):=by rfl):
  PE X (!bh o m apos [] [] pos) (OX C m sp dvs E ta tNil):=by
 intro pins s σ H Q I h;refine WZ (pl:=pl) (thn (he pins s σ H _ I h) λu Y zq=>?_) ht;obtain⟨x,H1,I1,L,a,dx,fs,ex,ea,l,q⟩:=zq;subst ex;obtain rfl:u=p' a:=L;refine ui I1 ea c hm l ?_;exact PySem.W.callWith_K0 (first:=[.ref a]) I1.kIn hm.kp (E4 (us:=[.ref a]) (vs:=[.ref a]) F O hb hd hx I1 (!bf rfl) q)
structure Mk (K:b') (C f:ee):Prop where
 makes:ac2 K C=true
 init:wb K @a9 "__init__"=ak (ak @a6)
 fn:YA K @a6=true
 kp:Vk K @a9=true
theorem Mu {pins:Dn} {σ:St} {H:Hp} {s:kb} {Q:VK} {us:E'} {vs:eS V} (M:Mk X.K C f) (F:FnOk X.prog X.w X.K X.mg X.base CX k f fd ps sp) (β:Room @b4 X.A) (hb:rn X.K fd ps ds) (hd:Vals dvs ds)
  (α:sN CX X E) (I:@N) (r:Vals vs us)
  (h:∀x dx,H x=f'->H dx=f'->dx≠x->sp (.ref x::@aP) (upd (!Y dx (.own x)) x @b9) (!ci x) E):
  lT @T X.A (call @a9 us) (EP X pins σ Q) X.xe s:=by
 have O:=h @am s.heap.objs.size (I.hok.fresh (Yz _)) @cd (u' (VP _));have I2:=Inv.made (C:=C) I;have L:Vals (V.ref @am::@aP) (p' @am::@b8):= .cons rfl (r.append hd)
 have hl:(p' @am::us++ds).length=ps.length:=by
  have e:=L.length;rw[F.len _ _ _ _ O] at e;exact e.symm
 refine ag4 (MQ (f:=f) I.kIn M.makes M.init (Yk.mp M.fn) (Yl (F.run _ X.stack _ _ ⟨p' @am::us,[]⟩ (p' @am::@b8) _ _ E (β.make C us [])
  (I2.env0.make C us []) (hb _ (p' @am::us) I2.kIn hl) L O) λr s' G=>?_))
 cases r with
 | error e=>exact α pins σ _ _ e s' I2 G
 | ok γ=>
   cases γ with
   | ret u=>
     obtain⟨v,H',φ,Y,ev,Z⟩:=I2.after G;subst ev;exact⟨Y,⟨!ap @am,H',φ,rfl,Z⟩⟩
   | next=>exact UP G
   | brk=>exact UP G
   | cont=>exact UP G
theorem ke (M:Mk X.K C f) (F:FnOk X.prog X.w X.K X.mg X.base CX k f fd ps sp) (O:Room @b4 X.A) (Y:Gl X x) (hm:X.mg x=ak @a9) (hb:rn X.K fd ps ds) (hd:Vals dvs ds) (hx:sN CX X E)
  (ha:PA X @V t) (L:(x == ("__debug__":lA))=false:=by decide) (he:ov @V X.env=(false,eval e X.env)::ov es X.env:=by rfl) (G:(!aE pos es).any (·.1)=false:=by rfl):
  PE X (!aP x p @V [] pos) (QZ C sp dvs E t):=by
 intro pins s σ H Q I h;refine XX (xx I Y hm ?_ L);refine WO (h₀:=X.base) I.ok.mod.kin M.kp (thn (ha pos pins s σ H _ I h) λus Z ⟨vs,H1,I1,r,q⟩=>⟨I1.kIn,?_⟩) he G;exact Mu M F O hb hd hx I1 r q
end
section
variable {X:Cx} {CX:CXT} {k:Nat} {f C:ee} {fd:hM} {ps ks:C'} {sp:Sp} {E:XK} {x m:lA} {p pos apos kpos:Pos} {e o:xo} {es:eS xo} {kws:eS Keyword} {te ta:TE} {t tk:TA} {nm:qE lA}
structure UF (K:b') (fd:hM) (ps ks:C') (g:E'->E'->E') (gV:eS V->eS V->eS V):Prop where
 to:∀(s:kb) (us ws:E'),K.In s.heap->(g us ws).length=ps.length->BindsTo s fd ⟨us,ks.zip ws⟩ (ps.zip (g us ws))
 rel:∀{vs:eS V} {us:E'} {zs:eS V} {ws:E'},Vals vs us->Vals zs ws->Vals (gV vs zs) (g us ws)
variable {g:E'->E'->E'} {gV:eS V->eS V->eS V}
end
structure au (N P:C') (sc:Wf):Prop where
 kind:sc.kind= .function
 co:sc.isCoroutine=false
 gen:sc.isGenerator=false
 nd:N.Nodup
 pre:N.take P.length=P
 par:∀x∈P,sc.names.lookup x=ak .local∨sc.names.lookup x=ak .cell
 nofree:∀y∈sc.names,y.2≠.free
theorem CH {kindOf:@cM} {x:lA}:∀{binds:U2} {m:F'},(∀v,(x,v)∉binds)->bindL kindOf binds m x=m x
 | [],_,_=>rfl
 | (n,v)::r,m,h=>by
   unfold bindL;rw[CH λw hw=>h w (ik _ hw)];split
   ·have:x≠n:=by rintro rfl;exact h v j'
    simp[this]
   ·rfl
theorem CK {kindOf:@cM} {x:lA}:∀{binds:U2} {m:F'},(∀v,(x,v)∉binds)->bindC kindOf binds m x=m x
 | [],_,_=>rfl
 | (n,v)::r,m,h=>by
   unfold bindC;rw[CK λw hw=>h w (ik _ hw)];split
   ·rfl
   ·have:x≠n:=by rintro rfl;exact h v j'
    simp[this]
theorem CJ {kindOf:@cM} {x:lA} {v:kk}:∀{P:C'} {vs:E'} {i:Nat} {m:F'},P.Nodup->P[i]? =ak x->vs[i]? =ak v->kindOf x=ak .local->
  bindL kindOf (P.zip vs) m x=ak v
 | [],_,_,_,_,h,_,_=>by simp at h
 | _::_,[],_,_,_,_,h,_=>by simp at h
 | p::P,w::vs,0,m,nd,h1,h2,hk=>by
   simp at h1 h2;subst h1;subst h2;show bindL kindOf ((p,w)::P.zip vs) m p=_;unfold bindL;rw[CH λv G=>(WV.mp nd).1 (Yc G).1,oL hk];simp
 | p::P,w::vs,i + 1,m,nd,h1,h2,hk=>by
   show bindL kindOf ((p,w)::P.zip vs) m x=_;unfold bindL;exact CJ (i:=i) (WV.mp nd).2 (by simpa using h1) (by simpa using h2) hk
theorem CL {kindOf:@cM} {x:lA} {v:kk}:∀{P:C'} {vs:E'} {i:Nat} {m:F'},P.Nodup->P[i]? =ak x->vs[i]? =ak v->kindOf x≠ak .local->
  bindC kindOf (P.zip vs) m x=ak v
 | [],_,_,_,_,h,_,_=>by simp at h
 | _::_,[],_,_,_,_,h,_=>by simp at h
 | p::P,w::vs,0,m,nd,h1,h2,hk=>by
   simp at h1 h2;subst h1;subst h2;show bindC kindOf ((p,w)::P.zip vs) m p=_;unfold bindC;rw[CK λv G=>(WV.mp nd).1 (Yc G).1,mu hk];simp
 | p::P,w::vs,i + 1,m,nd,h1,h2,hk=>by
   show bindC kindOf ((p,w)::P.zip vs) m x=_;unfold bindC;exact CL (i:=i) (WV.mp nd).2 (by simpa using h1) (by simpa using h2) hk
noncomputable def start (N:C') (vs:eS V):St:=vs.map ak++hC (N.length - vs.length) f'
noncomputable def cxOf (CX:CXT) (P:pT) (w:z0) (K:b') (mg:F') (base:zx) (N:C') (G:lA) (scope:Wf) (f:ee) (χ:kk) (A:xY) (outer:@aG) (s:kb) (H:Hp) (E:XK):Cx where
 prog:=P
 w:=w
 K:=K
 mg:=mg
 base:=base
 A:=A.deeper (!bo G scope f χ)
 N:=N
 s₀:=s
 H₀:=H
 env:=envOfC G scope s.heap.objs.size f χ
 outer:=outer
 stack:=envOfC G scope s.heap.objs.size f χ::outer
 ex:=[]
 calm:=true
 fn:=λ_=>true
 pn:=[]
 xe:=λe s'=>lT (oS P w) (A.deeper (!bo G scope f χ)) (leaving (!bo G scope f χ) e) (λ_ L=>CX outer H s E e L) (λO L=>CX outer H s E O L) s'
theorem FE {sc:Wf} {n:Nat} {x:lA} (h:sc.names.lookup x=ak .cell):∃c,(cellsFrom n sc.names []).lookup x=ak c:=by
 have q:=Zv sc.names n [] @aT;exact Option.isSome_iff_exists.mp q
theorem Kg {CX:CXT} {P:pT} {w:z0} {K:b'} {mg:F'} {base:zx} {N ps:C'} {G:lA} {scope:Wf} {f:ee} {χ:kk} {A:xY} {outer:@aG} {s Y:kb} {H:Hp} {E:XK} {us:E'} {vs:eS V}
  (S:au N ps scope) (hd:@bd) (ζ:Env0 P w K mg base A outer s H) (hl:vs.length=ps.length) (r:Vals vs us)
  (x:InCallC s s.heap.objs.size (bindL (!bo G scope f χ).kindOf (ps.zip us) λ_=>f') (cellsFrom @am scope.names []) (bindC (!bo G scope f χ).kindOf (ps.zip us) λ_=>f') Y):
  Inv (cxOf CX P w K mg base N G scope f χ A outer s H E) [] (start N vs) H Y:=by
 have α:ps.length<=N.length:=by have:=px zz S.pre;rw[pa] at this;omega
 obtain⟨h1,tk,rfl,hk⟩:=x.done;have L:∀b:ee,b∉(cxOf CX P w K mg base N G scope f χ A outer s H E).ex:=λb z=>hF (show b∈([]:M') from z) @C
 refine⟨⟨ζ.mod,S.kind,rfl,rfl,oe _,λy z c h1 h2=>?_,λy hy=>?_,λy c _ h=>?_,λ_=>hd,Around.frames_deeper ζ.frames,!F @bO,λb z=>hF z (L b),ζ.bs,ζ.bsz,λb _ _=>L b,λb z=>hF z (L b),ζ.funs,ζ.frf⟩,
  rfl,ζ.bare,Un.kept hk,⟨_,x.toInCall.ns,λi y v h1 h2 β=>?_⟩,λy c h=>⟨_,x.cell y c h⟩,ζ.hok.fresh @Y,λy c h=>?_,λp O=>hF (show p∈([]:Dn) from O) @C,ζ.hok.kept hk,?_⟩
 ·exact name_of_addr x.apart (V6 h1) (V6 h2)
 ·have hy:scope.names.lookup y=ak .cell∨scope.names.lookup y=ak .free:=hy;rcases hy with hy | hy
  ·exact FE hy
  ·exact hF rfl (S.nofree _ (V6 hy))
 ·exact Vw (x.above y c (V6 h))
 ·have hi:i < vs.length:=by
   unfold start at h2;by_cases hi:i < vs.length
   ·exact hi
   ·rw[lB (by simpa using hi)] at h2;rw[ZJ] at h2;split at h2<;>cases h2
  have ha:vs[i]? =ak v:=by
   unfold start at h2;rw[ky (by simpa using hi),hH] at h2;cases e:vs[i]? with
   | none=>rw[e] at h2;cases h2
   | some a=>rw[e] at h2;cases h2;rfl
  obtain⟨u,hu,Z⟩:=r.get ha
  have O:ps[i]? =ak y:=by
   rw[<-S.pre,ZF @A];exact h1
  have ψ:ps.Nodup:=by rw[<-S.pre];exact S.nd.sublist (List.take_sublist _ _)
  refine⟨u,Z,?_⟩;rcases S.par y (eH O) with k | k
  ·exact !J ⟨k,CJ ψ O hu k⟩
  ·obtain⟨c,e⟩:=FE (n:=s.heap.objs.size + 1) k;refine !F ⟨.inl k,c,e,?_⟩;have q:=x.cell y c e;rw[CL ψ O hu (by show scope.names.lookup y≠_;rw[k];decide)] at q;exact q
 ·exact ζ.hok.fresh (Vw (x.above y c (V6 h)))
 ·unfold start;show _=N.length;rw[fD,aI,w5];omega
theorem Qq {CX:CXT} {P:pT} {w:z0} {K:b'} {mg:F'} {base:zx} {k:Nat} {f:ee} {name G:lA} {O:Arguments} {Y:eS WX} {scope:Wf} {dV kV τ ν L ct ο:kk} {an od:Q'}
  {γ:K'} {N ps:C'} {sp:Sp} (lk:K.lookup f=ak ⟨ο,od,.func (Vj name G O Y scope dV kV τ ν an L ct),γ⟩) (θ:Wp K L G=true) (S:au N ps scope)
  (len:∀vs H Q E,sp vs H Q E->vs.length=ps.length)
  (η:∀(A:xY) (outer:@aG) (s:kb) (H:Hp) (vs:eS V) (Q:VK) (E:XK),Room k (A.deeper (!bo G scope f L))->sp vs H Q E->
   ∃t,PSs (cxOf CX P w K mg base N G scope f L A outer s H E) Y t/\t {nx:=λ_ H'=>Q .non H',rt:=Q} (start N vs) H):
  FnOk P w K mg base CX @b4 f (Vj name G O Y scope dV kV τ ν an L ct) ps sp:=by
 refine⟨len,λA outer s H args us vs Q E ε ζ hb r α=>?_⟩;have hl:=len _ _ _ _ α;have ξ:K.In s.heap:=ζ.mod.kin.keeps λb o e=>(ζ.bs b o e).1;have δ:s.heap.NoLimit:=ζ.mod.nolimit.keeps λb o e=>(ζ.bs b o e).1
 have Z:∀y∈ps.zip us,scope.names.lookup y.1=ak .local∨(scope.names.lookup y.1=ak .cell/\((cellsFrom @am scope.names []).lookup y.1).isSome=true):=λ⟨n,v⟩ π=>by
  rcases S.par n (Yc π).1 with q | q
  ·exact !J q
  ·exact !F ⟨q,Zv _ _ _ (!J q)⟩
 refine codeAny_call_function ε.depth (ξ _ _ lk) rfl S.co S.gen rfl (PySem.W.codeRec_of ξ θ) (hb _ _ _ _ ?_);refine wpAny_newFunctionEnv_cells S.kind Z λenv he ι x=>?_;subst he;refine⟨δ.keeps x.toInCall.keep,codeAny_func ?_⟩;obtain⟨t,ht,ρ⟩:=η A outer s H vs Q E (ε.deeper _) α;have I:Inv (cxOf CX P w K mg base N G scope f L A outer s H E) [] (start N vs) H ι:=Kg S ε.hd ζ hl r x;refine WM (ht [] ι (start N vs) H _ I ρ) (fun υ s' hs=>?_) λe s' hs=>hs
 have fin:∀{σ':St} {H':Hp} {v:V} {u:kk},Inv (cxOf CX P w K mg base N G scope f L A outer s H E) [] σ' H' s'->RelV v u->Q v H'->CE outer P w H s Q u s':=
  λ{σ' H' v u} J β q=>⟨v,H',J.os,J.bare,J.base,J.hok,β,q⟩
 cases υ with
 | ret u=>
   obtain⟨v,σ',H',J,β,q⟩:=hs;exact fin J β q
 | next=>
   obtain⟨σ',H',J,q⟩:=hs;exact fin (v:=V.non) (u:=V5) J rfl q
 | brk=>
   obtain⟨_,_,_,q⟩:=hs;exact UP q
 | cont=>
   obtain⟨_,_,_,q⟩:=hs;exact UP q
section
variable {X:Cx} {x:lA} {p pos:Pos} {e:xo} {es:eS xo} {t:TA} {id T:U'} {r:eS V->Hp->VK->Prop}
noncomputable abbrev tCB (r:eS V->Hp->VK->Prop) (t:TA):TE:=fun σ H Q=>t σ H λvs H1=>r vs H1 Q
theorem aM (hc:nY X (!ao id) r) (α:Gl X x) (hm:X.mg x=f') (Z:bootBuiltins x=ak (!ao id)) (ha:PA X @V t) (hn:x≠"__name__":=by decide) (O:(x == ("__debug__":lA))=false:=by decide)
  (he:ov @V X.env=(false,eval e X.env)::ov es X.env:=by rfl) (L:(!aE pos es).any (·.1)=false:=by rfl):!E (!aP x p @V [] pos) (tCB r t):=by
 intro pins s σ H Q I h;refine XX (nK I α hm Z ?_ hn O);exact PyProof.Rows.callWith_builtin1 (thn (ha pos pins s σ H _ I h) λus Y ⟨vs,H1,β,ζ,G⟩=>hc pins Y σ H1 vs us Q β ζ G) he L
theorem aW (hc:nY X (!ai T) r) (α:Gl X x) (hm:X.mg x=f') (Z:bootBuiltins x=ak (!ai T)) (ha:PA X @V t) (hn:x≠"__name__":=by decide) (O:(x == ("__debug__":lA))=false:=by decide)
  (he:ov @V X.env=(false,eval e X.env)::ov es X.env:=by rfl) (L:(!aE pos es).any (·.1)=false:=by rfl):!E (!aP x p @V [] pos) (tCB r t):=by
 intro pins s σ H Q I h;refine XX (nK I α hm Z ?_ hn O);exact vu (thn (ha pos pins s σ H _ I h) λus Y ⟨vs,H1,β,ζ,G⟩=>hc pins Y σ H1 vs us Q β ζ G) he L
end
end L2
namespace HT
open PySem PyProof.Rows
section
variable {prog:pT} {w:z0} {A:xY} {E:D'} {s:kb}
noncomputable def sIx (n d:Nat):qE Int->Nat
 | none=>d
 | some v=>if v < 0 then (v + (n:Int)).toNat else min v.toNat n
theorem sIx_none (n d:Nat):sIx n d f'=d:=rfl
theorem sIx_nat (n d k:Nat):sIx n d (ak (k:Int))=min k n:=by
 show(if (k:Int) < 0 then ((k:Int) + (n:Int)).toNat else min (k:Int).toNat n)=min k n;rw[mu @A,lj]
end
end HT
namespace L2
open PySem PySem.Spec PyProof.Rows
noncomputable abbrev TO:=St->Hp->(qE Int->Hp->Prop)->Prop
def PO (X:Cx) (e:qE xo) (t:TO):Prop:=
 ∀(pins:Dn) (s:kb) (σ:St) (H:Hp) (Q:qE Int->Hp->Prop),Inv X pins σ H s->t σ H Q->
  lT @T X.A (evalPart e X.env) (λu s'=>∃o H',Inv X pins σ H' s'/\IsPart u o/\Q o H') X.xe s
noncomputable abbrev OW:TO:=λ_ H Q=>Q f' H
noncomputable abbrev TX (t:TE):TO:=fun σ H Q=>t σ H λx H1=>∃i,x= .int i/\Q (ak i) H1
section
variable {X:Cx} {e:xo} {te:TE} {lo hi:qE xo} {tl th:TO} {pos p2:Pos}
theorem tG:PO X f' OW:=by
 intro pins s σ H Q I h;rw[evalPart_none];exact nr ⟨f',H,I,.none,h⟩
theorem tF (h:!E e te):PO X (ak e) (TX te):=by
 intro pins s σ H Q I hw;rw[evalPart_some];refine thn (h pins s σ H _ I hw) λu O ⟨x,H1,L,ζ,G⟩=>?_;obtain⟨i,rfl,q⟩:=G;obtain⟨t,rfl⟩:=ζ;exact⟨ak i,H1,L,.int i t,q⟩
def SlR (X:Cx) (r:V->qE Int->qE Int->Hp->VK->Prop):Prop:=
 ∀(pins:Dn) (s:kb) (σ:St) (H:Hp) (x:V) (v O G:kk) (lo hi:qE Int) (L:ee) (Q:VK),Inv X pins σ H s->RelV x v->s.heap.IsSliceOf L O G .none->IsPart O lo->IsPart G hi->r x lo hi H Q->
  ∃T id,typeLookup (!ai T) "__getitem__"=pure (ak (!ao id))/\s.TypeIs v T/\lT @T X.A (getItem v (!j L)) (EP X pins σ Q) X.xe s
noncomputable abbrev tSl (r:V->qE Int->qE Int->Hp->VK->Prop) (te:TE) (tl th:TO):TE:=fun σ H Q=>te σ H λx H1=>tl σ H1 λl H2=>th σ H2 λu G=>r x l u G Q
theorem pC {r:V->qE Int->qE Int->Hp->VK->Prop} (η:SlR X r) (he:!E e te) (hl:PO X lo tl) (hu:PO X hi th):!E (!bP e (.Slice lo hi f' p2)) (tSl r te tl th):=by
 intro pins s σ H Q I h;refine ag7 (thn (he pins s σ H _ I h) λv β ⟨x,H1,ξ,ζ,G⟩=>?_);refine wpAny_Slice (thn (hl pins β σ H1 _ ξ G) λY α ⟨l,H2,ν,pl,δ⟩=>thn (hu pins α σ H2 _ ν δ) λO L ⟨u,Z,I3,ε,γ⟩=>?_);rw[evalPart_none];refine @b7;have ι:Inv X pins σ Z {L with heap:=L.heap.push {cls:= .type "slice",data:= .fields #[Y,O,.none]}}:=I3.kept (t':=L.toks) λb ob q=>gB _ q;obtain⟨T,id,hT,ht,θ⟩:=η pins {L with heap:=L.heap.push {cls:= .type "slice",data:= .fields #[Y,O,.none]}} σ Z x v Y O l u L.heap.objs.size Q ι ζ (Heap.IsSliceOf.new ..) pl ε γ;show lT @T X.A (subscriptTail e (.Slice lo hi f' p2) v @bT) (EP X pins σ Q) X.xe {L with heap:=L.heap.push {cls:= .type "slice",data:= .fields #[Y,O,.none]}};exact tail_any (ops:=[.ref L.heap.objs.size,v]) ht hT θ (by with_unfolding_all rfl)
noncomputable def cutV (xs:eS V) (lo hi:qE Int):eS V:=(xs.drop (HT.sIx xs.length 0 lo)).take @dI
theorem EB (xs:eS V) (lo hi:qE Int):(cutV xs lo hi).length<=xs.length:=by
 unfold cutV;rw[pa,WB];omega
end
noncomputable def ixN (n:Nat) (i:Int):qE Nat:=if 0<=i then (if i < n then ak i.toNat else f') else if -(n:Int)<=i then ak (i + n).toNat else f'
noncomputable def atI {α:Type} (xs:eS α) (i:Int):qE α:=(ixN xs.length i).bind λj=>xs[j]?
theorem Ke {n:Nat} {i:Int} {j:Nat} (h:ixN n i=ak j):seqIndex? i n=ak j/\j < n/\-(n:Int)<=i/\i < n:=by
 unfold ixN at h;by_cases G:0<=i
 ·rw[oL G] at h;by_cases h1:i < n
  ·rw[oL h1] at h;have e:i.toNat=j:=ry h;exact⟨by rw[ae8 G h1,e],@A,@A,h1⟩
  ·rw[mu h1] at h;cases h
 ·rw[mu G] at h;by_cases h1: -(n:Int)<=i
  ·rw[oL h1] at h;have e:(i + n).toNat=j:=ry h;exact⟨by rw[ac9 @A h1,e],@A,h1,@A⟩
  ·rw[mu h1] at h;cases h
theorem ED {α:Type} {xs:eS α} {i:Int} {v:α} (h:atI xs i=ak v):∃j,seqIndex? i xs.length=ak j/\xs[j]? =ak v/\j < xs.length/\-(xs.length:Int)<=i/\i < xs.length:=by
 unfold atI at h;cases e:ixN xs.length i with
 | none=>rw[e] at h;cases h
 | some j=>
   rw[e] at h;obtain⟨h1,h2,L,G⟩:=Ke e;exact⟨j,h1,h,h2,L,G⟩
theorem dE {α:Type} {xs:eS α} {j:Nat} {v:α} (h:xs[j]? =ak v):atI xs (j:Int)=ak v:=by
 have G:j < xs.length:=(!M h).1
 have e:ixN xs.length (j:Int)=ak j:=by
  unfold ixN;rw[oL @A,oL @A];simp
 unfold atI;rw[e];exact h
def QE (b:xo):Prop:=∀o i,subscripted b false o i=operate [o,i] (getItem o i)
def IxR (X:Cx) (r:R2):Prop:=
 ∀(value G:xo) (pins:Dn) (s:kb) (σ:St) (H:Hp) (x y:V) (v u:kk) (Q:VK),Inv X pins σ H s->RelV x v->RelV y u->r x y H Q->
  subscripted G false v u=operate [v,u] (getItem v u)->lT @T X.A (subscriptTail value G v u) (EP X pins σ Q) X.xe s
def MtR (X:Cx) (id:U') (r:V->eS V->Hp->VK->Prop):Prop:=
 ∀(pins:Dn) (s:kb) (σ:St) (H:Hp) (x:V) (xs:eS V) (v:kk) (us:E') (Q:VK),Inv X pins σ H s->RelV x v->Vals xs us->r x xs H Q->
  lT @T X.A (call (!ao id) (v::us)) (EP X pins σ Q) X.xe s
section
variable {X:Cx} {a b:xo} {ta tb:TE} {pos:Pos}
theorem aQ {r:R2} (Y:IxR X r) (ha:!E a ta) (hb:!E b tb) (hs:QE b):!E (!bP a b) (tOp r ta tb):=by
 intro pins s σ H Q I h;exact ag7 (binT ha hb I h λv u G x y H2 Z O L q=>Y a b pins G σ H2 x y v u Q Z O L q (hs _ _))
noncomputable def rIxL (K:b'):R2:=λx y H Q=>∃p xs i v,x= .ref p/\y= .int i/\SqL K H p xs/\atI xs i=ak v/\Q v H
noncomputable def rIxT (K:b'):R2:=λx y H Q=>∃p xs i v,x= .ref p/\y= .int i/\SqT K H p xs/\atI xs i=ak v/\Q v H
noncomputable def rIxS:R2:=λx y H Q=>∃z i c,x= .str z/\y= .int i/\z.length<=kf/\atI z.cps.toList i=ak c/\Q (.str ⟨#[c]⟩) H
theorem Qj:IxR X (rIxL X.K):=by
 intro value G pins s σ H x y v u Q I β α h hs;obtain⟨p,xs,i,z,rfl,rfl,γ,he,q⟩:=h;cases β;obtain⟨t,rfl⟩:=α;obtain⟨its,r,pl,hz⟩:=I.list γ;obtain⟨j,h1,h2,ζ,ε,δ⟩:=ED he;obtain⟨w,Z,L⟩:=r.get h2;have hl:=r.length;have hn:=BK;have fin:EP X pins σ Q w s:=⟨z,H,I,L,q⟩;by_cases Y:0<=i
 ·have O:i.toNat=j:=by
   rw[ae8 Y δ] at h1;exact ry h1
  exact item_listR pl.isList Y @A (by rw[O];simpa using Z) fin hs
 ·have O:(i + (its.toArray.size:Int)).toNat=j:=by
   rw[ac9 @A ε] at h1;rw[qb,<-hl];exact ry h1
  exact ad1 (x:=w) pl.isList.typeIs slot_list_getitem.lookup
   (wpAny_getItem_list_neg (Q:=λr s'=>r=w/\EP X pins σ Q r s') pl.isList @A (by rw[qb]<;>omega) @A (by rw[O];simpa using Z) ⟨rfl,fin⟩) hs
theorem SL:IxR X (rIxT X.K):=by
 intro value G pins s σ H x y v u Q I Y O h hs;obtain⟨p,xs,i,z,rfl,rfl,Z,he,q⟩:=h;cases Y;obtain⟨t,rfl⟩:=O;obtain⟨its,r,pl,hz⟩:=I.tuple Z;obtain⟨j,h1,h2,δ,γ,β⟩:=ED he;obtain⟨w,α,L⟩:=r.get h2;have hl:=r.length;have hn:=BK;have fin:EP X pins σ Q w s:=⟨z,H,I,L,q⟩
 exact ad1 (x:=w) pl.typeIs slot_tuple_getitem.lookup
  (getItem_tuple (j:=j) (Q:=λr s'=>r=w/\EP X pins σ Q r s') pl @A @A (by rw[qb,<-hl];exact h1) (by simpa using α) ⟨rfl,fin⟩) hs
theorem Oj:IxR X rIxS:=by
 intro value G pins s σ H x y v u Q I O L h hs;obtain⟨z,i,c,rfl,rfl,hz,he,q⟩:=h;obtain⟨t,rfl⟩:=O;obtain⟨t',rfl⟩:=L;obtain⟨j,h1,h2,γ,Z,Y⟩:=ED he;have hl:z.cps.toList.length=z.length:=by simp[Str.length]
 rw[hl] at h1 Z Y;have hn:=BK
 exact tail_any (Z8 s z t) slot_str_getitem.lookup (getItem_str (c:=c) (by
  have β:decide (i < -(2 ^ 63:Int))=false:=hA @A;have α:decide (i≥2 ^ 63)=false:=hA @A;rw[β,α,Bool.or_false]) (by rw[h1];simpa using h2) ⟨.str ⟨#[c]⟩,H,@bh,⟨_,rfl⟩,q⟩) hs
theorem GO (its:E') (n j:Nat) (u:kk):UO (·.setIfInBounds j u) {cls:= .type "list",data:= .seq its.toArray n}={cls:= .type "list",data:= .seq (its.set j u).toArray n}:=by
 simp[UO]
theorem Inv.lst {pins:Dn} {σ:St} {H:Hp} {s:kb} {p:ee} {xs:eS V} (I:@N) (h:!au @al):
  ∃(its:E') (n:Nat),Vals xs its/\s.heap.get? p=ak {cls:= .type "list",data:= .seq its.toArray n}/\xs.length<=sizeLine:=by
 obtain⟨z,its,n,r,e⟩:=I.hok p _ h;exact⟨its,n,r,e,z⟩
theorem Inv.lstUpd {pins:Dn} {σ:St} {H:Hp} {s:kb} {p:ee} {xs ys:eS V} {its its':E'} {n G:Nat} {f:Zs->Zs} (I:@N) (h:!au @al)
  (ho:s.heap.get? p=ak {cls:= .type "list",data:= .seq its.toArray n}) (hf:f {cls:= .type "list",data:= .seq its.toArray n}={cls:= .type "list",data:= .seq its'.toArray G}) (r:Vals ys its') (hz:ys.length<=kf) (t:Nat):
  Inv X pins σ (!ay H p ys) {s with heap:=s.heap.update p f,toks:=t}:=by
 have e:(!bv p f).get? p=ak {cls:= .type "list",data:= .seq its'.toArray G}:=by
  rw[Vb f ho (by rw[hf]<;>rfl),hf]
 refine I.write (x:=p) (e:=p) (by rw[h];trivial) @aj (λb u hb q=>(U9 _ _ (ro hb)).trans q) ⟨_,e⟩ ?_;exact⟨hz,its',G,r,e⟩
noncomputable def RM:V->V->V->Hp->(Hp->Prop)->Prop:=λo i v H Q=>∃p xs k j,o= .ref p/\i= .int k/\H p=ak @al/\ixN xs.length k=ak j/\Q (!ay H p (xs.set j v))
theorem Mp:PSet X RM:=by
 intro pins s σ H o i v δ ε u Q I ο β α h;obtain⟨p,xs,k,j,rfl,rfl,G,γ,q⟩:=h;cases ο;obtain⟨t,rfl⟩:=β;obtain⟨its,n,r,ho,hz⟩:=I.lst G;obtain⟨h1,h2,O,L⟩:=Ke γ;have hl:=r.length;have hn:=BK
 have Z:Inv X pins σ (!ay H p (xs.set j v)) {s with heap:=s.heap.update p (UO (·.setIfInBounds j u))}:=
  I.lstUpd G ho (GO its n j u) (r.set α j) (by rw[WW];exact hz) s.toks
 by_cases Y:0<=k
 ·have hk:k.toNat=j:=by
   rw[ae8 Y L] at h1;exact ry h1
  exact PySem.W.ki_setAt ho Y @A (by rw[qb,<-hl];exact L) (by rw[hk];exact⟨_,Z,q⟩)
 ·have hk:(k + (its.toArray.size:Int)).toNat=j:=by
   rw[ac9 @A O] at h1;rw[qb,<-hl];exact ry h1
  exact PySem.W.ki_setBack ho @A (by rw[qb,<-hl];exact O) @A (by rw[hk];exact⟨_,Z,q⟩)
theorem Bk (lo hi:qE Int) (n:Nat):(sliceBounds lo hi f' n).1=((HT.sIx n 0 lo:Nat):Int)/\(sliceBounds lo hi f' n).2.1=((HT.sIx n n hi:Nat):Int)/\(sliceBounds lo hi f' n).2.2=1:=by
 refine⟨?_,?_,rfl⟩
 ·cases lo with
  | none=>simp[sliceBounds,HT.sIx]
  | some i=>
    simp only[sliceBounds,HT.sIx,ZX,show(1:Int) > 0 by decide,ZN];by_cases h:i < 0
    ·simp only[h,ZN]<;>omega
    ·simp only[h,if_false]<;>omega
 ·cases hi with
  | none=>simp[sliceBounds,HT.sIx]
  | some i=>
    simp only[sliceBounds,HT.sIx,ZX,show(1:Int) > 0 by decide,ZN];by_cases h:i < 0
    ·simp only[h,ZN]<;>omega
    ·simp only[h,if_false]<;>omega
theorem zQ (its:E') (lo hi:qE Int):slicePick its.toArray lo hi f'=((its.drop (HT.sIx its.length 0 lo)).take (HT.sIx its.length its.length hi - HT.sIx its.length 0 lo)).toArray:=by
 obtain⟨h1,h2,G⟩:=Bk lo hi its.toArray.size;unfold slicePick;rw[h1,h2,G];simp only[sliceRange_one,pick_run,qb]<;>rfl
noncomputable def rSlL (K:b'):V->qE Int->qE Int->Hp->VK->Prop:=λx lo hi H Q=>∃a xs,x= .ref a/\SqL K H a xs/\∀p,H p=f'->Q @P (!ay H p (cutV xs lo hi))
theorem Pi:SlR X (rSlL X.K):=by
 intro pins s σ H x v β α lo hi L Q I O hs pl Y h;obtain⟨a,xs,rfl,Z,q⟩:=h;cases O;obtain⟨its,r,ht,hz⟩:=I.list Z;have G:=r.length;refine⟨"list",_,slot_list_getitem.lookup,ht.isList.typeIs,?_⟩;refine wpAny_getItem_list_slice ht.isList hs pl Y .none @C ?_ (by rw[qb]<;>omega);rw[zQ,<-G];refine⟨@aS,_,I.laid (t':=s.toks) (o:= .lst (cutV xs lo hi)) (λb ob q=>gB _ q) @Y ?_,rfl,q _ @cd⟩;exact⟨Vs (EB xs lo hi) hz,_,0,(r.drop (HT.sIx xs.length 0 lo)).take @dI,mc _ rfl⟩
noncomputable def oU:V->US
 | .non=>true
 | .bl _=>true
 | .int _=>true
 | .str _=>true
 | _=>false
noncomputable def eqV:V->V->US
 | .non,.non=>true
 | .bl a,.bl b=>a == b
 | .bl a,.int b=>(if a then 1 else 0) == b
 | .int a,.bl b=>a == (if b then 1 else 0)
 | .int a,.int b=>a == b
 | .str a,.str b=>a == b
 | _,_=>false
theorem Ov {A:xY} {s:kb} {y x:V} {u v:kk} (L:!aG y) (G:RelV x v) (O:oU y=true) (fx:oU x=true):ab3 A s u v (eqV y x):=by
 cases y with
 | non=>
   cases L;cases x with
   | non=>cases G;exact SeqAt.EqAt.same _
   | bl b=>cases G;exact SeqAt.EqAt.none_bool b
   | int b=>obtain⟨t,rfl⟩:=G;exact SeqAt.EqAt.none_int b t
   | str b=>obtain⟨t,rfl⟩:=G;exact SeqAt.EqAt.none_str b t
   | _=>exact hF (show false=true from fx) ia
 | bl a=>
   cases L;cases x with
   | non=>cases G;exact SeqAt.EqAt.bool_none a
   | bl b=>cases G;exact SeqAt.EqAt.bool_bool a b
   | int b=>obtain⟨t,rfl⟩:=G;exact SeqAt.EqAt.bool_int a b t
   | str b=>obtain⟨t,rfl⟩:=G;exact SeqAt.EqAt.bool_str a b t
   | _=>exact hF (show false=true from fx) ia
 | int a=>
   obtain⟨t',rfl⟩:=L;cases x with
   | non=>cases G;exact SeqAt.EqAt.int_none a t'
   | bl b=>cases G;exact SeqAt.EqAt.int_bool a t' b
   | int b=>obtain⟨t,rfl⟩:=G;exact SeqAt.EqAt.int_int a t' b t
   | str b=>obtain⟨t,rfl⟩:=G;exact ZD a t' b t
   | _=>exact hF (show false=true from fx) ia
 | str a=>
   obtain⟨t',rfl⟩:=L;cases x with
   | non=>cases G;exact SeqAt.EqAt.str_none a t'
   | bl b=>cases G;exact SeqAt.EqAt.str_bool a t' b
   | int b=>obtain⟨t,rfl⟩:=G;exact ZC a t' b t
   | str b=>obtain⟨t,rfl⟩:=G;exact SeqAt.EqAt.str_str a t' b t
   | _=>exact hF (show false=true from fx) ia
 | _=>exact hF (show false=true from O) ia
noncomputable def eqU (x:V) (u:kk):Bool:=match u with
 | .none=>eqV .non x
 | .bool b=>eqV (.bl b) x
 | .int i _=>eqV @bg x
 | .str z _=>eqV @ao x
 | _=>false
theorem Ot {x y:V} {u:kk} (r:!aG y) (f:oU y=true):eqU x u=eqV y x:=by
 cases y with
 | non=>cases r;rfl
 | bl b=>cases r;rfl
 | int i=>obtain⟨t,rfl⟩:=r;rfl
 | str z=>obtain⟨t,rfl⟩:=r;rfl
 | _=>exact hF (show false=true from f) ia
theorem yc {x:V}:∀{xs:eS V} {us:E'},Vals xs us->xs.all oU=true->us.any @aW=xs.any λy=>eqV y x
 | _,_,.nil,_=>rfl
 | y::xs,u::us,.cons r t,f=>by
   rw[Ys,U6] at f;rw[Yr,Yr,Ot r f.1,yc t f.2]
theorem rZ {A:xY} {s:kb} {x:V} {v:kk} (G:RelV x v) (fx:oU x=true):∀{xs:eS V} {us:E'},Vals xs us->xs.all oU=true->∀u∈us,ab3 A s u v (eqU x u)
 | _,_,.nil,_=>λu hu=>by cases hu
 | y::xs,u::us,.cons r t,f=>fun η hu=>by
   rw[Ys,U6] at f;rcases qq.mp hu with rfl | hu
   ·rw[Ot r f.1];exact Ov r G f.1 fx
   ·exact rZ G fx t f.2 η hu
noncomputable def inV (x:V) (xs:eS V):Bool:=xs.any λy=>eqV y x
noncomputable def rIn (K:b') (neg:US):R2:=λx y H Q=>∃p xs,y= .ref p/\(SqL K H p xs∨SqT K H p xs)/\oU x=true/\xs.all oU=true/\Q (.bl (if neg then !inV x xs else inV x xs)) H
theorem JC:!aN X .In (rIn X.K false):=by
 intro pins s σ H x y v u Q I G L h;obtain⟨p,xs,rfl,hq,fx,fs,q⟩:=h;cases L;rcases hq with hq | hq
 ·obtain⟨its,r,pl,hz⟩:=I.list hq;refine SeqAt.in_listAt @aW pl.isList (!c8 (by simpa using hw)) @d0;rw[show its.toArray.any @aW=its.any @aW by simp,yc r fs];exact q
 ·obtain⟨its,r,pl,hz⟩:=I.tuple hq;refine SeqAt.in_tupleAt @aW pl (!c8 (by simpa using hw)) @d0;rw[show its.toArray.any @aW=its.any @aW by simp,yc r fs];exact q
theorem Bw:!aN X .NotIn (rIn X.K true):=by
 intro pins s σ H x y v u Q I G L h;obtain⟨p,xs,rfl,hq,fx,fs,q⟩:=h;cases L;rcases hq with hq | hq
 ·obtain⟨its,r,pl,hz⟩:=I.list hq;refine SeqAt.notIn_listAt @aW pl.isList (!c8 (by simpa using hw)) @d0;rw[show its.toArray.any @aW=its.any @aW by simp,yc r fs];exact q
 ·obtain⟨its,r,pl,hz⟩:=I.tuple hq;refine SeqAt.notIn_tupleAt @aW pl (!c8 (by simpa using hw)) @d0;rw[show its.toArray.any @aW=its.any @aW by simp,yc r fs];exact q
theorem CC:nY X @bN (λxs H Q=>∃p ys,xs=[.ref p]/\(SqL X.K H p ys∨SqT X.K H p ys)/\∀l,H l=f'->Q @aA (!ay H l ys)):=by
 intro pins s σ H xs us Q I r h;obtain⟨p,ys,rfl,hq,q⟩:=h;obtain⟨u,rfl,Y⟩:=vT r;cases Y
 have fin:∀(its:E'),Vals ys its->ys.length<=kf->∀(h':zx) (G:Nat),(∀b o',s.heap.get? b=ak o'->h'.get? b=ak o')->
   h'.get? s.heap.objs.size=ak {cls:= .type "list",dict:=f',data:= .seq its.toArray G,slots:=#[]}->EP X pins σ Q @aS {s with heap:=h'}:=λits r' hz h' G kp e=>
  ⟨@aS,_,I.laid (t':=s.toks) kp @Y (show ip X.prog X.w _ h' _ @X from⟨hz,its,G,r',e⟩),rfl,q _ @cd⟩
 rcases hq with hq | hq
 ·obtain⟨its,r',pl,hz⟩:=I.list hq;have L:=r'.length;obtain⟨o,ho,O,n,hd⟩:=pl.isList;exact call_list_seq p @aj ho O hd (λh' G kp e=>fin its r' hz h' G kp e) (by simp only[qb]<;>omega)
 ·obtain⟨its,r',pl,hz⟩:=I.tuple hq;have L:=r'.length;obtain⟨o,ho,O,n,hd⟩:=pl;exact call_list_seq p (!F rfl) ho O hd (λh' G kp e=>fin its r' hz h' G kp e) (by simp only[qb]<;>omega)
theorem AV:nY X (!ai "tuple") (λxs H Q=>∃p ys,xs=[.ref p]/\((SqL X.K H p ys/\∀l,H l=f'->Q @aA (!Y l (!G ys)))∨(SqT X.K H p ys/\Q @P H))):=by
 intro pins s σ H xs us Q I r h;obtain⟨p,ys,rfl,h⟩:=h;obtain⟨u,rfl,O⟩:=vT r;cases O;rcases h with ⟨G,q⟩ | ⟨G,q⟩
 ·obtain⟨its,r',pl,hz⟩:=I.list G;have L:=r'.length;refine call_tuple_list pl.isList (λh' kp=>?_) (by simp only[qb]<;>omega);have I1:Inv X pins σ H {s with heap:=h'}:=I.kept (t':=s.toks) kp
  have Y:Inv X pins σ (!Y h'.objs.size (!G ys)) {s with heap:=h'.push {cls:= .type "tuple",data:= .seq its.toArray}}:=
   I1.laid (t':=s.toks) (λb o e=>gB _ e) @Y (show ip X.prog X.w _ _ _ (!G ys) from⟨hz,its,r',IsTup.new _ _⟩)
  exact⟨!j h'.objs.size,_,Y,rfl,q _ (I1.hok.fresh @Y)⟩
 ·obtain⟨its,r',pl,hz⟩:=I.tuple G;exact call_tuple_same pl ⟨.ref p,H,I,rfl,q⟩
def tyV (K:b') (T:U') (x:V) (H:Hp):Prop:=match x with
 | .str _=>T="str"
 | .int _=>T="int"
 | .ref p=>(T="list"/\∃xs,SqL K H p xs)∨(T="tuple"/\∃o,K.lookup p=ak o/\o.cls= .type "tuple"/\o.dict=f')∨
   (T="dict"/\((∃kvs,H p=ak @ah)∨∃kvs,H p=ak (.dT kvs)))∨(T="set"/\∃S n,H p=ak (.set S n))
 | _=>False
theorem NO {pins:Dn} {σ:St} {H:Hp} {s:kb} {T:U'} {x:V} {v:kk} (I:@N) (r:RelV x v) (ty:tyV X.K T x H):
  s.TypeIs v T/\∀a,v= .ref a->∃ob,s.heap.get? a=ak ob/\ob.dict=none:=by
 cases x with
 | str z=>
   obtain⟨t,rfl⟩:=r;cases(show T="str" from ty);exact⟨Z8 s z t,λ_ e=>nomatch e⟩
 | int i=>
   obtain⟨t,rfl⟩:=r;cases(show T="int" from ty);exact⟨ag6 s i t,λ_ e=>nomatch e⟩
 | ref p=>
   cases r;rcases ty with ⟨rfl,xs,L⟩ | ⟨rfl,o,hk,O,hd⟩ | ⟨rfl,hk⟩ | ⟨rfl,S,n,hk⟩
   ·obtain⟨its,_,pl,_⟩:=I.list L;refine⟨pl.isList.typeIs,λa e=>?_⟩;cases e;obtain⟨o,n,e,c,hd,_⟩:=pl;exact⟨o,e,hd⟩
   ·refine⟨⟨o,I.kIn p o hk,O⟩,λa e=>?_⟩;cases e;exact⟨o,I.kIn _ o hk,hd⟩
   ·have z:∃o,s.heap.get? p=ak o/\o.ExactDict:=by
     rcases hk with ⟨kvs,hk⟩ | ⟨kvs,hk⟩
     ·obtain⟨_,_,_,_,o,_,_,e,ex,_⟩:=I.hok p _ hk;exact⟨o,e,ex⟩
     ·obtain⟨_,_,_,_,o,_,_,e,ex,_⟩:=I.hok p _ hk;exact⟨o,e,ex⟩
    obtain⟨o,e,ex⟩:=z;refine⟨⟨o,e,ex.1⟩,λa G=>?_⟩;cases G;exact⟨o,e,ex.2.1⟩
   ·obtain⟨o,_,_,_,e,ex,_⟩:=I.hok p _ hk;refine⟨⟨o,e,ex.1⟩,λa G=>?_⟩;cases G;exact⟨o,e,ex.2.1⟩
 | _=>exact UP ty
noncomputable abbrev tBM0 (K:b') (T:U') (r:V->eS V->Hp->VK->Prop) (to:TE):TE:=fun σ H Q=>to σ H λx H1=>tyV K T x H1/\r x [] H1 Q
noncomputable abbrev tBM (K:b') (T:U') (r:V->eS V->Hp->VK->Prop) (to:TE) (t:TA):TE:=fun σ H Q=>to σ H λx H1=>tyV K T x H1/\t σ H1 λxs H2=>r x xs H2 Q
variable {o e:xo} {es:eS xo} {to:TE} {t:TA} {name:lA} {apos cpos:Pos} {T id:U'} {r:V->eS V->Hp->VK->Prop}
theorem Sd (β:PlainAttrs T) (slot:Slot T name id) (O:typeOf (!ao id)=pure @db) (hm:MtR X id r) (ho:!E o to)
  (L:attributeBase o name X.env (!az o)=eval o X.env:=by rfl) (G:@cm=true:=by rfl):!E (!bh o name apos [] [] cpos) (tBM0 X.K T r to):=by
 intro pins s σ H Q I h;refine wpAny_Call_method0_late L G (thn (ho pins s σ H _ I h) λv Z ⟨x,H1,Y,ζ,ty,α⟩=>?_);obtain⟨h1,h2⟩:=NO Y ζ ty;exact⟨T,id,β,slot,O,h1,h2,ZL rfl (PySem.evalArgs_none (hm pins Z σ H1 x [] v [] Q Y ζ .nil α))⟩
theorem Uj (θ:PlainAttrs T) (slot:Slot T name id) (Z:typeOf (!ao id)=pure @db) (hm:MtR X id r) (ho:!E o to) (ha:PA X @V t)
  (Y:attributeBase o name X.env (!az o)=eval o X.env:=by rfl)
  (O:((!aE cpos @V).all (λx=> !x.1)&&(!bH cpos [] X.env).all @cT
   &&decide ((@V).length + ([]:eS Keyword).length + (if ([]:eS Keyword).isEmpty then 0 else 1) < 30))=true:=by rfl)
  (G:@cm=true:=by rfl) (hs:ov @V X.env=(false,eval e X.env)::ov es X.env:=by rfl) (L:(!aE cpos es).any (·.1)=false:=by rfl):
  PE X (!bh o name apos @V [] cpos) (tBM X.K T r to t):=by
 intro pins s σ H Q I h;refine wpAny_Call_method_late Y O G rfl (thn (ho pins s σ H _ I h) λv γ ⟨x,H1,α,ζ,ty,η⟩=>?_);obtain⟨h1,h2⟩:=NO α ζ ty;refine⟨T,id,θ,slot,Z,h1,h2,?_⟩;have ψ:=ha cpos pins γ σ H1 _ α η;rw[hs] at ψ ⊢;refine ZL (by show(false||(!aE cpos es).any (·.1))=false;rw[L]<;>rfl) (Z' ?_);exact thn ψ λus β ⟨vs,H2,ι,δ,ε⟩=>hm pins β σ H2 x vs v us Q ι ζ δ ε
end
def MtM (X:Cx) (id:U') (r:V->eS V->Hp->VK->Prop):Prop:=
 ∀(pins:Dn) (s:kb) (σ:St) (H:Hp) (x:V) (xs:eS V) (v:kk) (us:E') (Q:VK),Inv X pins σ H s->RelV x v->Vals xs us->r x xs H Q->
  lT @T X.A (call (!ao id) (v::us)) (EP X pins σ Q) X.xe s
theorem Vals.one{x:V} {us:E'}(h:Vals [x] us):∃u,us=[u]/\RelV x u:=by
 cases h with|cons r h=>cases h;exact ⟨_,rfl,r⟩
theorem Vals.two{x y:V} {us:E'}(h:Vals [x,y] us):∃u v,us=[u,v]/\RelV x u/\RelV y v:=by
 cases h with|cons r h=>cases h with|cons q h=>cases h;exact ⟨_,_,rfl,r,q⟩
theorem Vals.eraseIdx:∀{xs:eS V} {us:E'} (i:Nat),Vals xs us->Vals (xs.eraseIdx i) (us.eraseIdx i)
 | _,_,_,.nil=> .nil
 | _,_,0,.cons _ t=>t
 | _,_,i + 1,.cons r t=> .cons r (Vals.eraseIdx i t)
theorem Vals.reverse {xs:eS V} {us:E'} (h:Vals xs us):Vals xs.reverse us.reverse:=by
 induction h with
 | nil=>exact .nil
 | cons r t ih=>rw[Xu,Xu];exact Vals.append ih (!bf r)
theorem Vals.rep {xs:eS V} {us:E'} (h:Vals xs us):∀k:Nat,Vals (hC k xs).flatten (hC k us).flatten
 | 0=> .nil
 | k + 1=>by
   rw[We,We,Xw,Xw];exact Vals.append h (Vals.rep h k)
theorem BL {α:Type}:∀(l:eS α) (i:Nat),(l.eraseIdx i).length<=l.length
 | [],_=>oe _
 | _::_,0=>Yz _
 | _::r,i + 1=>Nat.succ_le_succ (BL r i)
theorem Ca (its:E'):∀(k:Nat) (G:E'),
  ab9 (λx1 x2=>x1++x2) G.toArray (hC k its.toArray)=(G++(hC k its).flatten).toArray
 | 0,G=>by simp
 | k + 1,G=>by
   have e:G.toArray++its.toArray=(G++its).toArray:=by simp
   have L:(G++its)++(hC k its).flatten=G++(hC @b4 its).flatten:=by
    rw[We,Xw,WH]
   rw[<-L,<-Ca its k (G++its),<-e,We,XG]
section
variable {X:Cx} {pins:Dn} {σ:St} {H:Hp} {s:kb} {l b:ee} {xs ys zs:eS V}
theorem Inv.lset {its its':E'} {n:Nat} {f:G'->G'} {t':Nat} (I:@N) (L:@bC)
  (e:s.heap.get? l=ak {cls:= .type "list",data:= .seq its.toArray n}) (hf:f its.toArray=its'.toArray) (G:Vals ys its') (hz:ys.length<=kf):
  Inv X pins σ (!ay H l ys) {s with heap:=s.heap.update l (UO f),toks:=t'}:=by
 have q:=PySem.IsL.update e f;rw[hf] at q;refine I.write (x:=l) (e:=l) (by rw[L];exact trivial) @aj (λO u hb hu=>(U9 s.heap (UO f) (ro hb)).trans hu) ⟨_,q⟩ ?_;exact⟨hz,its',_,G,q⟩
theorem Inv.lnew {its:E'} {t':Nat} (I:@N) (G:Vals ys its) (hz:ys.length<=kf):
  Inv X pins σ (!ay H s.heap.objs.size ys) {s with heap:=s.heap.push {cls:= .type "list",data:= .seq its.toArray},toks:=t'}:=
 I.laid (λ_ _ q=>gB _ q) @Y ⟨hz,its,0,G,mc _ rfl⟩
theorem Inv.fresh (I:@N):H s.heap.objs.size=none:=I.hok.fresh @Y
theorem Inv.lstM (I:@N) (G:@bC):xs.length<=kf/\∃(its:E') (n:Nat),Vals xs its/\xs.length=its.length/\s.heap.get? l=ak {cls:= .type "list",data:= .seq its.toArray n}:=by
 obtain⟨z,its,n,r,e⟩:=I.hok l _ G;exact⟨z,its,n,r,r.length,e⟩
theorem Fi {n:Nat} (h:n<=kf):Wr n=false:=by
 unfold Wr;exact hA @A
end
section
variable {X:Cx}
noncomputable def Jk:V->eS V->Hp->VK->Prop:=λx vs H Q=>∃l xs y,x= .ref l/\vs=[y]/\H l=ak @al/\xs.length < kf/\Q .non (!ay H l (xs++[y]))
theorem dq:MtM X "list.append" Jk:=by
 intro pins s σ H x vs v us Q I L O h;obtain⟨l,xs,y,rfl,rfl,G,hz,q⟩:=h;cases L;obtain⟨u,rfl,Y⟩:=O.one;obtain⟨z,its,n,r,hl,e⟩:=I.lstM G;refine X1 F.slot_list_append ⟨_,e,rfl⟩ F.entry_list_append (F.args_list_append_2 _ _) (PySem.list_append l its.toArray n u (by rw[qb];omega)) ⟨e,?_⟩;refine⟨.non,_,I.lset (its':=its++[u]) G e @C (r.append (!bf Y)) ?_,rfl,q⟩;rw[fD,pO];omega
noncomputable def DE:V->eS V->Hp->VK->Prop:=λx vs H Q=>∃l b xs zs,x= .ref l/\vs=[.ref b]/\H l=ak @al/\H b=ak (!A zs)/\xs.length + zs.length<=kf/\Q .non (!ay H l (xs++zs))
theorem il:MtM X "list.extend" DE:=by
 intro pins s σ H x vs v us Q I O Y h;obtain⟨l,b,xs,zs,rfl,rfl,L,δ,hz,q⟩:=h;cases O;obtain⟨u,rfl,Z⟩:=Y.one;cases Z;obtain⟨z,its,n,r,hl,e⟩:=I.lstM L;obtain⟨ζ,α,γ,β,hl2,ε⟩:=I.lstM δ;have hsz:its.toArray.size + α.toArray.size<=sizeLine:=by rw[qb,qb];omega
 have G:¬(!its.toArray.isEmpty&&Wr (its.toArray.size + α.toArray.size))=true:=by
  rw[Fi hsz,VW];exact ia
 refine X1 F.slot_list_extend ⟨_,e,rfl⟩ F.entry_list_extend (F.args_list_extend_2 _ _)
  (AutoSeq1.list_extend_list_list_0 l its.toArray n b α.toArray γ G (by rw[qb];omega) @A) ⟨e,ε,?_⟩
 refine⟨.non,_,I.lset (its':=its++α) L e @C (r.append β) ?_,rfl,q⟩;rw[fD];omega
noncomputable def rCat:R2:=λx y H Q=>∃l b xs zs,x= .ref l/\y= .ref b/\H l=ak @al/\H b=ak (!A zs)/\xs.length + zs.length<=kf/\∀p,H p=f'->Q @P (!ay H p (xs++zs))
theorem g6:!b8 X .Add rCat:=by
 intro pins s σ H x y v u Q I L G h;obtain⟨l,b,xs,zs,rfl,rfl,Y,Z,hz,q⟩:=h;cases L;cases G;obtain⟨z,its,n,r,hl,e⟩:=I.lstM Y;obtain⟨γ,α,δ,O,hl2,β⟩:=I.lstM Z;refine PySem.P.add_list e β ?_ (by rw[qb,qb];omega);have ea:its.toArray++α.toArray=(its++α).toArray:=by simp
 rw[ea];exact⟨!j _,_,I.lnew (t':=s.toks) (r.append O) (by rw[fD];omega),rfl,q _ I.fresh⟩
noncomputable def rRep:R2:=λx y H Q=>∃l k xs,x= .ref l/\y= .int k/\H l=ak @al/\-(2 ^ 63)<=k/\k < 2 ^ 63/\xs.length * k.toNat<=kf/\
 ∀p,H p=f'->Q @P (!Y p (.lst (hC k.toNat xs).flatten))
theorem Qg {α:Type} (xs:eS α) (k:Nat):(hC k xs).flatten.length=k * xs.length:=by
 induction k with
 | zero=>simp
 | succ k ih=>rw[We,Xw,fD,ih,Yo,XF]
theorem Jz:!b8 X .Mult rRep:=by
 intro pins s σ H x y v u Q I Z Y h;obtain⟨l,k,xs,rfl,rfl,α,h1,h2,hz,q⟩:=h;cases Z;obtain⟨t,rfl⟩:=Y;obtain⟨z,its,n,r,hl,e⟩:=I.lstM α;have L:its.toArray.size * k.toNat<=sizeLine:=by rw[qb,<-hl];exact hz
 have O:¬its.toArray.size * k.toNat > (2 ^ 63 - 1) / 8:=by
  have:(kf:Nat)<=(2 ^ 63 - 1) / 8:=by decide
  omega
 have ω:¬(!Builtin.List.listFitsIndex k)=true:=by
  rw[fitsIndex_both h1 h2];exact ia
 have G:¬Wr (its.toArray.size * k.toNat)=true:=by
  rw[Fi L];exact ia
 have η:ab9 (λx1 x2=>x1++x2) #[] (hC (if its.toArray.isEmpty=true then 0 else k.toNat) its.toArray)=(hC k.toNat its).flatten.toArray:=by
  have ε:∀m:Nat,ab9 (λx1 x2=>x1++x2) #[] (hC m its.toArray)=(hC m its).flatten.toArray:=λm=>by
   have:=Ca its m [];rw[List.nil_append] at this;exact this
  rw[ε];cases its with
  | nil=>simp
  | cons a r'=>rw[mu @C]
 refine wpAny_binaryOp_repeat_ref (T:="list") (U:="int") @D ⟨_,e,rfl⟩ (λs'=>ag6 s' k t) noFill_list_mul F.fills_int_mul F.slot_int_rmul repeat_list F.slot_int_index.lookup
  (X1 F.slot_int_rmul (ag6 s k t) F.entry_int_rmul (F.args_int_rmul_2 _ _) (int___rmul___int_list k t l its.toArray n)
   ⟨e,rfl,⟨_,e,rfl⟩,X1 F.slot_list_mul ⟨_,e,rfl⟩ F.entry_list_mul (F.args_list_mul_2 _ _) (AutoListH.list___mul___list_int_3 l its.toArray n k t ω O G) ⟨e,?_⟩⟩)
 rw[η];exact⟨!j _,_,I.lnew (t':=s.toks) (r.rep k.toNat) (by rw[Qg,Z3];exact hz),rfl,q _ I.fresh⟩
end
end L2
namespace Att
open PySem PySem.W PySem.Calls PyProof.Rows
theorem xH {P:Params} {h:zx}:∀(ns:P') (vs:E'),WellAll P h vs (ns.map WData.int)->IntsAre vs ns:=by
 intro ns
 induction ns with
 | nil=>
   intro vs w;rw[Z0] at w;cases w;exact .nil
 | cons n ns ih=>
   intro vs w;rw[UL] at w;cases w with
   | cons a b=>
     cases a;exact .cons _ _ (ih _ b)
theorem IU {l:ac8} {n:Nat} (hn:l.most=ak n) {P:Params} {h:zx} {args:eS WData} {G:E'}
  (L:l.row.toRowW.claim.pre args=true) (γ:WellAll P h G args):
  ∃a vs ns,G=[p' a]/\args=[WData.list (ns.map WData.int)]/\h.get? a=ak {cls:= .type "list",data:= .seq vs.toArray}/\IntsAre vs ns/\ns.length<=n:=by
 have δ:WShape.hasAll [] args [.list .int]=true:=(pre_splitW L).1;have ε:l.pre.holds [] {args:=args}=true:=(pre_splitW L).2;obtain⟨d,r,rfl,h1,h2⟩:=hasAllW_cons δ;obtain rfl:=hasAllW_nil h2;obtain⟨xs,rfl,ζ⟩:=hasW_list h1;obtain⟨ns,rfl⟩:=items_int ζ
 have O:ns.length<=n:=by
  unfold OpenLaw.pre at ε
  have α:(WTm.not (.lt (.lit (.int (n:Int))) (.len (.arg 0)))).holds [] {args:=[.list (ns.map .int)]}=true:=by
   have α:=(holds_andW ε).1;rw[hn] at α;exact α
  have Z:=condW_of α (w_not (w_lt w_lit (w_len_list (w_arg rfl))));rw[aI] at Z;refine Xv λq=>?_;have β:(n:Int) < ((ns.length:Nat):Int):=by omega
  first
   | (rw[hE β] at Z;exact hF Z @D)
   | (simp at Z;omega)
 cases γ with
 | cons ρ Y=>
   cases Y;cases ρ with
   | list ho υ=>exact⟨_,_,ns,rfl,rfl,ho,xH ns _ υ,O⟩
theorem Ju (l:ac8) (args:eS WData):l.row.toRowW.claim.post args @c4 args=true:=
 postW_of (r:=l.row.toRowW) (X:=(true == true))
  (show ah2 [] @c4 .bool=true by first | rfl | decide | simp[ah2,WShape.arms,WShape.armsAll])
  (show(WTm.eq .res (.lit @c4)).value [] {args:=args,res:=ak @c4,after:=args}=ak (.bool (true == true)) from w_eq_bool (w_res rfl) w_lit) rfl
theorem attach_call {l:ac8} {n:Nat} {q:pT} {O:C'} {α:F'->zx->Prop} {υ:z0->zx->Prop} {d:DefRec}
  (hn:l.most=ak n) (ν:d.params.defaults=[])
  (call:∀(w:z0) (s₀ L:kb) (mg Z:F') (ζ:ee) (o:Zs) (η χ τ:kk) (a:ee) (vs:E') (ns:P'),
   Ground q O [] α w s₀ mg Z L.heap->υ w L.heap->
   L.heap.get? ζ=ak o->o.data= .func (docDef d.name d.params d.body d.scope η χ τ)->L.heap.CodeRec χ d.name->mg d.name=ak (!j ζ)->
   L.heap.get? a=ak {cls:= .type "list",data:= .seq vs.toArray}->IntsAre vs ns->ns.length<=n->L.gens=#[]->
   codeAny (oS l.prog w) callerA (.call (!j ζ) ⟨[.ref a],[]⟩) (λr s'=>r= .ok (.ret @c4)/\OldK L.heap s'.heap/\s'.os=L.os/\AllBare s'.gens) L):
  WalkO q O α υ l.row.toRowW d [] (λf vs=>ab4 f vs):=by
 intro w s₀ L mg Z G Y ζ o η χ τ dV kV ho hd ο ω ξ hg args π as γ ρ θ ι ψ;obtain rfl:dV= .none:=Dflts.none ω ν;obtain rfl:kV= .none:=Dflts.noKw ω;obtain⟨a,vs,ns,rfl,rfl,δ,β,ε⟩:=IU hn γ ι;refine enter_call (Yl (call w s₀ L mg Z ζ o η χ τ a vs ns G Y ho (fd_plain hd) ο ξ δ β ε hg) λr s' φ=>?_);obtain⟨rfl,h2,h3,h4⟩:=φ;exact⟨!J ⟨.bool true,.bool true,[],rfl,λ_=>rfl,.bool true,Ju l _,λ_=>⟨Zq,λ_ hm=>(nomatch hm)⟩⟩,h2,h3,h4⟩
end Att
namespace L2
open PySem PySem.Spec PyProof.Rows
theorem vS:∀{vs:E'} {ns:P'},IntsAre vs ns->Vals @ar vs
 | _,_,.nil=> .nil
 | _,_,.cons n t h=> .cons ⟨t,rfl⟩ (vS h)
def Only (H:Hp):Prop:=∀b,H b=f'∨∃o xs,H b=ak (.frz o @al)
theorem MS {P:pT} {w:z0} {K:b'} {mg Z:F'} {CX:CXT} {k:Nat} {τ a:ee} {fd:hM} {x:lA} {sp:Sp} {G:kb} {vs:E'} {ns:P'}
  (KX:K.In G.heap) (χ:G.heap.Ns z5 mg) (hb:G.heap.Ns builtinsNs Z) (ξ:∀x:lA,x≠"__name__"->Z x=bootBuiltins x) (δ:G.heap.NoLimit) (hg:G.gens=#[])
  (ha:G.heap.get? a=ak {cls:= .type "list",data:= .seq vs.toArray}) (hi:IntsAre vs ns) (hl:ns.length<=kf) (hr:!aX callerA)
  (F:∀base:zx,K.In base->base.Ns z5 mg->FnOk P w K mg base CX k τ fd [x] sp) (O:∀(s:kb) (u:kk),BindsTo s fd ⟨[u],[]⟩ [(x,u)])
  (η:∀H:Hp,Only H->SqL K H a @ar->sp [.ref a] H (λv _=>v= .bl true) λ_ _ _=>False)
  (ο:∀H e s',CX [] H G (λ_ _ _=>False) e s'->False):
  codeAny (oS P w) callerA (.call (!j τ) ⟨[.ref a],[]⟩) (!cp (.ret @c4)) G:=by
 have φ:=vS hi;have α:=hi.length
 have L:∀H:Hp,Only H->SqL K H a @ar->HOk P w H G.heap->(∀b,H b≠f'->b=a)->(H a≠f'->K.lookup a=f')->
   codeAny (oS P w) callerA (.call (!j τ) ⟨[.ref a],[]⟩) (!cp (.ret @c4)) G:=by
  intro H hO hS hok ψ hK;have θ:∀{b:ee} {o:Zs},G.heap.get? b=ak o->H b=f'->(hidT G.heap H).get? b=ak o:=λe n=>M3 e n
  have ν:∀{b:ee} {o:Zs} {es:ae6 DictEntry} {ep:Nat},G.heap.get? b=ak o->o.data= .dict es ep->H b=none:=λ{b o es ep} e d=>by
   cases q:H b with
   | none=>rfl
   | some u=>
     have υ:b=a:=ψ b (by rw[q];simp);subst υ;rw[ha] at e;cases e;have d':Data.seq vs.toArray _=Data.dict es ep:=d;cases d'
  have ι:∀{b:ee} {m:F'},G.heap.Ns b m->(hidT G.heap H).Ns b m:=λ{b m} ⟨o,es,ep,e,d,r⟩=>⟨o,es,ep,θ e (ν e d),d,r⟩
  have ε:K.In (hidT G.heap H):=λb o e=>θ (KX b o e) (by
   cases q:H b with
   | none=>rfl
   | some u=>
     have υ:b=a:=ψ b (by rw[q];simp);subst υ;rw[hK (by rw[q];simp)] at e;cases e)
  have ρ:Mod K mg (hidT G.heap H):=⟨ε,ι χ,⟨Z,ι hb,ξ⟩,let ⟨π,h1,h2⟩:=δ;⟨π,ι h1,h2⟩⟩;have ζ:Env0 P w K mg (hidT G.heap H) callerA [] G H:=⟨rfl,ρ,λb o e=>P6 e,Yq (Kj _ _),trivial,λb hb=>hF (show b∈([]:M') from hb) @C,hok,.of_eq hg⟩;refine Yl ((F _ ε (ι χ)).run callerA [] G H ⟨[.ref a],[]⟩ [.ref a] [.ref a] _ _ hr ζ (O G @aa) (!bf rfl) (η H hO hS)) λr s' h=>?_;cases r with
  | error e=>exact(ο H e s' h).elim
  | ok fl=>
    cases fl with
    | next=>exact UP h
    | brk=>exact UP h
    | cont=>exact UP h
    | ret u=>
      obtain⟨v,H',os,bare,un,γ,r',q⟩:=h;have β:v= .bl true:=q;subst β;obtain rfl:u=ab2 true:=r';refine⟨rfl,OldK.of_keep λb o e=>?_,os,bare⟩;cases q:H b with
      | none=>exact un.keep b o e q (by intro z;exact hF (show b∈([]:M') from z) @C) @C
      | some u=>
        rcases hO b with z | ⟨ob,xs,z⟩
        ·rw[q] at z;cases z
        ·have z2:=un.frzs b ob _ z;obtain⟨ω,_⟩:=hok b _ z;obtain⟨e2,_⟩:=γ b _ z2;rw[e] at ω;cases ω;exact e2
 cases hk:K.lookup a with
 | some o=>
   have e:=KX a o hk;rw[ha] at e;cases e;refine L (λ_=>f') (λ_=> .inl rfl) (!F ⟨_,vs.toArray,_,hk,rfl,rfl,rfl,by rw[qb,α];exact hl,by simpa using φ⟩) (λb u z=>by have Y:(f':qE HO)=ak u:=z;cases Y) (λb z=>hF rfl z) λz=>hF rfl z
 | none=>
   refine L (λb=>if b=a then ak (.frz {cls:= .type "list",data:= .seq vs.toArray} (!A @ar)) else f') (λb=>?_) (!J (!F ⟨{cls:= .type "list",data:= .seq vs.toArray},oL rfl⟩)) (λb u z=>?_) (λb z=>?_) λ_=>hk
   ·by_cases hb:b=a
    ·exact !F ⟨_,_,oL hb⟩
    ·exact !J (mu hb)
   ·by_cases hb:b=a
    ·have Y:=(oL hb).symm.trans z;cases Y;subst hb;exact⟨ha,by rw[aI];exact hl,vs,_,φ,ha⟩
    ·have Y:=(mu hb).symm.trans z;cases Y
   ·by_cases hb:b=a
    ·exact hb
    ·exact hF (mu hb) z
theorem walk_of {l:PySem.W.OpenLaw} {n k:Nat} {q:pT} {O:C'} {α:F'->zx->Prop} {π:z0->zx->Prop} {d:DefRec} {K:Params->b'} {CX:z0->CXT} {sp:z0->Sp} {x:lA}
  (hn:l.most=ak n) (ι:n<=kf) (ν:d.params.defaults=[]) (υ:!aX callerA)
  (ω:∀(w:z0) (h:zx),π w h->(@bi).In h)
  (F:∀(w:z0) (mg:F') (ζ:ee) (h:zx),(@bi).In h->h.Ns z5 mg->mg d.name=ak (!j ζ)->
   ∃fd:hM,(∀(s:kb) (u:kk),BindsTo s fd ⟨[u],[]⟩ [(x,u)])/\
     ∀base:zx,(@bi).In base->base.Ns z5 mg->FnOk l.prog w @bi mg base (CX w) k ζ fd [x] (sp w))
  (η:∀(w:z0) (H:Hp) (a:ee) (ns:P'),ns.length<=n->Only H->SqL @bi H a @ar->sp w [.ref a] H (λv _=>v= .bl true) λ_ _ _=>False)
  (ο:∀(w:z0) (H:Hp) (s:kb) (e:kk) (s':kb),CX w [] H s (λ_ _ _=>False) e s'->False):
  PySem.W.WalkO q O α π l.row.toRowW d [] (λf vs=>ab4 f vs):=by
 refine Att.attach_call hn ν λw s₀ δ mg Z ζ o pm χ τ a vs ns G Y ho hd ψ ξ ε γ L φ=>?_;have ρ:=ω w _ Y;obtain⟨fd,hb,β⟩:=F w mg ζ _ ρ G.T.g ξ;exact MS ρ G.T.g G.T.b G.T.builtins G.T.nolimit φ ε γ (Vs L ι) υ β hb (λH hO θ=>η w H a ns L hO θ) λH e s'=>ο w H δ e s'
noncomputable def bH (s:WX) (j:Nat):Stmt:=match s with
 | .ClassDef _ _ _ G _ _ _ _ _ _ _=>G.getD j (.Pass ⟨0,0,0,0⟩)
 | _=> .Pass ⟨0,0,0,0⟩
noncomputable def iU (s:WX):Arguments:=match s with
 | .FunctionDef _ a _ _ _ _ _ _ _ _=>a
 | _=>{posonlyargs:=[],args:=[],vararg:=f',kwonlyargs:=[],kw_defaults:=[],kwarg:=f',defaults:=[]}
noncomputable def fO (s:WX):eS Stmt:=match s with
 | .FunctionDef _ _ b _ _ _ _ _ _ _=>b
 | _=>[]
noncomputable def ag (s:WX):Scope:=match s with
 | .FunctionDef _ _ _ _ _ _ G _ _ _=>G
 | _=>{kind:= .function,names:=[],isGenerator:=false,isCoroutine:=false}
noncomputable abbrev CX0:CXT:=λ_ _ _ _ _ _=>False
noncomputable abbrev E0:XK:=λ_ _ _=>False
theorem bW {X:Cx}:sN CX0 X E0:=λ_ _ _ _ _ _ _ h=>h.elim
structure Fun (K:b') (x qual:lA) (st:WX) (f:ee) (fd:hM):Prop where
 ex:∃(oc:kk) (od:Q') (kV doc pm:kk) (an:Q') (cdv ct:kk) (osl:K'),
  fd=Vj x qual (iU st) @ba @aB .none kV doc pm an cdv ct/\K.lookup f=ak ⟨oc,od,.func fd,osl⟩/\Wp K cdv qual=true
 kp:Vk K @a6=true
section
variable {P:pT} {w:z0} {K:b'} {mg:F'} {base:zx}
theorem Fun.ok {x G:lA} {st:WX} {f:ee} {fd:hM} {N ps:C'} {k:Nat} {sp:Sp} (F:Fun K x G st f fd) (S:!C N ps st) (len:∀vs H Q E,sp vs H Q E->vs.length=ps.length)
  (η:∀(L:kk) (A:xY) (outer:@aG) (s:kb) (H:Hp) (vs:eS V) (Q:VK) (E:XK),Room k (A.deeper (!bo G @aB f L))->sp vs H Q E->
   ∃t,PSs (cxOf CX0 P w K mg base N G @aB f L A outer s H E).nox @ba t/\t {nx:=λ_ H'=>Q .non H',rt:=Q} (start N vs) H):!H @b4 f fd ps sp:=by
 obtain⟨γ,od,kV,τ,β,an,L,ct,Z,rfl,lk,Y⟩:=F.ex;refine @dt;obtain⟨t,h,q⟩:=η L A outer s H vs Q E α O;exact⟨t,h.nox,q⟩
theorem Fun.okA {x G:lA} {st:WX} {f:ee} {fd:hM} {N ps:C'} {k:Nat} {sp:Sp} (F:Fun K x G st f fd) (S:!C N ps st)
  (η:∀(L:kk) (A:xY) (outer:@aG) (s:kb) (H:Hp) (vs:eS V) (Q:VK) (E:XK),Room k (A.deeper (!bo G @aB f L))->sp vs H Q E->
   ∃t,PSs (cxOf CX0 P w K mg base N G @aB f L A outer s H E).nox @ba t/\t {nx:=λ_ H'=>Q .non H',rt:=Q} (start N vs) H) (len:∀vs H Q E,sp vs H Q E->vs.length=ps.length:=by walk_at "n"):!H @b4 f fd ps sp:=F.ok S len η
theorem Fun.binds {x G:lA} {st:WX} {f:ee} {fd:hM} {ps:C'} (F:Fun K x G st f fd)
  (h:∀(kV τ O:kk) (an:Q') (L ct:kk) (us:E'),us.length=ps.length->bindArgs (Vj x G (iU st) @ba @aB .none kV τ O an L ct) ⟨us,[]⟩=pure (ps.zip us)):rn K fd ps []:=by
 obtain⟨α,od,kV,τ,O,an,L,ct,Y,rfl,lk,Z⟩:=F.ex;exact .all (h kV τ O an L ct)
theorem On {x G:lA} {st:WX} {f:ee} {Z:kk} {od an:Q'} {O:K'} {kV τ Y L ct:kk} (l:K.lookup f=ak ⟨Z,od,.func (Vj x G (iU st) (fO st) (ag st) .none kV τ Y an L ct),O⟩)
  (c:Wp K L G=true) (k:Vk K @a6=true):Fun K x G st f (Vj x G (iU st) @ba @aB .none kV τ Y an L ct):=⟨⟨Z,od,kV,τ,Y,an,L,ct,O,rfl,l,c⟩,k⟩
end
theorem qZ {A:xY} {k:Nat} (G:!aX A):A.units + 1 < cLine:=w2 (Nat.add_le_add_left (by decide:1<=64) _) G.units
theorem aO {n:Nat} (h:n<=1000):n < sizeLine:=w2 h @D
section
variable {X:Cx}
theorem pv (i:Nat) {x:lA} {pos:Pos} (γ:X.N[i]? =ak x:=by rfl) (L:Vis X.env.scope x:=by first | exact X4 rfl | exact WU (X4 rfl) | exact WU (WU rfl)) (hd:(x == ("__debug__":lA))=false:=by decide)
  (G:(x == ("__classdict__":lA))=false:=by decide):!E (!b2 pos) (tVar i):=R8 γ L hd G
end
theorem ite2 {c A B:Prop} [Decidable c] (h1:c->A) (h2:¬c->B):if c then A else B:=by
 by_cases h:c
 ·rw[oL h];exact h1 h
 ·rw[mu h];exact h2 h
def Same (H H':Hp):Prop:=∀b o,H b=ak o->H' b=ak o
theorem Same.refl (H:Hp):Same H H:=λ_ _ h=>h
theorem Same.trans {H H1 H2:Hp} (a:!bm H1) (b:Same H1 H2):Same H H2:=λc o h=>b c o (a c o h)
theorem Same.free {H H':Hp} (e:!bm H') {l:ee} (h:H' l=Option.none):H l=Option.none:=by
 cases q:H l with
 | none=>rfl
 | some o=>
   rw[e l o q] at h;cases h
theorem Same.seq {K:b'} {H H':Hp} {a:ee} {xs:eS V} (e:!bm H') (h:SqL K H a xs):SqL K H' a xs:=by
 rcases h with (h | ⟨o,h⟩) | h
 ·exact !J (!J (e _ _ h))
 ·exact !J (!F ⟨o,e _ _ h⟩)
 ·exact !F h
section
variable {κ:Type} [DecidableEq κ]
noncomputable def valV (kvs:@aZ) (k:κ):qE V:=(kvs.find? λG=>decide (G.1=k)).map (·.2)
noncomputable def putK (kvs:@aZ) (k:κ) (v:V):eS (κ×V):=
 if @cF=true then kvs.map (λG=>if G.1=k then (G.1,v) else G) else kvs++[(k,v)]
theorem mH {p:κ×V} {r:@aZ} {k:κ} (e:p.1=k):valV (p::r) k=ak p.2:=by simp[valV,Xc,e]
theorem mI {p:κ×V} {r:@aZ} {k:κ} (e:¬p.1=k):valV (p::r) k=valV r k:=by simp[valV,Xc,e]
theorem rp (k:κ):∀kvs:eS (κ×V),@cF=(valV kvs k).isSome
 | []=>rfl
 | p::r=>by
   rw[Yr];by_cases e:p.1=k
   ·simp only[mH e,hE e,Bool.true_or,Option.isSome_some]
   ·rw[mI e,hA e,Bool.false_or];exact rp k r
theorem xv (kvs:@aZ) (k:κ) (v:V):(putK kvs k v).length<=kvs.length + 1:=by
 unfold putK;split
 ·rw[aI];omega
 ·rw[fD,pA,af3];omega
theorem RelO.isSome_eq {o:qE V} {u:U3} (r:RelO o u):o.isSome=u.isSome:=by
 cases o with
 | none=>cases u with
   | none=>rfl
   | some _=>exact(show False from r).elim
 | some _=>cases u with
   | none=>exact(show False from r).elim
   | some _=>rfl
theorem KV.val {kvs:@aZ} {vs:@ca} (r:KV kvs vs) (k:κ):RelO (valV kvs k) (valueAt vs k):=by
 unfold KV at r
 induction r with
 | nil=>exact Y3
 | @cons p q ps qs h t ih=>
   obtain⟨h1,h2⟩:=h;by_cases e:p.1=k
   ·have G:q.1=k:=h1.symm.trans e;have b:valueAt (q::qs) k=ak q.2:=by simp[valueAt,Xc,G]
    rw[mH e,b];exact h2
   ·have G:¬q.1=k:=λz=>e (h1.trans z);have b:valueAt (q::qs) k=valueAt qs k:=by simp[valueAt,Xc,G]
    rw[mI e,b];exact ih
theorem KV.any {kvs:@aZ} {vs:@ca} (r:KV kvs vs) (k:κ):@cF=vs.any λG=>decide (G.1=k):=by
 unfold KV at r
 induction r with
 | nil=>rfl
 | cons h t ih=>rw[Yr,Yr,ih,h.1]
theorem KV.repl {kvs:@aZ} {vs:@ca} (r:KV kvs vs) (k:κ) {y:V} {u:kk} (L:!aG y):
  KV (kvs.map λG=>if G.1=k then (G.1,y) else G) (vs.map λG=>if G.1=k then (G.1,u) else G):=by
 unfold KV at r ⊢
 induction r with
 | nil=>exact .nil
 | @cons p q ps qs h t ih=>
   rw[UL,UL];refine .cons ?_ ih;obtain⟨h1,h2⟩:=h;by_cases e:p.1=k
   ·rw[oL e,oL (h1.symm.trans e)];exact⟨h1,L⟩
   ·rw[mu e,mu (λz=>e (h1.trans z))];exact⟨h1,h2⟩
theorem KV.put {kvs:@aZ} {vs:@ca} (r:KV kvs vs) (k:κ) {y:V} {u:kk} (G:!aG y):KV (putK kvs k y) (stored vs k u):=by
 unfold putK stored;rw[r.any k];by_cases e:(vs.any λL=>decide (L.1=k))=true
 ·rw[oL e,oL e];exact r.repl k G
 ·rw[mu e,mu e];exact ag8 r ⟨rfl,G⟩
theorem KV.keys {kvs:@aZ} {vs:@ca} (r:KV kvs vs):kvs.map (·.1)=vs.map (·.1):=by
 unfold KV at r
 induction r with
 | nil=>rfl
 | cons h t ih=>rw[UL,UL,ih,h.1]
theorem KV.length {kvs:@aZ} {vs:@ca} (r:KV kvs vs):kvs.length=vs.length:=Zm r
end
theorem G4 {P:pT} {w:z0} {k:Key} {u:kk} (r:!aG (kV k)):(dR P w).is k u=true:=by
 cases k with
 | inl i=>obtain⟨t,e⟩:=(show ∃t,u=Zz i t from r);subst e;exact DX P w i t
 | inr x=>obtain⟨t,e⟩:=(show ∃t,u=YT x t from r);subst e;exact DW P w x t
theorem BY {P:pT} {w:z0}:∀{ks:eS Key} {us:E'},Vals (ks.map kV) us->ItemsAre (dR P w) ks us
 | [],_,r=>by rw[Z0] at r;cases r;exact .nil
 | k::ks,_,r=>by
   rw[UL] at r;cases r with
   | cons h t=>exact .cons (G4 h) (BY t)
noncomputable abbrev KT (H:Hp):eS (eS Key×V)->eS @c6->Prop:=Paired λp q=>p.1=q.1/\H q.2.1=ak (!G (p.1.map kV))/\RelV p.2 q.2.2
theorem KT.val {H:Hp} {kvs:@br} {xs:eS @c6} (r:KT H kvs xs) (k:eS Key):RelO (valV kvs k) ((atKey xs k).map (·.2)):=by
 induction r with
 | nil=>exact Y3
 | @cons p q ps qs h t ih=>
   obtain⟨h1,_,h2⟩:=h;by_cases e:p.1=k
   ·have G:q.1=k:=h1.symm.trans e;have b:atKey (q::qs) k=ak q.2:=by simp[atKey,Xc,G]
    rw[mH e,b];exact h2
   ·have G:¬q.1=k:=λz=>e (h1.trans z);have b:atKey (q::qs) k=atKey qs k:=by simp[atKey,Xc,G]
    rw[mI e,b];exact ih
theorem KT.repl {H:Hp} {kvs:@br} {xs:eS @c6} (r:KT H kvs xs) (k:eS Key) {y:V} {u:kk} (L:!aG y):
  KT H (kvs.map λG=>if G.1=k then (G.1,y) else G) (xs.map (putAt k u)):=by
 induction r with
 | nil=>exact .nil
 | @cons p q ps qs h t ih=>
   rw[UL,UL];refine .cons ?_ ih;obtain⟨h1,h2,O⟩:=h;unfold putAt;by_cases e:p.1=k
   ·rw[oL e,oL (h1.symm.trans e)];exact⟨h1,h2,L⟩
   ·rw[mu e,mu (λz=>e (h1.trans z))];exact⟨h1,h2,O⟩
theorem KT.put {H:Hp} {kvs:@br} {xs:eS @c6} (r:KT H kvs xs) (k:eS Key) {b:ee} {y:V} {u:kk} (hb:H b=ak (!G (k.map kV))) (G:!aG y):
  KT H (putK kvs k y) (storedH xs k b u):=by
 have e:(kvs.any λL=>decide (L.1=k))=(atKey xs k).isSome:=by
  rw[rp,(r.val k).isSome_eq,YO]
 unfold putK storedH;rw[e];by_cases q:(atKey xs k).isSome=true
 ·rw[oL q,oL q];exact r.repl k G
 ·rw[mu q,mu q];exact ag8 r ⟨rfl,hb,G⟩
theorem KT.keeps {H H':Hp} {kvs:@br} {xs:eS @c6} (r:KT H kvs xs) (ht:∀b ys,H b=ak (!G ys)->H' b=ak (!G ys)):KT H' kvs xs:=
 Paired.mapP r λ_ _ z=>⟨z.1,ht _ _ z.2.1,z.2.2⟩
section
variable {P:pT} {w:z0} {H:Hp} {h:zx} {a:ee}
theorem RL {u:HO} (ok:HOk P w H h) (e:Rd H a u):ip P w H h a u:=e.ok ok
theorem KL {kvs:@ak} (ok:HOk P w H h) (e:Rd H a @ah):kvs.length<=kf/\@c0=false/\∃vs,KV kvs vs/\h.DictOf (dR P w) a vs:=
 show ip P w H h a @ah from RL ok e
theorem S7 {kvs:@ak} (ok:HOk P w H h) (e:!aV @ah):kvs.length<=kf/\@c0=false/\∃vs,KV kvs vs/\h.DictOf (dR P w) a vs:=KL ok (!J e)
theorem BW {ks:eS Key} (ok:HOk P w H h) (e:!aV (!G (ks.map kV))):(tupleKind (dR P w)).is h ks a:=by
 obtain⟨_,its,r,o,h1,h2,n,G⟩:=(show ip P w H h a (!G (ks.map kV)) from ok a _ e);exact⟨o,its.toArray,n,h1,h2,G,by simpa using BY r⟩
theorem KJ {kvs:@br} (ok:HOk P w H h) (e:Rd H a (.dT kvs)):kvs.length<=kf/\@c0=false/\
  ∃xs,KT H kvs xs/\h.DictOfH (tupleKind (dR P w)) a xs:=by
 obtain⟨z,y,xs,r,o,es,ep,h1,h2,Y,O,L⟩:=(show ip P w H h a (.dT kvs) from RL ok e);refine⟨z,y,xs,r,o,es,ep,h1,h2,Y,O,λx hx=>?_,L⟩
 have all:∀{l:@br} {m:eS @c6},KT H l m->∀x∈m,(tupleKind (dR P w)).is h x.1 x.2.1:=by
  intro l m q
  induction q with
  | nil=>intro x hx;exact nomatch hx
  | @cons p q ps qs G t ih=>
    intro x hx;rcases qq.mp hx with e | hx
    ·subst e;exact BW ok (by rw[<-G.1];exact G.2.1)
    ·exact ih x hx
 exact all r x hx
theorem Uw {kvs:@br} (ok:HOk P w H h) (e:!aV (.dT kvs)):kvs.length<=kf/\@c0=false/\
  ∃xs,KT H kvs xs/\h.DictOfH (tupleKind (dR P w)) a xs:=KJ ok (!J e)
end
def DGet (H:Hp) (a:ee) (y:V) (r:qE V):Prop:=
 (∃kvs k,Rd H a @ah/\y=kV k/\r=valV kvs k)∨∃kvs k b,Rd H a (.dT kvs)/\y= .ref b/\H b=ak (!G (k.map kV))/\r=valV kvs k
def DPut (H:Hp) (a:ee) (y v:V) (H':Hp):Prop:=
 (∃kvs k,H a=ak @ah/\y=kV k/\kvs.length < kf/\H'=upd H a (.dK (putK kvs k v)))∨
 ∃kvs k b,H a=ak (.dT kvs)/\y= .ref b/\H b=ak (!G (k.map kV))/\kvs.length < kf/\H'=upd H a (.dT (putK kvs k v))
theorem DGet.k {H:Hp} {a:ee} {kvs:@ak} {k:Key} (e:!aV @ah):DGet H a (kV k) (valV kvs k):= .inl ⟨kvs,k,!J e,rfl,rfl⟩
theorem DPut.k {H:Hp} {a:ee} {kvs:@ak} {k:Key} {v:V} (e:!aV @ah) (hl:kvs.length < kf):DPut H a (kV k) v (!Y a (.dK (putK kvs k v))):= .inl ⟨kvs,k,e,rfl,hl,rfl⟩
section
variable {X:Cx} {pins:Dn} {σ:St} {H:Hp} {s:kb} {a:ee} {y v:V} {u r:kk} {o:qE V} {A:xY} {E:D'}
theorem Inv.big (I:@N):sysModules < s.heap.objs.size:=by
 have h:z5 < s.heap.objs.size:=(I.mod.glob.keeps I.bk).lt;exact Z6 @D h
theorem KW {Q:D'} (hu:@cL) (I:@N) (g:DGet H a y @aC) (O:!aG y) (h:∀τ s',Inv X pins σ H s'->RelV v τ->Q τ s'):
  lT @T A (getItem @aa u) Q E s:=by
 rcases g with ⟨kvs,k,e,ey,l⟩ | ⟨kvs,k,b,e,ey,Z,l⟩
 ·subst ey;obtain⟨z,hd,vs,rel,dd⟩:=KL I.hok e;obtain⟨τ,hw,G⟩:=RelO.some_of (v:=v) (o:=valueAt vs k) (by rw[l];exact rel.val k);exact wpAny_getItem_of (G4 O) dd.mapOf hw (h τ _ @bh G)
 ·subst ey;cases(show u=p' b from O);obtain⟨z,hd,xs,rel,dd⟩:=KJ I.hok e;obtain⟨τ,hw,G⟩:=RelO.some_of (v:=v) (o:=(atKey xs k).map (·.2)) (by rw[l];exact rel.val k);obtain⟨p,Y,L⟩:=Vv.mp hw;refine wpAny_getItem_heap (XY hu) (BW I.hok Z) dd Y ?_;rw[L];exact h τ _ @bh G
theorem d_in {Q:D'} (hu:@cL) (I:@N) (g:DGet H a y o) (G:!aG y) (h:∀s',Inv X pins σ H s'->Q (.bool o.isSome) s'):
  lT @T A (compareOp .In u @aa) Q E s:=by
 rcases g with ⟨kvs,k,e,ey,l⟩ | ⟨kvs,k,b,e,ey,L,l⟩
 ·subst ey;obtain⟨z,hd,vs,rel,dd⟩:=KL I.hok e;refine wpAny_in_of (G4 G) hd dd.mapOf ?_;rw[<-(rel.val k).isSome_eq,<-l];exact h _ @bh
 ·subst ey;cases(show u=p' b from G);obtain⟨z,hd,xs,rel,dd⟩:=KJ I.hok e;refine wpAny_in_heap (XY hu) (BW I.hok L) hd dd ?_;have q:=(rel.val k).isSome_eq;rw[YO] at q;rw[<-q,<-l];exact h _ @bh
theorem Qv {Q:D'} (hu:@cL) (I:@N) (g:DGet H a y o) (G:!aG y) (h:∀s',Inv X pins σ H s'->Q (.bool (!o.isSome)) s'):
  lT @T A (compareOp .NotIn u @aa) Q E s:=by
 rcases g with ⟨kvs,k,e,ey,l⟩ | ⟨kvs,k,b,e,ey,L,l⟩
 ·subst ey;obtain⟨z,hd,vs,rel,dd⟩:=KL I.hok e;refine wpAny_notIn_of (G4 G) hd dd.mapOf ?_;rw[<-(rel.val k).isSome_eq,<-l];exact h _ @bh
 ·subst ey;cases(show u=p' b from G);obtain⟨z,hd,xs,rel,dd⟩:=KJ I.hok e;refine wpAny_notIn_heap (XY hu) (BW I.hok L) hd dd ?_;have q:=(rel.val k).isSome_eq;rw[YO] at q;rw[<-q,<-l];exact h _ @bh
theorem KQ {h':zx} {t':Nat} {ob:HO} (I:@N) (L:Mut (H a)) (hs:Xm a s.heap h') (he:∃q,h'.get? a=ak q) (G:ip X.prog X.w (!Y a ob) h' a ob):
  Inv X pins σ (!Y a ob) {s with heap:=h',toks:=t'}:=
 I.write (x:=a) (e:=a) L @aj (λb q hb z=>(hs.2 b hb).trans z) he G
theorem S8 {P:pT} {w:z0} {H':Hp} {h':zx} {kvs:@ak} {vs:eS (Key×kk)} (z:kvs.length<=kf) (hd:@c0=false) (rel:KV kvs vs) (dd:h'.DictOf (dR P w) a vs):
  ip P w H' h' a @ah:=⟨z,hd,vs,rel,dd⟩
theorem KS {H':Hp} {Q:L'} (hu:@cL) (I:@N) (g:DPut H a y v H') (Y:!aG y) (Z:RelV v r) (h:∀s',Inv X pins σ H' s'->Q () s'):
  lT @T A (setItem @aa u r) Q E s:=by
 rcases g with ⟨kvs,k,e,ey,l,O⟩ | ⟨kvs,k,b,e,ey,β,l,O⟩
 ·subst ey O;obtain⟨z,hd,vs,rel,dd⟩:=S7 I.hok e;have hz:vs.length<=sizeLine:=by rw[<-rel.length];exact z
  have hl:(putK kvs k v).length<=sizeLine:=by have:=xv kvs k v;omega
  refine wpAny_setItem_pairs (hsz:=hz) (G4 Y) dd λh' G hs=>h _ ?_;have he:∃q,h'.get? a=ak q:=let ⟨q,_,_,L,_⟩:=G;⟨q,L⟩
  exact KQ I (by rw[e];exact Y3) hs he (S8 hl hd (rel.put k Z) G)
 ·subst ey O;cases(show u=p' b from Y);obtain⟨z,hd,xs,rel,dd⟩:=Uw I.hok e;have hz:xs.length<=sizeLine:=by rw[<-Zm rel];exact z
  have hl:(putK kvs k v).length<=sizeLine:=by have:=xv kvs k v;omega
  refine wpAny_setItem_heap (hsz:=hz) (XY hu) (BW I.hok β) dd λh' G hs=>h _ ?_;obtain⟨q,es,ep,L,h2,ε,δ,_,γ⟩:=G;refine KQ I (by rw[e];exact Y3) hs ⟨q,L⟩ ⟨hl,hd,_,(rel.put k β Z).keeps λc ys α=>?_,q,es,ep,L,h2,ε,δ,γ⟩;rw[aH (cF α e (λz=>nomatch z))];exact α
end
def NoSl (i:xo):Prop:=∀G ε,subscripted i false G ε=operate [G,ε] (getItem G ε)
theorem OY {prog:pT} {w:z0} {A:xY} {E:D'} {s:kb} {env:Env} {value G:xo} {pos:Pos} {T id:U'} {Q:D'}
  (hl:typeLookup (!ai T) "__getitem__"=pure (ak (!ao id))) (hs:NoSl G)
  (h:lT @a3 A (eval value env) (λo L=>lT @a3 A (eval G env) (λi Y=>Y.TypeIs o T/\lT @a3 A (getItem o i) Q E Y) E L) E s):
  lT @a3 A (eval (!bP value G) env) Q E s:=by
 refine ag7 (WM h (λo L h₁=>WM h₁ (λi Y ι=>?_) λ_ _ x=>x) λ_ _ x=>x);obtain⟨hT,ι⟩:=ι;unfold subscriptTail;refine gn ?_;rw[getitemInPython_of_ne hT.not_modules];refine gn (Xz hT hl ?_)
 have fin:lT @a3 A (subscripted G false o i) (λr β=>lT @a3 A (letTemporaryGo value o r >>=λ_=>pure r) Q E β) E Y:=by
  rw[hs o i];exact wpAny_operating (WM ι (λr β O=>gn (wpAny_letTemporaryGo (nr O))) λ_ _ x=>x)
 first
  | exact nr (gn fin)
  | exact gn (nr (gn fin))
  | exact gn fin
theorem Ez {X:Cx} {pins:Dn} {σ:St} {H:Hp} {s:kb} {a:ee} {y:V} {o:qE V} (I:@N) (g:DGet H a y o):s.TypeIs @aa "dict":=by
 rcases g with ⟨kvs,k,e,_,_⟩ | ⟨kvs,k,b,e,_,_,_⟩
 ·obtain⟨_,_,vs,_,dd⟩:=KL I.hok e;exact dd.typeIs
 ·obtain⟨_,_,xs,_,dd⟩:=KJ I.hok e;exact dd.typeIs
noncomputable def Q0 (td ty:TE):TE:=fun σ H Q=>td σ H λx H1=>ty σ H1 λy H2=>∃a v,x= .ref a/\DGet H2 a y @aC/\Q v H2
noncomputable def tDIn (ty td:TE):TE:=fun σ H Q=>ty σ H λy H1=>td σ H1 λx H2=>∃a o,x= .ref a/\DGet H2 a y o/\Q (.bl o.isSome) H2
noncomputable def Im (ty td:TE):TE:=fun σ H Q=>ty σ H λy H1=>td σ H1 λx H2=>∃a o,x= .ref a/\DGet H2 a y o/\Q (.bl (!o.isSome)) H2
noncomputable def RJ (td ty tv:TE):TS:=λD σ H=>tv σ H λv H1=>td σ H1 λx H2=>ty σ H2 λy L=>∃a G,x= .ref a/\DPut L a y v G/\D.nx σ G
section
variable {X:Cx} {o i e value:xo} {pos pos' tpos:Pos} {td ty tv:TE}
theorem oC (hu:@d4) (ho:!E o td) (hi:!E i ty) (hs:NoSl i):!E (!bP o i) (Q0 td ty):=by
 intro pins s σ H Q I h;refine OY PySem.F.slot_dict_getitem.lookup hs (thn (ho pins s σ H _ I h) λu Y ⟨x,H1,γ,α,G⟩=>thn (hi pins Y σ H1 _ γ G) fun ε ζ ⟨y,H2,O,Z,a,v,ex,g,β⟩=>?_);subst ex;obtain rfl:u=p' a:=α;exact⟨Ez O g,KW hu O g Z fun τ δ φ L=>⟨v,H2,φ,L,β⟩⟩
theorem Jx (hu:@d4) (hi:!E i ty) (ho:!E o td):PC X .In i o (tDIn ty td):=by
 intro pins s σ H Q I h;refine thn (hi pins s σ H _ I h) fun ε L ⟨y,H1,γ,O,G⟩=>thn (ho pins L σ H1 _ γ G) λu ζ ⟨x,H2,β,Y,a,α,ex,g,Z⟩=>?_;subst ex;obtain rfl:u=p' a:=Y;exact d_in hu β g O fun δ φ=>⟨.bl α.isSome,H2,φ,rfl,Z⟩
theorem Bv (hu:@d4) (hi:!E i ty) (ho:!E o td):PC X .NotIn i o (Im ty td):=by
 intro pins s σ H Q I h;refine thn (hi pins s σ H _ I h) fun ε L ⟨y,H1,γ,O,G⟩=>thn (ho pins L σ H1 _ γ G) λu ζ ⟨x,H2,β,Y,a,α,ex,g,Z⟩=>?_;subst ex;obtain rfl:u=p' a:=Y;exact Qv hu β g O fun δ φ=>⟨.bl (!α.isSome),H2,φ,rfl,Z⟩
theorem z6 (hu:@d4) (ho:!E o td) (hi:!E i ty) (ζ:!E value tv) (hs:!cn (.Subscript o i pos')):
  PS X (.Assign [.Subscript o i pos'] value pos) (RJ td ty tv):=by
 intro pins s σ H D I h;refine wpAny_Assign_Subscript (thn (ζ pins s σ H _ I h) λr Y ⟨v,H1,ι,β,G⟩=>thn (ho pins Y σ H1 _ ι G) λu O ⟨x,H2,θ,α,δ⟩=>thn (hi pins O σ H2 _ θ δ) fun ε ξ ⟨y,ο,φ,Z,a,ν,ex,g,γ⟩=>?_) hs;subst ex;obtain rfl:u=p' a:=α;exact KS hu φ g Z β λL η=>⟨σ,ν,η,γ⟩
end
theorem Nl {P:pT} {w:z0} {H:Hp} (h:zx) (hb:sysModules < h.objs.size):ip P w H (h.push {cls:= .type "dict",data:= .dict #[]}) h.objs.size (.dK []):=
 ⟨Vh _,vr.mpr (ro (u' hb)),[],.nil,ZT h⟩
noncomputable def NV:TE:=λ_ H Q=>∀p,H p=f'->Q @P (!Y p (.dK []))
section
variable {X:Cx} {pos:Pos}
theorem rM:!E (.Dict [] [] pos) NV:=λpins s σ H Q I h=>
 wpAny_Dict_empty ⟨@aS,_,I.laid (a:=s.heap.objs.size) (o:= .dK []) (t':=s.toks) (λ_ _ q=>gB _ q) @Y (Nl s.heap I.big),rfl,h _ @cd⟩
end
structure M1 (X:Cx) (o:xo) (m:lA) (apos:Pos) (e:xo) (cpos:Pos):Prop where
 base:attributeBase o m X.env (!az o)=eval o X.env
 few:((!aE cpos [e]).all (λx=> !x.1)&&(!bH cpos [] X.env).all @cT
  &&decide (([e]:eS xo).length + ([]:eS Keyword).length + (if ([]:eS Keyword).isEmpty then 0 else 1) < 30))=true
 line:@cm=true
 trees:backTo cpos (ov [e] X.env)=[(false,eval e X.env)]
structure M2 (X:Cx) (o:xo) (m:lA) (apos:Pos) (e f:xo) (cpos:Pos):Prop where
 base:attributeBase o m X.env (!az o)=eval o X.env
 few:((!aE cpos [e,f]).all (λx=> !x.1)&&(!bH cpos [] X.env).all @cT
  &&decide (([e,f]:eS xo).length + ([]:eS Keyword).length + (if ([]:eS Keyword).isEmpty then 0 else 1) < 30))=true
 line:@cm=true
 trees:backTo cpos (ov [e,f] X.env)=[(false,eval e X.env),(false,eval f X.env)]
section
variable {κ:Type} [DecidableEq κ]
theorem LQ {kvs:@aZ} {k:κ} (h:valV kvs k=f'):¬k∈kvs.map (·.1):=by
 intro m;obtain⟨p,L,e⟩:=hD.mp m;have q:@cF=true:=WC.mpr ⟨p,L,hE e⟩;rw[rp,h] at q;exact hF q @C
theorem OR {kvs:@aZ} {k:κ} {v:V} (h:valV kvs k=ak v):k∈kvs.map (·.1):=by
 have q:@cF=true:=by
  rw[rp,h]
  all_goals rfl
 obtain⟨p,L,e⟩:=WC.mp q;exact !aq ⟨p,L,v5 e⟩
end
end L2
set_option maxHeartbeats 4000000
namespace L2
open PySem PySem.Spec PyProof.Rows
section
variable {P0:pT} {w0:z0} {A0:xY} {R0:U0} {t0:kb}
theorem Hm {ε tg iter:xo} {δ:eS xo} {sc:Wf} {pos:Pos} {π θ:kk} {η:Env} (J:Nat->kb->Prop)
  (ζ:∀n s,J n s->lT (oS P0 w0) A0 (pyNext π) (λr L=>match r with
   | none=>R0 (.ok .next) L
   | some v=>lT (oS P0 w0) A0 (letOwnedTupleGo tg π v) (λ_ Y=>lT (oS P0 w0) A0 (assign tg η v) (λ_ β=>
     lT (oS P0 w0) A0 (forIn δ true λc r=>if r=true then do let ok <-isTrue c η (eval c η);pure (WD ok) else pure (WD r)) (λok G=>
      if ok=true then lT (oS P0 w0) A0 (eval ε η) (λx γ=>
       lT (oS P0 w0) A0 (call (!ao "list.append") [θ,x]) (λ_ Z=>∃m,m < n/\J m Z) @bA γ) @bA G
      else ∃m,m < n/\J m G) @bA β) @bA Y) @bA L) @bA s)
  (n:Nat) (h:J n t0):
  codeAny (oS P0 w0) A0 (.compLoop (.ListComp ε [⟨tg,iter,δ,0⟩] sc pos) 0 π θ η) R0 t0:=by
 have no:∀{α:Type} {t:Sem α} {Q:α->kb->Prop} {E:D'} {s:kb},lT (oS P0 w0) A0 t Q @bA s->lT (oS P0 w0) A0 t Q E s:=
  λh=>WM h (λ_ _ q=>q) λ_ _ z=>z.elim
 refine codeAny_loop rfl J (λn s ρ=>?_) n h;show lT _ A0 ((compTurn (.ListComp ε [⟨tg,iter,δ,0⟩] sc pos) 0 π θ η).onRaise (λx=>do noteFrame x η;theTreesLotGoes x)) _ _ s;refine wpAny_noted ?_;rw[compTurn_list];refine gn (ab0 (gn (thn (no (ζ n s ρ)) λr L h₁=>?_)));cases r with
 | none=>exact nr h₁
 | some v=>
   refine gn (thn (no h₁) λ_ Y ι=>?_);refine gn (thn (no ι) λ_ β ο=>gn (thn (no ο) λok G O=>?_));cases ok with
   | false=>exact nr ⟨rfl,O⟩
   | true=>
     rw[oL rfl] at O;refine gn (gn (thn (no O) λx γ ξ=>?_));refine gn (thn (no ξ) λ_ Z ν=>?_);exact nr (nr ⟨rfl,ν⟩)
end
theorem ur (env:Env):∀(l:eS (lA×NameKind)) (φ:U1),(∀y∈l,y.2= .free->∃c,env.cells.lookup y.1=ak c)->
  ∃r:U1,(forIn l φ (λ(x:lA×NameKind) (r:U1)=>if x.2 == V7 then (do let c <-cellOf env x.1;pure (WD ((x.1,c)::r))) else pure (WD r)):Sem U1)=pure r/\
   (∀p∈r,p∈φ∨env.cells.lookup p.1=ak p.2)/\(∀p∈φ,p∈r)/\(∀y∈l,y.2= .free->∃c,(y.1,c)∈r)
 | [],φ,_=>⟨φ,rfl,λp L=> .inl L,λp L=>L,λy G=>nomatch G⟩
 | (x,k)::l,φ,h=>by
   by_cases hk:k= .free
   ·subst hk;obtain⟨c,Y⟩:=h (x,.free) j' rfl;obtain⟨r,e,h1,h2,O⟩:=ur env l ((x,c)::φ) λy G=>h y (ik _ G);refine⟨r,?_,λp L=>?_,λp L=>h2 p (ik _ L),λy G hf=>?_⟩
    ·rw[Yd];have Z:cellOf env x=pure c:=by unfold cellOf;rw[Y]
     simp only[Vo,ZN,Z,pure_bind];exact e
    ·rcases h1 p L with q | q
     ·rcases qq.mp q with z | z
      ·subst z;exact !F Y
      ·exact !J z
     ·exact !F q
    ·rcases qq.mp G with z | z
     ·subst z;exact⟨c,h2 _ j'⟩
     ·exact O y z hf
   ·obtain⟨r,e,h1,h2,O⟩:=ur env l φ λy G=>h y (ik _ G);refine⟨r,?_,h1,h2,λy G hf=>?_⟩
    ·rw[Yd];have hb:(k == V7)=false:=by cases k<;>first | rfl | exact hF rfl hk
     simp only[hb,Bool.false_eq_true,if_false,pure_bind];exact e
    ·rcases qq.mp G with z | z
     ·subst z;exact hF hf hk
     ·exact O y z hf
theorem zG (sc:Wf) (env:Env) (h:∀y∈sc.names,y.2= .free->∃c,env.cells.lookup y.1=ak c):
  ∃G,closureFor sc env=pure G/\(∀p∈G,env.cells.lookup p.1=ak p.2)/\∀y∈sc.names,y.2= .free->∃c,(y.1,c)∈G:=by
 obtain⟨r,e,h1,h2,O⟩:=ur env sc.names [] h;refine⟨r,?_,λp L=>(h1 p L).resolve_left (λz=>nomatch z),O⟩;unfold closureFor;have:=e;simp only[bind_pure] at *
 exact e
theorem Ao {κ β:Type} [BEq κ] [LawfulBEq κ]:∀{l:eS (κ×β)} {x:κ} {c:β},(x,c)∈l->∃G,l.lookup x=ak G
 | [],_,_,h=>nomatch h
 | (y,d)::l,x,c,h=>by
   by_cases e:x=y
   ·subst e;exact⟨d,by simp[Xk]⟩
   ·have hb:(x == y)=false:=vr.mpr e;rcases qq.mp h with z | z
    ·exact hF (px aa0 z) e
    ·obtain⟨G,q⟩:=Ao z;exact⟨G,by rw[Xk,hb];exact q⟩
theorem rH {env:Env}:∀{names:eS (lA×NameKind)} {x:lA} {L:NameKind},
  (names.map λ(n,k)=>if @df then (n,X2) else (n,k)).lookup x=ak L->∃k,(x,k)∈names/\(L=k∨k= .free)
 | [],_,_,h=>by cases h
 | (y,k)::l,x,L,h=>by
   rw[UL,Xk] at h;by_cases e:x=y
   ·subst e;by_cases G:(k == V7&&env.scope.kind == .function&&env.kindOf x == ak .cell)=true
    ·refine⟨k,j',!F ?_⟩;rw[U6,U6] at G;exact eq_of_beq G.1.1
    ·refine⟨k,j',!J ?_⟩;simp only[mu G,Vo] at h;exact(ry h).symm
   ·have hb:(x == y)=false:=vr.mpr e
    have h':(l.map λ(n,k)=>if @df then (n,X2) else (n,k)).lookup x=ak L:=by
     by_cases G:@dH=true
     ·simp only[oL G,hb] at h;exact h
     ·simp only[mu G,hb] at h;exact h
    obtain⟨q,hm,z⟩:=rH h';exact⟨q,ik _ hm,z⟩
theorem uy {env:Env}:∀{names:eS (lA×NameKind)} {x:lA},names.lookup x=ak .free->
  (names.map λ(n,k)=>if @df then (n,X2) else (n,k)).lookup x=ak .cell∨
  (names.map λ(n,k)=>if @df then (n,X2) else (n,k)).lookup x=ak .free
 | [],_,h=>by cases h
 | (y,k)::l,x,h=>by
   rw[Xk] at h;rw[UL,Xk];by_cases e:x=y
   ·subst e;simp only[Vo] at h;cases h;by_cases G:(V7 == V7&&env.scope.kind == .function&&env.kindOf x == ak .cell)=true
    ·refine !J ?_;rw[oL G];simp only[Vo]
    ·refine !F ?_;rw[mu G];simp only[Vo]
   ·have hb:(x == y)=false:=vr.mpr e;simp only[hb] at h;have q:=uy (env:=env) h;by_cases G:@dH=true
    ·simp only[oL G,hb];exact q
    ·simp only[mu G,hb];exact q
structure mG (osc:Wf) (ON N:C') (n:Nat) (fx:Cr) (sc:Wf):Prop where
 kind:sc.kind= .function
 noc:∀y∈sc.names,y.2≠.cell
 own:∀y∈sc.names,y.2= .local->sc.names.lookup y.1=ak .local
 fre:∀y∈sc.names,y.2= .free->osc.names.lookup y.1=ak .cell∨osc.names.lookup y.1=ak .free
 len:N.length=n + fx.length
 frn:∀k,k < fx.length->∃x j,N[n + k]? =ak x/\fx[k]? =ak j/\ON[j]? =ak x/\sc.names.lookup x=ak .free
noncomputable def Nc (ON:C') (G:Wf):C'->Cr->US
 | [],[]=>true
 | x::xs,j::js=>decide (ON[j]? =ak x)&&decide (G.names.lookup x=ak .free)&&Nc ON G xs js
 | _,_=>false
theorem B9 {ON:C'} {sc:Wf}:∀{xs:C'} {L:Cr},Nc ON sc xs L=true->xs.length=L.length/\∀k,k < L.length->∃x j,xs[k]? =ak x/\L[k]? =ak j/\ON[j]? =ak x/\sc.names.lookup x=ak .free
 | [],[],_=>⟨rfl,λk h=>hF h (VQ k)⟩
 | [],_::_,h=>by cases h
 | _::_,[],h=>by cases h
 | x::xs,j::L,h=>by
   simp only[Nc,U6,V1] at h;obtain⟨l,q⟩:=B9 h.2;refine⟨px Nat.succ l,λk hk=>?_⟩;cases k with
   | zero=>exact⟨x,j,rfl,rfl,h.1.1,h.1.2⟩
   | succ k=>
     obtain⟨θ,G,a,b,c⟩:=q k (Nat.lt_of_succ_lt_succ hk);exact⟨θ,G,by simpa using a,by simpa using b,c⟩
noncomputable def FD (osc:Wf) (ON N:C') (n:Nat) (fx:Cr) (G:Wf):Bool:=
 decide (G.kind= .function)&&decide (∀y∈G.names,y.2≠.cell)&&decide (∀y∈G.names,y.2= .local->G.names.lookup y.1=ak .local)&&
 decide (∀y∈G.names,y.2= .free->osc.names.lookup y.1=ak .cell∨osc.names.lookup y.1=ak .free)&&decide (n<=N.length)&&Nc ON G (N.drop n) fx
theorem mG.of {osc:Wf} {ON N:C'} {n:Nat} {fx:Cr} {sc:Wf} (h:@dC):mG osc ON N n fx sc:=by
 simp only[FD,U6,V1] at h;obtain⟨⟨⟨⟨⟨h1,h2⟩,O⟩,L⟩,Y⟩,G⟩:=h;obtain⟨l,q⟩:=B9 G;refine⟨h1,h2,O,L,?_,λk hk=>?_⟩
 ·rw[WB] at l;omega
 ·obtain⟨x,j,a,b⟩:=q k hk;exact⟨x,j,by rw[Xi] at a;exact a,b⟩
noncomputable def nR (X:Cx) (N:C') (G:Wf) (L:U1) (C:ee) (fp:M') (s:kb) (H:Hp):Cx where
 prog:=X.prog
 w:=X.w
 K:=X.K
 mg:=X.mg
 base:=X.base
 A:=X.A
 N:=N
 s₀:=s
 H₀:=H
 env:=compEnvC G L C X.env
 outer:=X.stack
 stack:=X.stack
 ex:=fp
 fn:=λ_=>false
 calm:=X.calm
 pn:=[]
 xe:=λ_ _=>False
noncomputable def d3 (n:Nat) (fx:Cr) (σ:St):St:=hC n f'++fx.map λj=>(σ[j]?).join
def HI (n:Nat) (g:TG):Prop:=∀v σ H (Q ω:St->Hp->Prop),(∀σ' H',Q σ' H'->σ'.drop n=σ.drop n->σ'.length=σ.length->ω σ' H')->g v σ H Q->g v σ H ω
def FJ (n:Nat) (g:TGs):Prop:=∀vs σ H (Q ω:St->Hp->Prop),(∀σ' H',Q σ' H'->σ'.drop n=σ.drop n->σ'.length=σ.length->ω σ' H')->g vs σ H Q->g vs σ H ω
theorem aE {n i:Nat} (h:i < n):HI n (Kv i):=λv σ H Q ω k q=>k _ _ q (by rw[List.drop_set_of_lt h]) (by rw[WW])
theorem rf {n:Nat}:FJ n gNil:=λvs σ H Q ω k ⟨e,q⟩=>⟨e,k _ _ q rfl rfl⟩
theorem fj {n:Nat} {t:TG} {u:TGs} (ht:HI n t) (hu:FJ n u):FJ n (Qn t u):=λvs σ H Q ω k ⟨v,r,e,q⟩=>
 ⟨v,r,e,ht v σ H _ _ (λO H1 G β Z=>hu r O H1 Q ω (λL H2 Y α υ=>k L H2 Y (α.trans β) (υ.trans Z)) G) q⟩
theorem xI {K:b'} {n m:Nat} {t:TGs} (h:FJ n t):HI n (gTup K m t):=λv σ H Q ω k ⟨a,xs,e,hs,hl,q⟩=>⟨a,xs,e,hs,hl,h xs σ H Q ω k q⟩
def PTs (X:Cx) (G:eS xo) (t:TT):Prop:=
 ∀(pins:Dn) (s:kb) (σ:St) (H:Hp) (Q:US->Hp->Prop),Inv X pins σ H s->t σ H Q->
  lT @T X.A (forIn G true λc r=>if r=true then do let ok <-isTrue c X.env (!az c);pure (WD ok) else pure (WD r)) (TP X pins σ Q) X.xe s
noncomputable def tYes:TT:=λ_ H Q=>Q true H
theorem aR {X:Cx}:PTs X [] tYes:=λ_ _ _ H _ I h=>wpAny_tests_nil ⟨H,I,h⟩
theorem j8 {X:Cx} {c:xo} {t:TT} (h:PT X c t):PTs X [c] t:=λpins s σ H Q I q=>wpAny_tests_one (h pins s σ H Q I q)
noncomputable def LY (n:Nat) (fx:Cr) (α:TI) (g:TG) (tc:TT) (te:TE):TE:=fun σ H Q=>α σ H λJ H1=>∀D,H1 D=f'->
 ∃W:Nat->Nat->eS V->Hp->Prop,(∃m,W 0 m [] (!a1 H1 []))/\∀i m ys H2,W i m ys H2->(J.stop i H2/\Q @Z H2)∨
   (J.go i H2/\∃N:eS V->Hp->Prop,(∀L H',N L H'->∃ν,ν < m/\W @J ν L H')/\∀x Z,J.yld i H2 x Z->g x (d3 n fx σ) Z λG β=>tc G β λb Y=>
    if b=true then te G Y λv O=>O D=ak @X/\ys.length < kf/\N @a8 (!a1 O @a8) else N ys Y)
section
variable {X:Cx} {pins:Dn} {σ:St} {H:Hp} {s:kb}
theorem Ho {n:Nat} {fx:Cr}:(d3 n fx σ).length=n + fx.length:=by unfold d3;simp
theorem zF {n:Nat} {fx:Cr} {i:Nat} {v:V} (e:(d3 n fx σ)[i]? =ak @aC):∃k j,i=n + k/\fx[k]? =ak j/\σ[j]? =ak @aC:=by
 unfold d3 at e;by_cases h:i < n
 ·rw[ky (by simpa using h),ZJ,oL h] at e;cases e
 ·rw[lB (by simpa using h),w5,hH] at e;cases q:fx[i - n]? with
  | none=>rw[q] at e;cases e
  | some j=>
    rw[q] at e;have G:(σ[j]?).join=ak v:=ry e;refine⟨i - n,j,@A,q,?_⟩;cases z:σ[j]? with
    | none=>rw[z] at G;cases G
    | some o=>rw[z] at G;have:o=ak v:=G;rw[this]
theorem Np {osc:Wf} {ON N:C'} {n:Nat} {fx:Cr} {sc:Wf} {α:U1} {fp:M'} {ι:zx} {tk:Nat}
  (ho:@d1) (γ:X.N=ON) (S:mG osc ON N n fx sc)
  (Y:∀p∈α,X.env.cells.lookup p.1=ak p.2) (L:∀y∈sc.names,y.2= .free->∃c,(y.1,c)∈α)
  (I:@N) (hf:∀b∈fp,FpOk X pins H b) (ζ:∀b∈fp,b < s.heap.objs.size)
  (χ:∃m,ι.Ns s.heap.objs.size m) (O:∀b o,s.heap.get? b=ak o->ι.get? b=ak o):
  Inv (nR X N sc α s.heap.objs.size fp s H) [] (d3 n fx σ) H {s with heap:=ι,toks:=tk}:=by
 have look:∀{x:lA} {c:ee},α.lookup x=ak c->X.env.cells.lookup x=ak c:=λ{x c} e=>Y (x,c) (V6 e)
 have ok:(nR X N sc α s.heap.objs.size fp s H).Ok:=by
  refine⟨I.ok.mod,S.kind,I.ok.glob,I.ok.blt,oe _,λx y c h1 h2=>I.ok.inj x y c (look h1) (look h2),λx hx=>?_,λx c z=>(by cases z),I.ok.hd,I.ok.frames,@aj,λb hb=>⟨u' (ζ b hb),λx c e=>(hf b hb).2.2.2.2.1 x c (look e)⟩,
   I.bs,Vs I.ok.bsz I.sz,λb o e hb=>?_,λb hb z=>?_,I.stack,I.stkFree⟩
  ·have G:∃β,(β=X2∨β=V7)/\(sc.names.map λ(n,k)=>if (k == V7&&X.env.scope.kind == .function&&X.env.kindOf n == ak .cell) then (n,X2) else (n,k)).lookup x=ak β:=by
    rcases hx with hx | hx
    ·exact⟨_,@aj,hx⟩
    ·exact⟨_,!F rfl,hx⟩
   obtain⟨β,hk,e⟩:=G;obtain⟨k,hm,z⟩:=rH e
   have τ:k= .free:=by
    rcases z with z | z
    ·subst z;rcases hk with q | q
     ·exact hF q (S.noc _ hm)
     ·exact q
    ·exact z
   subst τ;obtain⟨c,ω⟩:=L _ hm rfl;exact Ao ω
  ·rcases(hf b hb).2.2.2.1 with z | z
   ·exact I.ok.noex b o e z
   ·exact hF (fy (ib (I.ok.bs b o e).1) z) (VJ _)
  ·rcases qq.mp (I.stkSub b z) with q | q
   ·exact(hf b hb).2.1 q
   ·exact(hf b hb).2.2.1 q
 obtain⟨m,χ⟩:=χ;refine⟨ok,rfl,I.bare,Un.kept O,⟨m,χ,λi x v e1 e2 e3=>?_⟩,λx c e=>?_,@cd,λx c e=>I.freeC x c (look e),λp ψ=>hF (show p∈([]:Dn) from ψ) @C,I.hok.kept O,?_⟩
 ·obtain⟨k,j,rfl,ρ,φ⟩:=zF e2;obtain⟨θ,π,a1,a2,a3,ξ⟩:=S.frn k (!M ρ).1;have ex:θ=x:=ry (a1.symm.trans e1);have ej:π=j:=ry (a2.symm.trans ρ);subst ex;subst ej;obtain⟨ν,_,hl⟩:=I.loc;have hk:X.env.scope.names.lookup θ=ak .cell∨X.env.scope.names.lookup θ=ak .free:=by rw[ho];exact S.fre _ (V6 ξ) rfl
  have ε:Vis X.env.scope θ:=by rcases hk with z | z;exact !F (!J z);exact !F (!F z)
  obtain⟨u,r,q⟩:=hl π θ v (by rw[γ];exact a3) φ ε;rcases q with ⟨z,_⟩ | ⟨_,c,ec,υ⟩
  ·have ο:X.env.scope.names.lookup θ=ak .local:=z;rcases hk with q | q<;>(rw[q] at ο;cases ο)
  ·refine⟨u,r,!F ⟨uy ξ,c,?_,υ.keeps O⟩⟩;obtain⟨δ,η⟩:=L _ (V6 ξ) rfl;obtain⟨c1,Z⟩:=Ao η;have:=look Z;rw[ec] at this;cases this;exact Z
 ·obtain⟨v,q⟩:=I.cell x c (look e);exact⟨v,q.keeps O⟩
 ·show _=N.length;rw[Ho,S.len]
theorem CA {osc:Wf} {ON N:C'} {n:Nat} {fx:Cr} {sc:Wf} {ξ:U1} {c0 tg iter:xo} {b8:eS xo} {pos:Pos} {wi:TI} {g:TG} {tc:TT} {te:TE} {Q:VK} {RR:kk->ee->U0}
  (γ:@aI) (ho:@d1) (hN:X.N=ON) (S:mG osc ON N n fx sc)
  (a7:∀p∈ξ,X.env.cells.lookup p.1=ak p.2) (c5:∀y∈sc.names,y.2= .free->∃c,(y.1,c)∈ξ)
  (hi:PI X tg iter wi) (gk:HI n g) (hb:∀ξ C fp s H,PG (nR X N sc ξ C fp s H) tg g/\PTs (nR X N sc ξ C fp s H) b8 tc/\PE (nR X N sc ξ C fp s H) c0 te)
  (I:@N) (h:LY n fx wi g tc te σ H Q)
  (e7:∀D C H' s',Inv X pins σ H' s'->(∃m,s'.heap.Ns C m)->FpOk X pins H' C->Q @Z H'->RR @Z C (.ok .next) s'):
  lT @T X.A (!az iter) (λx s₁=>lT @T X.A (pyIter x) (λit s₂=>lT @T X.A (newList []) (λe0 β=>
   lT @T X.A (newFunctionEnv sc X.env.globals ξ [] X.env.qual f' .none (ak X.env)) (λa8 s₄=>
    codeAny @T X.A (.compStart (.ListComp c0 [⟨tg,iter,b8,0⟩] sc pos) 0 it e0 {a8 with scope:=relabel sc X.env}) (RR e0 a8.locals) s₄) X.xe β) X.xe s₂) X.xe s₁) X.xe s:=by
 refine thn (hi pins s σ H _ I h) λv s1 h1=>thn h1 λf8 L h2=>?_;obtain⟨it,fp,tn,J,H2,e2,I2,T,c2,f2,hW⟩:=h2;subst e2;obtain⟨W,⟨m0,w0⟩,b9⟩:=hW L.heap.objs.size I2.fresh;refine Y5 ?_;have I3:Inv X pins σ (!ay H2 L.heap.objs.size []) {L with heap:=L.heap.push {cls:= .type "list",data:= .seq ([]:E').toArray}}:=I2.lnew (t':=L.toks) (its:=[]) .nil (Vh _)
 have δ:∀b∈fp,FpOk X pins (!ay H2 L.heap.objs.size []) b/\b < L.heap.objs.size:=λb hb=>by
  obtain⟨o,e,_⟩:=T.obj _ _ c2 b hb;have l:=ib e;obtain⟨a1,a2⟩:=f2 b hb;exact⟨⟨by rw[aH (u' l)];exact a1,a2⟩,l⟩
 have sz:({L with heap:=L.heap.push {cls:= .type "list",data:= .seq ([]:E').toArray}}:kb).heap.objs.size=L.heap.objs.size + 1:=Xx ..
 generalize e6:({L with heap:=L.heap.push {cls:= .type "list",data:= .seq ([]:E').toArray}}:kb)=O at I3 sz ⊢;generalize f9:upd H2 L.heap.objs.size (!A [])=H3 at I3 δ w0;have c3:∀b o,L.heap.get? b=ak o->O.heap.get? b=ak o:=λb o e=>by rw[<-e6];exact gB _ e
 refine wpAny_newFunctionEnv (λy hy=>S.noc y hy) (λy hy=>nomatch hy) (λh4 χ e5=>?_) S.kind;have a0:∀b o,O.heap.get? b=ak o->h4.get? b=ak o:=λb o e=>e5.extBut b o (u' @aH) (gB _ e);have I4:=Np (tk:=O.toks + ([]:U2).length) ho hN S a7 c5 I3 (λb hb=>(δ b hb).1) (λb hb=>by rw[sz];exact XN (δ b hb).2) ⟨_,χ⟩ a0;have π:=hb ξ O.heap.objs.size fp O H3;generalize ρ:nR X N sc ξ O.heap.objs.size fp O H3=Y at I4 π
 have Z:∀{H':Hp},(∀b∈fp,H' b=f')->∀b∈fp,FpOk Y [] H' b:=λ{H'} hn b hb=>by
  subst ρ;obtain⟨⟨a1,a2,a3,a4,a5,a6⟩,l⟩:=δ b hb;refine⟨hn b hb,u' (show b < O.heap.objs.size by rw[sz];exact XN l),λz=>?_,!J hb,λx c e=>a5 x c (a7 (x,c) (V6 e)),λp hp=>hF (show p∈([]:Dn) from hp) @C⟩;rcases qq.mp (I3.stkSub b z) with q | q
  ·exact a2 q
  ·exact a3 q
 have fin:∀{ζ:St} {H6:Hp} {s6:kb},Inv Y [] ζ H6 s6->Q @bT H6->RR @bT O.heap.objs.size (.ok .next) s6:=λ{ζ H6 s6} I6 q=>by
  subst ρ;refine e7 _ _ H6 s6 ?_ (let ⟨m,hm,_⟩:=I6.loc;⟨m,hm⟩) (I3.fpOk @Y I6.free) q;obtain⟨τ,gg,dd,tt,e4⟩:=s6;obtain rfl:e4=O.os:=I6.os
  exact I3.call (h':=τ) (g':=gg) (d':=dd) (t':=tt) (ch:=fp) I6.base I6.hok I6.bare λb hb=>by
   obtain⟨⟨a1,a2,a3,a4,a5,a6⟩,l⟩:=δ b hb;exact⟨a4,a2,a5,a6⟩
 have pY:Y.prog=X.prog:=by subst ρ;rfl
 have wY:Y.w=X.w:=by subst ρ;rfl
 have kY:Y.K=X.K:=by subst ρ;rfl
 have aY:Y.A=X.A:=by subst ρ;rfl
 have cY:Y.calm=true:=by subst ρ;exact γ
 have eY:Y.env=compEnvC sc ξ O.heap.objs.size X.env:=by subst ρ;rfl
 have ψ:Y.xe=λ_ _=>False:=by subst ρ;rfl
 have T':Turn Y.prog Y.w Y.K tg J fp it tn:=by rw[pY,wY,kY];exact T
 have c1:tn 0 h4:=T.keep _ _ _ c2 λb hb o e=>a0 b o (c3 b o e)
 have loop:codeAny @T X.A (.compLoop (.ListComp c0 [⟨tg,iter,b8,0⟩] sc pos) 0 (!j it) @bT (compEnvC sc ξ O.heap.objs.size X.env)) (RR @bT O.heap.objs.size)
   {O with heap:=h4,toks:=O.toks + ([]:U2).length}:=by
  rw[<-pY,<-wY,<-aY,<-eY];refine Hm (λk s'=>∃i ys σ' H',Inv Y [] σ' H' s'/\σ'.drop n=(d3 n fx σ).drop n/\σ'.length=(d3 n fx σ).length/\tn i s'.heap/\(∀b∈fp,H' b=f')/\W i k ys H') ?_ m0 ⟨0,[],_,H3,I4,rfl,rfl,c1,λb hb=>(δ b hb).1.1,w0⟩;rintro k s5 ⟨i,ys,φ,H5,I5,ed,el,ι,η,ω⟩
  have I5:Inv Y [] (d3 n fx σ) H5 s5:=I5.weak el.symm λj v e=>by
   obtain⟨k',G,rfl,_,_⟩:=zF e;have q:=px (λl=>l[k']?) ed;simp only[Xi] at q;rw[q];exact e
  rcases b9 i k ys H5 ω with ⟨stop,q⟩ | ⟨go,N',e8,step⟩
  ·refine WM (T'.done Y rfl rfl rfl cY i [] s5 _ H5 @bA I5 (Z η) ι stop) (λr s6 ⟨hr,I6⟩=>?_) λ_ _ z=>z;subst hr;exact fin I6 q
  ·rw[<-ψ];refine thn (T'.item Y rfl rfl rfl cY i [] s5 _ H5 Y.xe I5 (Z η) ι go) λr s6 ⟨u,hr,h6⟩=>?_;subst hr;show lT _ _ _ _ _ _;refine thn h6 λ_ α ⟨x,H7,I7,υ,y7,b0,e9⟩=>?_;have f5:=I7.pinned (Z e9) (T.obj _ _ b0);refine thn (π.1 _ α _ H7 x u _ f5 υ (gk _ _ _ _ _ (fun σ' H' q e l=>(⟨q,e,l⟩:_/\_/\_)) (step x H7 y7))) λ_ s8 ⟨θ,H8,I8,q8,f1,f0⟩=>?_;refine thn (π.2.1 _ s8 θ H8 _ I8 q8) λok s9 ⟨H9,I9,q9⟩=>?_
   have again:∀{ε:Hp} {ο:kb} {zs:eS V},Inv Y ([]++Bu fp α.heap) θ ε ο->N' zs ε->
     ∃m,m < k/\∃i ys σ' H',Inv Y [] σ' H' ο/\σ'.drop n=(d3 n fx σ).drop n/\σ'.length=(d3 n fx σ).length/\tn i ο.heap/\(∀b∈fp,H' b=f')/\W i m ys H':=λ{ε ο zs} I10 b3=>by
    obtain⟨ν,hm,e1⟩:=e8 _ _ b3;refine⟨ν,hm,i + 1,zs,θ,ε,I10.unpinned,f1,f0,T.keep _ _ _ b0 λb hb o e=>(I10.pin (b,o) (!Q (!Q (pF hb e)))).1,λb hb=>?_,e1⟩;obtain⟨o,e,d⟩:=T.obj _ _ b0 b hb;exact(I10.pin (b,o) (!Q (!Q (pF hb e)))).2.1
   cases ok with
   | false=>exact again I9 q9
   | true=>
     rw[oL rfl];refine thn (π.2.2 _ s9 θ H9 _ I9 q9) λy ο ⟨v',ε,I10,e3,d1,c4,b3⟩=>?_;refine thn (dq (X:=Y) _ ο θ ε @bT [v'] @bT [y] (λ_ H'=>H'=upd ε L.heap.objs.size (!A (ys++[v']))) I10 rfl (!bf e3) ⟨_,ys,v',rfl,rfl,d1,c4,rfl⟩) λ_ f7 ⟨_,g0,f6,_,f4⟩=>?_;subst f4;exact again f6 b3
 exact codeAny_compStart_list loop (T.self X.A 0 _ _ _ c1 loop)
theorem bA {osc:Wf} {ON N:C'} {n:Nat} {fx:Cr} {sc:Wf} {Y tg iter:xo} {G:eS xo} {pos:Pos} {η:TI} {g:TG} {tc:TT} {te:TE}
  (γ:@aI) (ho:@d1) (ι:X.N=ON) (S:@dC) (hi:PI X tg iter η) (ν:HI n g)
  (hb:∀Z C fp s H,PG (nR X N sc Z C fp s H) tg g/\PTs (nR X N sc Z C fp s H) G tc/\PE (nR X N sc Z C fp s H) Y te)
  (hs:∀x,foldedSetIterable iter X.env x=pure x:=by intro _;rfl):!E (!c2 Y sc pos) (LY n fx η g tc te):=by
 intro pins s σ H Q I h;have S:=mG.of S;obtain⟨Z,β,O,L⟩:=zG sc X.env λy θ hf=>I.ok.has y.1 (by show X.env.scope.names.lookup y.1=ak .cell∨X.env.scope.names.lookup y.1=ak .free;rw[ho];exact S.fre y θ hf);rw[eval_ListComp];refine ab5 (use:=f') rfl hs β S.kind S.own (CA (RR:=fun ζ C=>compPost @T X.A X.xe f' (EP X pins σ Q) ζ C) γ ho ι S O L hi ν hb I h ?_);intro D C H' s' I' hm hf q;obtain⟨m,hm⟩:=hm;obtain⟨ε,π,ρ,δ,ο,ξ⟩:=hf;exact⟨m,hm,λh' α=>⟨@Z,H',I'.turned (t':=s'.toks) (!c5 (α.2 b hb)) ε π δ ο ξ,rfl,q⟩⟩
theorem b7 {i:Nat} {x:lA} {α:Pos} {O:Pos} {osc:Wf} {ON N:C'} {n:Nat} {fx:Cr} {sc:Wf} {L tg iter:xo} {G:eS xo} {pos:Pos} {ρ:TI} {g:TG} {tc:TT} {te:TE}
  (hnd:X.N.Nodup) (ω:X.N[i]? =ak x) (hl:X.env.scope.names.lookup x=ak .local) (η:swapsWith (!c2 L sc pos) (ak (!b2 α)) O.line X.env=pure true)
  (γ:@aI) (ho:@d1) (hN:X.N=ON) (S:@dC) (hi:PI X tg iter ρ) (gk:HI n g)
  (hb:∀ζ C fp s H,PG (nR X N sc ζ C fp s H) tg g/\PTs (nR X N sc ζ C fp s H) G tc/\PE (nR X N sc ζ C fp s H) L te)
  (hs:∀x,foldedSetIterable iter X.env x=pure x:=by intro _;rfl):PS X (.Assign [.Name x α] (!c2 L sc pos) O) (tAsg (LY n fx ρ g tc te) (Kv i)):=by
 intro pins s σ H D I h;have S:=mG.of S;obtain⟨ζ,ι,β,Z⟩:=zG sc X.env λy ψ hf=>I.ok.has y.1 (by show X.env.scope.names.lookup y.1=ak .cell∨X.env.scope.names.lookup y.1=ak .free;rw[ho];exact S.fre y ψ hf);rw[exec_Assign_Name_used _ _ _ _ η];refine gn (ab0 (gn ?_));show lT _ X.A (do let _ <-comprehension (!c2 L sc pos) sc X.env _ (newList []) false (!az iter) (ak (assign (!b2 α) X.env))) _ _ s
 refine gn (thn (ab5 (use:=ak (assign (!b2 α) X.env)) (Q:=λ_ s'=>SP X pins D .next s') rfl hs ι S.kind S.own
  (CA (RR:=fun π C=>compPost @T X.A X.xe (ak (assign (!b2 α) X.env)) (λ_ s'=>SP X pins D .next s') π C) γ ho hN S β Z hi gk hb I h ?_)) λ_ s' q=>nr (nr q))
 intro φ C H' s' I' hm hf q;obtain⟨m,hm⟩:=hm;obtain⟨ε,υ,f2,δ,τ,ξ⟩:=hf;show lT _ X.A (assign (!b2 α) X.env (!j φ)) _ _ _;refine ah1 (Bi I' hnd ω (!J hl) (v:= .ref φ) rfl (fun χ I2 ν=>?_) (!F hl));obtain⟨a,θ,ha⟩:=ν
 have ο:C≠a:=by
  rcases ha with z | z
  ·rw[z];exact υ
  ·exactλe=>τ _ _ z e.symm
 exact⟨m,hm.sameBut θ ο,λh' Y=>⟨_,H',I2.turned (t':=χ.toks) (!c5 (Y.2 b hb)) ε υ δ τ ξ,q⟩⟩
end
section
variable {K:b'} {n:Nat} {fx:Cr} {g:TG} {tc:TT} {te:TE} {σ:St} {H1:Hp} {D:ee} {Q:Hp->Prop}
theorem dW {lo:Int} {k:Nat} (Y:Nat->eS V->Hp->Prop) (h0:Y 0 [] (!a1 H1 []))
  (hs:∀i ys H,i < k->Y i ys H->g (.int (lo + i)) (d3 n fx σ) H λG β=>tc G β λb α=>if b=true then te G α λv Z=>Z D=ak @X/\ys.length < kf/\Y @J @a8 (!a1 Z @a8) else Y @J ys α)
  (hd:∀ys H,Y k ys H->Q H):
  ∃W:Nat->Nat->eS V->Hp->Prop,(∃m,W 0 m [] (!a1 H1 []))/\∀i m ys H2,W i m ys H2->(!bI (Itr lo k))∨
    ((Itr lo k).go i H2/\∃N:eS V->Hp->Prop,(∀L H',N L H'->∃ν,ν < m/\W @J ν L H')/\∀x γ,(Itr lo k).yld i H2 x γ->g x (d3 n fx σ) γ λG β=>tc G β λb α=>
      if b=true then te G α λv Z=>Z D=ak @X/\ys.length < kf/\N @a8 (!a1 Z @a8) else N ys α):=by
 refine⟨λi m ys H=>m=k - i/\i<=k/\Y i ys H,⟨k,@C,Vh _,h0⟩,?_⟩;rintro i m ys H ⟨rfl,hi,p⟩;by_cases O:i < k
 ·refine !F ⟨O,Y @J,λL H' ε=>⟨k - @J,by omega,rfl,O,ε⟩,λx H' y=>?_⟩;obtain⟨e,y⟩:=y;subst e;subst y;exact hs i ys _ O p
 ·have e:i=k:=by omega
  subst e;exact !J ⟨oe _,hd ys H p⟩
theorem aN {a:ee} {xs:eS V} (L:Nat->eS V->Hp->Prop) (h0:L 0 [] (!a1 H1 [])) (hl:∀i ys H,i<=xs.length->L i ys H->SqL K H a xs)
  (hs:∀i x ys H,xs[i]? =ak x->L i ys H->g x (d3 n fx σ) H λG β=>tc G β λb α=>if b=true then te G α λv Z=>Z D=ak @X/\ys.length < kf/\L @J @a8 (!a1 Z @a8) else L @J ys α)
  (hd:∀ys H,L xs.length ys H->Q H):
  ∃W:Nat->Nat->eS V->Hp->Prop,(∃m,W 0 m [] (!a1 H1 []))/\∀i m ys H2,W i m ys H2->(!bI (Itl K a))∨
    ((Itl K a).go i H2/\∃N:eS V->Hp->Prop,(∀O H',N O H'->∃ν,ν < m/\W @J ν O H')/\∀x γ,(Itl K a).yld i H2 x γ->g x (d3 n fx σ) γ λG β=>tc G β λb α=>
      if b=true then te G α λv Z=>Z D=ak @X/\ys.length < kf/\N @a8 (!a1 Z @a8) else N ys α):=by
 refine⟨λi m ys H=>m=xs.length - i/\i<=xs.length/\L i ys H,⟨xs.length,@C,Vh _,h0⟩,?_⟩;rintro i m ys H ⟨rfl,hi,p⟩;have q:=hl i ys H hi p;by_cases Y:i < xs.length
 ·refine !F ⟨⟨xs,xs[i],q,by simp[Y]⟩,L @J,λO H' ε=>⟨xs.length - @J,by omega,rfl,Y,ε⟩,λx H' y=>?_⟩;obtain⟨e,y⟩:=y;subst e;exact hs i x ys _ (y xs q) p
 ·have e:i=xs.length:=by omega
  subst e;exact !J ⟨⟨xs,q,oe _⟩,hd ys H p⟩
theorem nj {a:ee} {xs:eS V} (L:Nat->eS V->Hp->Prop) (h0:L 0 [] (!a1 H1 [])) (hl:∀i ys H,i<=xs.length->L i ys H->SqT K H a xs)
  (hs:∀i x ys H,xs[i]? =ak x->L i ys H->g x (d3 n fx σ) H λG β=>tc G β λb α=>if b=true then te G α λv Z=>Z D=ak @X/\ys.length < kf/\L @J @a8 (!a1 Z @a8) else L @J ys α)
  (hd:∀ys H,L xs.length ys H->Q H):
  ∃W:Nat->Nat->eS V->Hp->Prop,(∃m,W 0 m [] (!a1 H1 []))/\∀i m ys H2,W i m ys H2->(!bI (Itt K a))∨
    ((Itt K a).go i H2/\∃N:eS V->Hp->Prop,(∀O H',N O H'->∃ν,ν < m/\W @J ν O H')/\∀x γ,(Itt K a).yld i H2 x γ->g x (d3 n fx σ) γ λG β=>tc G β λb α=>
      if b=true then te G α λv Z=>Z D=ak @X/\ys.length < kf/\N @a8 (!a1 Z @a8) else N ys α):=by
 refine⟨λi m ys H=>m=xs.length - i/\i<=xs.length/\L i ys H,⟨xs.length,@C,Vh _,h0⟩,?_⟩;rintro i m ys H ⟨rfl,hi,p⟩;have q:=hl i ys H hi p;by_cases Y:i < xs.length
 ·refine !F ⟨⟨xs,xs[i],q,by simp[Y]⟩,L @J,λO H' ε=>⟨xs.length - @J,by omega,rfl,Y,ε⟩,λx H' y=>?_⟩;obtain⟨e,y⟩:=y;subst e;exact hs i x ys _ (y xs q) p
 ·have e:i=xs.length:=by omega
  subst e;exact !J ⟨⟨xs,q,oe _⟩,hd ys H p⟩
end
def mW (K:b') (H:Hp) (x:V) (k:U'):Prop:=match x with
 | .non=>k="NoneType"
 | .bl _=>k="bool"
 | .int _=>k="int"
 | .str _=>k="str"
 | .ref p=>(k="list"/\∃xs,SqL K H p xs)∨(k="tuple"/\∃xs,SqT K H p xs)∨(k="dict"/\∃kvs,Rd H p @ah)
 | _=>False
noncomputable def subB (k T:U'):Bool:=k == T||(k == "bool"&&T == "int")
noncomputable def rIsi (K:b'):eS V->Hp->VK->Prop:=λxs H Q=>∃x k T,xs=[x,.ty T]/\mW K H x k/\T∈["int","bool","str","list","tuple","dict"]/\Q (.bl (subB k T)) H
section
variable {X:Cx}
theorem Nr:nY X (!ao "isinstance") (rIsi X.K):=by
 intro pins s σ H xs us Q I r h;obtain⟨x,k,T,rfl,hk,hT,q⟩:=h;obtain⟨u,v,rfl,O,rt⟩:=Ig r;cases rt;have ε:∀b,b=subB k T->EP X pins σ Q (.bool b) s:=λb e=>⟨.bl b,H,I,rfl,by rw[e];exact q⟩;have G:∀b,b=subB k T->EP X pins σ Q (.bool b) {s with toks:=s.toks + 1}:=λb e=>⟨.bl b,H,@bh,rfl,by rw[e];exact q⟩;simp only[qq,Wz,YF] at hT;cases x with
 | non=>
   cases O;cases hk;rcases hT with rfl | rfl | rfl | rfl | rfl | rfl
   ·exact IsiPair.NoneType_int @a1
   ·exact IsiPair.NoneType_bool @a1
   ·exact IsiPair.NoneType_str @a1
   ·exact IsiPair.NoneType_list @a1
   ·exact IsiPair.NoneType_tuple @a1
   ·exact IsiPair.NoneType_dict @a1
 | bl b=>
   cases O;cases hk;rcases hT with rfl | rfl | rfl | rfl | rfl | rfl
   ·exact IsiPair.bool_int (ε _ @D)
   ·exact IsiPair.bool_bool (ε _ @D)
   ·exact IsiPair.bool_str @a1
   ·exact IsiPair.bool_list @a1
   ·exact IsiPair.bool_tuple @a1
   ·exact IsiPair.bool_dict @a1
 | int i=>
   obtain⟨t,rfl⟩:=O;cases hk;rcases hT with rfl | rfl | rfl | rfl | rfl | rfl
   ·exact IsiPair.int_int (ε _ @D)
   ·exact IsiPair.int_bool @a1
   ·exact IsiPair.int_str @a1
   ·exact IsiPair.int_list @a1
   ·exact IsiPair.int_tuple @a1
   ·exact IsiPair.int_dict @a1
 | str z=>
   obtain⟨t,rfl⟩:=O;cases hk;rcases hT with rfl | rfl | rfl | rfl | rfl | rfl
   ·exact IsiPair.str_int @a1
   ·exact IsiPair.str_bool @a1
   ·exact IsiPair.str_str (ε _ @D)
   ·exact IsiPair.str_list @a1
   ·exact IsiPair.str_tuple @a1
   ·exact IsiPair.str_dict @a1
 | ref p=>
   cases O;rcases hk with ⟨rfl,xs,Y⟩ | ⟨rfl,xs,Y⟩ | ⟨rfl,kvs,Y⟩
   ·obtain⟨its,_,pl,_⟩:=I.list Y;obtain⟨o,ho,L,_⟩:=pl.isList;rcases hT with rfl | rfl | rfl | rfl | rfl | rfl
    ·exact IsiPair.list_int ho L @a1
    ·exact IsiPair.list_bool ho L @a1
    ·exact IsiPair.list_str ho L @a1
    ·exact IsiPair.list_list ho L (ε _ @D)
    ·exact IsiPair.list_tuple ho L @a1
    ·exact IsiPair.list_dict ho L @a1
   ·obtain⟨its,_,pl,_⟩:=I.tuple Y;obtain⟨o,ho,L,_⟩:=pl;rcases hT with rfl | rfl | rfl | rfl | rfl | rfl
    ·exact IsiPair.tuple_int ho L @a1
    ·exact IsiPair.tuple_bool ho L @a1
    ·exact IsiPair.tuple_str ho L @a1
    ·exact IsiPair.tuple_list ho L @a1
    ·exact IsiPair.tuple_tuple ho L (ε _ @D)
    ·exact IsiPair.tuple_dict ho L @a1
   ·obtain⟨_,_,_,_,o,_,_,ho,ex,_⟩:=Y.ok I.hok;have L:o.cls= .type "dict":=ex.1;rcases hT with rfl | rfl | rfl | rfl | rfl | rfl
    ·exact IsiPair.dict_int ho L @a1
    ·exact IsiPair.dict_bool ho L @a1
    ·exact IsiPair.dict_str ho L @a1
    ·exact IsiPair.dict_list ho L @a1
    ·exact IsiPair.dict_tuple ho L @a1
    ·exact IsiPair.dict_dict ho L (ε _ @D)
 | _=>exact UP hk
noncomputable def RP:V->eS V->Hp->VK->Prop:=λx xs H Q=>∃i,x= .int i/\xs=[]/\Q (.int (u1 i:Nat)) H
theorem qW:MtR X "int.bit_length" RP:=by
 intro pins s σ H x xs v us Q I G rs h;obtain⟨i,rfl,rfl,q⟩:=h;obtain⟨t,rfl⟩:=G;cases rs;exact call_int_bit_length @dv
noncomputable def eqVs (xs ys:eS V):Bool:=xs.length == ys.length&&(kv xs.length).all λj=>eqV (!bG j) (ys.getD j .non)
noncomputable def rEqL (K:b') (neg:US):R2:=λx y H Q=>∃a b xs ys,x= .ref a/\y= .ref b/\SqL K H a xs/\SqL K H b ys/\xs.all oU=true/\ys.all oU=true/\Q (.bl (if neg then !eqVs xs ys else eqVs xs ys)) H
theorem sS {xs:eS V} {us:E'} (r:Vals xs us) {j:Nat} (h:j < us.toArray.size):RelV (!bG j) (us.toArray[j]):=by
 have hl:=r.length;have h':j < us.length:=by simpa using h
 obtain⟨u,e,G⟩:=r.get (i:=j) (x:=xs.getD j .non) (by rw[dm,ef @A];rfl)
 have L:us.toArray[j]=u:=by
  rw[ef h'] at e;have:=ry e;simpa using this
 rw[L];exact G
theorem Ex {xs:eS V} (f:xs.all oU=true) (j:Nat):oU (!bG j)=true:=by
 rw[dm];cases e:xs[j]? with
 | none=>rfl
 | some x=>exact VR.mp f x (eH e)
theorem E6 {pins:Dn} {σ:St} {H:Hp} {s:kb} {a b:ee} {xs ys:eS V} {A:xY} (hu:A.units < cLine) (I:@N) (ha:SqL X.K H a xs) (hb:SqL X.K H b ys) (fx:xs.all oU=true) (L:ys.all oU=true):
  SeqAt.RcAt A s @aa (!j b) (eqVs xs ys)/\SeqAt.RcNeAt A s @aa (!j b) (!eqVs xs ys):=by
 obtain⟨its,r,pl,_⟩:=I.list ha;obtain⟨ι,r',α,_⟩:=I.list hb;have G:=r.length;have υ:=r'.length;by_cases hl:xs.length=ys.length
 ·have e:eqVs xs ys=(kv its.toArray.size).all λj=>eqV (!bG j) (ys.getD j .non):=by
   unfold eqVs;rw[hl,Vo,UR,qb,<-G,hl]
  rw[e];have hz:its.toArray.size=ι.toArray.size:=by simp;omega
  have he:∀j (h1:j < its.toArray.size) (h2:j < ι.toArray.size),ab3 A.in1 s its.toArray[j] ι.toArray[j] (eqV (!bG j) (ys.getD j .non)):=λj h1 h2=>
   Ov (sS r h1) (sS r' h2) (Ex fx j) (Ex L j)
  exact⟨SeqAt.RcAt.lists pl.isList α.isList hz hu he,SeqAt.RcNeAt.lists pl.isList α.isList hz hu he⟩
 ·have e:eqVs xs ys=false:=by
   unfold eqVs;rw[vr.mpr hl,V2]
  rw[e];have hz:(its.toArray.size != ι.toArray.size)=true:=by simp;omega
  exact⟨SeqAt.RcAt.lists_lengths pl.isList α.isList hz hu,SeqAt.RcNeAt.lists_lengths pl.isList α.isList hz hu⟩
theorem Si (hu:@d2):!aN X .Eq (rEqL X.K false):=by
 intro pins s σ H x y v u Q I L G h;obtain⟨a,b,xs,ys,rfl,rfl,ha,hb,fx,O,q⟩:=h;cases L;cases G;exact(E6 hu I ha hb fx O).1 X.prog X.w X.xe _ ⟨.bl _,H,I,rfl,q⟩
theorem Sg (hu:@d2):!aN X .NotEq (rEqL X.K true):=by
 intro pins s σ H x y v u Q I L G h;obtain⟨a,b,xs,ys,rfl,rfl,ha,hb,fx,O,q⟩:=h;cases L;cases G;exact(E6 hu I ha hb fx O).2 X.prog X.w X.xe _ ⟨.bl _,H,I,rfl,q⟩
end
theorem KC {xs:eS V} (f:xs.all oU=true):eqVs xs xs=true:=by
 unfold eqVs;rw[Vo,UR,VR];intro j _;have:=Ex f j;generalize xs.getD j .non=x at this;cases x<;>first | rfl | exact Vo _ | cases this
theorem g8 (a b:Nat):Vx (a:Int) (b:Int)=((a&&&b:Nat):Int):=by
 unfold Vx;rw[hE (WT a),hE (WT b)];simp
theorem JP:typeLookup (!ai "list_reverseiterator") "__len__"=pure none:=by rw[XB,Wx];kernel_rfl
theorem M0:typeLookup (!ai "list_reverseiterator") "__length_hint__"=pure (ak (!ao "list_reverseiterator.__length_hint__")):=by rw[XB,Wx];kernel_rfl
section
variable {P0:pT} {w0:z0} {A0:xY} {E0':D'} {t0:kb}
theorem Hd {R:U0} {L l:ee} {items:G'} (τ:A0.handled=f') (ε:l≠L) (η:t0.heap.IsRevIter L l ((items.size:Int) - 1)) (hl:t0.heap.IsList l items) (hz:items.size<=kf)
  (S:ee) (res:kk) (O:Nat) (θ:t0.heap.get? S=ak {cls:= .type "list",data:= .seq #[] O}) (γ:S≠L) (ξ:S≠l)
  (ο:∀h' tk G Y,(∀b o,b≠S->b≠L->t0.heap.get? b=ak o->h'.get? b=ak o)->h'.get? S=ak {cls:= .type "list",dict:=f',data:= .seq G Y,slots:=#[]}->
   ItemsOf (λi v=>items[items.size - 1 - i]? =ak v) G items.size->R (!bB res) {t0 with heap:=h',toks:=tk}):
  lT (oS P0 w0) A0.in1 (xn @aF (!j L) res)
   (λfin s'=>match fin with | .done f=>R (.ok f) s' | .again Y=>Y.quiet=true/\codeAny (oS P0 w0) A0 Y R s') (!bU e) t0:=by
 have W:=(Walks.listRev (prog:=P0) (w:=w0) (A:=A0.in1) τ L l ε items).toS;have δ:(0:Nat)<=items.size/\t0.heap.IsRevIter L l ((items.size:Int) - 1 - ((0:Nat):Int))/\t0.heap.IsList l items:=⟨Vh _,by simpa using η,hl⟩;have h1:Ws @aF (!j L)=false:=by simp[Ws,γ]
 have ι:S∉[L,l]:=by simp[γ,ξ]
 unfold xn;refine gn (Zg η.typeIs ?_);rw[mu (by rw[h1];decide)];refine gn (wpAny_pyIter_revIter η ?_);refine gn (VH ?_);unfold YE;refine gn (Xz η.typeIs JP ?_);show lT _ A0.in1 (specialOf (p' L) (Vq "__length_hint__") >>=_) _ _ _;refine gn (Xz η.typeIs M0 ?_)
 (generalize α:("list_reverseiterator.__length_hint__":U')=id0;wp_delta;rw[show splitId id0=ak ("list_reverseiterator","__length_hint__") from by subst α;decide +kernel];subst α)
 refine gn (wpAny_isInstance (b:=true) η.typeIs (by rw[isSubtype_type];kernel_rfl) ?_);refine @b7;rw[mu @D];refine nr ⟨Y9 F.plain_extend_loop _,codeAny_extend_loopS W hz S ι res items.size 0 t0 #[] O rfl (Vh _) δ θ (ItemsOf.nil _) λs' G Y hm ν β=>?_⟩;rw[Moved.eq_with hm];refine ο s'.heap s'.toks G Y (λb o hb ζ e=>hm.heap b o (λZ=>?_) e) ν β;rcases qq.mp Z with z | z
 ·exact hb z
 ·exact ζ (gs.mp z)
theorem MZ {R:U0} {L l:ee} {items:G'} (τ:A0.handled=f') (β:l≠L) (η:t0.heap.IsRevIter L l ((items.size:Int) - 1)) (hl:t0.heap.IsList l items) (hz:items.size<=kf)
  (S:ee) (θ:t0.heap.get? S=ak {cls:= .type "list",data:= .seq #[]}) (α:S≠L) (ξ:S≠l)
  (ε:∀h' tk G Y,(∀b o,b≠S->b≠L->t0.heap.get? b=ak o->h'.get? b=ak o)->h'.get? S=ak {cls:= .type "list",dict:=f',data:= .seq G Y,slots:=#[]}->
   ItemsOf (λi v=>items[items.size - 1 - i]? =ak v) G items.size->R (!bB .none) {t0 with heap:=h',toks:=tk}):
  lT (oS P0 w0) A0.in1 (Builtin.«list.__init__» ⟨[.ref S,.ref L],[]⟩)
   (λfin s'=>match fin with | .done f=>R (.ok f) s' | .again Y=>Y.quiet=true/\codeAny (oS P0 w0) A0 Y R s') (!bU e) t0:=by
 show lT _ _ (do let O <-WK @aF;Xo @aF (λ_=>#[]);letGo O.toList.reverse;xn @aF (!j L) .none) _ _ t0;refine gn ?_;unfold WK;refine gn (WN θ rfl @b7);show lT _ _ (updateSeq S (λ_=>#[]) >>=λ_=>letGo (#[]:G').toList.reverse >>=λ_=>xn @aF (!j L) .none) _ _ t0;refine gn (Xy θ rfl ?_);have ν:=Vb (UO (λ_=>(#[]:G'))) θ rfl;have oth:∀b o,b≠S->t0.heap.get? b=ak o->(t0.heap.update S (UO (λ_=>(#[]:G')))).get? b=ak o:=λb o hb e=>(U9 _ _ (ro hb)).trans e;refine gn (wpAny_letGo ?_);refine Hd τ β (η.at λo e=>oth L o (ro α) e) (let ⟨o,e,c⟩:=hl;⟨o,oth l o (ro ξ) e,c⟩) hz S .none _ ν α ξ λh' tk G Y hk δ Z=>?_;exact ε h' tk G Y (λb o hb γ e=>hk b o hb γ (oth b o hb e)) δ Z
theorem AW {Q:D'} {O l:ee} {items:G'} (τ:A0.handled=f') (β:l≠O) (η:t0.heap.IsRevIter O l ((items.size:Int) - 1)) (hl:t0.heap.IsList l items) (hz:items.size<=kf)
  (ε:∀h' tk G δ,(∀b o,b≠O->t0.heap.get? b=ak o->h'.get? b=ak o)->h'.get? t0.heap.objs.size=ak {cls:= .type "list",dict:=f',data:= .seq G δ,slots:=#[]}->
   ItemsOf (λi v=>items[items.size - 1 - i]? =ak v) G items.size->Q (!j t0.heap.objs.size) {t0 with heap:=h',toks:=tk}):
  lT (oS P0 w0) A0 (call @bN [.ref O]) Q E0' t0:=by
 have α:O < t0.heap.objs.size:=let ⟨o,e,_⟩:=η;ib e
 have Z:l < t0.heap.objs.size:=let ⟨o,e,_⟩:=hl;ib e
 refine ZY (Q₁:=λobj L=>obj= .ref t0.heap.objs.size/\L={t0 with heap:=t0.heap.push {cls:= .type "list",data:= .seq #[]}}) F.called_list (F.typeCall_list_1 _) F.entry_list_init (code_list_new _ @bO) λobj L h₁=>?_;obtain⟨rfl,rfl⟩:=h₁;have θ:(t0.heap.push {cls:= .type "list",data:= .seq #[]}).get? t0.heap.objs.size=ak {cls:= .type "list",data:= .seq #[]}:=mc _ rfl;refine⟨⟨_,θ,rfl⟩,F.args_list_init_2 _ _,MZ (A0:=A0.in1) τ β (η.at λo e=>gB _ e) (let ⟨o,e,c⟩:=hl;⟨o,gB _ e,c⟩) hz _ θ (ro (u' α)) (ro (u' Z)) λh' tk G δ hk γ Y=>?_⟩;exact⟨rfl,ε h' tk G δ (λb o hb e=>hk b o (u' @aH) hb (gB _ e)) γ Y⟩
end
theorem Inv.laidT {X:Cx} {pins:Dn} {σ:St} {H:Hp} {s:kb} {h':zx} {a L:ee} {o:HO} {t':Nat} (I:@N) (k:∀b u,b≠L->s.heap.get? b=ak u->h'.get? b=ak u) (Z:@d6)
  (Y:ip X.prog X.w (!Y a o) h' a o) (fp:FpOk X pins H L):Inv X pins σ (!Y a o) {s with heap:=h',toks:=t'}:=by
 obtain⟨ε,α,ζ,δ,γ,ξ⟩:=fp;have fr:H a=none:=I.hok.fresh Z;have β:∀b u,H b=ak u->b≠L:=λb u e z=>by rw[z,ε] at e;cases e
 have G:∀{b:ee},b∉[L]->b≠L:=λhb z=>hb (by rw[z];exact gs.mpr rfl)
 refine I.step (g':=s.gens) (d':=s.drawn) (ch:=[L]) (λb hb=>?_) (λb ob _ _ O e _=>k b ob (G O) e) (λb ob _ _ O e _=>⟨ob.slots,k b ob (G O) e⟩) (λb ob _ e n=>?_) (λb ob O e=>⟨ob,k b ob (G O) e⟩)
  (λb xs e=>by rw[aH (!L fr)];exact e) (λb ob u e=>by rw[aH (!L fr)];exact e) (λb ps e=>⟨#[],by rw[aH (!L fr),e];simp⟩) (λm hm=>?_) (λb u e=>?_) I.bare
 ·have e:b=L:=gs.mp hb;subst e;exact⟨δ,α,γ,ξ⟩
 ·rw[aH (u' (fy @aH Z))];exact n
 ·obtain⟨ob,es,ep,ho,r⟩:=hm;exact⟨ob,es,ep,k _ ob (ro α) ho,r⟩
 ·by_cases hb:b=a
  ·subst hb;rw[ay] at e;cases e;exact Y
  ·rw[aH hb] at e;refine(I.hok b u e).stay (λc v O q=>k c v ?_ q) (λc q=>by rw[aH (aj q fr)];exact q) λc xs q=>by rw[aH (aj q fr)];exact q
   rcases O with z | z
   ·rw[z];exact β b u e
   ·exact β c _ z
theorem Kf {its:E'} {G:G'} (h:ItemsOf (λi v=>its.toArray[its.toArray.size - 1 - i]? =ak v) G its.toArray.size):G=its.reverse.toArray:=by
 obtain⟨h1,h2⟩:=h;apply Array.ext_getElem?;intro i;have hs:its.toArray.size=its.length:=by simp
 by_cases hi:i < G.size
 ·have e:=h2 i G[i] (WE hi);rw[WE hi,<-e];rw[Ye,Ye,List.getElem?_reverse @A,hs]
 ·rw[ZM @A,ZM (by simp;omega)]
noncomputable def tRev (K:b') (te:TE):TE:=fun σ H Q=>te σ H λx H1=>∃a xs,x= .ref a/\SqL K H1 a xs/\∀l,H1 l=f'->Q @aA (!ay H1 l xs.reverse)
section
variable {X:Cx}
theorem GD {e:xo} {te:TE} {p1 p2 G δ:Pos} (g1:Gl X "list") (g2:Gl X "reversed") (n1:X.mg "list"=f') (ι:X.mg "reversed"=f') (hc:@aI) (he:!E e te)
  (h1:ov [Expr.Call (.Name "reversed" p1) [e] [] p2] X.env=[(false,eval (!aP "reversed" p1 [e] [] p2) X.env)]:=by rfl) (h2:ov [e] X.env=[(false,eval e X.env)]:=by rfl):
  PE X (!aP "list" G [.Call (.Name "reversed" p1) [e] [] p2] [] δ) (tRev X.K te):=by
 intro pins s σ H Q I h
 have L:∀ω:D',(∀v O,(∃a xs its H1 r,v= .ref r/\SqL X.K H1 a xs/\Vals xs its/\a≠r/\Inv X pins σ H1 O/\O.heap.IsRevIter r a ((its.toArray.size:Int) - 1)/\O.heap.IsList a its.toArray/\its.length<=kf/\H1 r=f'/\FpOk X pins H1 r/\(∀l,H1 l=f'->Q @aA (!ay H1 l xs.reverse)))->ω v O)->
   lT @T X.A (!az (!aP "reversed" p1 [e] [] p2)) ω X.xe s:=fun ω γ=>by
  refine ZV (nK I g2 ι PyProof.Rows.boot_reversed (vu (thn (aa he af h2 p2 pins s σ H (λvs H1=>match vs with | [x]=>∃a xs,x= .ref a/\SqL X.K H1 a xs/\∀l,H1 l=f'->Q @aA (!ay H1 l xs.reverse) | _=>False) I h) λus O ⟨vs,H1,I1,ζ,G⟩=>?_) h2 rfl))
  match vs,ζ,G with
  | [x],ζ,⟨a,xs,ξ,α,q⟩=>
  obtain⟨u,rfl,ε⟩:=ζ.one;subst ξ;cases ε;obtain⟨its,Y,pl,hz⟩:=I1.list α;have lt:a < O.heap.objs.size:=let ⟨o,e,_⟩:=pl.isList;ib e
  refine call_reversed_list pl.isList (γ _ _ ⟨a,xs,its,H1,O.heap.objs.size,rfl,α,Y,u' lt,I1.kept (t':=O.toks) λb o e=>gB _ e,⟨_,mc _ rfl,rfl,rfl⟩,let ⟨o,e,c⟩:=pl.isList;⟨o,gB _ e,c⟩,by rw[<-Y.length];exact hz,I1.fresh,I1.fpOk @Y I1.fresh,q⟩)
 refine ZV (nK I g1 n1 oD (vu (Q:=EP X pins σ Q) ?_ h1 rfl));rw[h1];show lT _ _ (spliced ((false,eval (!aP "reversed" p1 [e] [] p2) X.env)::backTo δ [])) _ _ s;refine YD (L _ λv O ν=>YK ?_);obtain⟨a,xs,its,H1,r,rfl,α,Y,β,I1,η,hl,hz,hf,fp,q⟩:=ν;refine AW (I1.ok.hd hc) β η hl (by simpa using hz) λh' tk ο c hk θ Z=>?_;have e:=Kf Z;subst e;exact⟨!j O.heap.objs.size,!ay H1 O.heap.objs.size xs.reverse,I1.laidT hk @Y ⟨by rw[ab6,Y.length];exact hz,its.reverse,c,Y.reverse,θ⟩ fp,rfl,q _ I1.fresh⟩
end
section
variable {X:Cx} {K:b'}
theorem bf (h:X.K=K):IxR X (rIxL K):=by subst h;exact Qj
theorem aC (h:X.K=K):IxR X (rIxT K):=by subst h;exact SL
theorem pd (h:X.K=K):SlR X (rSlL K):=by subst h;exact Pi
theorem P4 (h:X.K=K) (hu:@d2):!aN X .Eq (rEqL K false):=by subst h;exact Si hu
theorem P3 (h:X.K=K) (hu:@d2):!aN X .NotEq (rEqL K true):=by subst h;exact Sg hu
theorem mz (h:X.K=K):nY X (!ao "isinstance") (rIsi K):=by subst h;exact Nr
noncomputable def rLen (K:b'):eS V->Hp->VK->Prop:=λxs H Q=>∃x n,xs=[x]/\LenV K x H n/\Q (.int n) H
theorem aT (h:X.K=K):nY X (!ao "len") (rLen K):=by subst h;exact Nq
noncomputable def DC (K:b'):eS V->Hp->VK->Prop:=λxs H Q=>∃p ys,xs=[.ref p]/\(SqL K H p ys∨SqT K H p ys)/\∀l,H l=f'->Q @aA (!ay H l ys)
theorem cf (h:X.K=K):nY X @bN (DC K):=by subst h;exact CC
noncomputable def Ji (K:b'):eS V->Hp->VK->Prop:=λxs H Q=>∃p ys,xs=[.ref p]/\((SqL K H p ys/\∀l,H l=f'->Q @aA (!Y l (!G ys)))∨(SqT K H p ys/\Q @P H))
theorem eF (h:X.K=K):nY X (!ai "tuple") (Ji K):=by subst h;exact AV
theorem aG {tg l:xo} {tl:TE} (h:X.K=K) (hl:!E l tl):PI X tg l (SM K tl):=by subst h;exact PV hl
theorem iI {tg l:xo} {tl:TE} (h:X.K=K) (hl:!E l tl):PI X tg l (iTup K tl):=by subst h;exact R5 hl
theorem qO {o:xo} {to:TE} {name:lA} {apos cpos:Pos} {T id:U'} {r:V->eS V->Hp->VK->Prop} (h:X.K=K) (Y:PlainAttrs T) (slot:Slot T name id) (O:typeOf (!ao id)=pure @db) (hm:MtR X id r) (ho:!E o to)
  (L:attributeBase o name X.env (!az o)=eval o X.env:=by rfl) (G:@cm=true:=by rfl):!E (!bh o name apos [] [] cpos) (tBM0 K T r to):=by subst h;exact Sd Y slot O hm ho L G
theorem di {o e:xo} {es:eS xo} {to:TE} {t:TA} {name:lA} {apos cpos:Pos} {T id:U'} {r:V->eS V->Hp->VK->Prop} (h:X.K=K) (α:PlainAttrs T) (slot:Slot T name id) (Z:typeOf (!ao id)=pure @db) (hm:MtR X id r) (ho:!E o to) (ha:PA X @V t)
  (Y:attributeBase o name X.env (!az o)=eval o X.env:=by rfl)
  (O:((!aE cpos @V).all (λx=> !x.1)&&(!bH cpos [] X.env).all @cT
   &&decide ((@V).length + ([]:eS Keyword).length + (if ([]:eS Keyword).isEmpty then 0 else 1) < 30))=true:=by rfl)
  (G:@cm=true:=by rfl) (hs:ov @V X.env=(false,eval e X.env)::ov es X.env:=by rfl) (L:(!aE cpos es).any (·.1)=false:=by rfl):
  PE X (!bh o name apos @V [] cpos) (tBM K T r to t):=by subst h;exact Uj α slot Z hm ho ha Y O G hs L
end
noncomputable def Its (x:lA):It:=⟨λi _=>i < x.cps.size,λi H v H'=>H'=H/\∃c,x.cps[i]? =ak c/\v= .str ⟨#[c]⟩,λi _=>i=x.cps.size⟩
theorem EV {P:pT} {w:z0} {K:b'} {tg:xo} {G:ee} {x:lA} {t:Tok} {n:U'}
  (hn:["enumerate","zip","dict_itemiterator","dict_reverseitemiterator","odict_iterator","itertools.zip_longest","itertools.pairwise"].contains n=false)
  (W:∀A:xY,A.handled=f'->Walks P w A G [G] [G] x.cps.size (SignAt x) (λi h=>h.IsStrIter G n x t i))
  (L:∀(A:xY) (i:Nat) (s:kb) (Q:D') (E:D'),s.heap.IsStrIter G n x t i->Q @aJ s->lT (oS P w) A (pyIter @aJ) Q E s):
  Turn P w K tg (Its x) [G] G (λi h=>h.IsStrIter G n x t i) where
 mem:=by simp
 obj:=λi h st b hb=>by
  have e:b=G:=by simpa using hb
  subst e;obtain⟨o,e,c,d⟩:=st;exact⟨o,e,λv z=>by rw[d] at z;cases z⟩
 keep:=λi h h' st k=>let ⟨o,e,r⟩:=st;⟨o,k G @C o e,r⟩
 item:=by
  intro X β hw Z α i pins s σ H E I hf st Y;subst β hw Z;obtain⟨ε,η,ν,δ,γ,ξ⟩:=hf G @C;refine(W X.A (I.ok.hd α)).item i s _ _ Y st λv h' tk ι O ζ=>?_;obtain⟨c,u,θ,rfl⟩:=ι;have π:Inv X pins σ H {s with heap:=h',toks:=tk}:=I.turned (λb o hb e=>ζ b o (by simpa using hb) e) ε η δ γ ξ;obtain⟨o,e,ο,d⟩:=id O;exact⟨_,rfl,M5 (s:={s with heap:=h',toks:=tk}) (n:=n) e ο d hn ⟨.str ⟨#[c]⟩,H,π,⟨u,rfl⟩,⟨rfl,c,θ,rfl⟩,O,λb hb=>(hf b hb).1⟩⟩
 done:=by
  intro X β hw Z α i pins s σ H E I hf st Y;subst β hw Z;obtain⟨ε,η,ν,δ,γ,ξ⟩:=hf G @C;have Y:i=x.cps.size:=Y;subst Y;exact(W X.A (I.ok.hd α)).done s _ _ st λh' tk ζ=>⟨rfl,I.turned (λb o hb e=>ζ b o (by simpa using hb) e) ε η δ γ ξ⟩
 self:=L
noncomputable abbrev iStr (tl:TE):TI:=fun σ H R=>tl σ H λx H1=>∃z,x= .str z/\R (Its z) H1
section
variable {X:Cx} {tg:xo}
theorem R6 {l:xo} {tl:TE} (hl:!E l tl):PI X tg l (iStr tl):=by
 intro pins s σ H R I h;refine thn (hl pins s σ H _ I h) λv L ⟨x,H1,I1,ζ,G⟩=>?_;obtain⟨z,e,q⟩:=G;subst e;obtain⟨t,rfl⟩:=ζ
 have fp:∀(o:Zs),∀b∈[L.heap.objs.size],FpOk X pins H1 b:=λo b hb=>by
  have e:b=L.heap.objs.size:=by simpa using hb
  subst e;exact !bA @Y @Y
 cases ha:z.cps.all (· < 128)
 ·refine wpAny_pyIter_wide ha ⟨L.heap.objs.size,[L.heap.objs.size],_,_,H1,rfl,I1.kept (t':=L.toks) λb o e=>gB _ e,
   EV (n:="str_iterator") (t:=t) @D (λA ψ=>Walks.strWide ψ _ z t) (λ_ _ _ _ _ st h=>wpAny_pyIter_striter_wide st h),⟨_,mc _ rfl,rfl,rfl⟩,fp default,q⟩
 ·refine wpAny_pyIter_ascii ha ⟨L.heap.objs.size,[L.heap.objs.size],_,_,H1,rfl,I1.kept (t':=L.toks) λb o e=>gB _ e,
   EV (n:="str_ascii_iterator") (t:=t) @D (λA ψ=>Walks.strAscii ψ _ z t) (λ_ _ _ _ _ st h=>wpAny_pyIter_striter_ascii st h),⟨_,mc _ rfl,rfl,rfl⟩,fp default,q⟩
end
section
variable {n:Nat} {fx:Cr} {g:TG} {tc:TT} {te:TE} {σ:St} {H1:Hp} {D:ee} {Q:Hp->Prop}
theorem Nn {z:lA} (O:Nat->eS V->Hp->Prop) (h0:O 0 [] (!a1 H1 []))
  (hs:∀i c ys H,z.cps[i]? =ak c->O i ys H->g (.str ⟨#[c]⟩) (d3 n fx σ) H λG β=>tc G β λb α=>if b=true then te G α λv Z=>Z D=ak @X/\ys.length < kf/\O @J @a8 (!a1 Z @a8) else O @J ys α)
  (hd:∀ys H,O z.cps.size ys H->Q H):
  ∃W:Nat->Nat->eS V->Hp->Prop,(∃m,W 0 m [] (!a1 H1 []))/\∀i m ys H2,W i m ys H2->(!bI (Its z))∨
    ((Its z).go i H2/\∃N:eS V->Hp->Prop,(∀L H',N L H'->∃ν,ν < m/\W @J ν L H')/\∀x γ,(Its z).yld i H2 x γ->g x (d3 n fx σ) γ λG β=>tc G β λb α=>
      if b=true then te G α λv Z=>Z D=ak @X/\ys.length < kf/\N @a8 (!a1 Z @a8) else N ys α):=by
 refine⟨λi m ys H=>m=z.cps.size - i/\i<=z.cps.size/\O i ys H,⟨z.cps.size,@C,Vh _,h0⟩,?_⟩;rintro i m ys H ⟨rfl,hi,p⟩;by_cases Y:i < z.cps.size
 ·refine !F ⟨Y,O @J,λL H' ε=>⟨z.cps.size - @J,by omega,rfl,Y,ε⟩,λx H' y=>?_⟩;obtain⟨e,c,δ,y⟩:=y;subst e;subst y;exact hs i c ys _ δ p
 ·have e:i=z.cps.size:=by omega
  subst e;exact !J ⟨rfl,hd ys H p⟩
end
theorem FY {ns:C'}:∀{us:E'},Vals (ns.map V.str) us->StrsAre us ns:=by
 induction ns with
 | nil=>intro us r;rw[Z0] at r;cases r;exact .nil
 | cons n ns ih=>
   intro us r;rw[UL] at r;cases r with
   | cons ζ G=>
     obtain⟨t,e⟩:=ζ;subst e;exact .cons n t (ih G)
noncomputable def RO (K:b'):V->eS V->Hp->VK->Prop:=λx xs H Q=>∃z D ys,x= .str z/\xs=[.ref D]/\SqL K H D (ys.map V.str)/\(ys.map (·.length)).sum + ys.length * z.length<=16777216/\Q (.str (aa9 z ys)) H
noncomputable def RS (K:b'):eS V->Hp->VK->Prop:=λxs H Q=>∃(a:ee) (bs:eS US),xs=[.ref a]/\SqL K H a (bs.map V.bl)/\Q (.bl (bs.all id)) H
noncomputable def RQ (K:b'):eS V->Hp->VK->Prop:=λxs H Q=>∃(a:ee) (bs:eS US),xs=[.ref a]/\SqL K H a (bs.map V.bl)/\Q (.bl (bs.any id)) H
section
variable {X:Cx} {K:b'}
theorem vJ (h:X.K=K):MtR X "str.join" (RO K):=by
 subst h;intro pins s σ H x xs v us Q I G rs h;obtain⟨z,D,ys,rfl,rfl,Y,hz,q⟩:=h;obtain⟨t,rfl⟩:=G;obtain⟨u,rfl,O⟩:=vT rs;cases O;obtain⟨its,L,pl,_⟩:=I.list Y;exact join_list pl.isList (FY (by simpa using L)) hz λt' k=>⟨.str (aa9 z ys),H,I.tok k,⟨t',rfl⟩,q⟩
theorem K3 {bs:eS US} {its:E'} (G:Vals (bs.map V.bl) its) {i:Nat} {v:kk} (h:its.toArray[i]? =ak v):v= .bool (bs.getD i false):=by
 have h':its[i]? =ak v:=by simpa using h
 have hi:i < its.length:=(!M h').1;have hl:=G.length;rw[aI] at hl;obtain⟨u,e,r⟩:=G.get (i:=i) (x:= .bl (bs.getD i false)) (by rw[hH,ef @A,dm,ef @A];rfl);rw[h'] at e;cases e;exact r
theorem Tn (bs:eS US):(kv bs.length).all (λi=>bs.getD i false)=bs.all id:=by
 rw[VI,VR,VR];constructor
 ·intro h x G;obtain⟨i,hi,e⟩:=Vu.mp G;have:=h i (wh.mpr hi);rw[dm,ef hi,e] at this;exact this
 ·intro h i hi;have hi:=wh.mp hi;rw[dm,ef hi];exact h _ (UX hi)
theorem Ti (bs:eS US):(kv bs.length).any (λi=>bs.getD i false)=bs.any id:=by
 rw[VI,WC,WC];constructor
 ·rintro⟨i,hi,h⟩;have hi:=wh.mp hi;rw[dm,ef hi] at h;exact⟨_,UX hi,h⟩
 ·rintro⟨x,G,h⟩;obtain⟨i,hi,e⟩:=Vu.mp G;refine⟨i,wh.mpr hi,?_⟩;rw[dm,ef hi,e];exact h
theorem ya (h:X.K=K) (hc:@aI):nY X (!ao "all") (RS K):=by
 subst h;intro pins s σ H xs us Q I r h;obtain⟨a,bs,rfl,Y,q⟩:=h;obtain⟨u,rfl,L⟩:=vT r;cases L;obtain⟨its,G,pl,hz⟩:=I.list Y;have lt:a < s.heap.objs.size:=let ⟨o,e,_⟩:=pl.isList;ib e
 have hl:its.toArray.size=bs.length:=by have:=G.length;rw[aI] at this;simp[this]
 refine call_all_walk (Y4 pl.isList ⟨s.heap.objs.size,_,_,its.toArray.size,_,_,λi=>bs.getD i false,rfl,ab1 (A:=X.A.in1) @be s.heap.objs.size a (u' lt) its.toArray,⟨⟨_,mc _ rfl,rfl,rfl⟩,let ⟨o,e,c⟩:=pl.isList;⟨o,gB _ e,c⟩⟩,λi v s Q E O Z=>by rw[K3 G O];exact W8 Z,λh' tk ζ=>?_⟩);rw[hl,Tn];exact⟨.bl _,H,I.kept (λb o e=>ζ b o (λhm=>by have:=ib e;rw[gs.mp hm] at this;exact hF this (VJ _)) (gB _ e)),rfl,q⟩
theorem CD (h:X.K=K) (hc:@aI):nY X (!ao "any") (RQ K):=by
 subst h;intro pins s σ H xs us Q I r h;obtain⟨a,bs,rfl,Y,q⟩:=h;obtain⟨u,rfl,L⟩:=vT r;cases L;obtain⟨its,G,pl,hz⟩:=I.list Y;have lt:a < s.heap.objs.size:=let ⟨o,e,_⟩:=pl.isList;ib e
 have hl:its.toArray.size=bs.length:=by have:=G.length;rw[aI] at this;simp[this]
 refine call_any_walk (Y4 pl.isList ⟨s.heap.objs.size,_,_,its.toArray.size,_,_,λi=>bs.getD i false,rfl,ab1 (A:=X.A.in1) @be s.heap.objs.size a (u' lt) its.toArray,⟨⟨_,mc _ rfl,rfl,rfl⟩,let ⟨o,e,c⟩:=pl.isList;⟨o,gB _ e,c⟩⟩,λi v s Q E O Z=>by rw[K3 G O];exact W8 Z,λh' tk ζ=>?_⟩);rw[hl,Ti];exact⟨.bl _,H,I.kept (λb o e=>ζ b o (λhm=>by have:=ib e;rw[gs.mp hm] at this;exact hF this (VJ _)) (gB _ e)),rfl,q⟩
end
inductive Dt where
 | non | bl (b:US) | int (i:Int) | str (x:lA) | lst (xs:eS Dt) | tup (xs:eS Dt)
inductive Rep (K:b') (H:Hp):V->Dt->Prop where
 | non:Rep K H .non .non
 | bl (b:US):Rep K H (.bl b) (.bl b)
 | int (i:Int):Rep K H (.int i) (.int i)
 | str (x:lA):Rep K H (.str x) (.str x)
 | lst {p:ee} {xs:eS V} {ds:eS Dt} (h:SqL K H p xs) (l:xs.length=ds.length) (r:∀(i:Nat) x d,xs[i]? =ak x->ds[i]? =ak d->Rep K H x d):Rep K H @P (!A ds)
 | tup {p:ee} {xs:eS V} {ds:eS Dt} (h:SqT K H p xs) (l:xs.length=ds.length) (r:∀(i:Nat) x d,xs[i]? =ak x->ds[i]? =ak d->Rep K H x d):Rep K H @P (!G ds)
theorem Same.tup {K:b'} {H H':Hp} {a:ee} {xs:eS V} (e:!bm H') (h:SqT K H a xs):SqT K H' a xs:=by
 rcases h with (h | ⟨o,h⟩) | h
 ·exact !J (!J (e _ _ h))
 ·exact !J (!F ⟨o,e _ _ h⟩)
 ·exact !F h
mutual
noncomputable def eqD:Dt->Dt->US
 | .non,.non=>true
 | .bl a,.bl b=>a == b
 | .bl a,.int b=>(if a then 1 else 0) == b
 | .int a,.bl b=>a == (if b then 1 else 0)
 | .int a,.int b=>a == b
 | .str a,.str b=>a == b
 | .lst xs,.lst ys=>eqDs xs ys
 | .tup xs,.tup ys=>eqDs xs ys
 | _,_=>false
noncomputable def eqDs:eS Dt->eS Dt->US
 | [],[]=>true
 | x::xs,y::ys=>eqD x y&&eqDs xs ys
 | _,_=>false
end
mutual
noncomputable def depD:Dt->Nat
 | .lst xs=>EA xs + 1
 | .tup xs=>EA xs + 1
 | _=>0
noncomputable def EA:eS Dt->Nat
 | []=>0
 | x::xs=>max (depD x) (EA xs)
end
theorem KM {ds:eS Dt} {d:Dt} (h:d∈ds):depD d<=EA ds:=by
 induction ds with
 | nil=>cases h
 | cons x xs ih=>
   rw[EA];rcases qq.mp h with rfl | h
   ·omega
   ·have:=ih h;omega
theorem AO:∀{xs ys:eS Dt},xs.length≠ys.length->eqDs xs ys=false
 | [],[],h=>hF rfl h
 | [],_::_,_=>rfl
 | _::_,[],_=>rfl
 | x::xs,y::ys,h=>by rw[eqDs,AO (λz=>h (by simp[z])),VW]
theorem AQ:∀{xs ys:eS Dt},xs.length=ys.length->eqDs xs ys=(kv xs.length).all λi=>eqD (!bG i) (ys.getD i .non)
 | [],[],_=>rfl
 | [],_::_,h=>by cases h
 | _::_,[],h=>by cases h
 | x::xs,y::ys,h=>by
   rw[eqDs,AQ (by simpa using h),pA,ZQ,Ys,ah8];rfl
theorem Nf:∀d:Dt,eqD d d=true:=by
 intro d;refine Dt.rec (motive_1:=λd=>eqD d d=true) (motive_2:=λds=>eqDs ds ds=true) ?_ ?_ ?_ ?_ ?_ ?_ ?_ ?_ d
 ·rfl
 ·intro b;simp[eqD]
 ·intro b;simp[eqD]
 ·intro b;simp[eqD]
 ·intro xs h;rw[eqD];exact h
 ·intro xs h;rw[eqD];exact h
 ·rfl
 ·intro x xs h1 h2;rw[eqDs,h1,h2];rfl
theorem Ou:∀{d e:Dt},d=e->eqD d e=true:=λh=>by subst h;exact Nf _
section
variable {X:Cx} {pins:Dn} {σ:St} {H:Hp} {s:kb}
theorem Inv.notBoth (I:@N) {p:ee} {xs ys:eS V} (h1:SqL X.K H p xs) (h2:SqT X.K H p ys):False:=by
 obtain⟨_,_,pl,_⟩:=I.list h1;obtain⟨_,_,⟨o,ho,L,_⟩,_⟩:=I.tuple h2;obtain⟨o',n,ι,G,_⟩:=pl;rw[ho] at ι;cases ι;rw[L] at G;exact hF G @D
theorem Rep.fun (I:@N) {x:V} {d:Dt} (r:Rep X.K H x d):∀{e:Dt},Rep X.K H x e->d=e:=by
 induction r with
 | non=>intro e q;cases q;rfl
 | bl b=>intro e q;cases q;rfl
 | int i=>intro e q;cases q;rfl
 | str z=>intro e q;cases q;rfl
 | lst h l r ih=>
   intro e q;cases q with
   | lst h' L r'=>
     have ex:=I.list_inj h h';subst ex;congr 1;refine Wj λi=>?_;rename_i xs ds O;by_cases hi:i < ds.length
     ·rw[ef hi,ef @A];have G:i < xs.length:=by omega
      rw[ih i _ _ (ef G) (ef hi) (r' i _ _ (ef G) (ef @A))]
     ·rw[w8 @A,w8 @A]
   | tup h' L r'=>exact(I.notBoth h h').elim
 | tup h l r ih=>
   intro e q;cases q with
   | tup h' L r'=>
     have ex:=I.tuple_inj h h';subst ex;congr 1;refine Wj λi=>?_;rename_i xs ds O;by_cases hi:i < ds.length
     ·rw[ef hi,ef @A];have G:i < xs.length:=by omega
      rw[ih i _ _ (ef G) (ef hi) (r' i _ _ (ef G) (ef @A))]
     ·rw[w8 @A,w8 @A]
   | lst h' L r'=>exact(I.notBoth h' h).elim
open SeqAt in
theorem rc_D (I:@N) {x:V} {d:Dt} (r:Rep X.K H x d):∀{A:xY} {e:Dt} {y:V} {u v:kk} (n:Nat),Rep X.K H y e->RelV x u->RelV y v->depD d<=n->A.units + n < cLine->
  EqAt A s u v (eqD d e)/\RcAt A s u v (eqD d e)/\RcNeAt A s u v (!eqD d e):=by
 induction r with
 | non=>
   intro A e y u v n q θ O hd hu;cases θ;cases q with
   | non=>cases O;exact⟨ad8 _,RcAt.none_none,RcNeAt.none_none⟩
   | bl b=>cases O;exact⟨EqAt.none_bool b,RcAt.none_bool b,RcNeAt.none_bool b⟩
   | int b=>obtain⟨t,rfl⟩:=O;exact⟨EqAt.none_int b t,RcAt.none_int b t,RcNeAt.none_int b t⟩
   | str b=>obtain⟨t,rfl⟩:=O;exact⟨EqAt.none_str b t,RcAt.none_str b t,RcNeAt.none_str b t⟩
   | lst h l r=>cases O;obtain⟨_,_,pl,_⟩:=I.list h;exact⟨EqAt.none_list pl.isList @A,RcAt.none_list pl.isList @A,RcNeAt.none_list pl.isList @A⟩
   | tup h l r=>cases O;obtain⟨_,_,pl,_⟩:=I.tuple h;exact⟨EqAt.none_tuple pl @A,RcAt.none_tuple pl @A,RcNeAt.none_tuple pl @A⟩
 | bl a=>
   intro A e y u v n q θ O hd hu;cases θ;cases q with
   | non=>cases O;exact⟨EqAt.bool_none a,RcAt.bool_none a,RcNeAt.bool_none a⟩
   | bl b=>cases O;exact⟨EqAt.bool_bool a b,RcAt.bool_bool a b,RcNeAt.bool_bool a b⟩
   | int b=>obtain⟨t,rfl⟩:=O;exact⟨EqAt.bool_int a b t,RcAt.bool_int a b t,RcNeAt.bool_int a b t⟩
   | str b=>obtain⟨t,rfl⟩:=O;exact⟨EqAt.bool_str a b t,RcAt.bool_str a b t,RcNeAt.bool_str a b t⟩
   | lst h l r=>cases O;obtain⟨_,_,pl,_⟩:=I.list h;exact⟨EqAt.bool_list a pl.isList @A,RcAt.bool_list a pl.isList @A,RcNeAt.bool_list a pl.isList @A⟩
   | tup h l r=>cases O;obtain⟨_,_,pl,_⟩:=I.tuple h;exact⟨EqAt.bool_tuple a pl @A,RcAt.bool_tuple a pl @A,RcNeAt.bool_tuple a pl @A⟩
 | int a=>
   intro A e y u v n q θ O hd hu;obtain⟨t',rfl⟩:=θ;cases q with
   | non=>cases O;exact⟨EqAt.int_none a t',RcAt.int_none a t',RcNeAt.int_none a t'⟩
   | bl b=>cases O;exact⟨EqAt.int_bool a t' b,RcAt.int_bool a t' b,RcNeAt.int_bool a t' b⟩
   | int b=>obtain⟨t,rfl⟩:=O;exact⟨EqAt.int_int a t' b t,RcAt.int_int a t' b t,RcNeAt.int_int a t' b t⟩
   | str b=>obtain⟨t,rfl⟩:=O;exact⟨EqAt.int_str a t' b t,RcAt.int_str a t' b t,RcNeAt.int_str a t' b t⟩
   | lst h l r=>cases O;obtain⟨_,_,pl,_⟩:=I.list h;exact⟨EqAt.int_list a t' pl.isList @A,RcAt.int_list a t' pl.isList @A,RcNeAt.int_list a t' pl.isList @A⟩
   | tup h l r=>cases O;obtain⟨_,_,pl,_⟩:=I.tuple h;exact⟨EqAt.int_tuple a t' pl @A,RcAt.int_tuple a t' pl @A,RcNeAt.int_tuple a t' pl @A⟩
 | str a=>
   intro A e y u v n q θ O hd hu;obtain⟨t',rfl⟩:=θ;cases q with
   | non=>cases O;exact⟨EqAt.str_none a t',RcAt.str_none a t',RcNeAt.str_none a t'⟩
   | bl b=>cases O;exact⟨EqAt.str_bool a t' b,RcAt.str_bool a t' b,RcNeAt.str_bool a t' b⟩
   | int b=>obtain⟨t,rfl⟩:=O;exact⟨EqAt.str_int a t' b t,RcAt.str_int a t' b t,RcNeAt.str_int a t' b t⟩
   | str b=>obtain⟨t,rfl⟩:=O;exact⟨EqAt.str_str a t' b t,RcAt.str_str a t' b t,RcNeAt.str_str a t' b t⟩
   | lst h l r=>cases O;obtain⟨_,_,pl,_⟩:=I.list h;exact⟨EqAt.str_list a t' pl.isList @A,RcAt.str_list a t' pl.isList @A,RcNeAt.str_list a t' pl.isList @A⟩
   | tup h l r=>cases O;obtain⟨_,_,pl,_⟩:=I.tuple h;exact⟨EqAt.str_tuple a t' pl @A,RcAt.str_tuple a t' pl @A,RcNeAt.str_tuple a t' pl @A⟩
 | @lst p xs ds h l r ih=>
   intro A e y u v n q θ O hd hu;cases θ;obtain⟨its,η,pl,_⟩:=I.list h;rw[depD] at hd;cases q with
   | non=>cases O;exact⟨EqAt.list_none pl.isList @A,RcAt.list_none pl.isList @A,RcNeAt.list_none pl.isList @A⟩
   | bl b=>cases O;exact⟨EqAt.list_bool b pl.isList @A,RcAt.list_bool b pl.isList @A,RcNeAt.list_bool b pl.isList @A⟩
   | int b=>obtain⟨t,rfl⟩:=O;exact⟨EqAt.list_int b t pl.isList @A,RcAt.list_int b t pl.isList @A,RcNeAt.list_int b t pl.isList @A⟩
   | str b=>obtain⟨t,rfl⟩:=O;exact⟨EqAt.list_str b t pl.isList @A,RcAt.list_str b t pl.isList @A,RcNeAt.list_str b t pl.isList @A⟩
   | tup h' ι r'=>
     cases O;obtain⟨_,_,α,_⟩:=I.tuple h';exact⟨EqAt.list_tuple pl.isList α @A,RcAt.list_tuple pl.isList α @A,RcNeAt.list_tuple pl.isList α @A⟩
   | @lst ε δ L h' ι r'=>
     cases O;obtain⟨its',ζ,α,_⟩:=I.list h';have n1:=η.length;have χ:=ζ.length
     have γ:RcAt A s @P (!j ε) (eqDs ds L)/\RcNeAt A s @P (!j ε) (!eqDs ds L):=by
      by_cases hl:ds.length=L.length
      ·have e:eqDs ds L=(kv its.toArray.size).all λi=>eqD (ds.getD i .non) (L.getD i .non):=by
        rw[AQ hl,qb,<-n1,l]
       rw[e];have hz:its.toArray.size=its'.toArray.size:=by simp;omega
       have he:∀j (h1:j < its.toArray.size) (h2:j < its'.toArray.size),EqAt A.in1 s its.toArray[j] its'.toArray[j] (eqD (ds.getD j .non) (L.getD j .non)):=λj h1 h2=>by
        have Z:j < its.length:=by simpa using h1
        have π:j < its'.length:=by simpa using h2
        have ο:j < xs.length:=by omega
        have G:j < δ.length:=by omega
        have ξ:j < ds.length:=by omega
        have Y:j < L.length:=by omega
        have g1:xs[j]? =ak (!bG j):=by rw[dm,ef ο];rfl
        have g2:ds[j]? =ak (ds.getD j .non):=by rw[dm,ef ξ];rfl
        have β:δ[j]? =ak (δ.getD j .non):=by rw[dm,ef G];rfl
        have ρ:L[j]? =ak (L.getD j .non):=by rw[dm,ef Y];rfl
        have hn:n≠0:=by omega
        exact(ih j _ _ g1 g2 (n - 1) (r' j _ _ β ρ) (sS η h1) (sS ζ h2) (by have:=KM (eH g2);omega) (by show A.units + 1 + (n - 1) < cLine;omega)).1
       exact⟨RcAt.lists pl.isList α.isList hz @A he,RcNeAt.lists pl.isList α.isList hz @A he⟩
      ·rw[AO hl];have hz:(its.toArray.size != its'.toArray.size)=true:=by simp;omega
       exact⟨RcAt.lists_lengths pl.isList α.isList hz @A,RcNeAt.lists_lengths pl.isList α.isList hz @A⟩
     rw[eqD];refine⟨?_,γ⟩;by_cases ν:p=ε
     ·subst ν;have e:Dt.lst ds=Dt.lst L:=(Rep.lst h l r).fun I (.lst h' ι r');have τ:eqDs ds L=true:=by have:=Ou e;rw[eqD] at this;exact this
      rw[τ];exact ad8 _
     ·exact ah9 ν γ.1
 | @tup p xs ds h l r ih=>
   intro A e y u v n q θ O hd hu;cases θ;obtain⟨its,η,pl,_⟩:=I.tuple h;rw[depD] at hd;cases q with
   | non=>cases O;exact⟨EqAt.tuple_none pl @A,RcAt.tuple_none pl @A,RcNeAt.tuple_none pl @A⟩
   | bl b=>cases O;exact⟨EqAt.tuple_bool b pl @A,RcAt.tuple_bool b pl @A,RcNeAt.tuple_bool b pl @A⟩
   | int b=>obtain⟨t,rfl⟩:=O;exact⟨EqAt.tuple_int b t pl @A,RcAt.tuple_int b t pl @A,RcNeAt.tuple_int b t pl @A⟩
   | str b=>obtain⟨t,rfl⟩:=O;exact⟨EqAt.tuple_str b t pl @A,RcAt.tuple_str b t pl @A,RcNeAt.tuple_str b t pl @A⟩
   | lst h' ι r'=>
     cases O;obtain⟨_,_,α,_⟩:=I.list h';exact⟨EqAt.tuple_list pl α.isList @A,RcAt.tuple_list pl α.isList @A,RcNeAt.tuple_list pl α.isList @A⟩
   | @tup ε δ L h' ι r'=>
     cases O;obtain⟨its',ζ,α,_⟩:=I.tuple h';have n1:=η.length;have χ:=ζ.length
     have γ:RcAt A s @P (!j ε) (eqDs ds L)/\RcNeAt A s @P (!j ε) (!eqDs ds L):=by
      have e:eqDs ds L=((kv (min its.toArray.size its'.toArray.size)).all (λi=>eqD (ds.getD i .non) (L.getD i .non))&&its.toArray.size == its'.toArray.size):=by
       by_cases hl:ds.length=L.length
       ·have φ:its.toArray.size=ds.length:=by simp;omega
        have υ:its'.toArray.size=ds.length:=by simp;omega
        rw[AQ hl,φ,υ,Z4,Vo,Bool.and_true]
       ·have z:(its.toArray.size == its'.toArray.size)=false:=by rw[vr];simp;omega
        rw[AO hl,z,VW]
      rw[e]
      have he:∀j (h1:j < its.toArray.size) (h2:j < its'.toArray.size),EqAt A.in1 s its.toArray[j] its'.toArray[j] (eqD (ds.getD j .non) (L.getD j .non)):=λj h1 h2=>by
       have Z:j < its.length:=by simpa using h1
       have π:j < its'.length:=by simpa using h2
       have ο:j < xs.length:=by omega
       have G:j < δ.length:=by omega
       have ξ:j < ds.length:=by omega
       have Y:j < L.length:=by omega
       have g1:xs[j]? =ak (!bG j):=by rw[dm,ef ο];rfl
       have g2:ds[j]? =ak (ds.getD j .non):=by rw[dm,ef ξ];rfl
       have β:δ[j]? =ak (δ.getD j .non):=by rw[dm,ef G];rfl
       have ρ:L[j]? =ak (L.getD j .non):=by rw[dm,ef Y];rfl
       have hn:n≠0:=by omega
       exact(ih j _ _ g1 g2 (n - 1) (r' j _ _ β ρ) (sS η h1) (sS ζ h2) (by have:=KM (eH g2);omega) (by show A.units + 1 + (n - 1) < cLine;omega)).1
      exact⟨RcAt.tuples pl α @A he,RcNeAt.tuples pl α @A he⟩
     rw[eqD];refine⟨?_,γ⟩;by_cases ν:p=ε
     ·subst ν;have e:Dt.tup ds=Dt.tup L:=(Rep.tup h l r).fun I (.tup h' ι r');have τ:eqDs ds L=true:=by have:=Ou e;rw[eqD] at this;exact this
      rw[τ];exact ad8 _
     ·exact ah9 ν γ.1
end
noncomputable def rEqD (K:b') (neg:US):R2:=λx y H Q=>∃d e,Rep K H x d/\Rep K H y e/\depD d<=100/\Q (.bl (if neg then !eqD d e else eqD d e)) H
section
variable {X:Cx} {K:b'}
theorem JB (h:X.K=K) (hu:X.A.units + 100 < cLine):!aN X .NotEq (rEqD K true):=by
 subst h;intro pins s σ H x y v u Q I L G h;obtain⟨d,e,ζ,O,hd,q⟩:=h;exact(rc_D I ζ 100 O L G hd hu).2.2 X.prog X.w X.xe _ ⟨.bl _,H,I,rfl,q⟩
end
inductive HF:St->Nat->qE V->St->Prop where
 | z {a v:qE V} {l:St}:HF (a::l) 0 v (v::l)
 | s {a v:qE V} {l l':St} {i:Nat}:HF l i v l'->HF (a::l) (i + 1) v (a::l')
theorem HF.eq {l G:St} {i:Nat} {v:qE V} (h:HF l i v G):l.set i v=G:=by
 induction h with
 | z=>rfl
 | s _ ih=>rw[List.set_cons_succ,ih]
inductive HH:St->Nat->V->Prop where
 | z {v:V} {l:St}:HH (ak v::l) 0 v
 | s {a:qE V} {v:V} {l:St} {i:Nat}:HH l i v->HH (a::l) (i + 1) v
theorem HH.eq {l:St} {i:Nat} {v:V} (h:HH l i v):l[i]? =ak @aC:=by
 induction h with
 | z=>rfl
 | s _ ih=>rw[List.getElem?_cons_succ];exact ih
section
variable {σ σ':St} {H:Hp} {Q:VK} {D:Ends} {ta tb tc te:TE} {t u:TS} {tt tt':TT} {r r':R2} {x y v:V}
theorem aw {N:C'} {vs:eS V} {t:TS} (e:start N vs=σ') (h:t D σ' H):t D (start N vs) H:=by rw[e];exact h
theorem T5 {i:Nat} (e:HH σ i v) (h:Q v H):tVar i σ H Q:=⟨v,e.eq,h⟩
theorem s_rI {C:Int->Int->Prop} {g:Int->Int->V} {i j:Int} (c:C i j) (h:Q (g i j) H):rI C g @bg (.int j) H Q:=⟨i,j,rfl,rfl,c,h⟩
theorem T9 {g:Int->Int->V} {i j:Int} (h:Q (g i j) H):rI0 g @bg (.int j) H Q:=⟨i,j,rfl,rfl,h⟩
theorem Ua (e:scal x y=true) (h:Q (.bl (decide (x=y))) H):rEq x y H Q:=⟨e,h⟩
theorem T8 (e:scal x y=true) (h:Q (.bl (!decide (x=y))) H):rNe x y H Q:=⟨e,h⟩
theorem Rk (h:D.nx σ H):QY D σ H:=h
theorem Pw {i:Nat} {Q:St->Hp->Prop} (e:HF σ i @aC σ') (h:Q σ' H):Kv i v σ H Q:=by show Q (σ.set i @aC) H;rw[e.eq];exact h
theorem Rz {Q:St->Hp->Prop} (h:Q σ H):gNil [] σ H Q:=⟨rfl,h⟩
theorem Px {g:TG} {G:TGs} {vs:eS V} {Q:St->Hp->Prop} (h:g v σ H fun σ' H'=>G vs σ' H' Q):Qn g G (v::vs) σ H Q:=⟨v,vs,rfl,h⟩
theorem Rx {K:b'} {n:Nat} {G:TGs} {p:ee} {xs:eS V} {Q:St->Hp->Prop} (e:SqT K H p xs) (l:xs.length=n) (h:G xs σ H Q):gTup K n G @P σ H Q:=⟨p,xs,rfl,e,l,h⟩
def NewT (Q:VK) (xs:eS V) (H:Hp):Prop:=xs.length<=kf/\∀p,H p=f'->Q @P (!Y p @ax)
def NewL (Q:VK) (xs:eS V) (H:Hp):Prop:=xs.length<=kf/\∀p,H p=f'->Q @P (!ay H p xs)
theorem T6 {tr:TA} (h:tr σ H (NewT Q)):tTup tr σ H Q:=h
theorem Ub {tr:TA} (h:tr σ H (NewL Q)):tLst tr σ H Q:=h
theorem bj {H:Hp} {D:ee} {o:HO} (h:H D=f'):!bm (!Y D o):=λb u e=>by rw[aH (!L h)];exact e
theorem jY {o:HO} (h:∀p H2,H p=f'->Same H H2->H2 p=ak o->Q @P H2):∀p,H p=f'->Q @P (!Y p o):=λp G=>h p _ G (bj G) ay
theorem Same.get {H H':Hp} (e:!bm H') {b:ee} {o:HO} (h:H b=ak o):H' b=ak o:=e b o h
theorem Rl {xs:eS V} (l:xs.length<=kf) (h:∀p H2,H p=f'->Same H H2->H2 p=ak @ax->Q @P H2):NewT Q xs H:=⟨l,jY h⟩
theorem Rn {xs:eS V} (l:xs.length<=kf) (h:∀p H2,H p=f'->Same H H2->H2 p=ak @al->Q @P H2):NewL Q xs H:=⟨l,jY h⟩
theorem PF {sp:Sp} {E:XK} {tr:TA} (h:tr σ H λvs H1=>sp vs H1 Q E):Io sp [] E tr σ H Q:=by unfold Io;simp only[UY];exact h
theorem T7 {K:b'} {p:ee} {xs:eS V} {lo hi:qE Int} (e:SqL K H p xs) (h:∀q H2,H q=f'->Same H H2->H2 q=ak (!A (cutV xs lo hi))->Q (!j q) H2):rSlL K @P lo hi H Q:=⟨p,xs,rfl,e,jY h⟩
theorem Gk {K:b'} {p:ee} {xs:eS V} {i:Int} (e:SqL K H p xs) (a:atI xs i=ak v) (h:Q v H):rIxL K @P @bg H Q:=⟨p,xs,i,v,rfl,rfl,e,a,h⟩
theorem Uc {K:b'} {p:ee} {xs:eS V} {i:Int} (e:SqT K H p xs) (a:atI xs i=ak v) (h:Q v H):rIxT K @P @bg H Q:=⟨p,xs,i,v,rfl,rfl,e,a,h⟩
theorem Rv {z:lA} {i:Int} {c:Nat} (e:z.length<=kf) (a:atI z.cps.toList i=ak c) (h:Q (.str ⟨#[c]⟩) H):rIxS @ao @bg H Q:=⟨z,i,c,rfl,rfl,e,a,h⟩
theorem J0 {n:Nat} (h:n<=1000):n<=sizeLine:=Vw (aO h)
theorem RA {K:b'} {neg:US} {d e:Dt} (ζ:Rep K H x d) (G:Rep K H y e) (hd:depD d<=100) (h:Q (.bl (if neg then !eqD d e else eqD d e)) H):rEqD K neg x y H Q:=⟨d,e,ζ,G,hd,h⟩
theorem s_ty {K:b'} {T:U'} {A:Prop} (e:tyV K T x H) (h:A):tyV K T x H/\A:=⟨e,h⟩
theorem RI {i:Int} (h:Q (.int (u1 i:Nat)) H):RP @bg [] H Q:=⟨i,rfl,rfl,h⟩
theorem E2 {K:b'} {z:lA} {p:ee} {ys:C'} (e:SqL K H p (ys.map V.str)) (l:(ys.map (·.length)).sum + ys.length * z.length<=16777216) (h:Q (.str (aa9 z ys)) H):RO K @ao @bf H Q:=⟨z,p,ys,rfl,rfl,e,l,h⟩
theorem Ru {K:b'} {p:ee} {xs:eS V} (e:SqL K H p xs) (h:Q (.int xs.length) H):rLen K @bf H Q:=⟨_,_,rfl,!J ⟨xs,e,rfl⟩,h⟩
theorem Rr {K:b'} {p:ee} {xs:eS V} (e:SqT K H p xs) (h:Q (.int xs.length) H):rLen K @bf H Q:=⟨_,_,rfl,!F ⟨xs,e,rfl⟩,h⟩
theorem Rt {K:b'} {z:lA} (e:z.length<=kf) (h:Q (.int z.length) H):rLen K [.str z] H Q:=⟨_,_,rfl,⟨e,rfl⟩,h⟩
theorem Ud {K:b'} {T k:U'} (e:mW K H x k) (m:T∈["int","bool","str","list","tuple","dict"]) (h:Q (.bl (subB k T)) H):rIsi K [x,.ty T] H Q:=⟨x,k,T,rfl,e,m,h⟩
theorem RD (h:∀p H2,H p=f'->Same H H2->H2 p=ak (.dK [])->Q @P H2):NV σ H Q:=jY h
theorem Ue {L:TI} {g:TG} {tb:TS} (h:L σ H λJ H1=>∃W:Nat->Nat->St->Hp->Prop,(∃m,W 0 m σ H1)/\∀i m σ H,W i m σ H->(J.stop i H/\D.nx σ H)∨(J.go i H/\∃N:St->Hp->Prop,(∀σ' H',N σ' H'->∃ν,ν < m/\W @J ν σ' H')/\∀x H',J.yld i H x H'->g x σ H' λG H2=>tb {D with nx:=N,ct:=N,bk:=D.nx} G H2)):tFor L g tb D σ H:=h
theorem T4 {Q:US->Hp->Prop} (h:Q true H):tYes σ H Q:=h
theorem Rg {A B:Prop} (h:A):if true=true then A else B:=by rw[oL rfl];exact h
theorem Py {A B:Prop} (h:B):if false=true then A else B:=by rw[mu ia];exact h
theorem rE {c:US} {A B:Prop} (e:c=true) (h:A):if c=true then A else B:=by rw[oL e];exact h
theorem jW {c:US} {A B:Prop} (e:c=false) (h:B):if c=true then A else B:=by rw[e,mu ia];exact h
theorem RH {n:Nat} {fx:Cr} {O:TI} {g:TG} (h:O σ H λJ H1=>∀D,H1 D=f'->
 ∃W:Nat->Nat->eS V->Hp->Prop,(∃m,W 0 m [] (!a1 H1 []))/\∀i m ys H2,W i m ys H2->(J.stop i H2/\Q @Z H2)∨
   (J.go i H2/\∃N:eS V->Hp->Prop,(∀L H',N L H'->∃ν,ν < m/\W @J ν L H')/\∀x α,J.yld i H2 x α->g x (d3 n fx σ) α λG β=>tt G β λb Z=>
    if b=true then te G Z λv Y=>Y D=ak @X/\ys.length < kf/\N @a8 (!a1 Y @a8) else N ys Z)):LY n fx O g tt te σ H Q:=h
theorem E3 {K:b'} {p:ee} {bs:eS US} (e:SqL K H p (bs.map V.bl)) (h:Q (.bl (bs.all id)) H):RS K @bf H Q:=⟨p,bs,rfl,e,h⟩
theorem N1 {K:b'} {p:ee} {bs:eS US} (e:SqL K H p (bs.map V.bl)) (h:Q (.bl (bs.any id)) H):RQ K @bf H Q:=⟨p,bs,rfl,e,h⟩
theorem Mt {j:Int} {A:Prop} (h1: -(2 ^ 62)<=j) (h2:j < 2 ^ 62) (h:A): -(2 ^ 62)<=j/\j < 2 ^ 62/\A:=⟨h1,h2,h⟩
end
noncomputable def tCut (t u:TS):TS:=λD σ H=>∃P:St->Hp->Prop,t {D with nx:=P} σ H/\∀σ' H',P σ' H'->u D σ' H'
theorem Jr {X:Cx} {st:WX} {rest:eS WX} {t u:TS} (h1:PS X st t) (h2:PSs X rest u):PSs X (st::rest) (tCut t u):=by
 intro pins s σ H D I ⟨P,a,b⟩;refine Zu (thn (h1 pins s σ H {D with nx:=P} I a) λf O q=>?_);cases f with
 | next=>obtain⟨L,H1,Y,G⟩:=q;exact h2 pins O L H1 D Y (b L H1 G)
 | brk=>exact q
 | cont=>exact q
 | ret v=>exact q
theorem RG {t u:TS} {D:Ends} {σ:St} {H:Hp} (P:St->Hp->Prop) (h:t {D with nx:=P} σ H) (k:∀σ' H',P σ' H'->u D σ' H'):tCut t u D σ H:=⟨P,h,k⟩
section
variable {K:b'} {n:Nat} {fx:Cr} {g:TG} {tc:TT} {te:TE} {σ:St} {H1:Hp} {D:ee} {Q:Hp->Prop}
structure Cs (Pv:Nat->eS V->Prop) (H1:Hp) (D:ee) (i:Nat) (ys:eS V) (H:Hp):Prop where
 pv:Pv i ys
 same:Same H1 H
 at':H D=ak @X
 len:ys.length<=i
theorem Cs.put {L:Nat->eS V->Prop} {i:Nat} {ys:eS V} {v:V} {G:Hp} (f:H1 D=f') (s:Same H1 G) (e:G D=ak @X) (l:ys.length<=i) (hi:i < 16777216) (p:L @J @a8):
  G D=ak @X/\ys.length < kf/\Cs L H1 D @J @a8 (!a1 G @a8):=
 ⟨e,by rw[ix];omega,p,λb o h=>by rw[aH (aj h f)];exact s b o h,ay,by rw[fD];simpa using l⟩
theorem Cs.skip {L:Nat->eS V->Prop} {i:Nat} {ys:eS V} {G:Hp} (s:Same H1 G) (e:G D=ak @X) (l:ys.length<=i) (p:L @J ys):Cs L H1 D @J ys G:=⟨p,s,e,@A⟩
theorem Cs.zero {G:Nat->eS V->Prop} (f:H1 D=f') (p:G 0 []):Cs G H1 D 0 [] (!a1 H1 []):=⟨p,bj f,ay,oe _⟩
end
structure OH (K:b') (C:ee) (m:lA) (f:ee):Prop where
 ga:Wk K @a9 "__getattribute__"=ak (ak @dr)
 rd:ac1 K C @bS=true
 fd:ac4 K @a9 @bS m=ak (.val @a6)
 hd:YG @a6=true
 kp:Vk K @a6=true
section
variable {X:Cx} {CX:CXT} {k:Nat} {f C:ee} {fd:hM} {ps:C'} {sp:Sp} {dvs:eS V} {ds:E'} {E:XK} {x m:lA} {p pos apos:Pos} {e o:xo} {es:eS xo} {ta:TE} {t:TA}
theorem wB {pl:Sem US} (γ:Gl X x) (hx:X.mg x=ak @a9) (c:OH X.K C m f) (F:FnOk X.prog X.w X.K X.mg X.base CX k f fd ps sp) (β:!aX X.A) (hb:rn X.K fd ps ds) (hd:Vals dvs ds) (G:sN CX X E) (ha:PA X @V t)
  (O:(x == ("__debug__":lA))=false:=by decide) (Z:ov @V X.env=(false,eval e X.env)::ov es X.env:=by rfl) (L:(!aE pos es).any (·.1)=false:=by rfl)
  (ht:eval (!bh (!b2 p) m apos @V [] pos) X.env=(do
   let Y <-eval (!b2 p) X.env
   standAt apos.atName
   let (f,first) <-holding [Y] (getMethod Y m pl)
   callWith pos f first (!aE pos @V) (!bH pos [] X.env)):=by rfl):
  PE X (!bh (!b2 p) m apos @V [] pos) (Io sp dvs E t):=by
 intro pins s σ H Q I h;refine WZ (pl:=pl) (xx I γ hx ?_ O) ht;refine PySem.W.method_cls I.kIn c.ga (PySem.W.cls_value I.kIn c.rd c.fd c.hd ?_);have I1:=I.tok (s.toks + 1);refine WO (first:=[]) (h₀:=X.base) I1.ok.mod.kin c.kp (thn (ha pos pins _ σ H _ I1 h) λus δ ⟨vs,H2,I2,r,α⟩=>⟨I2.kIn,?_⟩) Z L;exact E4 (us:=us) (vs:=vs) F β hb hd G I2 r α
end
structure UH (K:b') (D:ee):Prop where
 cls:Cls K D
 ha:wb K @Z "__class__"=ak (ak @bu)
 hn:Wk K @bu "__get__"=ak (ak @dl)
 tk:YX K @bu=ak true
 hm:V' K D (!ai "object")=ak true
section
variable {X:Cx} {K:b'}
theorem aK {e:xo} {ta:TE} {f:lA} {pos:Pos} (h:X.K=K) (he:!E e ta) (hb:attributeBase e f X.env (!az e)=eval e X.env):!E (.Attribute e f pos) (tFld K ta f):=by subst h;exact Sa he hb
theorem cZ {o value:xo} {ta tv:TE} {f:lA} {pos pos':Pos} (h:X.K=K) (ha:!E o ta) (G:!E value tv) (hs:!cn (.Attribute o f pos')):PS X (.Assign [.Attribute o f pos'] value pos) (sFld K ta tv f):=by subst h;exact R3 ha G hs
theorem PE.or {e:xo} {t u:TE} (h:!E e t) (h':!E e u):!E e (fun σ H Q=>t σ H Q∨u σ H Q):=by
 intro pins s σ H Q I q;rcases q with q | q
 ·exact h pins s σ H Q I q
 ·exact h' pins s σ H Q I q
end
section
variable {σ:St} {H:Hp} {Q:VK} {D:Ends} {te tv ta:TE} {x y v:V}
def QG (K:b') (f:lA) (Q:VK) (x:V) (H:Hp):Prop:=∃a C dx fs v,x= .ref a/\H a=ak @aq/\Cls K C/\cI K C f/\fs.lookup f=ak v/\Q v H
theorem Ug {K:b'} {f:lA} (h:te σ H (QG K f Q)):tFld K te f σ H Q:=h
theorem aJ {K:b'} {f:lA} {p C dx:ee} {fs:@as} (e:!au @aq) (c:Cls K C) (n:cI K C f) (l:fs.lookup f=ak v) (h:Q v H):QG K f Q @P H:=⟨p,C,dx,fs,v,rfl,e,c,n,l,h⟩
structure Upd (H H':Hp) (p:ee) (o:HO):Prop where
 at':H' p=ak o
 oth:∀b u,b≠p->H b=ak u->H' b=ak u
 non:∀b,b≠p->H b=f'->H' b=f'
theorem Upd.of {H:Hp} {p:ee} {o:HO}:Upd H (!Y p o) p o:=⟨ay,λb u n h=>by rw[aH n];exact h,λb n h=>by rw[aH n];exact h⟩
def Tu (K:b') (f:lA) (y:V) (D:Ends) (σ:St) (x:V) (H:Hp):Prop:=∃a C dx fs,x= .ref a/\H a=ak @aq/\Cls K C/\cI K C f/\fs.length < 1000/\D.nx σ (!Y a (!aH (putF f y fs)))
theorem Mr {K:b'} {f:lA} (h:tv σ H λy H1=>te σ H1 (Tu K f y D σ)):sFld K te tv f D σ H:=h
theorem cW {K:b'} {f:lA} {p C dx:ee} {fs fs':@as} (e:!au @aq) (c:Cls K C) (n:cI K C f) (l:fs.length < 1000) (G:putF f y fs=fs') (h:∀H2,Upd H H2 p (!aH fs')->D.nx σ H2):
  Tu K f y D σ @P H:=⟨p,C,dx,fs,rfl,e,c,n,l,by rw[G];exact h _ Upd.of⟩
def OG (C:ee) (sp:Sp) (E:XK) (Q:VK) (vs:eS V) (H:Hp):Prop:=∀x dx,H x=f'->H dx=f'->dx≠x->sp (.ref x::(vs++[])) (upd (!Y dx (.own x)) x @b9) (!ci x) E
theorem Rq {C:ee} {sp:Sp} {E:XK} {tr:TA} (h:tr σ H (OG C sp E Q)):QZ C sp [] E tr σ H Q:=h
theorem Ms {C:ee} {sp:Sp} {E:XK} {vs:eS V} (h:∀x dx H2,H x=f'->Same H H2->H2 x=ak @b9->sp (.ref x::vs) H2 (!ci x) E):OG C sp E Q vs H:=by
 intro x dx G L n;rw[UY];exact h x dx _ G (λb o e=>by rw[aH (!L G),aH (!L L)];exact e) ay
theorem Upd.same {G H2:Hp} {p:ee} {o:HO} (u:Upd H H2 p o) (f:G p=f') (s:Same G H):Same G H2:=λb q e=>u.oth b q (!L f) (s b q e)
theorem Upd.trans {H2 G:Hp} {p:ee} {o o':HO} (u:Upd H H2 p o) (w:Upd H2 G p o'):Upd H G p o':=⟨w.at',λb q n e=>w.oth b q n (u.oth b q n e),λb n e=>w.non b n (u.non b n e)⟩
end
theorem Inv.laidCh {X:Cx} {pins:Dn} {σ:St} {H:Hp} {s:kb} {h':zx} {a:ee} {o:HO} {t':Nat} {ch:M'} (I:@N) (k:∀b u,b∉ch->s.heap.get? b=ak u->h'.get? b=ak u) (O:@d6)
  (L:ip X.prog X.w (!Y a o) h' a o) (fp:∀b∈ch,FpOk X pins H b):Inv X pins σ (!Y a o) {s with heap:=h',toks:=t'}:=by
 have fr:H a=none:=I.hok.fresh O;have β:∀b u,H b=ak u->b∉ch:=λb u e z=>by rw[(fp b z).1] at e;cases e
 refine I.step (g':=s.gens) (d':=s.drawn) (ch:=ch) (λb hb=>?_) (λb ob _ _ G e _=>k b ob G e) @dD (λb ob _ e n=>?_) (λb ob G e=>⟨ob,k b ob G e⟩)
  (λb xs e=>by rw[aH (!L fr)];exact e) (λb ob u e=>by rw[aH (!L fr)];exact e) (λb ps e=>⟨#[],by rw[aH (!L fr),e];simp⟩) (λm hm=>?_) (λb u e=>?_) I.bare
 ·obtain⟨ε,Z,α,δ,Y,ξ⟩:=fp b hb;exact⟨δ,Z,Y,ξ⟩
 ·rw[aH (u' (fy @aH O))];exact n
 ·obtain⟨ob,es,ep,ho,r⟩:=hm;exact⟨ob,es,ep,k _ ob (λz=>(fp _ z).2.1 rfl) ho,r⟩
 ·by_cases hb:b=a
  ·subst hb;rw[ay] at e;cases e;exact L
  ·rw[aH hb] at e;refine(I.hok b u e).stay (λc v G q=>k c v ?_ q) (λc q=>by rw[aH (aj q fr)];exact q) λc xs q=>by rw[aH (aj q fr)];exact q
   rcases G with z | z
   ·rw[z];exact β b u e
   ·exact β c _ z
theorem Inv.turnedCh {X:Cx} {pins:Dn} {σ:St} {H:Hp} {s:kb} {h':zx} {t':Nat} {ch:M'} (I:@N) (k:∀b u,b∉ch->s.heap.get? b=ak u->h'.get? b=ak u)
  (fp:∀b∈ch,FpOk X pins H b):Inv X pins σ H {s with heap:=h',toks:=t'}:=by
 have β:∀b u,H b=ak u->b∉ch:=λb u e z=>by rw[(fp b z).1] at e;cases e
 refine I.step (g':=s.gens) (d':=s.drawn) (ch:=ch) (λb hb=>?_) (λb ob _ _ G e _=>k b ob G e) @dD (λb ob _ e n=>n) (λb ob G e=>⟨ob,k b ob G e⟩)
  (λb xs e=>e) (λb ob u e=>e) (λb ps e=>⟨#[],by rw[e];simp⟩) (λm hm=>?_) (λb u e=>?_) I.bare
 ·obtain⟨ε,O,Y,δ,L,ξ⟩:=fp b hb;exact⟨δ,O,L,ξ⟩
 ·obtain⟨ob,es,ep,ho,r⟩:=hm;exact⟨ob,es,ep,k _ ob (λz=>(fp _ z).2.1 rfl) ho,r⟩
 ·refine(I.hok b u e).stay (λc v G q=>k c v ?_ q) (λc q=>q) λc xs q=>q;rcases G with z | z
  ·rw[z];exact β b u e
  ·exact β c _ z
noncomputable def Ite (K:b') (a:ee):It:=
 ⟨λi H=>∃xs x,SqL K H a xs/\xs[i]? =ak x,λi H x H'=>∃p v,H p=f'/\x= .ref p/\H'=upd H p (!G [.int i,v])/\∀xs,SqL K H a xs->xs[i]? =ak v,λi H=>∃xs,SqL K H a xs/\xs.length=i⟩
noncomputable def Itz (x:lA):It:=⟨λi _=>i < x.cps.size,λi H v H'=>∃p c,H p=f'/\v= .ref p/\H'=upd H p (!G [.int i,.str ⟨#[c]⟩])/\x.cps[i]? =ak c,λi _=>i=x.cps.size⟩
theorem Bg:(2:Nat)<=sizeLine:=by rw[ix];decide
theorem zf {P:pT} {w:z0} {K:b'} {η:eS xo} {k:Nat} {pos:Pos} (a e α:ee) (β:e≠α):
  Turn P w K (.Tuple η k pos) (Ite K a) [e,α] e (λi h=>(∃O,IsEnum h e α i O)/\h.IsListIter α a i) where
 mem:=by simp
 obj:=λi h st b hb=>by
  obtain⟨⟨O,he⟩,⟨o,ho,υ,hd⟩⟩:=st;rcases qq.mp hb with z | z
  ·subst z;exact⟨_,he,λv z=>by cases z⟩
  ·rw[gs.mp z];exact⟨o,ho,λv z=>by rw[hd] at z;cases z⟩
 keep:=λi h h' st k=>⟨let ⟨O,he⟩:=st.1;⟨O,k e @C _ he⟩,st.2.at λo z=>k α @C o z⟩
 item:=by
  intro X ω hw hK υ i pins s σ H E I hf st φ;subst ω hw hK;obtain⟨xs,x,τ,ρ⟩:=φ;obtain⟨its,π,p,hz⟩:=I.list τ;obtain⟨⟨O,he⟩,hl⟩:=st
  have ξ:a≠α:=λz=>by
   obtain⟨o,ho,ν,_⟩:=hl;obtain⟨o',n,ι,Y,_⟩:=p;rw[z,ho] at ι;cases ι;rw[ν] at Y;exact hF Y @D
  have ο:a≠e:=λz=>by
   obtain⟨o',n,ι,Y,_⟩:=p;rw[z,he] at ι;cases ι;exact hF (show Xp "enumerate"= .type "list" from Y) @D
  have W:=Wl (prog:=X.prog) (w:=X.w) (A:=X.A) (Draws.list (A:=X.A.in1) (I.ok.hd υ) α a ξ its.toArray) e β (by simp[β,ro ο]) @C;have hi:i < its.toArray.size:=by have:=π.length;have:=(!M ρ).1;simp;omega
  refine W.item i s _ _ hi ⟨⟨O,he⟩,hl,p.isList⟩ λT a3 h' tk ψ hT δ ε hk=>⟨_,rfl,W.go η k pos i T _ _ _ ε λa0 Z L=>?_⟩;obtain⟨t,θ,G,rfl⟩:=ψ;have χ:=W.apart i T h' ε
  have ru:RelV x θ:=by
   obtain⟨u,hu,r⟩:=π.get ρ;have γ:its[i]? =ak θ:=by simpa using G
   rw[hu] at γ;cases γ;exact r
  have ζ:∀b u,b∉[e,α]->s.heap.get? b=ak u->a0.get? b=ak u:=λb u hb q=>L b u hb (hk b u hb q);have fr:H T=none:=I.hok.fresh hT;refine⟨!j T,!Y T @cq,I.laidCh (t':=tk) ζ hT ⟨Bg,[.int i t,θ],.cons ⟨t,rfl⟩ (!bf ru),?_⟩ hf,rfl,⟨T,x,fr,rfl,rfl,λys hy=>by rw[I.list_inj hy τ];exact ρ⟩,⟨Z.1,Z.2.1⟩,λb hb=>?_⟩
  ·obtain⟨o,ho,r⟩:=δ;exact⟨o,L T o χ ho,r⟩
  ·have fb:=(hf b hb);rw[aH (λz=>?_)]
   ·exact fb.1
   ·have lt:b < s.heap.objs.size:=by
     rcases qq.mp hb with z | z
     ·subst z;exact ib he
     ·rw[gs.mp z];obtain⟨o,ho,_⟩:=hl;exact ib ho
    rw[z] at lt;exact hF (fy lt hT) (VJ _)
 done:=by
  intro X ω hw hK υ i pins s σ H E I hf st φ;subst ω hw hK;obtain⟨xs,τ,ρ⟩:=φ;obtain⟨its,π,p,hz⟩:=I.list τ;obtain⟨⟨O,he⟩,hl⟩:=st
  have ξ:a≠α:=λz=>by
   obtain⟨o,ho,ν,_⟩:=hl;obtain⟨o',n,ι,Y,_⟩:=p;rw[z,ho] at ι;cases ι;rw[ν] at Y;exact hF Y @D
  have ο:a≠e:=λz=>by
   obtain⟨o',n,ι,Y,_⟩:=p;rw[z,he] at ι;cases ι;exact hF (show Xp "enumerate"= .type "list" from Y) @D
  have W:=Wl (prog:=X.prog) (w:=X.w) (A:=X.A) (Draws.list (A:=X.A.in1) (I.ok.hd υ) α a ξ its.toArray) e β (by simp[β,ro ο]) @C;have hn:its.toArray.size=i:=by have:=π.length;simp;omega
  subst hn;exact W.done s _ _ ⟨⟨O,he⟩,hl,p.isList⟩ λh' tk hk=>⟨rfl,I.turnedCh hk hf⟩
 self:=λ_ _ _ _ _ st h=>let ⟨_,he⟩:=st.1;W9 he h
theorem FW {P:pT} {w:z0} {K:b'} {γ:eS xo} {k:Nat} {pos:Pos} {x:lA} {t:Tok} {n:U'} (e α:ee) (ι:e≠α)
  (D:∀A:xY,A.handled=f'->Draws P w A α [α] x.cps.size (λi v=>∃c u,x.cps[i]? =ak c/\v= .str ⟨#[c]⟩ u) (λi h=>h.IsStrIter α n x t i)):
  Turn P w K (.Tuple γ k pos) (Itz x) [e,α] e (λi h=>(∃O,IsEnum h e α i O)/\h.IsStrIter α n x t i) where
 mem:=by simp
 obj:=λi h st b hb=>by
  obtain⟨⟨O,he⟩,⟨o,ho,η,hd⟩⟩:=st;rcases qq.mp hb with z | z
  ·subst z;exact⟨_,he,λv z=>by cases z⟩
  ·rw[gs.mp z];exact⟨o,ho,λv z=>by rw[hd] at z;cases z⟩
 keep:=λi h h' st k=>⟨let ⟨O,he⟩:=st.1;⟨O,k e @C _ he⟩,let ⟨o,ho,r⟩:=st.2;⟨o,k α @C o ho,r⟩⟩
 item:=by
  intro X ο hw π η i pins s σ H E I hf st ε;subst ο hw π;obtain⟨⟨O,he⟩,hl⟩:=st;have W:=Wl (prog:=X.prog) (w:=X.w) (A:=X.A) (D X.A.in1 (I.ok.hd η)) e ι (by simp[ι]) @C;refine W.item i s _ _ ε ⟨⟨O,he⟩,hl⟩ λT τ h' tk ξ hT δ β hk=>⟨_,rfl,W.go γ k pos i T _ _ _ β fun ρ Z L=>?_⟩;obtain⟨Y,θ,⟨c,u,G,rfl⟩,rfl⟩:=ξ;have ν:=W.apart i T h' β;have ζ:∀b u,b∉[e,α]->s.heap.get? b=ak u->ρ.get? b=ak u:=λb u hb q=>L b u hb (hk b u hb q);have fr:H T=none:=I.hok.fresh hT;refine⟨!j T,!Y T (!G [.int i,.str ⟨#[c]⟩]),I.laidCh (t':=tk) ζ hT ⟨Bg,[.int i Y,.str ⟨#[c]⟩ u],.cons ⟨Y,rfl⟩ (!bf ⟨u,rfl⟩),?_⟩ hf,rfl,⟨T,c,fr,rfl,rfl,G⟩,⟨Z.1,Z.2⟩,λb hb=>?_⟩
  ·obtain⟨o,ho,r⟩:=δ;exact⟨o,L T o ν ho,r⟩
  ·have υ:=(hf b hb);rw[aH (λz=>?_)]
   ·exact υ.1
   ·have lt:b < s.heap.objs.size:=by
     rcases qq.mp hb with z | z
     ·subst z;exact ib he
     ·rw[gs.mp z];obtain⟨o,ho,_⟩:=hl;exact ib ho
    rw[z] at lt;exact hF (fy lt hT) (VJ _)
 done:=by
  intro X ο hw π η i pins s σ H E I hf st ε;subst ο hw π;obtain⟨⟨O,he⟩,hl⟩:=st;have W:=Wl (prog:=X.prog) (w:=X.w) (A:=X.A) (D X.A.in1 (I.ok.hd η)) e ι (by simp[ι]) @C;have ε:i=x.cps.size:=ε;subst ε;exact W.done s _ _ ⟨⟨O,he⟩,hl⟩ λh' tk hk=>⟨rfl,I.turnedCh hk hf⟩
 self:=λ_ _ _ _ _ st h=>let ⟨_,he⟩:=st.1;W9 he h
noncomputable def SN (K:b') (tl:TE):TI:=fun σ H R=>tl σ H λx H1=>(∃a,x= .ref a/\(∃xs,SqL K H1 a xs)/\R (Ite K a) H1)∨∃z,x= .str z/\R (Itz z) H1
section
variable {X:Cx} {K:b'}
theorem DJ {l:xo} {tl:TE} {Y:eS xo} {k:Nat} {tpos p pos:Pos} (h:X.K=K) (β:Gl X "enumerate") (hm:X.mg "enumerate"=f') (hl:!E l tl) (hs:ov [l] X.env=[(false,eval l X.env)]:=by rfl):
  PI X (.Tuple Y k tpos) (!aP "enumerate" p [l] [] pos) (SN K tl):=by
 subst h;intro pins s σ H R I h;refine ZV (nK I β hm boot_enumerate (vu (thn (aa hl af hs pos pins s σ H (λvs H1=>match vs with | [x]=>(∃a,x= .ref a/\(∃xs,SqL X.K H1 a xs)/\R (Ite X.K a) H1)∨∃z,x= .str z/\R (Itz z) H1 | _=>False) I h) λus L ⟨vs,H1,I1,ζ,G⟩=>?_) hs rfl))
 match vs,ζ,G with
 | [x],ζ,G=>
 obtain⟨u,rfl,Z⟩:=ζ.one;rcases G with ⟨a,rfl,⟨xs,α⟩,q⟩ | ⟨z,rfl,q⟩
 ·cases Z;obtain⟨its,γ,pl,hz⟩:=I1.list α;refine af5 pl.isList λh' he η hsz hk=>W9 he ?_;refine⟨L.heap.objs.size + 1,[L.heap.objs.size + 1,L.heap.objs.size],_,_,H1,rfl,@cH,zf a _ _ (Vr (VP _)),⟨⟨_,he⟩,η⟩,λb hb=>?_,q⟩;have O:L.heap.objs.size<=b:=(qq.mp hb).elim (λz=>by rw[z];exact Yz _) (λz=>by rw[gs.mp z];exact oe _);exact !bA O O
 ·obtain⟨t,rfl⟩:=Z;refine call_enumerate_str λh' he η hsz hk=>W9 he ?_
  have fin:∀n,(h'.IsStrIter L.heap.objs.size n z t 0)->(∀A:xY,A.handled=f'->Draws X.prog X.w A L.heap.objs.size [L.heap.objs.size] z.cps.size (λi v=>∃c u,z.cps[i]? =ak c/\v= .str ⟨#[c]⟩ u) (λi h=>h.IsStrIter L.heap.objs.size n z t i))->
    PIE X pins σ (.Tuple Y k tpos) R (!j (L.heap.objs.size + 1)) {L with heap:=h'}:=λn hn D=>by
   refine⟨L.heap.objs.size + 1,[L.heap.objs.size + 1,L.heap.objs.size],_,_,H1,rfl,@cH,FW _ _ (Vr (VP _)) D,⟨⟨_,he⟩,hn⟩,λb hb=>?_,q⟩;have O:L.heap.objs.size<=b:=(qq.mp hb).elim (λz=>by rw[z];exact Yz _) (λz=>by rw[gs.mp z];exact oe _);exact !bA O O
  unfold strIterType at η;split at η
  ·exact fin _ η λA ψ=>Draws.strAscii ψ _ z t
  ·exact fin _ η λA ψ=>Draws.strWide ψ _ z t
end
theorem vL {K:b'} {a:ee} {xs:eS V} {g:TG} {tb:TS} {D:Ends} {σ:St} {H:Hp} (G:Nat->St->Hp->Prop) (h0:G 0 σ H) (hl:∀i σ H,i<=xs.length->G i σ H->SqL K H a xs)
  (hs:∀i x σ H p H',xs[i]? =ak x->G i σ H->H p=f'->Same H H'->H' p=ak @cq->g @P σ H' λL H2=>tb {D with nx:=G @J,ct:=G @J,bk:=D.nx} L H2) (hd:∀σ H,G xs.length σ H->D.nx σ H):
  ∃W:Nat->Nat->St->Hp->Prop,(∃m,W 0 m σ H)/\∀i m σ H,W i m σ H->
    (!cf (Ite K a))∨((Ite K a).go i H/\∃N:St->Hp->Prop,(∀σ' H',N σ' H'->∃ν,ν < m/\W @J ν σ' H')/\∀x H',(Ite K a).yld i H x H'->g x σ H' λL H2=>tb {D with nx:=N,ct:=N,bk:=D.nx} L H2):=by
 refine⟨λi m σ H=>m=xs.length - i/\i<=xs.length/\G i σ H,⟨xs.length,@C,Vh _,h0⟩,?_⟩;rintro i m σ H ⟨rfl,hi,p⟩;have q:=hl i σ H hi p;by_cases O:i < xs.length
 ·refine !F ⟨⟨xs,xs[i],q,by simp[O]⟩,G @J,fun σ' H' ε=>⟨xs.length - @J,by omega,rfl,O,ε⟩,λx H' y=>?_⟩;obtain⟨r,v,f,Z,Y,y⟩:=y;subst Z Y;exact hs i v σ H r _ (y xs q) p f (bj f) ay
 ·have e:i=xs.length:=by omega
  subst e;exact !J ⟨⟨xs,q,rfl⟩,hd σ H p⟩
section
variable {σ:St} {H:Hp} {te:TE} {R:It->Hp->Prop}
theorem Pu {K:b'} (h:te σ H λx H1=>(∃a,x= .ref a/\(∃xs,SqL K H1 a xs)/\R (Ite K a) H1)∨∃z,x= .str z/\R (Itz z) H1):SN K te σ H R:=h
end
noncomputable def N3:V->eS V->Hp->VK->Prop:=λx xs H Q=>∃z y,x= .str z/\xs=[.str y]/\y.length≠0/\z.length + 2<=kf/\∀D,H D=f'->Q @Z (!a1 H (!bz (W3 z y)))
theorem Be:∀(ss:C') (n:Nat),Vals (ss.map V.str) (strsFrom n ss)
 | [],_=> .nil
 | x::r,n=> .cons ⟨n,rfl⟩ (Be r (n + 1))
section
variable {X:Cx}
theorem An:MtR X "str.split" N3:=by
 intro pins s σ H x xs v us Q I O rs h;obtain⟨z,y,rfl,rfl,L,hz,q⟩:=h;obtain⟨t,rfl⟩:=O;obtain⟨u,rfl,Y⟩:=vT rs;obtain⟨t',rfl⟩:=Y;have L:(y.length == 0)=false:=vr.mpr L;have ο:=split_le z y;have fr:=I.hok.fresh (oe s.heap.objs.size)
 have G:W3 z y=[z]->EP X pins σ Q @aS {s with heap:=s.heap.push {cls:= .type "list",data:= .seq [YT z t].toArray}}:=λe=>
  ⟨@aS,_,I.laid (t':=s.toks) (o:= .lst (!bz (W3 z y))) (λb o e=>gB _ e) @Y ⟨by rw[aI];omega,[.str z t],0,by rw[e];exact .cons ⟨t,rfl⟩ .nil,mc _ rfl⟩,rfl,q _ fr⟩
 cases h1:(decide (z.length < y.length)||decide (Zr z < Zr y)) with
 | true=>exact X1 F.slot_str_split (Z8 _ _ _) F.entry_str_split (F.args_str_split_2 _ _) (meets_str_split_cannot_occur z y t t' h1) (G (oL h1))
 | false=>
   cases hf:(Xr z y 0 z.length (z.length + 1)).isEmpty with
   | true=>exact X1 F.slot_str_split (Z8 _ _ _) F.entry_str_split (F.args_str_split_2 _ _) (meets_str_split_not_found z y t t' h1 L hf) (G ((mu (YW h1)).trans (oL hf)))
   | false=>
     have e:W3 z y=Builtin.Str.partsBetween z (Xr z y 0 z.length (z.length + 1)) y.length:=(mu (YW h1)).trans (mu (YW hf));refine X1 F.slot_str_split (Z8 _ _ _) F.entry_str_split (F.args_str_split_2 _ _) (meets_str_split_sep z y t t' h1 L hf @A (by rw[<-e];omega)) ?_;refine⟨@aS,_,I.laid (λb o e=>gB _ e) @Y (o:= .lst (!bz (W3 z y))) ⟨by rw[aI];omega,_,0,?_,mc _ rfl⟩,rfl,q _ fr⟩;rw[e];exact Be _ _
end
section
variable {σ:St} {H:Hp} {Q:VK} {D:Ends} {te ty tv td:TE} {x y v:V}
theorem DA {z w:lA} (hw:w.length≠0) (hz:z.length + 2<=kf) (h:∀p H2,H p=f'->Same H H2->H2 p=ak (!bd (W3 z w))->Q @P H2):N3 @ao [.str w] H Q:=⟨z,w,rfl,rfl,hw,hz,jY h⟩
theorem fX {l:ee} {xs:eS V} (e:@bC) (hz:xs.length < kf) (h:∀H2,Upd H H2 l (!A (xs++[y]))->Q .non H2):Jk @aA [y] H Q:=⟨l,xs,y,rfl,rfl,e,hz,h _ Upd.of⟩
def Lo (v:V) (x:V) (D:Ends) (σ:St) (y:V) (H:Hp):Prop:=∃a G,x= .ref a/\DPut H a y v G/\D.nx σ G
theorem RB (h:tv σ H λv H1=>td σ H1 λx H2=>ty σ H2 (Lo v x D σ)):RJ td ty tv D σ H:=h
theorem qG {p:ee} {kvs:@ak} {z:lA} (e:!au @ah) (hl:kvs.length < kf) (h:∀H2,Upd H H2 p (.dK (putK kvs @aK v))->D.nx σ H2):Lo v @P D σ @ao H:=⟨p,_,rfl,DPut.k (k:=v3 z) e hl,h _ Upd.of⟩
theorem Pz {p:ee} {kvs:@ak} {z:Int} (e:!au @ah) (hl:kvs.length < kf) (h:∀H2,Upd H H2 p (.dK (putK kvs (V8 z) v))->D.nx σ H2):Lo v @P D σ (.int z) H:=⟨p,_,rfl,DPut.k (k:=V8 z) e hl,h _ Upd.of⟩
def Lq (x:V) (Q:VK) (y:V) (H:Hp):Prop:=∃a v,x= .ref a/\DGet H a y @aC/\Q v H
theorem RF (h:td σ H λx H1=>ty σ H1 (Lq x Q)):Q0 td ty σ H Q:=h
theorem tD {p:ee} {kvs:@ak} {z:lA} (e:!au @ah) (l:valV kvs @aK=ak v) (h:Q v H):Lq @P Q @ao H:=⟨p,v,rfl,by rw[<-l];exact DGet.k (k:=v3 z) e,h⟩
theorem Ja {p:ee} {kvs:@ak} {z:Int} (e:!au @ah) (l:valV kvs (V8 z)=ak v) (h:Q v H):Lq @P Q (.int z) H:=⟨p,v,rfl,by rw[<-l];exact DGet.k (k:=V8 z) e,h⟩
def OF (C:ee) (m:lA) (sp:Sp) (E:XK) (tr:TA) (σ:St) (Q:VK) (x:V) (H:Hp):Prop:=∃a dx fs,x= .ref a/\H a=ak @aq/\fs.lookup m=f'/\tr σ H λvs H2=>sp (x::(vs++[])) H2 Q E
theorem Ro {C:ee} {m:lA} {sp:Sp} {E:XK} {tr:TA} (h:te σ H (OF C m sp E tr σ Q)):OX C m sp [] E te tr σ H Q:=h
theorem aP {C dx p:ee} {m:lA} {fs:@as} {sp:Sp} {E:XK} {tr:TA} (e:!au @aq) (l:fs.lookup m=f') (h:tr σ H λvs H2=>sp (.ref p::vs) H2 Q E):OF C m sp E tr σ Q @P H:=⟨p,dx,fs,rfl,e,l,by simp only[UY];exact h⟩
theorem Pr {K:b'} {p:ee} {xs:eS V} (e:SqL K H p xs) (h:∀q H2,H q=f'->Same H H2->H2 q=ak @al->Q (!j q) H2):DC K @bf H Q:=⟨p,xs,rfl,!J e,jY h⟩
theorem Pq {K:b'} {p:ee} {xs:eS V} (e:SqT K H p xs) (h:∀q H2,H q=f'->Same H H2->H2 q=ak @al->Q (!j q) H2):DC K @bf H Q:=⟨p,xs,rfl,!F e,jY h⟩
theorem Rf {K:b'} {p:ee} {xs:eS V} (e:SqL K H p xs) (h:∀q H2,H q=f'->Same H H2->H2 q=ak @ax->Q (!j q) H2):Ji K @bf H Q:=⟨p,xs,rfl,!J ⟨e,jY h⟩⟩
theorem Re {K:b'} {p:ee} {xs:eS V} (e:SqT K H p xs) (h:Q @P H):Ji K @bf H Q:=⟨p,xs,rfl,!F ⟨e,h⟩⟩
end
def Mv (ch fr:M') (h h':zx):Prop:=(∀b o,b∉ch->b∉fr->h.get? b=ak o->h'.get? b=ak o)/\∀b o,b∉ch->b∈fr->h.get? b=ak o->∃L,h'.get? b=ak {o with slots:=L}
def Ln (h:zx) (e:ee) (C:kk) (dx:Q') (T:qE (ee×kk)):Prop:=
 ∃ε vs,h.get? e=ak ε/\ε.cls=C/\ε.dict=dx/\ε.data= .fields vs/\1 < vs.size/\
   match T with
   | none=>vs[1]? =ak .none
   | some (t,G)=>vs[1]? =ak @a5/\t≠e/\∃ξ ts,h.get? t=ak ξ/\ξ.data= .fields ts/\ts[3]? =ak G
section
variable {M:Model} {A:xY} {E:D'} {s:kb}
theorem Cb {h:zx} {a:ee} {o:Zs} {vs:G'} {i:Nat} {v:kk} (ho:h.get? a=ak o) (hd:o.data= .fields vs):
  ∃o',(h.update a (WQ (·.setIfInBounds i v))).get? a=ak o'/\o'.cls=o.cls/\o'.dict=o.dict/\o'.data= .fields (vs.setIfInBounds i v):=by
 have γ:=YH hd (·.setIfInBounds i v);refine⟨_,Vb (WQ (·.setIfInBounds i v)) ho (aa3 γ),ae0 _ _,?_,γ⟩;obtain⟨c,d,G,L⟩:=o;have hd:G= .fields vs:=hd;subst hd;rfl
theorem Ng {base:zx} {env:Env} {outer:@aG} {L e:ee} {ε:Zs} {vs:G'} {Y:kk} {b:US} {Q:L'}
  (η:A.frames=ak (env::outer)) (hl:s.heap.FunFrames base (env::outer)) (hf:env.frame=ak L) (he:s.heap.get? e=ak ε) (hd:ε.data= .fields vs) (hsz:1 < vs.size)
  (h:∀h',Mv [e] (frs (env::outer)) s.heap h'->Ln h' e ε.cls ε.dict (ak (s.heap.objs.size,rawInt L))->Q () {s with heap:=h'}):
  lT M A (do let a <-frameOf env;let pl <-entryPlaceOf L b;let t <-Y8 Y a .none (rawInt L) .none pl;setField (!j e) 1 t) Q E s:=by
 have ne:e∉frs (env::outer):=λhm=>by
  obtain⟨_,o,ho,ζ⟩:=hl.mem hm;rw[he] at ho;cases ho;exact ζ vs hd
 refine gn (wpAny_frameOf_fun η hl hf λg1 δ=>?_);refine gn (wpAny_entryPlaceOf λpl Z=>?_);unfold Y8 newFields;refine gn (Y5 ?_ (Z.sizeOk5 _ _ _ _ _));have ξ:g1.get? e=ak ε:=(δ.2.1 e ne).trans he;have sz:g1.objs.size=s.heap.objs.size:=δ.1;generalize α:({cls:= .type "traceback",dict:=f',data:= .fields ([Y,.ref L,.none,rawInt L,.none]++(if pl.isEmpty then hC 6 V5 else pl)).toArray}:Zs)=ob;have ν:(g1.push ob).get? e=ak ε:=gB ob ξ;refine XQ ν hd hsz ?_;have lt:e < g1.objs.size:=ib ξ;obtain⟨o',G,ρ,π,γ⟩:=Cb (i:=1) (v:= .ref g1.objs.size) ν hd;have oth:∀c,c≠e->((g1.push ob).update e (WQ (·.setIfInBounds 1 (p' g1.objs.size)))).get? c=(g1.push ob).get? c:=λc θ=>U9 _ _ (ro θ);have O:∀c o,c≠e->g1.get? c=ak o->((g1.push ob).update e (WQ (·.setIfInBounds 1 (p' g1.objs.size)))).get? c=ak o:=λc o θ q=>(oth c θ).trans (gB ob q);refine h _ ⟨λc o n m q=>O c o (λz=>n (by rw[z];exact gs.mpr rfl)) ((δ.2.1 c m).trans q),λc o n m q=>?_⟩ ⟨o',_,G,ρ,π,γ,by simpa using hsz,?_⟩
 ·obtain⟨ο,β⟩:=δ.2.2 c o q;exact⟨ο,O c _ (λz=>n (by rw[z];exact gs.mpr rfl)) β⟩
 ·have ι:g1.objs.size≠e:=Vr lt;refine⟨by rw[<-sz];simp[hsz],by rw[<-sz];exact ι,ob,_,?_,by rw[<-α],?_⟩
  ·rw[<-sz,oth _ ι];exact mc g1 (by rw[<-α];rfl)
  ·first | (simp;done) | (rcases Z with rfl | ⟨_,_,_,_,_,_,_,rfl⟩<;>simp)
theorem Kz {e t:ee} {C:kk} {dx:Q'} {Z:kk} {fr:Q'} {Q:L'} (x:Ln s.heap e C dx (ak (t,Z)))
  (h:∀h',(∀b o,b≠t->s.heap.get? b=ak o->h'.get? b=ak o)->Ln h' e C dx (ak (t,fr.elim .none λf=>rawInt f))->Q () {s with heap:=h'}):lT M A (setFlight (!j e) fr) Q E s:=by
 obtain⟨ε,vs,he,O,α,hd,hsz,h1,L,ξ,ts,hT,ο,Y⟩:=x;unfold setFlight;refine gn (Vn he hd h1 ?_);rw[oL (show(p' t != V5)=true from by simp)];refine XQ hT ο (VT.mp Y).1 ?_;obtain⟨o',G,δ,β,γ⟩:=Cb (i:=3) (v:=fr.elim .none λf=>rawInt f) hT ο;have oth:∀c,c≠t->(!bv t (WQ (·.setIfInBounds 3 (fr.elim V5 λf=>rawInt f)))).get? c=s.heap.get? c:=λc O=>U9 _ _ (ro O);refine h _ (λb o hb q=>(oth b hb).trans q) ⟨ε,vs,(oth e (ro L)).trans he,O,α,hd,hsz,h1,L,o',_,G,γ,?_⟩;have:=(VT.mp Y).1;simp[this]
end
section
variable {X:Cx} {pins:Dn} {σ:St} {H:Hp} {s:kb}
theorem Inv.mv {h':zx} {ch:M'} (I:@N) (m:Mv ch (frs X.stack) s.heap h') (fp:∀b∈ch,FpOk X pins H b):Inv X pins σ H {s with heap:=h'}:=by
 have β:∀b u,H b=ak u->b∉ch:=λb u e z=>by rw[(fp b z).1] at e;cases e
 have O:∀b u,H b=ak u->b∉frs X.stack:=λb u e z=>by rw[I.stkFree b z] at e;cases e
 have any:∀b o,b∉ch->s.heap.get? b=ak o->∃L,h'.get? b=ak {o with slots:=L}:=λb o n e=>by
  by_cases z:b∈frs X.stack
  ·exact m.2 b o n z e
  ·exact⟨o.slots,m.1 b o n z e⟩
 refine I.step (g':=s.gens) (d':=s.drawn) (t':=s.toks) (ch:=ch) (λb hb=>?_) (λb ob υ hb G e _=>m.1 b ob G (λz=>(qq.mp (I.stkSub b z)).elim υ hb) e) (λb ob _ _ G e _=>any b ob G e) (λb ob _ e n=>n) (λb ob G e=>let ⟨L,q⟩:=any b ob G e;⟨_,q⟩)
  (λb xs e=>e) (λb ob u e=>e) (λb ps e=>⟨#[],by rw[e];simp⟩) (fun ν hm=>?_) (λb u e=>?_) I.bare
 ·obtain⟨ε,Z,α,δ,Y,ξ⟩:=fp b hb;exact⟨δ,Z,Y,ξ⟩
 ·obtain⟨ob,es,ep,ho,r⟩:=hm;obtain⟨L,q⟩:=any _ ob (λz=>(fp _ z).2.1 rfl) ho;exact⟨_,es,ep,q,r⟩
 ·refine(I.hok b u e).stay (λc v G q=>m.1 c v ?_ ?_ q) (λc q=>q) λc xs q=>q
  ·rcases G with z | z
   ·rw[z];exact β b u e
   ·exact β c _ z
  ·rcases G with z | z
   ·rw[z];exact O b u e
   ·exact O c _ z
theorem ip.there {P:pT} {w:z0} {h:zx} {a:ee} {o:HO} (x:ip P w H h a o):∃o',h.get? a=ak o':=by
 cases o with
 | lst xs=>obtain⟨_,_,_,_,e⟩:=x;exact⟨_,e⟩
 | tup xs=>obtain⟨_,_,_,_,e,_⟩:=x;exact⟨_,e⟩
 | dK kvs=>obtain⟨_,_,_,_,o,_,_,e,_⟩:=x;exact⟨_,e⟩
 | dT kvs=>obtain⟨_,_,_,_,o,_,_,e,_⟩:=x;exact⟨_,e⟩
 | set S n=>obtain⟨o,_,_,_,e,_⟩:=x;exact⟨_,e⟩
 | ins C dx fs=>obtain⟨_,_,_,e,_⟩:=x;exact⟨_,e⟩
 | own y=>obtain⟨_,e⟩:=x;exact⟨_,e⟩
 | xd fs=>obtain⟨_,⟨_,_,_,e,_⟩,_⟩:=x;exact⟨_,e⟩
 | rng lo hi=>obtain⟨_,_,_,e⟩:=x;exact⟨_,e⟩
 | frz ob u=>obtain⟨e,_⟩:=x;exact⟨_,e⟩
 | tbl ps=>exact⟨_,(show h.get? a=ak _ from x)⟩
 | met f y=>exact⟨_,(show h.get? a=ak _ from x)⟩
 | ext φ=>obtain⟨_,⟨_,e⟩,_⟩:=x;exact⟨_,e⟩
theorem HOk.none_ {P:pT} {w:z0} {h:zx} {a:ee} (x:HOk P w H h) (e:h.get? a=f'):H a=none:=by
 cases q:H a with
 | none=>rfl
 | some u=>obtain⟨o,z⟩:=(x a u q).there;rw[e] at z;cases z
def FpN (X:Cx) (pins:Dn) (H:Hp) (b:ee):Prop:=
 H b=f'/\b≠X.env.locals/\b∉X.fs/\(b∈X.ex∨X.s₀.heap.get? b=f')/\(∀x c,X.env.cells.lookup x=ak c->c≠b)/\∀p∈X.pn++pins,p.1≠b
theorem FpOk.n {b:ee} (f:FpOk X pins H b):FpN X pins H b:=⟨f.1,f.2.1,f.2.2.1,f.2.2.2.1.imp id Xf,f.2.2.2.2⟩
theorem Inv.fpN {H':Hp} {b:ee} (I:@N) (hb:s.heap.get? b=f') (hn:H' b=f'):FpN X pins H' b:=by
 refine⟨hn,λz=>?_,λz=>?_,?_,λx c e z=>?_,λp L z=>?_⟩
 ·obtain⟨m,⟨o,es,ep,ho,r⟩,_⟩:=I.loc;rw[<-z,hb] at ho;cases ho
 ·obtain⟨_,o,ho,_⟩:=I.ok.funs.mem z;obtain⟨o',G⟩:=I.base.there b o ho λy=>I.ok.exfs b y z;rw[hb] at G;cases G
 ·by_cases z:b∈X.ex
  ·exact !J z
  ·cases q:X.s₀.heap.get? b with
   | none=>exact !F rfl
   | some o=>obtain⟨o',G⟩:=I.base.there b o q z;rw[hb] at G;cases G
 ·obtain⟨v,o,q,_⟩:=I.cell x c e;rw[z,hb] at q;cases q
 ·have:=(I.pin p L).1;rw[z,hb] at this;cases this
theorem Inv.mvN {h':zx} {ch:M'} (I:@N) (m:Mv ch (frs X.stack) s.heap h') (fp:∀b∈ch,FpN X pins H b):Inv X pins σ H {s with heap:=h'}:=by
 have out:∀b o,X.s₀.heap.get? b=ak o->b∉X.ex->b∉ch++X.ex:=λb o e n z=>by
  rcases gz.mp z with z | z
  ·rcases(fp b z).2.2.2.1 with y | y
   ·exact n y
   ·rw[e] at y;cases y
  ·exact n z
 have sub:∀b,b∉ch++X.ex->b∉X.ex:=λb n z=>n (!Q z)
 have ok:Cx.Ok {X with ex:=ch++X.ex}:=⟨I.ok.mod,I.ok.kind,I.ok.glob,I.ok.blt,I.ok.above,I.ok.inj,I.ok.has,I.ok.cab,I.ok.hd,I.ok.frames,I.ok.stk,
  λb hb=>(gz.mp hb).elim (λz=>⟨(fp b z).2.1,(fp b z).2.2.2.2.1⟩) (I.ok.exf b),I.ok.bs,I.ok.bsz,λb o e=>out b o (I.ok.bs b o e).1 (I.ok.noex b o e),
  λb hb=>(gz.mp hb).elim (λz=>(fp b z).2.2.1) (I.ok.exfs b),I.ok.funs,I.ok.frf⟩
 have U:=I.base
 have J:Inv {X with ex:=ch++X.ex} pins σ H s:=⟨ok,I.os,I.bare,⟨λb o e n f z=>U.keep b o e n f (sub b z),λb o e n f z=>U.slot b o e n f (sub b z),λb o e n z=>U.free b o e n (sub b z),λb o e z=>U.there b o e (sub b z),U.tups,U.frzs,U.tbls⟩,
  I.loc,I.cell,I.free,I.freeC,I.pin,I.hok,I.len⟩
 have J':=J.mv (h':=h') (ch:=ch) m λb hb=>⟨(fp b hb).1,(fp b hb).2.1,(fp b hb).2.2.1,!J (!N hb),(fp b hb).2.2.2.2⟩;have V:=J'.base
 exact⟨I.ok,J'.os,J'.bare,⟨λb o e n f z=>V.keep b o e n f (out b o e z),λb o e n f z=>V.slot b o e n f (out b o e z),λb o e n z=>V.free b o e n (out b o e z),λb o e z=>V.there b o e (out b o e z),V.tups,V.frzs,V.tbls⟩,
  J'.loc,J'.cell,J'.free,J'.freeC,J'.pin,J'.hok,J'.len⟩
structure Fly (X:Cx) (pins:Dn) (H:Hp) (e:ee) (C:kk) (dx:Q') (T:qE (ee×kk)) (h:zx):Prop where
 at_:Ln h e C dx T
 fe:FpN X pins H e
 ft:∀t fl,T=ak (t,fl)->FpN X pins H t
def Own (X:Cx):Prop:=X.stack=X.env::X.outer/\X.env.frame=ak X.env.locals
theorem JN {M:Model} {E:D'} {e:ee} {C:kk} {dx:Q'} {T:qE (ee×kk)} {Q:L'} (I:@N) (ow:Own X) (f:Fly X pins H e C dx T s.heap)
  (h:∀h' t,Inv X pins σ H {s with heap:=h'}->Fly X pins H e C dx (ak (t,rawInt X.env.locals)) h'->Q () {s with heap:=h'}):lT M X.A (noteFrame (!j e) X.env) Q E s:=by
 obtain⟨ho,hf⟩:=ow;have ι:X.A.frames=ak (X.env::X.outer):=by rw[I.ok.frames,ho]
 have Z:s.heap.FunFrames X.base (X.env::X.outer):=by rw[<-ho];exact I.stack
 obtain⟨⟨ε,vs,he,η,α,hd,hsz,hT⟩,fe,ft⟩:=f
 have fin:∀(L:kb) (β:Zs) (O:G') (π:kk) (b1:US),Inv X pins σ H L->L.heap.objs.size=s.heap.objs.size->L={s with heap:=L.heap}->L.heap.get? e=ak β->β.cls=C->β.dict=dx->β.data= .fields O->1 < O.size->
   lT M X.A (do let a <-frameOf X.env;let pl <-entryPlaceOf X.env.locals b1;let t <-Y8 π a .none (rawInt X.env.locals) .none pl;setField (!j e) 1 t) Q E L:=by
  intro L β O π b1 I1 hz θ G χ φ γ υ;have ζ:L.heap.FunFrames X.base (X.env::X.outer):=by rw[<-ho];exact I1.stack
  refine Ng ι ζ hf G γ υ λh' m x=>?_;have τ:Inv X pins σ H {L with heap:=h'}:=I1.mvN (ch:=[e]) (by rw[ho];exact m) λb hb=>by rw[gs.mp hb];exact fe
  have e2:({L with heap:=h'}:kb)={s with heap:=h'}:=by rw[θ]
  rw[e2] at τ ⊢;rw[χ,φ] at x;exact h h' _ τ ⟨x,fe,λt ρ z=>by cases z;exact(!bA @Y @Y).n⟩
 unfold noteFrame;simp only[hf];cases T with
 | none=>
   have h1:vs[1]? =ak .none:=hT;refine gn (Vn he hd h1 ?_);rw[mu @D];exact fin s ε vs _ _ I rfl rfl he η α hd hsz
 | some p=>
   obtain⟨t,ρ⟩:=p;obtain⟨h1,δ,ξ,ts,Y,ο,ν⟩:=hT;refine gn (Vn he hd h1 ?_);rw[oL (show(p' t != V5)=true from by simp)];refine gn (Vn Y ο ν ?_);by_cases hz:(ρ == rawInt X.env.locals)=true
   ·rw[oL hz];have ω:=eq_of_beq hz;subst ω;exact nr (h s.heap t I ⟨⟨ε,vs,he,η,α,hd,hsz,h1,δ,ξ,ts,Y,ο,ν⟩,fe,ft⟩)
   ·rw[mu hz];refine gn (XQ Y ο (VT.mp ν).1 ?_);have oth:∀c,c≠t->(!bv t (WQ (·.setIfInBounds 3 V5))).get? c=s.heap.get? c:=λc η=>U9 _ _ (ro η)
    have ψ:Mv [t] (frs X.stack) s.heap (!bv t (WQ (·.setIfInBounds 3 V5))):=
     ⟨λb o n _ q=>(oth b (λz=>n (by rw[z];exact gs.mpr rfl))).trans q,λb o n _ q=>⟨o.slots,(oth b (λz=>n (by rw[z];exact gs.mpr rfl))).trans q⟩⟩
    have I1:=I.mvN ψ λb hb=>by rw[gs.mp hb];exact ft t ρ rfl
    exact fin _ ε vs _ _ I1 (Heap.size_after_update ..) rfl ((oth e (ro δ)).trans he) η α hd hsz
theorem Oo {M:Model} {A:xY} {E:D'} {e t:ee} {C:kk} {dx:Q'} {G:kk} {fr:Q'} {Q:L'} (I:@N) (f:Fly X pins H e C dx (ak (t,G)) s.heap)
  (h:∀h',Inv X pins σ H {s with heap:=h'}->Fly X pins H e C dx (ak (t,fr.elim .none λf=>rawInt f)) h'->Q () {s with heap:=h'}):lT M A (setFlight (!j e) fr) Q E s:=by
 refine Kz f.at_ λh' k x=>h h' (I.mvN (ch:=[t]) ⟨λb o n _ q=>k b o (λz=>n (by rw[z];exact gs.mpr rfl)) q,λb o n _ q=>⟨o.slots,k b o (λz=>n (by rw[z];exact gs.mpr rfl)) q⟩⟩ λb hb=>by rw[gs.mp hb];exact f.ft t G rfl) ⟨x,f.fe,λt' L z=>by cases z;exact f.ft t G rfl⟩
end
noncomputable abbrev XW:=St->XK
def XE (X:Cx) (W:XW) (e:kk) (s:kb):Prop:=∃pins x C dx T σ H,e= .ref x/\Inv X pins σ H s/\Fly X pins H x C dx T s.heap/\W σ C dx H
def Thr (X:Cx) (W:XW):Prop:=∀e s,XE X W e s->X.xe e s
noncomputable abbrev Cx.thr (X:Cx) (W:XW):Cx:=X.wish (XE X W)
noncomputable abbrev W0:XW:=λ_ _ _ _=>False
section
variable {X:Cx} {W:XW} {pins:Dn} {σ:St} {H:Hp} {s:kb}
theorem Fly.wish {E:D'} {e:ee} {C:kk} {dx:Q'} {T:qE (ee×kk)} {h:zx} (f:Fly (X.wish E) pins H e C dx T h):Fly X pins H e C dx T h:=⟨f.at_,f.fe,f.ft⟩
theorem jA:Thr (X.thr W) W:=λe s ⟨pins,x,C,dx,T,σ,H,he,I,f,w⟩=>⟨pins,x,C,dx,T,σ,H,he,I.unwish,f.wish,w⟩
theorem thr0:Thr X W0:=λe s ⟨pins,x,C,dx,T,σ,H,he,I,f,w⟩=>w.elim
theorem GE (ow:Own X):PassesOwn @T X.A X.env (XE X W):=by
 intro e s' ⟨pins,x,C,dx,T,σ,H,he,I,f,w⟩;subst he;unfold notedBy;refine JN I ow f λh' t Z O=>?_;unfold cameBackBy;obtain⟨⟨ε,vs,G,ζ,β,γ,α,φ,δ⟩,fe,ft⟩:=id O;refine gn (Vn G γ φ ?_);rw[mu @C];refine Oo Z O λh2 Y L=>?_;rw[ow.2] at L;exact⟨pins,x,C,dx,_,σ,H,rfl,Y,L,w⟩
theorem wC (ow:Own X):PassesOwn @T X.A X.env (X.thr W).xe:=GE ow
theorem PSs.thr {st:eS WX} {t:TS} (h:PSs (X.thr W) st t) (k:Thr X W):PSs X st t:=λpins s σ H D I hw=>
 WM (h pins s σ H D (I.wish _) hw) (λ_ _ q=>q.unwish) k
end
noncomputable def CX1 (P:pT) (w:z0):CXT:=λouter H s E e s'=>∃x C dx t H',e= .ref x/\s'.os=s.os/\AllBare s'.gens/\Un (frs outer) [] H H' s.heap s'.heap/\HOk P w H' s'.heap/\
 Ln s'.heap x C dx (ak (t,.none))/\s.heap.get? x=f'/\s.heap.get? t=f'/\H' x=f'/\H' t=f'/\E C dx H'
section
variable {P:pT} {w:z0} {K:b'} {mg:F'} {base:zx}
theorem Fq {N:C'} {G:lA} {scope:Wf} {f:ee} {χ:kk} {A:xY} {outer:@aG} {s:kb} {H:Hp} {E:XK}:
  Thr (cxOf (CX1 P w) P w K mg base N G scope f χ A outer s H E) λ_=>E:=by
 intro e s' ⟨pins,x,C,dx,T,σ,H',he,I,Z,O⟩;subst he;have own:Own (cxOf (CX1 P w) P w K mg base N G scope f χ A outer s H E):=⟨rfl,rfl⟩;show lT _ _ (leaving _ _) _ _ _;unfold leaving;refine gn (JN I own Z λh1 t α Y=>?_);refine Oo (fr:=f') α Y λh2 I2 L=>?_;have fx:=L.fe;have ft:=L.ft t _ rfl;have no:∀b:ee,(b∈([]:M')∨s.heap.get? b=f')->s.heap.get? b=none:=λb z=>z.elim (λq=>hF q @C) id;exact⟨x,C,dx,t,H',rfl,I2.os,I2.bare,I2.base,I2.hok,L.at_,no x fx.2.2.2.1,no t ft.2.2.2.1,fx.1,ft.1,O⟩
theorem Fun.okX {x G:lA} {st:WX} {f:ee} {fd:hM} {N ps:C'} {k:Nat} {sp:Sp} (F:Fun K x G st f fd) (S:!C N ps st) (len:∀vs H Q E,sp vs H Q E->vs.length=ps.length)
  (η:∀(L:kk) (A:xY) (outer:@aG) (s:kb) (H:Hp) (vs:eS V) (Q:VK) (E:XK),Room k (A.deeper (!bo G @aB f L))->sp vs H Q E->
   ∃t,PSs ((cxOf (CX1 P w) P w K mg base N G @aB f L A outer s H E).thr λ_=>E) @ba t/\t {nx:=λ_ H'=>Q .non H',rt:=Q} (start N vs) H):FnOk P w K mg base (CX1 P w) @b4 f fd ps sp:=by
 obtain⟨γ,od,kV,τ,β,an,L,ct,Z,rfl,lk,Y⟩:=F.ex;refine @dt;obtain⟨t,h,q⟩:=η L A outer s H vs Q E α O;exact⟨t,h.thr Fq,q⟩
end
section
variable {X:Cx} {W:XW} {pins:Dn} {σ:St} {H:Hp} {s s':kb}
theorem Inv.afterX {e:kk} (I:@N) (hx:Thr X W) (h:CX1 X.prog X.w X.stack H s (W σ) e s'):X.xe e s':=by
 obtain⟨x,C,dx,t,H',rfl,os,bare,un,hok,ea,G,L,nx,O,w⟩:=h;refine hx _ _ ⟨pins,x,C,dx,_,σ,H',rfl,I.call' (ch:=[]) os un hok bare (λb z=>hF z @C),⟨ea,I.fpN G nx,λt' Y z=>?_⟩,w⟩;cases z;exact I.fpN L O
variable {k:Nat} {f C:ee} {fd:hM} {ps:C'} {sp:Sp} {dvs:eS V} {ds:E'} {x m:lA} {p pos apos:Pos} {e o:xo} {es:eS xo} {ta:TE} {t:TA}
theorem PJ {Q:VK} {us:E'} {vs:eS V} (F:FnOk X.prog X.w X.K X.mg X.base (CX1 X.prog X.w) k f fd ps sp) (O:!aX X.A) (hb:rn X.K fd ps ds) (hd:Vals dvs ds) (hx:Thr X W)
  (I:@N) (r:Vals vs us) (h:sp @aP H Q (W σ)):lT @T X.A (call @a6 us) (EP X pins σ Q) X.xe s:=by
 have L:Vals @aP @b8:=r.append hd;have hl:(@b8).length=ps.length:=by rw[<-L.length];exact F.len _ _ _ _ h
 refine ag4 (Yl (F.run X.A X.stack s H ⟨us,[]⟩ @b8 @aP Q (W σ) O I.env0 (hb s us I.kIn hl) L h) λr s' G=>?_);cases r with
 | error e=>exact I.afterX hx G
 | ok Y=>
   cases Y with
   | ret u=>exact I.after G
   | next=>exact UP G
   | brk=>exact UP G
   | cont=>exact UP G
noncomputable def NU (C:ee) (m:lA) (sp:Sp) (dvs:eS V) (W:XW) (ta:TE) (t:TA):TE:=fun σ H Q=>ta σ H λx H1=>∃a dx fs,x= .ref a/\H1 a=ak @aq/\fs.lookup m=f'/\
 t σ H1 λvs H2=>sp (x::@aP) H2 Q (W σ)
theorem fZ {pl:Sem US} (he:!E o ta) (c:Cls X.K C) (hm:Meth X.K C m f) (F:FnOk X.prog X.w X.K X.mg X.base (CX1 X.prog X.w) k f fd ps sp) (γ:!aX X.A) (hb:rn X.K fd ps ds) (hd:Vals dvs ds) (hx:Thr X W) (ha:PA X @V t)
  (Z:ov @V X.env=(false,eval e X.env)::ov es X.env:=by rfl) (G:(!aE pos es).any (·.1)=false:=by rfl)
  (ht:eval (!bh o m apos @V [] pos) X.env=(do
   let L <-eval o X.env
   standAt apos.atName
   let (f,first) <-holding [L] (getMethod L m pl)
   callWith pos f first (!aE pos @V) (!bH pos [] X.env)):=by rfl):
  PE X (!bh o m apos @V [] pos) (NU C m sp dvs W ta t):=by
 intro pins s σ H Q I h;refine WZ (pl:=pl) (thn (he pins s σ H _ I h) λu Y zq=>?_) ht;obtain⟨x,H1,O,α,a,dx,fs,ex,ea,l,q⟩:=zq;subst ex;obtain rfl:u=p' a:=α;refine ui O ea c hm l ?_;refine WO (first:=[.ref a]) (h₀:=X.base) I.ok.mod.kin hm.kp (thn (ha pos pins Y σ H1 _ O q) λus δ ⟨vs,H2,I2,r,β⟩=>⟨I2.kIn,?_⟩) Z G;exact PJ (us:= .ref a::us) (vs:= .ref a::vs) F γ hb hd hx I2 (.cons rfl r) β
end
structure XCls (h:zx) (C:ee) (bmB:E') (newId:U'):Prop where
 obj:∃bm N nm q bs hdct sn sub ab col dd k0 k1 k2 k3 k5 mN,h.get? C=ak (excClassObj nm q C N bs bm hdct sn sub ab col dd k0 k1 k2 k3 k5 newId)/\h.Ns N mN/\mN "__init__"=f'/\OwnTail h bmB bm
theorem OO {K:b'} {h:zx} {C:ee} {bmB:E'} {newId:U'} (X:K.In h) (q:Yh K C bmB newId=true):XCls h C bmB newId:=by
 refine⟨?_⟩;unfold Yh at q;split at q
 next dd χ L ho=>
  split at q
  next α bm k0 k1 k2 k3 n k5 hm hs=>
   simp only[U6,Yk,Bool.not_eq_true'] at q;obtain⟨⟨⟨⟨⟨Z,Y⟩,γ⟩,ht⟩,hok⟩,π⟩:=q;subst Z Y;cases χ with
   | mk nm bs G ns O hd sn sub ab col del=>
   have hm:G=_:=hm;have γ:del=false:=γ;subst hm γ;have δ:L=#[k0,k1,k2,k3,ak (!ao n),k5]:=by rw[<-hs]
   subst δ;exact⟨bm,ns,nm,O,bs,hd,sn,sub,ab,col,dd,k0,k1,k2,k3,k5,_,X _ _ ho,.of_isNs (PySem.W.isNs_of_in X hok),PySem.W.nsMap_none_of_in X hok π,PySem.W.tail_of_in X ht⟩
  next=>cases q
 next=>cases q
section
variable {X:Cx} {W:XW} {C:ee} {x:lA} {np cpos pos:Pos} {e:xo} {es:eS xo} {t:TA} {B newId initId:U'} {bmB:E'}
noncomputable def NT (C:ee) (W:XW) (t:TA):TS:=λ_ σ H=>t σ H λvs H1=>vs.length<=kf/\W σ @a9 f' H1
theorem Qf {pins:Dn} {σ:St} {H:Hp} {s:kb} {h':zx} {a:ee} {vs:E'} (I:@N) (m:Heap.MadeExcOf s.heap h' a @a9 vs):
  Inv X pins σ H {s with heap:=h'}/\Fly X pins H a @a9 f' f' h':=by
 obtain⟨tt,G,O,L⟩:=m.there;exact⟨I.mvN (ch:=[]) ⟨λb o _ _ e=>m.keeps b o e,λb o _ _ e=>⟨o.slots,m.keeps b o e⟩⟩ λb z=>hF z @C,⟨⟨_,_,G,rfl,rfl,rfl,@C,@C⟩,I.fpN m.new (I.hok.none_ m.new),λt Y z=>by cases z⟩⟩
theorem mS (FB:ExcBaseFacts B newId initId bmB) (q:Yh X.K C bmB newId=true) (hx:Thr X W) (hc:@aI) (Z:Gl X x) (hm:X.mg x=ak @a9) (ha:PA X @V t)
  (O:(x == ("__debug__":lA))=false:=by decide) (he:ov @V X.env=(false,eval e X.env)::ov es X.env:=by rfl) (L:(!aE cpos es).any (·.1)=false:=by rfl):
  PS X (.Raise (ak (!aP x np @V [] cpos)) f' pos) (NT C W t):=by
 intro pins s σ H D I h;obtain⟨tl,N,nm,Y,bs,hdct,sn,sub,ab,col,dd,k0,k1,k2,k3,k5,mN,α,γ,π,T⟩:=(OO I.ok.mod.kin q).obj
 refine wpAny_Raise_call_subT (C:=C) (nm:=nm) (q:=Y) (N:=N) (bs:=bs) (bm:=tl) (hdct:=hdct) (sn:=sn) (sub:=sub) (ab:=ab) (col:=col) (dd:=dd) (k0:=k0) (k1:=k1) (k2:=k2) (k3:=k3) (k5:=k5)
  FB (mN:=mN) (T.hasType FB.hasBase) @be (by rw[he];show(false||(!aE cpos es).any (·.1))=false;rw[L];rfl) π (xx I Z hm ⟨rfl,?_⟩ O)
 have G:=ha cpos pins s σ H _ I h;rw[he] at G ⊢;refine Z' (WM G (λus ε ⟨vs,H1,I1,r,z,w⟩=>⟨rfl,?_,I1.bk _ _ α,γ.keeps I1.bk,T.keeps I1.bk,λh' a m=>?_⟩) λ_ _ y=>y)
 ·show us.length<=_;rw[<-r.length];exact z
 ·obtain⟨δ,β⟩:=Qf I1 m;exact hx _ _ ⟨pins,a,.ref C,f',f',σ,H1,rfl,δ,β,w⟩
end
structure QI (K:b') (G:ee):Prop where
 ty:ad2 K @aJ=ak @bS
 cls:ac3 K G=true
 base:V' K G (!ai "BaseException")=ak true
section
variable {X:Cx} {pins:Dn} {σ:St} {H:Hp} {s:kb}
theorem Inv.track {x:ee} {o:HO} (I:@N) (f:FpN X pins H x) (G:ip X.prog X.w (!Y x o) s.heap x o):!bS X (!Y x o) s:=by
 obtain⟨ε,α,β,δ,Z,ξ⟩:=f;have ne:∀b u,H b=ak u->b≠x:=λb u e z=>by rw[z,ε] at e;cases e
 have O:∀b u,H b=ak u->upd H x o b=ak u:=λb u e=>by rw[aH (ne b u e)];exact e
 have U:=I.base;refine⟨I.ok,I.os,I.bare,⟨U.keep,U.slot,λb ob e n L=>?_,U.there,λb xs e=>O b _ (U.tups b xs e),λb ob u e=>O b _ (U.frzs b ob u e),λb ps e=>?_⟩,I.loc,I.cell,?_,λy c e=>?_,λp Y=>?_,λb ob e=>?_,I.len⟩
 ·rw[aH (λz=>?_)]
  ·exact U.free b ob e n L
  ·subst z;rcases δ with y | y
   ·exact L y
   ·rw[e] at y;cases y
 ·obtain⟨m,q⟩:=U.tbls b ps e;exact⟨m,O b _ q⟩
 ·rw[aH (ro α)];exact I.free
 ·rw[aH (Z y c e)];exact I.freeC y c e
 ·obtain⟨e,n,r⟩:=I.pin p Y;exact⟨e,by rw[aH (ξ p Y)];exact n,r⟩
 ·by_cases z:b=x
  ·subst z;rw[ay] at e;cases e;exact G
  ·rw[aH z] at e;exact(I.hok b ob e).stay (λ_ _ _ q=>q) (λc q=>O c _ q) λc xs q=>O c _ q
end
noncomputable def ExcO (x:ee) (C:kk) (dx:Q'):HO:= .ext λh=>∃ε vs,h.get? x=ak ε/\ε.cls=C/\ε.dict=dx/\ε.data= .fields vs
noncomputable abbrev Cx.pin (X:Cx) (pins:Dn):Cx:={X with pn:=X.pn++pins}
noncomputable abbrev Cx.mark (X:Cx) (pins:Dn) (e:kk):Cx:={X with A:=X.A.mark (ak e),calm:=false,pn:=X.pn++pins,xe:=λ_ _=>False}
noncomputable def Ends.less (D:Ends) (i:Nat):Ends:={nx:=fun σ H=>D.nx (σ.set i f') H,rt:=D.rt,bk:=fun σ H=>D.bk (σ.set i f') H,ct:=fun σ H=>D.ct (σ.set i f') H}
noncomputable def WTry (K:b') (G:ee) (i:Nat) (L:XW) (ts:TS) (D:Ends):XW:=fun σ C dx H=>∃c,C= .ref c/\((V' K c @aJ=ak true/\∀x,H x=f'->ts (D.less i) (σ.set i (ak (!j x))) (!Y x (ExcO x C dx)))∨
 (V' K c @aJ=ak false/\L σ C dx H))
structure XIsi (K:b') (D:ee):Prop where
 cls:ac3 K D=true
 ga:wb K @Z "__getattribute__"=ak (ak (!ao "BaseException.__getattribute__"))
 gr:wb K @Z "__getattr__"=ak f'
 ha:wb K @Z "__class__"=ak (ak @bu)
 hn:Wk K @bu "__get__"=ak (ak @dl)
 tk:YX K @bu=ak true
 hm:V' K D (!ai "object")=ak true
 base:V' K D (!ai "BaseException")=ak true
noncomputable def dV:V->kk
 | .ref a=> .ref a
 | .ty n=> .type n
 | _=> .none
section
variable {σ:St} {H:Hp} {Q:VK} {D:Ends} {W:XW} {t:TA}
theorem Pp {C:ee} (h:t σ H λvs H1=>vs.length<=kf/\W σ @a9 f' H1):NT C W t D σ H:=h
end
theorem qL {X:Cx} {K:b'} {es:eS xo} {k:Nat} {t:TGs} {n:Nat} {pos:Pos} (h:X.K=K) (hc:@aI) (ht:PGs X es t)
  (hn:(!bE es).length=n:=by rfl) (Z:(!bE es).findIdx? (·.1)=none:=by rfl):PG X (.Tuple es k pos) (gTup K n t):=by subst h;exact uA hc ht hn Z
theorem PN {k:Key} {v:kk} (h:BX k v=true):RelV (kV k) v:=by
 rcases dB h with ⟨i,t,rfl,rfl⟩ | ⟨x,t,rfl,rfl⟩
 ·exact⟨t,rfl⟩
 ·exact⟨t,rfl⟩
theorem wD {α β:Type} {F:α->β->Prop}:∀{l:eS α} {m:eS β},l.length=m.length->(∀(i:Nat) (a:α) (b:β),l[i]? =ak a->m[i]? =ak b->F a b)->Paired F l m
 | [],[],_,_=> .nil
 | a::l,b::m,hl,h=> .cons (h 0 a b rfl rfl) (wD (by simpa using hl) λi x y L G=>h @J x y (by simpa using L) (by simpa using G))
 | [],_::_,hl,_=>by simp at hl
 | _::_,[],hl,_=>by simp at hl
section
variable {σ:St} {H:Hp} {Q:VK} {D:Ends} {te ty tv td:TE} {x y v:V}
def QH (y:V) (Q:VK) (x:V) (H:Hp):Prop:=∃a o,x= .ref a/\DGet H a y o/\Q (.bl o.isSome) H
theorem Uh (h:ty σ H λy H1=>td σ H1 (QH y Q)):tDIn ty td σ H Q:=h
theorem RE {p:ee} {kvs:@ak} {z:Int} (e:!au @ah) (h:Q (.bl (valV kvs (V8 z)).isSome) H):QH (.int z) Q @P H:=⟨p,_,rfl,DGet.k (k:=V8 z) e,h⟩
theorem N0 {p:ee} {kvs:@ak} {z:lA} (e:!au @ah) (h:Q (.bl (valV kvs @aK).isSome) H):QH @ao Q @P H:=⟨p,_,rfl,DGet.k (k:=v3 z) e,h⟩
def Lp (y:V) (Q:VK) (x:V) (H:Hp):Prop:=∃a o,x= .ref a/\DGet H a y o/\Q (.bl (!o.isSome)) H
theorem RC (h:ty σ H λy H1=>td σ H1 (Lp y Q)):Im ty td σ H Q:=h
theorem PD {p:ee} {kvs:@ak} {z:Int} (e:!au @ah) (h:Q (.bl (!(valV kvs (V8 z)).isSome)) H):Lp (.int z) Q @P H:=⟨p,_,rfl,DGet.k (k:=V8 z) e,h⟩
theorem PB {p:ee} {kvs:@ak} {z:lA} (e:!au @ah) (h:Q (.bl (!(valV kvs @aK).isSome)) H):Lp @ao Q @P H:=⟨p,_,rfl,DGet.k (k:=v3 z) e,h⟩
theorem lH {l b:ee} {xs zs:eS V} (e:@bC) (G:H b=ak (!A zs)) (hz:@dw) (h:∀p H2,H p=f'->Same H H2->H2 p=ak (!A (xs++zs))->Q @P H2):rCat @aA (!j b) H Q:=⟨l,b,xs,zs,rfl,rfl,e,G,hz,jY h⟩
end
theorem AG:∀{ns:P'} {us:E'},Vals @ar us->IntsAre us ns
 | [],us,r=>by cases r;exact .nil
 | n::ns,us,r=>by
   rw[UL] at r;cases r with
   | cons h t=>obtain⟨t',rfl⟩:=h;exact .cons _ _ (AG t)
theorem Kh:∀{ns:P'} {us:E'},IntsAre us ns->Vals @ar us:=vS
noncomputable def RN:eS V->Hp->VK->Prop:=λxs H Q=>∃(p:ee) (ns:P'),xs=[.ref p]/\H p=ak (!A @ar)/\0 < ns.length/\∀m:Int,m∈ns->(∀a∈ns,a<=m)->Q (.int m) H
section
variable {X:Cx}
theorem KZ (hc:@aI):nY X (!ao "max") RN:=by
 intro pins s σ H xs us Q I r h;obtain⟨p,ns,rfl,β,G,q⟩:=h;obtain⟨u,rfl,Y⟩:=vT r;cases Y;obtain⟨z,its,n,Z,hl,e⟩:=I.lstM β;have hi:=AG Z;obtain⟨zs,O⟩:=hi.allInts.items;have χ:ns=zs.toList.map (·.1):=by rw[<-hi.numsOf,<-nums_intItems,<-O]
 have hsz:0 < zs.size:=by have L:=G;rw[χ,aI,VL] at L;exact L
 have υ:s.heap.IsList p (intItems zs):=by rw[<-O];exact⟨_,e,rfl,n,rfl⟩
 refine max_intList @be υ hsz λv h' tk α hk=>?_;obtain⟨t,rfl⟩:=intItems_at α;obtain⟨h1,h2⟩:=argBest_gt (numAt zs) (zs.size - 1);refine⟨.int _,H,I.kept hk,⟨t,rfl⟩,q _ ?_ λa ha=>?_⟩
 ·rw[χ,numAt_eq];exact getD_mem (by rw[aI,VL];omega)
 ·rw[χ] at ha;obtain⟨j,γ,rfl⟩:=mem_getD ha;rw[aI,VL] at γ;rw[<-numAt_eq];exact h2 j @A
theorem w4 {α β:Type} (f:α->β):∀(l:eS α) (j:Nat),(@ct).map f=(l.map f).eraseIdx j
 | [],_=>rfl
 | a::l,0=>rfl
 | a::l,j + 1=>by simp[List.eraseIdx,w4 f l j]
noncomputable def Jj:V->eS V->Hp->VK->Prop:=λx vs H Q=>∃(l:ee) (ns:P') (m:Int) (j:Nat),x= .ref l/\vs=[.int m]/\H l=ak (!A @ar)/\ns[j]? =ak m/\(∀i,i < j->ns[i]? ≠ak m)/\Q .non (!ay H l ((ns.eraseIdx j).map V.int))
noncomputable def MK (m:Int):kk->US
 | .int i _=>i == m
 | _=>false
theorem JU:MtM X "list.remove" Jj:=by
 intro pins s σ H x xs v us Q I γ rs h;obtain⟨l,ns,m,j,rfl,rfl,β,α,ρ,q⟩:=h;cases γ;obtain⟨u,rfl,O⟩:=Vals.one rs;obtain⟨t,rfl⟩:=O;obtain⟨z,its,n,r,hl,e⟩:=I.lstM β
 have at':∀i:Nat,∀(h:i < its.length),∃k t,ns[i]? =ak k/\its[i]= .int k t:=λi h=>by
  have hi:i < ns.length:=by rw[aI] at hl;omega
  obtain⟨u,hu,O⟩:=r.get (i:=i) (x:= .int ns[i]) (by rw[hH,ef hi];rfl);obtain⟨t,rfl⟩:=O;rw[ef h] at hu;exact⟨ns[i],t,ef hi,ry hu⟩
 have G:j < its.length:=by
  have:=(!M α).1;rw[aI] at hl;omega
 refine X1 F.slot_list_remove ⟨_,e,rfl⟩ F.entry_list_remove (F.args_list_remove_2 _ _)
  (MeetsSeq.list_remove l its.toArray n (.int m t) (MK m) ?_ j (by rw[qb];exact G) ?_ ?_ (by rw[qb];omega)) ⟨e,?_⟩
 ·intro y Z;rw[List.mem_toArray] at Z;obtain⟨i,hi,rfl⟩:=Vu.mp Z;obtain⟨k,t',_,L⟩:=at' i hi;rw[L];exact MeetsSeq.EqGives.int k m t' t
 ·obtain⟨k,t',hk,L⟩:=at' j G;rw[α] at hk;cases hk;show MK m its[j]=true;rw[L];simp[MK]
 ·intro i hi Y;rw[qb] at hi;obtain⟨k,t',hk,L⟩:=at' i hi;show MK m its[i]=false;rw[L];show(k == m)=false;rw[vr];intro δ;rw[δ] at hk;exact ρ i Y hk
 ·refine⟨.non,_,I.lset (its':=its.eraseIdx j) β e ?_ (r.eraseIdx j) ?_,rfl,by rw[w4] at q;exact q⟩
  ·show its.toArray.eraseIdxIfInBounds j=(its.eraseIdx j).toArray;rw[List.eraseIdxIfInBounds_toArray]
  ·have:=BL @ar j;omega
end
section
variable {prog:pT} {w:z0} {A:xY} {E:D'} {s:kb} {d:ee} {vs:eS (Key×kk)} {ep:Nat}
theorem GB:plainId "list.__iadd__"=true:=by decide +kernel
theorem CB {Q:E'->kb->Prop} (τ:@bd) (lo:(d == sysModules)=false) (ψ:s.heap.DictAt (dR prog w) d vs ep) (hn:vs.length<=kf)
  (h:∀h' tk (Y:G'),(∀b o,s.heap.get? b=ak o->h'.get? b=ak o)->s.heap.objs.size < h'.objs.size->ItemsOf (λi v=>∃k x,vs[i]? =ak (k,x)/\(dR prog w).is k v=true) Y vs.length->Q Y.toList {s with heap:=h',toks:=tk}):
  lT @a3 A (collect @aX) Q E s:=by
 unfold collect;refine gn (wpAny_runValue (WY entry_proto_collect' ?_));show lT _ _ (do again (.builtin "list.__iadd__" ⟨[<-newList [],.ref d],[]⟩)) _ _ s;refine gn (wpAny_newList (nr ⟨Code.quiet_builtin _ @O,WY entry_list_iadd' ?_⟩));rw[Wq GB _];show lT _ _ (xn @aS @aX @aS) _ _ {s with heap:=s.heap.push (seqObj "list" #[] 0)};have G:=ψ.lt_size
 refine PySem.W.kdl_extend (R:=λr s'=>match r with
   | Except.ok (Flow.ret v)=>lT @a3 A (match v with
     | p' a=>do
       let o <-load a
       match o.data with
       | .seq xs _=>pure xs.toList
       | _=>unsupported "internal:collect"
     | _=>unsupported "internal:collect") Q E s'
   | Except.ok _=>False
   | Except.error e=>E e s') (s:={s with heap:=s.heap.push (seqObj "list" #[] 0)}) (PySem.W.kdl_dict (knd:=dR prog w) (kvs:=vs) (ep:=ep) lo) τ (ψ.push _) s.heap.objs.size (Vr G) (Vr G) _ 0 (mc _ rfl) (λh' tk O Z hk θ L=>?_) hn
 show lT @a3 A (do
   let o <-load s.heap.objs.size
   match o.data with
   | .seq xs _=>pure xs.toList
   | _=>unsupported "internal:collect") Q E {s with heap:=h',toks:=tk}
 refine gn (wpAny_load θ ?_);exact nr (h h' tk O (λb o e=>hk b o (u' @aH) (gB _ e)) (ib θ) L)
theorem Dh {Q:D'} {ks:P'} (τ:@bd) (lo:(d == sysModules)=false) (ψ:s.heap.DictAt (dR prog w) d vs ep) (hn:vs.length<=kf) (hk:vs.map (·.1)=ks.map V8) (η:vs.length < 64)
  (h:∀h' tk a (out:G') (e:Nat) (G:P'),(∀b o,s.heap.get? b=ak o->h'.get? b=ak o)->s.heap.objs.size<=a->h'.get? a=ak (seqObj "list" out e)->IntsAre out.toList G->G.Perm ks->G.Pairwise (·<=·)->Q @aa {s with heap:=h',toks:=tk}):
  lT @a3 A (call (!ao "sorted") [.ref d]) Q E s:=by
 refine Calls.call_function_entry kind_sorted plain_sorted entry_sorted (args_sorted1 _) ?_;unfold Builtin.«sorted»;refine gn (m:=checkCount "sorted" 1 1 _) @b7;refine gn (CB (by exact τ) lo ψ hn λh' tk L δ hsz O=>?_)
 have β:(ks.map V.int).length=L.toList.length:=by
  have Z:=px zz hk;rw[aI,aI] at Z;have ξ:L.toList.length=vs.length:=by rw[VL];exact O.1
  rw[aI];omega
 have hI:IntsAre L.toList ks:=by
  refine AG (wD β λi a b ha hb=>?_);rw[hH] at ha;obtain⟨k,ε,rfl⟩:=Vv.mp ha;rw[Array.getElem?_toList] at hb;obtain⟨θ,x,ι,γ⟩:=O.2 i b hb;have Z:(vs.map (·.1))[i]? =ak θ:=by rw[hH,ι];rfl
  rw[hk,hH,ε] at Z;have Z:=ry Z;subst Z;exact PN (show BX (V8 k) b=true from γ)
 have ζ:L.toList.length < 64:=by rw[VL,O.1];exact η
 refine gn (wpAny_newList ?_);have Y:(h'.push (seqObj "list" L.toList.toArray 0)).get? h'.objs.size=ak (seqObj "list" L.toList.toArray 0):=mc _ rfl;show lT _ _ _ _ _ {s with heap:=h'.push (seqObj "list" L.toList.toArray 0),toks:=tk};refine gn (VH (Xl slot_list_sort ⟨_,Y,rfl⟩ entry_list_sort (list_sort_tree Y hI ζ λout G a1 a2 ν=>⟨_,rfl,?_⟩) (args_list_sort _)));obtain⟨e,he⟩:=sortedHeap_at (out:=out) Y;refine nr ⟨_,rfl,h _ tk h'.objs.size out e G (λb o hb=>?_) ?_ he a1 a2 ν⟩
 ·have α:=ib (δ b o hb);rw[sortedHeap_old (u' α) (by rw[size_push'];exact XN α)];exact gB _ (δ b o hb)
 ·exact Vw hsz
end
noncomputable def N4:eS V->Hp->VK->Prop:=λxs H Q=>∃(p:ee) (ks:P') (kvs:@ak),xs=[.ref p]/\H p=ak @ah/\kvs.map (·.1)=ks.map V8/\kvs.length < 64/\
 ∀(l:ee) (ns:P'),H l=f'->ns.Perm ks->ns.Pairwise (·<=·)->Q @aA (!ay H l @ar)
theorem Hq {X:Cx} (hc:@aI):nY X (!ao "sorted") N4:=by
 intro pins s σ H xs us Q I r h;obtain⟨p,ks,kvs,rfl,γ,hk,Y,q⟩:=h;obtain⟨u,rfl,α⟩:=vT r;cases α;obtain⟨hz,lo,vs,rel,dd⟩:=S7 I.hok γ;obtain⟨ep,ψ⟩:=dd.dictAt;refine Dh (ks:=ks) @be lo ψ (by rw[<-rel.length];exact hz) (by rw[<-rel.keys];exact hk) (by rw[<-rel.length];exact Y) λh' tk a out e G kp ha he hi L O=>?_;have β:=Kh hi
 have hl:(G.map V.int).length<=sizeLine:=by
  have Z:=px zz hk;rw[aI,aI] at Z;rw[aI,L.length_eq,<-Z];exact hz
 refine⟨@aa,_,I.laid (t':=tk) kp ha (show ip X.prog X.w _ h' _ (!A (G.map V.int)) from⟨hl,out.toList,e,β,by simpa using he⟩),rfl,q _ G (I.hok.fresh ha) L O⟩
section
variable {H:Hp} {Q:VK}
theorem Pn {p:ee} {kvs:@ak} {ks:P'} (e:!au @ah) (hk:kvs.map (·.1)=ks.map V8) (G:kvs.length < 64) (h:∀(l:ee) (ns:P') (H2:Hp),H l=f'->Same H H2->H2 l=ak (!A @ar)->ns.Perm ks->ns.Pairwise (·<=·)->Q @aA H2):N4 @bf H Q:=
 ⟨p,ks,kvs,rfl,e,hk,G,λl ns hl L hw=>h l ns _ hl (bj hl) ay L hw⟩
end
def CShl (i j:Int):Prop:=0<=j/\(u1 i:Int) + j<=2 ^ 27
theorem P1 {X:Cx}:!b8 X .LShift (rI CShl λi j=> .int (i * 2 ^ j.toNat)):=opI λ_ _ _ _ _ _ _ hc q=>PyProof.Rows.lshift_int hc.1 hc.2 q
open AutoSeq1 (wpAny_loadPart')
section
variable {prog:pT} {w:z0} {A:xY} {E:D'} {s:kb}
theorem tQ {G t:ee} {i:Nat} {items:G'} {x:kk} {Q:D'} (η:s.heap.IsTupleIter G t i) (ht:s.heap.IsTuple t items) (hx:items[i]? =ak x)
  (Z:∀h',h'.IsTupleIter G t @J->Xm G s.heap h'->Q x {s with heap:=h'}):
  lT @a3 A (UW @aJ) Q E s:=by
 obtain⟨o,ho,Y,hd⟩:=id η;obtain⟨α,L,_,nl,O⟩:=ht;unfold UW
 refine gn (X9 (name:=Vq "__next__") η.typeIs F.slot_tuple_iterator_next
  (!cq (F.args_tuple_iterator_next_1 _)))
 show lT _ _ (field @aJ 0 >>=_) _ _ s;refine gn (Vn ho hd (x:= .ref t) rfl ?_);show lT _ _ (if (p' t == V5)=true then _ else _) _ _ s;rw[mu (show ¬((p' t == V5)=true) from ia)];show lT _ _ (field @aJ 1 >>=_) _ _ s;refine gn (Vn ho hd (x:= .int i 0) rfl ?_);show lT _ _ (seqItems? @a5 >>=_) _ _ s;refine gn (WN L O ?_);simp only[lj,hx];refine gn (XQ ho hd @C (nr ⟨x,rfl,nr (Z _ ?_ (VZ ..))⟩))
 exact⟨_,Vb _ ho (aa3 (YH hd _)),(ae0 ..).trans Y,by
  rw[YH hd];simp[rawInt]⟩
theorem uZ {G t:ee} {i:Nat} {items:G'} {Q:D'} (τ:@bd) (η:s.heap.IsTupleIter G t i) (ht:s.heap.IsTuple t items) (hx:items[i]? =f')
  (Y:∀h' e,Heap.ExtBut G s.heap h'->(∃o,h'.get? e=ak o/\o.cls= .type "StopIteration")->E (!j e) {s with heap:=h'}):
  lT @a3 A (UW @aJ) Q E s:=by
 obtain⟨o,ho,α,hd⟩:=id η;obtain⟨Z,L,_,nl,O⟩:=ht;unfold UW
 refine gn (X9 (name:=Vq "__next__") η.typeIs F.slot_tuple_iterator_next
  (!cq (F.args_tuple_iterator_next_1 _)))
 show lT _ _ (field @aJ 0 >>=_) _ _ s;refine gn (Vn ho hd (x:= .ref t) rfl ?_);show lT _ _ (if (p' t == V5)=true then _ else _) _ _ s;rw[mu (show ¬((p' t == V5)=true) from ia)];show lT _ _ (field @aJ 1 >>=_) _ _ s;refine gn (Vn ho hd (x:= .int i 0) rfl ?_);show lT _ _ (seqItems? @a5 >>=_) _ _ s;refine gn (WN L O ?_);simp only[lj,hx];refine gn (ag3 (gn (XQ ho hd @C ?_)));show lT _ _ (newExc (!ai "StopIteration") [] >>=_) _ _ _;refine gn ?_;simp only[newExc,newTuple];refine gn (Y5 ?_ (by size_fits));refine gn (m:=firstArgMember _ _) (ae7 (a:=V5) (by first | rfl | (simp only[firstArgMember];rfl)) ?_);refine Y5 ?_ (by size_fits);simp only[raiseNew];refine gn (wpAny_handled ?_)
 first | rw[show A.in1.handled=f' from τ] | rw[τ]
 refine gn (nr (wpAny_throw ?_));exact Y _ _ (((VZ ..).extBut.push _).push _) ⟨_,mc _ rfl,rfl⟩
end
theorem Draws.tuple {prog:pT} {w:z0} {A:xY} (τ:@bd) (G l:ee) (Y:l≠G) (items:G'):
  Draws prog w A G [G,l] items.size (λi v=>items[i]? =ak v) (λi h=>h.IsTupleIter G l i/\h.IsTuple l items) where
 live:=λ_ _ st=>let ⟨o,ho,_⟩:=st.1;⟨o,ho⟩
 frame:=λ_ _ _ st hk=>⟨let ⟨o,ho,r⟩:=st.1;⟨o,hk G @C o ho,r⟩,let ⟨o,ho,r⟩:=st.2;⟨o,hk l @C o ho,r⟩⟩
 item:=λi s Q E hi st Z=>by
  refine tQ st.1 st.2 (x:=items[i]) (by simp[hi]) λh' O L=>?_;exact Z _ h' s.toks (by simp[hi]) ⟨O,st.2.extBut L.extBut Y⟩ L
 done:=λs Q E st α=>uZ τ st.1 st.2 @C α
theorem pU (l:ee) (items:G') (n:Nat) (G:Q') (L:K'):
  Meets (Builtin.«enumerate.__new__» ⟨[.type "enumerate",.ref l],[]⟩) (λ_ R s=>s.heap.get? l=ak {cls:= .type "tuple",dict:=G,data:= .seq items n,slots:=L}/\
   R (!bB (.ref (s.heap.push {cls:= .type "tuple_iterator",data:= .fields #[.ref l,.int 0 0]}).objs.size))
     {s with heap:=(s.heap.push {cls:= .type "tuple_iterator",data:= .fields #[.ref l,.int 0 0]}).push {cls:= .type "enumerate",data:= .fields #[.none,.bool false,.ref s.heap.objs.size,rawInt 0,.none,.none]}}):=
 .of_wp λprog w A R s h=>by
  obtain⟨O,g,d,tk,os⟩:=s;obtain⟨hl,h⟩:=h;have Z:=sub_enumerate;have υ:Heap.IsTuple (Shared.heap ⟨O,g,d,tk,os⟩) l items:=⟨_,hl,rfl,n,rfl⟩
  wp_walk using XA hl
  refine wpAny_stack_any λst=>nr ?_;split
  ·rename_i c _ _ _ _ _;cases(c == Xp "enumerate")
   ·wp_walk using XA hl,XU υ
    exact⟨_,rfl,h⟩
   ·wp_walk using XA hl,XU υ
    exact⟨_,rfl,h⟩
  ·wp_walk using XA hl,XU υ
   exact⟨_,rfl,h⟩
theorem p4 {prog:pT} {w:z0} {A:xY} {E:D'} {s:kb} {l:ee} {items:G'} {Q:D'} (υ:s.heap.IsTuple l items)
  (h:∀h',IsEnum h' @am s.heap.objs.size 0 .none->h'.IsTupleIter s.heap.objs.size l 0->h'.objs.size=s.heap.objs.size + 2->
   (∀b o,s.heap.get? b=ak o->h'.get? b=ak o)->Q (!j @am) {s with heap:=h'}):
  lT @a3 A (call (!ai "enumerate") [.ref l]) Q E s:=by
 obtain⟨⟨c,O,Y,L⟩,hl,G,n,hd⟩:=υ;replace G:c= .type "tuple":=G;replace hd:Y= .seq items n:=hd;subst G hd
 refine callType_new F.called_enumerate @D (F.typeCall_enumerate_1 _) (F.newCall_enumerate_1 _) (λobj=>F.args_object_init_2 obj _) F.entry_enumerate_new
  (pU l items n O L) ⟨hl,?_⟩
 have hz:(s.heap.push {cls:= .type "tuple_iterator",data:= .fields #[.ref l,.int 0 0]}).objs.size=s.heap.objs.size + 1:=Xx ..
 show _/\_;rw[hz]
 have he:IsEnum ((s.heap.push {cls:= .type "tuple_iterator",data:= .fields #[.ref l,.int 0 0]}).push
   {cls:= .type "enumerate",data:= .fields #[.none,.bool false,.ref s.heap.objs.size,rawInt 0,.none,.none]}) @am s.heap.objs.size 0 .none:=by
  have:=mc (s.heap.push {cls:= .type "tuple_iterator",data:= .fields #[.ref l,.int 0 0]})
   (o:={cls:= .type "enumerate",data:= .fields #[.none,.bool false,.ref s.heap.objs.size,rawInt 0,.none,.none]}) rfl
  rw[hz] at this;exact this
 refine⟨⟨_,he,rfl⟩,h _ he ⟨_,gB _ (mc _ rfl),rfl,rfl⟩ (by rw[Xx,hz]) λb o x=>gB _ (gB _ x)⟩
noncomputable def Itet (K:b') (a:ee):It:=
 ⟨λi H=>∃xs x,SqT K H a xs/\xs[i]? =ak x,λi H x H'=>∃p v,H p=f'/\x= .ref p/\H'=upd H p (!G [.int i,v])/\∀xs,SqT K H a xs->xs[i]? =ak v,λi H=>∃xs,SqT K H a xs/\xs.length=i⟩
theorem FV {P:pT} {w:z0} {K:b'} {η:eS xo} {k:Nat} {pos:Pos} (a e α:ee) (β:e≠α):
  Turn P w K (.Tuple η k pos) (Itet K a) [e,α] e (λi h=>(∃O,IsEnum h e α i O)/\h.IsTupleIter α a i) where
 mem:=by simp
 obj:=λi h st b hb=>by
  obtain⟨⟨O,he⟩,⟨o,ho,φ,hd⟩⟩:=st;rcases qq.mp hb with z | z
  ·subst z;exact⟨_,he,λv z=>by cases z⟩
  ·rw[gs.mp z];exact⟨o,ho,λv z=>by rw[hd] at z;cases z⟩
 keep:=λi h h' st k=>⟨let ⟨O,he⟩:=st.1;⟨O,k e @C _ he⟩,(let ⟨o,ho,r⟩:=st.2;⟨o,k α @C o ho,r⟩)⟩
 item:=by
  intro X hP hw hK φ i pins s σ H E I hf st χ;subst hP hw hK;obtain⟨xs,x,υ,τ⟩:=χ;obtain⟨its,ρ,p,hz⟩:=I.tuple υ;have ν:s.heap.IsTuple a its.toArray:=p;obtain⟨⟨O,he⟩,hl⟩:=st
  have ο:a≠α:=λz=>by
   obtain⟨o,ho,ξ,_⟩:=hl;obtain⟨o',ι,Y,_⟩:=ν;rw[z,ho] at ι;cases ι;rw[ξ] at Y;exact hF Y @D
  have π:a≠e:=λz=>by
   obtain⟨o',ι,Y,_⟩:=ν;rw[z,he] at ι;cases ι;exact hF (show Xp "enumerate"= .type "tuple" from Y) @D
  have W:=Wl (prog:=X.prog) (w:=X.w) (A:=X.A) (Draws.tuple (A:=X.A.in1) (I.ok.hd φ) α a ο its.toArray) e β (by simp[β,ro π]) @C;have hi:i < its.toArray.size:=by have:=ρ.length;have:=(!M τ).1;simp;omega
  refine W.item i s _ _ hi ⟨⟨O,he⟩,hl,ν⟩ λT a3 h' tk ω hT δ ε hk=>⟨_,rfl,W.go η k pos i T _ _ _ ε λa0 Z L=>?_⟩;obtain⟨t,θ,G,rfl⟩:=ω;have ψ:=W.apart i T h' ε
  have ru:RelV x θ:=by
   obtain⟨u,hu,r⟩:=ρ.get τ;have γ:its[i]? =ak θ:=by simpa using G
   rw[hu] at γ;cases γ;exact r
  have ζ:∀b u,b∉[e,α]->s.heap.get? b=ak u->a0.get? b=ak u:=λb u hb q=>L b u hb (hk b u hb q);have fr:H T=none:=I.hok.fresh hT;refine⟨!j T,!Y T @cq,I.laidCh (t':=tk) ζ hT ⟨Bg,[.int i t,θ],.cons ⟨t,rfl⟩ (!bf ru),?_⟩ hf,rfl,⟨T,x,fr,rfl,rfl,λys hy=>by rw[I.tuple_inj hy υ];exact τ⟩,⟨Z.1,Z.2.1⟩,λb hb=>?_⟩
  ·obtain⟨o,ho,r⟩:=δ;exact⟨o,L T o ψ ho,r⟩
  ·have fb:=(hf b hb);rw[aH (λz=>?_)]
   ·exact fb.1
   ·have lt:b < s.heap.objs.size:=by
     rcases qq.mp hb with z | z
     ·subst z;exact ib he
     ·rw[gs.mp z];obtain⟨o,ho,_⟩:=hl;exact ib ho
    rw[z] at lt;exact hF (fy lt hT) (VJ _)
 done:=by
  intro X hP hw hK φ i pins s σ H E I hf st χ;subst hP hw hK;obtain⟨xs,υ,τ⟩:=χ;obtain⟨its,ρ,p,hz⟩:=I.tuple υ;have ν:s.heap.IsTuple a its.toArray:=p;obtain⟨⟨O,he⟩,hl⟩:=st
  have ο:a≠α:=λz=>by
   obtain⟨o,ho,ξ,_⟩:=hl;obtain⟨o',ι,Y,_⟩:=ν;rw[z,ho] at ι;cases ι;rw[ξ] at Y;exact hF Y @D
  have π:a≠e:=λz=>by
   obtain⟨o',ι,Y,_⟩:=ν;rw[z,he] at ι;cases ι;exact hF (show Xp "enumerate"= .type "tuple" from Y) @D
  have W:=Wl (prog:=X.prog) (w:=X.w) (A:=X.A) (Draws.tuple (A:=X.A.in1) (I.ok.hd φ) α a ο its.toArray) e β (by simp[β,ro π]) @C;have hn:its.toArray.size=i:=by have:=ρ.length;simp;omega
  subst hn;exact W.done s _ _ ⟨⟨O,he⟩,hl,ν⟩ λh' tk hk=>⟨rfl,I.turnedCh hk hf⟩
 self:=λ_ _ _ _ _ st h=>let ⟨_,he⟩:=st.1;W9 he h
noncomputable def Ol (K:b') (tl:TE):TI:=fun σ H R=>tl σ H λx H1=>∃a,x= .ref a/\(((∃xs,SqL K H1 a xs)/\R (Ite K a) H1)∨((∃xs,SqT K H1 a xs)/\R (Itet K a) H1))
section
variable {X:Cx} {K:b'}
theorem rL {l:xo} {tl:TE} {Y:eS xo} {k:Nat} {tpos p pos:Pos} (h:X.K=K) (γ:Gl X "enumerate") (hm:X.mg "enumerate"=f') (hl:!E l tl) (hs:ov [l] X.env=[(false,eval l X.env)]:=by rfl):
  PI X (.Tuple Y k tpos) (!aP "enumerate" p [l] [] pos) (Ol K tl):=by
 subst h;intro pins s σ H R I h;refine ZV (nK I γ hm boot_enumerate (vu (thn (aa hl af hs pos pins s σ H (λvs H1=>match vs with | [x]=>∃a,x= .ref a/\(((∃xs,SqL X.K H1 a xs)/\R (Ite X.K a) H1)∨((∃xs,SqT X.K H1 a xs)/\R (Itet X.K a) H1)) | _=>False) I h) λus L ⟨vs,H1,I1,ζ,G⟩=>?_) hs rfl))
 match vs,ζ,G with
 | [x],ζ,G=>
 obtain⟨u,rfl,β⟩:=ζ.one;obtain⟨a,rfl,G⟩:=G;cases β
 have fin:∀b∈[L.heap.objs.size + 1,L.heap.objs.size],FpOk X pins H1 b:=λb hb=>by
  have O:L.heap.objs.size<=b:=(qq.mp hb).elim (λz=>by rw[z];exact Yz _) (λz=>by rw[gs.mp z];exact oe _);exact !bA O O
 rcases G with ⟨⟨xs,Z⟩,q⟩ | ⟨⟨xs,Z⟩,q⟩
 ·obtain⟨its,α,pl,hz⟩:=I1.list Z;refine af5 pl.isList λh' he η hsz hk=>W9 he ?_;exact⟨L.heap.objs.size + 1,[L.heap.objs.size + 1,L.heap.objs.size],_,_,H1,rfl,@cH,zf a _ _ (Vr (VP _)),⟨⟨_,he⟩,η⟩,fin,q⟩
 ·obtain⟨its,α,pl,hz⟩:=I1.tuple Z;refine p4 (show L.heap.IsTuple a its.toArray from pl) λh' he η hsz hk=>W9 he ?_;exact⟨L.heap.objs.size + 1,[L.heap.objs.size + 1,L.heap.objs.size],_,_,H1,rfl,@cH,FV a _ _ (Vr (VP _)),⟨⟨_,he⟩,η⟩,fin,q⟩
end
theorem Hn {K:b'} {n:Nat} {fx:Cr} {g:TG} {tc:TT} {te:TE} {σ:St} {H1:Hp} {D:ee} {Q:Hp->Prop} {a:ee} {xs:eS V} (L:Nat->eS V->Hp->Prop) (h0:L 0 [] (!a1 H1 [])) (hl:∀i ys H,i<=xs.length->L i ys H->SqL K H a xs)
  (hs:∀i x ys H p H',xs[i]? =ak x->L i ys H->H p=f'->Same H H'->H' p=ak @cq->g @P (d3 n fx σ) H' λG β=>tc G β λb α=>if b=true then te G α λv Z=>Z D=ak @X/\ys.length < kf/\L @J @a8 (!a1 Z @a8) else L @J ys α)
  (hd:∀ys H,L xs.length ys H->Q H):
  ∃W:Nat->Nat->eS V->Hp->Prop,(∃m,W 0 m [] (!a1 H1 []))/\∀i m ys H2,W i m ys H2->(!bI (Ite K a))∨
    ((Ite K a).go i H2/\∃N:eS V->Hp->Prop,(∀O H',N O H'->∃ν,ν < m/\W @J ν O H')/\∀x γ,(Ite K a).yld i H2 x γ->g x (d3 n fx σ) γ λG β=>tc G β λb α=>
      if b=true then te G α λv Z=>Z D=ak @X/\ys.length < kf/\N @a8 (!a1 Z @a8) else N ys α):=by
 refine⟨λi m ys H=>m=xs.length - i/\i<=xs.length/\L i ys H,⟨xs.length,@C,Vh _,h0⟩,?_⟩;rintro i m ys H ⟨rfl,hi,p⟩;have q:=hl i ys H hi p;by_cases Y:i < xs.length
 ·refine !F ⟨⟨xs,xs[i],q,by simp[Y]⟩,L @J,λO H' ε=>⟨xs.length - @J,by omega,rfl,Y,ε⟩,λx H' y=>?_⟩;obtain⟨r,v,f,ζ,δ,y⟩:=y;subst ζ δ;exact hs i v ys H r _ (y xs q) p f (bj f) ay
 ·have e:i=xs.length:=by omega
  subst e;exact !J ⟨⟨xs,q,rfl⟩,hd ys H p⟩
theorem uq {K:b'} {n:Nat} {fx:Cr} {g:TG} {tc:TT} {te:TE} {σ:St} {H1:Hp} {D:ee} {Q:Hp->Prop} {a:ee} {xs:eS V} (L:Nat->eS V->Hp->Prop) (h0:L 0 [] (!a1 H1 [])) (hl:∀i ys H,i<=xs.length->L i ys H->SqT K H a xs)
  (hs:∀i x ys H p H',xs[i]? =ak x->L i ys H->H p=f'->Same H H'->H' p=ak @cq->g @P (d3 n fx σ) H' λG β=>tc G β λb α=>if b=true then te G α λv Z=>Z D=ak @X/\ys.length < kf/\L @J @a8 (!a1 Z @a8) else L @J ys α)
  (hd:∀ys H,L xs.length ys H->Q H):
  ∃W:Nat->Nat->eS V->Hp->Prop,(∃m,W 0 m [] (!a1 H1 []))/\∀i m ys H2,W i m ys H2->(!bI (Itet K a))∨
    ((Itet K a).go i H2/\∃N:eS V->Hp->Prop,(∀O H',N O H'->∃ν,ν < m/\W @J ν O H')/\∀x γ,(Itet K a).yld i H2 x γ->g x (d3 n fx σ) γ λG β=>tc G β λb α=>
      if b=true then te G α λv Z=>Z D=ak @X/\ys.length < kf/\N @a8 (!a1 Z @a8) else N ys α):=by
 refine⟨λi m ys H=>m=xs.length - i/\i<=xs.length/\L i ys H,⟨xs.length,@C,Vh _,h0⟩,?_⟩;rintro i m ys H ⟨rfl,hi,p⟩;have q:=hl i ys H hi p;by_cases Y:i < xs.length
 ·refine !F ⟨⟨xs,xs[i],q,by simp[Y]⟩,L @J,λO H' ε=>⟨xs.length - @J,by omega,rfl,Y,ε⟩,λx H' y=>?_⟩;obtain⟨r,v,f,ζ,δ,y⟩:=y;subst ζ δ;exact hs i v ys H r _ (y xs q) p f (bj f) ay
 ·have e:i=xs.length:=by omega
  subst e;exact !J ⟨⟨xs,q,rfl⟩,hd ys H p⟩
section
variable {σ:St} {H:Hp} {te:TE} {R:It->Hp->Prop}
theorem bL {K:b'} (h:te σ H λx H1=>∃a,x= .ref a/\(((∃xs,SqL K H1 a xs)/\R (Ite K a) H1)∨((∃xs,SqT K H1 a xs)/\R (Itet K a) H1))):Ol K te σ H R:=h
end
namespace ZP
noncomputable abbrev Busy (h:zx) (z TI TO T:ee) (G:US):Prop:=h.get? z=ak {cls:= .type "zip",data:= .fields #[rawInt T,.bool G,.bool false,.ref TI,.ref TO]}
section
variable {prog:pT} {w:z0} {A:xY} {E:D'} {s:kb}
theorem JO {z TI TO T:ee} {G:US} {ξ:Zs} {Q:US->kb->Prop} (hz:Busy s.heap z TI TO T G) (hT:s.heap.get? T=ak ξ) (h:∀h',Busy h' z TI TO T true->Xm z s.heap h'->Q false {s with heap:=h'}):
  lT @a3 A (XD @b1) Q E s:=by
 unfold XD;refine gn (Vn hz rfl (x:=rawInt T) rfl ?_);show lT _ _ (loadIfAlive ((T:Int).toNat) >>=_) _ _ s;rw[lj];refine gn (PySem.W.kdx_alive hT ?_);rw[mu @C];refine gn (Vn hz rfl (x:= .bool G) rfl ?_);cases G with
 | true=>
   rw[mu @D];exact nr (h s.heap hz ⟨rfl,λ_ _=>rfl⟩)
 | false=>
   rw[oL @D];refine gn (wpAny_setField_rec hz (by show 1 < 5;decide) λh' e hs=>nr (h h' e hs))
theorem JQ {z TI TO T i1 i2 Y υ:ee} {ρ:US} {ξ:Zs} {i:Nat} {xs ys:G'} {x y:kk} {Q:U3->kb->Prop} (ap:ZipApart z TI TO i1 i2 Y υ) (hz:Busy s.heap z TI TO T ρ) (hT:s.heap.get? T=ak ξ)
  (hI:IsPair s.heap TI (!j i1) (!j i2)) (h1:s.heap.IsListIter i1 Y i) (h2:s.heap.IsListIter i2 υ i) (hl1:s.heap.IsList Y xs) (hl2:s.heap.IsList υ ys) (π:xs[i]? =ak x) (ο:ys[i]? =ak y)
  (h:∀h',Busy h' z TI TO T true->h'.IsListIter i1 Y @J->h'.IsListIter i2 υ @J->(∀b o,b≠z->b≠i1->b≠i2->s.heap.get? b=ak o->h'.get? b=ak o)->h'.get? s.heap.objs.size=ak {cls:= .type "tuple",data:= .seq #[x,y]}->Q (ak @aS) {s with heap:=h'}):
  lT @a3 A (pyNext @b1) Q E s:=by
 have ty:s.TypeIs @b1 "zip":=⟨_,hz,rfl⟩;unfold pyNext;refine gn (wpAny_attempt (X9 (name:=Vq "__next__") ty F.slot_zip_next (Xl F.slot_zip_next ty F.entry_zip_next ?_ (F.args_zip_next_1 _))));unfold Builtin.«zip.__next__»;refine gn (ae7 (a:=(p' z,[])) rfl ?_);dsimp only;refine gn (Vn hz rfl (x:= .bool false) rfl ?_);refine gn (Vn hz rfl (x:= .ref TI) rfl ?_);refine gn (WN hI rfl ?_);dsimp only;rw[mu (show ¬(#[p' i1,p' i2].isEmpty=true) from ia)];refine gn (JO hz hT λh' ω hs=>?_);rw[mu @D];rw[<-ab7];simp only[Yd,ag0];have keep:∀{b:ee} {o:Zs},b≠z->s.heap.get? b=ak o->h'.get? b=ak o:=λZ e=>(hs.2 _ Z).trans e;have θ:h'.IsListIter i1 Y i:=h1.at λo e=>keep ap.i1z e;have η:h'.IsListIter i2 υ i:=h2.at λo e=>keep ap.i2z e;have ε:h'.IsList Y xs:=let ⟨o,e,c⟩:=hl1;⟨o,keep ap.l1z e,c⟩
 have G:h'.IsList υ ys:=let ⟨o,e,c⟩:=hl2;⟨o,keep ap.l2z e,c⟩
 refine gn (gn (gn (VH ?_)));show lT _ _ (UW (!j i1) >>=λx=>pure (ak x)) _ _ _;refine gn (ad0 θ ε π fun ι ζ β=>nr ?_);dsimp only;refine @b7;dsimp only;have L:∀{b:ee} {o:Zs},b≠i1->h'.get? b=ak o->ι.get? b=ak o:=λZ e=>(β.2 _ Z).trans e;refine gn (gn (VH ?_));show lT _ _ (UW (!j i2) >>=λx=>pure (ak x)) _ _ _;refine gn (ad0 (η.at λo e=>L (ro ap.i12) e) (let ⟨o,e,c⟩:=G;⟨o,L ap.l2i1 e,c⟩) ο fun γ δ α=>nr ?_);have O:∀{b:ee} {o:Zs},b≠i2->ι.get? b=ak o->γ.get? b=ak o:=λZ e=>(α.2 _ Z).trans e;dsimp only;refine @b7;dsimp only;refine @b7;dsimp only;have es:γ.objs.size=s.heap.objs.size:=α.1.trans (β.1.trans hs.1);refine gn (wpAny_newTuple (nr ⟨_,rfl,nr ?_⟩) (by show 2<=kf;rw[ix];decide));show Q (ak (.ref γ.objs.size)) {s with heap:=γ.push _};rw[es];refine h _ ?_ ?_ ?_ (λb o nz n1 ν e=>gB _ (O ν (L n1 (keep nz e)))) ?_
 ·exact gB _ (O (ro ap.i2z) (L (ro ap.i1z) ω))
 ·exact ζ.at λo e=>gB _ (O ap.i12 e)
 ·exact δ.at λo e=>gB _ e
 ·rw[<-es];exact mc _ rfl
theorem MM {z TI TO T i1 i2 G υ:ee} {α:US} {ξ:Zs} {i:Nat} {xs:G'} {Q:U3->kb->Prop} (τ:@bd) (ap:ZipApart z TI TO i1 i2 G υ) (hz:Busy s.heap z TI TO T α) (hT:s.heap.get? T=ak ξ)
  (hI:IsPair s.heap TI (!j i1) (!j i2)) (h1:s.heap.IsListIter i1 G i) (hl1:s.heap.IsList G xs) (Y:xs[i]? =f')
  (h:∀h',(∀b o,b≠z->b≠i1->s.heap.get? b=ak o->h'.get? b=ak o)->Q f' {s with heap:=h'}):
  lT @a3 A (pyNext @b1) Q E s:=by
 have ty:s.TypeIs @b1 "zip":=⟨_,hz,rfl⟩;unfold pyNext;refine gn (wpAny_attempt (X9 (name:=Vq "__next__") ty F.slot_zip_next (Xl F.slot_zip_next ty F.entry_zip_next ?_ (F.args_zip_next_1 _))));unfold Builtin.«zip.__next__»;refine gn (ae7 (a:=(p' z,[])) rfl ?_);dsimp only;refine gn (Vn hz rfl (x:= .bool false) rfl ?_);refine gn (Vn hz rfl (x:= .ref TI) rfl ?_);refine gn (WN hI rfl ?_);dsimp only;rw[mu (show ¬(#[p' i1,p' i2].isEmpty=true) from ia)];refine gn (JO hz hT λh' ω hs=>?_);rw[mu @D];rw[<-ab7];simp only[Yd,ag0];have keep:∀{b:ee} {o:Zs},b≠z->s.heap.get? b=ak o->h'.get? b=ak o:=λO e=>(hs.2 _ O).trans e;have Z:h'.IsListIter i1 G i:=h1.at λo e=>keep ap.i1z e;have ε:h'.IsList G xs:=let ⟨o,e,c⟩:=hl1;⟨o,keep ap.l1z e,c⟩
 refine gn (gn (gn (VH ?_)));show lT _ _ (UW (!j i1) >>=λx=>pure (ak x)) _ _ _;refine gn (wpAny_nextOf_list_end (by first | exact τ | (rw[show A.in1.handled=f' from τ])) Z ε Y λL e ex he=>?_);refine gn (wpAny_isInstance (T:="StopIteration") (b:=true) (s:={s with heap:=L}) (let ⟨o,a,b⟩:=he;⟨o,a,b⟩) isSubtype_stop ?_);exact nr (h L λb o nz n1 β=>ex b o n1 (keep nz β))
structure ZGot (h:zx) (lo:Nat) (xs ys:G') (as:M'):Prop where
 rise:as.Pairwise (· < ·)
 above:∀a∈as,lo<=a/\a < h.objs.size
 pairs:∀(j:Nat) (a:ee),as[j]? =ak a->∃x y,xs[j]? =ak x/\ys[j]? =ak y/\h.IsTuple a #[x,y]
structure ZSt (h:zx) (z TI TO i1 i2 l1 l2:ee) (lo:Nat) (xs ys:G') (i:Nat) (as:M'):Prop where
 zp:(i=0/\IsZip h z TI TO .none)∨∃T fl,Busy h z TI TO T fl/\as[0]? =ak T
 hI:IsPair h TI (!j i1) (!j i2)
 hO:∃a b,IsPair h TO a b
 h1:h.IsListIter i1 l1 i
 h2:h.IsListIter i2 l2 i
 hl1:h.IsList l1 xs
 hl2:h.IsList l2 ys
 len:as.length=i
 got:ZGot h lo xs ys as
structure Und (z TI TO i1 i2 l1 l2 S:ee) (lo:Nat):Prop where
 ap:ZipApart z TI TO i1 i2 l1 l2
 Sz:S≠z
 STI:S≠TI
 STO:S≠TO
 Si1:S≠i1
 Si2:S≠i2
 Sl1:S≠l1
 Sl2:S≠l2
 z:z < lo
 TO:TO < lo
 i1:i1 < lo
 i2:i2 < lo
 S:S < lo
theorem ml {h:zx} {a:ee} {o:Zs} (e:h.get? a=ak o):a < h.objs.size:=ib e
theorem ZGot.keep {h h':zx} {lo:Nat} {xs ys:G'} {Y:M'} (g:ZGot h lo xs ys Y) (k:∀b o,lo<=b->h.get? b=ak o->h'.get? b=ak o):ZGot h' lo xs ys Y:=by
 have k2:∀a∈Y,h'.IsTuple a #[.none,.none]->True:=λ_ _ _=>trivial;refine⟨g.rise,λa ha=>?_,λj a G=>?_⟩
 ·obtain⟨j,G⟩:=wq.mp ha;obtain⟨x,y,_,_,o,e,_⟩:=g.pairs j a G;exact⟨(g.above a ha).1,ml (k a o (g.above a ha).1 e)⟩
 ·obtain⟨x,y,O,L,o,e,c⟩:=g.pairs j a G;exact⟨x,y,O,L,o,k a o (g.above a (eH G)).1 e,c⟩
theorem ZGot.more {h:zx} {lo:Nat} {xs ys:G'} {Y:M'} {a:ee} {x y:kk} (g:ZGot h lo xs ys Y) (ha:∀b∈Y,b < a) (L:lo<=a) (hx:xs[Y.length]? =ak x) (hy:ys[Y.length]? =ak y) (ht:h.IsTuple a #[x,y]):ZGot h lo xs ys (Y++[a]):=by
 refine⟨aa6.mpr ⟨g.rise,ZI _ _,λb hb c O=>by rw[gs.mp O];exact ha b hb⟩,λb hb=>?_,λj b G=>?_⟩
 ·rcases gz.mp hb with z | z
  ·exact g.above b z
  ·rw[gs.mp z];obtain⟨o,e,_⟩:=ht;exact⟨L,ml e⟩
 ·by_cases hl:j < Y.length
  ·rw[ky hl] at G;exact g.pairs j b G
  ·rw[lB @A] at G
   have ζ:j=Y.length:=by
    have:=(@aD).1;simp at this;omega
   subst ζ;rw[X7] at G;have:a=b:=by simpa using G
   subst this;exact⟨x,y,hx,hy,ht⟩
theorem loop {R:U0} {z TI TO i1 i2 ι υ S:ee} {lo:Nat} {xs ys:G'} (τ:@bd) (U:Und z TI TO i1 i2 ι υ S lo) (hn:xs.size<=kf) (a6:@cG) (res:kk) {h₁:zx}
  (hR:∀h' tk Z c Y,(∀b o,b≠S->b≠z->b≠TO->b≠i1->b≠i2->h₁.get? b=ak o->h'.get? b=ak o)->h'.get? S=ak {cls:= .type "list",data:= .seq Z c}->Z.toList=Y.map .ref->Y.length=xs.size->ZGot h' lo xs ys Y->R (!bB res) {s with heap:=h',toks:=tk}):
  ∀(k i:Nat) (h:zx) (tk c:Nat) (Z:G') (Y:M'),xs.size - i=k->i<=xs.size->lo<=h.objs.size->ZSt h z TI TO i1 i2 ι υ lo xs ys i Y->
    (∀b o,b≠S->b≠z->b≠TO->b≠i1->b≠i2->h₁.get? b=ak o->h.get? b=ak o)->h.get? S=ak {cls:= .type "list",data:= .seq Z c}->Z.toList=Y.map .ref->
    codeAny @a3 A (ai0 "list.extend.loop" {pos:=[.ref S,.ref z,res]}) R {s with heap:=h,toks:=tk}:=by
 have ap:=U.ap;intro k
 induction k with
 | zero=>
   intro i h tk c Z Y hk hi η st kh θ α;have a4:i=xs.size:=by omega
   subst a4;refine WY F.entry_extend_loop ?_;rw[Wq F.plain_extend_loop];show lT _ A.in1 (pyNext @b1 >>=_) _ _ _;refine gn ?_
   have fin:∀h' G,(∀b o,b≠z->b≠TO->b≠i1->b≠i2->h.get? b=ak o->h'.get? b=ak o)->R (!bB res) {s with heap:=h',toks:=G}:=λh' G ζ=>
    hR h' G Z c Y (λb o n1 γ ε β δ e=>ζ b o γ ε β δ (kh b o n1 γ ε β δ e)) (ζ S _ U.Sz U.STO U.Si1 U.Si2 θ) α st.len (st.got.keep λb o hb e=>ζ b o (Vr (fy U.z hb)) (Vr (fy U.TO hb)) (Vr (fy U.i1 hb)) (Vr (fy U.i2 hb)) e)
   rcases st.zp with ⟨h0,hz⟩ | ⟨T,φ,hz,hT⟩
   ·have W:=YV (prog:=prog) (w:=w) (A:=A.in1) τ z TI TO i1 i2 ι υ ap xs ys;have em:min xs.size ys.size=xs.size:=by omega
    rw[em] at W;refine W.done {s with heap:=h,toks:=tk} _ _ ⟨hz,st.hI,st.hO,st.h1,st.h2,st.hl1,st.hl2⟩ λh' G ζ=>?_;exact nr (fin h' G λb o γ ε β δ e=>ζ b o (by simp[γ,ε,β,δ]) e)
   ·obtain⟨x,y,_,_,ξ,eT,_⟩:=st.got.pairs 0 T hT;refine MM (s:={s with heap:=h,toks:=tk}) τ ap hz eT st.hI st.h1 st.hl1 @C λh' ζ=>?_;exact nr (fin h' tk λb o γ ε β δ e=>ζ b o γ β e)
 | succ k ih=>
   intro i h tk c Z Y hk hi η st kh θ α;have ο:i < xs.size:=by omega
   have ψ:xs[i]? =ak xs[i]:=WE ο;have χ:ys[i]? =ak (ys[i]' @A):=WE @A;generalize xs[i]=x at ψ;generalize ys[i]'_=y at χ;refine WY F.entry_extend_loop ?_;rw[Wq F.plain_extend_loop];show lT _ A.in1 (pyNext @b1 >>=_) _ _ _;refine gn ?_
   have go:∀(a:ee) (h':zx) (G:Nat),h.objs.size<=a->h'.IsTuple a #[x,y]->(∀b o,b≠z->b≠TO->b≠i1->b≠i2->h.get? b=ak o->h'.get? b=ak o)->lo<=h'.objs.size->
     (∃T φ,Busy h' z TI TO T φ/\(Y++[a])[0]? =ak T)->IsPair h' TI (!j i1) (!j i2)->(∃a b,IsPair h' TO a b)->h'.IsListIter i1 ι @J->h'.IsListIter i2 υ @J->h'.IsList ι xs->h'.IsList υ ys->
     lT @a3 A.in1 (Xo @aF (λq=>q.push @aa) >>=λ_=>again (ai0 "list.extend.loop" {pos:=[.ref S,.ref z,res]}))
      (λfin s'=>match fin with | .done f=>R (.ok f) s' | .again c'=>c'.quiet=true/\codeAny @a3 A c' R s') (!bU e) {s with heap:=h',toks:=G}:=by
    intro a h' G ha ht ζ π a0 hI hO h1 h2 hl1 hl2;have ρ:=ζ S _ U.Sz U.STO U.Si1 U.Si2 θ;have aS:a≠S:=Vr (fy (ml θ) ha);have hsz:Z.size=i:=by have:=px zz α;rw[aI,st.len] at this;simpa using this
    have oth:∀b o,b≠S->h'.get? b=ak o->(h'.update S (UO λq=>q.push @aa)).get? b=ak o:=λb o hb e=>(U9 _ _ (ro hb)).trans e;have ν:=Vb (UO (λq=>q.push (p' a))) ρ rfl;refine gn (Xy (s:={s with heap:=h',toks:=G}) ρ rfl (nr ⟨Y9 F.plain_extend_loop _,?_⟩) (by rw[hsz];omega) (by rw[Array.size_push,hsz];omega));refine ih @J (h'.update S _) G _ (Z.push @aa) (Y++[a]) @A ο ?_ ⟨.inr ?_,?_,?_,?_,?_,?_,?_,?_,?_⟩ ?_ ν ?_
    ·have es:(h'.update S (UO λq=>q.push @aa)).objs.size=h'.objs.size:=(VZ ..).1;rw[es];exact π
    ·obtain⟨T,φ,e,q⟩:=a0;exact⟨T,φ,oth _ _ (ro U.Sz) e,q⟩
    ·exact oth _ _ (ro U.STI) hI
    ·obtain⟨p,q,e⟩:=hO;exact⟨p,q,oth _ _ (ro U.STO) e⟩
    ·exact h1.at λo e=>oth _ o (ro U.Si1) e
    ·exact h2.at λo e=>oth _ o (ro U.Si2) e
    ·exact let ⟨o,e,c⟩:=hl1;⟨o,oth _ o (ro U.Sl1) e,c⟩
    ·exact let ⟨o,e,c⟩:=hl2;⟨o,oth _ o (ro U.Sl2) e,c⟩
    ·rw[fD,st.len];rfl
    ·have g:=st.got.keep (h':=h'.update S (UO λq=>q.push @aa)) λb o hb e=>oth b o (Vr (fy U.S hb)) (ζ b o (Vr (fy U.z hb)) (Vr (fy U.TO hb)) (Vr (fy U.i1 hb)) (Vr (fy U.i2 hb)) e);refine g.more (λb hb=>fy (st.got.above b hb).2 ha) (Vs η ha) (by rw[st.len];exact ψ) (by rw[st.len];exact χ) (let ⟨o,e,c⟩:=ht;⟨o,oth _ o aS e,c⟩)
    ·exactλb o n1 γ ε β δ e=>oth b o n1 (ζ b o γ ε β δ (kh b o n1 γ ε β δ e))
    ·rw[Array.toList_push,α,dt];rfl
   rcases st.zp with ⟨h0,hz⟩ | ⟨T,φ,hz,hT⟩
   ·have W:=YV (prog:=prog) (w:=w) (A:=A.in1) τ z TI TO i1 i2 ι υ ap xs ys;have em:min xs.size ys.size=xs.size:=by omega
    rw[em] at W;refine W.item i {s with heap:=h,toks:=tk} _ _ ο ⟨hz,st.hI,st.hO,st.h1,st.h2,st.hl1,st.hl2⟩ λT a5 h' G hp hT ht L ζ=>?_;obtain⟨x',y',ex,ey,rfl⟩:=hp;rw[ψ] at ex;cases ex;rw[χ] at ey;cases ey;obtain⟨m1,m2,m3,m4,m5,m6,m7,_⟩:=L;have O:Y=[]:=Zd (st.len.trans h0);refine go T h' G hT ht (λb o γ ε β δ e=>ζ b o (by simp[γ,ε,β,δ]) e) ?_ ⟨T,false,m1,by rw[O];rfl⟩ m2 m3 m4 m5 m6 m7;obtain⟨o,e,_⟩:=ht;exact Vw (w2 (Vs η hT) (ml e))
   ·obtain⟨_,_,_,_,ξ,eT,_⟩:=st.got.pairs 0 T hT;refine JQ (s:={s with heap:=h,toks:=tk}) ap hz eT st.hI st.h1 st.h2 st.hl1 st.hl2 ψ χ λh' ω b1 b2 ζ ht=>?_;refine go h.objs.size h' tk @Y ⟨_,ht,rfl,_,rfl⟩ (λb o γ ε β δ e=>ζ b o γ β δ e) ?_ ⟨T,true,ω,?_⟩ (ζ TI _ ap.TIz ap.TIi1 ap.TIi2 st.hI) (let ⟨p,q,e⟩:=st.hO;⟨p,q,ζ TO _ ap.TOz ap.TOi1 ap.TOi2 e⟩) b1 b2 (let ⟨o,e,c⟩:=st.hl1;⟨o,ζ ι o ap.l1z ap.l1i1 ap.l1i2 e,c⟩) (let ⟨o,e,c⟩:=st.hl2;⟨o,ζ υ o ap.l2z ap.l2i1 ap.l2i2 e,c⟩)
    ·have a3:h'.get? h.objs.size=_:=ht;exact Vw (w2 η (ml a3))
    ·have:0 < Y.length:=(!M hT).1;rw[ky this];exact hT
theorem Uo:typeLookup (!ai "zip") "__len__"=pure none:=by rw[XB,Wx];kernel_rfl
theorem Sq:typeLookup (!ai "zip") "__length_hint__"=pure none:=by rw[XB,Wx];kernel_rfl
structure New (h:zx) (z TI TO i1 i2 l1 l2:ee) (xs ys:G'):Prop where
 ap:ZipApart z TI TO i1 i2 l1 l2
 hz:IsZip h z TI TO .none
 hI:IsPair h TI (!j i1) (!j i2)
 hO:∃a b,IsPair h TO a b
 h1:h.IsListIter i1 l1 0
 h2:h.IsListIter i2 l2 0
 hl1:h.IsList l1 xs
 hl2:h.IsList l2 ys
theorem New.keep {h h':zx} {z TI TO i1 i2 G υ:ee} {xs ys:G'} (n:New h z TI TO i1 i2 G υ xs ys) (k:∀b o,h.get? b=ak o->(b=z∨b=TI∨b=TO∨b=i1∨b=i2∨b=G∨b=υ)->h'.get? b=ak o):New h' z TI TO i1 i2 G υ xs ys where
 ap:=n.ap
 hz:=k _ _ n.hz @C
 hI:=k _ _ n.hI @C
 hO:=let ⟨a,b,e⟩:=n.hO;⟨a,b,k _ _ e @C⟩
 h1:=n.h1.at λo e=>k _ o e @C
 h2:=n.h2.at λo e=>k _ o e @C
 hl1:=let ⟨o,e,c⟩:=n.hl1;⟨o,k _ o e @C,c⟩
 hl2:=let ⟨o,e,c⟩:=n.hl2;⟨o,k _ o e @C,c⟩
theorem SX {R:U0} {z TI TO i1 i2 O υ S:ee} {lo:Nat} {xs ys:G'} (ξ:@bd) (U:Und z TI TO i1 i2 O υ S lo) (N:New s.heap z TI TO i1 i2 O υ xs ys) (hn:xs.size<=kf) (τ:@cG) (α:lo<=s.heap.objs.size) (res:kk) {G:Nat} (θ:s.heap.get? S=ak {cls:= .type "list",data:= .seq #[] G})
  (ρ:∀h' tk L c Y,(∀b o,b≠S->b≠z->b≠TO->b≠i1->b≠i2->s.heap.get? b=ak o->h'.get? b=ak o)->h'.get? S=ak {cls:= .type "list",data:= .seq L c}->L.toList=Y.map .ref->Y.length=xs.size->ZGot h' lo xs ys Y->R (!bB res) {s with heap:=h',toks:=tk}):
  lT @a3 A.in1 (xn @aF @b1 res)
   (λfin s'=>match fin with | .done f=>R (.ok f) s' | .again ι=>ι.quiet=true/\codeAny @a3 A ι R s') (!bU e) s:=by
 have ty:s.TypeIs @b1 "zip":=⟨_,N.hz,rfl⟩;have h1:Ws @aF @b1=false:=by simp[Ws,U.Sz]
 unfold xn;refine gn (Zg ty ?_);rw[mu (by rw[h1];decide)];refine gn (Zt N.hz ?_);refine gn (VH ?_);unfold YE;refine gn (Xz ty Uo ?_);show lT _ A.in1 (specialOf (p' z) (Vq "__length_hint__") >>=_) _ _ _;refine gn (Xz ty Sq ?_);refine @b7;dsimp only;rw[oL @D];refine gn (ag3 (gn ?_));show lT _ _ (updateSeq S (λx=>x.push .none) >>=λ_=>updateSeq S λx=>x.pop) _ _ s;have β:=Vb @d8 θ rfl;have η:∀b o,b≠S->s.heap.get? b=ak o->(!bv S @d8).get? b=ak o:=λb o hb e=>(U9 _ _ (ro hb)).trans e;have δ:(!bv S @d8).objs.size=s.heap.objs.size:=(VZ ..).1;refine gn (Xy θ rfl ?_ (by show 0<=kf;exact Vh _) (by show 1<=kf + 1;omega));generalize π:s.heap.update S @d8=g1 at β η δ;refine Xy (s:={s with heap:=g1}) β rfl ?_ (by show 1<=kf;rw[ix];decide) (by show 0<=kf + 1;omega);have ε:=Vb @d7 β rfl;have ζ:∀b o,b≠S->g1.get? b=ak o->(g1.update S @d7).get? b=ak o:=λb o hb e=>(U9 _ _ (ro hb)).trans e;have γ:(g1.update S @d7).objs.size=g1.objs.size:=(VZ ..).1;generalize ο:g1.update S @d7=g2 at ε ζ γ;refine nr ⟨Y9 F.plain_extend_loop _,?_⟩
 have N2:New g2 z TI TO i1 i2 O υ xs ys:=N.keep λb o e hb=>by
  have Z:b≠S:=by
   rcases hb with rfl | rfl | rfl | rfl | rfl | rfl | rfl
   ·exact ro U.Sz
   ·exact ro U.STI
   ·exact ro U.STO
   ·exact ro U.Si1
   ·exact ro U.Si2
   ·exact ro U.Sl1
   ·exact ro U.Sl2
  exact ζ b o Z (η b o Z e)
 exact loop (s:=s) (h₁:=s.heap) ξ U hn τ res ρ xs.size 0 g2 s.toks _ #[] [] (Nat.sub_zero _) (Vh _) (by rw[γ,δ];exact α) ⟨.inl ⟨rfl,N2.hz⟩,N2.hI,N2.hO,N2.h1,N2.h2,N2.hl1,N2.hl2,rfl,⟨Zq,λ_ h=>hF h @C,λj a ν=>by simp at ν⟩⟩ (λb o n1 _ _ _ _ e=>ζ b o n1 (η b o n1 e)) ε rfl
theorem init {R:U0} {z TI TO i1 i2 Z υ S:ee} {lo:Nat} {xs ys:G'} (ζ:@bd) (U:Und z TI TO i1 i2 Z υ S lo) (N:New s.heap z TI TO i1 i2 Z υ xs ys) (hn:xs.size<=kf) (τ:@cG) (L:lo<=s.heap.objs.size) (θ:s.heap.get? S=ak {cls:= .type "list",data:= .seq #[]})
  (η:∀h' tk G c Y,(∀b o,b≠S->b≠z->b≠TO->b≠i1->b≠i2->s.heap.get? b=ak o->h'.get? b=ak o)->h'.get? S=ak {cls:= .type "list",data:= .seq G c}->G.toList=Y.map .ref->Y.length=xs.size->ZGot h' lo xs ys Y->R (!bB .none) {s with heap:=h',toks:=tk}):
  lT @a3 A.in1 (Builtin.«list.__init__» ⟨[.ref S,.ref z],[]⟩)
   (λfin s'=>match fin with | .done f=>R (.ok f) s' | .again α=>α.quiet=true/\codeAny @a3 A α R s') (!bU e) s:=by
 show lT _ _ (do let O <-WK @aF;Xo @aF (λ_=>#[]);letGo O.toList.reverse;xn @aF @b1 .none) _ _ s;refine gn ?_;unfold WK;refine gn (WN θ rfl @b7);show lT _ _ (updateSeq S (λ_=>#[]) >>=λ_=>letGo (#[]:G').toList.reverse >>=λ_=>xn @aF @b1 .none) _ _ s;refine gn (Xy θ rfl ?_);have ν:=Vb (UO (λ_=>(#[]:G'))) θ rfl;have oth:∀b o,b≠S->s.heap.get? b=ak o->(!bv S (UO (λ_=>(#[]:G')))).get? b=ak o:=λb o hb e=>(U9 _ _ (ro hb)).trans e;have es:(!bv S (UO (λ_=>(#[]:G')))).objs.size=s.heap.objs.size:=(VZ ..).1;refine gn (wpAny_letGo ?_);refine SX (s:={s with heap:=_}) ζ U (N.keep λb o e hb=>oth b o ?_ e) hn τ (by show lo<=(!bv S _).objs.size;rw[es];exact L) .none ν λh' tk G c Y k a1 a2 ξ ι=>η h' tk G c Y (λb o n1 ε δ γ β e=>k b o n1 ε δ γ β (oth b o n1 e)) a1 a2 ξ ι;rcases hb with rfl | rfl | rfl | rfl | rfl | rfl | rfl
 ·exact ro U.Sz
 ·exact ro U.STI
 ·exact ro U.STO
 ·exact ro U.Si1
 ·exact ro U.Si2
 ·exact ro U.Sl1
 ·exact ro U.Sl2
theorem call_list {Q:D'} {z TI TO i1 i2 ε υ:ee} {xs ys:G'} (ο:@bd) (N:New s.heap z TI TO i1 i2 ε υ xs ys) (hn:xs.size<=kf) (τ:@cG)
  (π:∀h' tk G c Y,(∀b o,b≠z->b≠TO->b≠i1->b≠i2->s.heap.get? b=ak o->h'.get? b=ak o)->h'.get? s.heap.objs.size=ak {cls:= .type "list",data:= .seq G c}->G.toList=Y.map .ref->Y.length=xs.size->ZGot h' @am xs ys Y->Q @aS {s with heap:=h',toks:=tk}):
  lT @a3 A (call @bN [.ref z]) Q E s:=by
 have ζ:=ml N.hz;have δ:=ml N.hI;obtain⟨ψ,pb,ρ⟩:=N.hO;have α:=ml ρ;have Z:i1 < s.heap.objs.size:=let ⟨o,e,_⟩:=N.h1;ml e
 have O:i2 < s.heap.objs.size:=let ⟨o,e,_⟩:=N.h2;ml e
 have γ:ε < s.heap.objs.size:=let ⟨o,e,_⟩:=N.hl1;ml e
 have β:υ < s.heap.objs.size:=let ⟨o,e,_⟩:=N.hl2;ml e
 refine ZY (Q₁:=λobj L=>obj= .ref s.heap.objs.size/\L={s with heap:=s.heap.push {cls:= .type "list",data:= .seq #[]}}) F.called_list (F.typeCall_list_1 _) F.entry_list_init (code_list_new _ @bO) λobj L h₁=>?_;obtain⟨rfl,rfl⟩:=h₁;have θ:(s.heap.push {cls:= .type "list",data:= .seq #[]}).get? s.heap.objs.size=ak {cls:= .type "list",data:= .seq #[]}:=mc _ rfl;have up:∀{b:ee},b < s.heap.objs.size->b < s.heap.objs.size + 1:=λh=>XN h;have ne:∀{b:ee},b < s.heap.objs.size->s.heap.objs.size≠b:=λh=>Vr h;have U:Und z TI TO i1 i2 ε υ s.heap.objs.size @am:=⟨N.ap,ne ζ,ne δ,ne α,ne Z,ne O,ne γ,ne β,up ζ,up α,up Z,up O,VP _⟩;have sz:(s.heap.push {cls:= .type "list",data:= .seq #[]}).objs.size=s.heap.objs.size + 1:=by simp[Heap.push]
 refine⟨⟨_,θ,rfl⟩,F.args_list_init_2 _ _,init (A:=A.in1) (s:={s with heap:=_}) ο U (N.keep λb o e _=>gB _ e) hn τ (Yq sz.symm) θ λh' tk G c Y k a1 a2 χ φ=>?_⟩;exact⟨rfl,π h' tk G c Y (λb o ξ ν ι η e=>k b o (u' (ml e)) ξ ν ι η (gB _ e)) a1 a2 χ φ⟩
end
end ZP
open PySem PySem.Spec PyProof.Rows
theorem Bd:∀Y:M',Vals (Y.map V.ref) (Y.map p')
 | []=> .nil
 | _::Y=> .cons rfl (Bd Y)
theorem NS {X:Cx} {pins:Dn} {σ:St} {δ s:kb} {ξ:Hp} (I0:!bS X ξ δ):∀(Y:M') (xs ys:eS V) (H:Hp),Inv X pins σ H s->Y.Pairwise (· < ·)->(∀a∈Y,δ.heap.objs.size<=a/\H a=f')->Y.length=xs.length->Y.length=ys.length->
  (∀(j:Nat) (a:ee) (x y:V),Y[j]? =ak a->xs[j]? =ak x->ys[j]? =ak y->∃u v,RelV x u/\RelV y v/\s.heap.IsTuple a #[u,v])->
  ∃H2,Inv X pins σ H2 s/\Same H H2/\(∀b,b∉Y->H2 b=H b)/\∀(j:Nat) (a:ee) (x y:V),Y[j]? =ak a->xs[j]? =ak x->ys[j]? =ak y->H2 a=ak @bW
 | [],_,_,H,I,_,_,_,_,_=>⟨H,I,Same.refl _,λ_ _=>rfl,λj a x y h=>by simp at h⟩
 | a::Y,[],_,H,I,_,_,h,_,_=>by simp at h
 | a::Y,_,[],H,I,_,_,_,h,_=>by simp at h
 | a::Y,x::xs,y::ys,H,I,pw,fr,l1,l2,ht=>by
   obtain⟨u,v,γ,β,o,e,c⟩:=ht 0 a x y rfl rfl rfl;have Z:=fr a (j' ..);have L:=List.pairwise_cons.mp pw;have na:a∉Y:=λh=>VJ _ (L.1 a h);have ν:Inv X pins σ (!Y a @bW) s:=I.track (I0.fpN (Xf Z.1) Z.2) ⟨Bg,[u,v],.cons γ (!bf β),o,e,c⟩;obtain⟨H2,ι,α,o2,g2⟩:=NS I0 Y xs ys (!Y a @bW) ν L.2 (λb hb=>⟨(fr b (ik _ hb)).1,by rw[aH (λz:b=a=>na (by rw[<-z];exact hb))];exact(fr b (ik _ hb)).2⟩) (by simpa using l1) (by simpa using l2) λj b θ G h1 h2 O=>ht @au b θ G (by simpa using h1) (by simpa using h2) (by simpa using O);refine⟨H2,ι,λb ob h=>α b ob (by rw[aH (aj h Z.2)];exact h),λb hb=>?_,λj b θ G h1 h2 O=>?_⟩
   ·rw[o2 b λz=>hb (ik _ z),aH (λz:b=a=>hb (by rw[z];exact j' ..))]
   ·cases j with
    | zero=>
      have η:a=b:=by simpa using h1
      have ζ:x=θ:=by simpa using h2
      have ε:y=G:=by simpa using O
      subst η ζ ε;exact α a _ ay
    | succ j=>exact g2 j b θ G (by simpa using h1) (by simpa using h2) (by simpa using O)
def QD (K:b') (Q:VK) (x y:V) (H:Hp):Prop:=∃a b xs ys,x= .ref a/\y= .ref b/\SqL K H a xs/\SqL K H b ys/\xs.length=ys.length/\
 ∀(D:ee) (ps:M') (G:Hp),H D=f'->Same H G->G D=ak (!A (ps.map V.ref))->ps.length=xs.length->(∀(j:Nat) (p:ee) (x y:V),ps[j]? =ak p->xs[j]? =ak x->ys[j]? =ak y->G p=ak @bW)->Q @Z G
noncomputable def tZip (K:b') (Y φ:TE):TE:=fun σ H Q=>Y σ H λx H1=>φ σ H1 λy H2=>QD K Q x y H2
theorem T3 {K:b'} {Y φ:TE} {σ:St} {H:Hp} {Q:VK} (h:Y σ H λx H1=>φ σ H1 λy H2=>QD K Q x y H2):tZip K Y φ σ H Q:=h
section
variable {X:Cx}
theorem SY {K:b'} {α O:xo} {Y φ:TE} {p1 p2:Pos} {pins:Dn} {s:kb} {σ:St} {H:Hp} {Q:VK} (Z:X.K=K) (g2:Gl X "zip") (n2:X.mg "zip"=f') (η:!E α Y) (θ:!E O φ) (h2:ov [α,O] X.env=(false,eval α X.env)::ov [O] X.env) (ξ:ov [O] X.env=[(false,eval O X.env)])
  (I:@N) (h:tZip K Y φ σ H Q) (ω:D')
  (hQ:∀(L:kb) (h':zx) (H1:Hp) (a b:ee) (xs ys:eS V) (its ι:E'),Inv X pins σ H1 L->Vals xs its->Vals ys ι->its.length<=kf->xs.length=ys.length->h'.objs.size=L.heap.objs.size + 5->(∀c o,L.heap.get? c=ak o->h'.get? c=ak o)->
   ZP.New h' (L.heap.objs.size + 4) (L.heap.objs.size + 2) (L.heap.objs.size + 3) L.heap.objs.size (L.heap.objs.size + 1) a b its.toArray ι.toArray->
   (∀(D:ee) (ps:M') (β:Hp),H1 D=f'->Same H1 β->β D=ak (!A (ps.map V.ref))->ps.length=xs.length->(∀(j:Nat) (p:ee) (x y:V),ps[j]? =ak p->xs[j]? =ak x->ys[j]? =ak y->β p=ak @bW)->Q @Z β)->
   ω (!j (L.heap.objs.size + 4)) {L with heap:=h'}):
  lT @T X.A (!az (!aP "zip" p1 [α,O] [] p2)) ω X.xe s:=by
 subst Z;refine ZV (nK I g2 n2 Za (vu (thn (aa η (aa θ af ξ) h2 p2 pins s σ H (λvs H1=>match vs with | [x,y]=>QD X.K Q x y H1 | _=>False) I h) λus L ⟨vs,H1,I1,ζ,G⟩=>?_) h2 (by rw[ξ];rfl)))
 match vs,ζ,G with
 | [x,y],ζ,G=>
 obtain⟨a,b,xs,ys,ex,ey,sa,χ,hl,q⟩:=G;subst ex ey;cases ζ with
 | cons rx r2=>
 cases r2 with
 | cons ψ r3=>
 cases r3;cases rx;cases ψ;obtain⟨its,ν,δ,ε⟩:=I1.list sa;obtain⟨ι,rb,pb,a0⟩:=I1.list χ;have γ:a < L.heap.objs.size:=let ⟨o,e,_⟩:=δ.isList;ib e
 have lb:b < L.heap.objs.size:=let ⟨o,e,_⟩:=pb.isList;ib e
 refine call_zip_2 δ.isList pb.isList λh' υ τ ρ π ο hsz k=>?_;exact hQ L h' H1 a b xs ys its ι I1 ν rb (by rw[<-ν.length];exact ε) hl hsz k ⟨zipApart_new γ lb,υ,τ,⟨_,_,ρ⟩,π,ο,let ⟨o,e,c⟩:=δ.isList;⟨o,k _ o e,c⟩,let ⟨o,e,c⟩:=pb.isList;⟨o,k _ o e,c⟩⟩ q
theorem GC {K:b'} {ν α:xo} {t1 φ:TE} {p1 p2 q1 q2:Pos} (Z:X.K=K) (hc:@aI) (g1:Gl X "list") (g2:Gl X "zip") (n1:X.mg "list"=f') (n2:X.mg "zip"=f') (a3:!E ν t1) (θ:!E α φ)
  (h1:ov [Expr.Call (.Name "zip" p1) [ν,α] [] p2] X.env=[(false,eval (!aP "zip" p1 [ν,α] [] p2) X.env)]:=by rfl) (h2:ov [ν,α] X.env=(false,eval ν X.env)::ov [α] X.env:=by rfl) (h3:ov [α] X.env=[(false,eval α X.env)]:=by rfl):
  PE X (!aP "list" q1 [.Call (.Name "zip" p1) [ν,α] [] p2] [] q2) (tZip K t1 φ):=by
 intro pins s σ H Q I h;refine ZV (nK I g1 n1 oD (vu (Q:=EP X pins σ Q) ?_ h1 rfl));rw[h1];show lT _ _ (spliced ((false,eval (!aP "zip" p1 [ν,α] [] p2) X.env)::backTo q2 [])) _ _ s;refine YD (SY Z g2 n2 a3 θ h2 h3 I h _ λL h' H1 a b xs ys its ι I1 τ rb ξ hl hsz k N q=>YK ?_);have a0:ι.toArray.size=its.toArray.size:=by have:=τ.length;have:=rb.length;simp;omega
 refine ZP.call_list (s:={L with heap:=h'}) (I1.ok.hd hc) N (by simpa using ξ) a0 λh2 tk a6 c Y ζ ω ρ π G=>?_
 have υ:∀b o,L.heap.get? b=ak o->h2.get? b=ak o:=λb o e=>by
  have lt:=ib e;exact ζ b o (u' (fy lt (WG _ _))) (u' (fy lt (WG _ _))) (u' lt) (u' (fy lt (WG _ _))) (k b o e)
 have I2:Inv X pins σ H1 {L with heap:=h2,toks:=tk}:=I1.kept (t':=tk) υ;have ε:Y.length=xs.length:=by rw[π,τ.length];simp
 have a5:∀p∈Y,L.heap.objs.size<=p/\H1 p=none:=λp ο=>by
  have h0:L.heap.objs.size<=p:=Vs (by show L.heap.objs.size<=h'.objs.size + 1;rw[hsz];exact Vs (WG _ _) (Yz _)) (G.above p ο).1;exact⟨h0,I1.hok.fresh h0⟩
 obtain⟨H3,I3,s3,o3,β⟩:=NS I1 Y xs ys H1 I2 G.rise a5 ε (ε.trans hl) λj p x y ο ψ χ=>by
  obtain⟨u,v,hu,hv,ht⟩:=G.pairs j p ο;rw[Ye] at hu hv;obtain⟨η,eu,ru⟩:=τ.get ψ;obtain⟨v',ev,rv⟩:=rb.get χ;rw[eu] at hu;cases hu;rw[ev] at hv;cases hv;exact⟨u,v,ru,rv,ht⟩
 have O:L.heap.objs.size<=h'.objs.size:=by rw[hsz];exact WG _ _
 have δ:H1 h'.objs.size=none:=I1.hok.fresh O;have nD:h'.objs.size∉Y:=λz=>Nat.not_succ_le_self _ (G.above _ z).1;have γ:H3 h'.objs.size=none:=by rw[o3 _ nD];exact δ
 have a4:L.heap.get? h'.objs.size=none:=Xf O;have I4:Inv X pins σ (!ay H3 h'.objs.size (Y.map V.ref)) {L with heap:=h2,toks:=tk}:=I3.track (I1.fpN a4 γ) ⟨by rw[aI,ε,τ.length];exact ξ,Y.map .ref,c,Bd Y,by rw[<-ρ];exact ω⟩;refine⟨!j h'.objs.size,_,I4,rfl,q h'.objs.size Y _ δ (λb ob e=>?_) ay ε λj p x y ο ψ χ=>?_⟩
 ·rw[aH (aj (s3 b ob e) γ)];exact s3 b ob e
 ·have:=β j p x y ο ψ χ;rw[aH (aj this γ)];exact this
end
structure FunD (K:b') (x qual:lA) (st:WX) (f:ee) (fd:hM) (dv:kk):Prop where
 ex:∃(oc:kk) (od:Q') (T:ee) (kV doc pm:kk) (an:Q') (cdv ct:kk) (osl:K') (tc:kk) (td:Q') (n:Nat) (tsl:K'),
  fd=Vj x qual (iU st) @ba @aB (!j T) kV doc pm an cdv ct/\K.lookup f=ak ⟨oc,od,.func fd,osl⟩/\Wp K cdv qual=true/\K.lookup T=ak ⟨tc,td,.seq #[dv] n,tsl⟩
 kp:Vk K @a6=true
section
variable {P:pT} {w:z0} {K:b'} {mg:F'} {base:zx}
theorem FunD.okX {x G:lA} {st:WX} {f:ee} {fd:hM} {dv:kk} {N ps:C'} {k:Nat} {sp:Sp} (F:FunD K x G st f fd dv) (S:!C N ps st) (len:∀vs H Q E,sp vs H Q E->vs.length=ps.length)
  (η:∀(L:kk) (A:xY) (outer:@aG) (s:kb) (H:Hp) (vs:eS V) (Q:VK) (E:XK),Room k (A.deeper (!bo G @aB f L))->sp vs H Q E->
   ∃t,PSs ((cxOf (CX1 P w) P w K mg base N G @aB f L A outer s H E).thr λ_=>E) @ba t/\t {nx:=λ_ H'=>Q .non H',rt:=Q} (start N vs) H):FnOk P w K mg base (CX1 P w) @b4 f fd ps sp:=by
 obtain⟨δ,od,T,kV,β,γ,an,L,ct,Z,tc,td,n,τ,rfl,lk,Y,_⟩:=F.ex;refine @dt;obtain⟨t,h,q⟩:=η L A outer s H vs Q E α O;exact⟨t,h.thr Fq,q⟩
theorem FunD.binds {x G:lA} {st:WX} {f:ee} {fd:hM} {dv:kk} {ps:C'} {ds:E'} (F:FunD K x G st f fd dv)
  (h:∀(T:ee) (kV τ O:kk) (an:Q') (L ct:kk) (us:E'),(@b8).length=ps.length->∃k:qE G'->Sem U2,bindArgs (Vj x G (iU st) @ba @aB (!j T) kV τ O an L ct) ⟨us,[]⟩=(seqItems? (!j T) >>=k)/\k (ak #[dv])=pure (ps.zip @b8)):rn K fd ps ds:=by
 obtain⟨ζ,od,T,kV,τ,O,an,L,ct,α,tc,td,n,Y,rfl,lk,γ,β⟩:=F.ex;intro s us Z hl;obtain⟨k,ε,δ⟩:=h T kV τ O an L ct us hl;exact BindsTo.of_defaults (T:=T) rfl (Z T _ β) rfl ε δ
theorem Qo {x G:lA} {st:WX} {f T:ee} {α tc dv:kk} {od an td:Q'} {Y O:K'} {n:Nat} {kV τ Z L ct:kk} (l:K.lookup f=ak ⟨α,od,.func (Vj x G (iU st) (fO st) (ag st) (.ref T) kV τ Z an L ct),Y⟩)
  (β:K.lookup T=ak ⟨tc,td,.seq #[dv] n,O⟩) (c:Wp K L G=true) (k:Vk K @a6=true):FunD K x G st f (Vj x G (iU st) @ba @aB (!j T) kV τ Z an L ct) dv:=⟨⟨α,od,T,kV,τ,Z,an,L,ct,Y,tc,td,n,O,rfl,l,c,β⟩,k⟩
end
section
variable {σ:St} {H:Hp} {Q:VK} {te:TE}
def Ll (C:ee) (m:lA) (sp:Sp) (dvs:eS V) (W:XW) (tr:TA) (σ:St) (Q:VK) (x:V) (H:Hp):Prop:=∃a dx fs,x= .ref a/\H a=ak @aq/\fs.lookup m=f'/\tr σ H λvs H2=>sp (x::@aP) H2 Q (W σ)
theorem cN {C:ee} {m:lA} {sp:Sp} {dvs:eS V} {W:XW} {tr:TA} (h:te σ H (Ll C m sp dvs W tr σ Q)):NU C m sp dvs W te tr σ H Q:=h
theorem dP {C dx p:ee} {m:lA} {fs:@as} {sp:Sp} {dvs:eS V} {W:XW} {tr:TA} (e:!au @aq) (l:fs.lookup m=f') (h:tr σ H λvs H2=>sp (.ref p::@aP) H2 Q (W σ)):Ll C m sp dvs W tr σ Q @P H:=⟨p,dx,fs,rfl,e,l,h⟩
end
noncomputable def Itzp (K:b') (a b:ee):It:=
 ⟨λi H=>∃xs ys x y,SqL K H a xs/\SqL K H b ys/\xs[i]? =ak x/\ys[i]? =ak y,
  λi H x H'=>∃p u v,H p=f'/\x= .ref p/\H'=upd H p (!G [u,v])/\(∀xs,SqL K H a xs->xs[i]? =ak u)/\∀ys,SqL K H b ys->ys[i]? =ak v,
  λi H=>∃xs ys,SqL K H a xs/\SqL K H b ys/\xs.length=ys.length/\xs.length=i⟩
theorem LU {P:pT} {w:z0} {K:b'} {η:eS xo} {k:Nat} {pos:Pos} (a b z TI TO i1 i2:ee) (D:ZipApart z TI TO i1 i2 a b):
  Turn P w K (.Tuple η k pos) (Itzp K a b) [z,TI,TO,i1,i2] z (λi h=>IsZip h z TI TO .none/\IsPair h TI (!j i1) (!j i2)/\(∃u v,IsPair h TO u v)/\h.IsListIter i1 a i/\h.IsListIter i2 b i) where
 mem:=by simp
 obj:=λi h st c hb=>by
  obtain⟨hz,π,⟨u,v,O⟩,⟨o1,ξ,_,a5⟩,⟨o2,ν,_,a4⟩⟩:=st;simp only[qq,Wz,YF] at hb;rcases hb with e | e | e | e | e
  ·rw[e];exact⟨_,hz,λv z=>by cases z⟩
  ·rw[e];exact⟨_,π,λv z=>by cases z⟩
  ·rw[e];exact⟨_,O,λv z=>by cases z⟩
  ·rw[e];exact⟨o1,ξ,λv z=>by rw[a5] at z;cases z⟩
  ·rw[e];exact⟨o2,ν,λv z=>by rw[a4] at z;cases z⟩
 keep:=λi h h' st k=>by
  obtain⟨hz,π,⟨u,v,O⟩,h1,h2⟩:=st;exact⟨k z @C _ hz,k TI @C _ π,⟨u,v,k TO @C _ O⟩,h1.at λo e=>k i1 @C o e,h2.at λo e=>k i2 @C o e⟩
 item:=by
  intro X hP hw hK hc i pins s σ H E I hf st hg;subst hP hw hK;obtain⟨xs,ys,x,y,υ,β,hx,hy⟩:=hg;obtain⟨its,τ,χ,G⟩:=I.list υ;obtain⟨ι,ρ,pb,ψ⟩:=I.list β;obtain⟨hz,π,O,h1,h2⟩:=st;have W:=YV (prog:=X.prog) (w:=X.w) (A:=X.A) @be z TI TO i1 i2 a b D its.toArray ι.toArray;have b8:i < its.length:=by have:=τ.length;have:=(!M hx).1;omega
  have b3:i < ι.length:=by have:=ρ.length;have:=(!M hy).1;omega
  have Y:∀c∈[z,TI,TO,i1,i2],c < s.heap.objs.size:=λc hb=>by
   obtain⟨u,v,O⟩:=O;obtain⟨o1,ξ,_⟩:=h1;obtain⟨o2,ν,_⟩:=h2;simp only[qq,Wz,YF] at hb;rcases hb with e | e | e | e | e
   ·rw[e];exact ib hz
   ·rw[e];exact ib π
   ·rw[e];exact ib O
   ·rw[e];exact ib ξ
   ·rw[e];exact ib ν
  refine W.item i s _ _ (by simp;omega) ⟨hz,π,O,h1,h2,χ.isList,pb.isList⟩ λT b0 h' tk a7 hT δ ε hk=>⟨_,rfl,W.go η k pos i T _ _ _ ε λa8 Z L=>?_⟩;obtain⟨θ,φ,a3,a0,rfl⟩:=a7;have a6:=W.apart i T h' ε
  have ru:RelV x θ:=by
   obtain⟨u,hu,r⟩:=τ.get hx;have γ:its[i]? =ak θ:=by simpa using a3
   rw[hu] at γ;cases γ;exact r
  have rv:RelV y φ:=by
   obtain⟨u,hu,r⟩:=ρ.get hy;have α:ι[i]? =ak φ:=by simpa using a0
   rw[hu] at α;cases α;exact r
  have sub:∀c,c∉[z,TI,TO,i1,i2]->c∉[z,TO,i1,i2]:=λc h ο=>h (by
   simp only[qq,Wz,YF] at ο ⊢;rcases ο with e | e | e | e<;>simp[e])
  have ζ:∀c u,c∉[z,TI,TO,i1,i2]->s.heap.get? c=ak u->a8.get? c=ak u:=λc u hb q=>L c u (sub c hb) (hk c u (sub c hb) q);have fr:H T=none:=I.hok.fresh hT;refine⟨!j T,!Y T @bW,I.laidCh (t':=tk) ζ hT ⟨Bg,[θ,φ],.cons ru (!bf rv),?_⟩ hf,rfl,⟨T,x,y,fr,rfl,rfl,λzs ω=>by rw[I.list_inj ω υ];exact hx,λzs ω=>by rw[I.list_inj ω β];exact hy⟩,⟨Z.1,Z.2.1,Z.2.2.1,Z.2.2.2.1,Z.2.2.2.2.1⟩,λc hb=>?_⟩
  ·obtain⟨o,ho,r⟩:=δ;exact⟨o,L T o a6 ho,r⟩
  ·rw[aH (λe=>?_)]
   ·exact(hf c hb).1
   ·have:=Y c hb;rw[e] at this;exact hF (fy this hT) (VJ _)
 done:=by
  intro X hP hw hK hc i pins s σ H E I hf st hg;subst hP hw hK;obtain⟨xs,ys,υ,β,hl,hn⟩:=hg;obtain⟨its,τ,χ,G⟩:=I.list υ;obtain⟨ι,ρ,pb,ψ⟩:=I.list β;obtain⟨hz,π,O,h1,h2⟩:=st;have W:=YV (prog:=X.prog) (w:=X.w) (A:=X.A) @be z TI TO i1 i2 a b D its.toArray ι.toArray;have e:min its.toArray.size ι.toArray.size=i:=by have:=τ.length;have:=ρ.length;simp;omega
  rw[e] at W
  have sub:∀c,c∉[z,TI,TO,i1,i2]->c∉[z,TO,i1,i2]:=λc h ο=>h (by
   simp only[qq,Wz,YF] at ο ⊢;rcases ο with e | e | e | e<;>simp[e])
  exact W.done s _ _ ⟨hz,π,O,h1,h2,χ.isList,pb.isList⟩ λh' tk hk=>⟨rfl,I.turnedCh (λc u hb q=>hk c u (sub c hb) q) hf⟩
 self:=λ_ _ _ _ _ st h=>Zt st.1 h
def QC (K:b') (R:It->Hp->Prop) (x y:V) (H:Hp):Prop:=∃a b xs ys,x= .ref a/\y= .ref b/\SqL K H a xs/\SqL K H b ys/\xs.length=ys.length/\R (Itzp K a b) H
noncomputable def iZip (K:b') (Y φ:TE):TI:=fun σ H R=>Y σ H λx H1=>φ σ H1 λy H2=>QC K R x y H2
theorem NY {K:b'} {Y φ:TE} {σ:St} {H:Hp} {R:It->Hp->Prop} (h:Y σ H λx H1=>φ σ H1 λy H2=>QC K R x y H2):iZip K Y φ σ H R:=h
section
variable {X:Cx} {K:b'}
theorem N7 {δ O:xo} {Y φ:TE} {β:eS xo} {k:Nat} {tpos p pos:Pos} (Z:X.K=K) (g2:Gl X "zip") (n2:X.mg "zip"=f') (ι:!E δ Y) (θ:!E O φ)
  (h2:ov [δ,O] X.env=(false,eval δ X.env)::ov [O] X.env:=by rfl) (ν:ov [O] X.env=[(false,eval O X.env)]:=by rfl):
  PI X (.Tuple β k tpos) (!aP "zip" p [δ,O] [] pos) (iZip K Y φ):=by
 subst Z;intro pins s σ H R I h;refine ZV (nK I g2 n2 Za (vu (thn (aa ι (aa θ af ν) h2 pos pins s σ H (λvs H1=>match vs with | [x,y]=>QC X.K R x y H1 | _=>False) I h) λus L ⟨vs,H1,I1,ζ,G⟩=>?_) h2 (by rw[ν];rfl)))
 match vs,ζ,G with
 | [x,y],ζ,G=>
 obtain⟨a,b,xs,ys,ex,ey,sa,τ,hl,q⟩:=G;subst ex ey;cases ζ with
 | cons χ ω=>
 cases ω with
 | cons υ ψ=>
 cases ψ;cases χ;cases υ;obtain⟨its,ra,η,a4⟩:=I1.list sa;obtain⟨a0,rb,pb,a3⟩:=I1.list τ;have γ:a < L.heap.objs.size:=let ⟨o,e,_⟩:=η.isList;ib e
 have lb:b < L.heap.objs.size:=let ⟨o,e,_⟩:=pb.isList;ib e
 have fin:∀c∈[L.heap.objs.size + 4,L.heap.objs.size + 2,L.heap.objs.size + 3,L.heap.objs.size,L.heap.objs.size + 1],FpOk X pins H1 c:=λc hb=>by
  have α:L.heap.objs.size<=c:=by
   simp only[qq,Wz,YF] at hb;rcases hb with e | e | e | e | e<;>rw[e]<;>omega
  exact !bA α α
 refine call_zip_2 η.isList pb.isList λh' ε ρ π ο ξ hsz k=>Zt ε ?_;exact⟨L.heap.objs.size + 4,_,_,_,H1,rfl,I1.kept (t':=L.toks) k,LU a b _ _ _ _ _ (zipApart_new γ lb),⟨ε,ρ,⟨_,_,π⟩,ο,ξ⟩,fin,q⟩
end
theorem FC {K:b'} {n:Nat} {fx:Cr} {g:TG} {tc:TT} {te:TE} {σ:St} {H1:Hp} {D:ee} {Q:Hp->Prop} {a b:ee} {xs ys:eS V} (hl:xs.length=ys.length) (L:Nat->eS V->Hp->Prop) (h0:L 0 [] (!a1 H1 [])) (hq:∀i zs H,i<=xs.length->L i zs H->SqL K H a xs/\SqL K H b ys)
  (hs:∀i x y zs H p H',xs[i]? =ak x->ys[i]? =ak y->L i zs H->H p=f'->Same H H'->H' p=ak @bW->g @P (d3 n fx σ) H' λG δ=>tc G δ λb Z=>if b=true then te G Z λv Y=>Y D=ak (!A zs)/\zs.length < kf/\L @J (zs++[v]) (!a1 Y (zs++[v])) else L @J zs Z)
  (hd:∀zs H,L xs.length zs H->Q H):
  ∃W:Nat->Nat->eS V->Hp->Prop,(∃m,W 0 m [] (!a1 H1 []))/\∀i m zs H2,W i m zs H2->(!bI (Itzp K a b))∨
    ((Itzp K a b).go i H2/\∃N:eS V->Hp->Prop,(∀φ H',N φ H'->∃ν,ν < m/\W @J ν φ H')/\∀x ζ,(Itzp K a b).yld i H2 x ζ->g x (d3 n fx σ) ζ λG δ=>tc G δ λb Z=>
      if b=true then te G Z λv Y=>Y D=ak (!A zs)/\zs.length < kf/\N (zs++[v]) (!a1 Y (zs++[v])) else N zs Z):=by
 refine⟨λi m zs H=>m=xs.length - i/\i<=xs.length/\L i zs H,⟨xs.length,@C,Vh _,h0⟩,?_⟩;rintro i m zs H ⟨rfl,hi,p⟩;obtain⟨γ,β⟩:=hq i zs H hi p;by_cases O:i < xs.length
 ·refine !F ⟨⟨xs,ys,xs[i],ys[i]' @A,γ,β,by simp[O],by simp[show i < ys.length by omega]⟩,L @J,fun φ H' ε=>⟨xs.length - @J,by omega,rfl,O,ε⟩,λx H' y=>?_⟩;obtain⟨r,u,v,f,ι,θ,α,η⟩:=y;subst ι θ;exact hs i u v zs H r _ (α xs γ) (η ys β) p f (bj f) ay
 ·have e:i=xs.length:=by omega
  subst e;exact !J ⟨⟨xs,ys,γ,β,hl,rfl⟩,hd zs H p⟩
noncomputable abbrev xBM:E':=[.type "ValueError",.type "Exception",.type "BaseException",.type "object"]
structure XOwn (K:b') (C W f:ee):Prop where
 lk:∃nm q N bs sn sub ab col dd k0 k1 k2 k3 k5,K.lookup C=ak (excClassObj nm q C N bs (.ref W::xBM) true sn sub ab col dd k0 k1 k2 k3 k5 "ValueError.__new__")
 up:Yh K W xBM "ValueError.__new__"=true
 init:wb K @a9 "__init__"=ak (ak @a6)
 fn:YA K @a6=true
 kp:Vk K @a9=true
 sa:wb K @a9 "__setattr__"=ak (ak @bp)
 mo:V' K C (!ai "object")=ak true
 mv:V' K C (!ai "ValueError")=ak true
section
variable {X:Cx} {pins:Dn} {σ:St} {H:Hp} {s:kb} {p C W f:ee} {fs:eS (lA×V)}
structure UG (K:b') (W:ee):Prop where
 ga:Wk K (!j W) "__getattribute__"=ak (ak @dr)
 rd:ac1 K W @bS=true
 fd:ac4 K (!j W) @bS "__init__"=ak (.val (!ao "ValueError.__init__"))
theorem kc {st:WX}:PS X st (λ_ _ _=>False):=λ_ _ _ _ _ _ h=>h.elim
end
noncomputable def Ui:eS V->Hp->VK->Prop:=λxs H Q=>∃a b:Int,xs=[.int a,.int b]/\Q (.int (min a b)) H
section
variable {X:Cx}
theorem KY (hc:@aI):nY X (!ao "min") Ui:=by
 intro pins s σ H xs us Q I r h;obtain⟨a,b,rfl,q⟩:=h;obtain⟨u,v,rfl,L,G⟩:=Ig r;obtain⟨t,rfl⟩:=L;obtain⟨t',rfl⟩:=G;refine min_two_ints @be λh' tk hk=>?_;refine⟨.int (min a b),H,I.kept hk,?_,q⟩;by_cases hb:b < a
 ·rw[oL hb,show min a b=b by omega];exact⟨_,rfl⟩
 ·rw[mu hb,show min a b=a by omega];exact⟨_,rfl⟩
end
end L2
namespace PySem
theorem F.entry_dict_update_loop:entryFor table "dict.update.loop"=ak Builtin.«dict.update.loop»:=entryFor_of_tree (by kernel_rfl)
theorem F.plain_dict_update_loop:plainId "dict.update.loop"=true:=by decide +kernel
theorem F.list_keys_none:typeLookup @bN "keys"=pure none:=by rw[XB,Wx];kernel_rfl
theorem DU {prog:pT} {w:z0} {A:xY} {E:D'} {s:kb} {a:ee} {xs:G'} {k:Nat} {name:lA} {Q:U3->kb->Prop}
  (Z:s.heap.get? a=ak {cls:= .type "list",data:= .seq xs k}) (O:typeLookup @bN name=pure f') (L:(["__module__","__name__","__qualname__","__doc__","__annotations__"]:C').contains name=false) (ψ:@bd)
  (h:∀h' tk,(∀b o,s.heap.get? b=ak o->h'.get? b=ak o)->Q f' {s with heap:=h',toks:=tk}) (hsz:name.length + 100<=sizeLine:=by size_fits):
  lT @a3 A (getAttr? @aa name) Q E s:=by
 obtain⟨α,g,d,tk,os⟩:=s;have hT:∀Y,(⟨α,g,d,Y,os⟩:kb).TypeIs @aa "list":=λ_=>⟨_,Z,rfl⟩;have γ:=sub_AttributeError;have δ:=F.slot_list_getattribute.lookup;have β:=F.slot_list_getattribute.bind @aa;have ξ:=am_list_getattr_none;unfold getAttr? getAttrBy? getAttrBy
 repeat (any_goals (first | assumption | exact hT _ | ((with_reducible show lT _ _ (call (Value.builtin "list.__getattribute__") _ _) _ _ _);refine X1 F.slot_list_getattribute (hT _) am_entry_list_getattribute (F.args_list_getattribute_2 _ _) (meets_getattribute_miss_list a xs k #[] name _ O L hsz) ⟨Z,ψ,λh' Y e G=>?_⟩) | wp_step))
 obtain⟨t',η,he⟩:=G.there;show lT _ _ (getattributeRaised _ _ _ _ _ _ _) _ _ _;unfold getattributeRaised
 repeat (any_goals (first | assumption | wp_step))
 exact h _ _ G.keeps
section
variable {prog:pT} {w:z0} {K:Type} [DecidableEq K] {knd:KeyKind prog w K} {A:xY} {R:U0} {I:ee} {fp wr:M'} {n:Nat} {P:Nat->kk->Prop} {St:Nat->zx->Prop}
def OE (knd:KeyKind prog w K) (h:zx) (a:ee) (G:K×kk):Prop:=∃ε o n,h.get? a=ak o/\o.cls= .type "tuple"/\o.data= .seq #[ε,G.2] n/\knd.is G.1 ε=true
theorem xT {h h':zx} {d:ee} {kvs:eS (K×kk)} (hm:h.DictOf knd d kvs) (f:∀o,h.get? d=ak o->h'.get? d=ak o):h'.DictOf knd d kvs:=let ⟨o,es,ep,ho,r⟩:=hm;⟨o,es,ep,f o ho,r⟩
theorem rm (W:Walks prog w A.in1 I fp wr n P St) (d:ee) (ρ:d∉fp) (more:eS (K×kk)) (hn:more.length=n) (hsz:n<=kf) (tup:Nat->ee) (ν:∀i,i < n->tup i∉wr/\tup i≠d) (hP:∀i v,i < n->P i v->v= .ref (tup i)):
  ∀(k j:Nat) (s:kb) (β:Int) (t:Tok),n - j=k->j<=n->St j s.heap->s.heap.DictOf knd d (merged [] (more.take j))->(∀i O,more[i]? =ak O->OE knd s.heap (tup i) O)->
  (∀h' tk,h'.DictOf knd d (merged [] more)->(∀b o,b∉wr->b≠d->s.heap.get? b=ak o->h'.get? b=ak o)->R (!bB .none) {s with heap:=h',toks:=tk})->
  codeAny @a3 A (.builtin "dict.update.loop" ⟨[.ref d,.ref I,.int β t,.none],[]⟩) R s:=by
 have π:d∉wr:=λh=>ρ (W.sub _ h);intro k
 induction k with
 | zero=>
   intro j s β t hk hj Z hd ω hR;have a3:j=n:=by omega
   subst a3;refine WY F.entry_dict_update_loop ?_;rw[Wq F.plain_dict_update_loop _];show lT _ A.in1 (pyNext (!j I) >>=_) _ _ s;refine gn (W.done s _ _ Z λh' tk L=>?_);show lT _ A.in1 (Builtin.Dict.addKeywords d [] >>=_) _ _ _;refine gn (nr @b7);rw[<-hn,ic] at hd;exact hR h' tk (xT hd λo e=>L d o π e) λb o hb _ e=>L b o hb e
 | succ k ih=>
   intro j s β t hk hj Z hd ω hR;have δ:j < n:=by omega
   refine WY F.entry_dict_update_loop ?_;rw[Wq F.plain_dict_update_loop _];show lT _ A.in1 (pyNext (!j I) >>=_) _ _ s;refine gn (W.item j s _ _ δ Z λv h' tk a5 ι L=>?_);have ev:=hP j v δ a5;subst ev;obtain⟨O,φ⟩:∃O,more[j]? =ak O:=⟨_,ef @A⟩;obtain⟨ε,ob,m,ht,a4,α,ο⟩:=ω j O φ;have η:=L _ _ (ν j δ).1 ht;show lT _ A.in1 (holding [p' (tup j)] _ >>=_) _ _ _;refine gn (VH (gn (wpAny_tryCatch ?_)));unfold Builtin.Dict.pairItems;refine gn (Zg (T:="tuple") ⟨_,η,a4⟩ ?_);rw[oL @D];refine gn (WN η α ?_);refine @b7;show lT _ A.in1 (holding [ε,O.2] (dictSet d ε O.2)) _ _ _;have γ:h'.DictOf knd d (merged [] (more.take j)):=xT hd λo e=>L d o π e;refine VH (wpAny_dictSet_pairs (s:={s with heap:=h',toks:=tk}) ο γ (λh2 τ ξ=>?_) (hsz:=by have:=merged_length_le [] (more.take j);rw[af3,pa] at this;omega));rw[<-merged_take_succ [] more j O φ] at τ;have kp:∀b o,b∉wr->b≠d->s.heap.get? b=ak o->h2.get? b=ak o:=λb o hb υ e=>(ξ.2 b υ).trans (L b o hb e);refine nr ⟨Y9 F.plain_dict_update_loop _,ih @au _ _ _ @A δ (W.frame _ _ _ ι λb hb o e=>?_) τ (λi ψ hi=>?_) λh3 Y G a0=>?_⟩
   ·exact(ξ.2 b λz=>ρ (z ▸ hb)).trans e
   ·obtain⟨ζ,o',m',e',θ⟩:=ω i ψ hi;have χ:i < n:=by rw[<-hn];exact(!M hi).1
    exact⟨ζ,o',m',kp _ _ (ν i χ).1 (ν i χ).2 e',θ⟩
   ·exact hR h3 Y G λb o hb υ e=>a0 b o hb υ (kp b o hb υ e)
end
section
variable {prog:pT} {w:z0} {K:Type} [DecidableEq K] {knd:KeyKind prog w K} {A:xY} {E:D'} {s:kb}
theorem x9 {l:ee} {its:G'} {c:Nat} {more:eS (K×kk)} {tup:Nat->ee} {Q:D'} (ψ:@bd) (hl:s.heap.get? l=ak {cls:= .type "list",data:= .seq its c})
  (hn:more.length=its.size) (hsz:its.size<=kf) (ζ:∀(i:Nat) (v:kk),its[i]? =ak v->v= .ref (tup i)) (θ:∀i O,more[i]? =ak O->OE knd s.heap (tup i) O) (nd:(more.map (·.1)).Nodup)
  (h:∀h' tk,h'.DictOf knd s.heap.objs.size more->(∀b o,s.heap.get? b=ak o->h'.get? b=ak o)->Q @aS {s with heap:=h',toks:=tk}):
  lT @a3 A (call (!ai "dict") [.ref l]) Q E s:=by
 refine ZY (Q₁:=λobj L=>obj= .ref s.heap.objs.size/\L={s with heap:=s.heap.push {cls:= .type "dict",data:= .dict #[]}}) F.kt_called_dict (F.kt_typeCall_dict_1 _) F.entry_dict_init (kt_code_dict_new _ @bO) ?_;rintro obj L ⟨rfl,rfl⟩;have η:(s.heap.push {cls:= .type "dict",data:= .dict #[]}).DictOf knd s.heap.objs.size []:=ZT s.heap;have γ:(s.heap.push {cls:= .type "dict",data:= .dict #[]}).get? l=ak {cls:= .type "list",data:= .seq its c}:=gB _ hl;refine⟨η.typeIs,F.args_dict_init_2 _ _,?_⟩;unfold Builtin.«dict.__init__»;refine gn ?_;unfold Builtin.Dict.selfAndRest;refine gn (wpAny_notOrdered_dict η.typeIs ?_);show lT _ _ (pure (s.heap.objs.size,[p' l])) _ _ _;refine @b7;show lT _ _ (YZ "dict.__init__" s.heap.objs.size @aA [] .none) _ _ _;unfold YZ;refine gn (Zg (T:="list") ⟨_,γ,rfl⟩ ?_);rw[oL @D];refine gn (DU γ F.list_keys_none @D ψ λh' tk hk=>?_);rw[oL (show(f':U3).isNone=true from rfl)];have hl2:=hk _ _ γ;have β:l < s.heap.objs.size:=ib hl;have δ:h'.DictOf knd s.heap.objs.size []:=xT η λo e=>hk _ _ e;have ξ:s.heap.objs.size < h'.objs.size:=by obtain⟨o,_,_,ho,_⟩:=δ;exact ib ho
 have α:∀i,i < its.size->tup i < s.heap.objs.size:=λi hi=>by
  obtain⟨O,φ⟩:∃O,more[i]? =ak O:=⟨_,ef @A⟩;obtain⟨_,_,_,e,_⟩:=θ i O φ;exact ib e
 refine gn (ag3 ?_);refine gn (Y4 (items:=its) ⟨_,hl2,rfl,c,rfl⟩ ?_);have W:=ab1 (prog:=prog) (w:=w) (A:=A.in1.in1) ψ h'.objs.size l (u' (Z6 β ξ)) its;refine nr ⟨Y9 F.plain_dict_update_loop _,rm (knd:=knd) (A:=A.in1) W s.heap.objs.size ?_ more hn hsz tup (λi hi=>⟨?_,?_⟩) (λi v _ e=>ζ i v e) _ 0 _ _ _ rfl (Vh _) ⟨⟨_,mc _ rfl,rfl,rfl⟩,?_⟩ ?_ (λi O hi=>?_) fun ι Y G Z=>?_⟩
 ·intro hm;rcases qq.mp hm with e | hm
  ·exact hF e (u' ξ)
  ·exact hF (gs.mp hm).symm (u' β)
 ·intro hm;exact hF (gs.mp hm) (u' (Z6 (α i hi) ξ))
 ·exact u' (α i hi)
 ·exact⟨_,gB _ hl2,rfl,c,rfl⟩
 ·exact δ.push _
 ·obtain⟨ε,ob,m,e,x⟩:=θ i O hi;exact⟨ε,ob,m,gB _ (hk _ _ (gB _ e)),x⟩
 ·rw[merged_nil_of_nodup more nd] at G;refine⟨rfl,h ι Y G λb o e=>Z b o (λhm=>?_) ?_ (gB _ (hk _ _ (gB _ e)))⟩
  ·exact hF (gs.mp hm) (u' (Z6 @aH ξ))
  ·exact u' @aH
end
end PySem
namespace L2
open PySem PySem.Spec PyProof.Rows
noncomputable def N5:eS V->Hp->VK->Prop:=λxs H Q=>∃(l:ee) (ps:eS (ee×Key×V)),xs=[.ref l]/\H l=ak @d3/\(∀q∈ps,H q.1=ak (!G [kV q.2.1,q.2.2]))/\(ps.map λq=>q.2.1).Nodup/\
 ∀d,H d=f'->Q @aX (!Y d (.dK (ps.map (·.2))))
section
variable {X:Cx}
theorem zH (hc:@aI):nY X (!ai "dict") N5:=by
 intro pins s σ H xs us Q I r h;obtain⟨l,ps,rfl,hl,ht,nd,q⟩:=h;obtain⟨u,rfl,η⟩:=vT r;cases η;obtain⟨z,its,c,O,ll,el⟩:=I.lstM hl;rw[aI] at z ll
 have get:∀(i:Nat) q,ps[i]? =ak q->its[i]? =ak (!j q.1)/\∃ε v o n,s.heap.get? q.1=ak o/\o.cls= .type "tuple"/\o.data= .seq #[ε,v] n/\(dR X.prog X.w).is q.2.1 ε=true/\RelV q.2.2 v:=λi q G=>by
  obtain⟨u,hu,θ⟩:=Vals.get (x:=V.ref q.1) O (by rw[hH,G];rfl);cases θ;refine⟨hu,?_⟩;have e:=ht q (eH G);obtain⟨_,us,rt,π⟩:=I.hok _ _ e;obtain⟨a,b,rfl,ν,ι⟩:=Vals.two rt;obtain⟨o,ho,δ,n,α⟩:=π;exact⟨a,b,o,n,ho,δ,α,G4 ν,ι⟩
 obtain⟨vs,L⟩:∃vs:eS (Key×kk),vs=(kv ps.length).map λi=>match ps[i]? with
  | some q=>(q.2.1,match s.heap.get? q.1 with | some o=>(match o.data with | .seq xs _=>xs.getD 1 .none | _=> .none) | none=> .none)
  | none=>(.inl 0,.none):=⟨_,rfl⟩
 have γ:∀(i:Nat) q,ps[i]? =ak q->∃ε v o n,vs[i]? =ak (q.2.1,v)/\s.heap.get? q.1=ak o/\o.cls= .type "tuple"/\o.data= .seq #[ε,v] n/\(dR X.prog X.w).is q.2.1 ε=true/\RelV q.2.2 v:=λi q G=>by
  obtain⟨_,ε,v,o,n,e,Y,Z,k,O⟩:=get i q G;have hi:=(@aD).1;refine⟨ε,v,o,n,?_,e,Y,Z,k,O⟩;rw[L,hH,Vt hi];show ak (match ps[i]? with | some q=>_ | none=>_)=_;rw[G];show ak (q.2.1,match s.heap.get? q.1 with | some o=>_ | none=>_)=_;rw[e];show ak (q.2.1,match o.data with | .seq xs _=>_ | _=>_)=_;rw[Z];rfl
 have ζ:vs.length=ps.length:=by rw[L,aI,qQ]
 clear L
 have keys:vs.map (·.1)=ps.map λq=>q.2.1:=by
  apply Wj;intro i;rw[hH,hH];cases G:ps[i]? with
  | none=>rw[w8 (by rw[ζ];exact List.getElem?_eq_none_iff.mp G)];rfl
  | some q=>obtain⟨_,v,_,_,e,_⟩:=γ i q G;rw[e];rfl
 have ο:KV (ps.map (·.2)) vs:=by
  refine wD (by rw[aI,ζ]) λi a b ha hb=>?_;rw[hH] at ha;obtain⟨q,G,rfl⟩:=Vv.mp ha;obtain⟨_,v,_,_,e,_,_,_,_,O⟩:=γ i q G;rw[e] at hb;cases hb;exact⟨rfl,O⟩
 refine x9 (knd:=dR X.prog X.w) (its:=its.toArray) (c:=c) (more:=vs) (tup:=λi=>match ps[i]? with | some q=>q.1 | none=>0) @be el (by rw[ζ,ll];simp) (by simpa using(ll ▸ z)) (λi v e=>?_) (λi ξ e=>?_) (by rw[keys];exact nd) λh' tk hd hk=>?_
 ·have hi:i < ps.length:=by rw[ll];have:=(VT.mp e).1;simpa using this
  obtain⟨β,G⟩:∃β,ps[i]? =ak β:=⟨_,ef hi⟩;have Y:=(get i β G).1;have e:its[i]? =ak v:=by simpa using e
  rw[Y] at e;cases e;rw[G]
 ·have hi:i < ps.length:=by rw[<-ζ];exact(!M e).1
  obtain⟨β,G⟩:∃β,ps[i]? =ak β:=⟨_,ef hi⟩;obtain⟨ε,v,o,n,υ,Y,Z,τ,ρ,_⟩:=γ i β G;rw[υ] at e;cases e;rw[G];exact⟨ε,o,n,Y,Z,τ,ρ⟩
 ·refine⟨@aS,_,I.laid (t':=tk) hk @Y (show ip X.prog X.w _ h' _ (.dK (ps.map (·.2))) from⟨by rw[aI];exact z,vr.mpr λe=>hF e.symm (u' I.big),vs,ο,hd⟩),rfl,q _ @cd⟩
end
section
variable {H:Hp} {Q:VK}
theorem IZ {l:ee} {ps:eS (ee×Key×V)} (e:H l=ak @d3) (ht:∀q∈ps,H q.1=ak (!G [kV q.2.1,q.2.2])) (nd:(ps.map λq=>q.2.1).Nodup) (h:∀d H2,H d=f'->Same H H2->H2 d=ak (.dK (ps.map (·.2)))->Q @aX H2):N5 [.ref l] H Q:=⟨l,ps,rfl,e,ht,nd,jY h⟩
end
end L2
namespace PySem
end PySem
namespace L2
open PySem PySem.Spec PyProof.Rows
noncomputable def del (H:Hp) (p:ee):Hp:=λb=>if b=p then f' else H b
inductive PH (X:Cx) (Wo:XW):eS ExceptHandler->(Ends->XW)->Prop where
 | nil:PH X Wo [] (λ_=>Wo)
 | cons {G:ee} {g n:lA} {i:Nat} {gp hp:Pos} {b₀:WX} {suite:eS WX} {ts:TS} {hs:eS ExceptHandler} {WR:Ends->XW} (cg:QI X.K G) (hg:Gl X g) (hm:X.mg g=ak @aJ) (hi:X.N[i]? =ak n) (hk:X.env.scope.names.lookup n=ak .local)
   (hs':∀pins e,PSs (X.mark pins e) (b₀::suite) ts) (hdb:(g == ("__debug__":lA))=false) (r:PH X Wo hs WR):PH X Wo (.ExceptHandler (ak (.Name g gp)) (ak n) (b₀::suite) hp::hs) (λD=>WTry X.K G i (WR D) ts D)
structure QK (osc:Wf) (ON N:C') (n:Nat) (fx:Cr) (x0:lA) (sc:Wf):Prop where
 kind:sc.kind= .function
 one:∃pre post,sc.names=pre++(x0,.cell)::post/\(∀y∈pre,y.2≠.cell)/\∀y∈post,y.2≠.cell
 its:sc.names.lookup x0=ak .cell
 own:∀y∈sc.names,y.2= .local->sc.names.lookup y.1=ak .local
 fre:∀y∈sc.names,y.2= .free->osc.names.lookup y.1=ak .cell∨osc.names.lookup y.1=ak .free
 len:N.length=n + fx.length
 frn:∀k,k < fx.length->∃x j,N[n + k]? =ak x/\fx[k]? =ak j/\ON[j]? =ak x/\sc.names.lookup x=ak .free
theorem iY {l b:ee} {xs zs:eS V} {H:Hp} {Q:VK} (e:@bC) (G:H b=ak (!A zs)) (hl:@dw) (n:l≠b) (h:∀H2,Upd H H2 l (!A (xs++zs))->Q .non H2):DE @aA [.ref b] H Q:=by
 first
 | exact⟨l,b,xs,zs,rfl,rfl,e,G,hl,h _ Upd.of⟩
 | exact⟨l,b,xs,zs,rfl,rfl,e,G,hl,n,h _ Upd.of⟩
section
variable {σ:St} {H:Hp} {D:Ends} {t u:TS}
theorem Ri (h:∀R:St->Hp->Prop,(∀σ H,u D σ H->R σ H)->t {D with nx:=R} σ H):tSeq t u D σ H:=h _ λ_ _ q=>q
theorem s_go {R X:St->Hp->Prop} (e:∀σ H,X σ H->R σ H) (h:X σ H):R σ H:=e _ _ h
end
end L2
set_option autoImplicit false
namespace M
theorem Ql (a b:Nat):(a||| b) / 2=a / 2||| b / 2:=by
 apply iv;intro i;simp[Xn,Nat.testBit_or]
theorem M4 (a b:Nat):(a&&&b) / 2=a / 2&&&b / 2:=by
 apply iv;intro i;simp[Xn,Vg]
theorem Fs (a b:Nat):@aU / 2=a / 2^^^b / 2:=by
 apply iv;intro i;simp[Xn,oT]
theorem or_sum (a:Nat):∀b:Nat,a||| b=@aU + (a&&&b):=by
 induction a using Zi with
 | ind a ih=>
   intro b;by_cases ha:a=0
   ·subst ha;simp
   ·have h:=ih (a / 2) @A (b / 2);have O:=XT (a||| b) 2;have L:=XT @aU 2;have G:=XT (a&&&b) 2;rw[Ql] at O;rw[Fs] at L;rw[M4] at G;have α:(a||| b) % 2=(a % 2||| b % 2):=by have:=@Nat.or_mod_two_pow a b 1;simpa using this
    have Z:@aU % 2=(a % 2^^^b % 2):=by have:=@Nat.xor_mod_two_pow a b 1;simpa using this
    have Y:(a&&&b) % 2=(a % 2&&&b % 2):=by have:=@Nat.and_mod_two_pow a b 1;simpa using this
    have c:(a % 2||| b % 2)=(a % 2^^^b % 2) + (a % 2&&&b % 2):=by
     rcases VX a with h1 | h1<;>rcases VX b with h2 | h2<;>rw[h1,h2]<;>decide
    omega
noncomputable def pb:Nat->Nat->US
 | 0,_=>false
 | w + 1,m=>(m.testBit w)^^(pb w m)
theorem N9 (w a b:Nat):pb w @aU=(pb w a^^pb w b):=by
 induction w with
 | zero=>rfl
 | succ w ih=>
   simp only[pb,oT,ih];cases a.testBit w<;>cases b.testBit w<;>cases pb w a<;>cases pb w b<;>rfl
theorem vI (h j m:Nat):pb (h + j) m=(pb h m^^pb j (m>>>h)):=by
 induction j with
 | zero=>simp[pb]
 | succ j ih=>
   rw[Nat.add_succ];simp only[pb,ih,VC];cases m.testBit (h + j)<;>cases pb h m<;>cases pb j (m>>>h)<;>rfl
theorem Jy (h m:Nat):pb h (m % 2 ^ h)=pb h m:=by
 suffices ∀j,j<=h->pb j (m % 2 ^ h)=pb j m from this h (oe h)
 intro j
 induction j with
 | zero=>intro _;rfl
 | succ j ih=>
   intro G;simp only[pb];rw[ih @A,U4];simp[show j < h by omega]
theorem PY (w j m:Nat) (hm:@bG):pb (w + j) m=pb w m:=by
 rw[vI,tu,Nat.div_eq_of_lt hm]
 have:∀j,pb j 0=false:=by intro j;induction j with
  | zero=>rfl
  | succ j ih=>simp[pb,ih]
 rw[this];simp
theorem pb_up {w τ m:Nat} (hm:@bG) (h:w<=τ):pb τ m=pb w m:=by
 obtain⟨j,rfl⟩:=Y1 h;exact PY w j m hm
theorem pb_fold (w h m:Nat) (hw:h<=w) (hm:@bG) (h2:w<=2 * h):pb h ((m>>>h)^^^(m&&&(2 ^ h - 1)))=pb w m:=by
 rw[Vy,N9,Jy];obtain⟨j,rfl⟩:=Y1 hw;rw[vI]
 have G:m>>>h < 2 ^ j:=by
  rw[tu];exact Yn (by rw[<-X5];exact hm)
 rw[pb_up G (show j<=h by omega)];cases pb j (m>>>h)<;>cases pb h m<;>rfl
theorem fold_lt (w h m:Nat) (hm:@bG) (h2:w<=2 * h):(m>>>h)^^^(m&&&(2 ^ h - 1)) < 2 ^ h:=by
 apply YJ
 ·rw[tu];refine Yn ?_;rw[<-X5];exact !a6 hm
 ·rw[Vy];exact Y0 _ (mm h)
noncomputable def pl (w m:Nat):Cr:=(kv w).filter m.testBit
theorem pl_up {w τ m:Nat} (hm:@bG) (h:w<=τ):pl τ m=pl w m:=by
 obtain⟨j,rfl⟩:=Y1 h;unfold pl;rw[List.range_add,UV]
 have:List.filter m.testBit (Xa (λx=>w + x) (kv j))=[]:=by
  rw[ZS];intro a ha;obtain⟨k,_,rfl⟩:=hD.mp ha;rw[lx (!aO hm (WG w k))];simp
 rw[this,UY]
noncomputable def xm (ps:Cr):Nat:=ps.foldl (λa p=>a^^^2 ^ p) 0
theorem OM (ps:Cr):∀(a k:Nat),(ps.foldl (λa p=>a^^^2 ^ p) a).testBit k=(a.testBit k^^(ps.count k % 2 == 1)):=by
 induction ps with
 | nil=>intro a k;simp
 | cons p ps ih=>
   intro a k;rw[XG,ih,oT,pB,List.count_cons];by_cases h:p=k
   ·subst h;simp only[decide_true,Vo,ZN];rcases VX (ac0 p ps) with z | z
    ·have e:(ac0 p ps + 1) % 2=1:=by omega
     rw[z,e];cases a.testBit p<;>rfl
    ·have e:(ac0 p ps + 1) % 2=0:=by omega
     rw[z,e];cases a.testBit p<;>rfl
   ·have hb:(p == k)=false:=vr.mpr h;simp[hb,h]
theorem QQ (ps:Cr) (k:Nat):(xm ps).testBit k=(ps.count k % 2 == 1):=by
 unfold xm;rw[OM];simp
theorem sI (w k:Nat) (p:Nat->US):((kv w).filter p).count k=if k < w/\p k=true then 1 else 0:=by
 have nd:((kv w).filter p).Nodup:=XJ p ae2;by_cases h:k < w/\p k=true
 ·rw[oL h];have hm:k∈(kv w).filter p:=UQ.mpr ⟨wh.mpr h.1,h.2⟩;exact List.Nodup.count nd |>.trans (by rw[oL hm])
 ·rw[mu h];refine List.count_eq_zero.mpr λhm=>h ?_;obtain⟨a,b⟩:=UQ.mp hm;exact⟨wh.mp a,b⟩
theorem MC (w m k:Nat):(pl w m).count k=if k < w/\m.testBit k=true then 1 else 0:=sI w k m.testBit
theorem xm_ext {w m:Nat} {ps:Cr} (hm:@bG) (h:∀k,ps.count k % 2=(pl w m).count k % 2):xm ps=m:=by
 apply iv;intro k;rw[QQ,h,MC];by_cases hk:k < w
 ·cases e:m.testBit k<;>simp[hk,e]
 ·rw[lx (!aO hm (Nat.not_lt.mp hk))];simp[hk]
noncomputable def Span:Cr->Nat->Prop
 | [],x=>x=0
 | r::rs,x=>Span rs x∨Span rs (x^^^r)
theorem og:∀rs:Cr,Span rs 0
 | []=>rfl
 | _::rs=> .inl (og rs)
theorem bJ (x r:Nat):x^^^r^^^r=x:=by rw[U7,Wc,Vf]
theorem hG (a b c:Nat):a^^^b^^^c=a^^^c^^^b:=by rw[U7,Xj b c,<-U7]
theorem cT:∀(rs:Cr) (r x:Nat),Span @aQ x↔Span rs x∨Span rs (x^^^r)
 | [],r,x=>ad7
 | q::rs,r,x=>by
   show Span @aQ x∨Span @aQ (x^^^q)↔(Span rs x∨Span rs (x^^^q))∨(Span rs (x^^^r)∨Span rs (x^^^r^^^q));rw[cT rs r x,cT rs r (x^^^q),hG x q r];constructor
   ·rintro((h | h) | (h | h))
    ·exact !J @aT
    ·exact !F @aT
    ·exact !J (!F h)
    ·exact !F (!F h)
   ·rintro((h | h) | (h | h))
    ·exact !J @aT
    ·exact !F @aT
    ·exact !J (!F h)
    ·exact !F (!F h)
theorem span_xor:∀{rs:Cr} {x y:Nat},Span rs x->Span rs y->Span rs @aM
 | [],x,y,h,k=>by
   have h:x=0:=h;have k:y=0:=k;subst h;subst k;exact rfl
 | r::rs,x,y,h,k=>by
   rcases h with h | h<;>rcases k with k | k
   ·exact !J (span_xor h k)
   ·refine !F ?_;have:=span_xor h k;rwa [<-U7] at this
   ·refine !F ?_;have:=span_xor h k;rwa [hG] at this
   ·refine !J ?_;have:=span_xor h k;rwa [<-U7,hG x r y,bJ] at this
noncomputable def sm:Cr->Nat->Nat
 | [],_=>0
 | r::rs,p=>(if p.testBit 0 then r else 0)^^^sm rs (p / 2)
theorem sm_zero:∀rs:Cr,sm rs 0=0
 | []=>rfl
 | r::rs=>by show(if (0:Nat).testBit 0 then r else 0)^^^sm rs (0 / 2)=0;rw[show(0:Nat) / 2=0 from rfl,sm_zero rs];simp
theorem xor4 (a b c d:Nat):a^^^b^^^(c^^^d)=a^^^c^^^(b^^^d):=by
 rw[U7,<-U7 b c d,Xj b c,U7 c b d,<-U7 a c]
theorem sm_xor:∀(rs:Cr) (p q:Nat),sm rs (p^^^q)=sm rs p^^^sm rs q
 | [],p,q=>by show(0:Nat)=0^^^0;simp
 | r::rs,p,q=>by
   show(if (p^^^q).testBit 0 then r else 0)^^^sm rs ((p^^^q) / 2)=((if p.testBit 0 then r else 0)^^^sm rs (p / 2))^^^((if q.testBit 0 then r else 0)^^^sm rs (q / 2));rw[Fs,sm_xor rs,oT,xor4];congr 1;cases p.testBit 0<;>cases q.testBit 0<;>simp
theorem gx:∀(rs:Cr) (r p:Nat),sm @aQ p=sm rs p^^^(if p.testBit rs.length then r else 0)
 | [],r,p=>by show(if p.testBit 0 then r else 0)^^^0=0^^^_;rw[Vf,X6];rfl
 | q::rs,r,p=>by
   show(if p.testBit 0 then q else 0)^^^sm @aQ (p / 2)=((if p.testBit 0 then q else 0)^^^sm rs (p / 2))^^^_;rw[gx rs r (p / 2),Xn,U7];rfl
theorem jN {rs:Cr} {r p:Nat} (h:p < 2 ^ rs.length):sm @aQ p=sm rs p:=by
 rw[gx,lx h];simp
theorem Q8 (rs:Cr) (r:Nat):sm @aQ (2 ^ rs.length)=r:=by
 rw[gx]
 have e:sm rs (2 ^ rs.length)=0:=by
  have:∀(rs:Cr) (k:Nat),rs.length<=k->sm rs (2 ^ k)=0:=by
   intro rs
   induction rs with
   | nil=>intro k _;rfl
   | cons q rs ih=>
     intro k hk;have hk:rs.length + 1<=k:=hk;obtain⟨j,rfl⟩:∃j,k=j + 1:=⟨k - 1,@A⟩;show(if (2 ^ @au).testBit 0 then q else 0)^^^sm rs (2 ^ @au / 2)=0;have L:(2 ^ @au) / 2=2 ^ j:=by rw[Yp];omega
     have G:(2 ^ @au).testBit 0=false:=by rw[pB];simp
     rw[L,G,ih j @A];simp
  exact this rs _ @Y
 rw[e,W6];simp
theorem sm_span:∀(rs:Cr) (p:Nat),Span rs (sm rs p)
 | [],p=>rfl
 | r::rs,p=>by
   show Span rs _∨Span rs _;have ih:=sm_span rs (p / 2);cases h:p.testBit 0 with
   | true=>refine !F ?_;rw[show sm (r::rs) p=r^^^sm rs (p / 2) from by show(if p.testBit 0 then r else 0)^^^_=_;rw[h];rfl,Xj r,bJ];exact ih
   | false=>refine !J ?_;rw[show sm (r::rs) p=sm rs (p / 2) from by show(if p.testBit 0 then r else 0)^^^_=_;rw[h];simp];exact ih
theorem Da:∀{rs:Cr} {x:Nat},Span rs x->∃p,p < 2 ^ rs.length/\sm rs p=x
 | [],x,h=>⟨0,Nat.one_pos,(show x=0 from h).symm⟩
 | r::rs,x,h=>by
   rcases h with h | h
   ·obtain⟨p,G,e⟩:=Da h;refine⟨2 * p,by rw[pA,Yp];omega,?_⟩;show(if (2 * p).testBit 0 then r else 0)^^^sm rs (2 * p / 2)=x;rw[show 2 * p / 2=p by omega,show(2 * p).testBit 0=false by simp[af0],e];simp
   ·obtain⟨p,G,e⟩:=Da h;refine⟨2 * p + 1,by rw[pA,Yp];omega,?_⟩;show(if (2 * p + 1).testBit 0 then r else 0)^^^sm rs ((2 * p + 1) / 2)=x;rw[show(2 * p + 1) / 2=p by omega,show(2 * p + 1).testBit 0=true by simp[af0],e];show r^^^(x^^^r)=x;rw[Xj,bJ]
theorem JY {x t:Nat} (h1:2 ^ t<=x) (h2:x < 2 ^ (t + 1)):x.log2=t:=by
 have G:x≠0:=by have:=mm t;omega
 have a:=(Yy G).mpr h2;have b:t<=x.log2:=(Nat.le_log2 G).mpr h1;omega
theorem iZ {x:Nat} (h:x≠0):x.testBit x.log2=true:=by
 have:=Nat.testBit_log2 h;exact this
theorem xor_lt_pow {x y t:Nat} (h1:x < 2 ^ t) (h2:y < 2 ^ t):x^^^y < 2 ^ t:=YJ h1 h2
theorem LH {x y:Nat} (hx:x≠0) (hy:y≠0) (h:x.log2=y.log2):x^^^y < 2 ^ x.log2:=by
 have h1:x^^^y < 2 ^ (x.log2 + 1):=xor_lt_pow Wi (by rw[h];exact Wi)
 have hb:(@aM).testBit x.log2=false:=by
  rw[oT,iZ hx,show y.testBit x.log2=true by rw[h];exact iZ hy];rfl
 apply W2;intro i hi;rcases ad3 hi with hi | hi
 ·exact lx (!aO h1 hi)
 ·rw[<-hi];exact hb
theorem xor_less {x y:Nat} (hx:x≠0) (hy:y≠0) (h:x.log2=y.log2):x^^^y < x:=
 fy (LH hx hy h) (af2 hx)
theorem qX {x y:Nat} (hy:y≠0) (h:x < 2 ^ y.log2):(@aM).log2=y.log2:=by
 have h1:x^^^y < 2 ^ (y.log2 + 1):=xor_lt_pow (!a6 h) Wi;have hb:(@aM).testBit y.log2=true:=by rw[oT,lx h,iZ hy];rfl
 exact JY (Nat.ge_two_pow_of_testBit hb) h1
theorem Eb {x y:Nat} (hx:x≠0) (hy:y≠0) (h:x.log2≠y.log2):(@aM).log2=x.log2∨(@aM).log2=y.log2:=by
 rcases Nat.lt_or_gt_of_ne h with h | h
 ·exact !F (qX hy (!aO Wi h))
 ·refine !J ?_;rw[Xj];exact qX hx (!aO Wi h)
def Fre (rows:Cr) (i:Nat):Prop:=i < rows.length/\¬Span @bb (rows.getD i 0)
theorem Fre.snoc {rows:Cr} {i:Nat} (r:Nat) (h:Fre rows i):Fre @ab i:=by
 obtain⟨hi,hn⟩:=h;refine⟨by rw[fD];omega,?_⟩;rw[Xg (Vw hi),dm,ky hi,<-dm];exact hn
theorem Fre.last {rows:Cr} {r:Nat} (h:¬Span rows r):Fre @ab rows.length:=by
 refine⟨by rw[fD];simp,?_⟩;rw[af9,dm,lB @Y,X7];exact h
def Frs (rows:Cr) (q:Nat):Prop:=∀i,q.testBit i=true->Fre rows i
theorem Frs.zero (rows:Cr):Frs rows 0:=λi h=>by rw[V3] at h;cases h
theorem Frs.xor {rows:Cr} {p q:Nat} (G:Frs rows p) (hq:Frs rows q):Frs rows (p^^^q):=λi h=>by
 rw[oT] at h;cases h1:p.testBit i with
 | true=>exact G i h1
 | false=>rw[h1] at h;exact hq i (by simpa using h)
theorem Frs.snoc {rows:Cr} {q:Nat} (r:Nat) (h:Frs rows q):Frs @ab q:=λi hi=>(h i hi).snoc r
theorem Frs.more {rows:Cr} {q r:Nat} (h:Frs rows q) (G:¬Span rows r):Frs @ab (q^^^2 ^ rows.length):=(h.snoc r).xor λi hi=>by
 rw[pB] at hi;have e:rows.length=i:=by simpa using hi
 rw[<-e];exact Fre.last G
structure Ech (es:A') (rows:Cr):Prop where
 nz:∀e∈es,e.1≠0
 lt:∀e∈es,e.2 < 2 ^ rows.length
 sm:∀e∈es,sm rows e.2=e.1
 nd:(@dd).Nodup
 all:∀y,Span rows y->y≠0->∃e∈es,e.1.log2=y.log2
 sub:∀e∈es,Frs rows e.2
theorem Ech.nil:Ech [] []:=⟨λ_ h=>hF h @C,λ_ h=>hF h @C,λ_ h=>hF h @C,.nil,λy h n=>hF h n,λ_ h=>hF h @C⟩
theorem Ech.span {es:A'} {rows:Cr} (I:Ech es rows) {e:@aO} (h:e∈es):!bq e.1:=by
 rw[<-I.sm e h];exact sm_span _ _
theorem Dj {rows:Cr} {r p:Nat} (h:p < 2 ^ rows.length):sm @ab (p^^^2 ^ rows.length)=sm rows p^^^r:=by
 rw[sm_xor,jN h,Q8]
theorem Ea {n p:Nat} (h:p < 2 ^ n):p^^^2 ^ n < 2 ^ (n + 1):=
 xor_lt_pow (!a6 h) (U8 @D @A)
theorem Ech.null {es:A'} {rows:Cr} (I:Ech es rows) {r q:Nat} (hq:@cz) (e:r^^^M.sm rows q=0):Span rows r/\Ech es @ab:=by
 have G:r=M.sm rows q:=by
  have:=px (·^^^M.sm rows q) e;simpa[bJ] using this
 have hs:Span rows r:=by rw[G];exact sm_span _ _
 refine⟨hs,I.nz,λe h=>?_,λe h=>?_,I.nd,λy hy n=>?_,λe h=>(I.sub e h).snoc r⟩
 ·rw[fD];exact !aO (I.lt e h) @C
 ·rw[jN (I.lt e h)];exact I.sm e h
 ·rcases(cT rows r y).mp hy with hy | hy
  ·exact I.all y hy n
  ·have:=span_xor hy hs;rw[bJ] at this;exact I.all y this n
theorem Ech.more {es:A'} {rows:Cr} (I:Ech es rows) {r q:Nat} (hq:@cz) (e:r^^^M.sm rows q≠0) (hn:∀e∈es,e.1.log2≠(@bl).log2) (hf:Frs rows q):
  ¬Span rows r/\Ech (es++[(r^^^M.sm rows q,q^^^2 ^ rows.length)]) @ab:=by
 have χ:¬Span rows r:=λhs=>by
  obtain⟨x,G,ex⟩:=I.all _ (span_xor hs (sm_span rows q)) e;exact hn x G ex
 refine⟨χ,λx h=>?_,λx h=>?_,λx h=>?_,?_,λy hy n=>?_,λx h=>(gz.mp h).elim (λh=>(I.sub x h).snoc r) λh=>by rw[gs] at h;subst h;exact hf.more χ⟩
 ·rcases gz.mp h with h | h
  ·exact I.nz x h
  ·rw[gs] at h;subst h;exact e
 ·rw[fD];rcases gz.mp h with h | h
  ·exact !aO (I.lt x h) @C
  ·rw[gs] at h;subst h;exact Ea hq
 ·rcases gz.mp h with h | h
  ·rw[jN (I.lt x h)];exact I.sm x h
  ·rw[gs] at h;subst h;show M.sm _ (q^^^_)=r^^^M.sm rows q;rw[Dj hq,Xj]
 ·rw[dt,UK];refine⟨I.nd,@C,λa ha b hb=>?_⟩;obtain⟨x,G,rfl⟩:=hD.mp ha;rw[W7,gs] at hb;subst hb;exact hn x G
 ·rcases(cT rows r y).mp hy with hy | hy
  ·obtain⟨x,G,ex⟩:=I.all y hy n;exact⟨x,!N G,ex⟩
  ·
   have hz:=span_xor hy (sm_span rows q)
   have ey:y=(y^^^r^^^M.sm rows q)^^^@bl:=by
    rw[xor4,Wc,Vf,bJ]
   generalize ω:y^^^r^^^M.sm rows q=z at hz ey;by_cases ε:z=0
   ·refine⟨_,!Q @c1,?_⟩;show(@bl).log2=y.log2;rw[ey,ε,X6]
   ·obtain⟨x,G,ex⟩:=I.all z hz ε;have ne:z.log2≠(@bl).log2:=by rw[<-ex];exact hn x G
    rcases Eb ε e ne with h | h
    ·exact⟨x,!N G,by rw[ex,ey,h]⟩
    ·refine⟨_,!Q @c1,?_⟩;show(@bl).log2=y.log2;rw[ey,h]
noncomputable def tt (p:Prop):Bool:=@decide p (W4 p)
theorem NQ {p:Prop} (h:p):tt p=true:=@hE _ (W4 _) h
theorem NR {p:Prop} (h:¬p):tt p=false:=@hA _ (W4 _) h
noncomputable def fr (rows:Cr):Cr:=(kv rows.length).filter λi=> !tt (Span @bb (rows.getD i 0))
theorem Kw (rows:Cr) (r:Nat):fr @ab=fr rows++(if tt (!bq r)=true then [] else [rows.length]):=by
 unfold fr;rw[fD,pO,V9,UV]
 have G:(kv rows.length).filter (λi=> !tt (Span (!aQ (@ab)) ((@ab).getD i 0)))=(kv rows.length).filter (λi=> !tt (Span @bb (rows.getD i 0))):=by
  apply ad6;intro i hi;have hi:=wh.mp hi;have a:(@ab).take i=rows.take i:=Xg (Vw hi)
  have b:(@ab).getD i 0=rows.getD i 0:=by
   rw[dm,dm,ky hi]
  rw[a,b]
 rw[G];congr 1;have a:(@ab).take rows.length=rows:=af9
 have b:(@ab).getD rows.length 0=r:=by
  rw[dm,lB @Y,X7];rfl
 rw[VF,a,b];cases tt (!bq r)<;>rfl
theorem fr_len (rows:Cr):(fr rows).length<=rows.length:=by
 have:=VB (λi=> !tt (Span @bb (rows.getD i 0))) (kv rows.length);rw[qQ] at this;exact this
theorem fr_in {rows:Cr} {r:Nat} (h:!bq r):fr @ab=fr rows:=by rw[Kw,NQ h];simp
theorem fr_out {rows:Cr} {r:Nat} (h:¬Span rows r):fr @ab=fr rows++[rows.length]:=by rw[Kw,NR h];rfl
structure Nul (nms rows:Cr):Prop where
 lt:∀x∈nms,x < 2 ^ rows.length
 nz:∀x∈nms,x≠0
 sm:∀x∈nms,sm rows x=0
 pw:nms.Pairwise λa b=>a.log2 < b.log2
 len:nms.length + (fr rows).length=rows.length
theorem Nul.nil:Nul [] []:=⟨λ_ h=>hF h @C,λ_ h=>hF h @C,λ_ h=>hF h @C,.nil,rfl⟩
theorem Nul.keep {nms rows:Cr} (I:Nul nms rows) {r:Nat} (h:¬Span rows r):Nul nms @ab where
 lt:=λx G=>by rw[fD];exact !aO (I.lt x G) @C
 nz:=I.nz
 sm:=λx G=>by rw[jN (I.lt x G)];exact I.sm x G
 pw:=I.pw
 len:=by rw[fr_out h,fD,fD,<-I.len];simp;omega
theorem xu {n q:Nat} (h:q < 2 ^ n):q^^^2 ^ n≠0/\(q^^^2 ^ n).log2=n:=by
 have e:(2 ^ n:Nat).log2=n:=JY @Y (U8 @D @A);have G:(2 ^ n:Nat)≠0:=by have:=mm n;omega
 have hl:=qX (x:=q) G (by rw[e];exact h);refine⟨λz=>?_,by rw[hl,e]⟩;have hb:(q^^^2 ^ n).testBit n=true:=by rw[oT,lx h,W6];rfl
 rw[z] at hb;simp at hb
theorem log2_under {n q:Nat} (h0:q≠0) (h:q < 2 ^ n):q.log2 < n:=(Yy h0).mpr h
theorem Nul.snoc {nms rows:Cr} (I:Nul nms rows) {r q:Nat} (hq:@cz) (e:r^^^M.sm rows q=0) (hs:!bq r):Nul (nms++[q^^^2 ^ rows.length]) @ab where
 lt:=λx hx=>by
  rw[fD];rcases gz.mp hx with hx | hx
  ·exact !aO (I.lt x hx) @C
  ·rw[gs] at hx;subst hx;exact Ea hq
 nz:=λx hx=>by
  rcases gz.mp hx with hx | hx
  ·exact I.nz x hx
  ·rw[gs] at hx;subst hx;exact(xu hq).1
 sm:=λx hx=>by
  rcases gz.mp hx with hx | hx
  ·rw[jN (I.lt x hx)];exact I.sm x hx
  ·rw[gs] at hx;subst hx;rw[Dj hq,Xj];exact e
 pw:=by
  rw[aa6];refine⟨I.pw,ZI _ _,λa ha b hb=>?_⟩;rw[gs] at hb;subst hb;rw[(xu hq).2];exact log2_under (I.nz a ha) (I.lt a ha)
 len:=by rw[fr_in hs,fD,fD,<-I.len];simp;omega
def Inj (ws:Cr):Prop:=∀p,p < 2 ^ ws.length->sm ws p=0->p=0
theorem sm_lt {t:Nat}:∀{ws:Cr} (p:Nat),(∀x∈ws,x < 2 ^ t)->sm ws p < 2 ^ t
 | [],p,_=>mm t
 | w::ws,p,h=>by
   refine !bl ?_ (sm_lt _ λx G=>h x (ik _ G));split
   ·exact h w (j' ..)
   ·exact mm t
theorem Inj.nil:Inj []:=λp h _=>by
 have:p < 1:=h;omega
theorem nodup_le:∀(n:Nat) (l:Cr),l.Nodup->(∀x∈l,x < n)->l.length<=n
 | 0,l,_,h=>by
   cases l with
   | nil=>exact oe _
   | cons x r=>exact hF (h x (j' ..)) (VQ _)
 | n + 1,l,nd,h=>by
   have ih:=nodup_le n (l.erase n) (nd.erase n) λx G=>by
    have hm:=(nd.mem_erase_iff).mp G;have:=h x hm.2;have:=hm.1;omega
   by_cases hm:n∈l
   ·rw[ZE hm] at ih;omega
   ·rw[List.erase_of_not_mem hm] at ih;omega
theorem span_lt {t:Nat}:∀{rs:Cr} {x:Nat},(∀r∈rs,r < 2 ^ t)->Span rs x->x < 2 ^ t
 | [],x,_,h=>by have h:x=0:=h;rw[h];exact mm t
 | r::rs,x,b,h=>by
   have ih:=λx=>span_lt (rs:=rs) (x:=x) λy G=>b y (ik _ G);rcases h with h | h
   ·exact ih x h
   ·have:=xor_lt_pow (ih _ h) (b r (j' ..));rwa [bJ] at this
structure Sums (ks rows:Cr):Prop where
 nd:ks.Nodup
 all:∀x,x∈ks↔Span rows x
theorem Sums.zero:Sums [0] []:=⟨@C,λx=>by rw[gs];exact ad7⟩
theorem OK {a b r:Nat} (h:a^^^r=b^^^r):a=b:=by
 have:=px (·^^^r) h;simpa[bJ] using this
theorem Sums.step {ks rows:Cr} (S:Sums ks rows) {r:Nat} (h:¬Span rows r):Sums (ks++ks.map (·^^^r)) @ab:=by
 refine⟨?_,λx=>?_⟩
 ·rw[UK];refine⟨S.nd,?_,λa ha b hb e=>?_⟩
  ·exact Yb _ (λa b ψ e=>ψ (OK e)) S.nd
  ·obtain⟨c,L,rfl⟩:=hD.mp hb;subst e;have:=span_xor ((S.all _).mp ha) ((S.all _).mp L);rw[hG,Wc,X6] at this;exact h this
 ·rw[gz,cT,S.all,hD];constructor
  ·rintro(h | ⟨y,G,rfl⟩)
   ·exact @aT
   ·refine !F ?_;rw[bJ];exact(S.all _).mp G
  ·rintro(h | h)
   ·exact @aT
   ·exact !F ⟨x^^^r,(S.all _).mpr h,bJ x r⟩
theorem Sums.keep {ks rows:Cr} (S:Sums ks rows) {r:Nat} (h:!bq r):Sums ks @ab:=
 ⟨S.nd,λx=>by
  rw[S.all,cT];refine⟨.inl,λq=>q.elim id λq=>?_⟩;have:=span_xor q h;rwa [bJ] at this⟩
theorem Sums.few {ks rows:Cr} (S:Sums ks rows) {t:Nat} (h:∀r∈rows,r < 2 ^ t):ks.length<=2 ^ t:=nodup_le _ _ S.nd λx G=>span_lt h ((S.all x).mp G)
end M
namespace Sx
open PySem L2
noncomputable abbrev nat (k:Nat):V:= .int (k:Int)
theorem Je {k:Nat} {A:xY} (r:!aX A):A.units + 100 < cLine:=by have:=r.un;omega
theorem iteB {c:US} {A B:Prop} (h1:c=true->A) (h2:c=false->B):if c=true then A else B:=by
 cases c
 ·rw[mu ia];exact h2 rfl
 ·rw[oL rfl];exact h1 rfl
theorem rK (h:Nat):(2:Int) ^ h=((2 ^ h:Nat):Int):=by norm_cast
theorem shl1 (k:Nat):(1:Int) * 2 ^ ((k:Int).toNat)=((2 ^ k:Nat):Int):=by rw[lj,Ym];norm_cast
theorem K4 (a b:Nat):ae5 (a:Int) (b:Int)=((a||| b:Nat):Int):=by
 have L:VO (a:Int)= -(a:Int) - 1:=by first | rfl | (unfold VO;omega)
 have G:VO (b:Int)= -(b:Int) - 1:=by first | rfl | (unfold VO;omega)
 unfold ae5 Vx;rw[hA (show ¬(0:Int)<=VO (a:Int) by rw[L];omega),hA (show ¬(0:Int)<=VO (b:Int) by rw[G];omega)];have n:∀x:Int,VO (VO x)=x:=λx=>by unfold VO;omega
 simp only[n,lj]
theorem b5 (a b:Nat):U5 (a:Int) (b:Int)=((a^^^b:Nat):Int):=by
 unfold U5;rw[K4,g8];have:=M.or_sum a b;omega
theorem CF:u1 ((0:Nat):Int)=0:=by decide
theorem pK {m:Nat} (h:m≠0):u1 (m:Int)=m.log2 + 1:=by
 unfold u1;have e:((m:Int) == 0)=false:=by rw[vr];omega
 rw[e,mu ia,XC]
theorem FH (m i:Nat):Vx ((m:Int) / 2 ^ ((0 + (i:Int)).toNat)) 1=if m.testBit i then 1 else 0:=by
 have ζ:(0 + (i:Int)).toNat=i:=by omega
 rw[ζ,rK];have G:(m:Int) / ((2 ^ i:Nat):Int)=((m>>>i:Nat):Int):=by rw[tu];norm_cast
 rw[G,show(1:Int)=((1:Nat):Int) from rfl,g8,Nat.and_one_is_mod]
 have:m.testBit i=(m>>>i % 2 == 1):=by
  rw[Nat.testBit_eq_decide_div_mod_eq,tu];rcases VX (m / 2 ^ i) with h | h<;>rw[h]<;>rfl
 rw[this];rcases VX (m>>>i) with h | h<;>rw[h]<;>rfl
structure En where
 a:ee
 m:Nat
 p:Nat
noncomputable def sh (es:eS En):eS (Key×V):=es.map λe=>(V8 ((e.m.log2:Nat):Int),V.ref e.a)
theorem sT:∀(es:eS En) (z:Int),(∃e∈es,((e.m.log2:Nat):Int)=z/\valV (sh es) (V8 z)=ak (!j e.a))∨((∀e∈es,((e.m.log2:Nat):Int)≠z)/\valV (sh es) (V8 z)=f')
 | [],z=> .inr ⟨λ_ h=>hF h @C,rfl⟩
 | e::es,z=>by
   by_cases h:((e.m.log2:Nat):Int)=z
   ·exact !J ⟨e,j' ..,h,mH (by show(V8 _:Key)=_;rw[h])⟩
   ·have G:valV (sh @V) (V8 z)=valV (sh es) (V8 z):=mI (by show ¬(V8 _:Key)=_;intro q;exact h (af7 q));rcases sT es z with ⟨x,hx,O,L⟩ | ⟨h1,h2⟩
    ·exact !J ⟨x,ik _ hx,O,by rw[G];exact L⟩
    ·refine !F ⟨λx hx=>?_,by rw[G];exact h2⟩;rcases qq.mp hx with rfl | hx
     ·exact h
     ·exact h1 x hx
theorem E9 {kvs:@ak} {k:Key} {v:V} (h:valV kvs k=f'):putK kvs k v=kvs++[(k,v)]:=by
 unfold putK;rw[rp,h];rfl
structure StA (H:Hp) (C p d f n:ee) (rows:Cr):Prop where
 ho:∃dx,H p=ak (!aH [("by_top",.ref d),("free_places",.ref f),("null_masks",.ref n)])
 he:∃es:eS En,H d=ak (.dK (sh es))/\(∀e∈es,H e.a=ak (!G [nat e.m,nat e.p]))/\M.Ech (es.map λe=>(e.m,e.p)) rows/\es.length=(@bo).length
 hf:H f=ak (!a7 (@bo))
 hn:∃nms,H n=ak (!A (nms.map nat))/\M.Nul nms rows
 ne:f≠n
theorem StA.same {H H2:Hp} {C p d f n:ee} {rows:Cr} (x:StA H C p d f n rows) (s:@ap):StA H2 C p d f n rows where
 ho:=let ⟨dx,h⟩:=x.ho;⟨dx,s _ _ h⟩
 he:=let ⟨es,h,t,g,l⟩:=x.he;⟨es,s _ _ h,λe he=>s _ _ (t e he),g,l⟩
 hf:=s _ _ x.hf
 hn:=let ⟨nms,h,g⟩:=x.hn;⟨nms,s _ _ h,g⟩
 ne:=x.ne
theorem StA.null {H H2:Hp} {C p d f n:ee} {rows:Cr} (x:StA H C p d f n rows) {r q:Nat} (hq:@cz) (e:r^^^M.sm rows q=0) {nms:Cr} (hn:M.Nul nms rows) (hl:H n=ak (!A (nms.map nat)))
  (u:Upd H H2 n (!A (nms.map nat++[nat (q^^^2 ^ rows.length)]))):StA H2 C p d f n @ab:=by
 obtain⟨dx,ho⟩:=x.ho;obtain⟨es,hd,ht,g,l⟩:=x.he;obtain⟨hs,g2⟩:=g.null hq e;refine⟨⟨dx,u.oth _ _ (cF ho hl @C) ho⟩,⟨es,u.oth _ _ (cF hd hl @C) hd,λe he=>u.oth _ _ (cF (ht e he) hl @C) (ht e he),g2,by rw[M.fr_in hs];exact l⟩,?_,⟨nms++[q^^^2 ^ rows.length],?_,hn.snoc hq e hs⟩,x.ne⟩
 ·rw[M.fr_in hs];exact u.oth _ _ x.ne x.hf
 ·rw[dt];exact u.at'
theorem StA.more {H H2 Y O:Hp} {C p d f n t:ee} {rows:Cr} (x:StA H C p d f n rows) {r q:Nat} (hq:@cz) (e:r^^^M.sm rows q≠0) (hn:∀y,M.Span rows y->y≠0->y.log2≠(@bl).log2) (hf:M.Frs rows q)
  (u:Upd H H2 f (!A ((@bo).map nat++[nat rows.length]))) (s:Same H2 Y) (ht:Y t=ak (!G [nat @bl,nat (q^^^2 ^ rows.length)])) {es:eS En} (hd:H d=ak (.dK (sh es))) (G:∀e∈es,H e.a=ak (!G [nat e.m,nat e.p])) (g:M.Ech (es.map λe=>(e.m,e.p)) rows) (l:es.length=(@bo).length)
  (η:Upd Y O d (.dK (putK (sh es) (V8 (((@bl).log2:Nat):Int)) @a5))):StA O C p d f n @ab:=by
 obtain⟨dx,ho⟩:=x.ho;obtain⟨nms,ξ,α⟩:=x.hn;have θ:∀e∈es.map (λe=>(e.m,e.p)),e.1.log2≠(@bl).log2:=λe he=>hn e.1 (g.span he) (g.nz e he);obtain⟨hs,g2⟩:=g.more hq e θ hf;have L:=s _ _ (u.oth _ _ (cF hd x.hf @C) hd)
 have Z:valV (sh es) (V8 (((@bl).log2:Nat):Int))=none:=by
  rcases sT es (((@bl).log2:Nat):Int) with ⟨z,hz,β,_⟩ | ⟨_,h⟩
  ·exact hF (Int.ofNat_inj.mp β) (θ (z.m,z.p) (!aq ⟨z,hz,rfl⟩))
  ·exact h
 have go:∀(b:ee) (ob:HO),H b=ak ob->b≠f->b≠d->O b=ak ob:=λb ob h h1 h2=>η.oth _ _ h2 (s _ _ (u.oth _ _ h1 h));refine⟨⟨dx,go _ _ ho (cF ho x.hf @C) (cF ho hd @C)⟩,⟨es++[⟨t,r^^^M.sm rows q,q^^^2 ^ rows.length⟩],?_,λe he=>?_,?_,?_⟩,?_,⟨nms,go _ _ ξ (ro x.ne) (cF ξ hd @C),α.keep hs⟩,x.ne⟩
 ·rw[η.at',E9 Z];unfold sh;rw[dt];rfl
 ·rcases gz.mp he with he | he
  ·exact go _ _ (G e he) (cF (G e he) x.hf @C) (cF (G e he) hd @C)
  ·rw[gs] at he;subst he;exact η.oth _ _ (cF ht L @C) ht
 ·rw[dt];exact g2
 ·rw[M.fr_out hs,fD,fD,l];rfl
 ·rw[M.fr_out hs,dt];exact η.oth _ _ (λz=>by rw[z] at x;have:=x.hf;rw[hd] at this;cases this) (s _ _ u.at')
def Q4 (C:ee):Sp:=λvs H Q _=>∃p d f n rows x,vs=[.ref p,nat x]/\StA H C p d f n rows/\
 ∀t H2 q,H t=f'->Same H H2->H2 t=ak (!G [nat (x^^^M.sm rows q),nat q])->q < 2 ^ rows.length->(x^^^M.sm rows q≠0->∀y,M.Span rows y->y≠0->y.log2≠(x^^^M.sm rows q).log2)->M.Frs rows q->Q @a5 H2
def Q5 (C:ee):Sp:=λvs H Q _=>∃p d f n rows r,vs=[.ref p,nat rows.length,nat r]/\StA H C p d f n rows/\rows.length<=1000/\
 ∀H2,(∀b o,b≠d->b≠f->b≠n->H b=ak o->H2 b=ak o)->StA H2 C p d f n @ab->Q .non H2
def O0 (C:ee):Sp:=λvs H Q _=>∃x dx r rows,vs=[.ref x,.ref r]/\H r=ak (!A (rows.map nat))/\rows.length<=1000/\H x=ak @b9/\
 ∀H2 d f n,(∀b o,b≠x->H b=ak o->H2 b=ak o)->StA H2 C x d f n rows->Q .non H2
def Pg:Sp:=λvs H Q _=>∃r rows,vs=[.ref r]/\H r=ak (!A (rows.map nat))/\rows.length<=1000/\∀D H2,H D=f'->Same H H2->H2 D=ak (!a7 (@bo))->Q @Z H2
theorem aA {α:Type} {f:α->V} {ws:eS α} {i:Nat} {x:V} (h:(!aM f)[i]? =ak x):∃k,ws[i]? =ak k/\x=f k:=by
 rw[hH] at h;cases e:ws[i]? with
 | none=>rw[e] at h;cases h
 | some k=>rw[e] at h;exact⟨k,rfl,(ry h).symm⟩
theorem take_succ {α:Type} {ws:eS α} {i:Nat} {w:α} (h:ws[i]? =ak w):ws.take @J=ws.take i++[w]:=by rw[Zn,h];rfl
theorem zN {α:Type} {ws:eS α} {i:Nat} {w:α} (h:ws[i]? =ak w):(@bX).length=i:=by
 rw[pa];have:=(!M h).1;omega
theorem sk (ns:Cr):(ns.map nat).all oU=true:=by simp[oU]
theorem NZ {K:b'} {H:Hp} {Q:VK} {neg:US} {p q:ee} {ns:Cr} (e:SqL K H p (ns.map nat)) (G:SqL K H q (ns.map nat)) (h:Q (.bl (!neg)) H):rEqL K neg @P (!j q) H Q:=by
 refine⟨p,q,_,_,rfl,rfl,e,G,sk ns,sk ns,?_⟩;rw[KC (sk ns)];cases neg<;>exact h
theorem SO {A:xY} {k:Nat} (G:!aX A):A.units < cLine:=by have:=G.un;omega
def NW:Sp:=λvs H Q _=>∃c k,vs=[.int c,.int k]/\0<=k/\k < 100000/\∀r:Nat,r < 2147483587->Q (nat r) H
def EY (K:b'):Sp:=λvs H Q _=>∃(a:ee) (ns:P'),vs=[.ref a]/\SqL K H a @ar/\ns.length<=63/\∀H',Q (.bl true) H'
theorem Te {H:Hp} {Q:VK} {E:XK} {c k:Int} (h0:0<=k) (h1:k < 100000) (q:∀r:Nat,r < 2147483587->Q (nat r) H):NW [.int c,.int k] H Q E:=⟨c,k,rfl,h0,h1,q⟩
structure Prs (H:Hp) (ws:Cr) (D:ee) (ps:eS @bM):Prop where
 l:H D=ak @d3
 t:∀q∈ps,H q.1=ak (!G [nat q.2,nat (M.sm ws q.2)])
 b:∀q∈ps,q.2 < 2 ^ ws.length
end Sx
namespace M
theorem lZ:∀(l:Cr) (j:Nat),sm l @aR=l.getD j 0
 | [],j=>by simp[sm]
 | r::l,0=>by
   show(if (2 ^ 0).testBit 0 then r else 0)^^^sm l (2 ^ 0 / 2)=r;rw[show(2 ^ 0:Nat) / 2=0 from rfl,sm_zero];simp
 | r::l,j + 1=>by
   show(if (2 ^ @au).testBit 0 then r else 0)^^^sm l (2 ^ @au / 2)=l.getD j 0;have L:(2 ^ @au) / 2=2 ^ j:=by rw[Yp];omega
   have G:(2 ^ @au).testBit 0=false:=by rw[pB];simp
   rw[L,G,lZ l j];simp
theorem Inj.nz {l:Cr} (I:Inj l) {m:Nat} (h:m∈l):m≠0:=by
 intro e;subst e;obtain⟨j,G,L⟩:=Vu.mp h;have:=I @aR (U8 @D G) (by rw[lZ,dm,ef G,L];rfl);have:=mm j;omega
theorem jB {P:Cr->Prop} (h0:P []) (hs:∀l w,P l->P (l++[w])):∀l,P l:=by
 intro l;rw[<-aa5 l];generalize l.reverse=k
 induction k with
 | nil=>exact h0
 | cons a k ih=>rw[Xu];exact hs _ _ ih
theorem pl_next (i m:Nat):pl @J m=pl i m++(if m.testBit i then [i] else []):=by
 unfold pl;rw[V9,UV];congr 1;by_cases h:m.testBit i=true
 ·rw[oL h];simp[h]
 ·rw[mu h];simp[h]
theorem pl_le (i m:Nat):(pl i m).length<=i:=by
 have:=VB m.testBit (kv i);rw[qQ] at this;exact this
theorem pl_rise (w m:Nat):(pl w m).Pairwise (· < ·):=XJ _ Y6
theorem pl_lt {w m n:Nat} (h:m < 2 ^ n):∀x∈pl w m,x < n:=by
 intro x G;have hb:=(UQ.mp G).2;refine af1 λhn=>?_;rw[lx (!aO h hn)] at hb;cases hb
noncomputable def xs (rows ps:Cr):Nat:=ps.foldl @dx 0
theorem xs_snoc (rows ps:Cr) (k:Nat):xs rows (ps++[k])=xs rows ps^^^rows.getD k 0:=by unfold xs;rw[UZ];rfl
theorem C3 {rows:Cr} {r:Nat}:∀(ps:Cr) (a:Nat),(∀k∈ps,k < rows.length)->ps.foldl (λa k=>a^^^(@ab).getD k 0) a=ps.foldl @dx a
 | [],a,_=>rfl
 | k::ps,a,h=>by
   have hk:=h k (j' ..);rw[XG,XG,C3 ps _ λx G=>h x (ik _ G)];congr 2;rw[dm,dm,ky hk]
theorem xs_pl (m:Nat):∀(rows:Cr),xs rows (pl rows.length m)=sm rows m:=by
 refine jB rfl λrows r ih=>?_
 ·rw[gx,<-ih,fD,pO,pl_next];have G:∀k∈pl rows.length m,k < rows.length:=λk hk=>wh.mp (UQ.mp hk).1;by_cases h:m.testBit rows.length=true
  ·rw[oL h,oL h,xs_snoc];unfold xs;rw[C3 _ _ G];congr 1;rw[dm,lB @Y,X7];rfl
  ·rw[mu h,mu h,UY,Vf];unfold xs;rw[C3 _ _ G]
theorem first_at {m:Nat}:∀{l:Cr},m∈l->∃j:Nat,l[j]? =ak m/\∀i,i < j->l[i]? ≠ak m
 | [],h=>hF h @C
 | x::l,h=>by
   by_cases e:x=m
   ·exact⟨0,by rw[e];rfl,λi hi=>hF hi (VQ _)⟩
   ·have hm:m∈l:=by
     rcases qq.mp h with h | h
     ·exact hF h.symm e
     ·exact h
    obtain⟨j,G,hn⟩:=first_at hm;refine⟨j + 1,G,λi hi=>?_⟩;cases i with
    | zero=>simpa using e
    | succ i=>exact hn i @A
end M
namespace Sx
open PySem L2
theorem Am (l:Cr):l.map nat=(l.map λ(k:Nat)=>(k:Int)).map V.int:=by rw[u2];rfl
section
variable {H:Hp} {Q:VK}
theorem Rp {p:ee} {l:Cr} (e:!au (!A (l.map nat))) (h0:0 < l.length) (h:∀m∈l,(∀x∈l,x<=m)->Q (nat m) H):RN @bf H Q:=by
 refine⟨p,l.map λ(k:Nat)=>(k:Int),rfl,by rw[e,Am],by rw[aI];exact h0,λm hm L=>?_⟩;obtain⟨k,hk,rfl⟩:=hD.mp hm;refine h k hk λx G=>?_;have:=L (x:Int) (!aq ⟨x,G,rfl⟩);omega
theorem IX {p:ee} {l:Cr} {m:Nat} (e:!au (!A (l.map nat))) (hm:m∈l) (h:∀H2 j,l[j]? =ak m->Upd H H2 p (!a7 (@ct))->Q .non H2):Jj @P [nat m] H Q:=by
 obtain⟨j,L,hn⟩:=M.first_at hm;refine⟨p,l.map λ(k:Nat)=>(k:Int),m,j,rfl,rfl,by rw[e,Am],by rw[hH,L];rfl,λi hi G=>?_,?_⟩
 ·rw[hH] at G;obtain⟨k,hk,Y⟩:=Vv.mp G;have:k=m:=by omega
  subst this;exact hn i hi hk
 ·refine h _ j L ?_;have O:(@ct).map nat=((l.map λ(k:Nat)=>(k:Int)).eraseIdx j).map V.int:=by rw[Am,w4 (λ(k:Nat)=>(k:Int))]
  rw[O];exact Upd.of
end
theorem EC (m:Nat):m < 2 ^ u1 (m:Int):=by
 by_cases h:m=0
 ·subst h;decide
 ·rw[pK h];exact Wi
theorem AZ {m w:Nat} (hm:@bG):u1 (m:Int)<=w:=by
 by_cases h:m=0
 ·subst h;rw[CF];exact Vh _
 ·rw[pK h];exact(Yy h).mpr hm
def Pc:Sp:=λvs H Q _=>∃m:Nat,vs=[nat m]/\m < 2 ^ 1000/\∀D H2,H D=f'->Same H H2->H2 D=ak (!a7 (!aD m))->Q @Z H2
theorem zJ {rows ps:Cr} {i k:Nat} (h:ps[i]? =ak k):M.xs rows (ps.take @J)=M.xs rows @c2^^^rows.getD k 0:=by rw[take_succ h,M.xs_snoc]
end Sx
namespace M
noncomputable abbrev od (m:Nat):Bool:=pb 1000 m
theorem od_xor (a b:Nat):od @aU=(od a^^od b):=N9 1000 a b
theorem and_xor (m a b:Nat):m&&&@aU=(m&&&a)^^^(m&&&b):=by
 apply iv;intro i;simp only[Vg,oT];cases m.testBit i<;>simp
theorem qt (m a b:Nat):@aU&&&m=(a&&&m)^^^(b&&&m):=by
 apply iv;intro i;simp only[Vg,oT];cases m.testBit i<;>simp
theorem z7:∀w:Nat,pb w 0=false
 | 0=>rfl
 | w + 1=>by show((0:Nat).testBit w^^pb w 0)=false;rw[z7 w];simp
theorem pb_pow {w t:Nat} (h:t < w):pb w (2 ^ t)=true:=by
 rw[pb_up (w:=t + 1) (U8 @D @A) h];show((2 ^ t).testBit t^^pb t (2 ^ t))=true
 have e:pb t (2 ^ t)=false:=by
  rw[<-Jy,Nat.mod_self,z7]
 rw[e,W6];rfl
theorem PR (t y:Nat):2 ^ t&&&y=if y.testBit t then 2 ^ t else 0:=by
 apply iv;intro i;rw[Vg,pB];by_cases h:t=i
 ·subst h;cases y.testBit t<;>simp
 ·cases y.testBit t<;>simp[h,pB]
theorem od_pow {t:Nat} (h:t < 1000) (y:Nat):od (2 ^ t&&&y)=y.testBit t:=by
 rw[PR];cases y.testBit t with
 | true=>rw[oL rfl];exact pb_pow h
 | false=>rw[mu ia];exact z7 1000
theorem od_zero:od 0=false:=z7 1000
theorem Fk {y k:Nat} (h:y < 2 ^ k):y.testBit k=false:=lx h
theorem Bh {y t k:Nat} (h:y≠0) (e:y.log2=t) (l:t < k):y < 2 ^ k:=fy (by rw[<-e];exact Wi) (gA @D l)
structure Bar (rows:Cr) (b m:Nat):Prop where
 ev:∀y,Span rows y->od (m&&&y)=false
 bit:m.testBit b=true
 low:∀k,k < b->m.testBit k=false
 oth:∀k,k≠b->(∀y,Span rows y->y≠0->y.log2≠k)->m.testBit k=false
 lt:∀W,(∀r∈rows,r < 2 ^ W)->b < W->m < 2 ^ W
structure BarI (es:A') (ts:Cr) (b m:Nat):Prop where
 ev:∀e∈es,e.1.log2∈ts->od (m&&&e.1)=false
 bit:m.testBit b=true
 low:∀k,k < b->m.testBit k=false
 oth:∀k,k≠b->(∀e∈es,e.1.log2≠k)->m.testBit k=false
 lt:∀W,(∀e∈es,e.1 < 2 ^ W)->b < W->m < 2 ^ W
theorem BarI.zero (es:A') (b:Nat):BarI es [] b (2 ^ b) where
 ev:=λ_ _ h=>hF h @C
 bit:=W6
 low:=λk h=>by rw[pB];simp;omega
 oth:=λk h _=>by rw[pB];simp;omega
 lt:=λW _ h=>U8 @D h
theorem MR {m y b:Nat} (h:∀k,k < b->m.testBit k=false) (hy:y < 2 ^ b):m&&&y=0:=by
 apply iv;intro i;rw[Vg,V3];by_cases hi:i < b
 ·rw[h i hi];rfl
 ·rw[lx (!a6 hy)];simp
theorem EU {es:A'} (nd:(@dd).Nodup) {e f:@aO} (he:e∈es) (hf:f∈es) (h:e.1.log2=f.1.log2):e=f:=by
 obtain⟨i,hi,rfl⟩:=Vu.mp he;obtain⟨j,G,rfl⟩:=Vu.mp hf
 have ε:∀i j (hi:i < es.length) (G:j < es.length),i < j->es[i].1.log2≠es[j].1.log2:=λi j hi G ρ=>by
  have:=Zw.mp nd i j (by rw[aI];exact hi) (by rw[aI];exact G) ρ;rw[XS,XS] at this;exact this
 rcases WS i j with h1 | h1 | h1
 ·exact hF h (ε i j hi G h1)
 ·subst h1;rfl
 ·exact hF h.symm (ε j i G hi h1)
theorem BarI.keep {es:A'} {ts:Cr} {b m:Nat} (I:BarI es ts b m) {e:@aO} (nd:(@dd).Nodup) (he:e∈es) (h:od (m&&&e.1)=false):BarI es (ts++[e.1.log2]) b m where
 ev:=λf hf hm=>by
  rcases gz.mp hm with hm | hm
  ·exact I.ev f hf hm
  ·rw[gs] at hm;rw[EU nd hf he hm];exact h
 bit:=I.bit
 low:=I.low
 oth:=I.oth
 lt:=I.lt
theorem BarI.flip {es:A'} {ts:Cr} {b m:Nat} (I:BarI es ts b m) {e:@aO} (nd:(@dd).Nodup) (nz:∀e∈es,e.1≠0) (he:e∈es) (h:od (m&&&e.1)=true) (up:∀t∈ts,t < e.1.log2) (hb:e.1.log2≠b) (G:e.1.log2 < 1000):BarI es (ts++[e.1.log2]) b (m^^^2 ^ e.1.log2):=by
 have O:b < e.1.log2:=by
  refine Nat.lt_of_le_of_ne (Xv λL=>?_) (ro hb);rw[MR I.low (Bh (nz e he) rfl L),od_zero] at h;cases h
 have ζ:=nz e he;refine⟨λf hf hm=>?_,?_,λk hk=>?_,λk hk hn=>?_,λW ν δ=>?_⟩
 ·rw[qt,od_xor,od_pow G];rcases gz.mp hm with hm | hm
  ·rw[I.ev f hf hm,Fk (Bh (nz f hf) rfl (up _ hm))];rfl
  ·rw[gs] at hm;rw[EU nd hf he hm,h,iZ ζ];rfl
 ·rw[oT,I.bit,pB];simp;omega
 ·rw[oT,I.low k hk,pB];simp;omega
 ·rw[oT,I.oth k hk hn,pB];have:=hn e he;simp;omega
 ·exact !bl (I.lt W ν δ) (w2 (af2 ζ) (ν e he))
theorem Ech.even_all {es:A'} {rows:Cr} (g:Ech es rows) {m:Nat} (h:∀e∈es,od (m&&&e.1)=false):∀y,Span rows y->od (m&&&y)=false:=by
 intro y
 induction y using Zi with
 | ind y ih=>
   intro G;by_cases Y:y=0
   ·subst Y;rw[VM,od_zero]
   ·obtain⟨e,he,el⟩:=g.all y G Y;have ζ:=g.nz e he;have hl:=xor_less Y ζ el.symm;have h1:=ih _ hl (span_xor G (g.span he));have h2:=h e he;have L:od (m&&&(y^^^e.1))=(od (m&&&y)^^od (m&&&e.1)):=by rw[and_xor,od_xor]
    rw[h1,h2] at L;simpa using L.symm
theorem BarI.done {es:A'} {rows:Cr} (g:Ech es rows) {ts:Cr} {b m:Nat} (I:BarI es ts b m) (all:∀e∈es,e.1.log2∈ts):Bar rows b m where
 ev:=g.even_all λe he=>I.ev e he (all e he)
 bit:=I.bit
 low:=I.low
 oth:=λk hk h=>I.oth k hk λe he=>h e.1 (g.span he) (g.nz e he)
 lt:=λW ν hb=>I.lt W (λe he=>span_lt ν (g.span he)) hb
theorem Bar.odd {rows:Cr} {b m x q:Nat} (B:Bar rows b m) (h0:x^^^sm rows q≠0) (hb:(x^^^sm rows q).log2=b) (G:b < 1000):od (m&&&x)=true:=by
 have O:m&&&x=(m&&&(x^^^sm rows q))^^^(m&&&sm rows q):=by rw[<-and_xor,bJ]
 rw[O,od_xor,B.ev _ (sm_span rows q)]
 have L:m&&&(x^^^sm rows q)=2 ^ b:=by
  apply iv;intro i;rw[Vg,pB];rcases WS i b with h | h | h
  ·rw[B.low i h];simp;omega
  ·subst h;rw[B.bit,<-hb,iZ h0];simp
  ·rw[Fk (Bh h0 hb h)];simp;omega
 rw[L];show(pb 1000 (2 ^ b)^^false)=true;rw[pb_pow G];rfl
theorem Bj {k:Nat}:∀{l:Cr} (p:Nat),(∀x∈l,x.testBit k=false)->(sm l p).testBit k=false
 | [],p,_=>by show(0:Nat).testBit k=false;simp
 | x::l,p,h=>by
   show((if p.testBit 0 then x else 0)^^^sm l (p / 2)).testBit k=false;rw[oT,Bj (p / 2) λy G=>h y (ik _ G)];have:=h x (j' ..);cases p.testBit 0<;>simp[this]
theorem Inj.own {l:Cr} {m k:Nat} (I:Inj l) (hm:m.testBit k=true) (h:∀x∈l,x.testBit k=false):Inj (l++[m]):=by
 intro p L e;rw[fD,pO] at L;have G:=px (·.testBit k) e;simp only[gx,oT,Bj p h,V3] at G;cases hb:p.testBit l.length with
 | true=>rw[hb] at G;simp[hm] at G
 | false=>
   rw[gx,hb] at e;have e:sm l p^^^0=0:=e;rw[Vf] at e;refine I p ?_ e;apply W2;intro i hi;rcases ad3 hi with hi | hi
   ·exact lx (!aO L hi)
   ·rw[<-hi];exact hb
theorem rV:∀(a b:Cr),a.Nodup->(∀x∈a,x∈b)->a.length<=b.length
 | [],b,_,_=>Vh _
 | x::a,b,nd,h=>by
   have O:=h x (j' ..);have ο:=WV.mp nd
   have ih:=rV a (b.erase x) ο.2 λy L=>by
    have G:y≠x:=λe=>ο.1 (e ▸ L);exact(List.mem_erase_of_ne G).mpr (h y (ik _ L))
   rw[ZE O] at ih;have:=ZR O;rw[pA];omega
theorem count_not {n:Nat} {ts:Cr} (nd:ts.Nodup) (h:∀t∈ts,t < n):((kv n).filter λk=> !decide (k∈ts)).length + ts.length=n:=by
 have h1:∀(l:Cr) (p:Nat->US),(l.filter p).length + (l.filter λk=> !p k).length=l.length:=by
  intro l p
  induction l with
  | nil=>rfl
  | cons x l ih=>
    rw[VF,VF];cases p x<;>simp<;>omega
 have h2:=h1 (kv n) λk=>decide (k∈ts)
 have L:((kv n).filter λk=>decide (k∈ts)).length=ts.length:=by
  apply af8
  ·exact rV _ _ (XJ _ ae2) λx G=>by simpa using(UQ.mp G).2
  ·exact rV _ _ nd λx G=>UQ.mpr ⟨wh.mpr (h x G),by simpa using G⟩
 rw[qQ] at h2;omega
theorem sW:∀rows:Cr,∃ks,Sums ks rows/\ks.length=2 ^ (fr rows).length:=by
 refine jB ⟨[0],Sums.zero,rfl⟩ λrows r ih=>?_;obtain⟨ks,S,e⟩:=ih;by_cases h:Span rows r
 ·exact⟨ks,S.keep h,by rw[fr_in h];exact e⟩
 ·refine⟨_,S.step h,?_⟩;rw[fr_out h,fD,fD,aI,e,pO,Yp];omega
theorem rank_le {rows:Cr} {t:Nat} (h:∀r∈rows,r < 2 ^ t):(fr rows).length<=t:=by
 obtain⟨ks,S,e⟩:=sW rows;have:=S.few h;rw[e] at this;exact(Nat.pow_le_pow_iff_right @D).mp this
theorem PZ (w m:Nat):pb (w + 1) m=(m.testBit 0^^pb w (m / 2)):=by
 rw[XF,vI 1 w m,tu];congr 1;show(m.testBit 0^^false)=_;simp
theorem Bar.uniq {rows:Cr} {b m ν:Nat} (α:∀r∈rows,r < 2 ^ 1000) (B:Bar rows b m) (B':Bar rows b ν):m=ν:=by
 refine VS λZ=>?_;have ζ:m^^^ν≠0:=λz=>Z (by have:=px (·^^^ν) z;simpa[bJ] using this);have ρ:∀y,Span rows y->od ((m^^^ν)&&&y)=false:=λy G=>by rw[qt,od_xor,B.ev y G,B'.ev y G];rfl
 have γ:∀k,(∀y,Span rows y->y≠0->y.log2≠k)->(m^^^ν).testBit k=false:=λk hk=>by
  rw[oT];by_cases e:k=b
  ·rw[e,B.bit,B'.bit];rfl
  ·rw[B.oth k e hk,B'.oth k e hk];rfl
 generalize m^^^ν=z at ζ ρ γ;have δ:∃k,z.testBit k=true:=⟨_,iZ ζ⟩
 obtain⟨k,hk,O⟩:∃k,z.testBit k=true/\∀j,j < k->z.testBit j=false:=by
  obtain⟨n,hn⟩:=δ
  induction n using Zi with
  | ind n ih=>
    by_cases h:∃j,j < n/\z.testBit j=true
    ·obtain⟨j,β,hz⟩:=h;exact ih j β hz
    ·exact⟨n,hn,λj β=>by
      cases e:z.testBit j with
      | false=>rfl
      | true=>exact hF ⟨j,β,e⟩ h⟩
 have L:∃y,Span rows y/\y≠0/\y.log2=k:=VS λhn=>by
  rw[γ k λy G Y e=>hn ⟨y,G,Y,e⟩] at hk;cases hk
 obtain⟨y,G,Y,ey⟩:=L
 have ε:z&&&y=2 ^ k:=by
  apply iv;intro i;rw[Vg,pB];rcases WS i k with h | h | h
  ·rw[O i h];simp;omega
  ·subst h;rw[hk,<-ey,iZ Y];simp
  ·rw[Fk (Bh Y ey h)];simp;omega
 have χ:k < 1000:=by rw[<-ey];exact log2_under Y (span_lt α G)
 have:=ρ y G;rw[ε,show od (2 ^ k)=true from pb_pow χ] at this;cases this
theorem JZ {z:Nat} (h:z≠0):∃t,z.testBit t=true/\∀k,k < t->z.testBit k=false:=by
 have ε:∀n,(∃t,t < n/\z.testBit t=true)->∃t,z.testBit t=true/\∀k,k < t->z.testBit k=false:=by
  intro n
  induction n with
  | zero=>rintro⟨t,ht,_⟩;omega
  | succ n ih=>
    rintro⟨t,ht,hb⟩;by_cases G:∃t,t < n/\z.testBit t=true
    ·exact ih G
    ·have e:t=n:=by
      refine af8 @A (Xv λL=>G ⟨t,L,hb⟩)
     subst e;refine⟨t,hb,λk hk=>?_⟩;cases hz:z.testBit k with
     | false=>rfl
     | true=>exact hF ⟨k,hk,hz⟩ G
 exact ε (z.log2 + 1) ⟨z.log2,by omega,iZ h⟩
theorem bars_all {rows ms:Cr} {wd:Nat} (δ:wd<=1000) (β:∀r∈rows,r < 2 ^ wd) (υ:∀b,b < wd->(∀y,Span rows y->y≠0->y.log2≠b)->∃m,Span ms m/\Bar rows b m) {z:Nat} (hz:z < 2 ^ wd) (ρ:∀y,Span rows y->od (z&&&y)=false):Span ms z:=by
 have ε:∀k,k<=wd->∃G,Span ms (z^^^G)/\G < 2 ^ wd/\(∀y,Span rows y->od (G&&&y)=false)/\∀b,b < k->(∀y,Span rows y->y≠0->y.log2≠b)->G.testBit b=false:=by
  intro k
  induction k with
  | zero=>intro _;exact⟨z,by rw[Wc];exact og ms,hz,ρ,λb hb=>hF hb (VQ _)⟩
  | succ k ih=>
    intro hk;obtain⟨G,h1,h2,Z,O⟩:=ih @A;by_cases ζ:G.testBit k=true/\∀y,Span rows y->y≠0->y.log2≠k
    ·obtain⟨m,hm,B⟩:=υ k @A ζ.2;refine⟨G^^^m,?_,!bl h2 (B.lt wd β @A),λy L=>?_,λb hb hn=>?_⟩
     ·rw[<-U7];exact span_xor h1 hm
     ·rw[qt,od_xor,Z y L,B.ev y L];rfl
     ·rw[oT];by_cases e:b=k
      ·subst e;rw[ζ.1,B.bit];rfl
      ·rw[O b @A hn,B.oth b e hn];rfl
    ·refine⟨G,h1,h2,Z,λb hb hn=>?_⟩;by_cases e:b=k
     ·subst e;cases α:G.testBit b with
      | false=>rfl
      | true=>exact hF ⟨α,hn⟩ ζ
     ·exact O b @A hn
 obtain⟨G,h1,h2,Z,O⟩:=ε wd @Y;by_cases η:G=0
 ·subst η;rw[Vf] at h1;exact h1
 ·exfalso;obtain⟨t,ht,hl⟩:=JZ η
  have ν:t < wd:=by
   refine af1 λhn=>?_;rw[lx (!aO h2 hn)] at ht;cases ht
  have γ:∃y,Span rows y/\y≠0/\y.log2=t:=VS λhn=>by
   have:=O t ν λy L Y e=>hn ⟨y,L,Y,e⟩;rw[ht] at this;cases this
  obtain⟨y,L,Y,ey⟩:=γ
  have θ:G&&&y=2 ^ t:=by
   apply iv;intro i;rw[Vg,pB];rcases WS i t with h | h | h
   ·rw[hl i h];simp;omega
   ·subst h;rw[ht,<-ey,iZ Y];simp
   ·rw[Fk (Bh Y ey h)];simp;omega
  have:=Z y L;rw[θ,show od (2 ^ t)=true from pb_pow @A] at this;cases this
theorem span_mem {l:Cr} {m:Nat} (h:m∈l):Span l m:=by
 obtain⟨j,G,rfl⟩:=Vu.mp h;have:=sm_span l @aR;rw[lZ,dm,ef G] at this;exact this
end M
namespace Sx
open PySem L2
noncomputable def cell (ns:P') (k:Int):Int:=if k < ns.length then ns.getD k.toNat 0 else 41 * k + 3
def EZ (K:b'):Sp:=λvs H Q _=>∃(p:ee) (ns:P') (k:Int),vs=[.ref p,.int k]/\SqL K H p @ar/\0<=k/\Q (.int (cell ns k)) H
theorem uu {K:b'} {H:Hp} {Q:VK} {E:XK} {p:ee} {ns:P'} {k:Int} (e:SqL K H p @ar) (h0:0<=k) (q:Q (.int (cell ns k)) H):EZ K [.ref p,.int k] H Q E:=⟨p,ns,k,rfl,e,h0,q⟩
def Pa:Sp:=λvs H Q _=>∃m:Nat,vs=[nat m]/\m < 2 ^ 1000/\Q (.bl (!M.od m)) H
theorem KB (n h:Nat):U5 ((n:Int) / 2 ^ ((h:Int).toNat)) (Vx (n:Int) (1 * 2 ^ ((h:Int).toNat) - 1))=(((n>>>h)^^^(n&&&(2 ^ h - 1)):Nat):Int):=by
 rw[lj,Ym,rK];have L:(n:Int) / ((2 ^ h:Nat):Int)=((n>>>h:Nat):Int):=by rw[tu];norm_cast
 have G:((2 ^ h:Nat):Int) - 1=((2 ^ h - 1:Nat):Int):=by have:=mm h;omega
 rw[L,G,g8,b5]
theorem Kl (wd:Nat):((wd:Int) + 1) / 2=(((wd + 1) / 2:Nat):Int):=by omega
theorem MI {n:Nat} (h:n < 2):decide (nat n=V.int 0)= !M.od n:=by
 have:n=0∨n=1:=by omega
 rcases this with rfl | rfl
 ·rw[M.od_zero];decide
 ·rw[show M.od 1=true from M.pb_pow (t:=0) @D];decide
def NC (rows:Cr) (b:Nat):Prop:=∀y,M.Span rows y->y≠0->y.log2≠b
def Q7 (C:ee):Sp:=λvs H Q _=>∃(p d f n:ee) (rows:Cr) (b:Nat),vs=[.ref p,nat b]/\StA H C p d f n rows/\b < 1000/\(∀r∈rows,r < 2 ^ 1000)/\(@bo).length < 64/\NC rows b/\
 ∀m H2,Same H H2->M.Bar rows b m->Q (nat m) H2
structure Acr (rows:Cr) (wd:Nat) (ms:Cr):Prop where
 len:ms.length + (@bo).length=wd
 inj:M.Inj ms
 lt:∀m∈ms,m < 2 ^ wd
 ev:∀m∈ms,∀y,M.Span rows y->M.od (m&&&y)=false
 all:∀z,z < 2 ^ wd->(∀y,M.Span rows y->M.od (z&&&y)=false)->M.Span ms z
theorem MY (es:eS En):(sh es).map (·.1)=(es.map λe=>((e.m.log2:Nat):Int)).map Sum.inl:=by unfold sh;rw[u2,u2];rfl
theorem C7 {es:eS En} {ns:P'} (O:ns.Perm (es.map λe=>((e.m.log2:Nat):Int))) (hw:ns.Pairwise (·<=·)) (nd:(@da).Nodup):
  ∃ts:Cr,ns=ts.map (λ(k:Nat)=>(k:Int))/\ts.Pairwise (· < ·)/\(∀t,t∈ts↔∃e∈es,e.m.log2=t):=by
 have hn:∀x∈ns,((x.toNat:Nat):Int)=x:=λx L=>by
  obtain⟨e,_,rfl⟩:=hD.mp (O.mem_iff.mp L);omega
 have Y:ns=(ns.map Yt).map (λ(k:Nat)=>(k:Int)):=by
  rw[u2];exact(YM ns).symm.trans (Vc λx L=>(hn x L).symm)
 have G:(ns.map Yt).Perm @da:=by
  have:=O.map Yt;rw[u2] at this;exact this
 refine⟨ns.map Yt,Y,?_,λt=>?_⟩
 ·have ω:(ns.map Yt).Nodup:=G.nodup_iff.mpr nd
  have ο:(ns.map Yt).Pairwise (·<=·):=by
   rw[YQ];exact hw.imp λh=>by omega
  exact List.Pairwise.imp (R:=λa b=>a<=b/\a≠b) (λh=>by omega) (List.Pairwise.and ο ω)
 ·rw[G.mem_iff,hD]
end Sx
namespace M
noncomputable def cm (a b:Nat):Nat:=if b=0 then 0 else (if b % 2=1 then a else 0)^^^2 * cm a (b / 2)
termination_by b
decreasing_by omega
def Dv (d x:Nat):Prop:=∃q,cm q d=x
structure Rm (d x r:Nat):Prop where
 lt:r < 2 ^ d.log2
 dv:Dv d (x^^^r)
end M
namespace Sx
open PySem L2
noncomputable def dg (m:Nat):Int:=(u1 (m:Int):Int) - 1
theorem cshl {a p:Nat} (ha:a < 2 ^ 3000) (G:p<=3000):CShl (a:Int) (p:Int):=⟨WT _,by have:=AZ ha;omega⟩
theorem OQ {a b z:Nat} (h:z < 2 ^ a) (ψ:a<=b):z < 2 ^ b:=fy h (gA @D ψ)
end Sx
namespace M
structure Ord (d e:Nat):Prop where
 pos:1<=e
 one:Rm d (2 ^ e) 1
 least:∀j,1<=j->j < e->¬Rm d @aR 1
 le:e<=2 ^ d.log2
end M
namespace Sx
open PySem L2
noncomputable def Ic (k:U'):Bool:=subB k "int"&& !subB k "bool"
noncomputable def pV (x:V) (w:Int):Bool:=match x with
 | .int i=>decide (0<=i)&&decide (((u1 i:Nat):Int)<=w)
 | _=>false
def vB (K:b'):Sp:=λvs H Q _=>∃x k,vs=[x]/\mW K H x k/\Q (.bl (Ic k)) H
def De (K:b'):Sp:=λvs H Q _=>∃x k w,vs=[x,.int w]/\mW K H x k/\Q (.bl (pV x w)) H
theorem cJ {K:b'} {H:Hp} {Q:VK} {E:XK} {x:V} {k:U'} (hk:mW K H x k) (q:Q (.bl (Ic k)) H):vB K [x] H Q E:=⟨x,k,rfl,hk,q⟩
theorem eP {K:b'} {H:Hp} {Q:VK} {E:XK} {x:V} {k:U'} {i:Int} (hk:mW K H x k) (q:Q (.bl (pV x i)) H):De K [x,.int i] H Q E:=⟨x,k,i,rfl,hk,q⟩
theorem jG {c m:Int} (h:0 < m):∃k:Nat,c % m=(k:Int)/\(k:Int) < m:=by
 obtain⟨k,hk⟩:=Ve (UN c (Int.ne_of_gt h));exact⟨k,hk,by rw[<-hk];exact y2 c h⟩
theorem Po {H:Hp} {Q:VK} {l:ee} {k:Int} {xs:eS V} (e:@bC) (h0: -(2 ^ 63)<=k) (h1:k < 2 ^ 63) (hz:xs.length * k.toNat<=kf) (h:∀p H2,H p=f'->Same H H2->H2 p=ak (.lst (hC k.toNat xs).flatten)->Q @P H2):rRep @aA (.int k) H Q:=
 ⟨l,k,xs,rfl,rfl,e,h0,h1,hz,jY h⟩
end Sx
namespace M
noncomputable def bn (b:US):Nat:=if b then 1 else 0
noncomputable def pk (s:Nat->US) (t:Nat):Nat->Nat
 | 0=>0
 | L + 1=>pk s t L^^^(if s (t + L) then 2 ^ L else 0)
theorem pk_lt (s:Nat->US) (t:Nat):∀L,pk s t L < 2 ^ L
 | 0=>Nat.one_pos
 | L + 1=>by
   have ih:=pk_lt s t L;refine !bl (!a6 ih) ?_;split
   ·exact U8 @D @A
   ·exact mm _
theorem pk_bit (s:Nat->US) (t:Nat):∀L p,(pk s t L).testBit p=(decide (p < L)&&s (t + p))
 | 0,p=>by simp[pk]
 | L + 1,p=>by
   rw[pk,oT,pk_bit s t L p];rcases WS p L with h | h | h
   ·have e:(if s (t + L)=true then 2 ^ L else 0:Nat).testBit p=false:=by
     cases s (t + L)<;>simp[pB];omega
    rw[e];simp[h,show p < L + 1 by omega]
   ·subst h;cases hs:s (t + p)<;>simp[W6]
   ·have e:(if s (t + L)=true then 2 ^ L else 0:Nat).testBit p=false:=by
     cases s (t + L)<;>simp[pB];omega
    rw[e];simp[show ¬p < L by omega,show ¬p < L + 1 by omega]
theorem Fd {s u:Nat->US} {t v:Nat}:∀{L:Nat},(∀p,p < L->s (t + p)=u (v + p))->pk s t L=pk u v L
 | 0,_=>rfl
 | L + 1,h=>by rw[pk,pk,Fd λp G=>h p @A,h L @A]
noncomputable def lf (G:Nat):Nat->(Nat->US)->Nat->US
 | 0,_,_=>false
 | L + 1,s,t=>lf G L s t^^(G.testBit L&&s (t + L))
noncomputable def tr (Y:Cr) (x:Nat):Nat:=pk (λk=>od (Y.getD k 0&&&x)) 0 Y.length
noncomputable def stt (Y:Cr) (x:Nat):Nat->Nat
 | 0=>x
 | t + 1=>tr Y (stt Y x t)
noncomputable def ans (Y:Cr) (o x t:Nat):Bool:=od (o&&&stt Y x t)
noncomputable def lm (L G:Nat):Cr:=(kv (L - 1)).map (λp=>2 ^ (p + 1))++(if 0 < L then [G] else [])
end M
namespace Sx
open PySem L2
noncomputable abbrev Pr3:=ee×Nat×Nat
noncomputable def refs (ps:@R):eS V:=ps.map λq=>V.ref q.1
def Prt (H:Hp) (ps:@R):Prop:=∀q∈ps,H q.1=ak (!G [nat q.2.1,nat q.2.2])
theorem Prt.same {H H2:Hp} {ps:@R} (x:Prt H ps) (s:@ap):Prt H2 ps:=λq h=>s _ _ (x q h)
structure MaA (H:Hp) (C p:ee) (m:Nat) (nx os:@R):Prop where
 ho:∃dx tn to,H p=ak (!aH [("inputs",nat m),("nexts",.ref tn),("outs",.ref to)])/\H tn=ak (!G (refs nx))/\H to=ak (!G (refs os))
 hn:Prt H nx
 hs:Prt H os
theorem MaA.same {H H2:Hp} {C p:ee} {m:Nat} {nx os:@R} (x:MaA H C p m nx os) (s:@ap):MaA H2 C p m nx os:=
 ⟨let ⟨dx,G,to,a,b,c⟩:=x.ho;⟨dx,G,to,s _ _ a,s _ _ b,s _ _ c⟩,x.hn.same s,x.hs.same s⟩
noncomputable def sq (bs:eS US):Nat->Bool:=λi=>bs.getD i false
def ID:Sp:=λvs H Q _=>∃(r:ee) (ps:Cr),vs=[.ref r]/\H r=ak (!A (ps.map nat))/\(∀p∈ps,p < 1000)/\Q (nat (M.xm ps)) H
def L8:Sp:=λvs H Q _=>∃(t:ee) (x y n m:Nat),vs=[.ref t,nat n,nat m]/\H t=ak @cy/\x < 2 ^ n/\y < 2 ^ m/\Q (.bl true) H
structure Tab (H:Hp) (n o:ee) (m:Nat) (nx os:@R):Prop where
 m6:m<=6
 n:H n=ak (!A (refs nx))
 o:H o=ak (!A (refs os))
 pn:Prt H nx
 po:Prt H os
 ln:nx.length<=120
 lo:os.length<=6
 bn:∀q∈nx++os,q.2.1 < 2 ^ nx.length/\q.2.2 < 2 ^ m
def Pb:Sp:=λvs H Q _=>∃(n o:ee) (m:Nat) (nx os:@R),vs=[nat m,.ref n,.ref o]/\Tab H n o m nx os/\∀H2,Same H H2->Q .non H2
def O8 (C:ee):Sp:=λvs H Q _=>∃(x dx n o:ee) (m:Nat) (nx os:@R),vs=[.ref x,nat m,.ref n,.ref o]/\H x=ak @b9/\Tab H n o m nx os/\∀H2,(∀b ob,b≠x->H b=ak ob->H2 b=ak ob)->MaA H2 C x m nx os->Q .non H2
def Iy (C:ee):Sp:=λvs H Q _=>∃(p:ee) (m:Nat) (nx os:@R),vs=[.ref p]/\MaA H C p m nx os/\Q (nat nx.length) H
structure Lfsr (nx os:@R) (L G:Nat):Prop where
 nx:nx.map @cb=M.lm L G
 os:∃t,os=[(t,(if 0 < L then 1 else 0),0)]
theorem c7 {a n:Nat} (h:a < 2 ^ n):pV (nat a) (n:Int)=true:=by
 have:=AZ h;show(decide ((0:Int)<=(a:Int))&&decide (((u1 (a:Int):Nat):Int)<=(n:Int)))=true;rw[hE @A,hE @A];rfl
theorem OL {ps:Cr} {i k:Nat} (h:ps[i]? =ak k):M.xm (ps.take @J)=M.xm @c2^^^2 ^ k:=by rw[take_succ h];unfold M.xm;rw[UZ];rfl
theorem LI {w m:Nat} (h:@bG):M.xm (M.pl w m)=m:=M.xm_ext h λk=>rfl
noncomputable abbrev ms (nx:@R):Cr:=nx.map λq=>q.2.1
theorem Qk {n j:Nat} (h:j < n):ixN n (j:Int)=ak j:=by unfold ixN;rw[oL (WT j),oL @A,lj]
theorem Rh {H:Hp} {Q:Hp->Prop} {p:ee} {xs:eS V} {j:Nat} {v:V} (e:!au @al) (G:j < xs.length) (h:∀H2,Upd H H2 p (!A (xs.set j v))->Q H2):RM @P (.int (j:Int)) v H Q:=
 ⟨p,xs,j,j,rfl,rfl,e,Qk G,h _ Upd.of⟩
theorem Ry {σ:St} {H:Hp} {to G:TE} {t:TSet} {v:V} {Q:St->Hp->Prop} (h:to σ H λo H1=>G σ H1 λi H2=>t o i v H2 λL=>Q σ L):gSub to G t v σ H Q:=h
end Sx
namespace M
noncomputable def tr2 (ps:A') (x r:Nat):Nat:=pk (λk=>od ((ps.getD k (0,0)).1&&&x)^^od ((ps.getD k (0,0)).2&&&r)) 0 ps.length
theorem tr2_bit (ps:A') (x r k:Nat):(!al x r).testBit k=(decide (k < ps.length)&&(od ((ps.getD k (0,0)).1&&&x)^^od ((ps.getD k (0,0)).2&&&r))):=by unfold tr2;rw[pk_bit,W5]
theorem tr2_lt (ps:A') (x r:Nat):tr2 ps x r < 2 ^ ps.length:=pk_lt _ _ _
theorem tr2_snoc (ps:A') (p:@aO) (x r:Nat):tr2 @bE x r=tr2 ps x r^^^(if (od (p.1&&&x)^^od (p.2&&&r)) then 2 ^ ps.length else 0):=by
 unfold tr2;rw[fD,pO,pk,W5];have L:(@bE).getD ps.length (0,0)=p:=by rw[dm,lB @Y,X7];rfl
 rw[L]
 have G:pk (λk=>od (((@bE).getD k (0,0)).1&&&x)^^od (((@bE).getD k (0,0)).2&&&r)) 0 ps.length=pk (λk=>od ((ps.getD k (0,0)).1&&&x)^^od ((ps.getD k (0,0)).2&&&r)) 0 ps.length:=Fd λk hk=>by
  rw[W5,dm,dm,ky hk]
 rw[G]
theorem Ii (ps:A') (x y r s:Nat):tr2 ps @aM (r^^^s)=tr2 ps x r^^^tr2 ps y s:=by
 apply iv;intro i;rw[oT,tr2_bit,tr2_bit,tr2_bit,and_xor,od_xor,and_xor,od_xor];cases decide (i < ps.length)<;>cases od ((ps.getD i (0,0)).1&&&x)<;>cases od ((ps.getD i (0,0)).1&&&y)<;>cases od ((ps.getD i (0,0)).2&&&r)<;>cases od ((ps.getD i (0,0)).2&&&s)<;>rfl
theorem jz (ps:A'):tr2 ps 0 0=0:=by
 apply iv;intro i;rw[tr2_bit,VM,VM,od_zero];simp
noncomputable def wst (ps:A'):Nat->Cr->Nat
 | x,[]=>x
 | x,r::rs=>wst ps (!al x r) rs
noncomputable def wan (ps os:A'):Nat->Cr->Cr
 | _,[]=>[]
 | x,r::rs=>tr2 os x r::wan ps os (!al x r) rs
theorem wst_snoc (ps:A') (r:Nat):∀(rs:Cr) (x:Nat),wst ps x @aQ=tr2 ps (wst ps x rs) r
 | [],_=>rfl
 | _::rs,_=>wst_snoc ps r rs _
theorem wan_snoc (ps os:A') (r:Nat):∀(rs:Cr) (x:Nat),wan ps os x @aQ=wan ps os x rs++[tr2 os (wst ps x rs) r]
 | [],_=>rfl
 | _::rs,_=>px (_::·) (wan_snoc ps os r rs _)
theorem wan_len (ps os:A'):∀(rs:Cr) (x:Nat),(!av x rs).length=rs.length
 | [],_=>rfl
 | _::rs,_=>px (· + 1) (wan_len ps os rs _)
theorem wan_lt (ps os:A'):∀(rs:Cr) (x:Nat),∀y∈wan ps os x rs,y < 2 ^ os.length
 | [],_,_,h=>hF h (by simp[wan])
 | r::rs,x,y,h=>by
   rcases qq.mp h with h | h
   ·rw[h];exact tr2_lt _ _ _
   ·exact wan_lt ps os rs _ y h
theorem wst_lt {ps:A'}:∀{rs:Cr} {x:Nat},x < 2 ^ ps.length->wst ps x rs < 2 ^ ps.length
 | [],_,h=>h
 | r::rs,x,_=>wst_lt (rs:=rs) (tr2_lt ps x r)
theorem Ie (ps os:A'):∀(rs qs:Cr) (x:Nat),wan ps os x (rs++qs)=wan ps os x rs++wan ps os (wst ps x rs) qs
 | [],_,_=>rfl
 | _::rs,qs,_=>px (_::·) (Ie ps os rs qs _)
theorem xm_snoc (qs:Cr) (k:Nat):xm (qs++[k])=xm qs^^^2 ^ k:=by unfold xm;rw[UZ];rfl
theorem rev_ind {α:Type} {P:eS α->Prop} (h0:P []) (h1:∀l x,P l->P (l++[x])) (l:eS α):P l:=by
 have:∀l:eS α,P l.reverse:=λl=>by
  induction l with
  | nil=>exact h0
  | cons x l ih=>rw[Xu];exact h1 _ _ ih
 have:=this l.reverse;rwa [aa5] at this
theorem wQ (s x r:Nat) (ps:A') (h:@bs):od (s&&&tr2 ps x r)=(od (sm (ps.map (·.1)) s&&&x)^^od (sm (ps.map (·.2)) s&&&r)):=by
 induction ps using rev_ind with
 | h0=>show od (s&&&0)=(od (0&&&x)^^od (0&&&r));rw[VM,Wm,Wm,od_zero];rfl
 | h1 ps p ih=>
   rw[fD,pO] at h;have ih:=ih @A;rw[tr2_snoc,and_xor,od_xor,ih,dt,dt,W7,W7,gx,gx,aI,aI];generalize hb:(od (p.1&&&x)^^od (p.2&&&r))=b
   have L:od (s&&&(if b=true then 2 ^ ps.length else 0))=(b&&s.testBit ps.length):=by
    cases b with
    | true=>rw[oL rfl,UM,od_pow @A];simp
    | false=>rw[mu ia,VM,od_zero];simp
   rw[L];have G:∀u v t:Nat,od ((u^^^v)&&&t)=(od (u&&&t)^^od (v&&&t)):=λu v t=>by rw[UM,and_xor,od_xor,UM,UM t v]
   rw[G,G];cases s.testBit ps.length with
   | true=>rw[oL rfl,oL rfl,<-hb];cases od (sm (ps.map (·.1)) s&&&x)<;>cases od (sm (ps.map (·.2)) s&&&r)<;>cases od (p.1&&&x)<;>cases od (p.2&&&r)<;>rfl
   | false=>rw[mu ia,mu ia,Wm,Wm,od_zero];cases b<;>simp
noncomputable def pulse (i T:Nat):Cr:=(kv T).map λt=>if t=0 then 2 ^ i else 0
theorem pulse_len (i T:Nat):(pulse i T).length=T:=by unfold pulse;rw[aI,qQ]
theorem pulse_eq (i T:Nat):(2 ^ i::hC T 0).take T=pulse i T:=by
 unfold pulse;apply ae4
 ·rw[pa,pA,w5,aI,qQ];omega
 ·intro j h1 h2;rw[XS,ac7,YR];cases j with
  | zero=>rfl
  | succ j=>rw[List.getElem_cons_succ,List.getElem_replicate];rfl
theorem pulse_lt {i m:Nat} (h:i < m) (T:Nat):∀r∈pulse i T,r < 2 ^ m:=λr G=>by
 obtain⟨t,_,rfl⟩:=hD.mp G;show(if t=0 then 2 ^ i else 0) < 2 ^ m;split
 ·exact U8 @D h
 ·exact mm _
theorem Ph {rows:Cr} {i r:Nat} (s:Nat) (h:rows[i]? =ak r):sm (rows.take @J) s=sm @bb s^^^(if s.testBit i then r else 0):=by
 have hi:=(!M h).1;have e:rows.take @J=rows.take i++[r]:=by rw[ad5,h];rfl
 rw[e,gx,pa,WA @A]
theorem sm_places (rows:Cr) (s:Nat) (h:s < 2 ^ rows.length) (w:Nat) (hw:rows.length<=w):(pl w s).foldl (λa p=>a^^^rows.getD p 0) 0=sm rows s:=by
 rw[pl_up h hw]
 have ε:∀k,k<=rows.length->(pl k s).foldl (λa p=>a^^^rows.getD p 0) 0=sm (rows.take k) s:=by
  intro k
  induction k with
  | zero=>intro _;rfl
  | succ k ih=>
    intro hk;have G:rows[k]? =ak (rows.getD k 0):=by rw[dm,ef @A];rfl
    have L:pl @b4 s=pl k s++(if s.testBit k then [k] else []):=by
     unfold pl;rw[V9,UV];congr 1;cases hb:s.testBit k<;>simp[hb]
    rw[L,UZ,ih @A,Ph s G];cases s.testBit k<;>simp
 have:=ε rows.length @Y;rwa [ic] at this
end M
namespace Sx
open PySem L2
structure MaG (m:Nat) (nx os:@R):Prop where
 m6:m<=6
 ln:nx.length<=120
 lo:os.length<=6
 bn:∀q∈nx++os,q.2.1 < 2 ^ nx.length/\q.2.2 < 2 ^ m
theorem Tab.g {H:Hp} {n o:ee} {m:Nat} {nx os:@R} (t:Tab H n o m nx os):MaG m nx os:=⟨t.m6,t.ln,t.lo,t.bn⟩
theorem Tab.same {H H2:Hp} {n o:ee} {m:Nat} {nx os:@R} (t:Tab H n o m nx os) (s:@ap):Tab H2 n o m nx os:=⟨t.m6,s.get t.n,s.get t.o,t.pn.same s,t.po.same s,t.ln,t.lo,t.bn⟩
noncomputable abbrev prs (nx:@R):A':=nx.map (·.2)
theorem az (nx:@R):(@E).length=nx.length:=aI ..
theorem PQ {nx:@R} {i:Nat} {q:Pr3} (h:nx[i]? =ak q):(@E)[i]? =ak q.2:=by rw[hH,h];rfl
theorem d6 (nx:@R):(refs nx).length=nx.length:=aI ..
theorem iH {x n:Nat} (h:x < 2 ^ n) (hn:n<=1000):x < 2 ^ 1000:=fy h (gA @D hn)
theorem MaG.b1 {m:Nat} {nx os:@R} (g:MaG m nx os):∀q∈nx,q.2.1 < 2 ^ 1000/\q.2.2 < 2 ^ 1000:=λq h=>have:=g.ln;have:=g.m6;have b:=g.bn q (!N h);⟨iH b.1 @A,iH b.2 @A⟩
theorem MaG.b2 {m:Nat} {nx os:@R} (g:MaG m nx os):∀q∈os,q.2.1 < 2 ^ 1000/\q.2.2 < 2 ^ 1000:=λq h=>have:=g.ln;have:=g.m6;have b:=g.bn q (!Q h);⟨iH b.1 @A,iH b.2 @A⟩
theorem PP {H H2:Hp} {a:ee} {u:HO} (h:Rd H a u) (s:@ap):Rd H2 a u:=h.imp (s _ _) λ⟨o,e⟩=>⟨o,s _ _ e⟩
theorem Kb {K:b'} {H H2:Hp} {x:V} {k:U'} (h:mW K H x k) (s:@ap):mW K H2 x k:=by
 cases x with
 | ref p=>exact Or.imp (λ⟨a,xs,e⟩=>⟨a,xs,Same.seq s e⟩) (Or.imp (λ⟨a,xs,e⟩=>⟨a,xs,Same.tup s e⟩) λ⟨a,xs,e⟩=>⟨a,xs,PP e s⟩) h
 | _=>exact h
def HG (K:b') (H:Hp) (xs:eS V):Prop:=∀x∈xs,∃k,mW K H x k
theorem HG.nats (K:b') (H:Hp) (rs:Cr):HG K H @b2:=λx G=>by
 obtain⟨r,_,rfl⟩:=hD.mp G;exact⟨"int",rfl⟩
theorem vK {x:V} {n:Nat} (h:pV x (n:Int)=true):∃a:Nat,x=nat a/\a < 2 ^ n:=by
 cases x with
 | int i=>
   have h:(decide ((0:Int)<=i)&&decide (((u1 i:Nat):Int)<=(n:Int)))=true:=h;simp only[U6,V1] at h;obtain⟨a,rfl⟩:=Ve h.1;exact⟨a,rfl,!a6 (EC a)⟩
 | _=>cases h
noncomputable def idxB (x:V) (m:Nat):Bool:=match x with
 | .int i=>decide (0<=i)&&decide (i < (m:Int))
 | _=>false
theorem HU (x y:US):(!decide (V.bl (!x)=V.bl (!y)))=(x^^y):=by cases x<;>cases y<;>rfl
theorem LV {ps:@R} {i:Nat} {q:Pr3} (x y:Nat) (h:ps[i]? =ak q):M.tr2 (prs (ps.take @J)) x y=M.tr2 (prs @c2) x y^^^(if (M.od (q.2.1&&&x)^^M.od (q.2.2&&&y)) then 2 ^ i else 0):=by
 have hl:(prs @c2).length=i:=by rw[az];exact zN h
 rw[take_succ h];unfold prs at hl ⊢;rw[dt,W7,M.tr2_snoc,hl]
theorem AS (xs:eS V) (y:Nat) (hy:y<=xs.length):cutV xs f' (ak (y:Int))=xs.take y:=by
 unfold cutV;rw[HT.sIx_nat,HT.sIx_none,WA hy,Nat.sub_zero,ag1]
theorem jv {a b:Nat} (h:nat a=nat b):a=b:=by
 have h:(a:Int)=(b:Int):=V.int.inj h;omega
def Me:Sp:=λvs H Q _=>∃(t:ee) (a b x r:Nat),vs=[.ref t,nat x,nat r]/\H t=ak (!G [nat a,nat b])/\a < 2 ^ 1000/\b < 2 ^ 1000/\Q (.bl (M.od (a&&&x)^^M.od (b&&&r))) H
def O4 (K:b'):Sp:=λvs H Q _=>∃(r:ee) (ps:@R) (x y:Nat),vs=[.ref r,nat x,nat y]/\SqT K H r (refs ps)/\Prt H ps/\ps.length<=1000/\(∀q∈ps,q.2.1 < 2 ^ 1000/\q.2.2 < 2 ^ 1000)/\∀H2,Same H H2->Q (nat (M.tr2 (prs ps) x y)) H2
def Q6 (K:b') (C B:ee):Sp:=λvs H Q E=>∃(p:ee) (m:Nat) (nx os:@R) (x:V) (k:U'),vs=[.ref p,x]/\MaA H C p m nx os/\mW K H x k/\(pV x nx.length=true->Q .non H)/\(pV x nx.length=false->E (!j B) f' H)
def Mb (K:b') (C B:ee):Sp:=λvs H Q E=>∃(p:ee) (m:Nat) (nx os:@R) (x y:V) (kx G:U'),vs=[.ref p,x,y]/\MaA H C p m nx os/\MaG m nx os/\mW K H x kx/\mW K H y G/\
 (∀a b:Nat,x=nat a->y=nat b->a < 2 ^ nx.length->b < 2 ^ m->∀(t:ee) (H2:Hp),Same H H2->H2 t=ak (!G [nat (M.tr2 @H a b),nat (M.tr2 @E a b)])->Q @a5 H2)/\
 (pV x nx.length=false∨pV y m=false->E (!j B) f' H)
structure TB (K:b') (H:Hp) (C p rr:ee) (m:Nat) (nx os:@R) (x:V) (xs:eS V):Prop where
 ma:MaA H C p m nx os
 g:MaG m nx os
 kx:∃k,mW K H x k
 sq:SqL K H rr xs
 ks:HG K H xs
 ln:xs.length<=1000
def Good (m:Nat) (nx:@R) (x:V) (xs:eS V) (a:Nat) (rs:Cr):Prop:=x=nat a/\xs=rs.map nat/\a < 2 ^ nx.length/\∀r∈rs,r < 2 ^ m
def Bad (m:Nat) (nx:@R) (x:V) (xs:eS V):Prop:=pV x nx.length=false∨∃y∈xs,pV y m=false
def L1 (K:b') (C B:ee):Sp:=λvs H Q E=>∃(p G:ee) (m:Nat) (nx os:@R) (x:V) (xs:eS V),vs=[.ref p,.ref G,x]/\TB K H C p G m nx os x xs/\
 (∀a rs,Good m nx x xs a rs->∀(t D:ee) (H2:Hp),H D=f'->Same H H2->H2 t=ak (!G [.ref D,nat (M.wst @E a rs)])->H2 D=ak (!a7 (M.wan @E @H a rs))->Q @a5 H2)/\
 (Bad m nx x xs->∀H2,Same H H2->E (!j B) f' H2)
def Q2 (K:b') (C B:ee):Sp:=λvs H Q E=>∃(p G:ee) (m:Nat) (nx os:@R) (x:V) (xs:eS V),vs=[.ref p,.ref G,x]/\TB K H C p G m nx os x xs/\
 (∀a rs,Good m nx x xs a rs->∀(D:ee) (H2:Hp),H D=f'->Same H H2->H2 D=ak (!a7 (M.wan @E @H a rs))->Q @Z H2)/\
 (Bad m nx x xs->∀H2,Same H H2->E (!j B) f' H2)
def IA (K:b') (C B:ee):Sp:=λvs H Q E=>∃(p:ee) (m:Nat) (nx os:@R) (x:V) (k:U') (T:Nat),vs=[.ref p,x,nat T]/\MaA H C p m nx os/\MaG m nx os/\mW K H x k/\T<=900/\
 (∀i,x=nat i->i < m->∀(D:ee) (H2:Hp),H D=f'->Same H H2->H2 D=ak (!a7 (M.wan @E @H 0 (M.pulse i T)))->Q @Z H2)/\
 (idxB x m=false->E (!j B) f' H)
def Mc (K:b') (C B:ee):Sp:=λvs H Q E=>∃(p:ee) (m:Nat) (nx os:@R) (x:V) (k:U'),vs=[.ref p,x]/\MaA H C p m nx os/\MaG m nx os/\mW K H x k/\
 (∀a,x=nat a->a < 2 ^ nx.length->∀(t:ee) (H2:Hp),Same H H2->H2 t=ak (!G [nat (M.sm @cP a),nat (M.sm @cv a)])->Q @a5 H2)/\
 (pV x nx.length=false->E (!j B) f' H)
def F6 (C:ee):Sp:=λvs H Q _=>∃(p:ee) (m:Nat) (nx os:@R),vs=[.ref p]/\MaA H C p m nx os/\Q (nat os.length) H
structure TabT (H:Hp) (t n o:ee) (m:Nat) (nx os:@R):Prop where
 t:H t=ak (!G [nat m,.ref n,.ref o])
 tab:Tab H n o m nx os
def II:Sp:=λvs H Q _=>∃(c:Int) (st n w:Nat) (dg:US),vs=[.int c,nat st,nat n,nat w,.bl dg]/\st<=900/\n<=64/\w<=16/\
 ∀(D:ee) (H2:Hp) (ms:Cr),H D=f'->Same H H2->H2 D=ak (!A (ms.map nat))->ms.length=n->(∀x∈ms,x < 2 ^ w)->Q @Z H2
theorem Nd {H H2:Hp} {D:ee} (s:@ap) (f:H2 D=f'):H D=none:=by
 cases G:H D with
 | none=>rfl
 | some v=>have:=s _ _ G;rw[f] at this;cases this
theorem Pj (m k:Nat):(m:Int) / 2 ^ ((k:Int).toNat)=((m>>>k:Nat):Int):=by rw[lj,rK,tu];norm_cast
theorem CG (m i:Nat):Vx ((m:Int) / 2 ^ ((i:Int).toNat)) 1=if m.testBit i then 1 else 0:=by
 have:=FH m i;rwa [show(0:Int) + (i:Int)=(i:Int) from Wg _] at this
theorem Km {m:Nat} {nx:@R} {a Z:Nat} {rs G:Cr} (g:Good m nx (nat a) @b2 Z G):a=Z/\rs=G:=by
 obtain⟨h1,h2,_,_⟩:=g;refine⟨jv h1,?_⟩
 have h:∀(l L:Cr),l.map nat=L.map nat->l=L:=by
  intro l
  induction l with
  | nil=>intro L h;cases L with | nil=>rfl | cons _ _=>cases h
  | cons x l ih=>
    intro L h;cases L with
    | nil=>cases h
    | cons y L=>
      rw[UL,UL] at h;obtain⟨h1,h2⟩:=Ww h;rw[ih _ h2,jv h1]
 exact h rs G h2
theorem P8 {m:Nat} {nx:@R} {a:Nat} {rs:Cr} (ha:a < 2 ^ nx.length) (O:∀r∈rs,r < 2 ^ m) (b:Bad m nx (nat a) @b2):False:=by
 rcases b with h | ⟨y,L,h⟩
 ·rw[c7 ha] at h;cases h
 ·obtain⟨r,G,rfl⟩:=hD.mp L;rw[c7 (O r G)] at h;cases h
theorem vN (xs:eS V) (k:Nat) (h:k<=xs.length):cutV xs (ak (k:Int)) f'=xs.drop k:=by
 unfold cutV;rw[HT.sIx_nat,HT.sIx_none,WA h];exact Va (by rw[WB];exact oe _)
end Sx
namespace M
noncomputable def pkw (w:Nat):Cr->Nat
 | []=>0
 | p::ps=>p^^^@bZ
theorem Dm (a b w:Nat):@aU <<< w=a <<< w^^^b <<< w:=by
 apply iv;intro i;simp only[oT,x3];cases decide (w<=i)<;>simp
theorem pkw_snoc (w p:Nat):∀ps:Cr,pkw w @bE=pkw w ps^^^(p <<< (ps.length * w))
 | []=>by show p^^^(0 <<< w)=0^^^(p <<< (0 * w));simp
 | q::ps=>by
   show q^^^(pkw w @bE <<< w)=q^^^@bZ^^^(p <<< ((ps.length + 1) * w));rw[pkw_snoc w p ps,Dm,U7,<-ae1,Wu,Wt]
theorem pkw_lt {w:Nat}:∀{ps:Cr},(∀p∈ps,p < 2 ^ w)->pkw w ps < 2 ^ (ps.length * w)
 | [],_=>mm _
 | p::ps,h=>by
   have ih:=pkw_lt λx G=>h x (ik _ G);have L:=h p (j' ..);show p^^^@bZ < 2 ^ ((ps.length + 1) * w);rw[Wu,Wt];refine !bl (!a6 L) ?_;rw[VD,X5];exact Zo ih @az
theorem PU {w p:Nat} {ps:Cr} (G:p < 2 ^ w):pkw w (p::ps)=pkw w ps * 2 ^ w + p:=by
 show p^^^@bZ=_;have h1:=or_sum p @bZ
 have h2:p&&&@bZ=0:=by
  apply iv;intro i;rw[Vg,x3];by_cases hi:w<=i
  ·rw[lx (!aO G hi)];simp
  ·simp[hi]
 have O:=Nat.two_pow_add_eq_or_of_lt G (pkw w ps);have L:pkw w ps <<< w=2 ^ w * pkw w ps:=by rw[VD,Z3]
 rw[L] at h1 h2 ⊢;rw[Nat.or_comm] at O;rw[Z3 (pkw w ps)];omega
noncomputable def dot:Cr->Cr->US
 | p::ps,r::rs=>od (p&&&r)^^dot ps rs
 | _,_=>false
theorem Fu (p r:Nat):∀(ps rs:Cr),ps.length=rs.length->dot @bE @aQ=(dot ps rs^^od (p&&&r))
 | [],[],_=>by show(od (p&&&r)^^false)=(false^^od (p&&&r));simp
 | a::ps,b::rs,h=>by
   show(od (a&&&b)^^dot @bE @aQ)=((od (a&&&b)^^dot ps rs)^^od (p&&&r));rw[Fu p r ps rs (by simpa using h),ag2]
theorem o6 {w p r P R:Nat} (L:p < 2 ^ w) (G:r < 2 ^ w):(p^^^(P <<< w))&&&(r^^^(R <<< w))=(p&&&r)^^^((P&&&R) <<< w):=by
 apply iv;intro i;simp only[oT,Vg,x3];by_cases hi:w<=i
 ·rw[lx (!aO L hi),lx (!aO G hi)];simp[hi]
 ·simp[hi]
theorem Fh {x w:Nat} (h:x < 2 ^ (1000 - w)) (hw:w<=1000):od (x <<< w)=od x:=by
 show pb 1000 (x <<< w)=pb 1000 x;have e:=vI w (1000 - w) (x <<< w);rw[show w + (1000 - w)=1000 by omega] at e;rw[e,pb_up h @A]
 have G:pb w (x <<< w)=false:=by
  rw[<-Jy,VD,Nat.mul_mod_left]
  have:∀n,pb n 0=false:=λn=>by
   induction n with
   | zero=>rfl
   | succ n ih=>rw[PZ,Nat.zero_div,ih];simp
  exact this w
 rw[G,Nat.shiftLeft_shiftRight];simp
theorem Oc {w:Nat}:∀{ps rs:Cr},ps.length=rs.length->(∀p∈ps,p < 2 ^ w)->(∀r∈rs,r < 2 ^ w)->ps.length * w<=1000->od (pkw w ps&&&pkw w rs)=dot ps rs
 | [],[],_,_,_,_=>by show od (0&&&0)=false;exact od_zero
 | p::ps,r::rs,h,hp,hr,hb=>by
   have O:ps.length * w + w<=1000:=by rw[pA,Wu,Wt] at hb;exact hb
   have ih:=Oc (w:=w) (ps:=ps) (rs:=rs) (by simpa using h) (λx G=>hp x (ik _ G)) (λx G=>hr x (ik _ G)) @A;show od ((p^^^@bZ)&&&(r^^^(pkw w rs <<< w)))=(od (p&&&r)^^dot ps rs);have L:pkw w ps&&&pkw w rs < 2 ^ (1000 - w):=w2 Zj (!a6 (pkw_lt λx G=>hp x (ik _ G)));rw[o6 (hp p (j' ..)) (hr r (j' ..)),od_xor,Fh L @A,ih]
noncomputable def bkI (A:Cr) (s:Nat):Nat->Nat
 | 0=>s
 | i + 1=>sm A (bkI A s i)
theorem FG (A:Cr) (s:Nat):∀i,bkI A (sm A s) i=bkI A s @J
 | 0=>rfl
 | i + 1=>px (sm A) (FG A s i)
theorem vH {w:Nat}:∀{ps:Cr},(∀p∈ps,p < 2 ^ w)->(pkw w ps=0↔∀p∈ps,p=0)
 | [],_=>⟨λ_ p h=>hF h @C,λ_=>rfl⟩
 | p::ps,h=>by
   rw[PU (h p (j' ..))];have ih:=vH λx G=>h x (ik _ G);have hw:=mm w;constructor
   ·intro e x G;have Y:p=0:=by omega
    have O:pkw w ps * 2 ^ w=0:=by omega
    have L:pkw w ps=0:=by
     rcases Nat.mul_eq_zero.mp O with h | h
     ·exact h
     ·omega
    rcases qq.mp G with z | z
    ·rw[z,Y]
    ·exact ih.mp L x z
   ·intro e;rw[e p (j' ..),ih.mpr λx G=>e x (ik _ G)];simp
end M
namespace Sx
open PySem L2
noncomputable abbrev nA (nx:@R):Cr:=nx.map λq=>q.2.1
noncomputable abbrev nB (nx:@R):Cr:=nx.map λq=>q.2.2
def L9:Sp:=λvs H Q _=>∃(r:ee) (ps:Cr) (wd:Nat),vs=[.ref r,nat wd]/\H r=ak (!A (ps.map nat))/\ps.length<=1000/\wd<=1000/\(∀p∈ps,p < 2 ^ 60)/\∀H2,Same H H2->Q (nat (M.pkw wd ps)) H2
def IG:Sp:=λvs H Q _=>∃(c:Int) (n w:Nat),vs=[.int c,nat n,nat w]/\n<=64/\w<=16/\∀(D:ee) (H2:Hp) (ms:Cr),H D=f'->Same H H2->H2 D=ak (!A (ms.map nat))->ms.length=n->(∀x∈ms,x < 2 ^ w)->Q @Z H2
theorem Jf {K:b'} {H:Hp} {α:Type} (f:α->V) (g:α->Dt) (r:∀x,Rep K H (f x) (g x)) (xs:eS α):∀(i:Nat) x d,(xs.map f)[i]? =ak x->(xs.map g)[i]? =ak d->Rep K H x d:=by
 intro i x d h1 h2;rw[hH] at h1 h2;cases e:xs[i]? with
 | none=>rw[e] at h1;cases h1
 | some y=>rw[e] at h1 h2;cases h1;cases h2;exact r y
theorem Rj {K:b'} {te:TE} {σ:St} {H:Hp} {Q:VK} (h:te σ H λx H1=>∃a xs,x= .ref a/\SqL K H1 a xs/\∀l,H1 l=f'->Q @aA (!ay H1 l xs.reverse)):tRev K te σ H Q:=h
noncomputable def low (c:Nat):Bool:=decide (97<=c)&&decide (c<=122)
noncomputable def fig (c:Nat):Bool:=decide (48<=c)&&decide (c<=57)
noncomputable def nm (l:Cr):Bool:=match l with
 | []=>false
 | c::r=>decide ((c::r).length<=6)&&low c&&(c::r).all λc=>low c||fig c
noncomputable def Up (x:V):Bool:=match x with
 | .str z=>nm z.cps.toList
 | _=>false
def Nm (z:lA):Prop:=nm z.cps.toList=true
def IC (K:b'):Sp:=λvs H Q _=>∃x k,vs=[x]/\mW K H x k/\(∀z,x= .str z->z.length<=1000)/\∀H',Same H H'->Q (.bl (Up x)) H'
theorem memL (c:Nat):decide (c∈("abcdefghijklmnopqrstuvwxyz":lA).cps.toList)=low c:=by
 have e:("abcdefghijklmnopqrstuvwxyz":lA).cps.toList=Z9 97 26:=by decide +kernel
 rw[e];unfold low;rw[VI,U6,V1,V1,V1,YN];constructor
 ·rintro⟨i,h,rfl⟩;omega
 ·rintro⟨h1,h2⟩;exact⟨c - 97,@A,@A⟩
theorem memN (c:Nat):decide (c∈("abcdefghijklmnopqrstuvwxyz0123456789":lA).cps.toList)=(low c||fig c):=by
 have e:("abcdefghijklmnopqrstuvwxyz0123456789":lA).cps.toList=Z9 97 26++Z9 48 10:=by decide +kernel
 rw[e];unfold low fig;rw[VI,Bool.or_eq_true,U6,U6,V1,V1,V1,V1,V1,gz,YN,YN];constructor
 ·rintro(⟨i,h,rfl⟩ | ⟨i,h,rfl⟩)
  ·left;omega
  ·right;omega
 ·rintro(⟨h1,h2⟩ | ⟨h1,h2⟩)
  ·exact !J ⟨c - 97,by omega,by omega⟩
  ·exact !F ⟨c - 48,by omega,by omega⟩
theorem pG (z:lA):z.cps.toList.length=z.length:=by simp[Str.length]
theorem C8 {z:lA}:z=""↔z.cps.toList=[]:=by
 constructor
 ·rintro rfl;decide +kernel
 ·intro h;cases z with | mk c=>cases c with | mk l=>have h:l=[]:=h;subst h;decide +kernel
theorem Nm.len {z:lA} (h:Nm z):z.length<=6:=by
 have h:nm z.cps.toList=true:=h;have l:=pG z;cases e:z.cps.toList with
 | nil=>rw[e] at l;rw[<-l];decide
 | cons c r=>
   rw[e] at h l;unfold nm at h;rw[U6,U6] at h;have:=v5 h.1.1;omega
theorem c_nm {K:b'} {H:Hp} {Q:VK} {E:XK} {z:lA} (h:Nm z) (q:∀H',Same H H'->Q (.bl true) H'):IC K [.str z] H Q E:=⟨_,"str",rfl,rfl,λG e=>by cases e;have:=h.len;omega,λH' s=>by show Q (.bl (nm z.cps.toList)) H';rw[show nm z.cps.toList=true from h];exact q H' s⟩
def Mh (K:b'):Sp:=λvs H Q _=>∃x C dx nm,vs=[.ref x,nm]/\Cls K C/\cI K C "name"/\H x=ak @b9/\∀H2,Upd H H2 x (!aH [("name",nm)])->Q .non H2
def Mg (C:ee):Sp:=λvs H Q _=>∃x dx nm k,vs=[.ref x,nm,k]/\H x=ak @b9/\∀H2,Upd H H2 x (!aH [("name",nm),("number",k)])->Q .non H2
def Mf (C:ee):Sp:=λvs H Q _=>∃x dx nm w k,vs=[.ref x,nm,w,k]/\H x=ak @b9/\∀H2,Upd H H2 x (!aH [("name",nm),("wire",w),("number",k)])->Q .non H2
def Pf (C:ee):Sp:=λvs H Q _=>∃p dx nm k G row st,vs=[.ref p,G,.int row,.int st]/\H p=ak (!aH [("name",nm),("number",.int k)])/\0<=k/\Q (.int (Vx (row / 2 ^ k.toNat) 1)) H
def Pd (C:ee):Sp:=λvs H Q _=>∃p dx nm w k G row st,vs=[.ref p,G,.int row,.int st]/\H p=ak (!aH [("name",nm),("wire",w),("number",.int k)])/\0<=k/\Q (.int (Vx (st / 2 ^ k.toNat) 1)) H
def Pe (K:b') (C:ee):Sp:=λvs H Q _=>∃(p dx:ee) (nm:V) (G d:ee) (ws:C') (kvs:@ak) (f:lA->Int) (row st:Int),vs=[.ref p,.ref d,.int row,.int st]/\H p=ak (!aH [("name",nm),("wires",.ref G)])/\SqT K H G @bU/\
 H d=ak @ah/\(∀w∈ws,valV kvs (v3 w)=ak (.int (f w)))/\Q (.int ((!aM f).foldl U5 0)) H
def Mm (C:ee):Sp:=λvs H Q _=>∃p dx nm k G,vs=[.ref p,G]/\H p=ak (!aH [("name",nm),("number",.int k)])/\0<=k/\k<=1000/\∀t H2,Same H H2->H2 t=ak (!G [.int 0,.int (1 * 2 ^ k.toNat)])->Q @a5 H2
def Mj (C:ee):Sp:=λvs H Q _=>∃p dx nm w k G,vs=[.ref p,G]/\H p=ak (!aH [("name",nm),("wire",w),("number",.int k)])/\0<=k/\k<=1000/\∀t H2,Same H H2->H2 t=ak (!G [.int (1 * 2 ^ k.toNat),.int 0])->Q @a5 H2
def Ml (K:b') (C:ee):Sp:=λvs H Q _=>∃(p dx:ee) (nm:V) (G d:ee) (ws:C') (kvs:@ak) (f g:lA->Int),vs=[.ref p,.ref d]/\H p=ak (!aH [("name",nm),("wires",.ref G)])/\SqT K H G @bU/\
 H d=ak @ah/\(∀w∈ws,∃t,valV kvs (v3 w)=ak @a5/\SqT K H t [.int (f w),.int (g w)])/\∀t H2,Same H H2->H2 t=ak (!G [.int ((!aM f).foldl U5 0),.int ((!aM g).foldl U5 0)])->Q @a5 H2
theorem xP {ws:C'} {f:lA->Int} {i:Nat} {w:lA} (h:ws[i]? =ak w):((ws.take @J).map f).foldl U5 0=U5 (((@bX).map f).foldl U5 0) (f w):=by
 rw[Zn,h,dt,UZ];rfl
structure Nt where
 ins:C'
 sums:eS (lA×eS lA)
 sts:eS (lA×lA)
 outs:C'
noncomputable def Nt.names (N:Nt):C':=N.ins++N.sums.map (·.1)++N.sts.map (·.1)
structure Gn (N:Nt):Prop where
 li:N.ins.length<=6
 ls:N.sums.length<=40
 lt:N.sts.length<=16
 lo:N.outs.length<=6
 lw:∀r∈N.sums,r.2.length<=24
 nm:∀z∈N.names,Nm z
 nd:N.names.Nodup
 ws:∀r∈N.sums,∀z∈r.2,z∈N.names
 ts:∀r∈N.sts,r.2∈N.names
 os:∀z∈N.outs,z∈N.names
 rk:∃rank:lA->Nat,∀r∈N.sums,∀z∈r.2,z∈N.sums.map (·.1)->rank z < rank r.1
structure Topo (sums:@bc) (od:C'):Prop where
 perm:od.Perm (sums.map (·.1))
 need:∀(i:Nat) z,od[i]? =ak z->∀ws,(z,ws)∈sums->∀y∈ws,y∈sums.map (·.1)->y∈od.take i
noncomputable abbrev Rw:=ee×ee×lA×eS lA
noncomputable abbrev Qs:=ee×lA×lA
structure Hnd (H:Hp) (i s t o:ee) (rs:eS Rw) (qs:eS Qs) (N:Nt):Prop where
 i:H i=ak (!A @cp)
 s:H s=ak (!A @bv)
 sr:∀r∈rs,H r.1=ak @bP/\H r.2.1=ak (!A @bx)
 es:rs.map (·.2.2)=N.sums
 t:H t=ak (!A @cE)
 tr:∀q∈qs,H q.1=ak @cS
 et:qs.map (·.2)=N.sts
 o:H o=ak (!A @cA)
theorem Hnd.same {H H2:Hp} {i s t o:ee} {rs:eS Rw} {qs:eS Qs} {N:Nt} (x:Hnd H i s t o rs qs N) (h:@ap):Hnd H2 i s t o rs qs N:=⟨h.get x.i,h.get x.s,λr m=>⟨h.get (x.sr r m).1,h.get (x.sr r m).2⟩,x.es,h.get x.t,λq m=>h.get (x.tr q m),x.et,h.get x.o⟩
structure Kpt (H:Hp) (i s t o:ee) (rs:eS Rw) (qs:eS Qs) (N:Nt):Prop where
 i:H i=ak (!G @cp)
 s:H s=ak (!G @bv)
 sr:∀r∈rs,H r.1=ak @bP/\H r.2.1=ak (!G @bx)
 es:rs.map (·.2.2)=N.sums
 t:H t=ak (!G @cE)
 tr:∀q∈qs,H q.1=ak @cS
 et:qs.map (·.2)=N.sts
 o:H o=ak (!G @cA)
theorem Kpt.same {H H2:Hp} {i s t o:ee} {rs:eS Rw} {qs:eS Qs} {N:Nt} (x:Kpt H i s t o rs qs N) (h:@ap):Kpt H2 i s t o rs qs N:=⟨h.get x.i,h.get x.s,λr m=>⟨h.get (x.sr r m).1,h.get (x.sr r m).2⟩,x.es,h.get x.t,λq m=>h.get (x.tr q m),x.et,h.get x.o⟩
def IQ:Sp:=λvs H Q _=>∃(i s t o:ee) (rs:eS Rw) (qs:eS Qs) (N:Nt),vs=[.ref i,.ref s,.ref t,.ref o]/\Hnd H i s t o rs qs N/\Gn N/\∀H2,Same H H2->Q .non H2
def IR:Sp:=λvs H Q _=>∃(l:ee) (zs:C'),vs=[.ref l]/\H l=ak (!A @b0)/\zs.length<=1000/\zs.Nodup/\(∀z∈zs,Nm z)/\∀H2,Same H H2->Q .non H2
def Knw (H:Hp) (d:ee) (zs:C'):Prop:=∃kvs:eS (Key×V),H d=ak @ah/\kvs.map (·.1)=zs.map v3
theorem Knw.same {H H2:Hp} {d:ee} {zs:C'} (x:Knw H d zs) (h:@ap):Knw H2 d zs:=let ⟨k,e,f⟩:=x;⟨k,h.get e,f⟩
def Mo:Sp:=λvs H Q _=>∃(z:lA) (d:ee) (zs:C'),vs=[.str z,.ref d]/\Knw H d zs/\z∈zs/\Nm z/\∀H2,Same H H2->Q .non H2
def IP:Sp:=λvs H Q _=>∃(i s t o d:ee) (rs:eS Rw) (qs:eS Qs) (N:Nt),vs=[.ref s,.ref t,.ref o,.ref d]/\Kpt H i s t o rs qs N/\Gn N/\Knw H d N.names/\∀H2,Same H H2->Q .non H2
theorem vz {kvs:@ak} {zs:C'} (e:kvs.map (·.1)=zs.map v3) (z:lA):(valV kvs @aK).isSome=decide (z∈zs):=by
 cases h:valV kvs @aK with
 | none=>
   have:=LQ h;rw[e] at this;rw[hA λm=>this (!aq ⟨z,m,rfl⟩)];rfl
 | some v=>
   have:=OR h;rw[e] at this;obtain⟨y,G,ey⟩:=hD.mp this;cases ey;rw[hE G];rfl
theorem DF {kvs:@ak} {zs:C'} (e:kvs.map (·.1)=zs.map v3) {z:lA} (h:z∉zs) (v:V):putK kvs @aK v=kvs++[(v3 z,v)]:=by
 refine E9 ?_;rw[<-Option.not_isSome_iff_eq_none,vz e z,hA h];exact ia
inductive Wob (H:Hp) (CI CS CT:ee) (N:Nt) (z:lA) (w:ee):Prop where
 | i (k:Nat) (dx:ee) (hk:N.ins[k]? =ak z) (e:H w=ak (.ins CI dx [("name",.str z),("number",nat k)])):Wob H CI CS CT N z w
 | s (ws:C') (dx tw:ee) (hk:(z,ws)∈N.sums) (e:H w=ak (.ins CS dx [("name",.str z),("wires",.ref tw)])) (et:H tw=ak (!G @bU)):Wob H CI CS CT N z w
 | t (k:Nat) (y:lA) (dx:ee) (hk:N.sts[k]? =ak (z,y)) (e:H w=ak (.ins CT dx [("name",.str z),("wire",.str y),("number",nat k)])):Wob H CI CS CT N z w
theorem Wob.same {H H2:Hp} {ο ξ ν:ee} {N:Nt} {z:lA} {w:ee} (x:Wob H ο ξ ν N z w) (h:@ap):Wob H2 ο ξ ν N z w:=by
 cases x with
 | i k dx hk e=>exact .i k dx hk (h.get e)
 | s ws dx G hk e et=>exact .s ws dx G hk (h.get e) (h.get et)
 | t k y dx hk e=>exact .t k y dx hk (h.get e)
theorem Wob.name {H:Hp} {ο ξ ν:ee} {N:Nt} {z:lA} {w:ee} (x:Wob H ο ξ ν N z w):∃C dx fs,H w=ak (!aH (("name",.str z)::fs))/\(C=ο∨C=ξ∨C=ν):=by
 cases x with
 | i k dx hk e=>exact⟨_,_,_,e,@aj⟩
 | s ws dx G hk e et=>exact⟨_,_,_,e,!F @aj⟩
 | t k y dx hk e=>exact⟨_,_,_,e,!F (!F rfl)⟩
structure WiA (H:Hp) (CI CS CT d:ee) (N:Nt) (ws:U1):Prop where
 d:H d=ak (.dK (ws.map λq=>(v3 q.1,V.ref q.2)))
 nm:ws.map (·.1)=N.names
 ob:∀q∈ws,Wob H CI CS CT N q.1 q.2
theorem WiA.same {H H2:Hp} {ο ξ ν d:ee} {N:Nt} {ws:U1} (x:WiA H ο ξ ν d N ws) (h:@ap):WiA H2 ο ξ ν d N ws:=⟨h.get x.d,x.nm,λq m=>(x.ob q m).same h⟩
theorem WiA.knw {H:Hp} {ο ξ ν d:ee} {N:Nt} {ws:U1} (x:WiA H ο ξ ν d N ws):Knw H d N.names:=⟨_,x.d,by rw[u2,<-x.nm,u2];rfl⟩
def F0 (ο ξ ν:ee):Sp:=λvs H Q _=>∃(i s t o:ee) (rs:eS Rw) (qs:eS Qs) (N:Nt),vs=[.ref i,.ref s,.ref t]/\Kpt H i s t o rs qs N/\Gn N/\∀(d:ee) (H2:Hp) (ws:U1),H d=f'->Same H H2->WiA H2 ο ξ ν d N ws->Q @aX H2
noncomputable def iC (zs:C') (ws:C'):Bool:=ws.any λw=>decide (w∈zs)
def L3:Sp:=λvs H Q _=>∃(r:Rw) (d:ee) (zs:C'),vs=[.ref r.1,.ref d]/\H r.1=ak @bP/\H r.2.1=ak (!G @bx)/\r.2.2.2.length<=24/\Knw H d zs/\∀H2,Same H H2->Q (.bl (iC zs r.2.2.2)) H2
def F7:Sp:=λvs H Q _=>∃(s:ee) (rs:eS Rw) (N:Nt),vs=[.ref s]/\H s=ak (!G @bv)/\(∀r∈rs,H r.1=ak @bP/\H r.2.1=ak (!G @bx))/\rs.map (·.2.2)=N.sums/\Gn N/\∀(D:ee) (H2:Hp) (od:C'),H D=f'->Same H H2->H2 D=ak (!A (od.map V.str))->Topo N.sums od->Q @Z H2
theorem iY {H:Hp} {Q:VK} {l b:ee} {xs zs:eS V} (L:@bC) (G:H b=ak (!A zs)) (hl:@dw) (h:∀H2,Upd H H2 l (!A (xs++zs))->Q .non H2):DE @aA [.ref b] H Q:=⟨l,b,xs,zs,rfl,rfl,L,G,hl,h _ Upd.of⟩
theorem Wob.keep {H H2:Hp} {ο ξ ν:ee} {N:Nt} {z:lA} {w D:ee} {xs:eS V} (x:Wob H ο ξ ν N z w) (ω:H D=ak @al) (h:∀b o,b≠D->H b=ak o->H2 b=ak o):Wob H2 ο ξ ν N z w:=by
 cases x with
 | i k dx hk e=>exact .i k dx hk (h _ _ (cF e ω (λz=>by cases z)) e)
 | s ws dx G hk e et=>exact .s ws dx G hk (h _ _ (cF e ω (λz=>by cases z)) e) (h _ _ (cF et ω (λz=>by cases z)) et)
 | t k y dx hk e=>exact .t k y dx hk (h _ _ (cF e ω (λz=>by cases z)) e)
structure WL (H0 H:Hp) (CI CS CT:ee) (N:Nt) (D:ee) (ys:eS V) (zs:C') (ws:U1):Prop where
 ey:ys=ws.map λq=>V.ref q.2
 nm:ws.map (·.1)=zs
 ob:∀q∈ws,Wob H CI CS CT N q.1 q.2
 same:Same H0 H
 d:H D=ak @X
def IL (K:b') (C:ee):Sp:=λvs H Q _=>∃x dx nm G ws,vs=[.ref x,nm,.ref G]/\H G=ak (!G ws)/\H x=ak @b9/\
 ∀H2,Upd H H2 x (!aH [("name",nm),("wires",.ref G)])->Q .non H2
theorem WL.put {L H G:Hp} {ο ξ ν:ee} {N:Nt} {D:ee} {ys:eS V} {zs:C'} {ws:U1} (c:WL L H ο ξ ν N D ys zs ws) (ω:L D=f') (s:!bm G) {z:lA} {x:ee} (Z:Wob G ο ξ ν N z x) (υ:zs.length<=900) {φ:C'} (χ:φ=zs++[z]):
  G D=ak @X/\ys.length < kf/\∃ws,WL L (!a1 G (ys++[.ref x])) ο ξ ν N D (ys++[.ref x]) φ ws:=by
 have θ:=s.get c.d;have k:∀b o,b≠D->G b=ak o->upd G D (!A (ys++[.ref x])) b=ak o:=λb o n e=>by rw[aH n];exact e
 have lw:ys.length=zs.length:=by rw[c.ey,<-c.nm,aI,aI]
 refine⟨θ,@b6,ws++[(z,x)],by rw[dt,c.ey];rfl,by rw[dt,c.nm,χ];rfl,λq O=>?_,λb o e=>?_,ay⟩
 ·rcases gz.mp O with h | h
  ·exact((c.ob q h).same s).keep θ k
  ·rw[gs] at h;subst h;exact Z.keep θ k
 ·exact k _ _ (!L ω) (s.get (!bi e))
theorem WL.join {O H H2 Z:Hp} {ο ξ ν:ee} {N:Nt} {D β:ee} {ys G:eS V} {zs Y:C'} {ws π:U1} (c:WL O H ο ξ ν N D ys zs ws) (L:WL H H2 ο ξ ν N β G Y π) (ω:O D=f') (u:Upd H2 Z D (!A (ys++G))):
  WL O Z ο ξ ν N D (ys++G) (zs++Y) (ws++π):=by
 have θ:=L.same.get c.d;refine⟨by rw[dt,c.ey,L.ey],by rw[dt,c.nm,L.nm],λq α=>?_,λb o e=>u.oth _ _ (!L ω) (L.same.get (!bi e)),u.at'⟩;rcases gz.mp α with h | h
 ·exact((c.ob q h).same L.same).keep θ u.oth
 ·exact(L.ob q h).keep θ u.oth
structure Otp (sums:@bc) (od:C') (lf:@bc):Prop where
 perm:(od++lf.map (·.1)).Perm (sums.map (·.1))
 sub:∀r∈lf,r∈sums
 need:∀(i:Nat) z,od[i]? =ak z->∀ws,(z,ws)∈sums->∀y∈ws,y∈sums.map (·.1)->y∈od.take i
theorem Otp.start (sums:@bc):Otp sums [] sums:=⟨List.Perm.refl _,λ_ h=>h,λi z h=>by simp at h⟩
theorem Otp.done {sums:@bc} {od:C'} (o:Otp sums od []):Topo sums od:=⟨by have:=o.perm;rwa [Z0,UY] at this,o.need⟩
theorem JD {sums:@bc} (nd:(sums.map (·.1)).Nodup) {z:lA} {ws G:C'} (h:(z,ws)∈sums) (h':(z,G)∈sums):ws=G:=by
 induction sums with
 | nil=>cases h
 | cons r l ih=>
   rw[UL,WV] at nd;rcases qq.mp h with e | h
   ·rcases qq.mp h' with L | h'
    ·rw[<-e] at L;exact(Prod.mk.inj L).2.symm
    ·exact hF (!aq ⟨_,h',rfl⟩) (by rw[<-e] at nd;exact nd.1)
   ·rcases qq.mp h' with L | h'
    ·exact hF (!aq ⟨_,h,rfl⟩) (by rw[<-L] at nd;exact nd.1)
    ·exact ih nd.2 h h'
theorem Otp.step {sums:@bc} (nd:(sums.map (·.1)).Nodup) {od:C'} {lf:@bc} (o:Otp sums od lf):
  Otp sums (od++(lf.filter λr=> !iC (lf.map (·.1)) r.2).map (·.1)) (lf.filter λr=>iC (lf.map (·.1)) r.2):=by
 refine⟨?_,λr h=>o.sub r (UQ.mp h).1,λi z hz ws hw y O hs=>?_⟩
 ·refine XO ?_ o.perm;rw[WH,<-dt];refine Zp _ (List.Perm.map _ ?_);refine XO ZZ ?_;exact ZK _ _
 ·by_cases hi:i < od.length
  ·rw[ky hi] at hz;rw[Xg (Vw hi)];exact o.need i z hz ws hw y O hs
  ·rw[lB @A] at hz;have hm:=eH hz;obtain⟨r,Y,rfl⟩:=hD.mp hm;obtain⟨L,G⟩:=UQ.mp Y;have e:ws=r.2:=JD nd hw (o.sub r L);subst e
   have hn:y∉lf.map (·.1):=λm=>by
    have:iC (lf.map (·.1)) r.2=true:=WC.mpr ⟨y,O,hE m⟩;rw[this] at G;cases G
   have:=(o.perm.mem_iff (a:=y)).mpr hs;rcases gz.mp this with h | h
   ·rw[XR,gz];left;rw[Va @A];exact h
   ·exact hF h hn
theorem zm {α:Type} (f:α->Nat):∀l:eS α,l≠[]->∃a∈l,∀b∈l,f a<=f b
 | [],h=>hF rfl h
 | [a],_=>⟨a,@c1,λb h=>by rw[gs.mp h];exact oe _⟩
 | a::b::l,_=>by
   obtain⟨c,G,h⟩:=zm f (b::l) @C;by_cases ζ:f a<=f c
   ·exact⟨a,j' ..,λd hd=>(qq.mp hd).elim (λe=>by rw[e];exact oe _) λe=>Vs ζ (h d e)⟩
   ·exact⟨c,ik _ G,λd hd=>(qq.mp hd).elim (λe=>by rw[e];omega) λe=>h d e⟩
theorem Otp.ready {N:Nt} (g:Gn N) {od:C'} {lf:@bc} (o:Otp N.sums od lf) (h:lf≠[]):0 < (lf.filter λr=> !iC (lf.map (·.1)) r.2).length:=by
 obtain⟨Z,O⟩:=g.rk;obtain⟨r,hm,hl⟩:=zm (λr:lA×eS lA=>Z r.1) lf h;refine ZR (UQ.mpr ⟨hm,?_⟩);cases hw:iC (lf.map (·.1)) r.2 with
 | false=>rfl
 | true=>
   obtain⟨y,L,η⟩:=WC.mp hw;obtain⟨G,ρ,rfl⟩:=hD.mp (v5 η);have h1:=O r (o.sub r hm) _ L (!aq ⟨G,o.sub G ρ,rfl⟩);have h2:=hl G ρ;omega
theorem Ey {α:Type} (p:α->US):∀l:eS α,0 < (l.filter λx=> !p x).length->(l.filter p).length < l.length:=λl h=>by
 have:=(ZK p l).length_eq;rw[fD] at this;omega
theorem Gn.nds {N:Nt} (g:Gn N):(N.sums.map (·.1)).Nodup:=by
 have:=g.nd;unfold Nt.names at this;rw[UK,UK] at this;exact this.1.2.1
structure NetA (H:Hp) (C CI CS CT p:ee) (N:Nt) (od:C'):Prop where
 ho:∃(dx i s t o d tq:ee) (rs:eS Rw) (qs:eS Qs) (ws:U1),H p=ak (!aH [("ins",.ref i),("sums",.ref s),("kept_stores",.ref t),("outs",.ref o),("by_name",.ref d),("sum_order",.ref tq)])/\Kpt H i s t o rs qs N/\WiA H CI CS CT d N ws/\H tq=ak (!G (od.map V.str))
 g:Gn N
 tp:Topo N.sums od
theorem NetA.same {H H2:Hp} {C ο ξ ν p:ee} {N:Nt} {od:C'} (x:NetA H C ο ξ ν p N od) (h:@ap):NetA H2 C ο ξ ν p N od:=by
 obtain⟨dx,i,s,t,o,d,G,rs,qs,ws,a,b,c,e⟩:=x.ho;exact ⟨⟨dx,i,s,t,o,d,G,rs,qs,ws,h.get a,b.same h,c.same h,h.get e⟩,x.g,x.tp⟩
def Q3 (C ο ξ ν:ee):Sp:=λvs H Q _=>∃(x dx i s t o:ee) (rs:eS Rw) (qs:eS Qs) (N:Nt),vs=[.ref x,.ref i,.ref s,.ref t,.ref o]/\H x=ak @b9/\Hnd H i s t o rs qs N/\Gn N/\
 ∀(H2:Hp) (od:C'),(∀b ob,b≠x->H b=ak ob->H2 b=ak ob)->NetA H2 C ο ξ ν x N od->Q .non H2
def Kx (x:ee) (H H2:Hp):Prop:=∀b ob,b≠x->H b=ak ob->H2 b=ak ob
theorem Kx.trans {x:ee} {H H2 G:Hp} (a:Kx x H H2) (b:Kx x H2 G):Kx x H G:=λc o n e=>b c o n (a c o n e)
theorem Kx.same {x:ee} {H H2:Hp} (s:@ap):Kx x H H2:=λ_ _ _ e=>s.get e
theorem Kx.upd {x:ee} {H H2:Hp} {o:HO} (u:Upd H H2 x o):Kx x H H2:=u.oth
theorem Kx.tup {x:ee} {H H2:Hp} (k:Kx x H H2) {C dx:ee} {fs:@as} (hx:@c5) {b:ee} {xs:eS V} (e:H b=ak @ax):H2 b=ak @ax:=k b _ (cF e hx λz=>by cases z) e
theorem Kx.lst {x:ee} {H H2:Hp} (k:Kx x H H2) {C dx:ee} {fs:@as} (hx:@c5) {b:ee} {xs:eS V} (e:H b=ak @al):H2 b=ak @al:=k b _ (cF e hx λz=>by cases z) e
theorem Kx.hnd {x:ee} {H H2:Hp} (k:Kx x H H2) {C dx:ee} {fs:@as} (hx:@c5) {i s t o:ee} {rs:eS Rw} {qs:eS Qs} {N:Nt} (h:Hnd H i s t o rs qs N):Hnd H2 i s t o rs qs N:=
 ⟨k.lst hx h.i,k.lst hx h.s,λr m=>⟨k.tup hx (h.sr r m).1,k.lst hx (h.sr r m).2⟩,h.es,k.lst hx h.t,λq m=>k.tup hx (h.tr q m),h.et,k.lst hx h.o⟩
def RwK (H:Hp) (rs:eS Rw):Prop:=∀r∈rs,H r.1=ak @bP/\H r.2.1=ak (!G @bx)
def QsK (H:Hp) (qs:eS Qs):Prop:=∀q∈qs,H q.1=ak @cS
theorem RwK.same {H H2:Hp} {rs:eS Rw} (h:RwK H rs) (s:@ap):RwK H2 rs:=λr m=>⟨s.get (h r m).1,s.get (h r m).2⟩
theorem QsK.same {H H2:Hp} {qs:eS Qs} (h:QsK H qs) (s:@ap):QsK H2 qs:=λq m=>s.get (h q m)
theorem Kx.rw{x:ee} {H H2:Hp} (k:Kx x H H2) {C dx:ee} {fs:@as} (hx:@c5) {rs:eS Rw} (h:RwK H rs):RwK H2 rs:=λr m=>⟨k.tup hx (h r m).1,k.tup hx (h r m).2⟩
theorem Kx.qs {x:ee} {H H2:Hp} (k:Kx x H H2) {C dx:ee} {fs:@as} (hx:@c5) {qs:eS Qs} (h:QsK H qs):QsK H2 qs:=λq m=>k.tup hx (h q m)
theorem RwK.updL {H H2:Hp} {rs:eS Rw} (h:RwK H rs) {D:ee} {xs:eS V} (ω:H D=ak @al) (k:∀b o,b≠D->H b=ak o->H2 b=ak o):RwK H2 rs:=λr m=>⟨k _ _ (cF (h r m).1 ω λz=>by cases z) (h r m).1,k _ _ (cF (h r m).2 ω λz=>by cases z) (h r m).2⟩
theorem QsK.updL {H H2:Hp} {qs:eS Qs} (h:QsK H qs) {D:ee} {xs:eS V} (ω:H D=ak @al) (k:∀b o,b≠D->H b=ak o->H2 b=ak o):QsK H2 qs:=λq m=>k _ _ (cF (h q m) ω λz=>by cases z) (h q m)
theorem Kx.kpt {x:ee} {H H2:Hp} (k:Kx x H H2) {C dx:ee} {fs:@as} (hx:@c5) {i s t o:ee} {rs:eS Rw} {qs:eS Qs} {N:Nt} (h:Kpt H i s t o rs qs N):Kpt H2 i s t o rs qs N:=
 ⟨k.tup hx h.i,k.tup hx h.s,λr m=>⟨k.tup hx (h.sr r m).1,k.tup hx (h.sr r m).2⟩,h.es,k.tup hx h.t,λq m=>k.tup hx (h.tr q m),h.et,k.tup hx h.o⟩
theorem Kx.wia {x:ee} {H H2:Hp} (k:Kx x H H2) {ο ξ ν d:ee} {N:Nt} {ws:U1} (h:WiA H ο ξ ν d N ws) (hd:d≠x) (hw:∀q∈ws,q.2≠x) {C dx:ee} {fs:@as} (hx:@c5):WiA H2 ο ξ ν d N ws:=
 ⟨k _ _ hd h.d,h.nm,λq m=>by
  cases h.ob q m with
  | i O G hk e=>exact .i O G hk (k _ _ (hw q m) e)
  | s L G Y hk e et=>exact .s L G Y hk (k _ _ (hw q m) e) (k.tup hx et)
  | t O y G hk e=>exact .t O y G hk (k _ _ (hw q m) e)⟩
noncomputable def xb (f:R') (ws:C'):Bool:=ws.foldl (λa w=>a^^f w) false
theorem lE (f:R') (ws:C') (w:lA):xb f (ws++[w])=(xb f ws^^f w):=by unfold xb;rw[UZ];rfl
theorem vy {f g:R'}:∀{ws:C'},(∀w∈ws,f w=g w)->xb f ws=xb g ws:=by
 intro ws
 induction ws using M.rev_ind with
 | h0=>intro _;rfl
 | h1 l x ih=>intro h;rw[lE,lE,ih λw hw=>h w (!N hw),h x (!Q @c1)]
theorem QR (f g:R'):∀ws:C',xb (λz=>f z^^g z) ws=(xb f ws^^xb g ws):=by
 intro ws
 induction ws using M.rev_ind with
 | h0=>rfl
 | h1 l x ih=>rw[lE,lE,lE,ih];cases xb f l<;>cases xb g l<;>cases f x<;>cases g x<;>rfl
structure Val (N:Nt) (row st:Nat) (f:R'):Prop where
 i:∀(k:Nat) z,N.ins[k]? =ak z->f z=row.testBit k
 t:∀(k:Nat) z y,N.sts[k]? =ak (z,y)->f z=st.testBit k
 s:∀z ws,(z,ws)∈N.sums->f z=xb f ws
theorem Val.uniq {N:Nt} (g:Gn N) {od:C'} (tp:Topo N.sums od) {r s:Nat} {f Y:R'} (a:Val N r s f) (b:Val N r s Y):∀z∈N.names,f z=Y z:=by
 have O:∀z∈N.ins,f z=Y z:=λz h=>by
  obtain⟨k,hk⟩:=wq.mp h;rw[a.i k z hk,b.i k z hk]
 have Z:∀z∈N.sts.map (·.1),f z=Y z:=λz h=>by
  obtain⟨q,γ,rfl⟩:=hD.mp h;obtain⟨k,hk⟩:=wq.mp γ;rw[a.t k q.1 q.2 hk,b.t k q.1 q.2 hk]
 have α:∀n (k:Nat) z,k < n->od[k]? =ak z->f z=Y z:=by
  intro n
  induction n with
  | zero=>intro k z h;omega
  | succ n ih=>
    intro k z hk hz;obtain⟨row,G,e⟩:=hD.mp (tp.perm.mem_iff.mp (eH hz));have e:row.1=z:=e;subst e;rw[a.s row.1 row.2 G,b.s row.1 row.2 G];refine vy λw hw=>?_;have L:=g.ws row G w hw;unfold Nt.names at L;rcases gz.mp L with h | h
    ·rcases gz.mp h with h | h
     ·exact O w h
     ·have:=tp.need k row.1 hz row.2 G w hw h;obtain⟨j,β⟩:=wq.mp this
      have ε:j < k:=by
       have:=(!M β).1;rw[pa] at this;omega
      rw[ZF ε] at β;exact ih j w @A β
    ·exact Z w h
 intro z hz;unfold Nt.names at hz;rcases gz.mp hz with h | h
 ·rcases gz.mp h with h | h
  ·exact O z h
  ·obtain⟨k,hk⟩:=wq.mp (tp.perm.mem_iff.mpr h);exact α @b4 k z (VP k) hk
 ·exact Z z h
noncomputable def mat (f:R') (ws:C'):Nat:=M.pk (λk=>f (!bu k)) 0 ws.length
theorem Ap (f:R') (ws:C') (k:Nat):(mat f ws).testBit k=(decide (k < ws.length)&&f (!bu k)):=by unfold mat;rw[M.pk_bit,W5]
theorem SD (f:R') (ws:C'):mat f ws < 2 ^ ws.length:=M.pk_lt _ _ _
theorem BG {f g:R'} {ws:C'} (h:∀w∈ws,f w=g w):mat f ws=mat g ws:=by
 apply iv;intro k;rw[Ap,Ap];by_cases hk:k < ws.length
 ·have:ws.getD k ""∈ws:=by rw[dm,ef hk];exact UX hk
  rw[h _ this]
 ·rw[hA hk];rfl
noncomputable def fv (N:Nt) (row st:Nat):R':=ZU (Val N row st)
noncomputable def nan (N:Nt) (row st:Nat):Nat:=mat (fv N row st) N.outs
noncomputable def nst (N:Nt) (row st:Nat):Nat:=mat (fv N row st) (N.sts.map (·.2))
theorem Nb {N:Nt} (g:Gn N) {od:C'} (tp:Topo N.sums od) {r s:Nat} {f:R'} (a:Val N r s f):∀z∈N.names,f z=fv N r s z:=a.uniq g tp (XM ⟨f,a⟩)
theorem Of {N:Nt} (g:Gn N) {od:C'} (tp:Topo N.sums od) {r s:Nat} {f:R'} (a:Val N r s f):mat f N.outs=nan N r s:=BG λw h=>Nb g tp a w (g.os w h)
theorem Od {N:Nt} (g:Gn N) {od:C'} (tp:Topo N.sums od) {r s:Nat} {f:R'} (a:Val N r s f):mat f (N.sts.map (·.2))=nst N r s:=BG λw h=>Nb g tp a w (by obtain⟨q,G,rfl⟩:=hD.mp h;exact g.ts q G)
noncomputable def rst (N:Nt):Nat->Cr->Nat
 | st,[]=>st
 | st,r::rs=>rst N (nst N r st) rs
noncomputable def ran (N:Nt):Nat->Cr->Cr
 | _,[]=>[]
 | st,r::rs=>nan N r st::ran N (nst N r st) rs
theorem E5 (N:Nt) (r:Nat):∀(rs:Cr) (st:Nat),rst N st @aQ=nst N r (rst N st rs)
 | [],_=>rfl
 | q::rs,st=>E5 N r rs (nst N q st)
theorem E8 (N:Nt) (r:Nat):∀(rs:Cr) (st:Nat),ran N st @aQ=ran N st rs++[nan N r (rst N st rs)]
 | [],_=>rfl
 | q::rs,st=>by show nan N q st::ran N (nst N q st) @aQ=_;rw[E8 N r rs];rfl
theorem Jh (N:Nt):∀(rs:Cr) (st:Nat),(ran N st rs).length=rs.length
 | [],_=>rfl
 | q::rs,st=>by show(ran N (nst N q st) rs).length + 1=_;rw[Jh N rs];rfl
def UC (N:Nt):Prop:=∀r s,∃f,Val N r s f
noncomputable def need (N:Nt) (od:C'):C':=N.ins++N.sts.map (·.1)++od
structure Pre (N:Nt) (row st:Nat) (pre:C') (f:R'):Prop where
 i:∀(k:Nat) z,N.ins[k]? =ak z->z∈pre->f z=row.testBit k
 t:∀(k:Nat) z y,N.sts[k]? =ak (z,y)->z∈pre->f z=st.testBit k
 s:∀z ws,(z,ws)∈N.sums->z∈pre->f z=xb f ws/\∀w∈ws,w∈pre
structure Bt (N:Nt) (row st:Nat) (pre:C') (f:R') (z:lA) (v:US):Prop where
 i:∀k:Nat,N.ins[k]? =ak z->v=row.testBit k
 t:∀(k:Nat) y,N.sts[k]? =ak (z,y)->v=st.testBit k
 s:∀ws,(z,ws)∈N.sums->v=xb f ws/\∀w∈ws,w∈pre
theorem Pre.nil (N:Nt) (row st:Nat) (f:R'):Pre N row st [] f:=⟨λ_ _ _ h=>hF h @C,λ_ _ _ _ h=>hF h @C,λ_ _ _ h=>hF h @C⟩
theorem Pre.step {N:Nt} {row st:Nat} {pre:C'} {f:R'} (p:Pre N row st pre f) {z:lA} {v:US} (hz:z∉pre) (b:Bt N row st pre f z v):Pre N row st (pre++[z]) (λy=>if y=z then v else f y):=by
 have O:∀y,y∈pre->(if y=z then v else f y)=f y:=λy G=>mu (λ(e:y=z)=>hz (e ▸ G));have θ:∀ws:C',(∀w∈ws,w∈pre)->xb (λy=>if y=z then v else f y) ws=xb f ws:=λws h=>vy λw hw=>O w (h w hw);refine⟨λk y hk G=>?_,λk y x hk G=>?_,λy ws hs G=>?_⟩
 ·rcases gz.mp G with h | h
  ·rw[O y h];exact p.i k y hk h
  ·rw[gs] at h;subst h;rw[oL rfl];exact b.i k hk
 ·rcases gz.mp G with h | h
  ·rw[O y h];exact p.t k y x hk h
  ·rw[gs] at h;subst h;rw[oL rfl];exact b.t k x hk
 ·rcases gz.mp G with h | h
  ·obtain⟨e,hw⟩:=p.s y ws hs h;rw[O y h,θ ws hw];exact⟨e,λw m=>hJ _ (hw w m)⟩
  ·rw[gs] at h;subst h;obtain⟨e,hw⟩:=b.s ws hs;rw[oL rfl,θ ws hw];exact⟨e,λw m=>hJ _ (hw w m)⟩
section
variable {N:Nt} (g:Gn N)
include g
theorem mV:N.ins.Nodup/\(N.sums.map (·.1)).Nodup/\(N.sts.map (·.1)).Nodup/\(∀z∈N.ins,z∉N.sums.map (·.1))/\(∀z∈N.ins,z∉N.sts.map (·.1))/\∀z∈N.sums.map (·.1),z∉N.sts.map (·.1):=by
 have h:=g.nd;unfold Nt.names at h;rw[UK,UK] at h;obtain⟨⟨a,b,c⟩,d,e⟩:=h;exact⟨a,b,d,λz h1 h2=>c z h1 z h2 rfl,λz h1 h2=>e z (!N h1) z h2 rfl,λz h1 h2=>e z (!Q h1) z h2 rfl⟩
theorem Tg {row st:Nat} {pre:C'} {f:R'} {k:Nat} {z:lA} (h:N.ins[k]? =ak z):Bt N row st pre f z (row.testBit k):=by
 obtain⟨a,b,c,d,e,_⟩:=mV g;have hm:=eH h;refine⟨λj G=>?_,λj y G=>?_,λws hs=>?_⟩
 ·have:k=j:=(YS (!M h).1 a).mp (h.trans G.symm);rw[this]
 ·exact hF (!aq ⟨_,eH G,rfl⟩) (e z hm)
 ·exact hF (!aq ⟨_,hs,rfl⟩) (d z hm)
theorem Tf {row st:Nat} {pre:C'} {f:R'} {k:Nat} {z y:lA} (h:N.sts[k]? =ak (z,y)):Bt N row st pre f z (st.testBit k):=by
 obtain⟨a,b,c,d,e,L⟩:=mV g;have hm:z∈N.sts.map (·.1):=hD.mpr ⟨_,eH h,rfl⟩;refine⟨λj G=>?_,λj x G=>?_,λws hs=>?_⟩
 ·exact hF hm (e z (eH G))
 ·have h1:(N.sts.map (·.1))[k]? =ak z:=by rw[hH,h];rfl
  have h2:(N.sts.map (·.1))[j]? =ak z:=by rw[hH,G];rfl
  have:k=j:=(YS (!M h1).1 c).mp (h1.trans h2.symm);rw[this]
 ·exact hF hm (L z (!aq ⟨_,hs,rfl⟩))
theorem OD {row st:Nat} {pre:C'} {f:R'} {z:lA} {ws:C'} (h:(z,ws)∈N.sums) (hw:∀w∈ws,w∈pre):Bt N row st pre f z (xb f ws):=by
 obtain⟨a,b,c,d,e,O⟩:=mV g;have hm:z∈N.sums.map (·.1):=hD.mpr ⟨_,h,rfl⟩;refine⟨λj G=>?_,λj x G=>?_,λL hs=>?_⟩
 ·exact hF hm (d z (eH G))
 ·exact hF (!aq ⟨_,eH G,rfl⟩) (O z hm)
 ·have:=JD b h hs;subst this;exact⟨rfl,hw⟩
variable {od:C'} (tp:Topo N.sums od)
include tp
theorem kS (z:lA):z∈need N od↔z∈N.names:=by
 unfold need Nt.names;rw[gz,gz,gz,gz,tp.perm.mem_iff];constructor
 ·rintro((h | h) | h)
  ·exact !J @aT
  ·exact !F h
  ·exact !J (!F h)
 ·rintro((h | h) | h)
  ·exact !J @aT
  ·exact !F h
  ·exact !J (!F h)
theorem Qa:(@a0).Nodup:=by
 obtain⟨a,b,c,d,e,O⟩:=mV g;unfold need;rw[UK,UK];refine⟨⟨a,c,λx L y G z=>e x L (z ▸ G)⟩,tp.perm.nodup_iff.mpr b,λx L y G z=>?_⟩;have G:=tp.perm.mem_iff.mp G;subst z;rcases gz.mp L with h | h
 ·exact d x h G
 ·exact O x G h
theorem Ak:(@a0).length<=62:=by
 have:=tp.perm.length_eq;have h1:=g.li;have h2:=g.ls;have G:=g.lt;unfold need;rw[aI] at this;rw[fD,fD,aI];omega
theorem DV {i:Nat} {z:lA} (h:(@a0)[i]? =ak z):∀ws,(z,ws)∈N.sums->∀w∈ws,w∈(@a0).take i:=by
 intro ws hs w hw;obtain⟨a,b,c,d,e,O⟩:=mV g;have hm:z∈N.sums.map (·.1):=hD.mpr ⟨_,hs,rfl⟩;unfold need at h ⊢
 have hi:(N.ins++N.sts.map (·.1)).length<=i:=by
  refine Xv λL=>?_;rw[ky L] at h;rcases gz.mp (eH h) with h | h
  ·exact d z h hm
  ·exact O z hm h
 rw[lB hi] at h;rw[XR,gz,Va hi];have G:=g.ws _ hs w hw;unfold Nt.names at G;rcases gz.mp G with h' | h'
 ·rcases gz.mp h' with h' | h'
  ·exact !J (!N h')
  ·exact !F (tp.need _ z h ws hs w hw h')
 ·exact !J (!Q h')
theorem Qw {row st i:Nat} {f:R'} {z:lA} (h:(@a0)[i]? =ak z):∃v,Bt N row st (!aQ (@a0)) f z v:=by
 have hm:=(kS g tp z).mp (eH h);unfold Nt.names at hm;rcases gz.mp hm with h' | h'
 ·rcases gz.mp h' with h' | h'
  ·obtain⟨k,hk⟩:=wq.mp h';exact⟨_,Tg g hk⟩
  ·obtain⟨r,G,rfl⟩:=hD.mp h';exact⟨_,OD g (ws:=r.2) G (DV g tp h r.2 G)⟩
 ·obtain⟨r,G,rfl⟩:=hD.mp h';obtain⟨k,hk⟩:=wq.mp G;exact⟨_,Tf g (y:=r.2) hk⟩
theorem wX {i:Nat} {z:lA} (h:(@a0)[i]? =ak z):z∉(@a0).take i:=λm=>by
 have nd:=Qa g tp;rw[<-WI i @a0,UK] at nd;exact nd.2.2 z m z (eH (i:=0) (by rw[Xi,Nat.add_zero];exact h)) rfl
theorem Jt {row st:Nat} {f:R'} (p:Pre N row st @a0 f):Val N row st f:=by
 have G:∀z,z∈N.names->z∈need N od:=λz=>(kS g tp z).mpr;refine⟨λk z h=>p.i k z h (G z ?_),λk z y h=>p.t k z y h (G z ?_),λz ws h=>(p.s z ws h (G z ?_)).1⟩
 ·exact !N (!N (eH h))
 ·exact !Q (!aq ⟨_,eH h,rfl⟩)
 ·exact !N (!Q (!aq ⟨_,h,rfl⟩))
theorem Ig:UC N:=λrow st=>by
 have ε:∀n,n<=(@a0).length->∃f,Pre N row st ((@a0).take n) f:=by
  intro n
  induction n with
  | zero=>intro _;exact⟨λ_=>false,Pre.nil ..⟩
  | succ n ih=>
    intro hn;obtain⟨f,hf⟩:=ih @A;obtain⟨z,hz⟩:∃z,(@a0)[n]? =ak z:=⟨_,ef @A⟩;obtain⟨v,G⟩:=Qw (row:=row) (st:=st) (f:=f) g tp hz;have:=hf.step (wX g tp hz) G;rw[<-take_succ hz] at this;exact⟨_,this⟩
 obtain⟨f,hf⟩:=ε _ @Y;rw[ic] at hf;exact⟨f,Jt g tp hf⟩
end
noncomputable abbrev NP:=Hp->ee->Nt->C'->Prop
def F9 (G:NP):Sp:=λvs H Q _=>∃(p:ee) (N:Nt) (od:C'),vs=[.ref p]/\G H p N od/\∀(D:ee) (H2:Hp),H D=f'->Same H H2->H2 D=ak (!A @cp)->Q @Z H2
def O3 (G:NP):Sp:=λvs H Q _=>∃(p:ee) (N:Nt) (od:C'),vs=[.ref p]/\G H p N od/\∀(D:ee) (H2:Hp),H D=f'->Same H H2->H2 D=ak (!A @cA)->Q @Z H2
def Iz (G:NP):Sp:=λvs H Q _=>∃(p:ee) (N:Nt) (od:C'),vs=[.ref p]/\G H p N od/\∀(D:ee) (H2:Hp) (qs:eS Qs),H D=f'->Same H H2->H2 D=ak (!A @cE)->QsK H2 qs->qs.map (·.2)=N.sts->Q @Z H2
def O7 (G:NP):Sp:=λvs H Q _=>∃(p:ee) (N:Nt) (od:C'),vs=[.ref p]/\G H p N od/\∀(D:ee) (H2:Hp),H D=f'->Same H H2->H2 D=ak (!bd (@a0))->Q @Z H2
def Iq (G:NP) (ο ξ ν:ee):Sp:=λvs H Q _=>∃(p:ee) (N:Nt) (od:C') (z:lA),vs=[.ref p,.str z]/\G H p N od/\z∈N.names/\∀(w:ee) (H2:Hp),Same H H2->Wob H2 ο ξ ν N z w->Q (!j w) H2
noncomputable def bitK (f:R') (zs:C'):eS (Key×V):=zs.map λz=>(v3 z,nat (M.bn (f z)))
def L4 (G:NP):Sp:=λvs H Q _=>∃(p:ee) (N:Nt) (od:C') (row st:Nat),vs=[.ref p,nat row,nat st]/\G H p N od/\∀(d:ee) (H2:Hp) (f:R'),H d=f'->Same H H2->H2 d=ak (.dK (bitK f @a0))->Val N row st f->Q @aX H2
def IE:Sp:=λvs H Q _=>∃(l d:ee) (ws zs:C') (f:R'),vs=[.ref l,.ref d]/\H l=ak (!A @bU)/\H d=ak (.dK (bitK f zs))/\ws.length<=100/\(∀w∈ws,w∈zs)/\∀H2,Same H H2->Q (nat (mat f ws)) H2
theorem zL (f:R') {z:lA}:∀{zs:C'},z∈zs->valV (bitK f zs) @aK=ak (nat (M.bn (f z)))
 | [],h=>by cases h
 | y::zs,h=>by
   unfold bitK;rw[UL];by_cases e:y=z
   ·subst e;exact mH rfl
   ·rw[mI λh2=>e (Xt h2)];exact zL f ((qq.mp h).resolve_left λh2=>e h2.symm)
theorem K5 (f:R') (zs:C'):(bitK f zs).map (·.1)=zs.map Sum.inr:=by unfold bitK;rw[u2];rfl
theorem QP (a b:US):U5 ((M.bn a:Nat):Int) ((M.bn b:Nat):Int)=((M.bn (a^^b):Nat):Int):=by cases a<;>cases b<;>decide
theorem Qp (f:R'):∀ws:C',(ws.map λw=>((M.bn (f w):Nat):Int)).foldl U5 0=((M.bn (xb f ws):Nat):Int):=by
 intro ws
 induction ws using M.rev_ind with
 | h0=>rfl
 | h1 l x ih=>rw[dt,UZ,ih,lE];exact QP _ _
theorem SC (f:R') (ws:C'):M.xm ((kv ws.length).filter λk=>f (!bu k))=mat f ws:=by
 have e:(kv ws.length).filter (λk=>f (!bu k))=M.pl ws.length (mat f ws):=by
  unfold M.pl;refine ad6 λk hk=>?_;rw[Ap,hE (wh.mp hk)];rfl
 rw[e,LI (SD f ws)]
structure RunA (NA:NP) (H:Hp) (C p l n:ee) (N:Nt) (od:C') (st:Nat) (as:Cr):Prop where
 ho:∃(dx d:ee),H p=ak (!aH [("net",.ref n),("held",nat st),("bits",.ref d),("given",.ref l)])
 hl:H l=ak (!A (as.map nat))
 na:NA H n N od
def K2 (p l:ee) (H H2:Hp):Prop:=∀b ob,b≠p->b≠l->H b=ak ob->H2 b=ak ob
def F5 (G:NP) (C:ee):Sp:=λvs H Q _=>∃(x dx n:ee) (N:Nt) (od:C'),vs=[.ref x,.ref n]/\H x=ak @b9/\G H n N od/\∀(H2:Hp) (l:ee),Kx x H H2->H l=f'->RunA G H2 C x l n N od 0 []->Q .non H2
def L6 (G:NP) (C:ee):Sp:=λvs H Q _=>∃(p l n:ee) (N:Nt) (od:C') (st row:Nat) (Y:Cr),vs=[.ref p,nat row]/\RunA G H C p l n N od st Y/\row < 2 ^ N.ins.length/\Y.length<=900/\∀(H2:Hp),K2 p l H H2->RunA G H2 C p l n N od (nst N row st) (Y++[nan N row st])->Q (nat (nan N row st)) H2
def L7 (G:NP) (C:ee):Sp:=λvs H Q _=>∃(p l n:ee) (N:Nt) (od:C') (st:Nat) (Y:Cr),vs=[.ref p]/\RunA G H C p l n N od st Y/\∀(D:ee) (H2:Hp),H D=f'->Same H H2->H2 D=ak (!A (Y.map nat))->Q @Z H2
def IS (G:NP):Sp:=λvs H Q _=>∃(n r:ee) (N:Nt) (od:C') (rs:Cr),vs=[.ref n,.ref r]/\G H n N od/\H r=ak (!A @b2)/\rs.length<=900/\(∀x∈rs,x < 2 ^ N.ins.length)/\∀(D:ee) (H2:Hp),H D=f'->Same H H2->H2 D=ak (!a7 (ran N 0 rs))->Q @Z H2
theorem NetA.keep {H H2:Hp} {C ο ξ ν n:ee} {N:Nt} {od:C'} (x:NetA H C ο ξ ν n N od) {p γ dx:ee} {fs:@as} (G:!au (.ins γ dx fs)) (hf:(∀(v:V) (r:eS (lA×V)),fs≠(("name":lA),v)::r)/\∀(v:V) (r:@as),fs≠(("ins":lA),v)::r) (k:Kx p H H2):NetA H2 C ο ξ ν n N od:=by
 obtain⟨O,i,s,t,o,d,Y,rs,qs,ws,a,b,c,e⟩:=x.ho
 have τ:∀q∈ws,q.2≠p:=λq Z z=>by
  obtain⟨δ,β,α,L,_⟩:=(c.ob q Z).name;rw[z,G] at L;injection L with L
  injection L with _ _ L
  exact hf.1 _ _ L
 have hn:n≠p:=λz=>by
  rw[z,G] at a;injection a with a
  injection a with _ _ a
  exact hf.2 _ _ a
 exact⟨⟨O,i,s,t,o,d,Y,rs,qs,ws,k _ _ hn a,k.kpt G b,k.wia c (cF c.d G λz=>by cases z) τ G,k.tup G e⟩,x.g,x.tp⟩
theorem NetA.updL {H H2:Hp} {C ο ξ ν n:ee} {N:Nt} {od:C'} (x:NetA H C ο ξ ν n N od) {l:ee} {xs:eS V} (hl:@bC) (k:Kx l H H2):NetA H2 C ο ξ ν n N od:=by
 obtain⟨G,i,s,t,o,d,L,rs,qs,ws,a,b,c,e⟩:=x.ho;have δ:∀{b:ee} {ys:eS V},H b=ak (!G ys)->H2 b=ak (!G ys):=λe=>k _ _ (cF e hl λz=>by cases z) e;refine⟨⟨G,i,s,t,o,d,L,rs,qs,ws,k _ _ (cF a hl λz=>by cases z) a,⟨δ b.i,δ b.s,λr m=>⟨δ (b.sr r m).1,δ (b.sr r m).2⟩,b.es,δ b.t,λq m=>δ (b.tr q m),b.et,δ b.o⟩,⟨k _ _ (cF c.d hl λz=>by cases z) c.d,c.nm,λq m=>(c.ob q m).keep hl k⟩,δ e⟩,x.g,x.tp⟩
noncomputable def mixV (c k:Int):Int:=(@de % 2147483647 * (@de % 2147483647) % 2147483629) * (@de % 2147483647 * (@de % 2147483647) % 2147483629 + 48271 * k + 7) % 2147483587
theorem Qd (c k:Int):0<=mixV c k:=UN _ @D
theorem Qe (c k:Int):mixV c k < 2147483587:=y2 _ @D
def Dc:Sp:=λvs H Q _=>∃(c k:Int),vs=[.int c,.int k]/\0<=k/\k < 100000/\Q (.int (!b0 k)) H
noncomputable def Ib:Str:=("cut x x0 x1 fresh new zero none nil tmp c c0 cut0 cut1 gnd off in out sum store":lA)++(" i0 i1 s0 s1 n0 n1 o0 o1 net wire a b z y0 t0 w w0 k dead open":lA)
noncomputable def W40:C':=W3 Ib " "
theorem A8:W40.length=40:=by decide +kernel
theorem Tt:W40.Nodup:=by decide +kernel
theorem Ts:∀z∈W40,nm z.cps.toList=true:=by decide +kernel
noncomputable def dval (l:Cr):Nat:=l.foldl (λa c=>10 * a + (c - 48)) 0
noncomputable def tx (n:Nat):Str:=(toString (n:Int):U')
noncomputable def txB (n:Nat):Bool:=decide ((dval (tx n).cps.toList=n/\(tx n).cps.toList.all fig=true)/\(tx n).cps.toList.length<=4)
noncomputable def txR (k:Nat):Bool:=(kv 250).all λi=>txB (250 * k + i)
theorem txk:∀k,k < 10->txR k=true
 | 0,_=>by decide +kernel
 | 1,_=>by decide +kernel
 | 2,_=>by decide +kernel
 | 3,_=>by decide +kernel
 | 4,_=>by decide +kernel
 | 5,_=>by decide +kernel
 | 6,_=>by decide +kernel
 | 7,_=>by decide +kernel
 | 8,_=>by decide +kernel
 | 9,_=>by decide +kernel
 | k + 10,h=>hF h @A
theorem Bf:∀n:Fin 2500,(dval (tx n.1).cps.toList=n.1/\(tx n.1).cps.toList.all fig=true)/\(tx n.1).cps.toList.length<=4:=λn=>by
 have h:=VR.mp (txk (n.1 / 250) @A) (n.1 % 250) (wh.mpr @A);rw[XT] at h;exact v5 h
noncomputable def nmf (c k:Int):Str:=if mixV c 402 % 2=0 then W40.getD (@bm % 40).toNat "" else (⟨#[97 + (@cu).toNat]⟩:lA)++tx ((@bw).toNat + 37 * k.toNat)
theorem o5 (x y:lA):(x++y).cps.toList=x.cps.toList++y.cps.toList:=by
 show(x.cps++y.cps).toList=_;rw[aa8]
theorem Su (c:Int) {k:Int} (h0:0<=k) (h1:k < 40):Nm (nmf c k):=by
 unfold nmf;by_cases h:mixV c 402 % 2=0
 ·rw[oL h]
  have hi:(@bm % 40).toNat < W40.length:=by
   rw[A8];have:=y2 @bm (show(0:Int) < 40 by decide);have:=UN @bm (show(40:Int)≠0 by decide);omega
  rw[dm,ef hi];exact Ts _ (UX hi)
 ·rw[mu h]
  have hb:(@bw).toNat + 37 * k.toNat < 2500:=by
   have:=y2 (!b0 401) (show(0:Int) < 1000 by decide);have:=UN (!b0 401) (show(1000:Int)≠0 by decide);omega
  obtain⟨⟨_,h2⟩,O⟩:=Bf ⟨_,hb⟩
  have hd:low (97 + (@cu).toNat)=true:=by
   have:=y2 (!b0 400) (show(0:Int) < 26 by decide);have:=UN (!b0 400) (show(26:Int)≠0 by decide);unfold low;rw[hE @A,hE @A];rfl
  show nm _=true;rw[o5];show nm ((97 + (@cu).toNat)::(tx ((@bw).toNat + 37 * k.toNat)).cps.toList)=true;generalize hl:(tx ((@bw).toNat + 37 * k.toNat)).cps.toList=l at h2 O;generalize 97 + (@cu).toNat=d at hd;show(decide ((d::l).length<=6)&&low d&&(d::l).all λc=>low c||fig c)=true;rw[hd,Ys,hd]
  have G:l.all (λc=>low c||fig c)=true:=by
   rw[VR] at h2 ⊢;intro x L;rw[h2 x L,ai1]
  rw[G,pA,hE @A];rfl
theorem P9 (c:Int) {j k:Int} (ε:0<=j) (γ:j < 40) (k0:0<=k) (k1:k < 40) (e:nmf c j=nmf c k):j=k:=by
 unfold nmf at e;by_cases h:mixV c 402 % 2=0
 ·rw[oL h,oL h] at e;have δ:=y2 (j + mixV c 403) (show(0:Int) < 40 by decide);have Z:=UN (j + mixV c 403) (show(40:Int)≠0 by decide);have hk:=y2 @bm (show(0:Int) < 40 by decide);have Y:=UN @bm (show(40:Int)≠0 by decide);have α:((j + mixV c 403) % 40).toNat < W40.length:=by rw[A8];omega
  have lk:(@bm % 40).toNat < W40.length:=by rw[A8];omega
  rw[dm,dm,ef α,ef lk] at e;have G:W40[((j + mixV c 403) % 40).toNat]? =W40[(@bm % 40).toNat]? :=by rw[ef α,ef lk];exact px ak e
  have:=(YS α Tt).mp G;omega
 ·rw[mu h,mu h] at e;have hm:=y2 (!b0 401) (show(0:Int) < 1000 by decide);have ψ:=UN (!b0 401) (show(1000:Int)≠0 by decide);have ι:(@bw).toNat + 37 * j.toNat < 2500:=by omega
  have L:(@bw).toNat + 37 * k.toNat < 2500:=by omega
  have G:=px (λz:lA=>z.cps.toList) e;simp only[o5] at G;have β:=List.append_cancel_left G;have O:=px dval β;rw[(Bf ⟨_,ι⟩).1.1,(Bf ⟨_,L⟩).1.1] at O;have O:(@bw).toNat + 37 * j.toNat=(@bw).toNat + 37 * k.toNat:=O;omega
def zh:Sp:=λvs H Q _=>∃(c k:Int),vs=[.int c,.int k]/\0<=k/\k < 40/\∀H2,Same H H2->Q (.str (nmf c k)) H2
def IF:Sp:=λvs H Q _=>∃(c:Int) (st:Int) (l:ee) (zs:C') (dg:US),vs=[.int c,.int st,.ref l,.bl dg]/\0<=st/\st<=900/\H l=ak (!A @b0)/\zs.length<=50/\∀(D:ee) (H2:Hp) (ws:C'),H D=f'->Same H H2->H2 D=ak (!A @bU)->ws.length<=4->(∀w∈ws,w∈zs)->Q @Z H2
theorem GS (i:Int) (h0:0<=i) (h1:i < 26):atI ("abcdefghijklmnopqrstuvwxyz":lA).cps.toList i=ak (97 + i.toNat):=by
 have e:("abcdefghijklmnopqrstuvwxyz":lA).cps.toList=Z9 97 26:=by decide +kernel
 obtain⟨j,rfl⟩:=Ve h0;rw[e];refine dE ?_;rw[List.getElem?_range' @A];show ak (97 + 1 * j)=ak (97 + (j:Int).toNat);rw[Wt,lj]
def RwL (H:Hp) (rs:eS Rw):Prop:=∀r∈rs,H r.1=ak @bP/\H r.2.1=ak (!A @bx)
theorem RwL.same {H H2:Hp} {rs:eS Rw} (h:RwL H rs) (s:@ap):RwL H2 rs:=λr m=>⟨s.get (h r m).1,s.get (h r m).2⟩
noncomputable def nms (c:Int) (a n:Nat):C':=(kv n).map λk=>nmf c ((a + k:Nat):Int)
theorem fg (c:Int) (a n:Nat):(nms c a n).length=n:=by unfold nms;rw[aI,qQ]
theorem rW (c:Int) (a n:Nat):nms c a (n + 1)=nms c a n++[nmf c ((a + n:Nat):Int)]:=by unfold nms;rw[V9,dt];rfl
theorem oH {c:Int} {a n:Nat} {z:lA} (h:z∈nms c a n):∃k,k < n/\z=nmf c ((a + k:Nat):Int):=by
 obtain⟨k,hk,rfl⟩:=hD.mp h;exact⟨k,wh.mp hk,rfl⟩
theorem Sr {c:Int} {a n k:Nat} (h:k < n):nmf c ((a + k:Nat):Int)∈nms c a n:=hD.mpr ⟨k,wh.mpr h,rfl⟩
theorem Ai (c:Int) {j k:Nat} (G:j < 40) (k1:k < 40) (e:nmf c (j:Int)=nmf c (k:Int)):j=k:=by
 have:=P9 c @A @A @A @A e;omega
structure Mk (c:Int) (ni nt:Nat) (rows:@bc):Prop where
 nm:rows.map (·.1)=nms c 22 rows.length
 ws:∀(k:Nat) r,rows[k]? =ak r->r.2.length<=4/\∀w∈r.2,w∈nms c 0 ni++nms c 6 nt++nms c 22 k
theorem Mk.nil (c:Int) (L G:Nat):Mk c L G []:=⟨rfl,λk r h=>by simp at h⟩
theorem Mk.put {c:Int} {L G:Nat} {rows:@bc} (m:Mk c L G rows) {ws:C'} (l:ws.length<=4) (h:∀w∈ws,w∈nms c 0 L++nms c 6 G++nms c 22 rows.length):Mk c L G (rows++[(nmf c ((22 + rows.length:Nat):Int),ws)]):=by
 refine⟨by rw[dt,m.nm,fD,pO,rW];rfl,λk r hk=>?_⟩;by_cases O:k < rows.length
 ·rw[ky O] at hk;exact m.ws k r hk
 ·rw[lB @A] at hk
  have:k - rows.length=0:=by
   have:=(@b5).1;rw[pO] at this;omega
  rw[this] at hk;cases hk;rw[show k=rows.length by omega];exact⟨l,h⟩
noncomputable def xf (f:@bz) (ws:C'):Nat:=ws.foldl (λa w=>a^^^f w) 0
theorem qv (f:@bz) (ws:C') (w:lA):xf f (ws++[w])=xf f ws^^^f w:=by unfold xf;rw[UZ];rfl
theorem NJ (f:@bz) (j:Nat):∀ws:C',(xf f ws).testBit j=xb (λw=>(f w).testBit j) ws:=by
 intro ws
 induction ws using M.rev_ind with
 | h0=>show(0:Nat).testBit j=false;exact V3 j
 | h1 l x ih=>rw[qv,lE,oT,ih]
theorem Sl (f:@bz) (y:Nat):∀ws:C',M.od (xf f ws&&&y)=xb (λw=>M.od (f w&&&y)) ws:=by
 intro ws
 induction ws using M.rev_ind with
 | h0=>show M.od (0&&&y)=false;rw[Wm];exact M.od_zero
 | h1 l x ih=>rw[qv,lE,UM,M.and_xor,M.od_xor,UM y,UM y,ih]
theorem Ky (f:@bz):∀ws:C',(ws.map λw=>((f w:Nat):Int)).foldl U5 0=((xf f ws:Nat):Int):=by
 intro ws
 induction ws using M.rev_ind with
 | h0=>rfl
 | h1 l x ih=>rw[qv,dt,UZ,ih];exact b5 _ _
structure Hng (N:Nt) (p:@bB):Prop where
 i:∀(k:Nat) z,N.ins[k]? =ak z->p z=(0,2 ^ k)
 t:∀(k:Nat) z y,N.sts[k]? =ak (z,y)->p z=(2 ^ k,0)
 s:∀z ws,(z,ws)∈N.sums->p z=(xf (λw=>(p w).1) ws,xf (λw=>(p w).2) ws)
noncomputable def hvl (p:@bB) (row st:Nat):R':=λz=>M.od ((p z).1&&&st)^^M.od ((p z).2&&&row)
theorem Hng.val {N:Nt} (g:Gn N) {p:@bB} (h:Hng N p) (row st:Nat):Val N row st (hvl p row st):=by
 refine⟨λk z hk=>?_,λk z y hk=>?_,λz ws hz=>?_⟩
 ·have:=(@b5).1;have:=g.li;unfold hvl;rw[h.i k z hk,Wm,M.od_zero,M.od_pow @A];exact VU _
 ·have:=(@b5).1;have:=g.lt;unfold hvl;rw[h.t k z y hk,Wm,M.od_zero,M.od_pow @A];exact Wa _
 ·unfold hvl;rw[h.s z ws hz,Sl,Sl];exact(QR _ _ ws).symm
noncomputable def hgp (N:Nt) (z:lA):Nat×Nat:=(M.pk (λk=>fv N 0 (2 ^ k) z) 0 N.sts.length,M.pk (λk=>fv N (2 ^ k) 0 z) 0 N.ins.length)
theorem SR (N:Nt) (z:lA):(hgp N z).1 < 2 ^ N.sts.length:=M.pk_lt _ _ _
theorem SQ (N:Nt) (z:lA):(hgp N z).2 < 2 ^ N.ins.length:=M.pk_lt _ _ _
theorem NL (b:US) (f:R'):∀ws:C',xb (λw=>b&&f w) ws=(b&&xb f ws):=by
 intro ws
 induction ws using M.rev_ind with
 | h0=>show false=(b&&false);rw[VW]
 | h1 l x ih=>rw[lE,lE,ih];cases b<;>simp
theorem El {N:Nt} (g:Gn N) {od:C'} (tp:Topo N.sums od):Hng N (hgp N):=by
 have v:∀r s,Val N r s (fv N r s):=λr s=>XM (Ig g tp r s);refine⟨λk z hk=>?_,λk z y hk=>?_,λz ws hz=>?_⟩
 ·have hl:=(@b5).1;refine Zl @bD @bD
  ·show(M.pk _ 0 _).testBit j=(0:Nat).testBit j;rw[M.pk_bit,W5,(v 0 @aR).i k z hk,V3,V3,VW]
  ·show(M.pk _ 0 _).testBit j=(2 ^ k:Nat).testBit j;rw[M.pk_bit,W5,(v @aR 0).i k z hk,pB,pB];by_cases e:k=j
   ·subst e;rw[hE hl,hE rfl];rfl
   ·rw[show decide (k=j)=false from hA e,show decide (j=k)=false from hA (λh=>e h.symm),VW]
 ·have hl:=(@b5).1;refine Zl @bD @bD
  ·show(M.pk _ 0 _).testBit j=(2 ^ k:Nat).testBit j;rw[M.pk_bit,W5,(v 0 @aR).t k z y hk,pB,pB];by_cases e:k=j
   ·subst e;rw[hE hl,hE rfl];rfl
   ·rw[show decide (k=j)=false from hA e,show decide (j=k)=false from hA (λh=>e h.symm),VW]
  ·show(M.pk _ 0 _).testBit j=(0:Nat).testBit j;rw[M.pk_bit,W5,(v @aR 0).t k z y hk,V3,V3,VW]
 ·refine Zl @bD @bD
  ·show(M.pk _ 0 _).testBit j=(xf _ ws).testBit j;rw[M.pk_bit,W5,(v 0 @aR).s z ws hz,NJ,<-NL];exact vy λw _=>by show _=(M.pk _ 0 _).testBit j;rw[M.pk_bit,W5]
  ·show(M.pk _ 0 _).testBit j=(xf _ ws).testBit j;rw[M.pk_bit,W5,(v @aR 0).s z ws hz,NJ,<-NL];exact vy λw _=>by show _=(M.pk _ 0 _).testBit j;rw[M.pk_bit,W5]
theorem JK {x j:Nat} (h:j < 1000):M.od (x&&&2 ^ j)=x.testBit j:=by rw[UM];exact M.od_pow h x
theorem Om {N:Nt} (g:Gn N) {od:C'} (tp:Topo N.sums od) {p:@bB} (h:Hng N p) {z:lA} (hz:z∈N.names) (b1:(p z).1 < 2 ^ N.sts.length) (b2:(p z).2 < 2 ^ N.ins.length):hgp N z=p z:=by
 have li:=g.li;have lt:=g.lt;refine Zl @bD @bD
 ·show(M.pk _ 0 _).testBit j=(p z).1.testBit j;rw[M.pk_bit,W5];by_cases G:j < N.sts.length
  ·rw[<-Nb g tp (h.val g 0 @aR) z hz,hE G];unfold hvl;rw[VM,M.od_zero,JK @A];simp
  ·rw[hA G,lx (!a6 b1)];rfl
 ·show(M.pk _ 0 _).testBit j=(p z).2.testBit j;rw[M.pk_bit,W5];by_cases G:j < N.ins.length
  ·rw[<-Nb g tp (h.val g @aR 0) z hz,hE G];unfold hvl;rw[VM,M.od_zero,JK @A];simp
  ·rw[hA G,lx (!a6 b2)];rfl
theorem Oh (p:@bB) (row st:Nat) (ws:C'):mat (hvl p row st) ws=M.tr2 (!aM p) st row:=by
 apply iv;intro k;rw[Ap,M.tr2_bit,aI];by_cases hk:k < ws.length
 ·have G:(!aM p).getD k (0,0)=p (!bu k):=by rw[dm,hH,dm,ef hk];rfl
  rw[G];unfold hvl;exact Eq.refl _
 ·rw[hA hk,V2,V2]
section
variable {N:Nt} (g:Gn N) {od:C'} (tp:Topo N.sums od) {p:lA->Nat×Nat} (h:Hng N p)
include g tp h
theorem Sv (row st:Nat):nan N row st=M.tr2 (N.outs.map p) st row:=by rw[<-Of g tp (h.val g row st),Oh]
theorem So (row st:Nat):nst N row st=M.tr2 ((N.sts.map (·.2)).map p) st row:=by rw[<-Od g tp (h.val g row st),Oh]
theorem Jg:∀(rs:Cr) (st:Nat),ran N st rs=M.wan ((N.sts.map (·.2)).map p) (N.outs.map p) st rs
 | [],_=>rfl
 | r::rs,st=>by show nan N r st::ran N (nst N r st) rs=M.tr2 _ st r::M.wan _ _ (M.tr2 _ st r) rs;rw[Jg rs,So g tp h,Sv g tp h]
end
structure Hgd (H:Hp) (d:ee) (N:Nt) (zs:C') (hs:U1):Prop where
 d:H d=ak (.dK (hs.map λq=>(v3 q.1,V.ref q.2)))
 nm:hs.map (·.1)=zs
 ob:∀q∈hs,H q.2=ak (!bC (hgp N q.1) (hgp N q.1))
theorem Hgd.same {H H2:Hp} {d:ee} {N:Nt} {zs:C'} {hs:U1} (x:Hgd H d N zs hs) (s:@ap):Hgd H2 d N zs hs:=⟨s.get x.d,x.nm,λq m=>s.get (x.ob q m)⟩
theorem LP {hs:U1} {z:lA}:z∈hs.map (·.1)->∃t,(z,t)∈hs/\valV (hs.map λq=>((v3 q.1:Key),V.ref q.2)) @aK=ak @a5:=by
 induction hs with
 | nil=>intro h;cases h
 | cons q hs ih=>
   intro h;by_cases e:q.1=z
   ·subst e;exact⟨q.2,j',by show valV ((v3 q.1,V.ref q.2)::_) (v3 q.1)=_;exact mH rfl⟩
   ·have h':z∈hs.map (·.1):=by
     rw[UL,qq] at h;exact h.resolve_left λG=>e G.symm
    obtain⟨t,m,v⟩:=ih h';refine⟨t,ik _ m,?_⟩;show valV ((v3 q.1,V.ref q.2)::_) @aK=_;rw[mI λG=>e (Xt G)];exact v
theorem Hgd.val {H:Hp} {d:ee} {N:Nt} {zs:C'} {hs:U1} (x:Hgd H d N zs hs) {z:lA} (h:z∈zs):∃t,valV (hs.map λq=>((v3 q.1:Key),V.ref q.2)) @aK=ak @a5/\H t=ak (!bC (hgp N z) (hgp N z)):=by
 obtain⟨t,m,v⟩:=LP (hs:=hs) (z:=z) (by rw[x.nm];exact h);exact⟨t,v,x.ob _ m⟩
def Mi (G:NP):Sp:=λvs H Q _=>∃(p:ee) (N:Nt) (od:C'),vs=[.ref p]/\G H p N od/\∀(d:ee) (H2:Hp) (hs:U1),H d=f'->Same H H2->Hgd H2 d N @a0 hs->Q @aX H2
def L5 (G:NP) (C:ee):Sp:=λvs H Q _=>∃(p:ee) (N:Nt) (od:C'),vs=[.ref p]/\G H p N od/\∀(x:ee) (H2:Hp) (nx os:@R),H x=f'->Same H H2->MaA H2 C x N.ins.length nx os->MaG N.ins.length nx os->prs nx=(N.sts.map (·.2)).map (hgp N)->prs os=N.outs.map (hgp N)->Q (!j x) H2
noncomputable def nmb (l:lA) (n:Nat):C':=(kv n).map λk=>l++tx k
theorem bK (l:lA) (n:Nat):(nmb l n).length=n:=by unfold nmb;rw[aI,qQ]
theorem ML (l:lA) (n:Nat):nmb l (n + 1)=nmb l n++[l++tx n]:=by unfold nmb;rw[V9,dt];rfl
theorem Aj {l:lA} {n k:Nat} (h:k < n):(nmb l n)[k]? =ak (l++tx k):=by unfold nmb;rw[hH,Vt h];rfl
theorem Oe {l:lA} {n k:Nat} (h:k < n):l++tx k∈nmb l n:=eH (Aj h)
theorem BF {l:lA} {n k:Nat} {z:lA} (h:(nmb l n)[k]? =ak z):k < n/\z=l++tx k:=by
 have hk:=(!M h).1;rw[bK] at hk;rw[Aj hk] at h;exact⟨hk,(ry h).symm⟩
theorem tP {l:lA} {n:Nat} {z:lA} (h:z∈nmb l n):∃k,k < n/\z=l++tx k:=by
 obtain⟨k,hk⟩:=wq.mp h;exact⟨k,BF hk⟩
theorem Cv:("s":lA).cps.toList=[115]:=by decide +kernel
theorem Cz:("i":lA).cps.toList=[105]:=by decide +kernel
theorem Cy:("n":lA).cps.toList=[110]:=by decide +kernel
theorem Cw:("o":lA).cps.toList=[111]:=by decide +kernel
theorem sU {k:Nat} (h:@bY):dval (tx k).cps.toList=k:=(Bf ⟨k,h⟩).1.1
theorem JE {l L:lA} {c d j k:Nat} (h1:@cK) (h2:L.cps.toList=[d]) (O:j < 2500) (hk:@bY) (e:l++tx j=L++tx k):c=d/\j=k:=by
 have G:=px (λz:lA=>z.cps.toList) e;simp only[o5] at G;rw[h1,h2,Vz,Vz] at G;injection G with a b
 have:=px dval b;rw[sU O,sU hk] at this;exact⟨a,this⟩
theorem Ff {l:lA} {c k:Nat} (h1:@cK) (hc:low c=true) (hk:@bY):Nm (l++tx k):=by
 obtain⟨⟨_,h2⟩,O⟩:=Bf ⟨k,hk⟩;show nm _=true;rw[o5,h1,Vz];generalize hl:(tx k).cps.toList=l at h2 O;show(decide ((c::l).length<=6)&&low c&&(c::l).all λc=>low c||fig c)=true;rw[hc,Ys,hc]
 have G:l.all (λc=>low c||fig c)=true:=by
  rw[VR] at h2 ⊢;intro x L;rw[h2 x L,ai1]
 rw[G,pA,hE @A];rfl
theorem Fl {l:lA} {c n:Nat} (h1:@cK) (hn:n<=2500):(nmb l n).Nodup:=by
 unfold nmb;rw[List.nodup_iff_pairwise_ne,YQ];refine YL (λ{a b} ha hb ψ e=>?_) (Y6 (n:=n));have:=(JE h1 h1 (by have:=wh.mp ha;omega) (by have:=wh.mp hb;omega) e).2;omega
theorem lU {l O:lA} {c d n L:Nat} (h1:@cK) (h2:O.cps.toList=[d]) (G:c≠d) (hn:n<=2500) (θ:L<=2500) {z:lA} (hz:z∈nmb l n):z∉nmb O L:=fun ω=>by
 obtain⟨j,Y,rfl⟩:=tP hz;obtain⟨k,hk,e⟩:=tP ω;exact G (JE h1 h2 @A @A e).1
noncomputable def wr2 (q:@aO):C':=(!aD q.1).map (λk=>("s":lA)++tx k)++(!aD q.2).map (λk=>("i":lA)++tx k)
noncomputable def ju (m:Nat) (ps os:A'):Nt:=⟨nmb "i" m,Wh @dB ((ps++os).map wr2),Wh (nmb "s" ps.length) (nmb "n" ps.length),nmb "o" os.length⟩
structure Sml (m:Nat) (ps os:A'):Prop where
 m6:m<=6
 lp:ps.length<=16
 lo:os.length<=6
 bn:∀q∈ps++os,q.1 < 2 ^ ps.length/\q.2 < 2 ^ m
section
variable {m:Nat} {ps os:A'} (b:Sml m ps os)
include b
theorem Ia {q:@aO} (hq:q∈ps++os) {z:lA} (h:z∈wr2 q):z∈nmb "s" ps.length∨z∈nmb "i" m:=by
 have hb:=b.bn q hq;rcases gz.mp h with h | h
 ·obtain⟨k,hk,rfl⟩:=hD.mp h;exact !J (Oe (M.pl_lt hb.1 k hk))
 ·obtain⟨k,hk,rfl⟩:=hD.mp h;exact !F (Oe (M.pl_lt hb.2 k hk))
theorem Fp:(ju m ps os).sums.map (·.1)=nmb "n" ps.length++nmb "o" os.length:=by
 show(Wh _ _).map aa0=_;rw[Yv];rw[fD,bK,bK,aI,fD];exact oe _
theorem Fo:(ju m ps os).sts.map (·.1)=nmb "s" ps.length:=by
 show(Wh _ _).map aa0=_;rw[Yv];rw[bK,bK];exact oe _
theorem Fn:(ju m ps os).sts.map (·.2)=nmb "n" ps.length:=by
 show(Wh _ _).map Prod.snd=_;rw[ae3];rw[bK,bK];exact oe _
theorem kq:(ju m ps os).names=nmb "i" m++@dB++nmb "s" ps.length:=by
 unfold Nt.names;rw[Fp b,Fo b];rfl
theorem wZ {z:lA} {ws:C'} (h:(z,ws)∈(ju m ps os).sums):∃q∈ps++os,ws=wr2 q:=by
 have:=(Yc (show(z,ws)∈Wh _ _ from h)).2;obtain⟨q,G,e⟩:=hD.mp this;exact⟨q,G,e.symm⟩
theorem tR:Gn (ju m ps os) where
 li:=by show(nmb "i" m).length<=6;rw[bK];exact b.m6
 ls:=by
  show(Wh _ _).length<=40;have:=b.lp;have:=b.lo;rw[Xb,fD,bK,bK,aI,fD];omega
 lt:=by
  show(Wh _ _).length<=16;have:=b.lp;rw[Xb,bK,bK];omega
 lo:=by show(nmb "o" os.length).length<=6;rw[bK];exact b.lo
 lw:=λr L=>by
  obtain⟨q,Y,e⟩:=wZ b (z:=r.1) (ws:=r.2) L;rw[e];unfold wr2;have hb:=b.bn q Y;have α:M.pl 1000 q.1=M.pl ps.length q.1:=M.pl_up hb.1 (by have:=b.lp;omega);have Z:M.pl 1000 q.2=M.pl m q.2:=M.pl_up hb.2 (by have:=b.m6;omega);rw[fD,aI,aI,α,Z];have:=M.pl_le ps.length q.1;have:=M.pl_le m q.2;have:=b.lp;have:=b.m6;omega
 nm:=λz hz=>by
  have:=b.lp;have:=b.lo;have:=b.m6;rw[kq b] at hz;rcases gz.mp hz with h | h
  ·rcases gz.mp h with h | h
   ·obtain⟨k,hk,rfl⟩:=tP h;exact Ff Cz @D @A
   ·rcases gz.mp h with h | h
    ·obtain⟨k,hk,rfl⟩:=tP h;exact Ff Cy @D @A
    ·obtain⟨k,hk,rfl⟩:=tP h;exact Ff Cw @D @A
  ·obtain⟨k,hk,rfl⟩:=tP h;exact Ff Cv @D @A
 nd:=by
  have:=b.lp;have:=b.lo;have:=b.m6;rw[kq b,UK,UK,UK];refine⟨⟨Fl Cz @A,⟨Fl Cy @A,Fl Cw @A,λx O y G e=>lU Cy Cw @D @A @A O (e ▸ G)⟩,λx O y G e=>?_⟩,Fl Cv @A,λx O y G e=>?_⟩
  ·subst e;rcases gz.mp G with h | h
   ·exact lU Cz Cy @D @A @A O h
   ·exact lU Cz Cw @D @A @A O h
  ·subst e;rcases gz.mp O with h | h
   ·exact lU Cz Cv @D @A @A h G
   ·rcases gz.mp h with h | h
    ·exact lU Cy Cv @D @A @A h G
    ·exact lU Cw Cv @D @A @A h G
 ws:=λr L z hz=>by
  obtain⟨q,Y,e⟩:=wZ b (z:=r.1) (ws:=r.2) L;rw[e] at hz;rw[kq b];rcases Ia b Y hz with h | h
  ·exact !Q h
  ·exact !N (!N h)
 ts:=λr L=>by
  have:r.2∈(ju m ps os).sts.map (·.2):=hD.mpr ⟨r,L,rfl⟩;rw[Fn b] at this;rw[kq b];exact !N (!Q (!N this))
 os:=λz hz=>by
  rw[kq b];exact !N (!Q (!Q hz))
 rk:=⟨λ_=>0,λr L z hz hs=>by
  have:=b.lp;have:=b.lo;have:=b.m6;obtain⟨q,Y,e⟩:=wZ b (z:=r.1) (ws:=r.2) L;rw[e] at hz;rw[Fp b] at hs;rcases Ia b Y hz with h | h
  ·rcases gz.mp hs with h' | h'
   ·exact hF h' (lU Cv Cy @D @A @A h)
   ·exact hF h' (lU Cv Cw @D @A @A h)
  ·rcases gz.mp hs with h' | h'
   ·exact hF h' (lU Cz Cy @D @A @A h)
   ·exact hF h' (lU Cz Cw @D @A @A h)⟩
end
noncomputable def dec (ps os:A') (z:lA):Nat×Nat:=match z.cps.toList with
 | []=>(0,0)
 | c::r=>if c=105 then (0,2 ^ dval r) else if c=115 then (2 ^ dval r,0) else if c=110 then ps.getD (dval r) (0,0) else os.getD (dval r) (0,0)
theorem Qu (ps os:A') {k:Nat} (h:@bY):dec ps os (("i":lA)++tx k)=(0,2 ^ k):=by
 unfold dec;rw[o5,Cz,Vz];dsimp only;rw[oL rfl,sU h]
theorem Qt (ps os:A') {k:Nat} (h:@bY):dec ps os (("s":lA)++tx k)=(2 ^ k,0):=by
 unfold dec;rw[o5,Cv,Vz];dsimp only;rw[mu @D,oL rfl,sU h]
theorem Ta (ps os:A') {k:Nat} (h:@bY):dec ps os (("n":lA)++tx k)=ps.getD k (0,0):=by
 unfold dec;rw[o5,Cy,Vz];dsimp only;rw[mu @D,mu @D,oL rfl,sU h]
theorem S9 (ps os:A') {k:Nat} (h:@bY):dec ps os (("o":lA)++tx k)=os.getD k (0,0):=by
 unfold dec;rw[o5,Cw,Vz];dsimp only;rw[mu @D,mu @D,mu @D,sU h]
theorem NK (f:@bz) (a c:C'):xf f (a++c)=xf f a^^^xf f c:=by
 induction c using M.rev_ind with
 | h0=>rw[UY];exact(Vf _).symm
 | h1 l x ih=>rw[<-WH,qv,qv,ih,U7]
theorem NH (f:@bz):∀(ws:C'),(∀w∈ws,f w=0)->xf f ws=0:=by
 intro ws
 induction ws using M.rev_ind with
 | h0=>intro _;rfl
 | h1 l x ih=>intro h;rw[qv,ih λw hw=>h w (!N hw),h x (!Q @c1)];rfl
theorem NG (f:@bz) (nm:Nat->lA):∀(l:Cr),(∀k∈l,f (nm k)=2 ^ k)->xf f (l.map nm)=M.xm l:=by
 intro l
 induction l using M.rev_ind with
 | h0=>intro _;rfl
 | h1 l x ih=>intro h;rw[dt,W7,qv,M.xm_snoc,ih λw hw=>h w (!N hw),h x (!Q @c1)]
theorem Qr (ps os:A') {q:@aO} (h1:q.1 < 2 ^ 1000) (h2:q.2 < 2 ^ 1000):(xf (λw=>(dec ps os w).1) (wr2 q),xf (λw=>(dec ps os w).2) (wr2 q))=q:=by
 have hl:∀{x k:Nat},k∈M.pl 1000 x->k < 2500:=λ{x k} h=>by
  have:=wh.mp (UQ.mp h).1;omega
 unfold wr2;rw[NK,NK];refine Zl ?_ ?_
 ·show _^^^_=q.1;rw[NG _ _ _ (λk hk=>by rw[Qt _ _ (hl hk)]),NH _ _ (λw hw=>by obtain⟨k,hk,rfl⟩:=hD.mp hw;rw[Qu _ _ (hl hk)]),LI h1,Vf]
 ·show _^^^_=q.2;rw[NH _ (Xa _ (!aD q.1)) (λw hw=>by obtain⟨k,hk,rfl⟩:=hD.mp hw;rw[Qt _ _ (hl hk)]),NG _ _ _ (λk hk=>by rw[Qu _ _ (hl hk)]),LI h2,X6]
section
variable {m:Nat} {ps os:A'} (b:Sml m ps os)
include b
theorem JS:Hng (ju m ps os) (dec ps os) where
 i:=λk z h=>by
  have:=b.m6;obtain⟨hk,rfl⟩:=BF (show(nmb "i" m)[k]? =ak z from h);exact Qu _ _ @A
 t:=λk z y h=>by
  have:=b.lp;have h':=(VG (l₁:=nmb "s" ps.length) (l₂:=nmb "n" ps.length)).mp h;obtain⟨hk,e⟩:=BF h'.1;have e:z=_:=e;rw[e];exact Qt _ _ @A
 s:=λz ws h=>by
  have:=b.lp;have:=b.lo;have:=b.m6;obtain⟨k,hk⟩:=wq.mp h;have h':=(VG (l₁:=nmb "n" ps.length++nmb "o" os.length) (l₂:=(ps++os).map wr2)).mp hk;obtain⟨h1,h2⟩:=h';have h1:(@dB)[k]? =ak z:=h1;have h2:((ps++os).map wr2)[k]? =ak ws:=h2;rw[hH] at h2;obtain⟨q,G,rfl⟩:=Vv.mp h2;have hb:=b.bn q (eH G);rw[Qr ps os (!a6 hb.1) (!a6 hb.2)];by_cases L:k < ps.length
  ·rw[ky (by rw[bK];exact L)] at h1;obtain⟨_,rfl⟩:=BF h1;rw[Ta _ _ @A,dm];rw[ky L] at G;rw[G];rfl
  ·rw[lB (by rw[bK];omega),bK] at h1;obtain⟨_,rfl⟩:=BF h1;rw[S9 _ _ @A,dm];rw[lB @A] at G;rw[G];rfl
theorem MN:(ju m ps os).sts.length=ps.length:=by
 have:=px zz (Fo b);rw[aI,bK] at this;exact this
theorem Ox:((ju m ps os).sts.map (·.2)).map (dec ps os)=ps:=by
 rw[Fn b];have:=b.lp;apply Wj;intro k;rw[hH];by_cases hk:k < ps.length
 ·rw[Aj hk,ab8,Ta _ _ @A,dm,ef hk];rfl
 ·rw[w8 (by rw[bK];omega),w8 @A];rfl
theorem Ow:(ju m ps os).outs.map (dec ps os)=os:=by
 show(nmb "o" os.length).map _=os;have:=b.lo;apply Wj;intro k;rw[hH];by_cases hk:k < os.length
 ·rw[Aj hk,ab8,S9 _ _ @A,dm,ef hk];rfl
 ·rw[w8 (by rw[bK];omega),w8 @A];rfl
theorem JR {od:C'} (tp:Topo (ju m ps os).sums od):((ju m ps os).sts.map (·.2)).map (hgp (ju m ps os))=ps/\(ju m ps os).outs.map (hgp (ju m ps os))=os:=by
 have g:=tR b;have hn:=JS b
 have bd:∀q∈ps++os,q.1 < 2 ^ (ju m ps os).sts.length/\q.2 < 2 ^ (ju m ps os).ins.length:=λq G=>by
  rw[MN b,show(ju m ps os).ins.length=m from bK _ _];exact b.bn q G
 constructor
 ·refine Eq.trans (Vc λz hz=>?_) (Ox b);have hm:dec ps os z∈ps:=by have:=hD.mpr ⟨z,hz,(rfl:dec ps os z=_)⟩;rw[Ox b] at this;exact this
  have hb:=bd _ (!N hm);obtain⟨q,G,rfl⟩:=hD.mp hz;exact Om g tp hn (g.ts q G) hb.1 hb.2
 ·refine Eq.trans (Vc λz hz=>?_) (Ow b);have hm:dec ps os z∈os:=by have:=hD.mpr ⟨z,hz,(rfl:dec ps os z=_)⟩;rw[Ow b] at this;exact this
  have hb:=bd _ (!Q hm);exact Om g tp hn (g.os z hz) hb.1 hb.2
end
theorem Nu {k:Nat} (hk:k<=1000):((k:Int)).natAbs.log2 < 1920:=by
 rw[XC];rcases ad4 k with z | z
 ·rw[z];decide
 ·exact(Yy @A).mpr (fy (show k < 2 ^ 14 by omega) (gA @D @D))
theorem K1 {l:lA} {k:Nat} (hl:l.length<=10) (hk:k<=1000):l.length + (tx k).length<=sizeLine:=by
 have G:=Yj (Nu hk);rw[ix];show l.length + (toString (k:Int):lA).length<=_;omega
def O5:Sp:=λvs H Q _=>∃(l:lA) (n:Nat),vs=[.str l,nat n]/\l.length<=10/\n<=1000/\∀(D:ee) (H2:Hp),H D=f'->Same H H2->H2 D=ak (!bd (nmb l n))->Q @Z H2
def O6:Sp:=λvs H Q _=>∃(z:lA) (t:ee) (x y:Nat),vs=[.str z,.ref t]/\H t=ak @cy/\x < 2 ^ 1000/\y < 2 ^ 1000/\∀(tt D:ee) (H2:Hp),H D=f'->Same H H2->H2 tt=ak (!G [.str z,.ref D])->H2 D=ak (!bd (wr2 (x,y)))->Q (!j tt) H2
def Ma (G:NP) (C:ee):Sp:=λvs H Q _=>∃(p:ee) (m:Nat) (nx os:@R),vs=[.ref p]/\MaA H C p m nx os/\Sml m @E @H/\∀(n:ee) (H2:Hp) (od:C'),H n=f'->Same H H2->G H2 n (ju m @E @H) od->Q (!j n) H2
end Sx
namespace M
noncomputable def stj (ps:A'):Cr->Nat->Cr
 | S,0=>S
 | S,j + 1=>(stj ps S j).map λx=>tr2 ps x 0
noncomputable def sg0 (ps:A') (m:Nat):Cr:=(kv m).map λw=>tr2 ps 0 (2 ^ w)
noncomputable def rch (ps:A') (m:Nat):Nat->Cr
 | 0=>[]
 | T + 1=>stj ps (sg0 ps m) T++rch ps m T
theorem tI {w r P:Nat} (h:r < 2 ^ w):(r^^^(P <<< w))>>>w=P:=by
 apply iv;intro i;rw[VC,oT,x3,lx (!a6 h)];simp
noncomputable def zs (ps:A') (x:Nat):Nat->Nat
 | 0=>x
 | n + 1=>tr2 ps (zs ps x n) 0
noncomputable def upk (w q T:Nat):Cr:=(kv T).map λt=>(q>>>(t * w))&&&(2 ^ w - 1)
theorem upk_len (w q T:Nat):(upk w q T).length=T:=by unfold upk;rw[aI,qQ]
theorem upk_lt (w q T:Nat):∀r∈upk w q T,r < 2 ^ w:=λr G=>by
 obtain⟨t,_,rfl⟩:=hD.mp G;have:=mm w;exact w2 X8 @A
theorem zM (w q T:Nat):upk w q (T + 1)=(q&&&(2 ^ w - 1))::upk w (q>>>w) T:=by
 unfold upk;rw[ZQ,UL,u2,Z1,Nat.shiftRight_zero];congr 1;apply Vc;intro t _;show(q>>>((t + 1) * w))&&&_=(q>>>w>>>(t * w))&&&_;rw[<-Nat.shiftRight_add,Wu,Wt,XF]
theorem Jv (w:Nat):∀(T q:Nat),q < 2 ^ (T * w)->pkw w (upk w q T)=q
 | 0,q,h=>by rw[Z1] at h;have:q=0:=by have:q < 1:=h;omega
             rw[this];rfl
 | T + 1,q,h=>by
   rw[zM];show(q&&&(2 ^ w - 1))^^^(pkw w (upk w (q>>>w) T) <<< w)=q;rw[Jv w T (q>>>w) (by rw[tu,Yg @az,<-X5];rw[Wu,Wt] at h;exact h)];apply iv;intro i;rw[oT,Vg,x3,VC,Nat.testBit_two_pow_sub_one];by_cases hi:i < w
   ·simp[hi,show ¬w<=i by omega]
   ·simp[hi,show w<=i by omega,show w + (i - w)=i by omega]
theorem Sk (ps:A') (hl:@bs) (y:Nat):∀(j s:Nat),od (s&&&zs ps y j)=od (bkI (ps.map (·.1)) s j&&&y)
 | 0,_=>rfl
 | j + 1,s=>by
   show od (s&&&tr2 ps (zs ps y j) 0)=_;rw[wQ s _ 0 ps hl,VM,od_zero,Wa,Sk ps hl y j,FG]
theorem zP {P:Nat->Prop} (h0:P 0) (hx:∀a b,P a->P b->P @aU):∀{rs:Cr} {x:Nat},(∀r∈rs,P r)->Span rs x->P x
 | [],x,_,h=>by have h:x=0:=h;rw[h];exact h0
 | r::rs,x,b,h=>by
   have G:∀r∈rs,P r:=λy L=>b y (ik _ L);rcases h with h | h
   ·exact zP h0 hx G h
   ·have:=hx _ _ (zP h0 hx G h) (b r (j' ..));rwa [bJ] at this
theorem Inj.front {ws:Cr} {w:Nat} (I:Inj (ws++[w])):Inj ws:=λp G h=>I p (!aO G (by rw[fD];omega)) (by rw[jN G];exact h)
theorem Inj.last {ws:Cr} {w:Nat} (I:Inj (ws++[w])):¬Span ws w:=λh=>by
 obtain⟨p,G,e⟩:=Da h;have:=I (p^^^2 ^ ws.length) (by rw[fD];exact Ea G) (by rw[Dj G,e,Wc]);exact(xu G).1 this
theorem fr_inj {ws:Cr}:Inj ws->(fr ws).length=ws.length:=by
 refine jB (P:=λws=>Inj ws->(fr ws).length=ws.length) (λ_=>rfl) (λws w ih I=>?_) ws;rw[fr_out I.last,fD,fD,ih I.front];rfl
structure Kern (R ms:Cr):Prop where
 inj:Inj ms
 lt:∀m∈ms,m < 2 ^ R.length
 ev:∀m∈ms,sm R m=0
 all:∀z,z < 2 ^ R.length->sm R z=0->Span ms z
structure Lft (left rows:Cr):Prop where
 nz:∀x∈left,x≠0
 pw:left.Pairwise λa b=>b.testBit a.log2=false
 sp:∀x,Span left x↔Span rows x
 len:left.length=(fr rows).length
noncomputable def bm (rows:Cr) (b:Nat):Nat:=ZU (Bar rows b)
theorem Uy {rows:Cr} {b m:Nat} (G:∀r∈rows,r < 2 ^ 1000) (B:Bar rows b m):m=bm rows b:=Bar.uniq G B (XM ⟨m,B⟩)
noncomputable def acr (rows:Cr) (n:Nat):Cr:=((kv n).filter λb=>tt (∀y,Span rows y->y≠0->y.log2≠b)).map (bm rows)
theorem acr_in {rows:Cr} {n:Nat} (h:¬∀y,Span rows y->y≠0->y.log2≠n):acr rows (n + 1)=acr rows n:=by
 unfold acr;rw[V9,UV,VF,NR h];simp
theorem acr_out {rows:Cr} {n m:Nat} (G:∀r∈rows,r < 2 ^ 1000) (h:∀y,Span rows y->y≠0->y.log2≠n) (B:Bar rows n m):acr rows (n + 1)=acr rows n++[m]:=by
 unfold acr;rw[V9,UV,VF,NQ h,Uy G B];simp
structure Fst (ms:Cr) (p:Nat):Prop where
 lt:p < ms.length
 out:∀k,k < p->¬Span (ms.take k) (ms.getD k 0)
 in_:Span (ms.take p) (ms.getD p 0)
noncomputable def zl (ps:A') (d n:Nat):Cr:=(kv (n + 1)).map (zs ps d)
theorem QL (ps:A') (d:Nat):∀i,zs ps (!al d 0) i=zs ps d @J
 | 0=>rfl
 | i + 1=>by show tr2 ps (zs ps (!al d 0) i) 0=_;rw[QL ps d i];rfl
theorem zK (ps os:A'):∀(rs:Cr) (a k:Nat),wan ps os a (!bb k)=(!av a rs).take k
 | [],_,k=>by simp[wan]
 | r::rs,a,0=>rfl
 | r::rs,a,k + 1=>by
   show tr2 os a r::wan ps os (!al a r) (!bb k)=_;rw[zK ps os rs];rfl
noncomputable def act (ps:A') (x Q:Nat):Nat:=if Q=0 then 0 else (if Q % 2=1 then x else 0)^^^act ps (!al x 0) (Q / 2)
termination_by Q
decreasing_by omega
structure Lst (ps:A') (x P:Nat):Prop where
 nz:P≠0
 dv:∀Q,act ps x Q=0↔Dv P Q
structure Rng (ps:A') (x l n:Nat):Prop where
 pos:1<=n
 back:zs ps x (l + n)=zs ps x l
 least:∀e,1<=e->e < n->zs ps x (l + e)≠zs ps x l
 early:1<=l->zs ps x (l - 1 + n)≠zs ps x (l - 1)
theorem IT {f:Nat->Nat} (h0:f 0=0) (hx:∀x y,f @aM=f x^^^f y) (w:Nat):∀x,x < 2 ^ w->sm ((kv w).map λk=>f (2 ^ k)) x=f x:=by
 induction w with
 | zero=>intro x h;have:x < 1:=h;rw[show x=0 by omega,h0];rfl
 | succ w ih=>
   intro x h;rw[V9,dt,W7];have hl:((kv w).map λk=>f (2 ^ k)).length=w:=by rw[aI,qQ]
   rw[gx,hl];by_cases hb:x.testBit w=true
   ·rw[oL hb]
    have L:x^^^2 ^ w < 2 ^ w:=by
     refine W2 _ λi hi=>?_;rw[oT,pB];by_cases e:w=i
     ·subst e;rw[hb];simp
     ·rw[lx (!a6 h)];simp[e]
    have G:=ih _ L;rw[sm_xor,hx] at G;have O:sm ((kv w).map λk=>f (2 ^ k)) (2 ^ w)=0:=by rw[lZ,dm,w8 (by rw[hl];exact oe _)];rfl
    rw[O,Vf] at G;rw[G,bJ]
   ·rw[mu hb,Vf];rw[Bool.not_eq_true] at hb;refine ih x (W2 _ λi hi=>?_);by_cases e:w=i
    ·subst e;exact hb
    ·exact lx (!a6 h)
noncomputable def bl (A:Cr) (s n:Nat):Cr:=(kv (n + 1)).map (bkI A s)
theorem bkI_lt {A:Cr} {s w:Nat} (ψ:∀x∈A,x < 2 ^ w) (h:s < 2 ^ w):∀k,bkI A s k < 2 ^ w
 | 0=>h
 | k + 1=>sm_lt _ ψ
theorem Q9 (A:Cr):∀(rows:Cr) (F:Nat),sm A (sm rows F)=sm (rows.map (sm A)) F
 | [],_=>sm_zero A
 | r::rows,F=>by
   show sm A ((if F.testBit 0 then r else 0)^^^sm rows (F / 2))=(if F.testBit 0 then sm A r else 0)^^^sm (rows.map (sm A)) (F / 2);rw[sm_xor,Q9 A rows];cases F.testBit 0<;>simp[sm_zero]
theorem C5 (ps os:A'):∀(rs qs:Cr) (x y:Nat),rs.length=qs.length->wan ps os @aM (Vp (·^^^·) rs qs)=Vp (·^^^·) (!av x rs) (!av y qs)
 | [],[],_,_,_=>rfl
 | [],_::_,_,_,h=>by simp at h
 | _::_,[],_,_,h=>by simp at h
 | r::rs,q::qs,x,y,h=>by
   have ih:=C5 ps os rs qs (!al x r) (!al y q) (by simpa using h);show tr2 os @aM (r^^^q)::wan ps os (!al @aM (r^^^q)) (Vp (·^^^·) rs qs)=(tr2 os x r^^^tr2 os y q)::Vp (·^^^·) (!av (!al x r) rs) (!av (!al y q) qs);rw[Ii,Ii,ih]
theorem ET (ps os:A') (qs:Cr):∀t,wan ps os 0 (hC t 0++qs)=hC t 0++wan ps os 0 qs
 | 0=>rfl
 | t + 1=>by
   show tr2 os 0 0::wan ps os (!al 0 0) (hC t 0++qs)=0::(hC t 0++wan ps os 0 qs);rw[jz,jz,ET ps os qs t]
theorem Gz {w n k:Nat} (h:k<=n):(pulse w n).take k=pulse w k:=by
 unfold pulse;rw[<-Z5,List.take_range,WA h]
end M
namespace Sx
open PySem L2
structure Sgl (H:Hp) (D:ee) (ds:M') (ps os:A') (n m:Nat):Prop where
 d:H D=ak (!A (ds.map V.ref))
 len:ds.length=m
 at':∀(w:Nat) (d:ee),ds[w]? =ak d->H d=ak (!a7 (M.wan ps os 0 (M.pulse w n)))
structure TldA (H:Hp) (t D1 D2 D3 D4:ee) (rs:eS Rw) (qs:eS Qs) (N:Nt):Prop where
 t:H t=ak (!G [.ref D1,.ref D2,.ref D3,.ref D4])
 i:H D1=ak (!A @cp)
 s:H D2=ak (!A @bv)
 sr:RwK H rs
 es:rs.map (·.2.2)=N.sums
 st:H D3=ak (!A (qs.map λr=>V.ref r.1))
 tr:QsK H qs
 et:qs.map (·.2)=N.sts
 o:H D4=ak (!A @cA)
def OZ (G:NP):Sp:=λvs H Q _=>∃(p:ee) (N:Nt) (od:C'),vs=[.ref p]/\G H p N od/\∀(D:ee) (H2:Hp) (rs:eS Rw),H D=f'->Same H H2->H2 D=ak (!A @bv)->RwK H2 rs->rs.map (·.2.2)=N.sums->Q @Z H2
structure Sumd (rows:Cr) (x q:Nat):Prop where
 lt:q < 2 ^ rows.length
 sm:M.sm rows q=x
 fr:M.Frs rows q
structure Bard (rows:Cr) (x m:Nat):Prop where
 ns:¬M.Span rows x
 bar:∃y,M.Span rows y/\x^^^y≠0/\NC rows (@aM).log2/\M.Bar rows (@aM).log2 m
 ev:∀y,M.Span rows y->M.od (m&&&y)=false
 odd:M.od (m&&&x)=true
 lt:∀W,(∀r∈rows,r < 2 ^ W)->x < 2 ^ W->m < 2 ^ W
def F3:Sp:=λvs H Q _=>∃(r:ee) (rows:Cr) (x:Nat),vs=[.ref r,nat x]/\H r=ak (!A (rows.map nat))/\rows.length<=1000/\(∀r∈rows,r < 2 ^ 1000)/\x < 2 ^ 1000/\(M.Span rows x∨(@bo).length < 64)/\
 (∀(t D:ee) (H2:Hp) (q:Nat),H D=f'->Same H H2->H2 t=ak (!G [.str "sum",.ref D])->H2 D=ak (!a7 (!aD q))->Sumd rows x q->Q @a5 H2)/\
 (∀(t:ee) (H2:Hp) (m:Nat),Same H H2->H2 t=ak (!G [.str "no",nat m])->Bard rows x m->Q @a5 H2)
def Ir:Sp:=λvs H Q _=>∃(q wd T:Nat),vs=[nat q,nat wd,nat T]/\wd<=1000/\T<=1000/\∀(D:ee) (H2:Hp),H D=f'->Same H H2->H2 D=ak (!a7 (M.upk wd q T))->Q @Z H2
end Sx
namespace L2
open PySem
theorem JA {X:Cx} {K:b'} (h:X.K=K):!aN X .NotIn (rIn K true):=by subst h;exact Bw
end L2
namespace Sx
open PySem L2
noncomputable def J (c:Nat):eS Cr->Cr
 | []=>[]
 | [x]=>x
 | x::y::r=>x++c::J c (y::r)
theorem OB {c:Nat}:∀{x y a b:Cr},c∉x->c∉y->x++c::a=y++c::b->x=y/\a=b
 | [],[],a,b,_,_,h=>⟨rfl,(Ww h).2⟩
 | [],d::y,a,b,_,hy,h=>hF (by rw[(Ww h).1];exact j') hy
 | d::x,[],a,b,hx,_,h=>hF (by rw[<-(Ww h).1];exact j') hx
 | d::x,e::y,a,b,hx,hy,h=>by
   obtain⟨h1,h2⟩:=Ww h;obtain⟨L,G⟩:=OB (λz=>hx (ik _ z)) (λz=>hy (ik _ z)) h2;exact⟨by rw[h1,L],G⟩
theorem Tz {c:Nat}:∀(ws vs:eS Cr),ws≠[]->vs≠[]->(∀w∈ws,c∉w)->(∀w∈vs,c∉w)->J c ws=J c vs->ws=vs
 | [],_,h,_,_,_,_=>hF rfl h
 | _,[],_,h,_,_,_=>hF rfl h
 | [x],[y],_,_,_,_,h=>by rw[show x=y from h]
 | [x],y::z::r,_,_,hx,_,h=>hF (by rw[show x=y++c::J c (z::r) from h];simp) (hx x j')
 | x::y::r,[z],_,_,_,hz,h=>hF (by rw[show z=x++c::J c (y::r) from h.symm];simp) (hz z j')
 | x::y::r,x'::G::r',_,_,hx,hz,h=>by
   obtain⟨h1,h2⟩:=OB (hx x j') (hz x' j') (show x++c::J c (y::r)=x'++c::J c (G::r') from h);rw[h1,Tz (y::r) (G::r') @C @C (λw hw=>hx w (ik _ hw)) (λw hw=>hz w (ik _ hw)) h2]
theorem oO (c:Nat):∀ws:C',(Xh ⟨#[c]⟩ ws).cps.toList=J c (!aM (·.cps.toList))
 | []=>rfl
 | [x]=>rfl
 | x::y::r=>by
   have ih:=oO c (y::r);show(x.cps++#[c]++(Xh ⟨#[c]⟩ (y::r)).cps).toList=x.cps.toList++c::J c ((y::r).map (·.cps.toList));rw[<-ih];simp
theorem zg {c:Nat} {ws:C'} (h:ws≠[]) (hf:∀w∈ws,c∉w.cps.toList):W3 (Xh ⟨#[c]⟩ ws) ⟨#[c]⟩=ws:=by
 have Z:=StrLaws.join_split (Xh ⟨#[c]⟩ ws) ⟨#[c]⟩;have Y:=StrLaws.split_free (Xh ⟨#[c]⟩ ws) c;have L:=PyProof.Rows.split_pos (Xh ⟨#[c]⟩ ws) ⟨#[c]⟩;generalize W3 (Xh ⟨#[c]⟩ ws) ⟨#[c]⟩=vs at Z Y L ⊢;have O:=oO c vs;rw[Z,oO c ws] at O;have α:=Tz (c:=c) _ _ (by simpa using h) (by intro z;rw[List.map_eq_nil_iff] at z;subst z;simp at L) (λw hw=>by obtain⟨v,G,rfl⟩:=hD.mp hw;exact hf v G) (λw hw=>by obtain⟨v,G,rfl⟩:=hD.mp hw;exact Y v G) O;have inj:∀x y:lA,x.cps.toList=y.cps.toList->x=y:=λ⟨⟨a⟩⟩ ⟨⟨b⟩⟩ h=>by cases(show a=b from h);rfl
 exact(List.map_inj_right inj).mp α.symm
theorem vA (y:lA) (l:C'):aa9 y l=Xh y l:=StrLaws.glued_eq_join _ _
theorem rz:(Vq " ")=⟨#[32]⟩:=by decide +kernel
theorem vW:(Vq "\n")=⟨#[10]⟩:=by decide +kernel
theorem Oa {X:Cx} {K:b'} (h:X.K=K):!aN X .In (rIn K false):=by subst h;exact JC
def Wd (z:lA):Prop:=(32:Nat)∉z.cps.toList/\(10:Nat)∉z.cps.toList
theorem Nm.wd {z:lA} (h:Nm z):Wd z:=by
 have h:nm z.cps.toList=true:=h
 have ε:∀c:Nat,(low c||fig c)=false->c∉z.cps.toList:=λc G m=>by
  cases e:z.cps.toList with
  | nil=>rw[e] at m;cases m
  | cons d r=>
    rw[e] at h m;unfold nm at h;rw[U6,VR] at h;have:=h.2 c m;rw[G] at this;cases this
 exact⟨ε 32 @D,ε 10 @D⟩
theorem TQ:Wd "in":=by unfold Wd;decide +kernel
theorem QT:Wd "out":=by unfold Wd;decide +kernel
theorem QS:Wd "sum":=by unfold Wd;decide +kernel
theorem LO:Wd "store":=by unfold Wd;decide +kernel
theorem QU:Wd "=":=by unfold Wd;decide +kernel
inductive Fm:C'->Prop where
 | i (z:lA) (h:Nm z):Fm ["in",z]
 | o (z:lA) (h:Nm z):Fm ["out",z]
 | s (z:lA) (ws:C') (h:Nm z) (hw:∀w∈ws,Nm w) (l:ws.length<=24):Fm ("sum"::z::"="::ws)
 | t (z y:lA) (h:Nm z) (hy:Nm y):Fm ["store",z,"=",y]
theorem Fm.wd {r:C'} (f:Fm r):∀w∈r,Wd w:=by
 cases f with
 | i z h=>intro w hw;simp at hw;rcases hw with rfl | rfl<;>first | exact TQ | exact h.wd
 | o z h=>intro w hw;simp at hw;rcases hw with rfl | rfl<;>first | exact QT | exact h.wd
 | s z ws h ω l=>
   intro w hw;simp at hw;rcases hw with rfl | rfl | rfl | hw<;>first | exact QS | exact h.wd | exact QU | exact(ω w hw).wd
 | t z y h G=>intro w hw;simp at hw;rcases hw with rfl | rfl | rfl | rfl<;>first | exact LO | exact h.wd | exact QU | exact G.wd
theorem Fm.ne {r:C'} (f:Fm r):r≠[]:=by cases f<;>simp
theorem lenS:("in":lA).length=2/\("out":lA).length=3/\("sum":lA).length=3/\("store":lA).length=5/\("=":lA).length=1/\("":lA).length=0:=by decide +kernel
theorem Fm.len {r:C'} (f:Fm r):r.length<=27/\∀w∈r,w.length<=6:=by
 obtain⟨O,υ,ζ,θ,L,_⟩:=lenS;cases f with
 | i z h=>exact⟨@C,λw hw=>by simp at hw;rcases hw with rfl | rfl<;>first | exact h.len | omega⟩
 | o z h=>exact⟨@C,λw hw=>by simp at hw;rcases hw with rfl | rfl<;>first | exact h.len | omega⟩
 | s z ws h ω l=>
   refine⟨by simp only[pA];omega,λw hw=>?_⟩;simp at hw;rcases hw with rfl | rfl | rfl | hw<;>first | exact h.len | exact(ω w hw).len | omega
 | t z y h G=>exact⟨@C,λw hw=>by simp at hw;rcases hw with rfl | rfl | rfl | rfl<;>first | exact h.len | exact G.len | omega⟩
noncomputable def rowT (r:C'):Str:=Xh ⟨#[32]⟩ r
noncomputable def txtR (rows:eS C'):Str:=Xh ⟨#[10]⟩ (rows.map rowT)
theorem Tw {c d:Nat} (G:c≠d):∀{ws:eS Cr},(∀w∈ws,d∉w)->d∉J c ws
 | [],_=>by simp[J]
 | [x],h=>h x j'
 | x::y::r,h=>by
   show d∉x++c::J c (y::r);intro m;rcases gz.mp m with m | m
   ·exact h x j' m
   ·rcases qq.mp m with m | m
    ·exact G m.symm
    ·exact Tw G (ws:=y::r) (λw hw=>h w (ik _ hw)) m
theorem Jd {r:C'} (h:∀w∈r,Wd w):(10:Nat)∉(rowT r).cps.toList:=by
 unfold rowT;rw[oO];exact Tw @D λw hw=>by obtain⟨v,G,rfl⟩:=hD.mp hw;exact(h v G).2
theorem Gp {r:C'} (h:∀w∈r,Wd w) (ne:r≠[]):W3 (rowT r) ⟨#[32]⟩=r:=zg ne λw hw=>(h w hw).1
theorem FP {rows:eS C'} (h:∀r∈rows,∀w∈r,Wd w) (ne:rows≠[]):W3 (txtR rows) ⟨#[10]⟩=rows.map rowT:=zg (by simpa using ne) λw hw=>by obtain⟨r,G,rfl⟩:=hD.mp hw;exact Jd (h r G)
theorem QF (c:Nat) {n:Nat}:∀{ws:eS Cr},(∀w∈ws,w.length<=n)->(J c ws).length<=ws.length * (n + 1)
 | [],_=>Vh _
 | [x],h=>by have:=h x j';show x.length<=1 * (n + 1);omega
 | x::y::r,h=>by
   have h1:=h x j';have h2:=QF c (n:=n) (ws:=y::r) λw hw=>h w (ik _ hw);show(x++c::J c (y::r)).length<=_;rw[fD,pA,pA,Yo];omega
theorem vF {r:C'} (h:∀w∈r,w.length<=6):(rowT r).length<=r.length * 7:=by
 rw[<-pG];unfold rowT;rw[oO];have:=QF 32 (n:=6) (ws:=r.map (·.cps.toList)) λw hw=>by obtain⟨v,G,rfl⟩:=hD.mp hw;rw[pG];exact h v G
 rw[aI] at this;exact this
theorem LS {rows:eS C'} (h:∀r∈rows,Fm r):(txtR rows).length<=rows.length * 190:=by
 rw[<-pG];unfold txtR;rw[oO]
 have:=QF 10 (n:=189) (ws:=(rows.map rowT).map (·.cps.toList)) λw hw=>by
  obtain⟨v,G,rfl⟩:=hD.mp hw;obtain⟨r,L,rfl⟩:=hD.mp G;rw[pG];have a:=(h r L).len;have b:=vF a.2;have:r.length * 7<=27 * 7:=VA 7 a.1;omega
 rw[aI,aI] at this;exact this
theorem LZ {z:lA} (h:z=""):z.cps.toList=[]:=C8.mp h
theorem J_ne (c:Nat):∀{ws:eS Cr},(∃w∈ws,w≠[])->J c ws≠[]
 | [],⟨w,h,_⟩=>by cases h
 | [x],⟨w,h,n⟩=>by rw[gs.mp h] at n;exact n
 | x::y::r,_=>by show x++c::J c (y::r)≠[];simp
theorem PL {r:C'} (f:Fm r):(rowT r).cps.toList≠[]:=by
 unfold rowT;rw[oO];refine J_ne 32 ?_;cases f with
 | i z h=>exact⟨("in":lA).cps.toList,@C,@O⟩
 | o z h=>exact⟨("out":lA).cps.toList,@C,@O⟩
 | s z ws h ω l=>exact⟨("sum":lA).cps.toList,@C,@O⟩
 | t z y h G=>exact⟨("store":lA).cps.toList,@C,@O⟩
theorem OU {rows:eS C'} (h:∀r∈rows,Fm r) (ne:rows≠[]):txtR rows≠"":=λe=>by
 have:=LZ e;unfold txtR at this;rw[oO] at this;refine J_ne 10 ?_ this;cases rows with
 | nil=>exact hF rfl ne
 | cons r l=>exact⟨(rowT r).cps.toList,@C,PL (h r j')⟩
noncomputable def kd (k:lA) (r:C'):Bool:=decide (r.getD 0 ""=k)
noncomputable def insR (rows:eS C'):C':=(rows.filter (kd "in")).map λr=>r.getD 1 ""
noncomputable def sumR (rows:eS C'):eS (lA×eS lA):=(rows.filter (kd "sum")).map λr=>(r.getD 1 "",r.drop 3)
noncomputable def stoR (rows:eS C'):eS (lA×lA):=(rows.filter (kd "store")).map λr=>(r.getD 1 "",r.getD 3 "")
noncomputable def outR (rows:eS C'):C':=(rows.filter (kd "out")).map λr=>r.getD 1 ""
noncomputable def netR (rows:eS C'):Nt:=⟨insR rows,sumR rows,stoR rows,outR rows⟩
noncomputable def nT (N:Nt):eS C':=N.ins.map (λz=>[("in":lA),z])++N.sums.map (λr=>("sum":lA)::r.1::("=":lA)::r.2)++N.sts.map (λr=>[("store":lA),r.1,("=":lA),r.2])++N.outs.map (λz=>[("out":lA),z])
noncomputable def txtN (N:Nt):Str:=txtR (nT N)
theorem w_ne:("in":lA)≠"sum"/\("in":lA)≠"store"/\("in":lA)≠"out"/\("sum":lA)≠"in"/\("sum":lA)≠"store"/\("sum":lA)≠"out"/\("store":lA)≠"in"/\("store":lA)≠"sum"/\("store":lA)≠"out"/\("out":lA)≠"in"/\("out":lA)≠"sum"/\("out":lA)≠"store":=by decide +kernel
theorem vM {α:Type} (f:α->C') {k:lA} (h:∀x,kd k (f x)=true) (l:eS α):(l.map f).filter (kd k)=l.map f:=by
 rw[List.filter_eq_self];intro r G;obtain⟨x,_,rfl⟩:=hD.mp G;exact h x
theorem eM {α:Type} (f:α->C') {k:lA} (h:∀x,kd k (f x)=false) (l:eS α):(l.map f).filter (kd k)=[]:=by
 rw[ZS];intro r G;obtain⟨x,_,rfl⟩:=hD.mp G;rw[h x];exact ia
theorem kd_t {k:lA} {r:C'}:kd k (k::r)=true:=hE rfl
theorem kd_f {k j:lA} {r:C'} (h:j≠k):kd k (j::r)=false:=hA h
theorem zk (N:Nt):netR (nT N)=N:=by
 obtain⟨n1,β,α,Z,Y,ξ,ε,ν,O,L,G,π⟩:=w_ne;cases N with
 | mk a b c d=>
 unfold netR insR sumR stoR outR nT;simp only[UV];rw[vM _ (λ_=>kd_t),eM _ (λ_=>kd_f Z),eM _ (λ_=>kd_f ε),eM _ (λ_=>kd_f L)];rw[eM (λz=>[("in":lA),z]) (λ_=>kd_f n1),vM _ (λ_=>kd_t),eM _ (λ_=>kd_f ν),eM _ (λ_=>kd_f G)];rw[eM (λz=>[("in":lA),z]) (λ_=>kd_f β),eM _ (λ_=>kd_f Y),vM _ (λ_=>kd_t),eM _ (λ_=>kd_f π)];rw[eM (λz=>[("in":lA),z]) (λ_=>kd_f α),eM _ (λ_=>kd_f ξ),eM _ (λ_=>kd_f O),vM _ (λ_=>kd_t)];simp;exact⟨YM a,YM b,YM c,YM d⟩
theorem vE {N:Nt} (g:Gn N):∀r∈nT N,Fm r:=by
 intro r L;have π:∀z∈N.ins,z∈N.names:=λz h=>by unfold Nt.names;exact !N (!N h)
 have β:∀q∈N.sums,q.1∈N.names:=λq h=>by unfold Nt.names;exact !N (!Q (!aq ⟨q,h,rfl⟩))
 have ο:∀q∈N.sts,q.1∈N.names:=λq h=>by unfold Nt.names;exact !Q (!aq ⟨q,h,rfl⟩)
 unfold nT at L;rcases gz.mp L with h | h
 ·rcases gz.mp h with h | h
  ·rcases gz.mp h with h | h
   ·obtain⟨z,hz,rfl⟩:=hD.mp h;exact .i z (g.nm z (π z hz))
   ·obtain⟨q,G,rfl⟩:=hD.mp h;exact .s q.1 q.2 (g.nm _ (β q G)) (λw hw=>g.nm w (g.ws q G w hw)) (g.lw q G)
  ·obtain⟨q,G,rfl⟩:=hD.mp h;exact .t q.1 q.2 (g.nm _ (ο q G)) (g.nm _ (g.ts q G))
 ·obtain⟨z,hz,rfl⟩:=hD.mp h;exact .o z (g.nm z (g.os z hz))
theorem rG {N:Nt} (g:Gn N):(nT N).length<=68:=by
 have:=g.li;have:=g.ls;have:=g.lt;have:=g.lo;unfold nT;simp only[fD,aI];omega
def Lrw (G H:Hp) (D:ee) (ys:eS V) (rows:eS C'):Prop:=∃ds:M',ys=ds.map V.ref/\ds.length=rows.length/\(∀d∈ds,d≠D)/\(∀d∈ds,G d=f')/\∀(j:Nat) (d:ee) (r:C'),ds[j]? =ak d->rows[j]? =ak r->H d=ak (!A @bI)
theorem Lrw.nil {G H:Hp} {D:ee}:Lrw G H D [] []:=⟨[],rfl,rfl,λ_ h=>(by cases h),λ_ h=>(by cases h),λj d r h=>(by simp at h)⟩
theorem Lrw.len {G H:Hp} {D:ee} {ys:eS V} {rows:eS C'} (x:Lrw G H D ys rows):ys.length=rows.length:=by obtain⟨ds,rfl,l,_⟩:=x;rw[aI,l]
theorem Lrw.base {γ G H:Hp} {D:ee} {ys:eS V} {rows:eS C'} (x:Lrw G H D ys rows) (s:Same γ G):Lrw γ H D ys rows:=by obtain⟨ds,e,l,n,f,h⟩:=x;exact⟨ds,e,l,n,λd hd=>s.free (f d hd),h⟩
theorem Lrw.put {β H Z:Hp} {D L:ee} {ys:eS V} {rows:eS C'} {r:C'} (x:Lrw β H D ys rows) (ε:β L=f') (e:H D=ak @X) (f:H L=f') (s:!bm Z) (δ:Z L=ak (!A @bI)):Lrw β (!a1 Z (ys++[.ref L])) D (ys++[.ref L]) @ab:=by
 obtain⟨ds,rfl,ld,nd,fd,hd⟩:=x;have Y:L≠D:=λz=>by rw[z,e] at f;cases f
 have k3:∀b ob,b≠D->Z b=ak ob->upd Z D (!A (ds.map V.ref++[.ref L])) b=ak ob:=λb ob n e=>by rw[aH n];exact e
 refine⟨ds++[L],by rw[dt];rfl,by rw[fD,fD,ld];rfl,λd γ=>?_,λd γ=>?_,λj d r' O G=>?_⟩
 ·rcases gz.mp γ with h | h
  ·exact nd d h
  ·rw[gs.mp h];exact Y
 ·rcases gz.mp γ with h | h
  ·exact fd d h
  ·rw[gs.mp h];exact ε
 ·by_cases α:j < ds.length
  ·rw[ky α] at O;rw[ky @A] at G;exact k3 _ _ (nd d (eH O)) (s.get (hd j d r' O G))
  ·have hl:=(!M O).1;rw[fD,pO] at hl;rw[lB @A,show j - ds.length=0 by omega] at O;rw[lB @A,show j - rows.length=0 by omega] at G;cases O;cases G;exact k3 _ _ Y δ
theorem Lrw.join {α H H2 ζ:Hp} {D θ:ee} {ys L:eS V} {rows υ:eS C'} (x:Lrw α H D ys rows) (e:H D=ak @X) (η:Same α H) (s:@ap) (x2:Lrw H H2 θ L υ) (u:Upd H2 ζ D (!A (ys++L))):Lrw α ζ D (ys++L) (rows++υ):=by
 obtain⟨ds,rfl,ld,nd,fd,hd⟩:=x;obtain⟨ε,rfl,ρ,ω,δ,Z⟩:=x2;have β:∀d∈ε,d≠D:=λd γ z=>by have:=δ d γ;rw[z,e] at this;cases this
 refine⟨ds++ε,by rw[dt],by rw[fD,fD,ld,ρ],λd γ=>(gz.mp γ).elim (nd d) (β d),λd γ=>(gz.mp γ).elim (fd d) (λh=>η.free (δ d h)),λj d r O G=>?_⟩;by_cases Y:j < ds.length
 ·rw[ky Y] at O;rw[ky @A] at G;exact u.oth _ _ (nd d (eH O)) (s.get (hd j d r O G))
 ·rw[lB @A] at O;rw[lB @A,<-ld] at G;exact u.oth _ _ (β d (eH O)) (Z _ d r O G)
def O1 (G:NP):Sp:=λvs H Q _=>∃(p:ee) (N:Nt) (od:C'),vs=[.ref p]/\G H p N od/\∀H2,Same H H2->Q (.str (txtN N)) H2
def O9:Sp:=λvs H Q _=>∃(l:ee) (r:C'),vs=[.ref l]/\H l=ak (!A @bI)/\Fm r/\∀H2,Same H H2->Q (.bl true) H2
def FZ:Sp:=λvs H Q _=>∃(z:lA),vs=[.str z]/\z.length<=100000/\∀(D:ee) (H2:Hp),H D=f'->Same H H2->H2 D=ak (!bd (W3 z ⟨#[32]⟩))->Q @Z H2
def IB:Sp:=λvs H Q _=>∃(z:lA),vs=[.str z]/\z.length<=100000/\∀(D:ee) (H2:Hp),H D=f'->Same H H2->H2 D=ak (!A ((if z="" then [] else W3 z ⟨#[10]⟩).map V.str))->Q @Z H2
def O2 (G:NP):Sp:=λvs H Q _=>∃(rows:eS C'),vs=[.str (txtR rows)]/\(∀r∈rows,Fm r)/\rows.length<=100/\Gn (netR rows)/\∀(n:ee) (H2:Hp) (od:C'),H n=f'->Same H H2->G H2 n (netR rows) od->Q (!j n) H2
noncomputable def TupV (K:b') (H:Hp) (y:V):qE (eS V)->Prop
 | some xs=>∃r,y= .ref r/\SqT K H r xs/\HG K H xs
 | none=>∃k,mW K H y k/\k≠"tuple"
noncomputable def Uk (n m:Nat):qE (eS V)->US
 | some [x,y]=>pV x n&&pV y m
 | _=>false
noncomputable abbrev It2:=V×qE (eS V)
noncomputable def LstV (K:b') (H:Hp) (y:V):qE (eS It2)->Prop
 | some zs=>∃r,y= .ref r/\H r=ak (!A (zs.map (·.1)))/\∀z∈zs,TupV K H z.1 z.2
 | none=>∃k,mW K H y k/\k≠"list"
noncomputable def tabB (x:V) (L G:qE (eS It2)):Bool:=match x,L,G with
 | .int i,ak zs,ak ws=>decide (0<=i)&&decide (i<=6)&&decide (zs.length<=120)&&decide (ws.length<=6)&&(zs++ws).all λz=>Uk zs.length i.toNat z.2
 | _,_,_=>false
end Sx
namespace L2
open PySem
end L2
namespace Sx
open PySem L2
structure BadT (K:b') (H:Hp) (x y z:V):Prop where
 ex:∃k on oo,mW K H x k/\LstV K H y on/\LstV K H z oo/\tabB x on oo=false
end Sx
namespace L2
open PySem
end L2
namespace Sx
open PySem L2
noncomputable def cps (p q k:Nat):Cr:=if k + 1 < p then [k + 1] else M.pl 1000 q
structure ChS (H:Hp) (S:ee) (p q:Nat) (rs:M'):Prop where
 at_:H S=ak (!A (rs.map V.ref))
 len:rs.length=p
 get:∀(k:Nat) (r:ee),rs[k]? =ak r->H r=ak (!a7 (cps p q k))
structure ChT (H:Hp) (D S:ee) (ms:Cr) (p q:Nat):Prop where
 fs:M.Fst ms p
 sd:Sumd (ms.take p) (ms.getD p 0) q
 d:H D=ak (!a7 (ms.take p))
 s:∃rs,ChS H S p q rs
structure LA (K:b') (H:Hp) (t n o rr:ee) (m:Nat) (nx os:@R) (rs:Cr) (a b:Nat):Prop where
 tt:TabT H t n o m nx os
 sq:SqL K H rr @b2
 lr:rs.length=20
 br:∀r∈rs,r < 2 ^ m
 ln:nx.length<=16
 ha:a < 2 ^ nx.length
 hb:b < 2 ^ nx.length
structure ApA (H:Hp) (f:ee) (nx os:@R) (d k ans:Nat):Prop where
 f:H f=ak (!G [.str "apart",nat k,nat ans.log2])
 hk:k < nx.length
 an:ans=M.tr2 @H (M.zs @E d k) 0
 ne:ans≠0
 qu:∀j,j < k->M.tr2 @H (M.zs @E d j) 0=0
structure ApL (H:Hp) (f D S:ee) (nx os:@R) (d p q:Nat):Prop where
 f:H f=ak (!G [.str "alike",.ref D,.ref S])
 ct:ChT H D S (M.zl @E d nx.length) p q
 qu:∀j,j < p->M.tr2 @H (M.zs @E d j) 0=0
structure CmA (H:Hp) (t D:ee) (m:Nat) (nx:@R) (st T q mk:Nat):Prop where
 f:H t=ak (!G [.str "come",.ref D,nat mk])
 d:H D=ak (!a7 (M.upk m q T))
 hT:T<=nx.length
 no:∀j,j < T->¬M.Span (M.rch @E m j) st
 sd:Sumd (M.rch @E m T) st q
 br:(T=0/\mk=0)∨∃T',T=T' + 1/\Bard (M.rch @E m T') st mk
structure CmN (H:Hp) (t D S:ee) (m:Nat) (nx:@R) (st mk p q:Nat):Prop where
 f:H t=ak (!G [.str "never",.ref D,.ref S])
 no:∀j,j<=nx.length->¬M.Span (M.rch @E m j) st
 bd:Bard (M.rch @E m nx.length) st mk
 ct:ChT H D S (M.bl (nA nx) mk nx.length) p q
structure LN (K:b') (H:Hp) (n:ee) (m:Nat) (nx os:@R) (st:Nat):Prop where
 sq:SqL K H n (refs nx)
 pt:Prt H nx
 g:MaG m nx os
 ln:nx.length<=16
 hs:st < 2 ^ nx.length
end Sx
namespace M
noncomputable def fR (rows:Cr):Cr:=(fr rows).map λi=>rows.getD i 0
theorem fr_lt {rows:Cr}:∀i∈fr rows,i < rows.length:=by
 intro i hi;unfold fr at hi;exact wh.mp (UQ.mp hi).1
theorem xS (rows:Cr) (r:Nat):(fr rows).map (λi=>(@ab).getD i 0)=fR rows:=by
 unfold fR;refine Vc λi hi=>?_;rw[dm,dm,ky (fr_lt i hi)]
theorem SW {rows:Cr} {r:Nat} (h:!bq r):fR @ab=fR rows:=by
 rw[<-xS rows r];unfold fR;rw[fr_in h]
theorem Oq {rows:Cr} {r:Nat} (h:¬Span rows r):fR @ab=fR rows++[r]:=by
 rw[<-xS rows r];unfold fR;rw[fr_out h,dt];congr 1;simp
theorem KA:∀(rows:Cr) (x:Nat),Span (fR rows) x↔Span rows x:=by
 refine jB ?_ λl w ih=>?_
 ·intro x;exact ad7
 ·intro x;by_cases h:Span l w
  ·rw[SW h,ih,cT];exact⟨.inl,λz=>z.elim id λz=>by have:=span_xor z h;rwa [bJ] at this⟩
  ·rw[Oq h,cT,cT,ih,ih]
theorem Inj.out {ws:Cr} {w:Nat} (I:Inj ws) (h:¬Span ws w):Inj (ws++[w]):=by
 intro p L e;rw[gx] at e;by_cases hb:p.testBit ws.length=true
 ·rw[oL hb] at e;exfalso;apply h
  have:sm ws p=w:=by
   have:=px (·^^^w) e;simpa[U7] using this
  rw[<-this];exact sm_span _ _
 ·rw[mu hb,Vf] at e;refine I p ?_ e;rw[fD,pO] at L;refine W2 p λi hi=>?_;by_cases G:i=ws.length
  ·rw[G];simpa using hb
  ·exact lx (!a6 L)
theorem SV:∀rows:Cr,Inj (fR rows):=by
 refine jB Inj.nil λl w ih=>?_;by_cases h:Span l w
 ·rw[SW h];exact ih
 ·rw[Oq h];exact ih.out λz=>h ((KA l w).mp z)
noncomputable def ow (x:Nat) (L:Cr):Nat:=pk (λk=>od (x&&&L.getD k 0)) 0 L.length
noncomputable def lk1 (A os:Cr) (t:Nat):Cr:=os.map λs=>bkI A s t
noncomputable def lkm (A os:Cr):Nat->Cr
 | 0=>[]
 | T + 1=>lkm A os T++lk1 A os T
section
variable (ps os:A') (m:Nat)
noncomputable def msk:Cr:=lkm (ps.map (·.1)) (os.map (·.1)) ps.length
noncomputable def ldp:Cr:=fr ((rch ps m ps.length).map (ow · (msk ps os)))
noncomputable def lst_:Cr:=(ldp ps os m).map λi=>(rch ps m ps.length).getD i 0
noncomputable def lkp:Cr:=fr ((msk ps os).map (ow · (lst_ ps os m)))
noncomputable def lkL:Cr:=(lkp ps os m).map λi=>(msk ps os).getD i 0
noncomputable def sen:Cr:=(lkL ps os m).map (ow · (lst_ ps os m))
end
section
variable {ps os:A'} {m:Nat}
structure Lsr (ps os:A') (m:Nat) (nx' os':A'):Prop where
 ln:nx'.length=(lkp ps os m).length
 lo:os'.length=os.length
 n1:∀(j:Nat) (q:@aO),nx'[j]? =ak q->q.1 < 2 ^ (lkp ps os m).length/\sm (sen ps os m) q.1=ow (sm (ps.map (·.1)) ((lkL ps os m).getD j 0)) (lst_ ps os m)/\q.2=sm (ps.map (·.2)) ((lkL ps os m).getD j 0)
 o1:∀(j:Nat) (q:@aO),os'[j]? =ak q->q.1 < 2 ^ (lkp ps os m).length/\sm (sen ps os m) q.1=ow (os.getD j (0,0)).1 (lst_ ps os m)/\q.2=(os.getD j (0,0)).2
structure Fit (ps os:A') (m:Nat):Prop where
 ln:ps.length<=120
 bn:∀q∈ps++os,q.1 < 2 ^ ps.length
end
theorem Se {n:Nat} (hn:n<=1000):∀(rows:Cr),(∀r∈rows,r < 2 ^ n)->∀x,x < 2 ^ n->¬Span rows x->∃m,m < 2 ^ n/\(∀r∈rows,od (m&&&r)=false)/\od (m&&&x)=true:=by
 intro rows
 induction rows using jB with
 | h0=>
   intro _ x O hs;have ζ:x≠0:=λe=>hs (by rw[e];exact og _);have hl:x.log2 < n:=(Yy ζ).mpr O;exact⟨2 ^ x.log2,U8 @D hl,λ_ h=>hF h @C,by rw[od_pow @A];exact iZ ζ⟩
 | hs l r ih=>
   intro hb x O hs;have ih:=ih λy G=>hb y (!N G);have δ:r < 2 ^ n:=hb r (!Q j');have h1:¬Span l x:=λh=>hs ((cT l r x).mpr @aT);have h2:¬Span l (x^^^r):=λh=>hs ((cT l r x).mpr (!F h));obtain⟨α,a1,b1,γ⟩:=ih x O h1;cases β:od (α&&&r) with
   | false=>
     refine⟨α,a1,λy G=>?_,γ⟩;rcases gz.mp G with h | h
     ·exact b1 y h
     ·rw[gs.mp h];exact β
   | true=>
     obtain⟨L,a2,b2,Z⟩:=ih (x^^^r) (!bl O δ) h2;rw[and_xor,od_xor] at Z;cases Y:od (L&&&r) with
     | false=>
       rw[Y,Wa] at Z;refine⟨L,a2,λy G=>?_,Z⟩;rcases gz.mp G with h | h
       ·exact b2 y h
       ·rw[gs.mp h];exact Y
     | true=>
       rw[Y] at Z;have ε:od (L&&&x)=false:=by cases h:od (L&&&x)<;>simp_all
       refine⟨α^^^L,!bl a1 a2,λy G=>?_,by rw[qt,od_xor,γ,ε];rfl⟩;rw[qt,od_xor];rcases gz.mp G with h | h
       ·rw[b1 y h,b2 y h];rfl
       ·rw[gs.mp h,β,Y];rfl
theorem su {m:Nat} {rows:Cr} (h:∀r∈rows,od (m&&&r)=false) {y:Nat} (hy:!bq y):od (m&&&y)=false:=
 zP (P:=λy=>od (m&&&y)=false) (by rw[VM,od_zero]) (λa b ha hb=>by show od (m&&&@aU)=false;rw[and_xor,od_xor,ha,hb];rfl) h hy
theorem TR {n:Nat} (hn:n<=1000) {rows bars:Cr} (hb:∀r∈rows,r < 2 ^ n) (all:∀z,z < 2 ^ n->(∀y,Span rows y->od (z&&&y)=false)->Span bars z) {y:Nat} (hy:y < 2 ^ n) (h:∀b∈bars,od (b&&&y)=false):!bq y:=VS λhs=>by
 obtain⟨m,a,b,c⟩:=Se hn rows hb y hy hs;have:=su (m:=y) (rows:=bars) (λr G=>by rw[UM];exact h r G) (all m a λz hz=>su b hz);rw[UM,c] at this;cases this
section
variable (ps os:A') (m:Nat)
noncomputable def Sil:Nat->Nat->Prop
 | 0,x=>x < 2 ^ ps.length
 | j + 1,x=>x < 2 ^ ps.length/\∃u,u < 2 ^ m/\tr2 os x u=0/\Sil j (!al x u)
end
section
variable {ps os:A'} {m:Nat}
theorem Sil.lt:∀{j x:Nat},Sil ps os m j x->x < 2 ^ ps.length
 | 0,_,h=>h
 | _ + 1,_,h=>h.1
theorem Sil.down:∀{j x:Nat},Sil ps os m @au x->Sil ps os m j x
 | 0,_,h=>h.1
 | j + 1,x,⟨G,u,hu,L,h⟩=>⟨G,u,hu,L,Sil.down (j:=j) h⟩
theorem Sil.less {i x:Nat}:∀{j:Nat},i<=j->Sil ps os m j x->Sil ps os m i x
 | 0,h,s=>by rw[show i=0 by omega];exact s
 | j + 1,h,s=>by
   by_cases e:i=j + 1
   ·rw[e];exact s
   ·exact Sil.less (j:=j) @A s.down
theorem TU (qs:A') (x y u v:Nat):tr2 qs @aM (u^^^v)=tr2 qs x u^^^tr2 qs y v:=by
 apply iv;intro i;rw[oT,tr2_bit,tr2_bit,tr2_bit,and_xor,and_xor,od_xor,od_xor];have ε:∀(d a b c e:US),(d&&((a^^b)^^(c^^e)))=((d&&(a^^c))^^(d&&(b^^e))):=by decide
 exact ε _ _ _ _ _
theorem E1:∀{j x:Nat},x < 2 ^ ps.length->∀rs:Cr,rs.length=j->(∀r∈rs,r < 2 ^ m)->wan ps os x rs=hC j 0->Sil ps os m j x
 | 0,x,G,_,_,_,_=>G
 | j + 1,x,G,r::rs,hl,hb,h=>by
   have h:tr2 os x r::wan ps os (!al x r) rs=0::hC j 0:=h;obtain⟨O,h1⟩:=Ww h;exact⟨G,r,hb r j',O,E1 (tr2_lt ps x r) rs (by simpa using hl) (λy L=>hb y (ik _ L)) h1⟩
end
section
noncomputable def jd (n:Nat) (q:@aO):Nat:=q.1^^^(q.2 <<< n)
theorem jd_lt {n m:Nat} {q:@aO} (h1:q.1 < 2 ^ n) (h2:q.2 < 2 ^ m):jd n q < 2 ^ (n + m):=by
 unfold jd;refine !bl (!a6 h1) ?_;rw[VD,X5,Z3];exact Nat.mul_lt_mul_of_pos_left h2 @az
theorem P7 {n m:Nat} {q:@aO} {x u:Nat} (hn:n + m<=1000) (h1:q.1 < 2 ^ n) (hx:x < 2 ^ n) (hu:u < 2 ^ m):od (jd n q&&&jd n (x,u))=(od (q.1&&&x)^^od (q.2&&&u)):=by
 unfold jd;rw[o6 h1 hx,od_xor,Fh (w2 X8 (!a6 hu)) @A]
theorem Oi {n x u:Nat} (hx:x < 2 ^ n):jd n (x,u) % 2 ^ n=x:=by
 apply iv;intro i;unfold jd;rw[U4,oT,x3];by_cases h:i < n
 ·simp[h,show ¬n<=i by omega]
 ·rw[lx (!a6 hx)];simp[h]
theorem jd_of {n m w:Nat} (h:w < 2 ^ (n + m)):jd n (w % 2 ^ n,w>>>n)=w/\w % 2 ^ n < 2 ^ n/\w>>>n < 2 ^ m:=by
 refine⟨?_,Y0 _ @az,?_⟩
 ·apply iv;intro i;unfold jd;rw[oT,U4,x3,VC];by_cases hi:i < n
  ·simp[hi,show ¬n<=i by omega]
  ·simp[hi,show n<=i by omega,show n + (i - n)=i by omega]
 ·rw[tu];exact Yn (by rw[<-X5];exact h)
theorem JV (n a b:Nat):@aU % 2 ^ n=a % 2 ^ n^^^b % 2 ^ n:=by
 apply iv;intro i;rw[U4,oT,oT,U4,U4];cases decide (i < n)<;>simp
theorem L0 (n:Nat):∀(ws:Cr) (x:Nat),Span (!aM (· % 2 ^ n)) x↔∃w,Span ws w/\w % 2 ^ n=x:=by
 intro ws
 induction ws using jB with
 | h0=>intro x;exact⟨λh=>⟨0,og _,by have h:x=0:=h;rw[h];exact Zy _⟩,λ⟨w,h,e⟩=>by have h:w=0:=h;rw[h,Zy] at e;exact e.symm⟩
 | hs l r ih=>
   intro x;rw[dt,W7,cT,ih,ih];constructor
   ·rintro(⟨w,h,e⟩ | ⟨w,h,e⟩)
    ·exact⟨w,(cT l r w).mpr @aT,e⟩
    ·exact⟨w^^^r,(cT l r _).mpr (!F (by rw[bJ];exact h)),by rw[JV,e,bJ]⟩
   ·rintro⟨w,h,e⟩;rcases(cT l r w).mp h with h | h
    ·exact !J ⟨w,h,e⟩
    ·exact !F ⟨w^^^r,h,by rw[JV,e]⟩
structure SWays (ps os:A') (m:Nat) (bars ways:Cr):Prop where
 lt:∀w∈ways,w < 2 ^ @bq
 ev:∀w∈ways,tr2 os @cs @cx=0/\∀b∈bars,od (b&&&tr2 ps @cs @cx)=false
 inj:Inj (ways.map (· % 2 ^ ps.length))
 span:∀x,Span (ways.map (· % 2 ^ ps.length)) x↔x < 2 ^ ps.length/\∃u,u < 2 ^ m/\tr2 os x u=0/\∀b∈bars,od (b&&&tr2 ps x u)=false
end
section
variable {ps os:A'} {m:Nat}
theorem MF {x u:Nat} (hn:@dc) (hO:∀q∈os,q.1 < 2 ^ ps.length) (hx:@co) (hu:u < 2 ^ m):tr2 os x u=0↔∀q∈os,od (jd ps.length q&&&jd ps.length (x,u))=false:=by
 constructor
 ·intro h q G;obtain⟨k,hk⟩:=wq.mp G;have hl:=(@b5).1;have:=px (·.testBit k) h;simp only[tr2_bit,V3,hE hl,UR,dm,hk,ZW] at this;rw[P7 hn (hO q G) hx hu];exact this
 ·intro h;apply iv;intro k;rw[tr2_bit,V3];by_cases hl:k < os.length
  ·have hk:os[k]? =ak os[k]:=ef hl;have:=h os[k] (UX hl);rw[P7 hn (hO _ (UX hl)) hx hu] at this;rw[hE hl,UR,dm,hk];exact this
  ·rw[hA hl,V2]
end
theorem Ip {a b:Cr} (Z:Inj a) (Y:Inj b) (hl:b.length<=a.length) (h:∀x,Span a x->Span b x) {x:Nat} (hx:Span b x):Span a x:=VS λhn=>by
 obtain⟨O,sa,γ⟩:=sW a;obtain⟨G,L,lb⟩:=sW b;rw[fr_inj Z] at γ;rw[fr_inj Y] at lb;have hnd:(x::O).Nodup:=WV.mpr ⟨λhm=>hn ((sa.all x).mp hm),sa.nd⟩
 have:=rV (x::O) G hnd λy α=>by
  rcases qq.mp α with e | e
  ·rw[e];exact(L.all x).mpr hx
  ·exact(L.all y).mpr (h y ((sa.all y).mp e))
 rw[pA,γ,lb] at this;have:=gA (show 0 < 2 by decide) hl;omega
section
variable {ps os:A'} {m:Nat}
noncomputable def rowsJ (ps os:A') (bars:Cr):Cr:=os.map (jd ps.length)++bars.map λb=>jd ps.length (sm (ps.map (·.1)) b,sm (ps.map (·.2)) b)
theorem HQ {bars:Cr} {x u:Nat} (hn:@dc) (ψ:∀q∈ps++os,q.1 < 2 ^ ps.length) (hb:∀b∈bars,b < 2 ^ ps.length) (hx:@co) (hu:u < 2 ^ m):
  (∀y,Span (rowsJ ps os bars) y->od (jd ps.length (x,u)&&&y)=false)↔tr2 os x u=0/\∀b∈bars,od (b&&&tr2 ps x u)=false:=by
 have O:∀b,od (jd ps.length (sm (ps.map (·.1)) b,sm (ps.map (·.2)) b)&&&jd ps.length (x,u))=od (b&&&tr2 ps x u):=λb=>by
  rw[P7 hn (sm_lt b λy Y=>by obtain⟨q,G,rfl⟩:=hD.mp Y;exact ψ q (!N G)) hx hu];exact(wQ b x u ps @A).symm
 rw[MF hn (λq G=>ψ q (!Q G)) hx hu];constructor
 ·intro h;refine⟨λq G=>?_,λb L=>?_⟩
  ·rw[UM];exact h _ (span_mem (!N (!aq ⟨q,G,rfl⟩)))
  ·rw[<-O,UM];exact h _ (span_mem (!Q (!aq ⟨b,L,rfl⟩)))
 ·rintro⟨h1,h2⟩ y Y;refine su (λr Z=>?_) Y;rw[UM];rcases gz.mp Z with h | h
  ·obtain⟨q,G,rfl⟩:=hD.mp h;exact h1 q G
  ·obtain⟨b,L,rfl⟩:=hD.mp h;rw[O];exact h2 b L
theorem sways {bars ws:Cr} (hn:@dc) (ψ:∀q∈ps++os,q.1 < 2 ^ ps.length) (hb:∀b∈bars,b < 2 ^ ps.length) (lt:∀w∈ws,w < 2 ^ @bq) (ev:∀w∈ws,∀y,Span (rowsJ ps os bars) y->od (w&&&y)=false)
  (all:∀z,z < 2 ^ @bq->(∀y,Span (rowsJ ps os bars) y->od (z&&&y)=false)->Span ws z):SWays ps os m bars ((fr (!aM (· % 2 ^ ps.length))).map λi=>ws.getD i 0):=by
 have G:∀w∈(fr (ws.map (· % 2 ^ ps.length))).map (λi=>ws.getD i 0),w∈ws:=λw hw=>by
  obtain⟨i,hi,rfl⟩:=hD.mp hw;have hl:=fr_lt _ hi;rw[aI] at hl;rw[dm,ef hl];exact UX hl
 have ε:((fr (!aM (· % 2 ^ ps.length))).map λi=>ws.getD i 0).map (· % 2 ^ ps.length)=fR (!aM (· % 2 ^ ps.length)):=by
  unfold fR;rw[u2];refine Vc λi hi=>?_;have hl:=fr_lt _ hi;rw[aI] at hl;show ws.getD i 0 % _=_;rw[dm,dm,hH,ef hl];rfl
 have hz:∀w,Span ws w->w < 2 ^ @bq:=λw hw=>span_lt lt hw
 have ρ:∀w,Span ws w->∀y,Span (rowsJ ps os bars) y->od (w&&&y)=false:=λw hw y L=>by
  rw[UM];exact su (λr Y=>by rw[UM];exact ev r Y y L) hw
 refine⟨λw hw=>lt w (G w hw),λw hw=>?_,by rw[ε];exact SV _,λx=>?_⟩
 ·obtain⟨e,h1,h2⟩:=jd_of (n:=ps.length) (m:=m) (lt w (G w hw));refine(HQ hn ψ hb h1 h2).mp λy L=>?_;rw[e];exact ev w (G w hw) y L
 ·rw[ε,KA,L0];constructor
  ·rintro⟨w,hw,rfl⟩;obtain⟨e,h1,h2⟩:=jd_of (n:=ps.length) (m:=m) (hz w hw);refine⟨h1,w>>>ps.length,h2,(HQ hn ψ hb h1 h2).mp λy L=>?_⟩;rw[e];exact ρ w hw y L
  ·rintro⟨O,u,hu,h⟩;exact⟨jd ps.length (x,u),all _ (jd_lt O hu) ((HQ hn ψ hb O hu).mpr h),Oi O⟩
def Lr (ps os:A') (m j:Nat) (bars:Cr):Prop:=∀y,y < 2 ^ ps.length->((∀b∈bars,od (b&&&y)=false)↔Sil ps os m j y)
theorem Hr:Lr ps os m 0 []:=λy G=>⟨λ_=>G,λ_ _ h=>hF h @C⟩
theorem SWays.sil {bars G:Cr} {j:Nat} (S:SWays ps os m bars G) (hb:Lr ps os m j bars) (x:Nat):Span (G.map (· % 2 ^ ps.length)) x↔Sil ps os m @au x:=by
 rw[S.span];exact⟨λ⟨L,u,hu,O,h⟩=>⟨L,u,hu,O,(hb _ (tr2_lt _ _ _)).mp h⟩,λ⟨L,u,hu,O,h⟩=>⟨L,u,hu,O,(hb _ (tr2_lt _ _ _)).mpr h⟩⟩
theorem Hs {rows bars:Cr} {j:Nat} (hn:@bs) (h:∀x,Span rows x↔Sil ps os m j x) (ev:∀b∈bars,∀y,Span rows y->od (b&&&y)=false) (all:∀z,z < 2 ^ ps.length->(∀y,Span rows y->od (z&&&y)=false)->Span bars z):Lr ps os m j bars:=λy G=>
 ⟨λhb=>(h y).mp (TR hn (λr L=>((h r).mp (span_mem L)).lt) all G hb),λhs b hb=>ev b hb y ((h y).mpr hs)⟩
end
theorem OS (w p q T:Nat):Vp (·^^^·) (upk w p T) (upk w q T)=upk w (p^^^q) T:=by
 unfold upk;rw[List.zipWith_map,List.zipWith_self];refine Vc λt _=>?_;rw[Nat.shiftRight_xor_distrib,Nat.and_xor_distrib_right]
theorem LR (w T:Nat):upk w 0 T=hC T 0:=by
 unfold upk;simp only[Nat.zero_shiftRight,Wm];rw[List.map_const',qQ]
theorem vR (ps os:A'):∀(T x t:Nat),t < T->(!av x (hC T 0))[t]? =ak (tr2 os (zs ps x t) 0)
 | 0,x,t,h=>hF h (VQ _)
 | T + 1,x,0,h=>rfl
 | T + 1,x,t + 1,h=>by
   rw[We];show(!av (!al x 0) (hC T 0))[t]? =_;rw[vR ps os T _ t @A,QL]
theorem DG (w:Nat):∀(a b:Cr),a.length=b.length->pkw w (Vp (·^^^·) a b)=pkw w a^^^pkw w b
 | [],[],_=>(Wc 0).symm
 | [],_::_,h=>by cases h
 | _::_,[],h=>by cases h
 | x::a,y::b,h=>by
   have ih:=DG w a b (by simpa using h);show @aM^^^(pkw w (Vp (·^^^·) a b) <<< w)=(x^^^(pkw w a <<< w))^^^(y^^^(pkw w b <<< w));rw[ih,Dm,xor4]
theorem C6 {w:Nat}:∀{T:Nat} {rs:Cr},rs.length=T->(∀r∈rs,r < 2 ^ w)->upk w (pkw w rs) T=rs
 | 0,[],_,_=>rfl
 | T + 1,r::rs,h,hb=>by
   have G:=hb r j';rw[zM];have Y:pkw w (r::rs)>>>w=pkw w rs:=tI G
   have O:pkw w (r::rs)&&&(2 ^ w - 1)=r:=by
    show(r^^^(pkw w rs <<< w))&&&(2 ^ w - 1)=r;rw[Vy];apply iv;intro i;rw[U4,oT,x3];by_cases hi:i < w
    ·simp[hi,show ¬w<=i by omega]
    ·rw[lx (!a6 G)];simp[hi]
   rw[Y,O,C6 (T:=T) (by simpa using h) λy L=>hb y (ik _ L)]
section
variable (ps os:A') (m T:Nat)
noncomputable def tol:Cr:=(kv (T * m)).map λk=>pkw os.length (!av 0 (upk m (2 ^ k) T))
end
section
variable {ps os:A'} {m T:Nat}
theorem tol_len:(tol ps os m T).length=T * m:=by unfold tol;rw[aI,qQ]
theorem Ij {F:Nat} (β:F < 2 ^ (T * m)):sm (tol ps os m T) F=pkw os.length (!av 0 (upk m F T)):=by
 refine IT (f:=λF=>pkw os.length (!av 0 (upk m F T))) ?_ (λa b=>?_) (T * m) F β
 ·show pkw _ (!av 0 (upk m 0 T))=0;rw[LR,vH (λp G=>wan_lt ps os _ 0 p G)];intro p G
  have hz:∀n,wan ps os 0 (hC n 0)=hC n 0:=λn=>by
   induction n with
   | zero=>rfl
   | succ n ih=>show tr2 os 0 0::wan ps os (!al 0 0) _=_;rw[jz,jz,ih];rfl
  rw[hz] at G;exact VN G
 ·show pkw _ (!av 0 (upk m @aU T))=_
  rw[<-OS,show wan ps os 0 (Vp (·^^^·) (upk m a T) (upk m b T))=Vp (·^^^·) (!av 0 (upk m a T)) (!av 0 (upk m b T)) from by
   have:=C5 ps os (upk m a T) (upk m b T) 0 0 (by rw[upk_len,upk_len]);rwa [Wc] at this,DG _ _ _ (by rw[wan_len,wan_len,upk_len,upk_len])]
theorem LW {rs:Cr} (hl:rs.length=T) (hb:∀r∈rs,r < 2 ^ m):pkw os.length (!av 0 rs)=sm (tol ps os m T) (pkw m rs):=by
 have G:=pkw_lt hb;rw[hl] at G;rw[Ij G];congr 2;exact(C6 hl hb).symm
end
theorem Ra:∀(l:Cr) (i q:Nat),q.testBit i=false->sm (l.set i 0) q=sm l q:=by
 intro l
 induction l using jB with
 | h0=>intro i q _;rfl
 | hs l w ih=>
   intro i q h;by_cases hi:i < l.length
   ·rw[List.set_append_left _ _ hi,gx,gx,ih i q h,WW]
   ·by_cases e:i=l.length
    ·rw[e,List.set_append_right _ _ @Y,X7];show sm (l++[0]) q=_;rw[gx,gx,<-e,h];rfl
    ·rw[List.set_eq_of_length_le (by rw[fD];show l.length + 1<=i;omega)]
theorem JJ {μ i:Nat}:∀(l:Cr),(∀k,k < l.length->od (μ&&&l.getD k 0)=decide (k=i))->∀F,od (μ&&&sm l F)=(decide (i < l.length)&&F.testBit i):=by
 intro l
 induction l using jB with
 | h0=>intro _ F;show od (μ&&&0)=_;rw[VM,od_zero];rfl
 | hs l w ih=>
   intro h F;have hw:=h l.length (by rw[fD];show l.length < l.length + 1;omega);have G:(l++[w]).getD l.length 0=w:=by rw[dm,lB @Y,X7];rfl
   rw[G] at hw
   have ih:=ih (λk hk=>by
    have:=h k (by rw[fD];omega);rwa [dm,ky hk,<-dm] at this) F
   rw[gx,and_xor,od_xor,ih,fD];show _=(decide (i < l.length + 1)&&F.testBit i);by_cases e:i=l.length
   ·rw[e,hA (VJ _),V2,VU,hE (VP _),UR];cases β:F.testBit l.length with
    | true=>rw[oL rfl,hw,e];simp
    | false=>rw[mu @D,VM,od_zero]
   ·have hz:od (μ&&&(if F.testBit l.length=true then w else 0))=false:=by
     split
     ·rw[hw];exact hA λz=>e z.symm
     ·rw[VM,od_zero]
    rw[hz,Wa];by_cases hi:i < l.length
    ·rw[hE hi,hE @A]
    ·rw[hA hi,hA @A]
section
variable {ps os:A'} {m T:Nat}
theorem silent_of {i q:Nat} (hT:1<=T) (hi:i < m) (hq:q < 2 ^ (T * m)) (h0:q.testBit i=false) (e:sm ((tol ps os m T).set i 0) q=(tol ps os m T).getD i 0):
  wan ps os 0 (upk m (q^^^2 ^ i) T)=hC T 0/\((upk m (q^^^2 ^ i) T).getD 0 0).testBit i=true:=by
 have η:i < T * m:=fy hi (X3 m hT);have G:q^^^2 ^ i < 2 ^ (T * m):=xor_lt_pow hq (U8 @D η);constructor
 ·have hz:pkw os.length (!av 0 (upk m (q^^^2 ^ i) T))=0:=by
   rw[<-Ij G,sm_xor,lZ,<-e,Ra _ _ _ h0,Wc]
  have:=(vH (λp L=>wan_lt ps os _ 0 p L)).mp hz;refine List.eq_replicate_iff.mpr ⟨by rw[wan_len,upk_len],this⟩
 ·obtain⟨t,rfl⟩:∃t,T=t + 1:=⟨T - 1,@A⟩;rw[zM];show((q^^^2 ^ i)&&&(2 ^ m - 1)).testBit i=true;rw[Vy,U4,oT,h0,pB];simp[hi]
theorem Ik {μ i:Nat} (hT:1<=T) (hi:i < m) (ev:∀y,Span ((tol ps os m T).set i 0) y->od (μ&&&y)=false) (θ:od (μ&&&(tol ps os m T).getD i 0)=true) {rs:Cr} (hl:rs.length=T) (hb:∀r∈rs,r < 2 ^ m):
  od (μ&&&pkw os.length (!av 0 rs))=(rs.getD 0 0).testBit i:=by
 have η:i < T * m:=fy hi (X3 m hT);rw[LW hl hb,JJ (i:=i) (tol ps os m T) (λk hk=>?_),tol_len,hE η,UR]
 ·match rs,hl with
  | [],hl=>exact hF hl (by show ¬0=T;omega)
  | r::rs,_=>
    show(r^^^(pkw m rs <<< m)).testBit i=r.testBit i;rw[oT,x3];simp[show ¬m<=i by omega]
 ·by_cases e:k=i
  ·rw[hE e,e];exact θ
  ·rw[hA e];refine ev _ (span_mem ?_)
   have G:((tol ps os m T).set i 0)[k]? =ak ((tol ps os m T).getD k 0):=by
    rw[Yi (ro e),dm,ef hk];rfl
   exact eH G
end
section
variable {ps os TP TO:A'} {m d:Nat}
noncomputable def enc (n o x:Nat) (Y:Cr):Nat:=x^^^(pkw o Y <<< n)
theorem tells (enc:Nat->Cr->Nat)
  (hO:∀x Y y v vs,Y.length=d->vs.length=d->v < 2 ^ m->(∀u∈vs,u < 2 ^ m)->wan ps os x (v::vs)=Y++[y]->tr2 TO (enc x Y) y=v/\tr2 TP (enc x Y) y=enc (!al x v) ((@aY).drop 1)):
  ∀(ys:Cr) (x:Nat) (Y vs:Cr),Y.length=d->vs.length=d + ys.length->(∀v∈vs,v < 2 ^ m)->wan ps os x vs=Y++ys->wan TP TO (enc x Y) ys=vs.take ys.length
 | [],_,_,_,_,_,_,_=>rfl
 | y::ys,x,Y,vs,hY,hl,hb,h=>by
   match vs,hl,hb,h with
   | [],hl,_,_=>exact hF hl (by rw[pA];show ¬0=d + (ys.length + 1);omega)
   | v::vs,hl,hb,h=>
     rw[pA,pA] at hl
     have h1:wan ps os x (v::vs.take d)=Y++[y]:=by
      have L:v::vs.take d=(v::vs).take @a4:=rfl;rw[L,zK,h,XR,hY,Va @A,show d + 1 - d=1 by omega];rfl
     obtain⟨a,b⟩:=hO x Y y v (vs.take d) hY (by rw[pa];omega) (hb v j') (λu hu=>hb u (ik _ (aa7 hu))) h1;show tr2 TO _ y::wan TP TO (tr2 TP _ y) ys=v::vs.take ys.length;rw[a,b];refine px (v::·) (tells enc hO ys (!al x v) ((@aY).drop 1) vs (by rw[WB,fD,hY];show d + 1 - 1=d;omega) @A (λu hu=>hb u (ik _ hu)) ?_);have h2:tr2 os x v::wan ps os (!al x v) vs=Y++y::ys:=h;have G:=px (List.drop 1) h2;rw[List.drop_succ_cons,ag1] at G;rw[G,show Y++y::ys=@aY++ys by rw[WH];rfl,List.drop_append_of_le_length (by rw[fD];show 1<=Y.length + 1;omega)]
end
theorem Th (A:Cr):∀(t:Nat) (L:Cr) (s:Nat),bkI A (sm L s) t=sm (L.map λl=>bkI A l t) s:=by
 intro t
 induction t with
 | zero=>intro L s;show sm L s=sm (L.map λl=>l) s;rw[ah6]
 | succ t ih=>
   intro L s;rw[<-FG,Q9,ih];congr 1;rw[u2];exact Vc λl _=>FG A l t
section
variable (ps os:A')
noncomputable def zmk (μ:Nat):Nat->Nat
 | 0=>0
 | T + 1=>zmk μ T^^^sm ((os.map (·.1)).map λl=>bkI (ps.map (·.1)) l T) ((μ>>>@cj)&&&@cB)
end
section
variable {ps os:A'}
theorem LD (hl:@bs) (ho:@bJ) (x s t:Nat):od (sm ((os.map (·.1)).map λl=>bkI (ps.map (·.1)) l t) s&&&x)=od (s&&&tr2 os (zs ps x t) 0):=by
 rw[wQ s (zs ps x t) 0 os ho,VM,od_zero,Wa,Sk ps hl,Th]
theorem Ob (hl:@bs) (ho:@bJ) (x μ:Nat):∀T,od (zmk ps os μ T&&&x)=dot (upk os.length μ T) ((kv T).map λt=>tr2 os (zs ps x t) 0)
 | 0=>by show od (0&&&x)=false;rw[Wm,od_zero]
 | T + 1=>by
   show od ((zmk ps os μ T^^^_)&&&x)=_;rw[qt,od_xor,Ob hl ho x μ T,LD hl ho];unfold upk;rw[V9,dt,dt];rw[show([T].map λt=>(μ>>>(t * os.length))&&&@cB)=[(μ>>>@cj)&&&@cB] from rfl,show([T].map λt=>tr2 os (zs ps x t) 0)=[tr2 os (zs ps x T) 0] from rfl];rw[Fu _ _ _ _ (by rw[aI,aI])]
theorem Ba (ps os:A') (x T:Nat):wan ps os x (hC T 0)=(kv T).map λt=>tr2 os (zs ps x t) 0:=by
 refine Wj λt=>?_;by_cases h:t < T
 ·rw[vR _ _ _ _ _ h,hH,Vt h];rfl
 ·rw[w8 (by rw[wan_len,w5];omega),w8 (by rw[aI,qQ];omega)]
theorem LF (hl:@bs) (ho:@bJ) {x μ T:Nat} (hT:T * os.length<=1000) (G:μ < 2 ^ @cj):od (zmk ps os μ T&&&x)=od (μ&&&pkw os.length (!av x (hC T 0))):=by
 rw[Ob hl ho,Ba];have h1:=Oc (w:=os.length) (ps:=upk os.length μ T) (rs:=(kv T).map λt=>tr2 os (zs ps x t) 0) (by rw[upk_len,aI,qQ]) (upk_lt _ _ _) (λr L=>by obtain⟨t,_,rfl⟩:=hD.mp L;exact tr2_lt _ _ _) (by rw[upk_len];exact hT);rw[Jv _ _ _ G] at h1;exact h1.symm
theorem FX {m d i μ x v:Nat} {vs Y:Cr} {y:Nat} (hl:@bs) (ho:@bJ) (hT:@a4 * os.length<=1000) (G:μ < 2 ^ @bt) (hi:i < m)
  (ev:∀z,Span ((tol ps os m @a4).set i 0) z->od (μ&&&z)=false) (θ:od (μ&&&(tol ps os m @a4).getD i 0)=true) (L:v < 2 ^ m) (hb:∀u∈vs,u < 2 ^ m) (hs:vs.length=d) (h:@dg):
  (od (zmk ps os μ @a4&&&x)^^od (μ&&&pkw os.length @aY))=v.testBit i:=by
 rw[LF hl ho hT G,<-h,<-od_xor,<-and_xor]
 have hz:Vp (·^^^·) (!av x (hC @a4 0)) (!av x (v::vs))=wan ps os 0 (v::vs):=by
  have:=C5 ps os (hC @a4 0) (v::vs) x x (by rw[w5,pA,hs]);rw[Wc] at this;rw[<-this];congr 1;refine Wj λt=>?_;rw[WJ];by_cases ht:t < d + 1
  ·rw[List.getElem?_replicate_of_lt ht,ef (by rw[pA,hs];exact ht)];simp
  ·rw[w8 (show(v::vs).length<=t by rw[pA,hs];omega)];cases(hC @a4 0)[t]? <;>rfl
 rw[<-DG _ _ _ (by rw[wan_len,wan_len,w5,pA,hs]),hz]
 exact Ik (T:=d + 1) @A hi ev θ (by rw[pA,hs]) λr O=>by
  rcases qq.mp O with e | e
  ·rw[e];exact L
  ·exact hb r e
end
section
variable (ps os:A') (d:Nat)
noncomputable def tel (μ:Nat):Nat×Nat:=(zmk ps os μ @a4^^^((μ % 2 ^ @cw) <<< ps.length),μ>>>@cw)
noncomputable def telO (G:Cr):A':=G.map (tel ps os d)
noncomputable def fol (to:A') (q:@aO):Nat×Nat:=(q.1^^^sm (to.map (·.1)) q.2,sm (to.map (·.2)) q.2)
noncomputable def kpt:A':=(kv (d * os.length - os.length)).map (λj=>(2 ^ (ps.length + (os.length + j)),0))++(if 0 < d then (kv os.length).map (λk=>(0,2 ^ k)) else [])
noncomputable def telP (G:Cr):A':=ps.map (fol (telO ps os d G))++kpt ps os d
noncomputable def ecd (x:Nat) (Y:Cr):Nat:=x^^^(pkw os.length Y <<< ps.length)
end
section
variable {ps os:A'} {d:Nat}
theorem HR (ψ:∀q∈ps++os,q.1 < 2 ^ ps.length) (μ:Nat):∀T,zmk ps os μ T < 2 ^ ps.length
 | 0=>mm _
 | T + 1=>xor_lt_pow (HR ψ μ T) (sm_lt _ λy G=>by
     obtain⟨l,hl,rfl⟩:=hD.mp G;obtain⟨q,O,rfl⟩:=hD.mp hl;exact bkI_lt (λz hz=>by obtain⟨r,L,rfl⟩:=hD.mp hz;exact ψ r (!N L)) (ψ q (!Q O)) T)
theorem MJ {μ w o y:Nat} {P:Nat} (hw:w + o<=1000) (G:P < 2 ^ w) (hy:y < 2 ^ o):od (μ&&&(P^^^(y <<< w)))=(od ((μ % 2 ^ w)&&&P)^^od ((μ>>>w)&&&y)):=by
 have e:μ=(μ % 2 ^ w)^^^((μ>>>w) <<< w):=by
  apply iv;intro i;rw[oT,U4,x3,VC];by_cases hi:i < w
  ·simp[hi,show ¬w<=i by omega]
  ·simp[hi,show w<=i by omega,show w + (i - w)=i by omega]
 rw[show od (μ&&&(P^^^(y <<< w)))=od (((μ % 2 ^ w)^^^((μ>>>w) <<< w))&&&(P^^^(y <<< w))) by rw[<-e],o6 (Y0 _ @az) G,od_xor,Fh (w2 X8 (!a6 hy)) @A]
theorem OV (ψ:∀q∈ps++os,q.1 < 2 ^ ps.length) (hn:@cN) {x μ y:Nat} {Y:Cr} (hx:@co) (O:Y.length=d) (G:∀z∈Y,z < 2 ^ os.length) (hy:y < 2 ^ os.length):
  (od ((tel ps os d μ).1&&&ecd ps os x Y)^^od ((tel ps os d μ).2&&&y))=(od (zmk ps os μ @a4&&&x)^^od (μ&&&pkw os.length @aY)):=by
 have L:=pkw_lt G;rw[O] at L;have Z:@a4 * os.length=d * os.length + os.length:=Yo d os.length;unfold tel ecd;rw[o6 (HR ψ μ _) hx,od_xor,Fh (w2 X8 (!a6 L)) @A,pkw_snoc,O,MJ @A L hy];generalize od _=a;generalize od _=b;generalize od _=c;cases a<;>cases b<;>cases c<;>rfl
structure Mks (ps os:A') (m d:Nat) (μs:Cr):Prop where
 len:μs.length=m
 lt:∀(i μ:Nat),μs[i]? =ak μ->μ < 2 ^ @bt
 ev:∀(i μ:Nat),μs[i]? =ak μ->∀z,Span ((tol ps os m @a4).set i 0) z->od (μ&&&z)=false
 odd:∀(i μ:Nat),μs[i]? =ak μ->od (μ&&&(tol ps os m @a4).getD i 0)=true
theorem EW {m:Nat} {G:Cr} (M:Mks ps os m d G) (ψ:∀q∈ps++os,q.1 < 2 ^ ps.length) (hn:@cN) (ho:@bJ) {x v y:Nat} {vs Y:Cr} (hx:@co) (O:v < 2 ^ m) (hb:∀u∈vs,u < 2 ^ m) (hs:vs.length=d) (Z:Y.length=d) (h:@dg):tr2 (telO ps os d G) (ecd ps os x Y) y=v:=by
 have υ:∀z∈Y++[y],z < 2 ^ os.length:=λz hz=>wan_lt ps os (v::vs) x z (by rw[h];exact hz);apply iv;intro i;rw[tr2_bit];unfold telO;rw[aI,M.len];by_cases hi:i < m
 ·have τ:i < G.length:=by rw[M.len];exact hi
  have L:G[i]? =ak G[i]:=ef τ;rw[hE hi,UR,dm,hH,L];show(od ((tel ps os d _).1&&&_)^^od ((tel ps os d _).2&&&y))=_;rw[OV ψ hn hx Z (λz hz=>υ z (!N hz)) (υ y (!Q j'))];exact FX @A ho @A (M.lt i _ L) hi (M.ev i _ L) (M.odd i _ L) O hb hs h
 ·rw[hA hi,V2,lx (!a6 O)]
theorem kpt_len:(kpt ps os d).length=d * os.length:=by
 unfold kpt;rw[fD,aI,qQ];cases d with
 | zero=>rw[mu @D];show 0 * os.length - os.length + 0=0 * os.length;omega
 | succ d=>
   rw[oL @A,aI,qQ,Yo];omega
theorem ME {w:Nat} {z:Nat} {Z:Cr} (h:z < 2 ^ w):pkw w (z::Z)>>>w=pkw w Z:=tI h
theorem Il {m:Nat} {G:Cr} (M:Mks ps os m d G) (ψ:∀q∈ps++os,q.1 < 2 ^ ps.length) (hn:@cN) (ho:@bJ) (hm:m<=1000) {x v y:Nat} {vs Y:Cr} (hx:@co) (ν:v < 2 ^ m) (hb:∀u∈vs,u < 2 ^ m) (hs:vs.length=d) (O:Y.length=d) (h:@dg):
  tr2 (telP ps os d G) (ecd ps os x Y) y=ecd ps os (!al x v) ((@aY).drop 1):=by
 have υ:∀z∈Y++[y],z < 2 ^ os.length:=λz hz=>wan_lt ps os (v::vs) x z (by rw[h];exact hz);have L:=EW M ψ hn ho hx ν hb hs O h;have ξ:@a4 * os.length=d * os.length + os.length:=Yo d os.length;have ζ:=υ y (!Q j');have γ:=pkw_lt (w:=os.length) (ps:=Y) (λz hz=>υ z (!N hz));rw[O] at γ;have α:((@aY).drop 1).length=d:=by rw[WB,fD,O];show d + 1 - 1=d;omega
 have ι:=pkw_lt (w:=os.length) (ps:=(@aY).drop 1) (λz hz=>υ z (List.mem_of_mem_drop hz));rw[α] at ι
 have Z:pkw os.length ((@aY).drop 1)=pkw os.length @aY>>>os.length:=by
  match Y,O,υ with
  | [],_,υ=>show pkw os.length []=(y^^^(pkw os.length [] <<< os.length))>>>os.length;rw[tI (υ y @C)]
  | z::Y',_,υ=>exact(ME (υ z @C)).symm
 have θ:∀j,(pkw os.length ((@aY).drop 1)).testBit j=((pkw os.length Y).testBit (os.length + j)^^(decide (d * os.length<=os.length + j)&&y.testBit (os.length + j - d * os.length))):=λj=>by
  rw[Z,VC,pkw_snoc,O,oT,x3]
 apply iv;intro k;rw[tr2_bit];unfold telP;rw[fD,aI,kpt_len]
 have η:∀k,(ecd ps os (!al x v) ((@aY).drop 1)).testBit k=((!al x v).testBit k^^(decide (ps.length<=k)&&(pkw os.length ((@aY).drop 1)).testBit (k - ps.length))):=λk=>by
  unfold ecd;rw[oT,x3]
 rw[η];by_cases h1:k < ps.length
 ·have β:ps[k]? =ak ps[k]:=ef h1;rw[hE @A,UR,dm,ky (by rw[aI];exact h1),hH,β,hA @A,V2,Wa];show(od ((ps[k].1^^^sm ((telO ps os d G).map (·.1)) ps[k].2)&&&ecd ps os x Y)^^od (sm ((telO ps os d G).map (·.2)) ps[k].2&&&y))=_;have χ:=ψ ps[k] (!N (UX h1))
  have π:od (ps[k].1&&&ecd ps os x Y)=od (ps[k].1&&&x):=by
   unfold ecd;have:=o6 (w:=ps.length) (p:=ps[k].1) (r:=x) (P:=0) (R:=pkw os.length Y) χ hx;rw[YI,Vf,Wm,YI,Vf] at this;rw[this]
  have ε:=wQ ps[k].2 (ecd ps os x Y) y (telO ps os d G) (by unfold telO;rw[aI,M.len];exact hm);rw[L] at ε;rw[qt,od_xor,π,ag2,<-ε,tr2_bit,hE h1,UR,dm,β];rfl
 ·have ht:(!al x v).testBit k=false:=lx (!a6 (tr2_lt ps x v));rw[ht,VU,hE (show ps.length<=k by omega),UR];obtain⟨j,rfl⟩:∃j,k=ps.length + j:=⟨k - ps.length,@A⟩;rw[Y2];by_cases h2:j < d * os.length
  ·rw[hE @A,UR,θ,dm,lB (by rw[aI];omega),aI,Y2];have hd:0 < d:=by cases d with | zero=>rw[Z1] at h2;omega | succ d=>omega
   unfold kpt;by_cases δ:j < d * os.length - os.length
   ·rw[ky (by rw[aI,qQ];exact δ),hH,Vt δ];show(od (2 ^ (ps.length + (os.length + j))&&&ecd ps os x Y)^^od (0&&&y))=_;rw[Wm,od_zero,Wa,od_pow @A,hA @A,V2,Wa];unfold ecd;rw[oT,x3,lx (!a6 hx),VU,hE @A,UR,Y2]
   ·have ο:os.length<=d * os.length:=X3 _ hd;rw[lB (by rw[aI,qQ];omega),aI,qQ,oL hd,hH,Vt @A];show(od (0&&&ecd ps os x Y)^^od (2 ^ (j - (d * os.length - os.length))&&&y))=_;rw[Wm,od_zero,VU,od_pow @A,lx (fy γ (gA @D (show d * os.length<=os.length + j by omega))),VU,hE @A,UR];congr 1;omega
  ·rw[hA @A,V2,lx (!a6 ι)]
theorem told_back {m:Nat} {G:Cr} (M:Mks ps os m d G) (ψ:∀q∈ps++os,q.1 < 2 ^ ps.length) (hn:@cN) (ho:@bJ) (hm:m<=1000) {us:Cr} (hu:∀u∈us,u < 2 ^ m):
  wan (telP ps os d G) (telO ps os d G) 0 (!av 0 us)=(hC d 0++us).take us.length:=by
 have hz:∀n,wan ps os 0 (hC n 0)=hC n 0/\wst ps 0 (hC n 0)=0:=λn=>by
  induction n with
  | zero=>exact⟨rfl,rfl⟩
  | succ n ih=>exact⟨by show tr2 os 0 0::wan ps os (!al 0 0) _=_;rw[jz,jz,ih.1];rfl,by show wst ps (!al 0 0) _=0;rw[jz];exact ih.2⟩
 have he:ecd ps os 0 (hC d 0)=0:=by
  unfold ecd;rw[(vH (w:=os.length) (ps:=hC d 0) (λp α=>by rw[VN α];exact mm _)).mpr λp α=>VN α,YI,Wc]
 have ε:=tells (ps:=ps) (os:=os) (TP:=telP ps os d G) (TO:=telO ps os d G) (m:=m) (d:=d) (λx Y=>ecd ps os @cO Y) ?_ (!av 0 us) 0 (hC d 0) (hC d 0++us) (w5 ..) (by rw[fD,w5,wan_len]) (λv Z=>by
  rcases gz.mp Z with e | e
  ·rw[VN e];exact mm _
  ·exact hu v e) (by rw[Ie,(hz d).1,(hz d).2])
 ·have ε:wan _ _ (ecd ps os (0 % 2 ^ ps.length) (hC d 0)) _=_:=ε;rw[Zy,he,wan_len] at ε;exact ε
 ·intro x Y y v vs β hs Z hb h;have L:x % 2 ^ ps.length < 2 ^ ps.length:=Y0 _ @az
  have same:∀(qs:A'),(∀q∈qs,q.1 < 2 ^ ps.length)->∀r,tr2 qs @cO r=tr2 qs x r:=λqs O r=>by
   apply iv;intro i;rw[tr2_bit,tr2_bit];by_cases hi:i < qs.length
   ·have hm:qs.getD i (0,0)∈qs:=by rw[dm,ef hi];exact UX hi
    have:(qs.getD i (0,0)).1&&&@cO=(qs.getD i (0,0)).1&&&x:=by
     apply iv;intro j;rw[Vg,Vg,U4];by_cases δ:j < ps.length
     ·simp[δ]
     ·rw[lx (!a6 (O _ hm))];simp
    rw[this]
   ·rw[hA hi,V2,V2]
  have sp:=same ps (λq O=>ψ q (!N O));have γ:=same os (λq O=>ψ q (!Q O))
  have h':wan ps os @cO (v::vs)=Y++[y]:=by
   rw[<-h];show tr2 os _ v::wan ps os (!al _ v) vs=tr2 os x v::wan ps os (!al x v) vs;rw[sp,γ]
  refine⟨EW M ψ hn ho L Z hb hs β h',?_⟩;rw[Il M ψ hn ho hm L Z hb hs β h',sp,Nat.mod_eq_of_lt (tr2_lt ps x v)]
end
section
variable {ps os:A'} {m:Nat}
theorem first_iff {bars:Cr} {u:Nat} (hl:@bs) (ho:@bJ):
  (∀y,Span (os.map (·.2)++bars.map (sm (ps.map (·.2)))) y->od (u&&&y)=false)↔tr2 os 0 u=0/\∀b∈bars,od (b&&&tr2 ps 0 u)=false:=by
 have L:∀b,od (b&&&tr2 ps 0 u)=od (sm (ps.map (·.2)) b&&&u):=λb=>by
  rw[wQ b 0 u ps hl,VM,od_zero,VU]
 have O:tr2 os 0 u=0↔∀q∈os,od (q.2&&&u)=false:=by
  constructor
  ·intro h q G;obtain⟨k,hk⟩:=wq.mp G;have ω:=(@b5).1;have:=px (·.testBit k) h;simp only[tr2_bit,V3,hE ω,UR,dm,hk,ZW,VM,od_zero,VU] at this;exact this
  ·intro h;apply iv;intro k;rw[tr2_bit,V3,VM,od_zero,VU];by_cases ω:k < os.length
   ·rw[hE ω,UR,dm,ef ω];exact h _ (UX ω)
   ·rw[hA ω,V2]
 rw[O];constructor
 ·intro h;refine⟨λq G=>?_,λb hb=>?_⟩
  ·rw[UM];exact h _ (span_mem (!N (!aq ⟨q,G,rfl⟩)))
  ·rw[L,UM];exact h _ (span_mem (!Q (!aq ⟨b,hb,rfl⟩)))
 ·rintro⟨h1,h2⟩ y Y;refine su (λr Z=>?_) Y;rw[UM];rcases gz.mp Z with h | h
  ·obtain⟨q,G,rfl⟩:=hD.mp h;exact h1 q G
  ·obtain⟨b,hb,rfl⟩:=hD.mp h;rw[<-L];exact h2 b hb
theorem not_silent {bars:Cr} {k:Nat} (hk:k<=ps.length) (hb:Lr ps os m k bars) (h0:∀u,u < 2 ^ m->tr2 os 0 u=0->(∀b∈bars,od (b&&&tr2 ps 0 u)=false)->u=0) {rs:Cr} (hl:ps.length < rs.length) (G:∀r∈rs,r < 2 ^ m) (h:wan ps os 0 rs=hC rs.length 0):rs.getD 0 0=0:=by
 match rs,hl,G,h with
 | [],hl,_,_=>exact hF hl @C
 | r::rs,hl,G,h=>
   have h:tr2 os 0 r::wan ps os (!al 0 r) rs=0::hC rs.length 0:=h;obtain⟨h1,h2⟩:=Ww h;have hs:=E1 (m:=m) (tr2_lt ps 0 r) rs rfl (λy L=>G y (ik _ L)) h2;exact h0 r (G r j') h1 ((hb _ (tr2_lt ps 0 r)).mpr (hs.less (by rw[pA] at hl;omega)))
structure Slp (ps os:A') (m j:Nat) (bars ways:Cr):Prop where
 w:SWays ps os m bars ways
 b:Lr ps os m j bars
 lt:∀b∈bars,b < 2 ^ ps.length
 cnt:∃prev:Cr,(∀x,Span prev x↔Sil ps os m j x)/\Inj prev/\prev.length + bars.length=ps.length/\prev.length + j<=ps.length
theorem Slp.sil {j:Nat} {bars G:Cr} (S:Slp ps os m j bars G):∀x,Span (G.map (· % 2 ^ ps.length)) x↔Sil ps os m @au x:=S.w.sil S.b
theorem Slp.le {j:Nat} {bars G:Cr} (S:Slp ps os m j bars G):j<=ps.length:=by obtain⟨p,_,_,_,h⟩:=S.cnt;omega
theorem Slp.done {j:Nat} {bars G:Cr} (S:Slp ps os m j bars G) (h:ps.length<=G.length + bars.length) {x:Nat} (hx:Sil ps os m j x):Span (G.map (· % 2 ^ ps.length)) x:=by
 obtain⟨p,h1,h2,O,_⟩:=S.cnt;exact Ip S.w.inj h2 (by rw[aI];omega) (λy L=>(h1 y).mpr ((S.sil y).mp L).down) ((h1 x).mpr hx)
theorem Slp.start {G:Cr} (hw:SWays ps os m [] G):Slp ps os m 0 [] G:=by
 refine⟨hw,Hr,λ_ h=>hF h @C,(kv ps.length).map (2 ^ ·),λx=>?_,?_,?_,?_⟩
 ·constructor
  ·intro h;exact span_lt (λr O=>by obtain⟨k,hk,rfl⟩:=hD.mp O;exact U8 @D (wh.mp hk)) h
  ·intro h;have:sm ((kv ps.length).map (2 ^ ·)) x=x:=IT (f:=λx=>x) rfl @bn ps.length x h;rw[<-this];exact sm_span _ _
 ·intro p L h;rw[aI,qQ] at L;have:sm ((kv ps.length).map (2 ^ ·)) p=p:=IT (f:=λx=>x) rfl @bn ps.length p L;rw[<-this];exact h
 ·rw[aI,qQ];rfl
 ·rw[aI,qQ];exact oe _
theorem Slp.next {j:Nat} {bars L G φ:Cr} (S:Slp ps os m j bars L) (hn:@bs) (O:L.length + bars.length < ps.length) (blt:∀b∈G,b < 2 ^ ps.length) (Y:G.length + L.length=ps.length)
  (ev:∀b∈G,∀y,Span (L.map (· % 2 ^ ps.length)) y->od (b&&&y)=false) (all:∀z,z < 2 ^ ps.length->(∀y,Span (L.map (· % 2 ^ ps.length)) y->od (z&&&y)=false)->Span G z) (hw:SWays ps os m G φ):Slp ps os m @au G φ:=by
 obtain⟨p,h1,h2,α,Z⟩:=S.cnt;exact⟨hw,Hs hn S.sil ev all,blt,L.map (· % 2 ^ ps.length),S.sil,S.w.inj,by rw[aI];omega,by rw[aI];omega⟩
end
noncomputable def jn (p1 p2:A'):A':=p1++p2.map λq=>(q.1 <<< p1.length,q.2)
noncomputable def lo (n x:Nat):Nat:=x&&&(2 ^ n - 1)
structure Jo (p1 p2:A'):Prop where
 a1:∀q∈p1,q.1 < 2 ^ p1.length
 a2:∀q∈p2,q.1 < 2 ^ p2.length
 l:p1.length + p2.length<=500
section
variable {p1 p2 o1 o2:A'} {m:Nat}
noncomputable def sgl (p o:A') (w:Nat):Nat->Nat
 | 0=>tr2 o 0 (2 ^ w)
 | t + 1=>tr2 o (zs p (tr2 p 0 (2 ^ w)) t) 0
def Al (p1 o1 p2 o2:A') (m T:Nat):Prop:=∀t,t < T->∀w,w < m->sgl p1 o1 w t=sgl p2 o2 w t
end
noncomputable def rcf (ps:A') (m:Nat):Nat->Cr
 | 0=>[]
 | T + 1=>rcf ps m T++stj ps (sg0 ps m) T
noncomputable def prs2 (p1 p2:A') (m:Nat):Cr:=fR (rcf (jn p1 p2) m (p1.length + p2.length))
end M
namespace Sx
open PySem L2
def Cp (G:eS Pr3->Prop) (H1:Hp) (D:ee) (i:Nat) (ys:eS V) (H:Hp):Prop:=∃qs:eS Pr3,ys=refs qs/\qs.length=i/\G qs/\Prt H qs/\Same H1 H/\H D=ak @X
theorem FA {Z:eS Pr3->Prop} {H1 H G:Hp} {D t:ee} {i x y:Nat} {qs:@R} (ω:H1 D=f') (Y:qs.length=i) (pt:Prt H qs) (s:Same H1 H) (θ:H D=ak (!A (refs qs))) (L:!bm G) (et:G t=ak @cy) (hi:i < 1000) (pv:Z (qs++[(t,x,y)])):G D=ak (!A (refs qs))/\(refs qs).length < kf/\Cp Z H1 D @J (refs qs++[.ref t]) (!a1 G (refs qs++[.ref t])):=by
 refine⟨!aj θ,by rw[d6,Y];exact aO @A,qs++[(t,x,y)],by unfold refs;rw[dt];rfl,by rw[fD,Y];rfl,pv,λq α=>?_,λb ob e=>?_,ay⟩
 ·have O:G q.1=ak (!G [nat q.2.1,nat q.2.2]):=by
   rcases gz.mp α with h | h
   ·exact !aj (pt q h)
   ·rw[gs.mp h];exact et
  have n:q.1≠D:=λz=>by rw[z,L.get θ] at O;cases O
  rw[aH n];exact O
 ·rw[aH (!L ω)];exact !aj (s.get e)
theorem AU {G:eS Pr3->Prop} {H1:Hp} {D:ee} (ω:H1 D=f') (h:G []):Cp G H1 D 0 [] (!a1 H1 []):=⟨[],rfl,rfl,h,λ_ h=>(by cases h),bj ω,ay⟩
structure Lrl (H:Hp) (Dr Dl:ee) (ds es:M') (m:Nat) (nx os:@R):Prop where
 r:H Dr=ak (!A (ds.map V.ref))
 l:H Dl=ak (!A (es.map V.ref))
 dl:ds.length=(M.ldp @E @H m).length
 el:es.length=(M.lkp @E @H m).length
 da:∀(j:Nat) (d k:Nat),ds[j]? =ak d->(M.ldp @E @H m)[j]? =ak k->H d=ak (!a7 (M.upk m (2 ^ k) nx.length))
 ea:∀(j:Nat) (e k:Nat),es[j]? =ak e->(M.lkp @E @H m)[j]? =ak k->H e=ak (!G [nat (k / os.length),nat (k % os.length)])
noncomputable def less (H:Hp) (R:ee->Prop):Hp:=λb=>@ite _ (R b) (W4 _) f' (H b)
structure TwoA (H:Hp) (C p1 p2:ee) (m:Nat) (nx1 os1 nx2 os2:@R):Prop where
 a1:MaA H C p1 m nx1 os1
 g1:MaG m nx1 os1
 a2:MaA H C p2 m nx2 os2
 g2:MaG m nx2 os2
 lo:os1.length=os2.length
 l:nx1.length + nx2.length<=60
structure Fun2 (p1 o1 p2 o2:A') (m w t:Nat):Prop where
 hw:w < m
 ht:t<=p1.length + p2.length
 al:M.Al p1 o1 p2 o2 m t
 al':∀w',w' < w->M.sgl p1 o1 w' t=M.sgl p2 o2 w' t
 un:M.sgl p1 o1 w t≠M.sgl p2 o2 w t
noncomputable def sfq (rows:Cr) (x:Nat):Nat:=@dite _ (∃q,Sumd rows x q) (W4 _) (λh=>h.choose) λ_=>0
structure AlkA (H:Hp) (t Ds Db Du:ee) (ts bs us:M') (m:Nat) (p1 p2:A'):Prop where
 t:H t=ak (!G [.str "alike",.ref Ds,.ref Db,.ref Du])
 s:H Ds=ak (!A (ts.map V.ref))
 ls:ts.length=(M.prs2 p1 p2 m).length
 sa:∀(j:Nat) a,ts[j]? =ak a->H a=ak (!G [nat (M.lo p1.length ((M.prs2 p1 p2 m).getD j 0)),nat ((M.prs2 p1 p2 m).getD j 0>>>p1.length)])
 b:H Db=ak (!A (bs.map V.ref))
 lb:bs.length=m
 ba:∀(j:Nat) a,bs[j]? =ak a->H a=ak (!a7 (!aD (sfq (M.prs2 p1 p2 m) (M.tr2 (M.jn p1 p2) 0 @aR))))
 u:H Du=ak (!A (us.map V.ref))
 lu:us.length=(M.prs2 p1 p2 m).length
 ua:∀(j:Nat) a,us[j]? =ak a->H a=ak (!a7 (!aD (sfq (M.prs2 p1 p2 m) (M.tr2 (M.jn p1 p2) ((M.prs2 p1 p2 m).getD j 0) 0))))
def Ga:Sp:=λvs H Q _=>∃(r:ee) (rows:Cr) (wd:Nat),vs=[.ref r,nat wd]/\H r=ak (!A (rows.map nat))/\rows.length<=1000/\wd<=1000/\(∀r∈rows,r < 2 ^ wd)/\(@bo).length < 64/\
 ∀D H2,H D=f'->Same H H2->H2 D=ak (!a7 (M.acr rows wd))->Acr rows wd (M.acr rows wd)->Q @Z H2
structure Tldm (H:Hp) (D:ee) (ps:eS @bM) (m T:Nat):Prop where
 d:H D=ak @d3
 at':∀q∈ps,H q.1=ak (!a7 (M.upk m q.2 T))
 ne:∀q∈ps,q.1≠D
def IK:Sp:=λvs H Q _=>∃(t:ee) (x y n:Nat),vs=[.ref t,nat n]/\H t=ak @cy/\n<=120/\y < 2 ^ 64/\Q (nat (M.jd n (x,y))) H
noncomputable def swy (ps os:A') (m:Nat) (bars:Cr):Cr:=(M.fr ((M.acr (!br ps os) @bq).map (· % 2 ^ ps.length))).map λi=>(M.acr (!br ps os) @bq).getD i 0
theorem Q1 {ps os:A'} {m:Nat} {bars:Cr} (hn:@dc) (ψ:∀q∈ps++os,q.1 < 2 ^ ps.length) (hb:∀b∈bars,b < 2 ^ ps.length) (α:Acr (!br ps os) @bq (M.acr (!br ps os) @bq)):M.SWays ps os m bars (swy ps os m bars):=
 M.sways hn ψ hb α.lt α.ev α.all
def F2 (C:ee):Sp:=λvs H Q _=>∃(p D:ee) (m:Nat) (nx os:@R) (bars:Cr),vs=[.ref p,.ref D]/\MaA H C p m nx os/\MaG m nx os/\nx.length<=16/\H D=ak (!A (bars.map nat))/\bars.length<=100/\(∀b∈bars,b < 2 ^ nx.length)/\
 ∀(G:ee) (H2:Hp),H G=f'->Same H H2->H2 G=ak (!a7 (swy @E @H m bars))->M.SWays @E @H m bars (swy @E @H m bars)->Q @aJ H2
noncomputable def evj (ps os:A') (m:Nat):Nat->Cr×eS Nat
 | 0=>([],swy ps os m [])
 | j + 1=>(M.acr ((evj ps os m j).2.map (· % 2 ^ ps.length)) ps.length,swy ps os m (M.acr ((evj ps os m j).2.map (· % 2 ^ ps.length)) ps.length))
structure Fev (ps os:A') (m:Nat) (bars ways:Cr):Prop where
 ex:∃j,M.Slp ps os m j bars ways/\ps.length<=ways.length + bars.length
 un:∃j,(bars,ways)=evj ps os m j/\ps.length<=ways.length + bars.length/\∀i,i < j->(evj ps os m i).2.length + (evj ps os m i).1.length < ps.length
def IM (C:ee):Sp:=λvs H Q _=>∃(p:ee) (m:Nat) (nx os:@R),vs=[.ref p]/\MaA H C p m nx os/\MaG m nx os/\nx.length<=16/\
 ∀(t O L:ee) (H2:Hp) (bars G:Cr),Same H H2->H2 t=ak (!G [.ref O,.ref L])->H2 O=ak (!A (bars.map nat))->H2 L=ak (!A (G.map nat))->Fev @E @H m bars G->Q @a5 H2
theorem Fev.goes {ps os:A'} {m:Nat} {bars G:Cr} (f:Fev ps os m bars G) {w:Nat} (hw:w∈G):M.Span (G.map (· % 2 ^ ps.length)) (M.tr2 ps @cs @cx):=by
 obtain⟨j,S,h⟩:=f.ex;exact S.done h ((S.b _ (M.tr2_lt _ _ _)).mp (S.w.ev w hw).2)
theorem Fev.first {ps os:A'} {m:Nat} {bars G:Cr} (f:Fev ps os m bars G) {u:Nat} (hu:∀b∈bars,M.od @d9=false):M.Span (G.map (· % 2 ^ ps.length)) (M.tr2 ps 0 u):=by
 obtain⟨j,S,h⟩:=f.ex;exact S.done h ((S.b _ (M.tr2_lt _ _ _)).mp hu)
theorem Fev.tells {ps os:A'} {m:Nat} {bars G:Cr} (f:Fev ps os m bars G) (h0:∀u,u < 2 ^ m->M.tr2 os 0 u=0->(∀b∈bars,M.od @d9=false)->u=0) {rs:Cr} (hl:ps.length < rs.length) (L:∀r∈rs,r < 2 ^ m) (h:M.wan ps os 0 rs=hC rs.length 0):rs.getD 0 0=0:=by
 obtain⟨j,S,_⟩:=f.ex;exact M.not_silent S.le S.b h0 hl L h
noncomputable def fsts (ps os:A') (m:Nat) (bars:Cr):Cr:=M.acr (os.map (·.2)++bars.map (M.sm (ps.map (·.2)))) m
structure Nev (H H2:Hp) (t B S I L:ee) (ps os:A') (m u:Nat) (bars ways:Cr) (bq:Nat) (ls:eS @bM):Prop where
 ht:H2 t=ak (!G [.str "never",nat u,.ref B,.ref S,.ref I,.ref L])
 hb:H2 B=ak (!a7 (!aD bq))
 hs:H2 S=ak (!a7 (ways.map (· % 2 ^ ps.length)))
 hi:H2 I=ak (!a7 (ways.map (·>>>ps.length)))
 hl:H2 L=ak (!A (ls.map λq=>V.ref q.1))
 el:∀q∈ls,H2 q.1=ak (!a7 (!aD q.2))
 fB:H B=f'
 fS:H S=f'
 fI:H I=f'
 fL:H L=f'
 ne:[B,S,I,L].Nodup
 nl:∀q∈ls,q.1∉[B,S,I,L]
 fev:Fev ps os m bars ways
 hu:(fsts ps os m bars)[0]? =ak u
 u0:u≠0
 ul:u < 2 ^ m
 ev:M.tr2 os 0 u=0/\∀b∈bars,M.od @d9=false
 bs:Sumd (ways.map (· % 2 ^ ps.length)) (M.tr2 ps 0 u) bq
 ll:ls.length=ways.length
 ss:∀(k w:Nat) (q:@bM),ways[k]? =ak w->ls[k]? =ak q->Sumd (ways.map (· % 2 ^ ps.length)) (M.tr2 ps @cs @cx) q.2
def F8 (C:ee):Sp:=λvs H Q _=>∃(p:ee) (m:Nat) (nx os:@R),vs=[.ref p]/\MaA H C p m nx os/\MaG m nx os/\nx.length<=16/\
 (∀(H2:Hp) (bars G:Cr),Same H H2->Fev @E @H m bars G->(∀u,u < 2 ^ m->M.tr2 @H 0 u=0->(∀b∈bars,M.od (b&&&M.tr2 @E 0 u)=false)->u=0)->Q .non H2)/\
 (∀(H2:Hp) (t B S I L:ee) (u:Nat) (bars G:Cr) (O:Nat) (ls:eS @bM),Same H H2->Nev H H2 t B S I L @E @H m u bars G O ls->Q @a5 H2)
end Sx
namespace M
theorem DI (w:Nat) (b:Cr):∀a:Cr,pkw w (a++b)=pkw w a^^^(pkw w b <<< (a.length * w))
 | []=>by show pkw w b=0^^^(pkw w b <<< (0 * w));simp
 | q::a=>by
   show q^^^(pkw w (a++b) <<< w)=q^^^(pkw w a <<< w)^^^(pkw w b <<< ((a.length + 1) * w));rw[DI w b a,Dm,U7,<-ae1,Wu,Wt]
theorem DH (w:Nat):∀t,pkw w (hC t 0)=0
 | 0=>rfl
 | t + 1=>by show 0^^^(pkw w (hC t 0) <<< w)=0;rw[DH w t];simp
theorem Fc (w:Nat) (l:Cr) (t:Nat):pkw w (hC t 0++l)=pkw w l <<< (t * w):=by
 rw[DI,DH,X6,w5]
theorem MD {w:Nat} {l:Cr} (hb:∀p∈l,p < 2 ^ w) {k:Nat} (hk:k<=l.length):pkw w (l.take k)=pkw w l % 2 ^ (k * w):=by
 have h:=DI w (l.drop k) (l.take k);rw[WI,pa,WA hk] at h
 have hl:pkw w (l.take k) < 2 ^ (k * w):=by
  have:=pkw_lt (w:=w) (ps:=l.take k) λp G=>hb p (aa7 G);rwa [pa,WA hk] at this
 rw[h];exact(Oi hl).symm
theorem GA (i n:Nat):pulse i (n + 1)=2 ^ i::hC n 0:=by
 rw[<-pulse_eq,List.take_succ_cons,List.take_replicate,WA @A]
theorem Jw (w i:Nat) {T:Nat} (hT:0 < T):pkw w (pulse i T)=2 ^ i:=by
 obtain⟨n,rfl⟩:∃n,T=n + 1:=⟨T - 1,@A⟩;rw[GA];show 2 ^ i^^^(pkw w (hC n 0) <<< w)=2 ^ i;rw[DH];simp
theorem OT {m t i T:Nat} (hi:i < m) (ht:t < T):upk m (2 ^ (t * m + i)) T=hC t 0++pulse i (T - t):=by
 have h:pkw m (hC t 0++pulse i (T - t))=2 ^ (t * m + i):=by
  rw[Fc,Jw m i @A,VD,<-X5,XF]
 rw[<-h];refine C6 (by rw[fD,w5,pulse_len];omega) λr G=>?_;rcases gz.mp G with h | h
 ·rw[VN h];exact mm _
 ·exact pulse_lt hi _ r h
section
variable {ps os:A'} {m T:Nat}
theorem QV {t i:Nat} (hi:i < m) (ht:t < T):(tol ps os m T).getD (t * m + i) 0=(pkw os.length (!av 0 (pulse i T)) <<< (t * os.length)) % 2 ^ @cj:=by
 have hk:t * m + i < T * m:=by
  have:=VA m (show t + 1<=T from ht);rw[Wu,Wt] at this;omega
 unfold tol;rw[dm,hH,Vt hk];show pkw os.length (!av 0 (upk m (2 ^ (t * m + i)) T))=_;rw[OT hi ht,ET,Fc,<-Gz (n:=T) (k:=T - t) @A,zK,MD (λp G=>wan_lt ps os _ 0 p G) (by rw[wan_len,pulse_len];omega)];rw[VD,VD,<-Nat.mul_mod_mul_right,<-X5];congr 2;rw[<-Wu];congr 1;omega
theorem LX {l:Cr} {a b:Nat} (h:a + b<=l.length):l.take (a + b)=l.take a++(kv b).map λi=>l.getD (a + i) 0:=by
 rw[List.take_add];congr 1;refine ae4 (by rw[pa,WB,aI,qQ];omega) λi h1 h2=>?_;rw[aI,qQ] at h2;rw[YR,List.getElem_drop,XS,ac7,dm,ef @A];rfl
theorem tol_next {t:Nat} (ht:t < T):(tol ps os m T).take ((t + 1) * m)=(tol ps os m T).take (t * m)++(kv m).map λi=>(pkw os.length (!av 0 (pulse i T)) <<< (t * os.length)) % 2 ^ @cj:=by
 have hk:t * m + m<=T * m:=by
  have:=VA m (show t + 1<=T from ht);rw[Wu,Wt] at this;exact this
 rw[Wu,Wt,LX (by rw[tol_len];exact hk)];congr 1;refine Vc λi hi=>?_;exact QV (wh.mp hi) ht
end
end M
namespace Sx
open PySem L2
def F4 (C:ee):Sp:=λvs H Q _=>∃(p:ee) (m:Nat) (nx os:@R) (T:Nat),vs=[.ref p,nat T]/\MaA H C p m nx os/\MaG m nx os/\T<=17/\
 ∀(D:ee) (H2:Hp),H D=f'->Same H H2->H2 D=ak (!a7 (M.tol @E @H m T))->Q @Z H2
end Sx
namespace M
theorem frs_set {rows:Cr} {i q:Nat} (h:Frs (rows.set i 0) q):q.testBit i=false:=by
 cases G:q.testBit i with
 | false=>rfl
 | true=>
   obtain⟨hi,hn⟩:=h i G;rw[WW] at hi;exfalso;apply hn;rw[dm,Y7 hi];exact og _
theorem tol_lt {ps os:A'} {m T:Nat}:∀x∈tol ps os m T,x < 2 ^ @cj:=λx G=>by
 unfold tol at G;obtain⟨k,_,rfl⟩:=hD.mp G;have:=pkw_lt (w:=os.length) (ps:=wan ps os 0 (upk m (2 ^ k) T)) λy L=>wan_lt ps os _ 0 y L;rwa [wan_len,upk_len] at this
theorem getD_lt' {l:Cr} {W:Nat} (h:∀x∈l,x < 2 ^ W) (i:Nat):l.getD i 0 < 2 ^ W:=by
 rw[dm];cases e:l[i]? with
 | none=>exact mm _
 | some x=>exact h x (eH e)
theorem set_lt {l:Cr} {W i:Nat} (h:∀x∈l,x < 2 ^ W):∀x∈l.set i 0,x < 2 ^ W:=λx G=>by
 rcases List.mem_or_eq_of_mem_set G with e | e
 ·exact h x e
 ·rw[e];exact mm _
end M
namespace Sx
open PySem L2
def Osm (ps os:A') (m d i:Nat):Prop:=M.Span ((!b1 ps os m).set i 0) ((!b1 ps os m).getD i 0)
def Slt (ps os:A') (m d:Nat) (rs:Cr):Prop:=∃i q,i < m/\(∀k,k < i->¬Osm ps os m d k)/\Sumd ((!b1 ps os m).set i 0) ((!b1 ps os m).getD i 0) q/\rs=M.upk m (q^^^2 ^ i) @a4
theorem Slt.osm {ps os:A'} {m d:Nat} {rs:Cr} (h:Slt ps os m d rs):∃i,i < m/\Osm ps os m d i:=by
 obtain⟨i,q,hi,hb,sd,rfl⟩:=h;exact⟨i,hi,by unfold Osm;rw[<-sd.sm];exact M.sm_span _ _⟩
theorem Slt.rows {ps os:A'} {m d:Nat} {rs:Cr} (h:Slt ps os m d rs):rs.length=d + 1/\(∀r∈rs,r < 2 ^ m)/\M.wan ps os 0 rs=hC @a4 0/\rs.getD 0 0≠0:=by
 obtain⟨i,q,hi,hb,sd,rfl⟩:=h;have lt:=sd.lt;rw[WW,M.tol_len] at lt;have s:=M.silent_of (ps:=ps) (os:=os) (m:=m) (T:=d + 1) @A hi lt (M.frs_set sd.fr) sd.sm;refine⟨M.upk_len _ _ _,M.upk_lt _ _ _,s.1,λz=>?_⟩;have:=s.2;rw[z,V3] at this;cases this
theorem SB {ps os:A'} {m d:Nat} {G:Cr} (hl:G.length=m) (h:∀(i μ:Nat),G[i]? =ak μ->Bard ((!b1 ps os m).set i 0) ((!b1 ps os m).getD i 0) μ):M.Mks ps os m d G:=
 ⟨hl,λi μ e=>(h i μ e).lt _ (M.set_lt M.tol_lt) (M.getD_lt' M.tol_lt i),λi μ e=>(h i μ e).ev,λi μ e=>(h i μ e).odd⟩
def Iw (C:ee):Sp:=λvs H Q _=>∃(p:ee) (m:Nat) (nx os:@R) (d:Nat),vs=[.ref p,nat d]/\MaA H C p m nx os/\MaG m nx os/\d<=16/\@a4 * os.length < 64/\
 (∀(t D:ee) (H2:Hp) (rs:Cr),H D=f'->Same H H2->H2 t=ak (!G [.str "silent",.ref D])->H2 D=ak (!A @b2)->Slt @E @H m d rs->Q @a5 H2)/\
 (∀(t D:ee) (H2:Hp) (G:Cr),H D=f'->Same H H2->H2 t=ak (!G [.str "masks",.ref D])->H2 D=ak (!A (G.map nat))->M.Mks @E @H m d G->(∀i,i < m->¬Osm @E @H m d i)->Q @a5 H2)
def Iu (C:ee):Sp:=λvs H Q _=>∃(p:ee) (m:Nat) (nx os:@R) (d μ:Nat),vs=[.ref p,nat d,nat μ]/\MaA H C p m nx os/\MaG m nx os/\nx.length<=16/\d<=16/\@a4 * os.length < 64/\μ < 2 ^ @bt/\
 ∀(t:ee) (H2:Hp),Same H H2->H2 t=ak (!bC (M.tel @E @H d μ) (M.tel @E @H d μ))->Q @a5 H2
end Sx
namespace M
section
variable {ps os:A'} {d m:Nat}
theorem QW (ψ:∀q∈ps++os,q.1 < 2 ^ ps.length) {μ:Nat} (G:μ < 2 ^ @bt):(tel ps os d μ).1 < 2 ^ @dA/\(tel ps os d μ).2 < 2 ^ os.length:=by
 constructor
 ·refine !bl (!a6 (HR ψ μ @a4)) ?_;rw[VD,XF ps.length,X5];exact Zo (Y0 _ @az) @az
 ·show μ>>>@cw < _;rw[tu,Yg @az,<-X5];rw[Wu,Wt] at G;rwa [XF os.length]
theorem telO_lt (ψ:∀q∈ps++os,q.1 < 2 ^ ps.length) {G:Cr} (L:∀μ∈G,μ < 2 ^ @bt):∀q∈telO ps os d G,q.1 < 2 ^ @dA/\q.2 < 2 ^ os.length:=λq O=>by
 obtain⟨μ,h,rfl⟩:=hD.mp O;exact QW ψ (L μ h)
theorem telP_lt (ψ:∀q∈ps++os,q.1 < 2 ^ ps.length) {G:Cr} (O:∀μ∈G,μ < 2 ^ @bt):∀q∈telP ps os d G,q.1 < 2 ^ @dA/\q.2 < 2 ^ os.length:=λq L=>by
 have hO:=telO_lt ψ O;rcases gz.mp L with h | h
 ·obtain⟨r,Z,rfl⟩:=hD.mp h;refine⟨!bl (!a6 (ψ r (!N Z))) (sm_lt _ λx Y=>?_),sm_lt _ λx Y=>?_⟩
  ·obtain⟨q,L,rfl⟩:=hD.mp Y;exact(hO q L).1
  ·obtain⟨q,L,rfl⟩:=hD.mp Y;exact(hO q L).2
 ·rcases gz.mp h with h | h
  ·obtain⟨j,α,rfl⟩:=hD.mp h;have:=wh.mp α;exact⟨U8 @D @A,mm _⟩
  ·by_cases hd:0 < d
   ·rw[oL hd] at h;obtain⟨k,hk,rfl⟩:=hD.mp h;exact⟨mm _,U8 @D (wh.mp hk)⟩
   ·rw[mu hd] at h;cases h
end
end M
namespace Sx
open PySem L2
def Mn:Sp:=λvs H Q _=>∃(t D:ee) (x y:Nat) (ts:@R),vs=[.ref t,.ref D]/\H t=ak @cy/\H D=ak (!A (refs ts))/\Prt H ts/\ts.length<=6/\y < 2 ^ ts.length/\
 ∀(φ:ee) (H2:Hp),Same H H2->H2 φ=ak (!bC (M.fol (prs ts) (x,y)) (M.fol (prs ts) (x,y)))->Q (!j φ) H2
def IJ (C:ee):Sp:=λvs H Q _=>∃(p:ee) (m:Nat) (nx os:@R) (d:Nat),vs=[.ref p,nat d]/\MaA H C p m nx os/\MaG m nx os/\nx.length<=16/\d<=16/\@a4 * os.length < 64/\
 ∀(D:ee) (H2:Hp) (ks:@R),H D=f'->Same H H2->H2 D=ak (!A (refs ks))->Prt H2 ks->prs ks=M.kpt @E @H d->Q @Z H2
def Iv (C:ee):Sp:=λvs H Q _=>∃(p D:ee) (m:Nat) (nx os:@R) (d:Nat) (G:Cr),vs=[.ref p,nat d,.ref D]/\MaA H C p m nx os/\MaG m nx os/\nx.length<=16/\d<=16/\@a4 * os.length < 64/\H D=ak (!A (G.map nat))/\M.Mks @E @H m d G/\
 ∀(x:ee) (H2:Hp) (ζ L:@R),Same H H2->MaA H2 C x os.length ζ L->MaG os.length ζ L->prs ζ=M.telP @E @H d G->prs L=M.telO @E @H d G->Q (!j x) H2
structure Bck (ps os:A') (m d:Nat) (μs rs:Cr):Prop where
 mks:M.Mks ps os m d μs
 le:d<=ps.length
 no:∀i,i < m->¬Osm ps os m d i
 yes:∀k,k < d->∃i,i < m/\Osm ps os m k i
 rows:(d=0/\rs=[])∨∃k,d=k + 1/\Slt ps os m k rs
def F1 (C:ee):Sp:=λvs H Q _=>∃(p:ee) (m:Nat) (nx os:@R),vs=[.ref p]/\MaA H C p m nx os/\MaG m nx os/\nx.length<=16/\(nx.length + 1) * os.length < 64/\
 (∀(H2:Hp) (t B S I L:ee) (u:Nat) (bars Y:Cr) (Z:Nat) (ls:eS @bM),Same H H2->Nev H H2 t B S I L @E @H m u bars Y Z ls->Q @a5 H2)/\
 (∀(t x D:ee) (H2:Hp) (d:Nat) (ζ O:eS Pr3) (G rs:Cr),H D=f'->Same H H2->H2 t=ak (!G [.str "back",nat d,.ref x,.ref D])->H2 D=ak (!A @b2)->MaA H2 C x os.length ζ O->MaG os.length ζ O->prs ζ=M.telP @E @H d G->prs O=M.telO @E @H d G->Bck @E @H m d G rs->Q @a5 H2)
def TbI (H:Hp) (p:ee) (nx os:@R) (m d:Nat) (σ:St) (H':Hp):Prop:=∃(ν t D:ee) (rs:Cr),σ=[ak @P,ak .non,ak (!j ν),ak (nat d),ak @a5]/\d<=nx.length/\Same H H'/\H ν=f'/\H' ν=ak (!A @b2)/\((d=0/\rs=[])∨∃k,d=k + 1/\Slt @E @H m k rs)/\(∀k,k < d->∃i,i < m/\Osm @E @H m k i)/\H D=f'/\
 ((∃L,H' t=ak (!G [.str "silent",.ref D])/\H' D=ak (!A (L.map nat))/\Slt @E @H m d L/\d < nx.length)∨(∃G,H' t=ak (!G [.str "masks",.ref D])/\H' D=ak (!A (G.map nat))/\M.Mks @E @H m d G/\∀i,i < m->¬Osm @E @H m d i))
theorem NX {ps os:A'} {m d:Nat} {rs bars G:Cr} (s:Slt ps os m d rs) (fv:Fev ps os m bars G) (h0:∀u,u < 2 ^ m->M.tr2 os 0 u=0->(∀b∈bars,M.od @d9=false)->u=0):d < ps.length:=by
 obtain⟨hl,hb,hw,hn⟩:=s.rows;by_cases h:d < ps.length
 ·exact h
 ·exact hF (fv.tells h0 @A hb (by rw[hl];exact hw)) hn
theorem JW {c:Int} {Z α:Nat} {rows sums:@bc} {sts:eS (lA×lA)} {outs:C'} (m:Mk c Z α rows) (h1:Z<=3) (h2:α<=12) (h3:rows.length<=12) (ξ:sums.Perm rows) (hs:sts.map (·.1)=nms c 6 α) (φ:outs.length<=6)
  (ht:∀q∈sts,q.2∈nms c 0 Z++nms c 6 α++nms c 22 rows.length) (ho:∀z∈outs,z∈nms c 0 Z++nms c 6 α++nms c 22 rows.length):Gn ⟨nms c 0 Z,sums,sts,outs⟩:=by
 have pn:(sums.map (·.1)).Perm (!bF c 22):=by rw[<-m.nm];exact ξ.map _
 have ι:∀z,z∈nms c 0 Z++nms c 6 α++nms c 22 rows.length->z∈Nt.names ⟨nms c 0 Z,sums,sts,outs⟩:=λz hz=>by
  unfold Nt.names;show z∈nms c 0 Z++sums.map (·.1)++sts.map (·.1);rw[hs];rcases gz.mp hz with h | h
  ·rcases gz.mp h with h | h
   ·exact !N (!N h)
   ·exact !Q h
  ·exact !N (!Q (pn.mem_iff.mpr h))
 have L:sts.length=α:=by have:=px zz hs;rw[aI,fg] at this;exact this
 have Y:∀r∈sums,∃k,rows[k]? =ak r:=λr γ=>wq.mp (ξ.mem_iff.mp γ)
 have ν:∀z∈Nt.names ⟨nms c 0 Z,sums,sts,outs⟩,∃k:Nat,k < 40/\z=nmf c (k:Int):=λz hz=>by
  unfold Nt.names at hz;have hz:z∈nms c 0 Z++sums.map (·.1)++sts.map (·.1):=hz;rw[hs] at hz;rcases gz.mp hz with h | h
  ·rcases gz.mp h with h | h
   ·obtain⟨k,hk,e⟩:=oH h;exact⟨_,@A,e⟩
   ·obtain⟨k,hk,e⟩:=oH (!bO h);exact⟨_,@A,e⟩
  ·obtain⟨k,hk,e⟩:=oH h;exact⟨_,@A,e⟩
 have β:∀(a n:Nat),a + n<=40->(nms c a n).Nodup:=λa n h=>by
  unfold nms;refine YQ.mpr (YL (λ{i j} hi ζ ρ=>?_) Y6);intro e;have:=Ai c (show a + i < 40 by have:=wh.mp hi;omega) (show a + j < 40 by have:=wh.mp ζ;omega) e;omega
 have χ:∀{a n b k:Nat},a + n<=40->b + k<=40->a + n<=b->∀x∈nms c a n,∀y∈nms c b k,x≠y:=λh1 h2 h3 x θ y η e=>by
  obtain⟨i,hi,rfl⟩:=oH θ;obtain⟨j,ζ,rfl⟩:=oH η;have:=Ai c @A @A e;omega
 refine⟨by show(nms c 0 Z).length<=6;rw[fg];omega,by show sums.length<=40;rw[ξ.length_eq];omega,by show sts.length<=16;omega,φ,λr γ=>?_,λz hz=>?_,?_,λr γ z hz=>?_,λr γ=>ι _ (ht r γ),λz hz=>ι _ (ho z hz),?_⟩
 ·obtain⟨k,hk⟩:=Y r γ;have:=(m.ws k r hk).1;omega
 ·obtain⟨k,hk,rfl⟩:=ν z hz;exact Su c @A @A
 ·unfold Nt.names;show(nms c 0 Z++sums.map (·.1)++sts.map (·.1)).Nodup;rw[hs,UK,UK];refine⟨⟨β _ _ @A,pn.nodup_iff.mpr (β _ _ @A),λx θ y η=>χ @A @A @A x θ y (!bO η)⟩,β _ _ @A,λx θ y η=>?_⟩;rcases gz.mp θ with h | h
  ·exact χ @A @A @A x h y η
  ·exactλe=>χ (a:=6) (n:=α) (b:=22) (k:=rows.length) @A @A @A y η x (!bO h) e.symm
 ·obtain⟨k,hk⟩:=Y r γ;have ο:=(@b5).1;refine ι z ?_;rcases gz.mp ((m.ws k r hk).2 z hz) with h | h
  ·exact !N h
  ·obtain⟨j,ζ,rfl⟩:=oH h;exact !Q (Sr @A)
 ·refine⟨λz=>(!bF c 22).idxOf z,λr γ z hz δ=>?_⟩;obtain⟨k,hk⟩:=Y r γ;have ο:=(@b5).1;have O:(!bF c 22)[k]? =ak r.1:=by rw[<-m.nm,hH,hk];rfl
  have nd:=β 22 rows.length @A
  have G:∀(j:Nat) y,(!bF c 22)[j]? =ak y->(!bF c 22).idxOf y=j:=λj y ζ=>by
   obtain⟨ω,ψ⟩:=a'.mp ζ;rw[<-ψ];exact nd.idxOf_getElem j ω
  obtain⟨j,ζ,π⟩:=oH (!bO δ)
  have ε:j < k:=by
   rcases gz.mp ((m.ws k r hk).2 z hz) with h | h
   ·exfalso;rcases gz.mp h with h | h
    ·exact χ (a:=0) (n:=Z) (b:=22) (k:=rows.length) @A @A @A z h z (!bO δ) rfl
    ·exact χ (a:=6) (n:=α) (b:=22) (k:=rows.length) @A @A @A z h z (!bO δ) rfl
   ·obtain⟨τ,υ,e'⟩:=oH h;have:=Ai c (show 22 + j < 40 by omega) (show 22 + τ < 40 by omega) (π.symm.trans e');omega
  have ez:(!bF c 22)[j]? =ak z:=by unfold nms;rw[hH,Vt ζ,π];rfl
  show(!bF c 22).idxOf z < (!bF c 22).idxOf r.1;rw[G j z ez,G k r.1 O];exact ε
end Sx
namespace M
theorem HS (rows:Cr):∀(l:Cr) (a:Nat),l.foldl @dx a=a^^^xs rows l
 | [],a=>by unfold xs;simp
 | k::l,a=>by
   rw[XG,HS rows l,show xs rows (k::l)=0^^^rows.getD k 0^^^xs rows l from HS rows l _,X6,U7]
theorem xs_cons (rows:Cr) (k:Nat) (l:Cr):xs rows (k::l)=rows.getD k 0^^^xs rows l:=by
 rw[show xs rows (k::l)=0^^^rows.getD k 0^^^xs rows l from HS rows l _,X6]
theorem xs_erase {rows:Cr}:∀{l:Cr} {j k:Nat},l[j]? =ak k->xs rows @ct=xs rows l^^^rows.getD k 0
 | [],_,_,h=>by simp at h
 | x::l,0,k,h=>by
   have:x=k:=by simpa using h
   subst this;rw[List.eraseIdx_cons_zero,xs_cons,Xj,<-U7,Wc,X6]
 | x::l,j + 1,k,h=>by
   rw[List.eraseIdx_cons_succ,xs_cons,xs_cons,xs_erase (l:=l) (j:=j) (by simpa using h),U7]
theorem xs_tr2 (qs:A') (S I:Cr) (hl:S.length=I.length):∀l:Cr,tr2 qs (xs S l) (xs I l)=xs (Vp (tr2 qs) S I) l
 | []=>jz qs
 | k::l=>by
   rw[xs_cons,xs_cons,xs_cons,TU,xs_tr2 qs S I hl l];congr 1;rw[dm,dm,dm,WJ];by_cases h:k < S.length
   ·rw[ef h,ef @A];rfl
   ·rw[w8 @A,w8 @A];exact jz qs
theorem xs_none {rows:Cr} (h:∀k,rows.getD k 0=0):∀l:Cr,xs rows l=0
 | []=>rfl
 | k::l=>by rw[xs_cons,h,xs_none h l,Wc]
theorem nodup_erase {l:Cr} (h:l.Nodup) (j:Nat):(@ct).Nodup:=h.sublist (List.eraseIdx_sublist l j)
end M
namespace Sx
open PySem L2
def IH (K:b'):Sp:=λvs H Q _=>∃(p:ee) (ns:P') (st mo:Nat),vs=[.ref p,nat st,nat mo]/\SqL K H p @ar/\st<=900/\mo<=12/\∀(t i s u o:ee) (H2:Hp) (rs:eS Rw) (qs:eS Qs) (N:Nt),Same H H2->H2 t=ak (!G [.ref i,.ref s,.ref u,.ref o])->Hnd H2 i s u o rs qs N->Gn N->N.ins.length<=3->N.sums.length<=mo->N.sts.length<=mo->N.outs.length<=3->Q @a5 H2
theorem Pt {K:b'} {H:Hp} {Q:VK} {p:ee} {l:Cr} {x:Nat} (e:!au (!A (l.map nat))) (h:Q (.bl (decide (x∈l))) H):rIn K false (nat x) @P H Q:=by
 refine⟨p,_,rfl,!J (!ag e),rfl,sk l,?_⟩
 have:inV (nat x) (l.map nat)=decide (x∈l):=by
  unfold inV;rw[ah7,VI,WC,W1];constructor
  ·rintro⟨y,G,h⟩;have hi:((y:Nat):Int)=x:=by simpa[eqV] using h
   have:y=x:=Int.ofNat.inj hi;exact this ▸ G
  ·exactλh=>⟨x,h,by simp[eqV]⟩
 rw[show(if false=true then !inV (nat x) (l.map nat) else inV (nat x) (l.map nat))=decide (x∈l) from this];exact h
def Dg (C:ee):Sp:=λvs H Q _=>∃(p r:ee) (m:Nat) (nx os:@R) (rs:Cr),vs=[.ref p,.ref r]/\MaA H C p m nx os/\MaG m nx os/\H r=ak (!A @b2)/\rs.length<=63/\(∀x∈rs,x < 2 ^ m)/\∀(D:ee) (H2:Hp),H D=f'->Same H H2->H2 D=ak (!a7 (M.wan @E @H 0 rs))->Q @Z H2
def Df:Sp:=λvs H Q _=>∃(Y:Hp) (t B S I L:ee) (u:Nat) (bars G:Cr) (O:Nat) (ls:eS @bM) (ps os:A') (m:Nat),vs=[.ref t,nat 20]/\Nev Y H t B S I L ps os m u bars G O ls/\ps.length<=16/\m<=16/\
 ∀(D:ee) (H2:Hp) (rs:Cr),H D=f'->Same H H2->H2 D=ak (!A @b2)->rs.length=20->rs[0]? =ak u->(∀r∈rs,r < 2 ^ m)->M.wan ps os 0 rs=hC 20 0->Q @Z H2
inductive Scl:V->U'->Prop where
 | str (z:lA) (l:z.length<=1000):Scl @ao "str"
 | int (i:Int):Scl (.int i) "int"
 | bl (b:US):Scl (.bl b) "bool"
 | non:Scl .non "NoneType"
structure Hnd2 (H:Hp) (i s t o:ee) (rs:eS Rw) (qs:eS Qs) (N:Nt):Prop where
 i:H i=ak (!A @cp)
 s:H s=ak (!A @bv)
 sr:∀r∈rs,H r.1=ak @bP/\(H r.2.1=ak (!A @bx)∨H r.2.1=ak (!G @bx))
 es:rs.map (·.2.2)=N.sums
 t:H t=ak (!A @cE)
 tr:∀q∈qs,H q.1=ak @cS
 et:qs.map (·.2)=N.sts
 o:H o=ak (!A @cA)
inductive Thg (H:Hp):V->U'->Prop where
 | sc {v:V} {k:U'} (s:Scl v k):Thg H v k
 | nil {p:ee} (e:!au (!A [])):Thg H @P "list"
inductive Cpy (H H2:Hp):V->V->Prop where
 | sc {v:V} {k:U'} (s:Scl v k):Cpy H H2 v v
 | nil {p p2:ee} (e:!au (!A [])) (e2:H2 p2=ak (!A [])):Cpy H H2 @P (!j p2)
inductive Thg2 (H:Hp):V->U'->Prop where
 | sc {v:V} {k:U'} (s:Scl v k):Thg2 H v k
 | nil {p:ee} (e:!au (!A [])):Thg2 H @P "list"
 | one {p:ee} {z:lA} (l:z.length<=1000) (e:!au (!G [.str z])):Thg2 H @P "tuple"
inductive Cpy2 (H H2:Hp):V->V->Prop where
 | sc {v:V} {k:U'} (s:Scl v k):Cpy2 H H2 v v
 | nil {p p2:ee} (e:!au (!A [])) (e2:H2 p2=ak (!A [])):Cpy2 H H2 @P (!j p2)
 | one {p p2:ee} {z:lA} (e:!au (!G [.str z])) (e2:H2 p2=ak (!G [.str z])):Cpy2 H H2 @P (!j p2)
noncomputable def cz (w:lA) (q:@bB) (x:lA):Nat×Nat:=if x=w then (0,0) else q x
structure CutP (N:Nt) (w:lA) (q:@bB):Prop where
 i:∀(k:Nat) z,N.ins[k]? =ak z->q z=(0,2 ^ k)
 t:∀(k:Nat) z y,N.sts[k]? =ak (z,y)->q z=(2 ^ k,0)
 s:∀z ws,(z,ws)∈N.sums->q z=(xf (λx=>(cz w q x).1) ws,xf (λx=>(cz w q x).2) ws)
noncomputable def ext (f:lA) (q:@bB) (z:lA):Nat×Nat:=if z=f then (0,0) else q z
noncomputable def frn (k:Nat):Str:=("c":lA)++tx k
theorem C9 {x y:lA} (h:x.cps.toList=y.cps.toList):x=y:=by cases x;cases y;congr 1;exact Array.toList_inj.mp h
theorem vV (x y:lA):(x++y).cps.toList=x.cps.toList++y.cps.toList:=by
 show(x.cps++y.cps).toList=_;rw[aa8]
theorem zO (x y:lA):(x++y).length=x.length + y.length:=by
 show(x.cps++y.cps).size=_;rw[Array.size_append];rfl
theorem PM (z:lA):("in ":lA)++z=rowT [("in":lA),z]:=C9 (by
 unfold rowT;rw[vV,oO,show("in ":lA).cps.toList=("in":lA).cps.toList++[32] by decide +kernel];simp[J])
theorem Mw (z:lA):("out ":lA)++z=rowT [("out":lA),z]:=C9 (by
 unfold rowT;rw[vV,oO,show("out ":lA).cps.toList=("out":lA).cps.toList++[32] by decide +kernel];simp[J])
theorem Gm (z w:lA):("store ":lA)++z++(" = ":lA)++w=rowT [("store":lA),z,("=":lA),w]:=C9 (by
 unfold rowT;rw[vV,vV,vV,oO,show("store ":lA).cps.toList=("store":lA).cps.toList++[32] by decide +kernel,show(" = ":lA).cps.toList=32::(("=":lA).cps.toList++[32]) by decide +kernel];simp[J])
structure Dl (rows R:eS C') (l0 l1 l2 l3:eS C'):Prop where
 k0:R.filter (kd "in")++l0=rows.filter (kd "in")
 k1:R.filter (kd "sum")++l1=rows.filter (kd "sum")
 k2:R.filter (kd "store")++l2=rows.filter (kd "store")
 k3:R.filter (kd "out")++l3=rows.filter (kd "out")
 fm:∀r∈R,Fm r
 len:R.length + (l0.length + l1.length + l2.length + l3.length)=rows.length
end Sx
namespace My
open PySem L2 Sx
local macro_rules | `(tactic| walk_at "o") =>`(tactic| first | exact X4 rfl | exact WU rfl)
local macro_rules | `(tactic| walk_at "s") =>`(tactic| exact ⟨rfl,rfl,rfl,by decide +kernel,rfl,by decide +kernel,by decide +kernel⟩)
local macro_rules | `(tactic| walk_at "n") =>`(tactic| (intro vs H Q E h;repeat (first | (obtain ⟨e,_⟩:=h;subst e;rfl) | (obtain ⟨_,h⟩:=h))))
local macro_rules | `(tactic| walk_at "l2side") =>`(tactic| first | assumption | rfl | omega | decide | ((try dsimp only [CDiv,UE,CPow,CMul]);first | omega | decide | (refine (⟨?_,?_⟩)<;>first | omega | decide) | (refine (⟨?_,?_,?_⟩)<;>first | omega | decide) | (left;refine (⟨?_,?_⟩)<;>first | omega | decide) | (right;refine (⟨?_,?_⟩)<;>first | omega | decide)))
local macro_rules | `(tactic| walk_at "l2len") =>`(tactic| ((with_reducible show _ + _≤kf);first | assumption | (rw [ix];omega) | omega))
local macro_rules | `(tactic| walk_at "l2at") =>`(tactic| first | assumption | exact ay | (refine' Same.get (by assumption) ?h;(case h=>walk_at "l2at")))
local macro_rules | `(tactic| walk_at "l2hp") =>`(tactic| first | walk_at "l2at")
local macro_rules | `(tactic| walk_at "l2hp") =>`(tactic| first | (refine' Same.tup (by assumption) ?h;(case h=>walk_at "l2hp")) | (refine' Rep.same (by assumption) ?h;(case h=>walk_at "l2hp")))
local macro_rules | `(tactic| walk_at "l2hp") =>`(tactic| first | assumption | (refine' SqL.of ?h;(case h=>walk_at "l2at")) | (refine' SqT.of ?h;(case h=>walk_at "l2at")) | (refine' Same.seq (by assumption) ?h;(case h=>walk_at "l2hp")))
local macro_rules | `(tactic| walk_at "l2kind") =>`(tactic| first | assumption | exact rfl | (refine' X4 ⟨rfl,_,?e⟩;(case e=>walk_at "l2hp")) | (refine' WU (X4 ⟨rfl,_,?e⟩);(case e=>walk_at "l2hp")) | (refine' WU (WU ⟨rfl,_,X4 ?e⟩);(case e=>walk_at "l2hp")))
local macro_rules | `(tactic| walk_at "l2step") =>`(tactic| first | ((with_reducible refine' s_go ?e ?_);(case e=>assumption)))
local macro_rules | `(tactic| walk_at "l2step") =>`(tactic| first | (with_reducible refine(⟨_,rfl,?_⟩)) | (with_reducible refine(⟨rfl,?_⟩)) | ((with_reducible refine' (⟨⟨_,?e⟩,?_⟩));(case e=>walk_at "l2hp")))
local macro_rules | `(tactic| walk_at "l2step") =>`(tactic| first | (with_reducible refine(⟨_,_,rfl,rfl,?_⟩);(with_reducible refine(⟨?l,?_⟩));(case l=>walk_at "l2len")) | (with_reducible refine(⟨_,_,rfl,rfl,?_⟩)) | (with_reducible refine X4 ⟨_,rfl,?_⟩) | (with_reducible refine WU ⟨_,rfl,?_⟩))
local macro_rules | `(tactic| walk_at "l2step") =>`(tactic| first | (with_reducible refine RH ?_) | ((with_reducible refine' rE ?e ?_);(case e=>first | rfl | decide | assumption)) | ((with_reducible refine' jW ?e ?_);(case e=>first | rfl | decide | assumption)) | ((with_reducible refine' Mt ?a ?b ?_);(case a=>omega);(case b=>omega)))
local macro_rules | `(tactic| walk_at "l2step") =>`(tactic| first | (with_reducible refine Py ?_) | (with_reducible refine s_intB ?_) | (with_reducible refine s_inS ?_) | ((with_reducible refine' s_addS ?e ?_);(case e=>walk_at "l2side")))
local macro_rules | `(tactic| walk_at "l2step") =>`(tactic| first | (with_reducible refine RD ?_) | (with_reducible refine Ue ?_) | (with_reducible refine T4 ?_) | (with_reducible refine Rg ?_))
local macro_rules | `(tactic| walk_at "l2step") =>`(tactic| first | ((with_reducible refine' Ru ?e ?_);(case e=>walk_at "l2hp")) | ((with_reducible refine' Rr ?e ?_);(case e=>walk_at "l2hp")) | ((with_reducible refine' Rt ?e ?_);(case e=>walk_at "l2side")) | ((with_reducible refine' Ud ?e ?m ?_);(case e=>walk_at "l2kind");(case m=>decide)))
local macro_rules | `(tactic| walk_at "l2step") =>`(tactic| first | ((with_reducible refine' Gk ?e ?a ?_);(case e=>walk_at "l2hp");(case a=>first | assumption | rfl)) | ((with_reducible refine' Uc ?e ?a ?_);(case e=>walk_at "l2hp");(case a=>first | assumption | rfl)) | ((with_reducible refine' s_ty ?e ?_);(case e=>first | exact rfl | (refine' X4 ⟨rfl,_,?f⟩;(case f=>walk_at "l2hp")) | (refine' WU (WU (X4 ⟨rfl,X4 ⟨_,?f⟩⟩));(case f=>walk_at "l2hp")))) | (with_reducible refine RI ?_))
local macro_rules | `(tactic| walk_at "l2step") =>`(tactic| first | ((with_reducible refine' Rn ?l ?_);(case l=>exact J0 (aa4 rfl))) | ((with_reducible refine' Rl ?l ?_);(case l=>exact J0 (aa4 rfl))) | ((with_reducible refine' T7 ?e ?_);(case e=>walk_at "l2hp")) | ((with_reducible refine' s_slS ?e ?_);(case e=>walk_at "l2side")))
local macro_rules | `(tactic| walk_at "l2step") =>`(tactic| first | (with_reducible refine Rz ?_) | ((with_reducible refine' Rx ?e ?l ?_);(case e=>walk_at "l2hp");(case l=>rfl)) | (with_reducible refine T6 ?_) | (with_reducible refine Ub ?_))
local macro_rules | `(tactic| walk_at "l2step") =>`(tactic| first | ((with_reducible refine' T8 ?e ?_);(case e=>rfl)) | (with_reducible refine s_leS ?_) | ((with_reducible refine' Pw ?e ?_);(case e=>repeat constructor)) | (with_reducible refine Px ?_))
local macro_rules | `(tactic| walk_at "l2step") =>`(tactic| first | (with_reducible refine T9 ?_) | ((with_reducible refine' s_rI ?e ?_);(case e=>walk_at "l2side")) | (with_reducible refine s_rU ?_) | ((with_reducible refine' Ua ?e ?_);(case e=>rfl)))
local macro_rules | `(tactic| walk_at "l2step") =>`(tactic| first | ((with_reducible refine Ri ?_);intro _ _) | (with_reducible refine Rk ?_) | ((with_reducible refine' T5 ?e ?_);(case e=>repeat constructor)) | (with_reducible refine PF ?_))
local macro_rules | `(tactic| walk_at "l2") =>`(tactic| repeat walk_at "l2step")
local macro_rules | `(tactic| walk_at "l2step") =>`(tactic| first | ((with_reducible refine' Re ?e ?_);(case e=>walk_at "l2hp")))
local macro_rules | `(tactic| walk_at "l2step") =>`(tactic| first | ((with_reducible refine' Pr ?e ?_);(case e=>walk_at "l2hp")) | ((with_reducible refine' Pq ?e ?_);(case e=>walk_at "l2hp")) | ((with_reducible refine' Rf ?e ?_);(case e=>walk_at "l2hp")))
local macro_rules | `(tactic| walk_at "l2step") =>`(tactic| first | (with_reducible refine Ro ?_) | (with_reducible refine RB ?_) | (with_reducible refine RF ?_) | (with_reducible refine Pu ?_))
local macro_rules | `(tactic| walk_at "l2step") =>`(tactic| first | (with_reducible refine Mr ?_) | (with_reducible refine Ug ?_) | (with_reducible refine Rq ?_) | (with_reducible refine Ms ?_))
local macro_rules | `(tactic| walk_at "l2step") =>`(tactic| first | (with_reducible refine Uh ?_) | (with_reducible refine RC ?_) | (with_reducible refine s_disp1I ?_) | ((with_reducible refine' s_listD ?e ?_);(case e=>walk_at "l2at")))
local macro_rules | `(tactic| walk_at "l2step") =>`(tactic| first | (with_reducible refine Pp ?_) | (with_reducible refine s_try0 ?_) | (with_reducible refine s_callX ?_))
noncomputable def top (i:Nat):Stmt:=PySem.Challenge.pw_sumwires_k93_whole_told_back_over_texts.main.body.getD i (.Pass ⟨0,0,0,0⟩)
noncomputable abbrev tz:Stmt:=top 17
theorem Dy:!C ["thing"] ["thing"] tz:=by walk_at "s"
noncomputable abbrev wy:Stmt:=top 18
theorem Gh:!C ["thing","width"] ["thing","width"] wy:=by walk_at "s"
noncomputable abbrev rD:Stmt:=top 19
theorem Gg:!C ["thing"] ["thing"] rD:=by walk_at "s"
noncomputable abbrev IY:Stmt:=top 20
theorem vY:!C ["number","width","half"] ["number"] IY:=by walk_at "s"
noncomputable abbrev rF:Stmt:=top 21
theorem Gi:!C ["mask"] ["mask"] rF:=by walk_at "s"
noncomputable abbrev wu:Stmt:=top 22
theorem pe:!C ["places","mask","place"] ["places"] wu:=by walk_at "s"
noncomputable abbrev tj:Stmt:=top 23
theorem Dp:!C ["row"] ["row"] tj:=by walk_at "s"
noncomputable abbrev zX:Stmt:=top 24
theorem oi:!C ["masks","width","whole","place","mask"] ["masks","width"] zX:=by walk_at "s"
noncomputable abbrev pf:Stmt:=top 25
theorem Dq:!C @dm @dm pf:=by walk_at "s"
noncomputable abbrev wx:Stmt:=top 30
theorem Gf:!C @dn @dn wx:=by walk_at "s"
noncomputable abbrev jC:Stmt:=top 31
theorem yl:!C @dk @dk jC:=by walk_at "s"
noncomputable abbrev zZ:Stmt:=top 32
theorem IW:!C ["pair","state","row"] ["pair","state","row"] zZ:=by walk_at "s"
noncomputable abbrev kP:Stmt:=top 33
theorem zR:!C ["pairs","state","row"] ["pairs","state","row"] kP:=by walk_at "s"
noncomputable abbrev h9:Stmt:=bH (top 34) 0
theorem qC:!C @dy @dy h9:=by walk_at "s"
noncomputable abbrev jl:Stmt:=bH (top 34) 1
theorem tf:!C @ai @ai jl:=by walk_at "s"
noncomputable abbrev iF:Stmt:=bH (top 34) 2
theorem rA:!C @ai @ai iF:=by walk_at "s"
noncomputable abbrev fu:Stmt:=bH (top 34) 4
theorem nS:!C ["self","state"] ["self","state"] fu:=by walk_at "s"
noncomputable abbrev lP:Stmt:=bH (top 34) 5
theorem wk:!C ["self","state","row"] ["self","state","row"] lP:=by walk_at "s"
noncomputable abbrev jk:Stmt:=bH (top 34) 6
theorem dM:!C ["self","rows","state","answers","row","done"] @cD jk:=by walk_at "s"
noncomputable abbrev fY:Stmt:=bH (top 34) 7
theorem yo:!C @cD @cD fY:=by walk_at "s"
noncomputable abbrev jm:Stmt:=bH (top 34) 9
theorem md:!C ["self","which","turns","rows"] ["self","which","turns"] jm:=by walk_at "s"
noncomputable abbrev lQ:Stmt:=bH (top 34) 10
theorem dN:!C ["self","mask","store_mask","input_mask","place"] ["self","mask"] lQ:=by walk_at "s"
noncomputable abbrev jh:Stmt:=bH (top 36) 0
theorem iD:!C ["self","rows","place","row"] ["self","rows"] jh:=by walk_at "s"
noncomputable abbrev j5:Stmt:=bH (top 36) 1
theorem eG:!C ["self","mask","places","found"] ["self","mask"] j5:=by walk_at "s"
noncomputable abbrev qK:Stmt:=bH (top 36) 2
theorem om:!C ["self","place","row","found","places"] ["self","place","row"] qK:=by walk_at "s"
noncomputable abbrev j6:Stmt:=bH (top 36) 3
theorem gL:!C ["self","bit","mask","top"] ["self","bit"] j6:=by walk_at "s"
noncomputable abbrev Jb:Stmt:=top 37
theorem Pm:!C ["rows"] ["rows"] Jb:=by walk_at "s"
noncomputable abbrev wo:Stmt:=top 38
theorem sX:!C ["rows","wish","steps","found"] ["rows","wish"] wo:=by walk_at "s"
noncomputable abbrev vD:Stmt:=top 39
theorem Bl:!C ["rows","width","steps"] ["rows","width"] vD:=by walk_at "s"
noncomputable abbrev zY:Stmt:=top 41
theorem IV:!C ["pair","stores"] ["pair","stores"] zY:=by walk_at "s"
noncomputable abbrev d4:Stmt:=top 42
theorem gC:!C ["machine","bars","stores","rows","ways","states"] ["machine","bars"] d4:=by walk_at "s"
noncomputable abbrev fW:Stmt:=top 43
theorem cG:!C ["machine","stores","bars","ways"] @bL fW:=by walk_at "s"
noncomputable abbrev d2:Stmt:=top 44
theorem cM:!C ["machine","found","rows","firsts","stores","states","inputs","begin","sums"] @bL d2:=by walk_at "s"
noncomputable abbrev gE:Stmt:=top 45
theorem dJ:!C ["machine","turns","outs","singles","whole","told","turn"] ["machine","turns"] gE:=by walk_at "s"
noncomputable abbrev wm:Stmt:=top 46
theorem jO:!C ["machine","delay","answers","masks","which","others","found"] @cI wm:=by walk_at "s"
noncomputable abbrev h7:Stmt:=top 47
theorem ck:!C ["machine","delay","mask","outs","store_mask","looks","answer","place","kept"] ["machine","delay","mask"] h7:=by walk_at "s"
noncomputable abbrev jX:Stmt:=top 48
theorem dj:!C ["pair","tellings","store_mask","input_mask","which"] ["pair","tellings"] jX:=by walk_at "s"
noncomputable abbrev gF:Stmt:=top 49
theorem hX:!C ["machine","delay","outs","moved","newest"] @cI gF:=by walk_at "s"
noncomputable abbrev dO:Stmt:=top 50
theorem hV:!C ["machine","delay","masks","tellings","nexts"] ["machine","delay","masks"] dO:=by walk_at "s"
noncomputable abbrev qF:Stmt:=top 51
theorem d0:!C ["machine","never","rows","delay","found"] @bL qF:=by walk_at "s"
noncomputable abbrev jZ:Stmt:=bH (top 53) 0
theorem uP:!C @ci @ci jZ:=by walk_at "s"
noncomputable abbrev iG:Stmt:=bH (top 54) 0
theorem rB:!C @dh @dh iG:=by walk_at "s"
noncomputable abbrev oB:Stmt:=bH (top 54) 2
theorem zV:!C @bQ @bQ oB:=by walk_at "s"
noncomputable abbrev mR:Stmt:=bH (top 54) 3
theorem yp:!C @bF @bF mR:=by walk_at "s"
noncomputable abbrev h8:Stmt:=bH (top 55) 0
theorem qz:!C ["self","name","wires"] ["self","name","wires"] h8:=by walk_at "s"
noncomputable abbrev mP:Stmt:=bH (top 55) 3
theorem iX:!C ["self","known","row","state","total","wire"] @bQ mP:=by walk_at "s"
noncomputable abbrev lJ:Stmt:=bH (top 55) 4
theorem cU:!C ["self","known","store_mask","input_mask","wire","pair"] @bF lJ:=by walk_at "s"
noncomputable abbrev gy:Stmt:=bH (top 56) 0
theorem oj:!C @du @du gy:=by walk_at "s"
noncomputable abbrev j2:Stmt:=bH (top 56) 2
theorem uQ:!C @bQ @bQ j2:=by walk_at "s"
noncomputable abbrev jg:Stmt:=bH (top 56) 3
theorem sY:!C @bF @bF jg:=by walk_at "s"
noncomputable abbrev jD:Stmt:=top 63
theorem ym:!C @dz @dz jD:=by walk_at "s"
noncomputable abbrev mO:Stmt:=top 64
theorem lG:!C ["names","known","name"] ["names"] mO:=by walk_at "s"
noncomputable abbrev ou:Stmt:=top 65
theorem zT:!C ["wire","known"] ["wire","known"] ou:=by walk_at "s"
noncomputable abbrev mM:Stmt:=top 66
theorem gD:!C ["sums","stores","outs","known","row","wire"] ["sums","stores","outs","known"] mM:=by walk_at "s"
noncomputable abbrev cV:Stmt:=top 67
theorem nG:!C ["ins","sums","stores","wires"] ["ins","sums","stores"] cV:=by walk_at "s"
noncomputable abbrev zW:Stmt:=top 68
theorem Mq:!C ["row","waiting"] ["row","waiting"] zW:=by walk_at "s"
noncomputable abbrev oq:Stmt:=top 70
theorem jP:!C ["sums","names","left","waiting","ready"] ["sums"] oq:=by walk_at "s"
noncomputable abbrev dy:Stmt:=bH (top 71) 0
theorem wj:!C @dp @dp dy:=by walk_at "s"
noncomputable abbrev lO:Stmt:=bH (top 71) 1
theorem wg:!C @ai @ai lO:=by walk_at "s"
noncomputable abbrev lM:Stmt:=bH (top 71) 2
theorem we:!C @ai @ai lM:=by walk_at "s"
noncomputable abbrev ji:Stmt:=bH (top 71) 3
theorem sZ:!C @ai @ai ji:=by walk_at "s"
noncomputable abbrev j7:Stmt:=bH (top 71) 4
theorem uR:!C @ai @ai j7:=by walk_at "s"
noncomputable abbrev mQ:Stmt:=bH (top 71) 7
theorem yn:!C @ci @ci mQ:=by walk_at "s"
noncomputable abbrev d5:Stmt:=bH (top 71) 9
theorem pS:!C @ai @ai d5:=by walk_at "s"
noncomputable abbrev pj:Stmt:=top 73
theorem Dz:!C ["words"] ["words"] pj:=by walk_at "s"
noncomputable abbrev wt:Stmt:=top 74
theorem Gd:!C ["text"] ["text"] wt:=by walk_at "s"
noncomputable abbrev gY:Stmt:=top 75
theorem fq:!C ["text","rows","number","words","ins","sums","stores","outs"] ["text"] gY:=by walk_at "s"
noncomputable abbrev gX:Stmt:=top 76
theorem vX:!C ["net","rows"] ["net"] gX:=by walk_at "s"
noncomputable abbrev qD:Stmt:=top 78
theorem oh:!C ["net","row","state","bits","name"] ["net","row","state"] qD:=by walk_at "s"
noncomputable abbrev rC:Stmt:=top 79
theorem Ge:!C ["wires","bits"] ["wires","bits"] rC:=by walk_at "s"
noncomputable abbrev lL:Stmt:=bH (top 80) 0
theorem wc:!C ["self","net"] ["self","net"] lL:=by walk_at "s"
noncomputable abbrev pq:Stmt:=bH (top 80) 1
theorem vZ:!C ["self","row","answer"] ["self","row"] pq:=by walk_at "s"
noncomputable abbrev lK:Stmt:=bH (top 80) 4
theorem wa:!C @ai @ai lK:=by walk_at "s"
noncomputable abbrev ox:Stmt:=top 81
theorem mL:!C ["net","rows","going","row"] ["net","rows"] ox:=by walk_at "s"
noncomputable abbrev DB:Stmt:=top 83
theorem zS:!C ["net","pairs","name"] ["net"] DB:=by walk_at "s"
noncomputable abbrev me:Stmt:=top 84
theorem mK:!C ["net","pairs","nexts","outs"] ["net"] me:=by walk_at "s"
noncomputable abbrev ph:Stmt:=top 85
theorem Dx:!C ["letter","count"] ["letter","count"] ph:=by walk_at "s"
noncomputable abbrev jV:Stmt:=top 86
theorem ux:!C ["name","pair","stores"] ["name","pair"] jV:=by walk_at "s"
noncomputable abbrev vC:Stmt:=top 87
theorem l6:!C ["machine","next_names","out_names","pairs","sums","stores"] @bL vC:=by walk_at "s"
noncomputable abbrev qJ:Stmt:=top 89
theorem Bn:!C @dj @dj qJ:=by walk_at "s"
noncomputable abbrev tE:Stmt:=top 90
theorem qy:!C ["_law_cell_here","_law_k","_law_number"] @cX tE:=by walk_at "s"
noncomputable abbrev qI:Stmt:=top 91
theorem kO:!C ["_law_cell_here","_law_k","_law_letters","_law_some"] @cX qI:=by walk_at "s"
noncomputable abbrev kQ:Stmt:=top 92
theorem fV:!C ["_law_cell_here","_law_start","_law_names","_law_digits","_law_left","_law_found","_law_k","_law_many"] @dG kQ:=by walk_at "s"
noncomputable abbrev jQ:Stmt:=top 93
theorem bB:!C ["_law_script","_law_start","_law_most","_law_cell_here","_law_sizes","_law_ins","_law_stores","_law_known","_law_sums","_law_k","_law_wires_here","_law_at","_law_ends","_law_name_here","_law_outs"] ["_law_script","_law_start","_law_most"] jQ:=by walk_at "s"
noncomputable abbrev oz:Stmt:=top 94
theorem hZ:!C ["_law_cell_here","_law_start","_law_many","_law_width","_law_digits","_law_found","_law_left","_law_k"] @dE oz:=by walk_at "s"
noncomputable abbrev qH:Stmt:=top 95
theorem Bm:!C @ds @ds qH:=by walk_at "s"
noncomputable abbrev iE:Stmt:=top 96
theorem i7:!C ["_law_ins","_law_sums","_law_stores","_law_outs","_law_rows_here","_law_name_here","_law_wires_here"] @dJ iE:=by walk_at "s"
noncomputable abbrev oy:Stmt:=top 97
theorem be:!C ["_law_found","_law_turns","_law_word","_law_first","_law_begin","_law_states","_law_inputs","_law_sums","_law_rows_here","_law_here","_law_turn","_law_row","_law_onward","_law_place","_law_more"] ["_law_found","_law_turns"] oy:=by walk_at "s"
noncomputable abbrev oA:Stmt:=top 98
theorem zU:!C @dq @dq oA:=by walk_at "s"
noncomputable abbrev Gj:Stmt:=top 99
theorem p6:!C ["_law_script","_law_ins","_law_sums","_law_stores","_law_outs","_law_net_here","_law_found","_law_rows_here","_law_k"] ["_law_script"] Gj:=by walk_at "s"
noncomputable abbrev FR (K:b') (x q:lA) (st:WX) (f:ee):Prop:=∃(Y:kk) (od:Q') (kV τ O:kk) (an:Q') (G ct:kk) (L:K'),K.lookup f=ak ⟨Y,od,.func (Vj x q (iU st) @ba @aB .none kV τ O an G ct),L⟩/\Wp K G q=true/\Vk K @a6=true
theorem FR.mk {K:b'} {x q:lA} {st:WX} {f:ee} {Y:kk} {od:Q'} {kV τ O:kk} {an:Q'} {G ct:kk} {L:K'} (h1:K.lookup f=ak ⟨Y,od,.func (Vj x q (iU st) (fO st) (ag st) .none kV τ O an G ct),L⟩) (h2:Wp K G q=true) (Z:Vk K @a6=true):FR K x q st f:=⟨_,_,_,_,_,_,_,_,_,h1,h2,Z⟩
structure FT (K:b') (x q:lA) (st:WX) (f:ee) (d:hM) (ps:C'):Prop where
 F:Fun K x q st f d
 b:rn K d ps []
theorem FR.ok {K:b'} {x q:lA} {st:WX} {f:ee} {ps:C'} (h:FR K x q st f) (g:∀(kV τ L:kk) (an:Q') (G ct:kk) (us:E'),us.length=ps.length->bindArgs (Vj x q (iU st) @ba @aB .none kV τ L an G ct) ⟨us,[]⟩=pure (ps.zip us)):∃d,FT K x q st f d ps:=by
 obtain⟨_,_,_,_,_,_,_,_,_,h1,h2,O⟩:=h;have F:=On (st:=st) h1 h2 O;exact⟨_,F,F.binds g⟩
theorem ao {X:Cx} {CX:CXT} {k j:Nat} {f:ee} {fd:hM} {ps:C'} {sp:Sp} {E:XK} {x n q:lA} {st:WX} {p pos:Pos} {e:xo} {es:eS xo} {t:TA} (F:FnOk X.prog X.w X.K X.mg X.base CX k f fd ps sp) (O:Room j X.A) (hm:X.mg x=ak @a6) (U:FT X.K n q st f fd ps)
  (ha:PA X @V t) (Y:sN CX X E:=by exact bW) (Z:k<=j:=by decide) (α:Gl X x:=by rfl) (L:(x == ("__debug__":lA))=false:=by decide) (he:ov @V X.env=(false,eval e X.env)::ov es X.env:=by rfl) (G:(!aE pos es).any (·.1)=false:=by rfl):
  PE X (!aP x p @V [] pos) (Io sp [] E t):=PX F (O.mono Z) α hm U.1.2 U.2 .nil Y ha L he G
noncomputable abbrev NI (K:b') (x:lA) (f:ee):Prop:=ae9 K z5 x=ak (ak @a6)
noncomputable abbrev NN (K:b') (x:lA):Prop:=ae9 K z5 x=ak f'
noncomputable abbrev FI (K:b') (c:ee) (x:lA) (f:ee):Prop:=wb K (!j c) x=ak (ak @a6)
noncomputable abbrev FN (K:b') (c:ee) (x:lA):Prop:=wb K (!j c) x=ak f'
theorem bln0 {l:eS Vd} (h:l.length=0):l=[]:=Zd h
theorem bln1 {l:eS Vd} (h:l.length=1):∃a,l=[a]:=List.length_eq_one_iff.mp h
theorem bln2 {l:eS Vd} (h:l.length=2):∃a b,l=[a,b]:=by cases l with | nil=>cases h | cons a l=>obtain ⟨b,z⟩:=bln1 (Xe h);exact ⟨a,b,z ▸ rfl⟩
theorem bln3 {l:eS Vd} (h:l.length=3):∃a b c,l=[a,b,c]:=by cases l with | nil=>cases h | cons a l=>obtain ⟨b,c,z⟩:=bln2 (Xe h);exact ⟨a,b,c,z ▸ rfl⟩
theorem bln4 {l:eS Vd} (h:l.length=4):∃a b c d,l=[a,b,c,d]:=by cases l with | nil=>cases h | cons a l=>obtain ⟨b,c,d,z⟩:=bln3 (Xe h);exact ⟨a,b,c,d,z ▸ rfl⟩
theorem bln5 {l:eS Vd} (h:l.length=5):∃a b c d e,l=[a,b,c,d,e]:=by cases l with | nil=>cases h | cons a l=>obtain ⟨b,c,d,e,z⟩:=bln4 (Xe h);exact ⟨a,b,c,d,e,z ▸ rfl⟩
theorem bln6 {l:eS Vd} (h:l.length=6):∃a b c d e f,l=[a,b,c,d,e,f]:=by cases l with | nil=>cases h | cons a l=>obtain ⟨b,c,d,e,f,z⟩:=bln5 (Xe h);exact ⟨a,b,c,d,e,f,z ▸ rfl⟩
theorem bln7 {l:eS Vd} (h:l.length=7):∃a b c d e f g,l=[a,b,c,d,e,f,g]:=by cases l with | nil=>cases h | cons a l=>obtain ⟨b,c,d,e,f,g,z⟩:=bln6 (Xe h);exact ⟨a,b,c,d,e,f,g,z ▸ rfl⟩
local macro_rules | `(tactic| walk_at "b") =>`(tactic| first | (refine fun _ _ _ _ _ _ us hl=>?_;obtain ⟨_,hz⟩:=bln1 hl;subst hz;rfl) | (refine fun _ _ _ _ _ _ us hl=>?_;obtain ⟨_,_,hz⟩:=bln2 hl;subst hz;rfl) | (refine fun _ _ _ _ _ _ us hl=>?_;obtain ⟨_,_,_,hz⟩:=bln3 hl;subst hz;rfl) | (refine fun _ _ _ _ _ _ us hl=>?_;obtain ⟨_,_,_,_,hz⟩:=bln4 hl;subst hz;rfl) | (refine fun _ _ _ _ _ _ us hl=>?_;obtain ⟨_,_,_,_,_,hz⟩:=bln5 hl;subst hz;rfl) | (refine fun _ _ _ _ _ _ us hl=>?_;obtain ⟨_,_,_,_,_,_,hz⟩:=bln6 hl;subst hz;rfl) | (refine fun _ _ _ _ _ _ us hl=>?_;obtain ⟨_,_,_,_,_,_,_,hz⟩:=bln7 hl;subst hz;rfl))
abbrev n10:C':=["row"]
abbrev n11:C':=["words"]
abbrev n12:C':=["way","stores"]
abbrev n13:C':=["machine","found","rows","firsts","stores","states","inputs","begin","sums"]
abbrev n14:C':=["row","waiting"]
abbrev n15:C':=["text","rows","number","words","ins","sums","stores","outs"]
abbrev n16:C':=["net","rows"]
abbrev n17:C':=["machine","bars","stores","rows","ways","states"]
abbrev n18:C':=["ins","sums","stores","wires"]
abbrev n19:C':=["self","ins","sums","stores","outs"]
abbrev n20:C':=["_law_k","_law_cell_here"]
abbrev n21:C':=["_law_name_here"]
abbrev n22:C':=["place","pair","state","row"]
abbrev n23:C':=["state","row","states","machine"]
abbrev n24:C':=["_law_script","_law_start","_law_most","_law_cell_here","_law_sizes","_law_ins","_law_stores","_law_known","_law_sums","_law_k","_law_wires_here","_law_at","_law_ends","_law_name_here","_law_outs"]
abbrev n25:C':=["_law_ins","_law_sums","_law_stores","_law_outs","_law_rows_here","_law_name_here","_law_wires_here"]
abbrev n26:C':=["_law_name_here","_law_wire"]
abbrev n27:C':=["machine","turns","outs","singles","whole","told","turn"]
abbrev n28:C':=["machine","delay","mask","outs","store_mask","looks","answer","place","kept"]
abbrev n29:C':=["machine","delay","masks","tellings","nexts"]
abbrev n30:C':=["_law_k","_law_names","_law_cell_here","_law_start"]
set_option genInjectivity false in
set_option genSizeOf false in
structure Ad where
 gh:ee
 pJ:hM
 i8:ee
 xX:hM
 kJ:ee
 Ct:hM
 xQ:ee
 Oz:hM
 kK:ee
 Cu:hM
 kG:ee
 Cm:hM
 iL:ee
 zr:hM
 mY:ee
 Fv:hM
 iM:ee
 zu:hM
 kI:ee
 Cq:hM
 eh:ee
 sA:hM
 m9:ee
 Fy:hM
 fE:ee
 uD:hM
 bx:ee
 kX:hM
 bR:ee
 nP:hM
 bD:ee
 mw:hM
 aX:ee
 i9:hM
 cy:ee
 qo:hM
 bQ:ee
 nO:hM
 cA:ee
 nh:hM
 ng:kk
 bS:ee
 nQ:hM
 cB:ee
 qp:hM
 bO:ee
 nM:hM
 bY:ee
 oY:hM
 eE:ee
 x8:hM
 bZ:ee
 oZ:hM
 xR:ee
 OA:hM
 kD:ee
 Ci:hM
 nc:ee
 Fz:hM
 m8:ee
 Fx:hM
 d9:ee
 sx:hM
 cc:ee
 mr:hM
 fF:ee
 uE:hM
 dC:ee
 qd:hM
 kC:ee
 Cg:hM
 d8:ee
 sv:hM
 c9:ee
 oW:hM
 dD:ee
 qe:hM
 cb:ee
 mq:hM
 gO:ee
 xV:hM
 cE:ee
 dU:hM
 bE:ee
 my:hM
 du:ee
 uL:hM
 cQ:ee
 sG:hM
 bw:ee
 kW:hM
 cO:ee
 sE:hM
 cn:ee
 qf:hM
 bg:ee
 jy:hM
 bX:ee
 oX:hM
 bN:ee
 nL:hM
 eA:ee
 sC:hM
 eC:ee
 sD:hM
 fG:ee
 uF:hM
 eg:ee
 sy:hM
 c8:ee
 oV:hM
 rh:ee
 KR:hM
 kF:ee
 Ck:hM
 cx:ee
 qm:hM
 cw:ee
 qj:hM
 cv:ee
 qi:hM
 bP:ee
 nN:hM
 b4:ee
 o4:hM
 cP:ee
 sF:hM
 bu:ee
 kL:hM
 iR:ee
 zB:hM
 kE:ee
 Cj:hM
 iP:ee
 zy:hM
 iO:ee
 zw:hM
 gN:ee
 xU:hM
 kH:ee
 Cn:hM
 cu:ee
 qh:hM
 gi:ee
 zE:hM
 cq:ee
 qg:hM
 fH:ee
 uG:hM
 rj:ee
 KU:hM
 iN:ee
 zv:hM
 iQ:ee
 zA:hM
 gP:ee
 xW:hM
 mZ:ee
 Fw:hM
 gT:ee
 x6:hM
 iT:ee
 zD:hM
 gS:ee
 x5:hM
 fJ:ee
 uH:hM
 iS:ee
 zC:hM
 fM:ee
 uJ:hM
 gR:ee
 x4:hM
 gQ:ee
 xZ:hM
 fK:ee
 uI:hM
 fN:ee
 uK:hM
 Hc:ee
 Tc:hM
 ar:ee
 bF:ee
 sJ:ee
 a9:ee
 aU:ee
 aD:ee
 df:ee
 gG:ee
 yb:ee
 eQ:ee
 jS:ee
 vU:Tok
 lF:Tok
 mJ:Tok
 sV:Tok
 gw:Tok
 jf:Tok
 eZ:Tok
 hU:Tok
 qx:Tok
 oa:Tok
 nZ:Tok
open PySem.W in
structure Tx (K:Frag) (mg:F') (a:Ad):Prop where
 jT:FT K "is_whole" "is_whole" tz a.gh a.pJ ["thing"]
 um:mg "is_whole"=ak (!j a.gh)
 jc:FT K "is_mask" "is_mask" wy a.i8 a.xX ["thing","width"]
 oQ:mg "is_mask"=ak (!j a.i8)
 jb:FT K "is_name" "is_name" rD a.kJ a.Ct ["thing"]
 oP:mg "is_name"=ak (!j a.kJ)
 zI:FT K "even" "even" IY a.xQ a.Oz ["number"]
 Kr:mg "even"=ak (!j a.xQ)
 iw:FT K "bits_of" "bits_of" rF a.kK a.Cu ["mask"]
 mn:mg "bits_of"=ak (!j a.kK)
 mE:FT K "mask_of" "mask_of" wu a.kG a.Cm ["places"]
 xM:mg "mask_of"=ak (!j a.kG)
 pL:FT K "words_of" "words_of" tj a.iL a.zr ["row"]
 G6:mg "words_of"=ak (!j a.iL)
 vO:FT K "packed" "packed" zX a.mY a.Fv ["masks","width"]
 M7:mg "packed"=ak (!j a.mY)
 mB:FT K "unpacked" "unpacked" pf a.iM a.zu ["whole","width","count"]
 zo:mg "unpacked"=ak (!j a.iM)
 sR:FT K "is_pair" "is_pair" wx a.kI a.Cq ["thing","stores","inputs"]
 Kq:mg "is_pair"=ak (!j a.kI)
 jJ:FT K "check_table" "check_table" jC a.eh a.sA ["inputs","nexts","outs"]
 AJ:mg "check_table"=ak (!j a.eh)
 vQ:FT K "is_odd" "is_odd" zZ a.m9 a.Fy ["pair","state","row"]
 M9:mg "is_odd"=ak (!j a.m9)
 ja:FT K "odd_places" "odd_places" kP a.fE a.uD ["pairs","state","row"]
 uC:mg "odd_places"=ak (!j a.fE)
 dw:FT K "__init__" "Machine.__init__" h9 a.bx a.kX ["self","inputs","nexts","outs"]
 bh:FT K "stores" "Machine.stores" jl a.bR a.nP ["self"]
 bG:FT K "outputs" "Machine.outputs" iF a.bD a.mw ["self"]
 bC:FT K "check_state" "Machine.check_state" fu a.aX a.i9 ["self","state"]
 dG:FT K "step" "Machine.step" lP a.cy a.qo ["self","state","row"]
 eU:FT K "walked" "Machine.walked" jk a.bQ a.nO ["self","rows","state"]
 iz:FunD K "run" "Machine.run" fY a.cA a.nh a.ng
 jM:rn K a.nh ["self","rows","state"] [a.ng]
 rq:RelV (.int 0) a.ng
 eV:FT K "single" "Machine.single" jm a.bS a.nQ ["self","which","turns"]
 dH:FT K "back" "Machine.back" lQ a.cB a.qp ["self","mask"]
 dk:FT K "__init__" "Steps.__init__" jh a.bO a.nM ["self","rows"]
 dX:FT K "lowered" "Steps.lowered" j5 a.bY a.oY ["self","mask"]
 kM:FT K "lay" "Steps.lay" qK a.eE a.x8 ["self","place","row"]
 dY:FT K "barring" "Steps.barring" j6 a.bZ a.oZ ["self","bit"]
 FK:FT K "base" "base" Jb a.xR a.OA ["rows"]
 SS:mg "base"=ak (!j a.xR)
 mC:FT K "sum_for" "sum_for" wo a.kD a.Ci ["rows","wish"]
 xK:mg "sum_for"=ak (!j a.kD)
 pQ:FT K "across" "across" vD a.nc a.Fz ["rows","width"]
 AM:mg "across"=ak (!j a.nc)
 sQ:FT K "joined" "joined" zY a.m8 a.Fx ["pair","stores"]
 Ft:mg "joined"=ak (!j a.m8)
 ir:FT K "silent_ways" "silent_ways" d4 a.d9 a.sx ["machine","bars"]
 si:mg "silent_ways"=ak (!j a.d9)
 gu:FT K "silent_for_ever" "silent_for_ever" fW a.cc a.mr ["machine"]
 uk:mg "silent_for_ever"=ak (!j a.cc)
 lg:FT K "never_told" "never_told" d2 a.fF a.uE ["machine"]
 B0:mg "never_told"=ak (!j a.fF)
 i0:FT K "sign_answers" "sign_answers" gE a.dC a.qd ["machine","turns"]
 y4:mg "sign_answers"=ak (!j a.dC)
 o7:FT K "tellers" "tellers" wm a.kC a.Cg ["machine","delay"]
 BZ:mg "tellers"=ak (!j a.kC)
 jH:FT K "teller_pair" "teller_pair" h7 a.d8 a.sv ["machine","delay","mask"]
 AH:mg "teller_pair"=ak (!j a.d8)
 iu:FT K "followed_pair" "followed_pair" jX a.c9 a.oW ["pair","tellings"]
 xN:mg "followed_pair"=ak (!j a.c9)
 i5:FT K "kept_answers" "kept_answers" gF a.dD a.qe ["machine","delay"]
 y6:mg "kept_answers"=ak (!j a.dD)
 gq:FT K "telling_machine" "telling_machine" dO a.cb a.mq ["machine","delay","masks"]
 uj:mg "telling_machine"=ak (!j a.cb)
 nu:FT K "told_back" "told_back" qF a.gO a.xV ["machine"]
 Eo:mg "told_back"=ak (!j a.gO)
 dc:FT K "__init__" "Wire.__init__" jZ a.cE a.dU ["self","name"]
 gv:FT K "__init__" "InWire.__init__" iG a.bE a.my ["self","name","number"]
 je:FT K "bit" "InWire.bit" oB a.du a.uL ["self","known","row","state"]
 iA:FT K "hang" "InWire.hang" mR a.cQ a.sG ["self","known"]
 fo:FT K "__init__" "SumWire.__init__" h8 a.bw a.kW ["self","name","wires"]
 iy:FT K "bit" "SumWire.bit" mP a.cO a.sE ["self","known","row","state"]
 gH:FT K "hang" "SumWire.hang" lJ a.cn a.qf ["self","known"]
 dI:FT K "__init__" "StoreWire.__init__" gy a.bg a.jy ["self","name","wire","number"]
 fQ:FT K "bit" "StoreWire.bit" j2 a.bX a.oX ["self","known","row","state"]
 eR:FT K "hang" "StoreWire.hang" jg a.bN a.nL ["self","known"]
 jK:FT K "check_sizes" "check_sizes" jD a.eA a.sC ["ins","sums","stores","outs"]
 AK:mg "check_sizes"=ak (!j a.eA)
 jL:FT K "check_names" "check_names" mO a.eC a.sD ["names"]
 AL:mg "check_names"=ak (!j a.eC)
 fP:FT K "check_wire" "check_wire" ou a.fG a.uF ["wire","known"]
 kU:mg "check_wire"=ak (!j a.fG)
 jI:FT K "check_wires" "check_wires" mM a.eg a.sy ["sums","stores","outs","known"]
 AI:mg "check_wires"=ak (!j a.eg)
 iq:FT K "wires_by_name" "wires_by_name" cV a.c8 a.oV ["ins","sums","stores"]
 xJ:mg "wires_by_name"=ak (!j a.c8)
 yf:FT K "waits" "waits" zW a.rh a.KR ["row","waiting"]
 Kn:mg "waits"=ak (!j a.rh)
 sP:FT K "ordered" "ordered" oq a.kF a.Ck ["sums"]
 Kp:mg "ordered"=ak (!j a.kF)
 gK:FT K "__init__" "Net.__init__" dy a.cx a.qm ["self","ins","sums","stores","outs"]
 dF:FT K "in_names" "Net.in_names" lO a.cw a.qj ["self"]
 gJ:FT K "sum_rows" "Net.sum_rows" lM a.cv a.qi ["self"]
 cK:FT K "store_rows" "Net.store_rows" ji a.bP a.nN ["self"]
 de:FT K "out_wires" "Net.out_wires" j7 a.b4 a.o4 ["self"]
 cC:FT K "wire_of" "Net.wire_of" mQ a.cP a.sF ["self","name"]
 cj:FT K "names_by_need" "Net.names_by_need" d5 a.bu a.kL ["self"]
 pP:FT K "has_form" "has_form" pj a.iR a.zB ["words"]
 G9:mg "has_form"=ak (!j a.iR)
 sO:FT K "rows_of" "rows_of" wt a.kE a.Cj ["text"]
 Ko:mg "rows_of"=ak (!j a.kE)
 mD:FT K "read_net" "read_net" gY a.iP a.zy ["text"]
 zq:mg "read_net"=ak (!j a.iP)
 pN:FT K "show_net" "show_net" gX a.iO a.zw ["net"]
 G8:mg "show_net"=ak (!j a.iO)
 nq:FT K "turn_bits" "turn_bits" qD a.gN a.xU ["net","row","state"]
 Em:mg "turn_bits"=ak (!j a.gN)
 o8:FT K "mask_at" "mask_at" rC a.kH a.Cn ["wires","bits"]
 B1:mg "mask_at"=ak (!j a.kH)
 i6:FT K "__init__" "Run.__init__" lL a.cu a.qh ["self","net"]
 mF:FT K "step" "Run.step" pq a.gi a.zE ["self","row"]
 gI:FT K "answered" "Run.answered" lK a.cq a.qg ["self"]
 g9:FT K "answers_of" "answers_of" ox a.fH a.uG ["net","rows"]
 oR:mg "answers_of"=ak (!j a.fH)
 A9:FT K "hangs" "hangs" DB a.rj a.KU ["net"]
 Qm:mg "hangs"=ak (!j a.rj)
 pM:FT K "table_of" "table_of" me a.iN a.zv ["net"]
 G7:mg "table_of"=ak (!j a.iN)
 iV:FT K "numbered" "numbered" ph a.iQ a.zA ["letter","count"]
 pH:mg "numbered"=ak (!j a.iQ)
 ny:FT K "named_sum" "named_sum" jV a.gP a.xW ["name","pair"]
 Ep:mg "named_sum"=ak (!j a.gP)
 vP:FT K "net_of" "net_of" vC a.mZ a.Fw ["machine"]
 M8:mg "net_of"=ak (!j a.mZ)
 iW:FT K "_law_cell" "_law_cell" qJ a.gT a.x6 ["_law_script","_law_k"]
 rg:mg "_law_cell"=ak (!j a.gT)
 bU:FT K "_law_mix" "_law_mix" tE a.iT a.zD ["_law_cell_here","_law_k"]
 cH:mg "_law_mix"=ak (!j a.iT)
 gU:FT K "_law_name" "_law_name" qI a.gS a.x5 ["_law_cell_here","_law_k"]
 mX:mg "_law_name"=ak (!j a.gS)
 lh:FT K "_law_wires" "_law_wires" kQ a.fJ a.uH ["_law_cell_here","_law_start","_law_names","_law_digits"]
 B2:mg "_law_wires"=ak (!j a.fJ)
 pR:FT K "_law_net" "_law_net" jQ a.iS a.zC ["_law_script","_law_start","_law_most"]
 Ha:mg "_law_net"=ak (!j a.iS)
 lC:FT K "_law_masks" "_law_masks" oz a.fM a.uJ ["_law_cell_here","_law_start","_law_many","_law_width","_law_digits"]
 B4:mg "_law_masks"=ak (!j a.fM)
 nE:FT K "_law_rows" "_law_rows" qH a.gR a.x4 ["_law_cell_here","_law_many","_law_width"]
 Es:mg "_law_rows"=ak (!j a.gR)
 nC:FT K "_law_text" "_law_text" iE a.gQ a.xZ ["_law_ins","_law_sums","_law_stores","_law_outs"]
 Er:mg "_law_text"=ak (!j a.gQ)
 ly:FT K "_law_ruled" "_law_ruled" oy a.fK a.uI ["_law_found","_law_turns"]
 B3:mg "_law_ruled"=ak (!j a.fK)
 lD:FT K "_law_heard" "_law_heard" oA a.fN a.uK ["_law_other","_law_answers"]
 B5:mg "_law_heard"=ak (!j a.fN)
 NF:Fun K "law" "law" Gj a.Hc a.Tc
 B7:mg "Machine"=ak (!j a.ar)
 aB:Cls K a.ar
 C0:Mk K a.ar a.bx
 b6:Meth K a.ar "stores" a.bR
 dS:Meth K a.ar "outputs" a.bD
 fC:Meth K a.ar "check_state" a.aX
 lX:Meth K a.ar "step" a.cy
 vc:Meth K a.ar "walked" a.bQ
 r6:Meth K a.ar "run" a.cA
 vd:Meth K a.ar "single" a.bS
 lY:Meth K a.ar "back" a.cB
 bM:cI K a.ar "inputs"
 cD:cI K a.ar "nexts"
 dA:cI K a.ar "outs"
 Eu:mg "Steps"=ak (!j a.bF)
 fU:Cls K a.bF
 EO:Mk K a.bF a.bO
 oK:Meth K a.bF "lowered" a.bY
 DY:Meth K a.bF "lay" a.eE
 oM:Meth K a.bF "barring" a.bZ
 dz:cI K a.bF "by_top"
 gM:cI K a.bF "free_places"
 kT:cI K a.bF "null_masks"
 Ks:mg "Wire"=ak (!j a.sJ)
 Na:mg "InWire"=ak (!j a.a9)
 nF:Cls K a.a9
 ND:Mk K a.a9 a.bE
 BH:Meth K a.a9 "bit" a.du
 Ar:Meth K a.a9 "hang" a.cQ
 rY:cI K a.a9 "name"
 ku:cI K a.a9 "number"
 Kt:mg "SumWire"=ak (!j a.aU)
 kN:Cls K a.aU
 Lm:Mk K a.aU a.bw
 Aq:Meth K a.aU "bit" a.cO
 yE:Meth K a.aU "hang" a.cn
 p9:cI K a.aU "name"
 kr:cI K a.aU "wires"
 Et:mg "StoreWire"=ak (!j a.aD)
 fT:Cls K a.aD
 EN:Mk K a.aD a.bg
 w6:Meth K a.aD "bit" a.bX
 vb:Meth K a.aD "hang" a.bN
 nJ:cI K a.aD "name"
 ij:cI K a.aD "number"
 va:cI K a.aD "wire"
 SU:mg "Net"=ak (!j a.df)
 dZ:Cls K a.df
 Tv:Mk K a.df a.cx
 lW:Meth K a.df "in_names" a.cw
 yG:Meth K a.df "sum_rows" a.cv
 jw:Meth K a.df "store_rows" a.bP
 kz:Meth K a.df "out_wires" a.b4
 gc:Meth K a.df "wire_of" a.cP
 kA:Meth K a.df "names_by_need" a.bu
 jF:cI K a.df "by_name"
 rX:cI K a.df "ins"
 dQ:cI K a.df "kept_stores"
 tT:cI K a.df "outs"
 oJ:cI K a.df "sum_order"
 mj:cI K a.df "sums"
 Uv:mg "Run"=ak (!j a.gG)
 o9:Cls K a.gG
 UD:Mk K a.gG a.cu
 GR:Meth K a.gG "step" a.gi
 yF:Meth K a.gG "answered" a.cq
 pE:cI K a.gG "bits"
 qV:cI K a.gG "given"
 tS:cI K a.gG "held"
 oI:cI K a.gG "net"
 dU:OH K a.sJ "__init__" a.cE
 xO:mg "BadMask"=ak (!j a.eQ)
 jU:excIn K a.eQ [.type "ValueError",.type "Exception",.type "BaseException",.type "object"] "ValueError.__new__"=true
 pI:mg "BadTable"=ak (!j a.jS)
 gW:excIn K a.jS [.type "ValueError",.type "Exception",.type "BaseException",.type "object"] "ValueError.__new__"=true
 Ku:mg "LETTERS"=ak (.str "abcdefghijklmnopqrstuvwxyz" a.vU)
 y8:mg "LONGEST_NAME"=ak (.int 6 a.lF)
 AN:mg "MOST_INPUTS"=ak (.int 6 a.mJ)
 Hb:mg "MOST_INS"=ak (.int 6 a.sV)
 p3:mg "MOST_OUTS_machines"=ak (.int 6 a.gw)
 vw:mg "MOST_OUTS_nets"=ak (.int 6 a.jf)
 nW:mg "MOST_STORES_machines"=ak (.int 120 a.eZ)
 sj:mg "MOST_STORES_nets"=ak (.int 16 a.hU)
 Ew:mg "MOST_SUMS"=ak (.int 40 a.qx)
 B8:mg "MOST_WIRES"=ak (.int 24 a.oa)
 B6:mg "NAME_SIGNS"=ak (.str "abcdefghijklmnopqrstuvwxyz0123456789" a.nZ)
 Qc:mg "all"=f'
 SA:mg "any"=f'
 Sy:mg "bool"=f'
 Og:mg "dict"=f'
 fA:mg "enumerate"=f'
 Ur:mg "int"=f'
 g7:mg "isinstance"=f'
 gb:mg "len"=f'
 ig:mg "list"=f'
 Sw:mg "max"=f'
 Uq:mg "min"=f'
 fh:mg "range"=f'
 GN:mg "reversed"=f'
 MO:mg "sorted"=f'
 JT:mg "str"=f'
 lV:mg "tuple"=f'
 Qb:mg "zip"=f'
section
variable {P:pT} {w:z0} {K:b'} {mg:F'} {base:zx} {a:Ad}
section
theorem qR (T:@L):!H 1 a.gh a.pJ ["thing"] (vB K):=by
 refine T.jT.1.okA Dy λL A outer s H vs Q E O h=>?_;obtain⟨x,k,rfl,hk,q⟩:=h;refine⟨_,((!K (uB (aM @cc @G T.g7 V4 (!b3 0 (tH (v:= .ty "int") @G T.Ur PyProof.Rows.boot_int rfl))) (wA (R9 (aM @cc @G T.g7 V4 (!b3 0 (tH (v:= .ty "bool") @G T.Sy PyProof.Rows.boot_bool rfl)))))))),@aL⟩;lia;unfold Ic at q;cases G:subB k "int"
 ·rw[G] at q;lia;exact q
 ·rw[G] at q;lia;exact q
local macro_rules | `(tactic| walk_at "l2step") =>`(tactic| ((with_reducible refine' cJ ?e ?_);(case e=>walk_at "l2kind")))
theorem pD (T:@L):!H 2 a.i8 a.xX ["thing","width"] (De K):=by
 have G:FnOk P w K mg base CX0 1 a.gh a.pJ ["thing"] (vB K):=qR T;refine T.jc.1.okA Gh λY A outer s H vs Q E O h=>?_;obtain⟨x,k,wd,rfl,hk,q⟩:=h;refine⟨_,((!K (uB (ao G O T.um T.jT @a2) (uB (jq Sh @K ah @bk) (wA (jq Um (qO (K:=K) rfl Vm UU UT qW @K) @I @bk)))))),@aN⟩;lia;cases x with
 | int i=>
   have hk:k="int":=hk;subst hk;lia;have q:Q (.bl (decide (0<=i)&&decide (((u1 i:Nat):Int)<=wd))) H:=q;cases L:decide (0<=i)
   ·rw[L] at q;lia;exact q
   ·rw[L] at q;lia;exact q
 | bl b=>have hk:k="bool":=hk;subst hk;lia;exact q
 | non=>have hk:k="NoneType":=hk;subst hk;lia;exact q
 | str z=>have hk:k="str":=hk;subst hk;lia;exact q
 | ref p=>
   rcases hk with ⟨rfl,_⟩ | ⟨rfl,_⟩ | ⟨rfl,_⟩<;>lia<;>exact q
 | _=>exact UP hk
local macro_rules | `(tactic| walk_at "l2step") =>`(tactic| ((with_reducible refine' eP ?e ?_);(case e=>walk_at "l2kind")))
theorem DQ (T:@L):!H 1 a.xQ a.Oz ["number"] Pa:=by
 refine T.zI.1.okA vY fun ζ A outer s H vs Q E η h=>?_;obtain⟨m,rfl,hm,q⟩:=h
 refine⟨_,((ae (!ba vY.nd rfl (qO (K:=K) rfl Vm UU UT qW @K))
  (ae (rJ lI (!X qP @I ah) (ae (!af vY.nd (!a3 z8 (!a3 cL @I)))
  (ae (ax (i:=0) vY.nd rfl @F (!ab iB (av wF @K @S) mh @K (!a3 mf (av fw ah @S))))
  (ai (!ba vY.nd rfl @S)))))
  (!K (jq lR @K ah @bk))))),!c6 rfl⟩
 lia;refine⟨fun μ σ' H'=>∃n hf,σ'=[ak (nat n),ak (nat μ),hf]/\H'=H/\n < 2 ^ μ/\μ<=1000/\M.od n=M.od m,⟨u1 (m:Int),m,f',rfl,rfl,EC m,AZ hm,rfl⟩,?_⟩;rintro μ σ' H' ⟨n,hf,rfl,rfl,hn,hw,α⟩;lia;refine iteB (λO=>?_) (λO=>?_)
 ·have O:=v5 O;have Z:(μ + 1) / 2 < μ:=by omega
  refine⟨λG H2=>∃L hf,G=[ak (nat L),ak (nat @cg),hf]/\H2=H'/\L < 2 ^ @cg/\M.od L=M.od m,λG H2 ⟨L,ξ,ε,δ,γ,β⟩=>⟨(μ + 1) / 2,Z,L,ξ,ε,δ,γ,@A,β⟩,?_⟩;lia;refine⟨(n>>>@cg)^^^(n&&&(2 ^ @cg - 1)),ak (nat @cg),?_,rfl,M.fold_lt μ _ n hn @A,?_⟩
  ·rw[Kl,KB]
  ·rw[<-α];have f:=M.pb_fold μ @cg n @A hn @A;show M.pb 1000 _=M.pb 1000 _;rw[M.pb_up (M.fold_lt μ _ n hn @A) @A,f,<-M.pb_up hn hw]
 ·have O:=of_decide_eq_false O;have Y:n < 2:=fy hn (gA @D (show μ<=1 by omega));lia;rw[show decide (V.int (n:Int)=V.int 0)= !M.od n from MI Y,α];exact q
theorem nI (T:@L):!H 2 a.bZ a.oZ ["self","bit"] (Q7 a.bF):=by
 refine T.dY.1.okA gL λa0 A outer s H vs Q E ζ h=>?_;obtain⟨p,d,f,n,rows,b,rfl,st,hb,γ,φ,υ,q⟩:=h;have hu:=qZ ζ;obtain⟨dx,ho⟩:=st.ho;obtain⟨es,hd,ht,g,l⟩:=st.he;have nd:(@da).Nodup:=by have:=g.nd;rw[u2] at this;exact this
 refine⟨_,((ae (!af gL.nd (av fw ah @I))
  (ae (!aS lI (!U (aM (Hq rfl) @G T.MO PyProof.Rows.boot_sorted @aE)) (!bM gL.nd @F) (!aK (!b6 (!aZ (DQ T) ζ T.Kr T.zI (av mh @S (!V (oC hu @W @U @bn))))) (!af gL.nd (!ab iB @S fw ah @U))))
  (!K @S)))),!bT rfl⟩
 lia;refine !aw ho T.fU T.dz;lia;refine Pn hd (MY es) (by unfold sh;rw[aI];omega) λL ns H1 f1 Z θ ξ hw=>?_;obtain⟨ts,rfl,up,mem⟩:=C7 ξ hw nd;rw[<-Am] at θ;lia;rw[shl1];refine fk (xs:=ts.map nat) (λi σ H'=>∃(m:Nat) (v:qE V),σ=[ak @P,ak (nat b),ak (nat m),v]/\H'=H1/\M.BarI (es.map λe=>(e.m,e.p)) (ts.take i) b m) ⟨2 ^ b,f',rfl,rfl,M.BarI.zero _ b⟩ (λi σ H' _ ⟨_,_,_,e,_⟩=>by rw[e];exact SqL.of θ) ?_ ?_
 ·rintro i y σ H' ι ⟨m,v,rfl,rfl,I⟩;obtain⟨t,O,rfl⟩:=aA ι;obtain⟨hi,ε⟩:=a'.mp O;rcases sT es (t:Int) with ⟨e,he,χ,ev⟩ | ⟨ρ,_⟩
  ·have χ:e.m.log2=t:=by omega
   subst χ;have G:(e.m,e.p)∈es.map (λe=>(e.m,e.p)):=hD.mpr ⟨e,he,rfl⟩;have Y:e.m < 2 ^ 1000:=M.span_lt γ (g.span G);have τ:e.m.log2 < 1000:=M.log2_under (g.nz _ G) Y;have ν:=Z.get (ht e he)
   have β:∀t∈ts.take i,t < e.m.log2:=λt hm=>by
    obtain⟨j,π,η⟩:=Vu.mp hm;rw[pa] at π;rw[YR] at η;have:=Zw.mp up j i @A hi @A;rw[η,ε] at this;exact this
   have α:e.m.log2≠b:=υ e.m (g.span G) (g.nz _ G);have ο:=g.nd;lia;refine !aw (Z.get ho) T.fU T.dz;lia;refine Ja (Z.get hd) ev ?_;lia;rw[g8];refine⟨m&&&e.m,rfl,w2 X8 Y,?_⟩;cases ψ:M.od (m&&&e.m) with
   | true=>
     lia;refine⟨m^^^2 ^ e.m.log2,ak (nat e.m.log2),by rw[shl1,b5],rfl,?_⟩;rw[take_succ O];exact I.flip (e:=(e.m,e.p)) ο g.nz G ψ β α τ
   | false=>
     lia;rw[take_succ O];exact I.keep (e:=(e.m,e.p)) ο G ψ
  ·obtain⟨e,he,χ⟩:=(mem t).mp (eH O);exact hF (by rw[χ]) (ρ e he)
 ·rintro σ H' ⟨m,v,rfl,rfl,I⟩;rw[aI,ic] at I;lia;refine q m H' Z (I.done g λe he=>?_);obtain⟨ω,δ,rfl⟩:=hD.mp he;exact(mem _).mpr ⟨ω,δ,rfl⟩
theorem jR (T:@L):!H 1 a.kK a.Cu ["mask"] Pc:=by
 refine T.iw.1.okA Gi λG A outer s H vs Q E L h=>?_;obtain⟨m,rfl,hm,q⟩:=h;have hb:=AZ hm;refine⟨_,((!K (bA (osc:=ag rF) (ON:=["mask"]) (N:=["place","mask"]) (n:=1) (fx:=[0]) rfl rfl rfl @O (!b4 @G (!Z (qO (K:=K) rfl Vm UU UT qW @K))) @Q (!bk (aq (i:=0) (show ka (["place","mask"]:C') from by decide +kernel) rfl @F) (!X lR (!a3 mh (av wF @I @K)) ah) @K)))),@aL⟩;lia;intro D ω;refine !bN (!bR (!be (M.pl i m))) (!a4 ω) @c3
 ·lia;rw[FH];by_cases ht:m.testBit i=true
  ·rw[oL ht];lia;refine Cs.put ω c.same c.at' c.len @A ?_;rw[c.pv,M.pl_next,oL ht,dt,Wg];rfl
  ·rw[mu ht];lia;refine Cs.skip c.same c.at' c.len ?_;rw[c.pv,M.pl_next,mu ht,UY]
 ·have e:=c.pv;rw[lj] at e;refine q D H' ω c.same ?_;rw[c.at',e,M.pl_up (EC m) hb]
theorem tK (T:@L):!H 1 a.kG a.Cm ["places"] ID:=by
 refine T.mE.1.okA pe λO A outer s H vs Q E Y h=>?_;obtain⟨r,ps,rfl,L,hl,q⟩:=h
 refine⟨_,((ae (!ba pe.nd rfl ah)
  (ae (!aS lI (!U @K) (!bJ pe.nd @F) (!ba pe.nd rfl (!ab iB @I fw ah @S)))
  (!K @I)))),!c6 rfl⟩
 lia;refine fk (xs:=ps.map nat) (λi σ H'=>∃v,σ=[ak (!j r),ak (nat (M.xm @c2)),v]/\H'=H) ⟨f',rfl,rfl⟩ (λi σ H' _ ⟨_,_,e⟩=>by rw[e];exact SqL.of L) ?_ ?_
 ·rintro i y σ H' G ⟨v,rfl,rfl⟩;obtain⟨k,hk,rfl⟩:=aA G;have:=hl k (eH hk);lia;refine⟨ak (nat k),?_,rfl⟩;rw[shl1,b5,OL hk]
 ·rintro σ H' ⟨v,rfl,rfl⟩;rw[aI,ic];lia;exact q
end
theorem nH (T:@L):!H 1 a.bY a.oY ["self","mask"] (Q4 a.bF):=by
 refine T.dX.1.okA eG λa0 A outer s H vs Q E ο h=>?_;obtain⟨p,d,f,n,rows,x,rfl,st,q⟩:=h;have hu:=qZ ο;obtain⟨dx,ho⟩:=st.ho;obtain⟨es,hd,ht,g,l⟩:=st.he
 refine⟨_,((ae (!af eG.nd ah)
  (ae (rJ lI (Fb (Jx hu (!a3 mf (qO (K:=K) rfl Vm UU UT qW @I)) @W)) (ae (!ax eG.nd (oC hu @W (!a3 mf (qO (K:=K) rfl Vm UU UT qW @I)) @bn))
  (ae (!ba eG.nd rfl (av iB @I (!V @U)))
  (ai (!af eG.nd (av iB @S (!V @U)))))))
  (!aT (!ah 1 2))))),!bT rfl⟩
 lia;refine⟨fun μ σ' H'=>∃O v,σ'=[ak @P,ak (nat @cJ),ak (nat O),v]/\H'=H/\O < 2 ^ rows.length/\μ=x^^^M.sm rows O/\M.Frs rows O,⟨x,0,f',?_,rfl,mm _,?_,M.Frs.zero _⟩,?_⟩
 ·rw[M.sm_zero,Vf];rfl
 ·rw[M.sm_zero,Vf]
 rintro μ σ' H' ⟨O,v,rfl,rfl,η,rfl,α⟩;lia;refine !aw ho T.fU T.dz;refine RE hd ?_;lia;generalize hm:x^^^M.sm rows O=m;refine iteB (fun γ=>?_) (fun γ=>?_)
 ·rcases sT es ((u1 (m:Int):Nat) - 1:Int) with ⟨e,he,χ,ev⟩ | ⟨_,ε⟩
  ·have π:m≠0:=λz=>by rw[z,CF] at χ;omega
   have hl2:m.log2=e.m.log2:=by rw[pK π] at χ;omega
   have G:(e.m,e.p)∈es.map (λe=>(e.m,e.p)):=hD.mpr ⟨e,he,rfl⟩;have ω:=g.nz _ G;refine⟨λZ H2=>∃L v,Z=[ak @P,ak (nat (x^^^M.sm rows L)),ak (nat L),v]/\H2=H'/\L < 2 ^ rows.length/\x^^^M.sm rows L < m/\M.Frs rows L,λZ H2 ⟨L,v,h1,h2,υ,τ,ρ⟩=>⟨_,τ,L,v,h1,h2,υ,rfl,ρ⟩,?_⟩;lia;refine !aw ho T.fU T.dz;lia;refine Ja hd ev ?_;have ξ:=ht e he;lia;refine⟨O^^^e.p,ak (!j e.a),?_,rfl,M.xor_lt_pow η (g.lt _ G),?_,α.xor (g.sub _ G)⟩
   ·rw[M.sm_xor,g.sm _ G,<-U7,hm,b5,b5]
   ·rw[M.sm_xor,g.sm _ G,<-U7,hm];exact M.xor_less π ω hl2
  ·rw[ε] at γ;cases γ
 ·lia;intro t H2 φ ι ψ;subst hm;refine q t H2 O φ ι ψ η (fun β y ν Y hl2=>?_) α;rcases sT es ((u1 ((x^^^M.sm rows O:Nat):Int):Nat) - 1:Int) with ⟨e,he,χ,ev⟩ | ⟨h1,ε⟩
  ·rw[ev] at γ;cases γ
  ·obtain⟨e,he,ζ⟩:=g.all y ν Y;obtain⟨θ,δ,rfl⟩:=hD.mp he;refine h1 θ δ ?_;have ζ:θ.m.log2=y.log2:=ζ;rw[pK β,ζ,hl2];omega
theorem BE (T:@L):!H 2 a.eE a.x8 ["self","place","row"] (Q5 a.bF):=by
 refine T.kM.1.okA om fun υ A outer s H vs Q E ε h=>?_;obtain⟨p,d,f,n,rows,r,rfl,st,hl,q⟩:=h;have hu:=qZ ε;obtain⟨dx,ho⟩:=st.ho
 refine⟨_,((ae (!ax om.nd (fc @K T.fU T.oK (nH T) @bK T.dX.2 .nil bW @ae))
  (ae (!b7 om.nd rfl (!ab iB (!V @U) fw ah @I))
  (ai (d7 (!X lR (!V @U) ah) (ai (bp (!bD la so sb dq @W (!a5 4)))) (ae (bp (!bD la so sb dq @W @ag))
  (ai (z6 hu @W (!a3 mf (qO (K:=K) rfl Vm UU UT qW (!V @U))) (dh (aa (!V @U) (!a5 4))) rfl)))))))),!cm rfl⟩
 lia;refine !W ho;lia;refine⟨p,d,f,n,rows,r,rfl,st,λt H2 O ω Y ι ζ hn γ=>?_⟩;lia;rw[shl1,b5];have π:=Y.get ho;have δ:=st.same Y;have lf:=M.fr_len rows;refine iteB (λZ=>?_) (λZ=>?_)
 ·have hz:r^^^M.sm rows O=0:=by have:=V.int.inj (v5 Z);omega
  obtain⟨nms,ξ,η⟩:=δ.hn;have ln:=η.len;lia;refine !aw π T.fU T.kT;lia;refine fX ξ (by rw[aI];exact aO @A) fun ο α=>?_;lia;exact q ο (λb o h1 h2 θ e=>α.oth _ _ θ (Y.get e)) (δ.null ζ hz η ξ α)
 ·have hz:r^^^M.sm rows O≠0:=λz=>by rw[z] at Z;exact hF Z @D
  obtain⟨es,hd,ht,g,le⟩:=δ.he;have ρ:=δ.hf;lia;refine !aw π T.fU T.gM;lia;refine fX δ.hf (by rw[aI];exact aO @A) fun ο α=>?_;have e3:=α.oth _ _ (cF ι δ.hf @C) ι;have ν:=α.oth _ _ (cF π δ.hf @C) π;have G:=α.oth _ _ (cF hd δ.hf @C) hd;lia;intro t' H4 ψ L τ;lia;refine !aw (!aj ν) T.fU T.dz;lia;refine Pz (!aj G) (by unfold sh;rw[aI];exact aO @A) fun φ β=>?_;lia;refine q φ (λb o h1 h2 θ e=>β.oth _ _ h1 (!aj (α.oth _ _ h2 (Y.get e)))) (δ.more ζ hz (hn hz) γ α L τ hd ht g le ?_);have χ:(((r^^^M.sm rows O).log2 + 1:Nat):Int) - 1=(((r^^^M.sm rows O).log2:Nat):Int):=by omega
  rw[pK hz,χ] at β;exact β
theorem iJ (T:@L):!H 3 a.bO a.nM ["self","rows"] (O0 a.bF):=by
 refine T.dk.1.okA iD λa4 A outer s H vs Q E χ h=>?_;obtain⟨x,dx,r,rows,rfl,hw,hl,θ,q⟩:=h;have hu:=qZ χ;have φ:r≠x:=cF hw θ @C
 refine⟨_,((ae (!aA rM)
  (ae (!aA @an)
  (ae (!aA @an)
  (ai (!aS lI (DJ (K:=K) rfl @G T.fA @I) (uA rfl (aZ (!bJ iD.nd @F) (aZ (!bM iD.nd @F) ie))) (bp (fc @K T.fU T.DY (BE T) (χ.mono @D) T.kM.2 .nil bW (!ah 2 3))))))))),!bT rfl⟩
 lia;intro d H1 τ υ e1;lia;have ο:d≠x:=λz=>by rw[z,θ] at τ;cases τ
 refine cW (υ.get θ) T.fU T.dz @D rfl λH2 Y=>?_;lia;intro f H3 δ ζ e3;lia;have ρ:f≠x:=λz=>by rw[z,Y.at'] at δ;cases δ
 refine cW (ζ.get Y.at') T.fU T.gM (by show 1 < 1000;decide) rfl λH4 L=>?_;lia;intro n H5 γ β e5;lia;have η:n≠x:=λz=>by rw[z,L.at'] at γ;cases γ
 refine cW (β.get L.at') T.fU T.kT (by show 2 < 1000;decide) rfl fun ψ G=>?_;have k1:∀b o,b≠x->H b=ak o->H2 b=ak o:=λb o Z e=>Y.oth _ _ Z (υ.get e);have k2:∀b o,b≠x->H b=ak o->H4 b=ak o:=λb o Z e=>L.oth _ _ Z (ζ.get (k1 b o Z e));have k3:∀b o,b≠x->H b=ak o->ψ b=ak o:=λb o Z e=>G.oth _ _ Z (β.get (k2 b o Z e));have nd:∀b o,H b=ak o->b≠d:=λb o e=>aj e τ;have nf:∀b o,b≠x->H b=ak o->b≠f:=λb o Z e=>aj (k1 b o Z e) δ;have nn:∀b o,b≠x->H b=ak o->b≠n:=λb o Z e=>aj (k2 b o Z e) γ;have ω:=L.oth _ _ ρ e3;have fn:f≠n:=aj ω γ;have ν:ψ d=ak (.dK (sh [])):=G.oth _ _ ο (β.get (L.oth _ _ ο (ζ.get (Y.oth _ _ ο e1))));have a0:=k3 _ _ φ hw;lia;refine vL (xs:=rows.map nat) (λi σ H'=>∃v O,σ=[ak (!j x),ak (!j r),v,O]/\StA H' a.bF x d f n @bb/\∀b o,b≠x->H b=ak o->H' b=ak o) ?_ ?_ ?_ ?_
 ·refine⟨f',f',rfl,⟨⟨dx,G.at'⟩,⟨[],ν,λ_ h=>hF h @C,M.Ech.nil,rfl⟩,G.oth _ _ ρ (β.get ω),⟨[],G.oth _ _ η e5,M.Nul.nil⟩,fn⟩,k3⟩
 ·rintro i σ H' _ ⟨v,O,_,_,k⟩;exact !ag (k _ _ φ hw)
 ·rintro i y σ H' p H7 hy ⟨v,O,rfl,st,k⟩ fp α e7;obtain⟨ri,ξ,rfl⟩:=aA hy;obtain⟨a3,ι⟩:=(st.same α).ho;lia;refine !W ι;lia;have tl:=zN ξ;refine⟨x,d,f,n,@bb,ri,by rw[tl],st.same α,by rw[tl];have:=(!M ξ).1;omega,λH8 π ε=>?_⟩;lia;refine⟨_,_,rfl,by rw[take_succ ξ];exact ε,λb o Z e=>π b o (nd b o e) (nf b o Z e) (nn b o Z e) (α.get (k b o Z e))⟩
 ·rintro σ H' ⟨v,O,rfl,st,k⟩;rw[aI,ic] at st;lia;exact q H' d f n k st
theorem P5 (T:@L):!H 5 a.xR a.OA ["rows"] Pg:=by
 refine T.FK.1.okA Pm fun γ A outer s H vs Q E O h=>?_;obtain⟨r,rows,rfl,hw,hl,q⟩:=h;refine⟨_,((!K (!b9 rfl @G T.ig oD (!Z (aK (K:=K) rfl (ke T.EO (iJ T) (O.mono @D) @G T.Eu T.dk.2 .nil bW @a2) rfl))))),@aL⟩;lia;intro x dx H2 Z G β;refine⟨x,dx,r,rows,rfl,G.get hw,hl,β,fun ε d f n k st=>⟨rfl,?_⟩⟩;obtain⟨τ,ho⟩:=st.ho;refine !aw ho T.fU T.gM;have hf:=st.hf;lia;intro D δ Y L α;have hs:Same H ε:=λb o e=>k b o (!L Z) (G.get e);exact q D δ (hs.free Y) (hs.trans L) α
theorem tJ (T:@L):!H 5 a.kD a.Ci ["rows","wish"] F3:=by
 refine T.mC.1.okA sX λa0 A outer s H vs Q E α h=>?_;obtain⟨r,rows,x,rfl,hw,hl,G,ε,ι,qA,ω⟩:=h
 refine⟨_,((ae (!af sX.nd (ke T.EO (iJ T) (α.mono @D) @G T.Eu T.dk.2 .nil bW @a2))
  (ae (!ax sX.nd (fc @S T.fU T.oK (nH T) (α.mono @D) T.dX.2 .nil bW @ag))
  (ae (d7 (!X lR (!V @U) ah) (!aT (!a9 bc (!aZ (jR T) α T.mn T.iw (!V @U)))) bz)
  (!aT (!a9 bc (fc @S T.fU T.oM (nI T) (α.mono @D) T.dY.2 .nil bW (!Z (!a3 mf (qO (K:=K) rfl Vm UU UT qW (!V @U))))))))))),!bT rfl⟩
 lia;intro p dx H2 f2 π e2;refine⟨p,dx,r,rows,rfl,π.get hw,hl,e2,λH3 d f n k st=>⟨rfl,?_⟩⟩;obtain⟨τ,ho⟩:=st.ho;have hs:Same H H3:=λb o e=>k b o (!L f2) (π.get e);lia;refine !W ho;lia;refine⟨p,d,f,n,rows,x,rfl,st,λt H4 O f4 L e4 ψ hn θ=>?_⟩;lia;refine iteB (fun β=>?_) (fun β=>?_)
 ·have hz:x^^^M.sm rows O=0:=by have:=V.int.inj (v5 β);omega
  have ζ:M.sm rows O=x:=by
   have:=px (x^^^·) hz;simp only[<-U7,Wc,X6,Vf] at this;exact this
  lia;refine⟨O,rfl,!aO ψ hl,λD H5 ξ γ e5=>?_⟩;lia;intro t' ο f6 Z ρ;exact qA t' D ο O (Nd (hs.trans L) ξ) (hs.trans (L.trans (γ.trans Z))) ρ (Z.get e5) ⟨ψ,ζ,θ⟩
 ·have hz:x^^^M.sm rows O≠0:=λz=>by rw[z] at β;exact hF β @D
  have υ:x^^^M.sm rows O < 2 ^ 1000:=M.xor_lt_pow ε (M.span_lt G (M.sm_span rows O));have Y:=M.log2_under hz υ;have χ:¬M.Span rows x:=fun η=>hn hz _ (M.span_xor η (M.sm_span rows O)) hz rfl;have φ:(@bo).length < 64:=ι.resolve_left χ;have ez:(((@cJ).log2 + 1:Nat):Int) - 1=(((@cJ).log2:Nat):Int):=by omega
  lia;refine !W (!aj ho);lia;rw[pK hz,ez];refine⟨p,d,f,n,rows,(@cJ).log2,rfl,st.same L,Y,G,φ,hn hz,λm H5 γ B=>?_⟩;lia;intro t' ο f6 Z ρ;refine ω t' ο m (hs.trans (L.trans (γ.trans Z))) ρ ⟨χ,⟨M.sm rows O,M.sm_span _ _,hz,hn hz,B⟩,B.ev,B.odd hz rfl Y,λW ν δ=>B.lt W ν ?_⟩;exact M.log2_under hz (M.xor_lt_pow δ (M.span_lt ν (M.sm_span rows O)))
theorem wK (T:@L):!H 5 a.nc a.Fz ["rows","width"] Ga:=by
 refine T.pQ.1.okA Bl λa7 A outer s H vs Q E ε h=>?_;obtain⟨r,rows,wd,rfl,hw,hl,δ,O,a0,q⟩:=h;have hu:=qZ ε
 refine⟨_,((ae (!af Bl.nd (ke T.EO (iJ T) @bK @G T.Eu T.dk.2 .nil bW @a2))
  (!K (bA (osc:=ag vD) (ON:=["rows","width","steps"]) (N:=["bit","steps"]) (n:=1) (fx:=[2]) rfl rfl rfl @O (!b4 @G @ag) @Q (!bk (aq (i:=0) (show ka (["bit","steps"]:C') from by decide +kernel) rfl @F) (Fb (Bv hu @K (aK (K:=K) rfl @I rfl))) (fc @I T.fU T.oM (nI T) @bK T.dY.2 .nil bW @a2)))))),!cc rfl⟩
 lia;intro x dx H2 f2 s2 e2;refine⟨x,dx,r,rows,rfl,s2.get hw,hl,e2,λH3 d f n k st=>⟨rfl,?_⟩⟩;obtain⟨τ,ho⟩:=st.ho;obtain⟨es,hd,ht,g,le⟩:=st.he;have nd:(@da).Nodup:=by have:=g.nd;rw[u2] at this;exact this
 have hs:Same H H3:=λb o e=>k b o (!L f2) (s2.get e);have γ:∀r∈rows,r < 2 ^ 1000:=λr ε=>fy (O r ε) (gA @D δ);lia;intro D ω;refine dW (λi ys H'=>∃ms:Cr,ys=ms.map nat/\ms=M.acr rows i/\Same H3 H'/\H' D=ak @X/\ms.length=((kv i).filter λk=> !decide @cR).length/\M.Inj ms/\(∀m∈ms,∃b,b < i/\M.Bar rows b m)/\∀b,b < i->NC rows b->∃m,m∈ms/\M.Bar rows b m) ⟨[],rfl,rfl,bj ω,ay,rfl,M.Inj.nil,λ_ h=>hF h @C,λb hb=>hF hb (VQ _)⟩ (λi ys H' hi hP=>?_) (λys H' hP=>?_)
 ·obtain⟨ms,rfl,ι,s',θ,lm,inj,η,υ⟩:=hP
  have a3:ms.length<=i:=by
   rw[lm];have:=VB (λk=> !decide @cR) (kv i);rw[qQ] at this;exact this
  have a4:i < wd:=by omega
  lia;refine !aw (!a2 ho) T.fU T.dz;refine PD (!a2 hd) ?_;lia;rw[Wg];rcases sT es (i:Int) with ⟨e,he,ez,ev⟩ | ⟨ρ,hv⟩
  ·rw[ev];lia
   have ψ:M.acr rows @J=M.acr rows i:=M.acr_in λhn=>by
    have G:(e.m,e.p)∈es.map (λe=>(e.m,e.p)):=hD.mpr ⟨e,he,rfl⟩;exact hF @A (hn e.m (g.span G) (g.nz _ G))
   refine⟨by rw[ψ];exact ι,s',θ,?_,inj,λm hm=>let ⟨b,hb,B⟩:=η m hm;⟨b,@A,B⟩,λb hb hn=>?_⟩
   rotate_left
   ·by_cases eb:b=i
    ·subst eb;obtain⟨Z,β,a5,a6⟩:∃Z∈es,((Z.m.log2:Nat):Int)=(b:Int)/\True:=⟨e,he,ez,trivial⟩;have G:(Z.m,Z.p)∈es.map (λe=>(e.m,e.p)):=hD.mpr ⟨Z,β,rfl⟩;exact hF @A (hn Z.m (g.span G) (g.nz _ G))
    ·exact υ b @A hn
   have π:i∈es.map λe=>e.m.log2:=hD.mpr ⟨e,he,@A⟩;rw[lm,V9,UV,show([i].filter λk=> !decide @cR)=[] from by rw[VF,hE π];rfl,UY]
  ·rw[hv]
   have α:NC rows i:=λy hy Y hl2=>by
    obtain⟨e,he,ζ⟩:=g.all y hy Y;obtain⟨Z,β,rfl⟩:=hD.mp he;exact ρ Z β (by have:Z.m.log2=y.log2:=ζ;omega)
   lia;refine !W (!a2 ho);lia;refine⟨x,d,f,n,rows,i,rfl,st.same s',@A,γ,a0,α,λm H4 L B=>?_⟩;refine⟨!aj θ,by rw[aI];exact aO @A,ms++[m],by rw[dt];rfl,by rw[M.acr_out γ α B,ι],λb o e=>?_,ay,?_,inj.own B.bit (λy hy=>?_),λy hy=>?_,λb hb hn=>?_⟩
   ·rw[aH (!L ω)];exact !aj @af
   ·have χ:¬i∈es.map λe=>e.m.log2:=λz=>by
     obtain⟨e,he,ζ⟩:=hD.mp z;exact ρ e he @A
    rw[fD,lm,V9,UV,show([i].filter λk=> !decide @cR)=[i] from by rw[VF,hA χ];rfl,fD];rfl
   ·obtain⟨b,hb,B'⟩:=η y hy;exact B'.oth i @A α
   ·rcases gz.mp hy with hy | hy
    ·obtain⟨b,hb,B'⟩:=η y hy;exact⟨b,@A,B'⟩
    ·rw[gs] at hy;subst hy;exact⟨i,@A,B⟩
   ·by_cases eb:b=i
    ·subst eb;exact⟨m,!Q @c1,B⟩
    ·obtain⟨ν,ο,B'⟩:=υ b @A hn;exact⟨ν,!N ο,B'⟩
 ·obtain⟨ms,rfl,ι,s',θ,lm,inj,η,υ⟩:=hP;rw[lj] at lm η υ ι;subst ι;refine q D H' (hs.free ω) (hs.trans s') θ ⟨?_,inj,λm hm=>?_,λm hm=>?_,λz hz φ=>?_⟩
  ·have hc:=M.count_not (n:=wd) nd λt ξ=>by
    obtain⟨e,he,rfl⟩:=hD.mp ξ;have G:(e.m,e.p)∈es.map (λe=>(e.m,e.p)):=hD.mpr ⟨e,he,rfl⟩;exact M.log2_under (g.nz _ G) (M.span_lt O (g.span G))
   rw[aI] at hc;omega
  ·obtain⟨b,hb,B⟩:=η m hm;exact B.lt wd O hb
  ·obtain⟨b,hb,B⟩:=η m hm;exact B.ev
  ·exact M.bars_all δ O (λb hb hn=>let ⟨m,hm,B⟩:=υ b hb hn;⟨m,M.span_mem hm,B⟩) hz φ
section
local macro_rules | `(tactic| walk_at "l2step") =>`(tactic| first | ((with_reducible refine' cJ ?e ?_);(case e=>walk_at "l2kind")) | ((with_reducible refine' eP ?e ?_);(case e=>walk_at "l2kind")) | (with_reducible refine bL ?_) | (with_reducible refine cN ?_))
theorem GI (T:@L):!H 3 a.kI a.Cq @dn L8:=by
 have θ:FnOk P w K mg base CX0 2 a.i8 a.xX ["thing","width"] (De K):=pD T;refine T.sR.1.okA Gf λY A outer s H vs Q E G h=>?_;obtain⟨t,x,y,n,m,rfl,ht,O,L,q⟩:=h
 refine⟨_,((ae (d7 (PW.pt (uS (!b6 (aM @cc @G T.g7 V4 (!b3 0 (tH (v:= .ty "tuple") @G T.lV zt rfl)))) (uz (!X MG (!aa @a2) ah)))) (!K DK) bz)
  (!K (uB (ao θ G T.oQ T.jc (aa @ad @ag)) (wA (ao θ G T.oQ T.jc (aa @ad @ae))))))),!bn rfl⟩
 lia;refine rE (c7 O) ?_;lia;rw[c7 L];exact q
theorem yu (T:@L):!H 4 a.eh a.sA @dk Pb:=by
 have G:FnOk P w K mg base CX0 1 a.gh a.pJ ["thing"] (vB K):=qR T;refine T.jJ.1.okA yl fun ε A outer s H vs Q E α h=>?_;obtain⟨n,o,m,nx,os,rfl,t,q⟩:=h
 refine⟨_,((ae (!aK (PW.pt (uS (!b6 (ao G α T.um T.jT @a2)) (uS (!X GF @K ah) (uz (!X qP @K (!bV @G T.AN)))))) (mS V0 T.gW thr0 rfl @G T.pI (!Z bc)))
  (ae (!aK (PW.pt (uS (!b6 (aM @cc @G T.g7 V4 (!b3 1 (tH (v:= .ty "list") @G T.ig oD rfl)))) (uz (!X qP (!aa @ag) (kg (v:= .int 120) @G T.nW ⟨_,rfl⟩))))) (mS V0 T.gW thr0 rfl @G T.pI (!Z bc)))
  (ae (!aK (PW.pt (uS (!b6 (aM @cc @G T.g7 V4 (!b3 2 (tH (v:= .ty "list") @G T.ig oD rfl)))) (uz (!X qP (!aa @ae) (!bV @G T.p3))))) (mS V0 T.gW thr0 rfl @G T.pI (!Z bc)))
  (ai (!aK (!b6 (aM (ya (K:=K) rfl rfl) @G T.Qc XH (!Z (bA (osc:=ag jC) (ON:=["inputs","nexts","outs"]) (N:=["pair","nexts","inputs"]) (n:=1) (fx:=[1,0]) rfl rfl rfl @O (!U (av g6 @I @S)) @Q (!O (aq (i:=0) (show ka (["pair","nexts","inputs"]:C') from by decide +kernel) rfl @F) (ao (GI T) α T.Kq T.sR (!ar 0 (aa (!aa @ag) @ae)))))))) (mS V0 T.gW thr0 rfl @G T.pI (!Z bc)))))))),!bn rfl⟩
 lia;have m6:=t.m6;have ln:=t.ln;have lo:=t.lo;have hn:=t.n;have ho:=t.o;have γ:(refs nx).length=nx.length:=aI ..
 have ζ:(refs os).length=os.length:=aI ..
 refine jW (hA @A) ?_;lia;refine jW (hA @A) ?_;lia;refine jW (hA @A) ?_;lia;refine lH hn ho (by rw[ix];omega) λp H2 η Z δ=>?_;lia;intro D ω;refine aN (xs:=refs nx++refs os) (λi ys H'=>Cs (!bQ (hC i true)) H2 D i ys H') (!a4 ω) (!aF δ) (λi x ys H' Y c=>?_) @c3
 ·have Y:(refs @b3)[i]? =ak x:=by unfold refs at Y ⊢;rw[dt];exact Y
  obtain⟨L,O,rfl⟩:=aA Y;have hm:=eH O;have hi:=(!M O).1;rw[fD] at hi;have hb:=t.bn L hm;have ht:H L.1=ak (!G [nat L.2.1,nat L.2.2]):=(gz.mp hm).elim (t.pn L) (t.po L);have θ:=c.same.get (Z.get hn);lia;rw[γ];refine⟨L.1,L.2.1,L.2.2,nx.length,m,rfl,!bi (Z.get ht),hb.1,hb.2,?_⟩;refine Cs.put ω c.same c.at' c.len @A ?_;rw[c.pv,Wn,dt];rfl
 ·have β:=c.at';rw[c.pv] at β;lia;refine E3 (!ag β) ?_;lia;refine jW (by rw[List.all_replicate];simp) ?_;lia;exact q H' (Z.trans c.same)
theorem ko (T:@L):!H 5 a.bx a.kX @dy (O8 a.ar):=by
 refine T.dw.1.okA qC fun ψ A outer s H vs Q E ο h=>?_;obtain⟨x,dx,n,o,m,nx,os,rfl,α,t,q⟩:=h
 refine⟨_,((ae (bp (ao (yu T) ο T.AJ T.jJ (!ar 1 (!ah 2 3))))
  (ae (!aA @I)
  (ae (!aA (!bx rfl @G T.lV zt @ae))
  (ai (!aA (!bx rfl @G T.lV zt (!a5 3)))))))),!c0 ?_⟩
 lia;refine⟨n,o,m,nx,os,rfl,t,λH1 γ=>?_⟩;have θ:=cF t.n α @C;have L:=cF t.o α @C;lia;refine cW (γ.get α) T.aB T.bM @D rfl λH2 O=>?_;have τ:=O.oth _ _ θ (γ.get t.n);have π:=O.oth _ _ L (γ.get t.o);lia;intro ι H3 δ η χ;have ω:ι≠x:=λz=>by rw[z,O.at'] at δ;cases δ
 lia;refine cW (η.get O.at') T.aB T.cD (by show 1 < 1000;decide) rfl λH4 G=>?_;have ρ:=G.oth _ _ L (η.get π);have φ:=G.oth _ _ ω χ;lia;intro to H5 ξ ζ υ;have ε:to≠x:=λz=>by rw[z,G.at'] at ξ;cases ξ
 lia;refine cW (ζ.get G.at') T.aB T.dA (by show 2 < 1000;decide) rfl fun ν β=>?_;have k:∀b ob,b≠x->H b=ak ob->ν b=ak ob:=λb ob Z e=>β.oth _ _ Z (ζ.get (G.oth _ _ Z (η.get (O.oth _ _ Z (γ.get e)))));lia;refine q ν k ⟨⟨dx,ι,to,β.at',β.oth _ _ ω (ζ.get φ),β.oth _ _ ε υ⟩,λY h=>k _ _ ?_ (t.pn Y h),λY h=>k _ _ ?_ (t.po Y h)⟩
 ·exact cF (t.pn Y h) α @C
 ·exact cF (t.po Y h) α @C
theorem bT (T:@L):!H 1 a.bR a.nP @ai (Iy a.ar):=by
 refine T.bh.1.okA tf λG A outer s H vs Q E O h=>?_;obtain⟨p,m,nx,os,rfl,ma,q⟩:=h;obtain⟨dx,L,to,ho,hn,π⟩:=ma.ho;refine⟨_,((!K (!aa @aE))),@aL⟩;lia;refine !aJ ho T.cD;lia;unfold refs;rw[aI];exact q
theorem JH (T:@L):!H 2 a.m9 a.Fy ["pair","state","row"] Me:=by
 refine T.vQ.1.okA IW λL A outer s H vs Q E G h=>?_;obtain⟨t,a1,b1,x,r,rfl,ht,ha,hb,q⟩:=h;refine⟨_,((!K (jq MG (!aZ (DQ T) G T.Kr T.zI (av mh @ad @I)) (!aZ (DQ T) G T.Kr T.zI (av mh @ad @S)) @bk))),!bn rfl⟩;lia;rw[g8];refine⟨a1&&&x,rfl,w2 Zj ha,?_⟩;lia;rw[g8];refine⟨b1&&&r,rfl,w2 Zj hb,?_⟩;lia;rw[HU];exact q
theorem rQ (T:@L):!H 3 a.fE a.uD ["pairs","state","row"] (O4 K):=by
 refine T.ja.1.okA zR fun ε A outer s H vs Q E Z h=>?_;obtain⟨r,ps,x,y,rfl,β,pt,hl,hb,q⟩:=h;refine⟨_,((!K (!aZ (tK T) Z T.xM T.mE (bA (osc:=ag kP) (ON:=["pairs","state","row"]) (N:=n22) (n:=2) (fx:=[1,2]) rfl rfl rfl @O (rL (K:=K) rfl @G T.fA @K) (xI (fj @Q (fj @Q rf))) (!bk (!bK rfl rfl (aq (i:=0) (show ka (n22:C') from by decide +kernel) rfl @F) (aZ (aq (i:=1) (show ka (n22:C') from by decide +kernel) rfl @F) ie)) (gZ (ao (JH T) Z T.M9 T.vQ (!ar 1 (!ah 2 3)))) @K))))),!bn rfl⟩;lia;refine !F ⟨⟨_,β⟩,?_⟩;intro D ω;refine uq (xs:=refs ps) (!bR (λi ys=>∃qs:Cr,ys=qs.map nat/\(∀p∈qs,p < i)/\M.xm qs=M.tr2 (prs @c2) x y)) (Cs.zero ω ⟨[],rfl,λ_ h=>hF h @C,rfl⟩) (λi ys H' _ c=>Same.tup c.same β) (λi v ys H' p η δ c fp α ζ=>?_) @c3
 ·obtain⟨L,O,rfl⟩:=aA δ;obtain⟨qs,φ,Y,G⟩:=c.pv;have hm:=eH O;have hi:=(!M O).1;have ht:=α.get (!bi (pt L hm));have ts:=LV x y O;lia;refine⟨L.1,L.2.1,L.2.2,x,y,rfl,ht,(hb L hm).1,(hb L hm).2,?_⟩;cases ψ:(M.od (L.2.1&&&x)^^M.od (L.2.2&&&y)) with
  | true=>
    rw[ψ,oL rfl] at ts;lia;refine !bL ω α (α.get c.at') c.len @A ⟨qs++[i],?_,λk hk=>?_,?_⟩
    ·rw[φ,dt];rfl
    ·rcases gz.mp hk with h | h
     ·have:=Y k h;omega
     ·rw[gs.mp h];omega
    ·rw[M.xm_snoc,G,ts]
  | false=>
    rw[ψ,mu ia,Vf] at ts;lia;refine Cs.skip (c.same.trans α) (α.get c.at') c.len ⟨qs,φ,λk hk=>?_,?_⟩
    ·have:=Y k hk;omega
    ·rw[G,ts]
 ·obtain⟨qs,φ,Y,G⟩:=c.pv;rw[d6] at Y G;have γ:=c.at';rw[φ] at γ;lia;refine⟨D,qs,rfl,γ,λk hk=>by have:=Y k hk;omega,?_⟩;rw[G,ic];exact q _ c.same
theorem ff (T:@L):FnOk P w K mg base (CX1 P w) 3 a.aX a.i9 ["self","state"] (Q6 K a.ar a.eQ):=by
 refine T.bC.1.okX nS @cl (λO A outer s H vs Q E L h=>?_)
 ·obtain⟨p,m,nx,os,x,k,rfl,_⟩:=h;rfl
 ·obtain⟨p,m,nx,os,x,k,rfl,ma,hk,G,β⟩:=h;obtain⟨dx,Y,to,ho,hn,π⟩:=ma.ho;refine⟨_,((ai (!aK (!b6 (!an (pD T) L T.oQ T.jc 1 (!aa @aE))) (mS V0 T.jU jA rfl @G T.xO (!Z bc))))),@aN⟩;lia;refine !aJ ho T.cD;lia;rw[d6];cases hm:pV x (nx.length:Int) with
  | false=>
    lia;exact⟨by rw[ix];decide,β hm⟩
  | true=>
    lia;exact G hm
theorem kl (T:@L):FnOk P w K mg base (CX1 P w) 4 a.cy a.qo ["self","state","row"] (Mb K a.ar a.eQ):=by
 refine T.dG.1.okX wk @cl (fun η A outer s H vs Q E O h=>?_)
 ·obtain⟨p,m,nx,os,x,y,kx,δ,rfl,_⟩:=h;rfl
 ·obtain⟨p,m,nx,os,x,y,kx,δ,rfl,ma,g,Y,ε,γ,β⟩:=h;obtain⟨dx,Z,to,ho,hn,π⟩:=ma.ho;have ln:=g.ln;have lo:=g.lo
  refine⟨_,((ae (bp (fZ @K T.aB T.fC (ff T) (O.mono @D) T.bC.2 .nil jA @ag))
   (ae (!aK (!b6 (!an (pD T) O T.oQ T.jc 2 @W)) (mS V0 T.jU jA rfl @G T.xO (!Z bc)))
   (!aT (!a9 (ao (rQ T) O T.uC T.ja (aa @W (!ah 1 2))) (ao (rQ T) O T.uC T.ja (aa @W (!ah 1 2)))))))),!bn rfl⟩
  lia;refine dP ho rfl ?_;lia;refine⟨p,m,nx,os,x,kx,rfl,ma,Y,λhm=>?_,λhm=>β (!J hm)⟩;lia;refine !aJ ho T.bM;lia;cases ρ:pV y (m:Int) with
  | false=>
    lia;exact⟨by rw[ix];decide,β (!F ρ)⟩
  | true=>
    obtain⟨a1,rfl,ha⟩:=vK hm;obtain⟨b1,rfl,hb⟩:=vK ρ;lia;refine !aJ ho T.dA;lia;refine⟨to,os,a1,b1,rfl,SqT.of π,ma.hs,@A,g.b2,λH2 G=>?_⟩;lia;refine !aJ (G.get ho) T.cD;lia;refine⟨Z,nx,a1,b1,rfl,SqT.of (G.get hn),ma.hn.same G,@A,g.b1,fun ν α=>?_⟩;lia;intro t θ ι L ζ;exact γ a1 b1 rfl rfl ha hb t θ (G.trans (α.trans L)) ζ
theorem tM (T:@L):FnOk P w K mg base (CX1 P w) 5 a.bQ a.nO @cD (L1 K a.ar a.eQ):=by
 refine T.eU.1.okX dM @cl (λa5 A outer s H vs Q E ν h=>?_)
 ·obtain⟨p,ι,m,nx,os,x,xs,rfl,_⟩:=h;rfl
 ·obtain⟨p,ι,m,nx,os,x,xs,rfl,G,υ,β⟩:=h;obtain⟨dx,tn,to,ho,hn,a4⟩:=G.ma.ho;obtain⟨kx,π⟩:=G.kx;have ln:=G.ln;have a3:=G.sq
  refine⟨_,((ae (bp (fZ @K T.aB T.fC (ff T) (ν.mono @D) T.bC.2 .nil jA @ae))
   (ae (!ax dM.nd @an)
   (ae (cX (wC @bO) rfl (!U @I) (!bj dM.nd rfl) (ae (!bt dM.nd rfl (fZ @K T.aB T.lX (kl T) (ν.mono @D) T.dG.2 .nil jA (!ah 2 4)))
   (ae (bp (!aB la so sb dq @U (!V @aw)))
   (ai (!af dM.nd (!V @aw))))))
   (!aT (!ah 3 2)))))),aw (σ':=[ak _,ak _,ak _,f',f',f']) rfl ?_⟩
  lia;refine dP ho rfl ?_;lia;refine⟨p,m,nx,os,x,kx,rfl,G.ma,π,λhm=>?_,λhm=>β (!J hm) H (Same.refl _)⟩;obtain⟨ψ,rfl,χ⟩:=vK hm;lia;intro D H1 ξ τ e1;lia;refine fk (xs:=xs) (λi σ H'=>∃(rs:Cr) (v ε:qE V),σ=[ak @P,ak (!j ι),ak (nat (M.wst @E ψ rs)),ak @Z,v,ε]/\Same H H'/\H' D=ak (!a7 (M.wan @E @H ψ rs))/\xs.take i=rs.map nat/\∀r∈rs,r < 2 ^ m) ⟨[],f',f',rfl,τ,e1,rfl,λ_ h=>hF h @C⟩ (λi σ H' _ ⟨_,_,_,_,e,_⟩=>Same.seq e G.sq) ?_ ?_
  ·rintro i y σ H' Z ⟨rs,v,ε,rfl,L,δ,et,ρ⟩;obtain⟨ω,θ⟩:=G.ks y (eH Z);have hi:=(!M Z).1;have φ:rs.length=i:=by have:=px zz et;rw[pa,aI] at this;omega
   have O:M.wst @E ψ rs < 2 ^ nx.length:=by have:=M.wst_lt (ps:=prs nx) (rs:=rs) (x:=ψ) (by rw[az];exact χ);rwa [az] at this
   lia;refine dP (!aj ho) rfl ?_;lia;refine⟨p,m,nx,os,nat (M.wst @E ψ rs),y,"int",ω,rfl,G.ma.same L,G.g,rfl,Kb θ L,λa1 b1 ea eb ha hb t ο α γ=>?_,λY=>?_⟩
   ·have ea:=jv ea;subst ea;subst eb;lia;refine fX (α.get δ) (by rw[aI,M.wan_len,ix];omega) λH8 ζ=>?_;have e8:=ζ.oth _ _ (cF γ (α.get δ) @C) γ;lia;refine⟨rs++[b1],?_⟩;rw[M.wst_snoc,M.wan_snoc,dt];refine⟨_,_,rfl,λb o e=>ζ.oth _ _ (!L ξ) (α.get (!aj e)),ζ.at',?_,λr η=>?_⟩
    ·rw[ad5,et,Z,dt];rfl
    ·rcases gz.mp η with h | h
     ·exact ρ r h
     ·rw[gs.mp h];exact hb
   ·rcases Y with h | h
    ·rw[c7 O] at h;cases h
    ·exact β (!F ⟨y,eH Z,h⟩) H' L
  ·rintro σ H' ⟨rs,v,ε,rfl,L,δ,et,ρ⟩;rw[ic] at et;lia;intro t ο f7 α γ;exact υ ψ rs ⟨rfl,et,χ,ρ⟩ t D ο ξ (L.trans α) γ (α.get δ)
theorem p8 (T:@L):FnOk P w K mg base (CX1 P w) 6 a.cA a.nh @cD (Q2 K a.ar a.eQ):=by
 refine T.iz.okX yo @cl (fun α A outer s H vs Q E Z h=>?_)
 ·obtain⟨p,G,m,nx,os,x,xs,rfl,_⟩:=h;rfl
 ·obtain⟨p,G,m,nx,os,x,xs,rfl,L,Y,β⟩:=h;obtain⟨dx,γ,to,ho,hn,π⟩:=L.ma.ho;refine⟨_,((!K (!V (fZ @K T.aB T.vc (tM T) (Z.mono @D) T.eU.2 .nil jA (!ah 1 2))))),!bn rfl⟩;lia;refine dP ho rfl ?_;lia;refine⟨p,G,m,nx,os,x,xs,rfl,L,λa1 rs g t D H2 δ O et θ=>?_,β⟩;lia;exact Y a1 rs g D H2 δ O θ
theorem tN (T:@L):FnOk P w K mg base (CX1 P w) 7 a.bS a.nQ ["self","which","turns"] (IA K a.ar a.eQ):=by
 refine T.eV.1.okX md @cl (λa0 A outer s H vs Q E η h=>?_)
 ·obtain⟨p,m,nx,os,x,k,G,rfl,_⟩:=h;rfl
 ·obtain⟨p,m,nx,os,x,k,G,rfl,ma,g,hk,hT,χ,β⟩:=h;obtain⟨dx,tn,to,ho,hn,π⟩:=ma.ho;have m6:=g.m6
  refine⟨_,((ae (!aK (PW.pt (uS (!b6 (ao (qR T) η T.um T.jT @ag)) (uS (!X GF @I ah) (uz (!X Sh @I @W))))) (mS V0 T.jU jA rfl @G T.xO (!Z bc)))
   (ae (!ax md.nd (!ab g6 (cR (!Z (av fw ah @I))) Jz (cR (!Z ah)) @S))
   (!K (fZ (dvs:=[.int 0]) @K T.aB T.r6 (p8 T) @bj T.jM (!bf T.rq) jA (!Z (pC @c8 @U tG (tF @S)))))))),aw (σ':=[ak _,ak _,ak _,f']) rfl ?_⟩
  lia;cases x with
  | int i=>
    have hk:k="int":=hk;subst hk;lia;by_cases ι:i < 0
    ·refine rE (hE ι) ?_;lia;exact⟨by rw[ix];decide,β (by show(decide ((0:Int)<=i)&&decide (i < (m:Int)))=false;rw[hA @A];rfl)⟩
    ·refine jW (hA ι) ?_;lia;refine !aJ ho T.bM;lia;by_cases h1:(m:Int)<=i
     ·refine rE (hE h1) ?_;lia;exact⟨by rw[ix];decide,β (by show(decide ((0:Int)<=i)&&decide (i < (m:Int)))=false;rw[hA (show ¬i < (m:Int) by omega),VW])⟩
     ·refine jW (hA h1) ?_;obtain⟨j,rfl⟩:=Ve (show 0<=i by omega);lia;rw[shl1];intro D1 H1 f1 ζ e1;lia;intro D2 H2 f2 Z e2;lia;refine Po e2 @A @A (by rw[ix,lj];simp;omega) λD3 H3 f3 Y ο=>?_;rw[lj,List.flatten_replicate_singleton] at ο;refine lH (Y.get (Z.get e1)) ο (by rw[w5,ix];simp;omega) λD4 H4 f4 ε e4=>?_;have O:[nat @aR]++hC G (V.int 0)=(2 ^ j::hC G 0).map nat:=by rw[UL,List.map_replicate];rfl
      rw[O] at e4;lia;refine dP (ε.get (Y.get (Z.get (ζ.get ho)))) rfl ?_;lia;intro D5 H5 ξ φ ν;rw[AS _ G (by rw[aI,pA,w5];omega),<-Z5,M.pulse_eq] at ν;have L:=ζ.trans (Z.trans (Y.trans (ε.trans φ)));lia;refine⟨p,D5,m,nx,os,nat 0,(M.pulse j G).map nat,rfl,⟨!aL L,g,⟨"int",rfl⟩,!ag ν,HG.nats _ _ _,by rw[aI,M.pulse_len];omega⟩,λa1 rs gd D H6 δ υ θ=>?_,fun ρ=>?_⟩
      ·obtain⟨ea,τ,_,_⟩:=gd;have ea:=jv ea;subst ea
       have τ:rs=M.pulse j G:=by
        have:=px (Xa λv:V=>match v with | .int i=>i.toNat | _=>0) τ;rw[u2,u2] at this;exact(this.symm.trans (YM _)) ▸ (YM _).symm ▸ rfl
       subst τ
       have γ:H D=none:=by
        cases ω:H D with
        | none=>rfl
        | some v=>have:=L.get ω;rw[δ] at this;cases this
       exact χ j rfl @A D H6 γ (L.trans υ) θ
      ·rcases ρ with h | ⟨y,ψ,h⟩
       ·rw[show pV (nat 0) (nx.length:Int)=true from c7 @az] at h;cases h
       ·obtain⟨r,α,rfl⟩:=hD.mp ψ;rw[c7 (M.pulse_lt (show j < m by omega) G r α)] at h;cases h
  | bl b=>have hk:k="bool":=hk;subst hk;lia;exact⟨by rw[ix];decide,β rfl⟩
  | non=>have hk:k="NoneType":=hk;subst hk;lia;exact⟨by rw[ix];decide,β rfl⟩
  | str z=>have hk:k="str":=hk;subst hk;lia;exact⟨by rw[ix];decide,β rfl⟩
  | ref p2=>
    rcases hk with ⟨rfl,_⟩ | ⟨rfl,_⟩ | ⟨rfl,_⟩<;>lia<;>exact⟨by rw[ix];decide,β rfl⟩
  | _=>exact UP hk
theorem km (T:@L):FnOk P w K mg base (CX1 P w) 4 a.cB a.qp ["self","mask"] (Mc K a.ar a.eQ):=by
 refine T.dH.1.okX dN @cl (fun φ A outer s H vs Q E γ h=>?_)
 ·obtain⟨p,m,nx,os,x,k,rfl,_⟩:=h;rfl
 ·obtain⟨p,m,nx,os,x,k,rfl,ma,g,hk,Z,β⟩:=h;obtain⟨dx,ω,to,ho,hn,π⟩:=ma.ho;have ln:=g.ln
  refine⟨_,((ae (bp (fZ @K T.aB T.fC (ff T) (γ.mono @D) T.bC.2 .nil jA @ag))
   (ae (!af dN.nd ah)
   (ae (!ax dN.nd ah)
   (ae (cX (wC @bO) rfl (!U (ao (jR T) γ T.mn T.iw @ag)) (!bj dN.nd rfl) (ae (!af dN.nd (av iB @S (!V (!co @W @a7))))
   (ai (!ax dN.nd (av iB @U (!V (!co @W @a7)))))))
   (!aT (!ah 2 3))))))),!c3 rfl⟩
  lia;refine dP ho rfl ?_;lia;refine⟨p,m,nx,os,x,k,rfl,ma,hk,λhm=>?_,β⟩;obtain⟨ψ,rfl,χ⟩:=vK hm;lia;refine⟨ψ,rfl,iH χ @A,λD H1 f1 O ζ=>?_⟩;rw[M.pl_up χ @A] at ζ;generalize ε:nx.map @cb=As at Z;generalize δ:nx.map (λq=>q.2.2)=Bs at Z;have ι:As.length=nx.length:=by rw[<-ε,aI]
  have θ:Bs.length=nx.length:=by rw[<-δ,aI]
  lia;refine !bW (M.pl nx.length ψ) (λi σ H'=>∃v,σ=[ak @P,ak (nat ψ),ak (nat ((!aQ (M.pl nx.length ψ)).foldl (λa p=>a^^^As.getD p 0) 0)),ak (nat ((!aQ (M.pl nx.length ψ)).foldl (λa p=>a^^^Bs.getD p 0) 0)),v]/\H'=H1) ⟨f',rfl,rfl⟩ (λi σ H' _ ⟨_,_,e⟩=>by rw[e];exact SqL.of ζ) ?_
  ·rintro i y σ H' ν ⟨v,rfl,rfl⟩;obtain⟨k,Y,rfl⟩:=aA ν;have α:k < nx.length:=wh.mp (UQ.mp (eH Y)).1;obtain⟨L,G⟩:∃L,nx[k]? =ak L:=⟨_,ef α⟩;have ο:atI (refs nx) (k:Int)=ak (!j L.1):=dE (by unfold refs;rw[hH,G];rfl);have ht:=O.get (ma.hn L (eH G));have ξ:=O.get hn;have τ:As.getD k 0=L.2.1:=by rw[<-ε,dm,hH,G];rfl
   have ρ:Bs.getD k 0=L.2.2:=by rw[<-δ,dm,hH,G];rfl
   lia;refine !aJ (O.get ho) T.cD;lia;refine !aJ (O.get ho) T.cD;lia;refine⟨ak (nat k),?_,rfl⟩;rw[b5,b5,take_succ Y,UZ,UZ];show _=[_,_,ak (nat (_^^^As.getD k 0)),ak (nat (_^^^Bs.getD k 0)),_];rw[τ,ρ]
  ·rintro σ H' ⟨v,rfl,rfl⟩;rw[aI,ic,M.sm_places As ψ (by rw[ι];exact χ) nx.length @A,M.sm_places Bs ψ (by rw[θ];exact χ) nx.length @A];lia;intro t H2 f2 η υ;exact Z ψ rfl χ t H2 (O.trans η) υ
theorem dn (T:@L):!H 1 a.bD a.mw @ai (F6 a.ar):=by
 refine T.bG.1.okA rA λG A outer s H vs Q E O h=>?_;obtain⟨p,m,nx,os,rfl,ma,q⟩:=h;obtain⟨dx,L,to,ho,hn,π⟩:=ma.ho;refine⟨_,((!K (!aa @aE))),@aL⟩;lia;refine !aJ ho T.dA;lia;unfold refs;rw[aI];exact q
theorem Pk (y n:Nat):(y:Int) * 2 ^ ((n:Int).toNat)=((y <<< n:Nat):Int):=by rw[lj,rK,VD];norm_cast
theorem K6 (w n:Nat):Vx (w:Int) ((1:Int) * 2 ^ ((n:Int).toNat) - 1)=((w % 2 ^ n:Nat):Int):=by
 have h:=mm n;rw[Ym,lj,show((2:Int) ^ n - 1)=((2 ^ n - 1:Nat):Int) by rw[Int.natCast_sub h];push_cast;rfl,g8,Vy]
theorem BB (T:@L):!H 1 a.m8 a.Fx ["pair","stores"] IK:=by
 refine T.sQ.1.okA IV λL A outer s H vs Q E O h=>?_;obtain⟨t,x,y,n,rfl,et,hn,G,q⟩:=h;have Y:CPow (y:Int) (n:Int):=⟨@A,@A,by rw[XC];exact G⟩;refine⟨_,((!K (!ab iB @ad fw @ad @I))),@aN⟩;lia;rw[Pk,b5];exact q
theorem p7 (T:@L):!H 8 a.d9 a.sx ["machine","bars"] (F2 a.ar):=by
 refine T.ir.1.okA gC λa8 A outer s H vs Q E Y h=>?_;obtain⟨p,D,m,nx,os,bars,rfl,ma,g,ν,θ,lb,hb,q⟩:=h;obtain⟨dx,tn,to,ho,hn,ω⟩:=ma.ho;have m6:=g.m6
 refine⟨_,((ae (!af gC.nd (!aI T.aB T.b6 (bT T) (Y.mono @D) T.bh.2 bW))
  (ae (b7 (osc:=ag d4) (ON:=n17) (N:=["pair","stores"]) (n:=1) (fx:=[2]) (i:=3) gC.nd rfl rfl rfl rfl rfl rfl @O (!bc @W) @Q (!O (aq (i:=0) (show ka (["pair","stores"]:C') from by decide +kernel) rfl @F) (!aR (BB T) Y T.Ft T.sQ 0 1)))
  (ae (bp (!aB la UJ UI il @U (bA (osc:=ag d4) (ON:=n17) (N:=["bar","machine","stores"]) (n:=1) (fx:=[0,2]) rfl rfl rfl @O (!U @I) @Q (!O (aq (i:=0) (show ka (["bar","machine","stores"]:C') from by decide +kernel) rfl @F) (ao (BB T) Y T.Ft T.sQ (aa (fZ @I T.aB T.lY (km T) (Y.mono @D) T.dH.2 .nil thr0 @a2) @ae))))))
  (ae (!b7 gC.nd rfl (!an (wK T) Y T.AM T.pQ 3 (av cL @S @W)))
  (ae (b7 (osc:=ag d4) (ON:=n17) (N:=n12) (n:=1) (fx:=[2]) (i:=5) gC.nd rfl rfl rfl rfl rfl rfl @O (!U @a7) @Q (!O (aq (i:=0) (show ka (n12:C') from by decide +kernel) rfl @F) (!ab mh @K mf (av fw ah @I) ah)))
  (!K (bA (osc:=ag d4) (ON:=n17) (N:=["place","ways"]) (n:=1) (fx:=[4]) rfl rfl rfl @O (!U (ao (P5 T) Y T.SS T.FK (!a5 5))) @Q (!O (aq (i:=0) (show ka (["place","ways"]:C') from by decide +kernel) rfl @F) (!ad @I @K)))))))))),aw (σ':=[ak _,ak _,f',f',f',f']) rfl ?_⟩
 lia;refine !W ho;lia;refine⟨p,_,nx,os,rfl,ma,?_⟩;lia;refine !aJ ho T.dA;refine⟨to,rfl,⟨_,SqT.of ω⟩,?_⟩;intro D1 ι;have lo:=g.lo;refine nj (xs:=refs os) (λi ys H'=>Cs (!be ((os.take i).map λq=>M.jd nx.length q.2)) H D1 i ys H') (!a4 ι) (!c1 ω) @cY @ch
 ·obtain⟨r,β,rfl⟩:=aA γ;have hi:=(!M β).1;have hm:=eH β;have O:=c.same.get (ma.hs r hm);have a4:=(g.bn r (!Q hm)).2;lia;refine⟨r.1,r.2.1,r.2.2,nx.length,rfl,O,@A,!a6 a4,?_⟩;refine Cs.put ι c.same c.at' c.len @A ?_;rw[c.pv,take_succ β,dt,dt];rfl
 have e1:=c.at';rw[c.pv,show(refs os).length=os.length from aI ..,ic] at e1;have s1:=c.same;clear c;have υ:=s1.get θ;have a5:=s1.get ho;lia;intro D2 φ;refine aN (xs:=bars.map nat) (!ck (!be ((bars.take i).map λb=>M.jd nx.length (M.sm @cP b,M.sm @cv b)))) (!a4 φ) (!aF υ) @cY (λys H2 c=>?_)
 ·obtain⟨b,Z,rfl⟩:=aA γ;have hi:=(!M Z).1;have hm:=eH Z;have ο:=s1.trans c.same;lia;refine dP (ο.get ho) rfl ?_;lia;refine⟨p,m,nx,os,nat b,"int",rfl,!aL ο,g,rfl,λa1 ea ha t7 H7 α e7=>?_,fun ρ=>?_⟩
  ·have ea:=jv ea;subst ea;lia;refine⟨t7,_,_,nx.length,rfl,e7,@A,?_,?_⟩
   ·exact fy (M.sm_lt (t:=m) _ (λx τ=>by
     obtain⟨r,Y,rfl⟩:=hD.mp τ;exact(g.bn r (!N Y)).2)) (gA @D @A)
   ·refine !bL φ α (α.get c.at') c.len @A ?_;rw[c.pv,take_succ Z,dt,dt];rfl
  ·rw[c7 (hb b hm)] at ρ;cases ρ
 have e2:=c.at';rw[c.pv,aI,ic] at e2;have s2:=c.same;clear c;lia;have π:D1≠D2:=λz=>by rw[<-z,e1] at φ;cases φ
 refine iY (s2.get e1) e2 (by rw[aI,aI,aI,aI];exact Vw @b6) π λH3 u3=>?_;have s3:=u3.same ι (s1.trans s2);have e3:=u3.at';rw[<-dt,show(os.map λq=>M.jd nx.length q.2)++(bars.map λb=>M.jd nx.length (M.sm @cP b,M.sm @cv b))=M.rowsJ @E @H bars by unfold M.rowsJ;rw[az,show(@E).map (·.1)=nx.map λq=>q.2.1 by rw[u2];rfl,show(@E).map (·.2)=nx.map λq=>q.2.2 by rw[u2];rfl,u2];rfl] at e3;clear u3 e1 e2 υ a5 φ π;lia;refine !aJ (s3.get ho) T.bM;lia
 have a3:∀q∈prs nx++prs os,q.1 < 2 ^ nx.length:=λq δ=>by
  rcases gz.mp δ with h | h
  ·obtain⟨r,Y,rfl⟩:=hD.mp h;exact(g.bn r (!N Y)).1
  ·obtain⟨r,Y,rfl⟩:=hD.mp h;exact(g.bn r (!Q Y)).1
 have ε:∀r∈M.rowsJ (prs nx) (prs os) bars,r < 2 ^ @ce:=λr Y=>by
  unfold M.rowsJ at Y;rw[az] at Y;rcases gz.mp Y with h | h
  ·obtain⟨q,δ,rfl⟩:=hD.mp h;obtain⟨r',β,rfl⟩:=hD.mp δ;exact M.jd_lt (g.bn r' (!Q β)).1 (g.bn r' (!Q β)).2
  ·obtain⟨b,Z,rfl⟩:=hD.mp h;refine M.jd_lt (M.sm_lt _ λx τ=>?_) (M.sm_lt _ λx τ=>?_)
   ·obtain⟨q,δ,rfl⟩:=hD.mp τ;obtain⟨r,Y,rfl⟩:=hD.mp δ;exact(g.bn r (!N Y)).1
   ·obtain⟨q,δ,rfl⟩:=hD.mp τ;obtain⟨r,Y,rfl⟩:=hD.mp δ;exact(g.bn r (!N Y)).2
 have ψ:(!br @E @H).length=os.length + bars.length:=by
  unfold M.rowsJ;rw[fD,aI,az,aI]
 refine⟨D1,_,nx.length + m,rfl,e3,by rw[ψ];omega,@A,ε,w2 (M.rank_le ε) @A,λD4 H4 f4 L e4 ac=>?_⟩;have ok:=Q1 (ps:=prs nx) (os:=prs os) (m:=m) (bars:=bars) (by rw[az];omega) (by rw[az];exact a3) (by rw[az];exact hb) (by rw[az];exact ac);have hw:swy @E @H m bars=(M.fr ((M.acr (!br @E @H) @ce).map (· % 2 ^ nx.length))).map λi=>(M.acr (!br @E @H) @ce).getD i 0:=by unfold swy;rw[az]
 have G:=λ(D2:ee) (H2:Hp) h1 h2 h3=>q D2 H2 h1 h2 h3 ok;rw[hw] at G;have η:=ac.lt;have ll:(M.acr (!br @E @H) @ce).length<=nx.length + m:=by have:=ac.len;omega
 generalize M.acr (!br @E @H) @ce=ws at *
 clear q ok hw ψ ε a3 e3;have ξ:=s3.trans L;clear ac;lia;intro D5 χ;have hc:CPow (1:Int) (nx.length:Int):=⟨@A,@A,@D⟩;refine aN (xs:=ws.map nat) (!ch (!be ((@bX).map (· % 2 ^ nx.length)))) (!a4 χ) (!aF e4) @cY @bV
 ·obtain⟨b,Z,rfl⟩:=aA γ;have hi:=(!M Z).1;lia;refine Cs.put χ c.same c.at' c.len @A ?_;rw[c.pv,take_succ Z,dt,dt,K6];rfl
 have e5:=c.at';rw[c.pv,aI,ic] at e5;have s5:=c.same;clear c;lia;refine⟨D5,_,rfl,e5,by rw[aI];omega,λD6 H6 f6 s6 e6=>?_⟩;have a6:=(s5.trans s6).get e4;have lf:=λi hi=>M.fr_lt (rows:=ws.map (· % 2 ^ nx.length)) i hi
 have a7:(M.fr (!aM (· % 2 ^ nx.length))).length<=nx.length:=M.rank_le λr Y=>by
  obtain⟨x,_,rfl⟩:=hD.mp Y;exact Y0 _ @az
 rw[aI] at lf;generalize M.fr (!aM (· % 2 ^ nx.length))=ks at *
 lia;intro D7 ζ;refine aN (xs:=ks.map nat) (λi ys H'=>Cs (!be ((ks.take i).map λi=>ws.getD i 0)) H6 D7 i ys H') (!a4 ζ) (!aF e6) @cY (λys H7 c=>?_)
 ·obtain⟨k,hk,rfl⟩:=aA γ;have hi:=(@b5).1;have a0:=lf k (eH hk);have ex:=c.same.get a6;lia;refine Gk (!ag ex) (dE (v:=nat (ws.getD k 0)) <| by rw[hH,ef a0,dm,ef a0];rfl) ?_;refine Cs.put ζ c.same c.at' c.len @A ?_;rw[c.pv,take_succ hk,dt,dt];rfl
 have e7:=c.at';rw[c.pv,aI,ic] at e7;have α:=c.same;clear c;lia;exact G D7 H7 (((ξ.trans s5).trans s6).free ζ) ((((ξ.trans s5).trans s6)).trans α) e7
theorem JF (T:@L):!H 1 a.mY a.Fv ["masks","width"] L9:=by
 refine T.vO.1.okA oi fun ε A outer s H vs Q E ζ h=>?_;obtain⟨r,ps,wd,rfl,γ,hl,hw,hb,q⟩:=h
 refine⟨_,((ae (!af oi.nd ah)
  (ae (!aS lI (DJ (K:=K) rfl @G T.fA @K) (uA rfl (aZ (!bM oi.nd @F) (aZ (!bj oi.nd rfl) ie))) (!af oi.nd (!ab iB @S fw @a7 (av ki @U @I))))
  (!K @S)))),!c3 rfl⟩
 lia;refine vL (xs:=ps.map nat) (λi σ H'=>∃v L,σ=[ak (!j r),ak (nat wd),ak (nat (M.pkw wd @c2)),v,L]/\Same H H') @di (λi σ H' _ ⟨_,_,_,e⟩=>SqL.of (e.get γ)) ?_ ?_
 ·rintro i y σ H' p θ Z ⟨v,L,rfl,O⟩ fp α η;obtain⟨x,G,rfl⟩:=aA Z;have hi:=(@aD).1;have β:=hb x (eH G);have Y:i * wd<=1000 * 1000:=Wy @A hw;have δ:(i:Int) * (wd:Int)=((i * wd:Nat):Int):=by push_cast;rfl
  lia;rw[δ];lia;have e:(x:Int) * 2 ^ (((i * wd:Nat):Int).toNat)=((x <<< (i * wd):Nat):Int):=by rw[lj,rK,VD];norm_cast
  rw[e,b5,take_succ G,M.pkw_snoc,zN G];exact⟨_,_,rfl,O.trans α⟩
 ·rintro σ H' ⟨v,L,rfl,O⟩;rw[aI,ic];lia;exact q _ O
theorem Ki {i m:Nat} (h:i < m):idxB (nat i) m=true:=by
 show idxB (.int (i:Int)) m=true;unfold idxB;simp;omega
theorem wH (T:@L):!H 8 a.dC a.qd ["machine","turns"] (F4 a.ar):=by
 refine T.i0.1.okA dJ λa5 A outer s H vs Q E hr h=>?_;obtain⟨p,m,nx,os,G,rfl,ma,g,ω,q⟩:=h;obtain⟨dx,tn,to,ho,hn,a3⟩:=ma.ho;have m6:=g.m6;have lo:=g.lo
 refine⟨_,((ae (!af dJ.nd (!aI T.aB T.dS (dn T) @av T.bG.2 bW))
  (ae (b7 (osc:=ag gE) (ON:=n27) (N:=["which","machine","turns","outs"]) (n:=1) (fx:=[0,1,2]) (i:=3) dJ.nd rfl rfl rfl rfl rfl rfl @O (!b4 @G @aE) @Q (!O (aq (i:=0) (show ka (["which","machine","turns","outs"]:C') from by decide +kernel) rfl @F) (ao (JF T) hr T.M7 T.vO (aa (fZ @I T.aB T.vd (tN T) @av T.eV.2 .nil thr0 (!ah 0 2)) (!a5 3)))))
  (ae (!b7 dJ.nd rfl (!a3 mf (!ab fw ah ki @I @S)))
  (ae (!bt dJ.nd rfl @an)
  (ae (!aS lI (!b4 @G @ag) (aq (i:=6) dJ.nd rfl @F) (bp (!aB la UJ UI il @aw (bA (osc:=ag gE) (ON:=n27) (N:=["answers","turn","outs","whole"]) (n:=1) (fx:=[6,2,4]) rfl rfl rfl @O (!U @U) @Q (!O (aq (i:=0) (show ka (["answers","turn","outs","whole"]:C') from by decide +kernel) rfl @F) (av mh (!ab P1 @K ki @I @S) @U))))))
  (!K @aw))))))),aw (σ':=[ak _,ak _,f',f',f',f',f']) rfl ?_⟩
 lia;refine !W ho;lia;refine⟨p,_,nx,os,rfl,ma,?_⟩;lia;refine !aJ ho T.bM;lia;intro ξ ε;refine !bN (λi ys H'=>Cs (!be ((kv i).map λk=>M.pkw os.length (M.wan @E @H 0 (M.pulse k G)))) H ξ i ys H') (!a4 ε) @ch
 ·have L:i < m:=by omega
  lia;rw[Wg];refine dP (!bi ho) rfl ?_;lia;refine⟨p,m,nx,os,nat i,"int",G,rfl,!aL c.same,g,rfl,@A,λi' ei _ α H2 ζ ι e2=>?_,fun ρ=>?_⟩
  ·have ei:=jv ei;subst ei;lia;refine⟨α,_,os.length,rfl,e2,by rw[M.wan_len,M.pulse_len];omega,@A,λx ν=>?_,λH3 β=>?_⟩
   ·have:=M.wan_lt @E @H _ 0 x ν;rw[az] at this;exact !a6 this
   ·have st:=ι.trans β;refine !bL ε st (st.get c.at') c.len @A ?_;rw[c.pv,V9,dt,dt];rfl
  ·rw[Ki L] at ρ;cases ρ
 have e1:=c.at';rw[c.pv,lj] at e1;have φ:=c.same;clear c;have δ:G * os.length<=102:=Wy ω lo;have hp:((G:Int) * (os.length:Int))=((G * os.length:Nat):Int):=by push_cast;rfl
 have hc:CPow (1:Int) ((G:Int) * (os.length:Int)):=by rw[hp];exact⟨@A,@A,@D⟩
 generalize γ:(kv m).map (λk=>M.pkw os.length (M.wan @E @H 0 (M.pulse k G)))=xs at *
 lia;rw[hp];intro α H2 ζ ι e2;lia;have ψ:xs.length=m:=by rw[<-γ,aI,qQ]
 have θ:xs=(kv m).map λk=>M.pkw os.length (M.wan @E @H 0 (M.pulse k G)):=γ.symm
 have ο:∀x∈xs,x < 2 ^ 102:=λx ν=>by
  rw[θ] at ν;obtain⟨k,_,rfl⟩:=hD.mp ν
  have:=M.pkw_lt (w:=os.length) (ps:=M.wan @E @H 0 (M.pulse k G)) λy hy=>by
   have:=M.wan_lt @E @H _ 0 y hy;rwa [az] at this
  rw[M.wan_len,M.pulse_len] at this;exact !aO this δ
 have υ:=φ.trans ι;have a0:=ι.get e1;have π:α≠ξ:=λz=>by rw[z,e1] at ζ;cases ζ
 have η:(M.tol @E @H m G).length=G * m:=M.tol_len;refine kB (λi σ H'=>∃v,σ=[ak @P,ak (nat G),ak (nat os.length),ak (!j ξ),ak (.int (1 * 2 ^ ((G * os.length:Nat):Int).toNat - 1)),ak (!j α),v]/\Same H H'/\H' ξ=ak (!A (xs.map nat))/\H' α=ak (!a7 ((M.tol @E @H m G).take (i * m)))) ⟨f',rfl,υ,a0,by rw[Z1];exact e2⟩ ?_ ?_
 ·rintro i σ H' hi ⟨v,rfl,s',ex,et⟩;have L:i < G:=by omega
  lia;intro D3 Y;have Z:((i:Int) * (os.length:Int))=((i * os.length:Nat):Int):=by push_cast;rfl
  have a4:i * os.length<=102:=Vs (VA _ (Vw L)) δ;refine aN (xs:=xs.map nat) (λk ys O=>Cs (λk ys=>ys=((xs.take k).map λx=>(x <<< (i * os.length)) % 2 ^ (G * os.length)).map nat) H' D3 k ys O) (!a4 Y) (λk ys O _ c=>SqL.of (!bi ex)) (λk v ys O hv c=>?_) @cr
  ·obtain⟨b,hb,rfl⟩:=aA hv;have hk:=(!M hb).1;have hs:CShl (b:Int) ((0 + (i:Int)) * (os.length:Int)):=by rw[Wg,Z];exact cshl (OQ (ο b (eH hb)) @D) @A
   lia;refine Cs.put Y c.same c.at' c.len @A ?_;rw[c.pv,take_succ hb,dt,dt,Wg,Z,Pk,K6];rfl
  have e3:=c.at';rw[c.pv,aI,ic] at e3;have β:=c.same;clear c;have χ:α≠D3:=λz=>by rw[<-z,et] at Y;cases Y
  lia;refine iY (β.get et) e3 (by rw[aI,aI,aI,pa,ψ,η];have:=Wy (Vw L) m6;have:i * m<=17 * 6:=Wy @A m6;exact Vw @b6) χ λH4 τ=>?_;refine⟨_,rfl,τ.same (φ.free ζ) (!b5 β),?_,?_⟩
  ·exact τ.oth _ _ (λz=>π z.symm) (β.get ex)
  ·have e4:=τ.at';rw[<-dt] at e4;rw[e4,M.tol_next L,θ,u2,az];rfl
 ·rintro σ H' ⟨v,rfl,s',ex,et⟩;lia;refine q α H' (φ.free ζ) s' ?_;rw[et,lj,Va (Yq η)]
theorem wG (T:@L):!H 1 a.iM a.zu @dm Ir:=by
 refine T.mB.1.okA Dq λY A outer s H vs Q E Z h=>?_;obtain⟨O,wd,α,rfl,hw,hT,q⟩:=h;have L:=mm wd;have ρ:(1:Int) * 2 ^ ((wd:Int).toNat) - 1=((2 ^ wd - 1:Nat):Int):=by rw[shl1];omega
 refine⟨_,((!K (bA (osc:=ag pf) (ON:=["whole","width","count"]) (N:=["place","whole","width"]) (n:=1) (fx:=[0,1]) rfl rfl rfl @O (!b4 @G @ae) @Q (!O (aq (i:=0) (show ka (["place","whole","width"]:C') from by decide +kernel) rfl @F) (!ab mh (!ab wF @I ki @K @S) mf (av fw ah @S) ah))))),!bn rfl⟩;lia;intro D ω;refine !bN (!bR (!be ((kv i).map λt=>(O>>>(t * wd))&&&(2 ^ wd - 1)))) (!a4 ω) @c3
 ·have G:((0:Int) + (i:Int)) * (wd:Int)=((i * wd:Nat):Int):=by rw[Wg];push_cast;rfl
  lia;rw[G];lia;rw[Pj,ρ,g8];refine Cs.put ω c.same c.at' c.len @A ?_;rw[c.pv,V9,dt,dt];rfl
 ·have G:=c.at';rw[c.pv,lj] at G;exact q D H' ω c.same G
theorem zi (T:@L):!H 9 a.kC a.Cg @cI (Iw a.ar):=by
 refine T.o7.1.okA jO λc0 A outer s H vs Q E υ h=>?_;obtain⟨p,m,nx,os,d,rfl,ma,g,ν,ο,qS,qM⟩:=h;obtain⟨dx,tn,to,ho,hn,b8⟩:=ma.ho;have m6:=g.m6;have lo:=g.lo
 refine⟨_,((ae (!af jO.nd (!an (wH T) υ T.y4 T.i0 0 (!a3 cL @I)))
  (ae (!ax jO.nd @an)
  (ae (cX lI rfl (!b4 @G @aE) (!bj jO.nd rfl) (ae (!bt jO.nd rfl (!b9 rfl @G T.ig oD @ae))
  (ae (Js ah (R7 @aw @a7 Mp))
  (ae (ax (i:=6) jO.nd rfl @F (!an (tJ T) υ T.xK T.mC 5 (!ad @S @a7)))
  (ae (d7 (!X lR (!V (pv 6)) bc) (!aT (!a9 bc (ao (wG T) υ T.zo T.mB (aa (!aZ (tK T) υ T.xM T.mE (av g6 (!V (pv 6)) (cR (!a5 4)))) (!a9 @W (!a3 cL @I)))))) bz)
  (ai (bp (!aB la so sb dq @U (!V (pv 6))))))))))
  (!aT (aa bc (!a5 3))))))),aw (σ':=[ak _,ak _,f',f',f',f',f']) rfl ?_⟩
 lia;refine⟨p,m,nx,os,d + 1,rfl,ma,g,@A,λD1 H1 f1 s1 e1=>?_⟩;lia;intro D2 H2 φ s2 e2;have ζ:=s1.trans s2;have b0:=s2.get e1;have tl:(!b1 @E @H m).length=@a4 * m:=M.tol_len;have β:=M.tol_lt (ps:=prs nx) (os:=prs os) (m:=m) (T:=d + 1);rw[az] at β;have Z:@a4 * m<=17 * 6:=Wy @A m6;have b9:m<=@a4 * m:=X3 m @A;have ι:=λi (h:i < m)=>show Osm @E @H m d i↔M.Span ((!b1 @E @H m).set i 0) ((!b1 @E @H m).getD i 0) from ad7
 lia;refine !aJ (ζ.get ho) T.bM;lia;refine kB (λi σ H'=>∃(G:Cr) (v1 ξ Y:qE V),σ=[ak @P,ak (nat d),ak (!j D1),ak (!j D2),v1,ξ,Y]/\Same H H'/\H' D1=ak (!a7 (!b1 @E @H m))/\H' D2=ak (!A (G.map nat))/\G.length=i/\(∀(k μ:Nat),G[k]? =ak μ->Bard ((!b1 @E @H m).set k 0) ((!b1 @E @H m).getD k 0) μ)/\∀k,k < i->¬Osm @E @H m d k) ⟨[],f',f',f',rfl,ζ,b0,e2,rfl,λk μ h=>hF h @C,λk h=>hF h (VQ k)⟩ ?_ ?_
 ·rintro i σ H' hi ⟨G,v1,ξ,Y,rfl,s',et,em,lm,hB,hO⟩;have a5:i < m:=by omega
  have η:i < (!b1 @E @H m).length:=by rw[tl];omega
  lia;intro D3 H3 δ ε ω;lia;refine Ry ?_;lia;rw[Wg];refine Rh ω (by rw[aI];exact η) λH4 u4=>?_;have e4:=u4.at';rw[show((!b1 @E @H m).map nat).set i (V.int 0)=((!b1 @E @H m).set i 0).map nat from(List.map_set ..).symm] at e4;have L:=u4.same δ ε;have ls:∀x∈(M.tol (prs nx) (prs os) m (d + 1)).set i 0,x < 2 ^ @bt:=M.set_lt β;have up:∀{x:Nat},x < 2 ^ @bt->x < 2 ^ 1000:=λh=>fy h (gA @D @A);have rk:=M.rank_le ls;have τ:=L.get et;have a7:=L.get em;have O:=s'.trans L;lia;refine Gk (v:=nat ((!b1 @E @H m).getD i 0)) (!ag τ) (dE <| by rw[hH,ef η,dm,ef η];rfl) ?_;clear u4 ω ε;lia;refine⟨D3,_,_,rfl,e4,by rw[WW,tl];omega,λr h=>up (ls r h),up (M.getD_lt' β i),WU @A,λt5 D5 H5 q f5 γ a6 e5 sd=>?_,λt5 H5 μ γ a6 bd=>?_⟩
  ·have ql:=sd.lt;rw[WW,tl] at ql;have θ:q < 2 ^ 1000:=fy ql (gA @D @A);lia;intro D6 H6 f6 s6 ρ;have a8:=s6.get e5;have b3:(!aD q).length<=1000:=M.pl_le 1000 q;have a3:∀x∈M.pl 1000 q,x < 1000:=M.pl_lt θ;refine lH a8 ρ (by rw[aI,ix];show(!aD q).length + 1<=_;omega) λD7 H7 f7 α e7=>?_;rw[show(!aD q).map nat++[V.int (i:Int)]=(M.pl 1000 q++[i]).map nat by rw[dt];rfl] at e7;have χ:=γ.trans (s6.trans α);lia;refine⟨D7,_,rfl,e7,λx hx=>?_,?_⟩
   ·rcases gz.mp hx with h | h
    ·exact a3 x h
    ·rw[gs.mp h];omega
   rw[M.xm_snoc,LI θ];lia;refine !aJ ((O.trans χ).get ho) T.bM;lia;refine⟨q^^^2 ^ i,m,d + 1,rfl,@A,@A,fun ψ H8 f8 s8 e8=>?_⟩;lia;intro tt H9 f9 s9 e9;exact qS tt ψ H9 _ ((O.trans χ).free f8) (((O.trans χ).trans s8).trans s9) e9 (s9.get e8) ⟨i,q,a5,hO,sd,rfl⟩
  ·lia;refine fX (γ.get a7) (by rw[aI,lm,ix];omega) λH6 u6=>?_;have a0:=O.trans γ;have π:D1≠D2:=λz=>by rw[<-z,e1] at φ;cases φ
   refine⟨G++[μ],_,_,_,rfl,u6.same (s1.free φ) a0,u6.oth _ _ π (γ.get τ),by rw[u6.at',dt];rfl,by rw[fD,lm];rfl,λk μ' h=>?_,λk hk=>?_⟩
   ·by_cases hk:k < G.length
    ·rw[ky hk] at h;exact hB k μ' h
    ·have a4:=(!M h).1;rw[fD,pO] at a4;have ek:k=i:=by omega
     subst ek;rw[lB @A,lm,X7] at h;cases h;exact bd
   ·by_cases h:k < i
    ·exact hO k h
    ·rw[show k=i by omega];exact bd.ns
 ·rintro σ H' ⟨G,v1,ξ,Y,rfl,s',et,em,lm,hB,hO⟩;rw[lj] at lm hO;lia;intro tt H3 δ ε ω;exact qM tt D2 H3 G (s1.free φ) (!b5 ε) ω (ε.get em) (SB lm hB) hO
theorem rP (T:@L):!H 9 a.cc a.mr @bL (IM a.ar):=by
 refine T.gu.1.okA cG λa0 A outer s H vs Q E Z h=>?_;obtain⟨p,m,nx,os,rfl,ma,g,ν,q⟩:=h;obtain⟨dx,tn,to,ho,hn,π⟩:=ma.ho;have m6:=g.m6
 refine⟨_,((ae (!ba cG.nd rfl (!aI T.aB T.b6 (bT T) (Z.mono @D) T.bh.2 bW))
  (ae (!af cG.nd @an)
  (ae (!ax cG.nd (!aR (p7 T) Z T.si T.ir 0 2))
  (ae (rJ lI (!X GF (av cL (!aa (!a5 3)) (!aa @ae)) @I) (ae (!af cG.nd (ao (wK T) Z T.AM T.pQ (aa (bA (osc:=ag fW) (ON:=["machine","stores","bars","ways"]) (N:=n12) (n:=1) (fx:=[1]) rfl rfl rfl @O (!U @U) @Q (!O (aq (i:=0) (show ka (n12:C') from by decide +kernel) rfl @F) (!ab mh @K mf (av fw ah @I) ah))) @ag)))
  (ai (!ax cG.nd (!aR (p7 T) Z T.si T.ir 0 2)))))
  (!aT (!ah 2 3))))))),aw (σ':=[ak _,f',f',f']) rfl ?_⟩
 lia;refine !W ho;lia;refine⟨p,_,nx,os,rfl,ma,?_⟩;lia;intro G H1 f1 Y ζ;lia;refine⟨p,G,m,nx,os,[],rfl,!aL Y,g,ν,ζ,Vh _,λb h=>hF h @C,λO H2 f2 θ ε ω=>?_⟩;lia;refine⟨λk σ H'=>∃(j:Nat) (G O:ee),σ=[ak @P,ak (nat nx.length),ak @aJ,ak (!j O)]/\k=nx.length - j/\Same H H'/\H' G=ak (!A ((!aU m j).1.map nat))/\H' O=ak (!A ((!aU m j).2.map nat))/\M.Slp @E @H m j (!aU m j).1 (!aU m j).2/\∀i,i < j->(!aU m i).2.length + (!aU m i).1.length < (@E).length,⟨_,0,G,O,rfl,rfl,Y.trans θ,θ.get ζ,ε,M.Slp.start ω,λi h=>hF h (VQ i)⟩,?_⟩;clear f1 f2 ζ ε Y θ ω;rintro k σ H1 ⟨j,G,O,rfl,rfl,Y,ζ,ε,S,hl⟩;have δ:evj @E @H m @au=(M.acr ((!aU m j).2.map (· % 2 ^ (@E).length)) (@E).length,swy @E @H m (M.acr ((!aU m j).2.map (· % 2 ^ (@E).length)) (@E).length)):=rfl;rw[az] at δ hl;have un:(@E).length<=(!aU m j).2.length + (!aU m j).1.length->Fev @E @H m (!aU m j).1 (!aU m j).2:=λh=>⟨⟨j,S,h⟩,j,rfl,h,by rw[az];exact hl⟩
 have hl2:∀i,i < j + 1->(!aU m j).2.length + (!aU m j).1.length < nx.length->(!aU m i).2.length + (!aU m i).1.length < nx.length:=λi hi h=>by
  by_cases h':i < j
  ·exact hl i h'
  ·rw[show i=j by omega];exact h
 generalize β:(!aU m j).1=bs at *
 generalize τ:(!aU m j).2=ws at *
 rw[az] at un;lia;simp only[aI];have ll:=S.cnt;rw[az] at ll;by_cases hd:ws.length + bs.length < nx.length
 ·rw[oL (hE @A)];have hl2:=λi hi=>hl2 i hi hd
  have lt':∀r∈ws.map (· % 2 ^ nx.length),r < 2 ^ nx.length:=λr Z=>by
   obtain⟨x,_,rfl⟩:=hD.mp Z;exact Y0 _ @az
  have rk:(M.fr (!aM (· % 2 ^ nx.length))).length=ws.length:=by
   have:=M.fr_inj S.w.inj;rw[az,aI] at this;exact this
  generalize ι:M.acr (!aM (· % 2 ^ nx.length)) nx.length=ms at *
  refine⟨fun σ' H'=>∃(G O:ee),σ'=[ak @P,ak (nat nx.length),ak @aJ,ak (!j O)]/\Same H H'/\H' G=ak (!A (ms.map nat))/\H' O=ak (!a7 (swy @E @H m ms))/\M.Slp @E @H m @au ms (swy @E @H m ms),?_,?_⟩
  ·rintro σ' H' ⟨D3,D4,rfl,s',e3,e4,S'⟩;have:=S'.le;rw[az] at this;refine⟨nx.length - @au,@A,j + 1,D3,D4,rfl,rfl,s',?_,?_,?_,?_⟩
   ·rw[δ];exact e3
   ·rw[δ];exact e4
   ·rw[δ];exact S'
   ·first | exact hl2 | (rw[az];exact hl2)
  ·have hc:CPow (1:Int) (nx.length:Int):=⟨@A,@A,@D⟩;clear δ un hl2 hl;lia;intro D5 χ;refine aN (xs:=ws.map nat) (λi ys H'=>Cs (!be ((@bX).map (· % 2 ^ nx.length))) H1 D5 i ys H') (!a4 χ) (!aF ε) @bR @bV
   ·obtain⟨b,γ,rfl⟩:=aA hv;have hi:=(!M γ).1;lia;refine Cs.put χ c.same c.at' c.len @A ?_;rw[c.pv,take_succ γ,dt,dt,K6];rfl
   have φ:=c.at';rw[c.pv,aI,ic] at φ;have υ:=c.same;clear c;lia;refine⟨D5,_,nx.length,rfl,φ,by rw[aI];omega,@A,lt',@A,fun ψ H6 f6 ο ρ α=>?_⟩;rw[ι] at ρ α;have ln:=α.len;rw[rk] at ln;lia;refine⟨p,ψ,m,nx,os,ms,rfl,!aL ((Y.trans υ).trans ο),g,ν,ρ,@A,α.lt,λD7 H7 f7 ξ e7 ω=>?_⟩;lia;refine⟨ψ,D7,rfl,((Y.trans υ).trans ο).trans ξ,ξ.get ρ,e7,S.next (by rw[az];omega) (by rw[az];exact hd) (by rw[az];exact α.lt) (by rw[az];exact ln) (by rw[az];exact α.ev) (by rw[az];exact α.all) ω⟩
 ·rw[mu (by rw[W1];omega)];have un:=un @A;lia;intro t8 H8 L η e8;exact q t8 G O H8 bs ws (Y.trans η) e8 (η.get ζ) (η.get ε) un
theorem Rc (b n:Nat):(b:Int) / 2 ^ ((n:Int).toNat)=((b>>>n:Nat):Int):=by rw[lj,tu];push_cast;rfl
theorem z9 (T:@L):!H 10 a.fF a.uE @bL (F8 a.ar):=by
 refine T.lg.1.okA cM λn6 A outer s H vs Q E hr h=>?_;obtain⟨p,m,nx,os,rfl,ma,g,ν,qN,qS⟩:=h;obtain⟨dx,tn,to,ho,hn,l7⟩:=ma.ho;have m6:=g.m6;have lo:=g.lo
 refine⟨_,((ae (!ba cM.nd rfl (ao (rP T) hr T.uk T.gu @a2))
  (ae (b7 (osc:=ag d2) (ON:=n13) (N:=["pair"]) (n:=1) (fx:=[]) (i:=2) cM.nd rfl rfl rfl rfl rfl rfl @O (!bc @W) @Q (!O (aq (i:=0) (show ka (["pair"]:C') from by decide +kernel) rfl @F) @ad))
  (ae (bp (!aB la UJ UI il @S (bA (osc:=ag d2) (ON:=n13) (N:=["bar","machine"]) (n:=1) (fx:=[0]) rfl rfl rfl @O (!U (!V @I)) @Q (!O (aq (i:=0) (show ka (["bar","machine"]:C') from by decide +kernel) rfl @F) (!V (fZ @I T.aB T.lY (km T) @av T.dH.2 .nil thr0 @a2))))))
  (ae (!ax cM.nd (!an (wK T) hr T.AM T.pQ 2 @W))
  (ae (d7 (!X lR (!aa (!a5 3)) ah) (!K N8) bz)
  (ae (!b7 cM.nd rfl (!aI T.aB T.b6 (bT T) @av T.bh.2 bW))
  (ae (!bt cM.nd rfl (bA (osc:=ag d2) (ON:=n13) (N:=n12) (n:=1) (fx:=[4]) rfl rfl rfl @O (!U (!V @I)) @Q (!O (aq (i:=0) (show ka (n12:C') from by decide +kernel) rfl @F) (!ab mh @K mf (av fw ah @I) ah))))
  (ae (b7 (osc:=ag d2) (ON:=n13) (N:=n12) (n:=1) (fx:=[4]) (i:=6) cM.nd rfl rfl rfl rfl rfl rfl @O (!U (!V @I)) @Q (!O (aq (i:=0) (show ka (n12:C') from by decide +kernel) rfl @F) (av wF @K @I)))
  (ae (ax (i:=7) cM.nd rfl @F (!V (!an (tJ T) hr T.xK T.mC 5 (!V (fZ @K T.aB T.lX (kl T) @av T.dG.2 .nil thr0 (!a9 ah (!ad @U ah)))))))
  (ae (b7 (osc:=ag d2) (ON:=n13) (N:=n23) (n:=2) (fx:=[5,0]) (i:=8) cM.nd rfl rfl rfl rfl rfl rfl @O (N7 (K:=K) rfl @G T.Qb @aw (pv 6)) (xI (fj @Q (fj @Q rf))) (!O (!bK rfl rfl (aq (i:=0) (show ka (n23:C') from by decide +kernel) rfl @F) (aZ (aq (i:=1) (show ka (n23:C') from by decide +kernel) rfl @F) ie)) (!V (!an (tJ T) hr T.xK T.mC 2 (!V (fZ @U T.aB T.lX (kl T) @av T.dG.2 .nil thr0 (!ah 0 1)))))))
  (!aT (aa bc (aa (!ad @U ah) (!ar 7 (!ar 5 (!ah 6 8))))))))))))))))),aw (σ':=[ak _,f',f',f',f',f',f',f',f']) rfl ?_⟩
 lia;refine⟨p,m,nx,os,rfl,ma,g,ν,λt1 D1 D2 H1 bars ζ s1 et e1 e2 fv=>?_⟩;have l8:=s1.get ho;have d1:=s1.get l7;lia;refine !aJ l8 T.dA;refine⟨to,rfl,⟨_,SqT.of d1⟩,?_⟩;intro D3 c3;refine nj (xs:=refs os) (λi ys H'=>Cs (!be ((os.take i).map λq=>q.2.2)) H1 D3 i ys H') (!a4 c3) (!c1 d1) @bR @cr
 ·obtain⟨r,b3,rfl⟩:=aA hv;have hi:=(!M b3).1;have hm:=eH b3;have er:=(s1.trans c.same).get (ma.hs r hm);lia;refine Cs.put c3 c.same c.at' c.len @A ?_;rw[c.pv,take_succ b3,dt,dt];rfl
 have e3:=c.at';rw[c.pv,show(refs os).length=os.length from aI ..,ic] at e3;have s3:=c.same;clear c;have a7:=s1.trans s3;have m3:=s3.get et;have c4:=s3.get e1;have bl:bars.length<=nx.length:=by obtain⟨j,S,_⟩:=fv.ex;obtain⟨pr,_,_,h,_⟩:=S.cnt;rw[az] at h;omega
 have blt:∀b∈bars,b < 2 ^ nx.length:=by obtain⟨j,S,_⟩:=fv.ex;have:=S.lt;rw[az] at this;exact this
 lia;intro D4 b9;refine aN (xs:=bars.map nat) (λi ys H'=>Cs (!be ((bars.take i).map (M.sm @cv))) H3 D4 i ys H') (!a4 b9) (!aF c4) @bR (λys H4 c=>?_)
 ·obtain⟨b,ξ,rfl⟩:=aA hv;have hi:=(!M ξ).1;have hm:=eH ξ;have g3:=a7.trans c.same;lia;refine dP (g3.get ho) rfl ?_;lia;refine⟨p,m,nx,os,nat b,"int",rfl,!aL g3,g,rfl,λa1 ea ha φ H7 α e7=>?_,λa5=>?_⟩
  ·have ea:=jv ea;subst ea;lia;refine !bL b9 α (α.get c.at') c.len @A ?_;rw[c.pv,take_succ ξ,dt,dt];rfl
  ·rw[c7 (blt b hm)] at a5;cases a5
 have e4:=c.at';rw[c.pv,aI,ic] at e4;have s4:=c.same;clear c;lia;have g4:D3≠D4:=λz=>by rw[<-z,e3] at b9;cases b9
 refine iY (s4.get e3) e4 (by rw[aI,aI,aI,aI];exact Vw @b6) g4 λH5 u5=>?_;have s5:=u5.same c3 (s3.trans s4);have e5:=u5.at';have er:(os.map λq=>q.2.2)++bars.map (M.sm @cv)=(@H).map (·.2)++bars.map (M.sm ((@E).map (·.2))):=by rw[show(@E).map (·.2)=nx.map λq=>q.2.2 by rw[u2];rfl,show(@H).map (·.2)=os.map λq=>q.2.2 by rw[u2];rfl]
 rw[<-dt,er] at e5;have L:=s1.trans s5
 have f0:∀r∈(prs os).map (·.2)++bars.map (M.sm ((prs nx).map (·.2))),r < 2 ^ m:=λr hr=>by
  rcases gz.mp hr with h | h
  ·obtain⟨q,hq,rfl⟩:=hD.mp h;obtain⟨r',b3,rfl⟩:=hD.mp hq;exact(g.bn r' (!Q b3)).2
  ·obtain⟨b,ξ,rfl⟩:=hD.mp h;refine M.sm_lt _ λx hx=>?_;obtain⟨q,hq,rfl⟩:=hD.mp hx;obtain⟨r,hr,rfl⟩:=hD.mp hq;exact(g.bn r (!N hr)).2
 have h5:((@H).map (·.2)++bars.map (M.sm ((@E).map (·.2)))).length=os.length + bars.length:=by
  rw[fD,aI,az,aI]
 have fi:=λu=>M.first_iff (ps:=prs nx) (os:=prs os) (bars:=bars) (u:=u) (by rw[az];omega) (by rw[az];omega);have m5:=s5.get e2;have m2:=s5.get et;clear u5 e3 e4 c4 m3 c3 b9 g4 er s3 s4 a7 e1;lia;refine !aJ (!aj ho) T.bM;lia;refine⟨D3,_,m,rfl,e5,by rw[h5];omega,@A,f0,w2 (M.rank_le f0) @A,λD6 H6 f6 s6 e6 ac=>?_⟩;have a4:=L.trans s6;clear e5;lia;have j1:H6 D6=ak (!a7 (fsts @E @H m bars)):=e6;have a6:Acr ((@H).map (·.2)++bars.map (M.sm ((@E).map (·.2)))) m (fsts @E @H m bars):=ac;rw[show M.acr ((@H).map (λx=>x.2)++bars.map (M.sm ((@E).map (λx=>x.2)))) m=fsts @E @H m bars from rfl];clear e6 ac;cases hf:fsts @E @H m bars with
 | nil=>
   dsimp only;rw[oL (by rw[W1];rfl)];lia;refine qN H6 bars ζ a4 fv λu hu h1 h2=>?_;have:=a6.all u hu ((fi u).mpr ⟨h1,h2⟩);rw[hf] at this;exact this
 | cons u fs=>
   rw[hf] at j1 a6;have u0:=a6.inj.nz (j' (a:=u));have ul:=a6.lt u j';have e0:=(fi u).mp (a6.ev u j');have hu:(fsts @E @H m bars)[0]? =ak u:=by rw[hf];rfl
   clear a6 fi f0 h5 hf qN
   have lw:ζ.length<=nx.length:=by
    obtain⟨j,S,_⟩:=fv.ex
    have hl:∀r∈ζ.map (· % 2 ^ (prs nx).length),r < 2 ^ nx.length:=λr hr=>by
     obtain⟨x,_,rfl⟩:=hD.mp hr;rw[az];exact Y0 _ @az
    have:=M.rank_le hl;rw[M.fr_inj S.w.inj,aI] at this;exact this
   have k7:∀w∈ζ,w < 2 ^ @ce:=by obtain⟨j,S,_⟩:=fv.ex;have:=S.w.lt;rw[az] at this;exact this
   have gf:=λh=>fv.first (u:=u) h;have gg:=λw hw=>fv.goes (w:=w) hw;rw[az] at gf;simp only[az] at gg;dsimp only;rw[mu (by rw[W1];intro z;have:=V.int.inj z;rw[aI,pA] at this;omega)];have j4:=s6.get m5;have m1:=s6.get m2;lia;refine !W (a4.get ho);lia;refine⟨p,_,nx,os,rfl,!aL a4,?_⟩;have hc:CPow (1:Int) (nx.length:Int):=⟨@A,@A,@D⟩;lia;intro D7 f2;refine aN (xs:=ζ.map nat) (λi ys H'=>Cs (!be ((ζ.take i).map (· % 2 ^ nx.length))) H6 D7 i ys H') (!a4 f2) (!aF j4) @bR (λys H7 c=>?_)
   ·obtain⟨b,ξ,rfl⟩:=aA hv;have hi:=(!M ξ).1;lia;refine Cs.put f2 c.same c.at' c.len @A ?_;rw[c.pv,take_succ ξ,dt,dt,K6];rfl
   have e7:=c.at';rw[c.pv,aI,ic] at e7;have α:=c.same;clear c;have n5:=α.get m1;have m4:=α.get j4;lia;intro ψ b8;refine aN (xs:=ζ.map nat) (λi ys H'=>Cs (!be ((ζ.take i).map (·>>>nx.length))) H7 ψ i ys H') (!a4 b8) (!aF m4) @bR (λys H8 c=>?_)
   ·obtain⟨b,ξ,rfl⟩:=aA hv;have hi:=(!M ξ).1;lia;refine Cs.put b8 c.same c.at' c.len @A ?_;rw[c.pv,take_succ ξ,dt,dt,Rc];rfl
   have e8:=c.at';rw[c.pv,aI,ic] at e8;have s8:=c.same;clear c;have g0:=α.trans s8;have j3:=g0.get j1;lia;have c1:=a4.trans g0;refine dP (c1.get ho) rfl ?_;lia;refine Gk (v:=nat u) (!ag j3) (dE (j:=0) rfl) ?_;lia
   refine⟨p,m,nx,os,nat 0,nat u,"int","int",rfl,!aL c1,g,rfl,rfl,λa0 b0 ea eb _ _ t9 H9 s9 e9=>?_,λa5=>by
    exfalso;rcases a5 with h | h
    ·rw[c7 @az] at h;cases h
    ·rw[c7 ul] at h;cases h⟩
   have ea:=jv ea;have eb:=jv eb;subst ea eb
   have f9:∀r∈ζ.map (· % 2 ^ nx.length),r < 2 ^ 1000:=λr hr=>by
    obtain⟨x,_,rfl⟩:=hD.mp hr;exact !a6 (Y0 _ @az)
   have f8:∀x y,M.tr2 @E x y < 2 ^ 1000:=λx y=>by
    have:=M.tr2_lt @E x y;rw[az] at this;exact !a6 this
   have f3:=(s8.trans s9).get e7;lia;refine⟨D7,_,_,rfl,f3,by rw[aI];omega,f9,f8 0 u,X4 (gf e0.2),λk9 c5 f5 bq a3 ο Z f4 sd=>?_,λk9 f5 ε ο Z bd=>hF (gf e0.2) bd.ns⟩;lia;refine NY ?_;have ι:=s9.trans ο;have υ:=ο.get f3;have ρ:=ι.get e8;lia;refine⟨D7,ψ,(ζ.map (· % 2 ^ nx.length)).map nat,(ζ.map (·>>>nx.length)).map nat,rfl,rfl,!ag υ,!ag ρ,by rw[aI,aI,aI,aI],?_⟩;intro χ π;have a8:=c1.trans ι;refine FC (xs:=(ζ.map (· % 2 ^ nx.length)).map nat) (ys:=(ζ.map (·>>>nx.length)).map nat) (by rw[aI,aI,aI,aI]) (λi zs H'=>∃ls:eS @bM,zs=ls.map (λq=>V.ref q.1)/\Same f5 H'/\H' χ=ak (!A zs)/\ls.length=i/\(∀q∈ls,H' q.1=ak (!a7 (!aD q.2)))/\(∀q∈ls,q.1≠χ/\f5 q.1=f')/\∀(k w:Nat) (q:ee×Nat),ζ[k]? =ak w->ls[k]? =ak q->Sumd (ζ.map (· % 2 ^ nx.length)) (M.tr2 @E (w % 2 ^ nx.length) (w>>>nx.length)) q.2) ⟨[],rfl,bj π,ay,rfl,λq h=>hF h @C,λq h=>hF h @C,λk w q _ h=>hF h @C⟩ (λi zs H' _ ⟨_,_,s',_⟩=>⟨SqL.of (!a2 υ),SqL.of (!a2 ρ)⟩) (λi x y zs H' pz n7 hx hy c fp sp ep=>?_) (λzs n2 c=>?_)
   ·obtain⟨ls,rfl,s',θ,li,f1,c2,O⟩:=c;obtain⟨x1,h3,rfl⟩:=aA hx;rw[hH] at h3;obtain⟨w,hw,rfl⟩:=Vv.mp h3;obtain⟨y1,h0,rfl⟩:=aA hy;rw[hH] at h0;obtain⟨Y,h4,rfl⟩:=Vv.mp h0;rw[hw] at h4;cases h4;have hi:=(!M hw).1;have hm:=eH hw;have sw:=a8.trans (!b5 sp);have δ:pz≠χ:=λz=>by rw[z,θ] at fp;cases fp
    lia;refine dP (sw.get ho) rfl ?_;lia;have wd:=M.jd_of (k7 w hm)
    refine⟨p,m,nx,os,_,_,"int","int",rfl,!aL sw,g,rfl,rfl,λa0 b0 ea eb _ _ γ k6 η k4=>?_,λa5=>by
     exfalso;rcases a5 with h | h
     ·rw[c7 wd.2.1] at h;cases h
     ·rw[c7 wd.2.2] at h;cases h⟩
    have ea:=jv ea;have eb:=jv eb;subst ea eb;have i4:=(!b5 (sp.trans η)).get υ;lia;refine⟨D7,_,_,rfl,i4,by rw[aI];omega,f9,f8 _ _,X4 (gg w hm),λk8 f7 n0 q m0 a7 h6 c4 G=>?_,λk8 n0 ε a7 h6 bd=>hF (gg w hm) bd.ns⟩;have st:=sp.trans (η.trans a7);have c0:H' f7=none:=(sp.trans η).free m0;have g5:f7≠χ:=λz=>by rw[z,θ] at c0;cases c0
    lia;refine⟨st.get θ,by rw[aI];exact aO @A,ls++[(f7,q)],by rw[dt];rfl,λb o e=>?_,ay,by rw[fD,li];rfl,fun β h=>?_,fun β h=>?_,λk τ β h1 h2=>?_⟩
    ·rw[aH (!L π)];exact st.get @af
    ·rcases gz.mp h with h | h
     ·rw[aH (c2 β h).1];exact st.get (f1 β h)
     ·rw[gs.mp h,aH g5];exact c4
    ·rcases gz.mp h with h | h
     ·exact c2 β h
     ·rw[gs.mp h];exact⟨g5,s'.free c0⟩
    ·by_cases hk:k < ls.length
     ·rw[ky hk] at h2;exact O k τ β h1 h2
     ·have l9:=(!M h2).1;rw[fD,pO] at l9;have ek:k=i:=by omega
      subst ek;rw[lB @A,li,X7] at h2;cases h2;rw[hw] at h1;cases h1;exact G
   obtain⟨ls,rfl,s',θ,li,f1,c2,O⟩:=c;rw[aI,aI] at li;lia;have l0:=s';have n3:=(s8.trans (s9.trans (ο.trans s')));refine Gk (v:=nat u) (!ag ((ι.trans s').get j3)) (dE (j:=0) rfl) ?_;lia;intro tt k6 ω η k4;have n4:∀{b:ee} {o:HO},n2 b=ak o->b≠tt:=λh z=>by rw[z,ω] at h;cases h
   have m7:=s'.get f4;have j0:=s'.get υ;have i3:=s'.get ρ;have l5:D7≠ψ:=λz=>by rw[<-z,e7] at b8;cases b8
   have l3:c5≠D7:=λz=>by rw[z] at a3;rw[f3] at a3;cases a3
   have l1:c5≠ψ:=λz=>by rw[z] at a3;rw[s9.get e8] at a3;cases a3
   have nB:c5≠χ:=λz=>by rw[<-z,f4] at π;cases π
   have l4:D7≠χ:=λz=>by rw[<-z,υ] at π;cases π
   have l2:ψ≠χ:=λz=>by rw[<-z,ρ] at π;cases π
   refine qS k6 tt c5 D7 ψ χ u bars ζ bq ls ((a8.trans s').trans η) ⟨k4,η.get m7,by rw[az];exact η.get j0,by rw[az];exact η.get i3,η.get θ,λq h=>η.get (f1 q h),(c1.trans s9).free a3,a4.free f2,(a4.trans α).free b8,a8.free π,by simp[l5,l3,l1,nB,l4,l2],λq h z=>?_,fv,hu,u0,ul,e0,by rw[az];exact sd,li,by rw[az];exact O⟩;have hq:=c2 q h;simp only[qq,Wz,YF] at z;rcases z with z | z | z | z
   ·rw[z,f4] at hq;cases hq.2
   ·rw[z,υ] at hq;cases hq.2
   ·rw[z,ρ] at hq;cases hq.2
   ·exact hq.1 z
theorem yr (T:@L):!H 6 a.d8 a.sv ["machine","delay","mask"] (Iu a.ar):=by
 refine T.jH.1.okA ck λc1 A outer s H vs Q E ε h=>?_;obtain⟨p,m,nx,os,d,μ,rfl,ma,g,ν,ld,ο,hμ,q⟩:=h;obtain⟨dx,tn,to,ho,hn,π⟩:=ma.ho;have m6:=g.m6;have lo:=g.lo
 refine⟨_,((ae (!ax ck.nd (!aI T.aB T.dS (dn T) @bK T.bG.2 bW))
  (ae (!b7 ck.nd rfl ah)
  (ae (b7 (osc:=ag h7) (ON:=n28) (N:=["pair"]) (n:=1) (fx:=[]) (i:=5) ck.nd rfl rfl rfl rfl rfl rfl @O (!bc @W) @Q (!O (aq (i:=0) (show ka (["pair"]:C') from by decide +kernel) rfl @F) @ad))
  (ae (cX lI rfl (!U (ao (wG T) ε T.zo T.mB (!ar 2 (!b3 3 (!a3 cL @I))))) (aq (i:=6) ck.nd rfl @F) (ae (!aS lI (!U (ao (jR T) ε T.mn T.iw (!a5 6))) (aq (i:=7) ck.nd rfl @F) (!b7 ck.nd rfl (av iB @a7 (!ad @aw (pv 7)))))
  (ai (b7 (osc:=ag h7) (ON:=n28) (N:=["look","machine"]) (n:=1) (fx:=[0]) (i:=5) ck.nd rfl rfl rfl rfl rfl rfl @O (!U @aw) @Q (!O (aq (i:=0) (show ka (["look","machine"]:C') from by decide +kernel) rfl @F) (!V (fZ @I T.aB T.lY (km T) @bK T.dH.2 .nil thr0 @a2)))))))
  (ae (ax (i:=8) ck.nd rfl @F (!ab mh @S mf (!ab fw ah ki @I @U) ah))
  (!aT (!a9 (!ab iB @a7 fw (pv 8) (!aI T.aB T.b6 (bT T) @bK T.bh.2 bW)) (!ab wF @S ki @I @U))))))))),aw (σ':=[ak _,ak _,ak _,f',f',f',f',f',f']) rfl ?_⟩
 lia;refine !W ho;lia;refine⟨p,_,nx,os,rfl,ma,?_⟩;lia;refine !aJ ho T.dA;refine⟨to,rfl,⟨_,SqT.of π⟩,?_⟩;intro D1 a6;refine nj (xs:=refs os) (λi ys H'=>Cs (!be ((os.take i).map λq=>q.2.1)) H D1 i ys H') (!a4 a6) (!c1 π) @bR @ch
 ·obtain⟨r,ι,rfl⟩:=aA hv;have hi:=(!M ι).1;have er:=c.same.get (ma.hs r (eH ι));lia;refine Cs.put a6 c.same c.at' c.len @A ?_;rw[c.pv,take_succ ι,dt,dt];rfl
 have e1:=c.at';rw[c.pv,show(refs os).length=os.length from aI ..,ic] at e1;have s1:=c.same;clear c;lia;refine⟨μ,os.length,d + 1,rfl,@A,@A,λD2 H2 f2 s2 e2=>?_⟩;have a4:=s1.trans s2;have b8:=s2.get e1;lia;have γ:(@E).map (·.1)=nx.map λq=>q.2.1:=by rw[u2];rfl
 have ζ:(@H).map (·.1)=os.map λq=>q.2.1:=by rw[u2];rfl
 have ψ:∀x∈nx.map (λq=>q.2.1),x < 2 ^ nx.length:=λx ω=>by
  obtain⟨r,ε,rfl⟩:=hD.mp ω;exact(g.bn r (!N ε)).1
 have hO:∀x∈os.map (λq=>q.2.1),x < 2 ^ nx.length:=λx ω=>by
  obtain⟨r,ε,rfl⟩:=hD.mp ω;exact(g.bn r (!Q ε)).1
 have zs:∀i,M.zmk @E @H μ @J=M.zmk @E @H μ i^^^M.sm ((os.map λq=>q.2.1).map λl=>M.bkI @cP l i) ((μ>>>(i * os.length))&&&@cB):=λi=>by
  show M.zmk @E @H μ i^^^_=_;rw[γ,ζ,az]
 generalize α:nx.map @cb=As at *
 generalize Z:os.map @cb=Os at *
 have a8:Os.length=os.length:=by rw[<-Z,aI]
 refine !bW (M.upk os.length μ @a4) (λi σ H'=>∃(DL:ee) (v1 ξ:qE V),σ=[ak @P,ak (nat d),ak (nat μ),ak (nat os.length),ak (nat (M.zmk @E @H μ i)),ak (!j DL),v1,ξ,f']/\Same H2 H'/\H' DL=ak (!a7 (Os.map λl=>M.bkI As l i))) ⟨D1,f',f',rfl,λ_ _ h=>h,by rw[show(Os.map λl=>M.bkI As l 0)=Os from ah6 Os];exact b8⟩ (λi σ H' _ ⟨_,_,_,_,s',_⟩=>SqL.of (!a2 e2)) ?_
 ·rintro i y σ H' hy ⟨DL,v1,ξ,rfl,s',eL⟩;obtain⟨an,G,rfl⟩:=aA hy;have hi:=(@aD).1;rw[M.upk_len] at hi
  have β:an=(μ>>>(i * os.length))&&&@cB:=by
   unfold M.upk at G;rw[hH,Vt hi] at G;exact(ry G).symm
  have υ:an < 2 ^ os.length:=M.upk_lt _ _ _ an (eH G);lia;refine⟨an,rfl,!a6 υ,λD3 H3 δ s3 e3=>?_⟩;rw[M.pl_up υ @A] at e3;have a7:=s3.get eL;generalize θ:Os.map (λl=>M.bkI As l i)=Ls at *
  have b3:Ls.length=os.length:=by rw[<-θ,aI,a8]
  have b0:∀x∈Ls,x < 2 ^ nx.length:=λx ω=>by
   rw[<-θ] at ω;obtain⟨l,hl,rfl⟩:=hD.mp ω;exact M.bkI_lt ψ (hO l hl) i
  lia;refine !bW (M.pl os.length an) (λk σ O=>∃v,σ=[ak @P,ak (nat d),ak (nat μ),ak (nat os.length),ak (nat (M.zmk @E @H μ i^^^((M.pl os.length an).take k).foldl (λa p=>a^^^Ls.getD p 0) 0)),ak (!j DL),ak (nat an),v,f']/\O=H3) ⟨ξ,by rw[Ze,Zf,Vf],rfl⟩ (λk σ O _ ⟨_,_,e⟩=>by rw[e];exact SqL.of e3) ?_
  ·rintro k y σ O hy ⟨v,rfl,rfl⟩;obtain⟨k1,χ,rfl⟩:=aA hy;have b9:k1 < os.length:=wh.mp (UQ.mp (eH χ)).1;lia;refine Gk (v:=nat (Ls.getD k1 0)) (!ag a7) (dE <| by rw[hH,ef (by omega),dm,ef (by omega)];rfl) ?_;lia;refine⟨ak (nat k1),?_,rfl⟩;rw[b5,take_succ χ,UZ,U7];rfl
  ·rintro σ H3 ⟨v,rfl,rfl⟩;rw[aI,ic,M.sm_places Ls an (by rw[b3];exact υ) os.length @A];lia;intro D4 a5;refine aN (xs:=Ls.map nat) (λk ys O=>Cs (λk ys=>ys=((Ls.take k).map (M.sm As)).map nat) H3 D4 k ys O) (!a4 a5) (λk ys O _ c=>SqL.of (!bi a7)) (λk v ys O hv c=>?_) (λys H4 c=>?_)
   ·obtain⟨b,τ,rfl⟩:=aA hv;have hk:=(!M τ).1;have hm:=eH τ;have a3:=a4.trans (!b5 (s3.trans c.same));lia;refine dP (a3.get ho) rfl ?_;lia;refine⟨p,m,nx,os,nat b,"int",rfl,!aL a3,g,rfl,λa1 ea ha φ H7 s7 e7=>?_,fun ρ=>?_⟩
    ·have ea:=jv ea;subst ea;rw[α] at e7;lia;refine !bL a5 s7 (s7.get c.at') c.len @A ?_;rw[c.pv,take_succ τ,dt,dt];rfl
    ·rw[c7 (b0 b hm)] at ρ;cases ρ
   have e4:=c.at';rw[c.pv,aI,ic] at e4;have L:=c.same;clear c;lia;refine⟨D4,ak (nat an),v,?_,!b5 (s3.trans L),?_⟩
   ·rw[zs i,θ,β]
   ·rw[e4,<-θ,u2 (f:=λl=>M.bkI As l i)];rfl
 ·rintro σ H' ⟨DL,v1,ξ,rfl,s',eL⟩;rw[aI,M.upk_len];have c0:d * os.length + os.length < 64:=by rw[Wu,Wt] at ο;exact ο
  have hp:((d:Int) * (os.length:Int))=((d * os.length:Nat):Int):=by push_cast;rfl
  have hc:CPow (1:Int) ((d:Int) * (os.length:Int)):=by rw[hp];exact⟨@A,@A,@D⟩
  have a0:μ < 2 ^ 64:=fy hμ (gA @D (Vw ο));have Y:μ % 2 ^ @cw < 2 ^ 64:=w2 (Nat.mod_le _ _) a0;have sH:=a4.trans s';lia;rw[hp,K6];have η:CPow ((μ % 2 ^ @cw:Nat):Int) (nx.length:Int):=⟨@A,@A,by rw[XC];exact Y⟩;lia;refine !W (sH.get ho);lia;refine⟨p,_,nx,os,rfl,!aL sH,?_⟩;lia;intro tt H5 f5 s5 e5;rw[Pk,b5,hp,Rc] at e5;refine q tt H5 (sH.trans s5) ?_;rw[e5];unfold M.tel;rw[az,az]
theorem uU (T:@L):!H 2 a.c9 a.oW ["pair","tellings"] Mn:=by
 refine T.iu.1.okA dj λa0 A outer s H vs Q E π h=>?_;obtain⟨t,D,x,y,ts,rfl,et,ω,ht,lt,Y,q⟩:=h
 refine⟨_,((ae (!af dj.nd @ad)
  (ae (!ax dj.nd ah)
  (ae (cX lI rfl (!U (!aZ (jR T) π T.mn T.iw @ad)) (!bj dj.nd rfl) (ae (!af dj.nd (av iB @S (!V (!ad @I @a7))))
  (ai (!ax dj.nd (av iB @U (!V (!ad @I @a7)))))))
  (!aT (!ah 2 3)))))),!c3 rfl⟩
 lia;refine⟨y,rfl,!a6 Y,λD1 H1 f1 Z η=>?_⟩;rw[M.pl_up Y @A] at η;have γ:(prs ts).map (·.1)=ts.map λq=>q.2.1:=by rw[u2];rfl
 have θ:(prs ts).map (·.2)=ts.map λq=>q.2.2:=by rw[u2];rfl
 have β:∀(φ:ee) (H2:Hp),Same H H2->H2 φ=ak (!G [nat (x^^^M.sm (ts.map λq=>q.2.1) y),nat (M.sm (ts.map λq=>q.2.2) y)])->Q (!j φ) H2:=fun φ H2 s e=>q φ H2 s (by unfold M.fol;rw[γ,θ];exact e);clear q;generalize ψ:ts.map @cb=As at β;generalize ζ:ts.map (λq=>q.2.2)=Bs at β;have ο:As.length=ts.length:=by rw[<-ψ,aI]
 have ξ:Bs.length=ts.length:=by rw[<-ζ,aI]
 have υ:=Z.get ω;lia;refine !bW (M.pl ts.length y) (λi σ H'=>∃v,σ=[ak @a5,ak @Z,ak (nat (x^^^(!aQ (M.pl ts.length y)).foldl (λa p=>a^^^As.getD p 0) 0)),ak (nat ((!aQ (M.pl ts.length y)).foldl (λa p=>a^^^Bs.getD p 0) 0)),v]/\H'=H1) ⟨f',by rw[Ze,Zf,Zf,Vf];rfl,rfl⟩ (λi σ H' _ ⟨_,_,e⟩=>by rw[e];exact SqL.of η) ?_
 ·rintro i α σ H' δ ⟨v,rfl,rfl⟩;obtain⟨k,O,rfl⟩:=aA δ;have ε:k < ts.length:=wh.mp (UQ.mp (eH O)).1;obtain⟨L,G⟩:∃L,ts[k]? =ak L:=⟨_,ef ε⟩;have ρ:atI (refs ts) (k:Int)=ak (!j L.1):=dE (by unfold refs;rw[hH,G];rfl);have ι:=Z.get (ht L (eH G));have χ:As.getD k 0=L.2.1:=by rw[<-ψ,dm,hH,G];rfl
  have τ:Bs.getD k 0=L.2.2:=by rw[<-ζ,dm,hH,G];rfl
  lia;refine⟨ak (nat k),?_,rfl⟩;rw[b5,b5,take_succ O,UZ,UZ,U7];show _=[_,_,ak (nat (x^^^(_^^^As.getD k 0))),ak (nat (_^^^Bs.getD k 0)),_];rw[χ,τ]
 ·rintro σ H1 ⟨v,rfl,rfl⟩;rw[aI,ic,M.sm_places As y (by rw[ο];exact Y) ts.length @A,M.sm_places Bs y (by rw[ξ];exact Y) ts.length @A];lia;intro φ H2 f2 ν e2;exact β φ H2 (Z.trans ν) e2
theorem wJ (T:@L):!H 2 a.dD a.qe @cI (IJ a.ar):=by
 refine T.i5.1.okA hX λa0 A outer s H vs Q E ρ h=>?_;obtain⟨p,m,nx,os,d,rfl,ma,g,ν,ld,ο,q⟩:=h;obtain⟨dx,tn,to,ho,hn,π⟩:=ma.ho;have lo:=g.lo
 refine⟨_,((ae (!af hX.nd (!aI T.aB T.dS (dn T) (ρ.mono @D) T.bG.2 bW))
  (ae (b7 (osc:=ag gF) (ON:=["machine","delay","outs","moved","newest"]) (N:=["place","machine"]) (n:=1) (fx:=[0]) (i:=3) hX.nd rfl rfl rfl rfl rfl rfl @O (wz @G T.fh (!b3 2 (av ki @I @S))) @Q (!O (aq (i:=0) (show ka (["place","machine"]:C') from by decide +kernel) rfl @F) (dh (!a9 (!ab fw ah cL (bI @I T.aB T.b6 (bT T) (ρ.mono @D) T.bh.2 .nil bW) @K) ah))))
  (ae (!b7 hX.nd rfl (Fe (!X qP @I ah) (bA (osc:=ag gF) (ON:=["machine","delay","outs","moved","newest"]) (N:=["out"]) (n:=1) (fx:=[]) rfl rfl rfl @O (!b4 @G @ae) @Q (!O (aq (i:=0) (show ka (["out"]:C') from by decide +kernel) rfl @F) (dh (!a9 ah (av fw ah @K))))) @an))
  (!K (av g6 @U @a7)))))),!c3 rfl⟩
 lia;refine !W ho;lia;refine⟨p,_,nx,os,rfl,ma,?_⟩;lia;have ω:d * os.length + os.length < 64:=by rw[Wu,Wt] at ο;exact ο
 have ψ:((d:Int) * (os.length:Int))=((d * os.length:Nat):Int):=by push_cast;rfl
 rw[ψ];refine⟨_,_,rfl,⟨@A,@A,@A,@A⟩,?_⟩;intro D1 β;refine !bN (λi ys H'=>Cp (λqs=>prs qs=(kv qs.length).map λj=>(2 ^ (nx.length + (os.length + j)),0)) H D1 i ys H') (AU β rfl) @ch
 ·obtain⟨qs,rfl,Z,pv,pt,s',θ⟩:=c;have ι:os.length + i < 64:=by omega
  have hc:CPow (1:Int) ((nx.length:Int) + ((os.length:Int) + (i:Int))):=⟨@A,@A,@D⟩;lia;refine !W (!a2 ho);lia;refine⟨p,_,nx,os,rfl,!aL s',?_⟩;lia;intro η H2 f2 G γ;refine FA (x:=2 ^ @d5) (y:=0) β Z pt s' θ G ?_ @A ?_
  ·rw[γ,show(1:Int) * 2 ^ ((nx.length:Int) + ((os.length:Int) + (i:Int))).toNat=((2 ^ @d5:Nat):Int) by rw[Ym,show((nx.length:Int) + ((os.length:Int) + (i:Int))).toNat=nx.length + (os.length + i) by omega];push_cast;rfl];rfl
  ·show prs (qs++[_])=_;rw[show prs (qs++[(η,2 ^ @d5,0)])=prs qs++[(2 ^ @d5,0)] from dt ..,pv,fD,pO,V9,dt,Z];rfl
 obtain⟨qs,rfl,Z,pv,pt,ε,τ⟩:=c
 try dsimp only at pv
 rw[Z] at pv;have lr:(((d * os.length:Nat):Int) - (os.length:Int)).toNat=d * os.length - os.length:=by omega
 rw[lr] at pv;lia
 have kp:∀l,(prs qs++l=M.kpt @E @H d)↔l=(if 0 < d then (kv os.length).map (λk=>(0,2 ^ k)) else []):=λl=>by
  unfold M.kpt;rw[az,az,pv];exact List.append_right_inj _
 by_cases hd:0 < d;dsimp only
 ·rw[oL (by rw[W1];omega)];lia;intro χ φ;refine !bN (λi ys H'=>Cp (λzs=>prs zs=(kv zs.length).map λk=>(0,2 ^ k)) H1 χ i ys H') (AU φ rfl) (λys H2 c=>?_)
  ·obtain⟨zs,rfl,υ,α,O,G,θ⟩:=c;have ι:i < 64:=by omega
   have hc:CPow (1:Int) (0 + (i:Int)):=⟨@A,@A,@D⟩;lia;intro η ζ δ L Y;refine FA (x:=0) (y:=2 ^ i) φ υ O G θ L ?_ @A ?_
   ·rw[Y,show(1:Int) * 2 ^ (0 + (i:Int)).toNat=((2 ^ i:Nat):Int) by rw[Ym,show(0 + (i:Int)).toNat=i by omega];push_cast;rfl];rfl
   ·show prs (zs++[_])=_;rw[show prs (zs++[(η,0,2 ^ i)])=prs zs++[(0,2 ^ i)] from dt ..,α,fD,pO,V9,dt,υ];rfl
  obtain⟨zs,rfl,υ,α,O,G,γ⟩:=c
  try dsimp only at α
  rw[υ,lj] at α;lia;refine lH (G.get τ) γ (by rw[d6,d6,Z,υ,lr,ix,lj];omega) fun ξ ζ δ L Y=>?_;rw[show refs qs++refs zs=refs (qs++zs) from(dt ..).symm] at Y;lia;refine q ξ ζ (qs++zs) ((ε.trans G).free δ) ((ε.trans G).trans L) Y (λz hz=>?_) ?_
  ·rcases gz.mp hz with h | h
   ·exact(G.trans L).get (pt z h)
   ·exact !aj (O z h)
  ·rw[show prs (qs++zs)=prs qs++prs zs from dt ..,(kp _).mpr];rw[oL hd];exact α
 dsimp only
 ·rw[mu (by rw[W1];omega)];lia;intro χ H2 f2 G γ;lia;refine lH (G.get τ) γ (by rw[d6,Z,lr,ix];show _ + 0<=_;omega) fun ξ ζ δ L Y=>?_;rw[UY] at Y;lia;refine q ξ ζ qs ((ε.trans G).free δ) ((ε.trans G).trans L) Y (λz hz=>(G.trans L).get (pt z hz)) ?_;have:=(kp []).mpr (by rw[mu hd]);rwa [UY] at this
theorem rO (T:@L):!H 7 a.cb a.mq ["machine","delay","masks"] (Iv a.ar):=by
 refine T.gq.1.okA hV λb9 A outer s H vs Q E τ h=>?_;obtain⟨p,D,m,nx,os,d,G,rfl,ma,g,ν,ld,ο,eD,mk,q⟩:=h;obtain⟨dx,tn,to,ho,hn,π⟩:=ma.ho;have m6:=g.m6;have lo:=g.lo;have b8:d * os.length + os.length < 64:=by rw[Wu,Wt] at ο;exact ο
 have ζ:=mk.len
 have hμ:∀μ∈G,μ < 2 ^ @bt:=fun μ h=>by
  obtain⟨i,hi⟩:=wq.mp h;have:=mk.lt i μ hi;rwa [az] at this
 refine⟨_,((ae (!ax hV.nd (bA (osc:=ag dO) (ON:=n29) (N:=["mask","machine","delay"]) (n:=1) (fx:=[0,1]) rfl rfl rfl @O (!U @S) @Q (!O (aq (i:=0) (show ka (["mask","machine","delay"]:C') from by decide +kernel) rfl @F) (ao (yr T) τ T.AH T.jH (!ar 1 (!ah 2 0))))))
  (ae (b7 (osc:=ag dO) (ON:=n29) (N:=["pair","tellings"]) (n:=1) (fx:=[3]) (i:=4) hV.nd rfl rfl rfl rfl rfl rfl @O (!bc @W) @Q (!O (aq (i:=0) (show ka (["pair","tellings"]:C') from by decide +kernel) rfl @F) (!aR (uU T) τ T.xN T.iu 0 1)))
  (!K (ke T.C0 (ko T) @cf @G T.B7 T.dw.2 .nil bW (aa (!aI T.aB T.dS (dn T) @cf T.bG.2 bW) (aa (av g6 @a7 (!aR (wJ T) τ T.y6 T.i5 0 1)) (!a5 3)))))))),!cm rfl⟩
 lia;intro D1 a6;refine aN (xs:=G.map nat) (λi ys H'=>Cp (λqs=>prs qs=(G.take qs.length).map (M.tel @E @H d)) H D1 i ys H') (AU a6 rfl) (λi ys H' _ ⟨_,_,_,_,_,s',_⟩=>SqL.of (!a2 eD)) @bR @ch
 ·obtain⟨qs,rfl,lq,pv,pt,s',ω⟩:=c;obtain⟨μ,α,rfl⟩:=aA hv;have hi:=(!M α).1;lia;refine⟨p,m,nx,os,d,μ,rfl,!aL s',g,ν,ld,ο,hμ μ (eH α),λt2 H2 s2 e2=>?_⟩;refine FA a6 lq pt s' ω s2 e2 @A ?_;show prs (qs++[_])=_;rw[show prs (qs++[(t2,(M.tel @E @H d μ).1,(M.tel @E @H d μ).2)])=prs qs++[M.tel @E @H d μ] from dt ..,pv,fD,pO,lq,take_succ α,dt];rfl
 obtain⟨Z,rfl,χ,a3,a0,s1,e1⟩:=c;rw[aI] at χ;have eO:prs Z=M.telO @E @H d G:=by rw[a3,χ,ic];rfl
 clear a3;lia;refine !aJ (s1.get ho) T.cD;refine⟨tn,rfl,⟨_,SqT.of (s1.get hn)⟩,?_⟩;intro D2 φ;refine nj (xs:=refs nx) (λi ys H'=>Cp (λqs=>prs qs=((@E).take qs.length).map (M.fol (M.telO @E @H d G))) H1 D2 i ys H') (AU φ rfl) (λi ys H' _ ⟨_,_,_,_,_,s',_⟩=>SqT.of (!a2 (s1.get hn))) @bR (λys H2 c=>?_)
 ·obtain⟨qs,rfl,lq,pv,pt,s',ω⟩:=c;obtain⟨r,ψ,rfl⟩:=aA hv;have hi:=(!M ψ).1;have hm:=eH ψ;have O:=(s1.trans s').get (ma.hn r hm);have b3:(@E)[i]? =ak r.2:=by rw[hH,ψ];rfl
  lia;refine⟨r.1,D1,r.2.1,r.2.2,Z,rfl,O,!a2 e1,λz hz=>s'.get (a0 z hz),@A,by rw[χ,ζ];exact(g.bn r (!N hm)).2,λt3 H3 s3 e3=>?_⟩;rw[eO] at e3;refine FA φ lq pt s' ω s3 e3 (by have:=g.ln;omega) ?_;show prs (qs++[_])=_;rw[show prs (qs++[(t3,(M.fol (M.telO @E @H d G) (r.2.1,r.2.2)).1,(M.fol (M.telO @E @H d G) (r.2.1,r.2.2)).2)])=prs qs++[M.fol (M.telO @E @H d G) r.2] from dt ..,pv,fD,pO,lq,take_succ b3,dt];rfl
 obtain⟨Y,rfl,ρ,a4,b0,s2,e2⟩:=c;rw[d6] at ρ;have η:prs Y=(@E).map (M.fol (M.telO @E @H d G)):=by rw[a4,ρ,Va (Yq (az nx))]
 clear a4;have ι:=s1.trans s2;lia;refine !W (ι.get ho);lia;refine⟨p,m,nx,os,rfl,!aL ι,?_⟩;lia;refine⟨p,m,nx,os,d,rfl,!aL ι,g,ν,ld,ο,λD3 H3 ks f3 s3 e3 δ eK=>?_⟩;have a5:ks.length=d * os.length:=by rw[<-az,eK,M.kpt_len,az]
 lia;refine lH (s3.get e2) e3 (by rw[d6,d6,ρ,a5,ix];omega) λD4 H4 f4 L e4=>?_;rw[show refs Y++refs ks=refs (Y++ks) from(dt ..).symm] at e4
 have eN:prs (Y++ks)=M.telP @E @H d G:=by
  rw[show prs (Y++ks)=prs Y++prs ks from dt ..,η,eK];rfl
 have lN:(Y++ks).length=nx.length + d * os.length:=by rw[fD,ρ,a5]
 have β:=s3.trans L;have γ:=ι.trans β
 have a7:∀q∈prs nx++prs os,q.1 < 2 ^ (@E).length:=λq hq=>by
  rw[az];rcases gz.mp hq with h | h
  ·obtain⟨r,τ,rfl⟩:=hD.mp h;exact(g.bn r (!N τ)).1
  ·obtain⟨r,τ,rfl⟩:=hD.mp h;exact(g.bn r (!Q τ)).1
 have υ:∀μ∈G,μ < 2 ^ (@a4 * (@H).length):=by rw[az];exact hμ
 have tab:Tab H4 D4 D1 os.length (Y++ks) Z:=⟨lo,e4,(s2.trans β).get e1,λz hz=>by
   rcases gz.mp hz with h | h
   ·exact β.get (b0 z h)
   ·exact !aj (δ z h),λz hz=>(s2.trans β).get (a0 z hz),by rw[lN];omega,@A,λz hz=>by
   rw[lN];rcases gz.mp hz with h | h
   ·have:=M.telP_lt a7 υ z.2 (by rw[<-eN];exact hD.mpr ⟨z,h,rfl⟩);rwa [az,az] at this
   ·have:=M.telO_lt a7 υ z.2 (by rw[<-eO];exact hD.mpr ⟨z,h,rfl⟩);rwa [az,az] at this⟩
 lia;intro x θ H5 ξ s5 e5;refine⟨x,θ,D4,D1,os.length,Y++ks,Z,rfl,e5,tab.same s5,λH6 k6 ε=>⟨rfl,?_⟩⟩;have a8:Same H4 H6:=λb ob e=>k6 _ _ (!L ξ) (s5.get e);exact q x H6 (Y++ks) Z (γ.trans a8) ε tab.g eN eO
theorem Bz (T:@L):!H 11 a.gO a.xV @bL (F1 a.ar):=by
 refine T.nu.1.okA d0 λb0 A outer s H vs Q E ψ h=>?_;obtain⟨p,m,nx,os,rfl,ma,g,χ,a5,qN,qB⟩:=h;have up:∀d,d<=nx.length->@a4 * os.length < 64:=λd h=>w2 (VA _ @A) a5
 refine⟨_,((ae (!ba d0.nd rfl (ao (z9 T) ψ T.B0 T.lg @a2))
  (ae (d7 (!X P2 @I N8) (!K @I) bz)
  (ae (!af d0.nd @an)
  (ae (!ax d0.nd ah)
  (ae (!b7 d0.nd rfl (!aR (zi T) ψ T.BZ T.o7 0 3))
  (ae (rJ lI (!X lR (!V @a7) bc) (ae (!af d0.nd (!V @a7))
  (ae (!ax d0.nd (!a3 cL @U))
  (ai (!b7 d0.nd rfl (!aR (zi T) ψ T.BZ T.o7 0 3))))))
  (!aT (aa bc (!ar 3 (aa (ao (rO T) ψ T.uj T.gq (!ar 0 (!b3 3 (!V @a7)))) @ae))))))))))),aw (σ':=[ak _,f',f',f',f']) rfl ?_⟩
 lia;refine⟨p,m,nx,os,rfl,ma,g,χ,λH1 bars Z τ fv h0=>?_,λH1 t B S I L u bars Z bq ls τ nv=>?_⟩
 ·lia;intro D2 H2 f2 s2 e2;have G:=τ.trans s2;lia;refine⟨p,m,nx,os,0,rfl,!aL G,g,@A,up 0 @A,λt D H3 rs δ ε et e3 sl=>?_,λt D H3 μs δ ε et e3 mk no=>?_⟩
  all_goals lia
  all_goals refine⟨λk σ H'=>∃d,k=nx.length - d/\TbI H p nx os m d σ H',?_,?_⟩
  ·have:=NX sl fv h0;rw[az] at this;exact⟨_,0,rfl,D2,t,D,[],rfl,@A,G.trans ε,τ.free f2,ε.get e2,!J @bO,λk h=>hF h (VQ k),G.free δ,!J ⟨rs,et,e3,sl,this⟩⟩
  rotate_left
  ·exact⟨_,0,rfl,D2,t,D,[],rfl,@A,G.trans ε,τ.free f2,ε.get e2,!J @bO,λk h=>hF h (VQ k),G.free δ,!F ⟨μs,et,e3,mk,no⟩⟩
  all_goals
   clear G ε et e3 δ f2 e2 s2;rintro k σ H4 ⟨d,rfl,Dr,t4,D4,a0,rfl,dl,β,fr,O,a6,hy,f4,h⟩;rcases h with ⟨υ,a7,ω,Y,a8⟩ | ⟨ν,a7,ω,φ,ξ⟩
   ·lia;refine⟨fun σ' H'=>TbI H p nx os m @a4 σ' H',fun σ' H' h=>⟨nx.length - @a4,@A,d + 1,rfl,h⟩,?_⟩;lia;refine⟨p,m,nx,os,d + 1,rfl,!aL β,g,@A,up @a4 @A,λt5 D5 H5 ι f5 α γ e5 θ=>?_,λt5 D5 H5 η f5 α γ e5 ο a4=>?_⟩
    ·lia;have:=NX θ fv h0;rw[az] at this;refine⟨D4,t5,D5,υ,rfl,@A,β.trans α,f4,α.get ω,!F ⟨d,rfl,Y⟩,λk hk=>?_,β.free f5,!J ⟨ι,γ,e5,θ,this⟩⟩;by_cases h:k < d
     ·exact hy k h
     ·rw[show k=d by omega];exact Y.osm
    ·lia;refine⟨D4,t5,D5,υ,rfl,@A,β.trans α,f4,α.get ω,!F ⟨d,rfl,Y⟩,λk hk=>?_,β.free f5,!F ⟨η,γ,e5,ο,a4⟩⟩;by_cases h:k < d
     ·exact hy k h
     ·rw[show k=d by omega];exact Y.osm
   ·lia;refine⟨p,D4,m,nx,os,d,ν,rfl,!aL β,g,χ,@A,up d dl,ω,φ,λx H5 ζ a3 α π g5 eN eO=>?_⟩;lia;intro tt H6 f6 s6 ρ;exact qB tt x Dr H6 d ζ a3 ν a0 fr ((β.trans α).trans s6) ρ ((α.trans s6).get O) (π.same s6) g5 eN eO ⟨φ,by rw[az];exact dl,ξ,hy,a6⟩
 ·lia;exact qN H1 t B S I L u bars Z bq ls τ nv
end
theorem mi (T:@L):!H 1 a.kJ a.Ct ["thing"] (IC K):=by
 refine T.jb.1.okA Gg λY A outer s H vs Q E Z h=>?_;obtain⟨x,k,rfl,hk,hz,q⟩:=h;have α:=q H (Same.refl H)
 refine⟨_,((ae (d7 (PW.pt (uS (!b6 (aM @cc @G T.g7 V4 (!b3 0 (tH (v:= .ty "str") @G T.JT Wb rfl)))) (uS (!X lR @K bc) (uz (!X qP (!aa @a2) (!bV @G T.y8)))))) (!K DK) bz)
  (!K (uB (jq Bx (!c4 Oj @K ah) (kg (v:= .str "abcdefghijklmnopqrstuvwxyz") @G T.Ku ⟨_,rfl⟩) @G) (wA (aM (ya (K:=K) rfl rfl) @G T.Qc XH (!Z (bA (osc:=ag rD) (ON:=["thing"]) (N:=["sign"]) (n:=1) (fx:=[]) rfl rfl rfl @O (R6 @K) @Q (!O (aq (i:=0) (show ka (["sign"]:C') from by decide +kernel) rfl @F) (jq Bx @K (kg (v:= .str "abcdefghijklmnopqrstuvwxyz0123456789") @G T.B6 ⟨_,rfl⟩) @G)))))))))),@aL⟩
 lia;cases x with
 | int i=>have hk:k="int":=hk;subst hk;lia;exact α
 | bl b=>have hk:k="bool":=hk;subst hk;lia;exact α
 | non=>have hk:k="NoneType":=hk;subst hk;lia;exact α
 | ref p=>rcases hk with ⟨rfl,_⟩ | ⟨rfl,_⟩ | ⟨rfl,_⟩<;>lia<;>exact α
 | str z=>
   have hk:k="str":=hk;subst hk;have hz:=hz z rfl;have hs:z.length<=sizeLine:=Vw (aO hz);have q:∀H',Same H H'->Q (.bl (nm z.cps.toList)) H':=q;have α:=q H (Same.refl H);lia;by_cases h1:z=""
   ·rw[C8.mp h1] at α;refine rE (by rw[hE];rw[h1]) ?_;lia;exact α
   ·refine jW (by rw[hA];exactλz=>h1 (V.str.inj z)) ?_;lia
    obtain⟨c,r,G⟩:∃c r,z.cps.toList=c::r:=by
     cases hl:z.cps.toList with
     | nil=>exact hF (C8.mpr hl) h1
     | cons c r=>exact⟨c,r,rfl⟩
    have L:=pG z;rw[G] at α L;have q:∀H',Same H H'->Q (.bl (decide ((c::r).length<=6)&&low c&&(c::r).all λc=>low c||fig c)) H':=λH' s=>by have:=q H' s;rw[G] at this;exact this
    by_cases h2:(6:Int) < z.length
    ·refine rE (hE h2) ?_;lia;have:=q H (Same.refl H);rw[hA (show ¬(c::r).length<=6 by omega)] at this;exact this
    ·refine jW (hA h2) ?_;rw[hE (show(c::r).length<=6 by omega)] at q;lia;refine Rv hs (c:=c) (by rw[G];exact dE (j:=0) rfl) ?_;lia;rw[aa1,memL];cases O:low c
     ·rw[O] at q;lia;exact q H (Same.refl H)
     ·rw[O] at q;lia;intro D f;refine Nn (Cs (!bQ ((!aQ (c::r)).map λc=>low c||fig c)) H D) (!a4 f) (λi d ys H' hd ⟨e,s,at',len⟩=>?_) (λys H' ⟨e,s,at',len⟩=>?_)
      ·have hi:i < z.cps.size:=(VT.mp hd).1;have γ:(c::r)[i]? =ak d:=by rw[<-G];simpa using hd
       lia;rw[aa1,memN];refine Cs.put f s at' len (by have:z.cps.size=z.length:=rfl;omega) ?_;rw[e,Zn,γ,dt,dt];rfl
      ·have hsz:z.cps.size=(c::r).length:=L.symm;rw[hsz,ic] at e;refine E3 (!ag (by rw[at',e])) ?_;have:=q H' s;rw[ah8];exact this
 | _=>exact UP hk
theorem jr (T:@L):!H 1 a.cE a.dU @ci (Mh K):=by
 refine T.dc.1.okA uP λO A outer s H vs Q E Y h=>?_;obtain⟨x,C,dx,nm,rfl,L,hn,G,q⟩:=h;refine⟨_,((ai (!aA @I))),@aN⟩;lia;exact cW G L hn @D rfl q
theorem rR (T:@L):!H 2 a.bE a.my @dh (Mg a.a9):=by
 refine T.gv.1.okA rB λO A outer s H vs Q E L h=>?_;obtain⟨x,dx,nm,k,rfl,G,q⟩:=h
 refine⟨_,((ae (bp (wB @G T.Ks T.dU (jr T) (L.mono @D) T.dc.2 .nil bW (!ah 0 1)))
  (ai (!aA @S)))),!bn rfl⟩
 lia;refine⟨x,_,dx,nm,rfl,T.nF,T.rY,G,λH2 u=>?_⟩;lia;exact cW u.at' T.nF T.ku (by show 1 < 1000;decide) rfl λY α=>q Y (u.trans α)
theorem oF (T:@L):!H 2 a.bg a.jy @du (Mf a.aD):=by
 refine T.dI.1.okA oj λY A outer s H vs Q E O h=>?_;obtain⟨x,dx,nm,wr,k,rfl,L,q⟩:=h
 refine⟨_,((ae (bp (wB @G T.Ks T.dU (jr T) (O.mono @D) T.dc.2 .nil bW (!ah 0 1)))
  (ae (!aA @S)
  (ai (!aA @U))))),!c0 ?_⟩
 lia;refine⟨x,_,dx,nm,rfl,T.fT,T.nJ,L,λH2 u=>?_⟩;lia;refine cW u.at' T.fT T.va (by show 1 < 1000;decide) rfl fun β α=>?_;lia;exact cW α.at' T.fT T.ij (by show 2 < 1000;decide) rfl λZ G=>q Z ((u.trans α).trans G)
theorem qT (T:@L):!H 2 a.bw a.kW ["self","name","wires"] (IL K a.aU):=by
 refine T.fo.1.okA qz fun β A outer s H vs Q E α h=>?_;obtain⟨x,dx,nm,Y,ws,rfl,hw,L,q⟩:=h;have G:Y≠x:=cF hw L λz=>by cases z
 refine⟨_,((ae (bp (wB @G T.Ks T.dU (jr T) (α.mono @D) T.dc.2 .nil bW (!ah 0 1)))
  (ai (!aA (!bx rfl @G T.lV zt @ae))))),!bn rfl⟩
 lia;refine⟨x,_,dx,nm,rfl,T.kN,T.p9,L,λH2 u=>?_⟩;have Z:=u.oth _ _ G hw;lia;exact cW u.at' T.kN T.kr (by show 1 < 1000;decide) rfl fun γ O=>q γ (u.trans O)
theorem Af (T:@L):!H 1 a.du a.uL @bQ (Pf a.a9):=by
 refine T.je.1.okA zV λL A outer s H vs Q E Y h=>?_;obtain⟨p,dx,nm,k,O,row,st,rfl,G,Z,q⟩:=h;refine⟨_,((!K (!a3 mh (av wF @S @W)))),!c0 ?_⟩;lia;refine !aw G T.nF T.ku;lia;exact q
theorem uV (T:@L):!H 1 a.bX a.oX @bQ (Pd a.aD):=by
 refine T.fQ.1.okA uQ λL A outer s H vs Q E Y h=>?_;obtain⟨p,dx,nm,wr,k,O,row,st,rfl,G,Z,q⟩:=h;refine⟨_,((!K (!a3 mh (av wF @U @W)))),!c0 ?_⟩;lia;refine !aw G T.fT T.ij;lia;exact q
theorem yx (T:@L):!H 1 a.cO a.sE @bQ (Pe K a.aU):=by
 refine T.iy.1.okA iX λY A outer s H vs Q E L h=>?_;obtain⟨p,dx,nm,Z,d,ws,kvs,f,row,st,rfl,O,ht,hd,hf,q⟩:=h;have hu:=qZ L
 refine⟨_,((ae (!b7 iX.nd rfl ah)
  (ae (!aS lI (!bc @W) (aq (i:=5) iX.nd rfl @F) (!b7 iX.nd rfl (av iB @a7 (oC hu @I @aw @bn))))
  (!K @a7)))),aw (σ':=[ak _,ak _,ak _,ak _,f',f']) rfl ?_⟩
 lia;refine !aw O T.kN T.kr;lia;refine uo (λi σ H2=>∃v,σ=[ak @P,ak @aX,ak (.int row),ak (.int st),ak (.int (((@bX).map f).foldl U5 0)),v]/\H2=H) ⟨f',rfl,rfl⟩ (λi σ H2 _ ⟨v,_,e⟩=>by rw[e];exact ht) ?_ ?_
 ·rintro i x σ H2 G ⟨v,rfl,rfl⟩;obtain⟨z,hz,rfl⟩:=aA G;lia;refine tD hd (hf z (eH hz)) ?_;lia;exact⟨_,by rw[xP hz],rfl⟩
 ·rintro σ H2 ⟨v,rfl,rfl⟩;lia;rw[aI,ic];exact q
theorem yy (T:@L):!H 1 a.cQ a.sG @bF (Mm a.a9):=by
 refine T.iA.1.okA yp λL A outer s H vs Q E Y h=>?_;obtain⟨p,dx,nm,k,O,rfl,G,Z,h1,q⟩:=h;refine⟨_,((!aT (!a9 ah (av fw ah @W)))),@aN⟩;lia;refine !aw G T.nF T.ku;lia;exactλt H2 _ s e=>q t H2 s e
theorem tL (T:@L):!H 1 a.bN a.nL @bF (Mj a.aD):=by
 refine T.eR.1.okA sY λL A outer s H vs Q E Y h=>?_;obtain⟨p,dx,nm,wr,k,O,rfl,G,Z,h1,q⟩:=h;refine⟨_,((!aT (!a9 (av fw ah @W) ah))),@aN⟩;lia;refine !aw G T.fT T.ij;lia;exactλt H2 _ s e=>q t H2 s e
theorem wL (T:@L):!H 1 a.cn a.qf @bF (Ml K a.aU):=by
 refine T.gH.1.okA cU fun α A outer s H vs Q E Y h=>?_;obtain⟨p,dx,nm,γ,d,ws,kvs,f,g,rfl,Z,ht,hd,hf,q⟩:=h;have hu:=qZ Y
 refine⟨_,((ae (!af cU.nd ah)
  (ae (!ax cU.nd ah)
  (ae (cX lI rfl (!bc @W) (!bj cU.nd rfl) (ae (!bt cU.nd rfl (oC hu @I @a7 @bn))
  (ae (!af cU.nd (av iB @S (!V @aw)))
  (ai (!ax cU.nd (av iB @U (!V @aw)))))))
  (!aT (!ah 2 3)))))),aw (σ':=[ak _,ak _,f',f',f',f']) rfl ?_⟩
 lia;refine !aw Z T.kN T.kr;lia;refine uo (λi σ H2=>∃v G,σ=[ak @P,ak @aX,ak (.int (((@bX).map f).foldl U5 0)),ak (.int (((@bX).map g).foldl U5 0)),v,G]/\H2=H) ⟨f',f',rfl,rfl⟩ (λi σ H2 _ ⟨v,G,_,e⟩=>by rw[e];exact ht) ?_ ?_
 ·rintro i x σ H2 L ⟨v,G,rfl,rfl⟩;obtain⟨z,hz,rfl⟩:=aA L;obtain⟨t,τ,O⟩:=hf z (eH hz);lia;refine tD hd τ ?_;lia;exact⟨_,_,by rw[xP hz,xP hz],rfl⟩
 ·rintro σ H2 ⟨v,G,rfl,rfl⟩;lia;rw[aI,ic];exactλt β _ s e=>q t β s e
section
local macro_rules | `(tactic| walk_at "l2step") =>`(tactic| first | ((with_reducible refine' cJ ?e ?_);(case e=>walk_at "l2kind")) | ((with_reducible refine' eP ?e ?_);(case e=>walk_at "l2kind")) | (with_reducible refine bL ?_) | (with_reducible refine cN ?_))
theorem yv (T:@L):!H 1 a.eA a.sC @dz IQ:=by
 refine T.jK.1.okA ym fun β A outer s H vs Q E γ h=>?_;obtain⟨i,s,t,o,rs,qs,N,rfl,hn,g,q⟩:=h;have hi:=hn.i;have hs:=hn.s;have ht:=hn.t;have ho:=hn.o;have li:=g.li;have ls:=g.ls;have lt:=g.lt;have lo:=g.lo;have Y:rs.length=N.sums.length:=by rw[<-hn.es,aI]
 have Z:qs.length=N.sts.length:=by rw[<-hn.et,aI]
 refine⟨_,((ae (!aK (!X qP (!aa @a2) (!bV @G T.Hb)) kc)
  (ae (!aK (!X qP (!aa @ag) (kg (v:= .int 40) @G T.Ew ⟨_,rfl⟩)) kc)
  (ae (!aK (!X qP (!aa @ae) (kg (v:= .int 16) @G T.sj ⟨_,rfl⟩)) kc)
  (ae (!aK (!X qP (!aa (!a5 3)) (!bV @G T.vw)) kc)
  (ai (!aK (gZ (aM (CD (K:=K) rfl rfl) @G T.SA Zc (!Z (bA (osc:=ag jD) (ON:=["ins","sums","stores","outs"]) (N:=n10) (n:=1) (fx:=[]) rfl rfl rfl @O (!U @I) @Q (!O (aq (i:=0) (show ka (n10:C') from by decide +kernel) rfl @F) (jq qP (!aa (!Z @ad)) (kg (v:= .int 24) @G T.B8 ⟨_,rfl⟩) @bk)))))) kc))))))),!c0 ?_⟩
 lia;rw[aI];refine jW (hA @A) ?_;lia;rw[aI];refine jW (hA @A) ?_;lia;rw[aI];refine jW (hA @A) ?_;lia;rw[aI];refine jW (hA @A) ?_;lia;intro D ω;refine aN (xs:=rs.map λr=>V.ref r.1) (!bR (!bQ (hC i false))) (!a4 ω) (!aF hs) (λi x ys H' α c=>?_) @c3
 ·obtain⟨r,G,rfl⟩:=aA α;have hi:=(@aD).1;have hm:=eH G;have O:=c.same.get (hn.sr r hm).1;have δ:=c.same.get (hn.sr r hm).2;have hw:=g.lw r.2.2 (by rw[<-hn.es];exact hD.mpr ⟨r,hm,rfl⟩);lia;rw[aI,hA (show ¬(24:Int) < (r.2.2.2.length:Int) by omega)];refine Cs.put ω c.same c.at' c.len @A ?_;rw[c.pv,Wn,dt];rfl
 ·have L:=c.at';rw[c.pv] at L;lia;refine N1 (!ag L) ?_;lia;refine jW @C ?_;lia;exact q H' c.same
theorem yw (T:@L):!H 2 a.eC a.sD ["names"] IR:=by
 refine T.jL.1.okA lG fun ζ A outer s H vs Q E β h=>?_;obtain⟨l,zs,rfl,hl,ln,nd,hn,q⟩:=h;have hu:=qZ β
 refine⟨_,((ae (!ba lG.nd rfl rM)
  (ai (cX lI rfl (!U @K) (!bJ lG.nd @F) (ae (!aK (!b6 (ao (mi T) β T.oP T.jb @ae)) kc)
  (ae (!aK (Fb (Jx hu @S @I)) kc)
  (ai (z6 hu @I @S DK rfl)))))))),!c6 rfl⟩
 lia;intro D H1 δ Z ε;have hl1:=Z.get hl;lia;refine fk (xs:=zs.map V.str) (λi σ H'=>∃v,σ=[ak @aA,ak @Z,v]/\Same H H'/\∃kvs:eS (Key×V),H' D=ak @ah/\kvs.map (·.1)=(zs.take i).map v3) ⟨f',rfl,Z,[],ε,rfl⟩ (λi σ H' _ ⟨_,_,s',_⟩=>SqL.of (!a2 hl)) ?_ ?_
 ·rintro i y σ H' γ ⟨v,rfl,s',kvs,θ,O⟩;obtain⟨z,hz,rfl⟩:=aA γ;have hi:=(@aV).1
  have G:z∉zs.take i:=λm=>by
   have h2:=nd;rw[<-WI i zs,UK] at h2;exact h2.2.2 z m z (eH (i:=0) (by rw[Xi,Nat.add_zero];exact hz)) rfl
  have lk:kvs.length<=1000:=by have:=px zz O;rw[aI,aI,pa] at this;omega
  lia;refine c_nm (hn z (eH hz)) λH2 Y=>?_;have L:=Y.get θ;lia;refine N0 L ?_;rw[vz O z,hA G];lia;refine qG L (aO lk) fun η α=>?_;rw[DF O G] at α;lia;refine⟨λb o e=>α.oth _ _ (!L δ) (Y.get @af),_,α.at',?_⟩;rw[dt,O,take_succ hz,dt];rfl
 ·rintro σ H' ⟨v,rfl,s',_⟩;lia;exact q H' s'
theorem jE (T:@L):!H 2 a.fG a.uF ["wire","known"] Mo:=by
 refine T.fP.1.okA zT λZ A outer s H vs Q E L h=>?_;obtain⟨z,d,zs,rfl,⟨kvs,Y,O⟩,hz,hn,q⟩:=h;have hu:=qZ L;refine⟨_,((ai (!aK (PW.pt (uS (!b6 (ao (mi T) L T.oP T.jb @a2)) (uz (Fb (Bv hu @K @I))))) kc))),@aN⟩;lia;refine c_nm hn λH2 G=>?_;have ρ:=G.get Y;lia;refine PB ρ ?_;rw[vz O z,hE hz];lia;exact q H2 G
theorem yt (T:@L):!H 3 a.eg a.sy ["sums","stores","outs","known"] IP:=by
 refine T.jI.1.okA gD fun π A outer s H vs Q E ν h=>?_;obtain⟨i,s,t,o,d,rs,qs,N,rfl,kp,g,η,q⟩:=h;have hs:=kp.s;have ht:=kp.t;have ho:=kp.o
 refine⟨_,((ae (!aS lI (!bc @K) (!bj gD.nd rfl) (!aS lI (!bc (!V @a7)) (aq (i:=5) gD.nd rfl @F) (bp (!aR (jE T) ν T.kU T.fP 5 3))))
  (ae (!aS lI (!bc @I) (!bj gD.nd rfl) (bp (ao (jE T) ν T.kU T.fP (aa (!V @a7) (!a5 3)))))
  (ai (!aS lI (!bc @S) (aq (i:=5) gD.nd rfl @F) (bp (!aR (jE T) ν T.kU T.fP 5 3))))))),aw (σ':=[ak _,ak _,ak _,ak _,f',f']) rfl ?_⟩
 lia;refine uo (xs:=rs.map λr=>V.ref r.1) (λi σ H'=>∃α ξ,σ=[ak (!j s),ak @a5,ak (!j o),ak @aX,α,ξ]/\Same H H') @di (λi σ H' _ ⟨_,_,_,s'⟩=>SqT.of (!a2 hs)) ?_ ?_
 ·rintro i y σ H' γ ⟨α,ξ,rfl,s'⟩;obtain⟨r,δ,rfl⟩:=aA γ;have hm:=eH δ;have O:=s'.get (kp.sr r hm).1;have ο:=s'.get (kp.sr r hm).2;have ε:r.2.2∈N.sums:=by rw[<-kp.es];exact !aq ⟨r,hm,rfl⟩
  lia;refine uo (xs:=r.2.2.2.map V.str) (λj σ H2=>∃v,σ=[ak (!j s),ak @a5,ak (!j o),ak @aX,ak (!j r.1),v]/\Same H' H2) ⟨_,rfl,Same.refl _⟩ (λj σ H2 _ ⟨_,_,Y⟩=>SqT.of (Y.get ο)) ?_ ?_
  ·rintro j y σ H2 γ ⟨v,rfl,Y⟩;obtain⟨z,hz,rfl⟩:=aA γ;have G:=g.ws r.2.2 ε z (eH hz);lia;refine⟨z,d,N.names,rfl,(η.same s').same Y,G,g.nm z G,fun ζ Z=>?_⟩;lia;exact Y.trans Z
  ·rintro σ H2 ⟨v,rfl,Y⟩;lia;exact⟨_,_,rfl,!b5 Y⟩
 ·rintro σ H' ⟨α,ξ,rfl,s'⟩;have θ:=s'.get ht;lia;refine uo (xs:=qs.map λr=>V.ref r.1) (λi σ H2=>∃α,σ=[ak (!j s),ak @a5,ak (!j o),ak @aX,α,ξ]/\Same H' H2) ⟨_,rfl,Same.refl _⟩ (λi σ H2 _ ⟨_,_,Y⟩=>SqT.of (Y.get θ)) ?_ ?_
  ·rintro i y σ H2 γ ⟨α,rfl,Y⟩;obtain⟨r,δ,rfl⟩:=aA γ;have hm:=eH δ;have O:=Y.get (!a2 (kp.tr r hm));have ε:r.2∈N.sts:=by rw[<-kp.et];exact !aq ⟨r,hm,rfl⟩
   have G:=g.ts r.2 ε;lia;refine⟨r.2.2,d,N.names,rfl,(η.same s').same Y,G,g.nm _ G,fun ζ Z=>?_⟩;lia;exact Y.trans Z
  ·rintro σ H2 ⟨α,rfl,Y⟩;have β:=s'.trans Y;have ι:=β.get ho;lia;refine uo (xs:=N.outs.map V.str) (λi σ ζ=>∃ξ,σ=[ak (!j s),ak @a5,ak (!j o),ak @aX,α,ξ]/\Same H2 ζ) ⟨_,rfl,Same.refl _⟩ (λi σ ζ _ ⟨_,_,Z⟩=>SqT.of (Z.get ι)) ?_ ?_
   ·rintro i y σ ζ γ ⟨ξ,rfl,Z⟩;obtain⟨z,hz,rfl⟩:=aA γ;have G:=g.os z (eH hz);lia;refine⟨z,d,N.names,rfl,(η.same β).same Z,G,g.nm z G,fun ρ L=>?_⟩;lia;exact Z.trans L
   ·rintro σ ζ ⟨ξ,rfl,Z⟩;lia;exact q _ (β.trans Z)
theorem Fg (T:@L):!H 1 a.rh a.KR ["row","waiting"] L3:=by
 refine T.yf.1.okA Mq fun δ A outer s H vs Q E Z h=>?_;obtain⟨r,d,zs,rfl,O,α,lw,⟨kvs,γ,β⟩,q⟩:=h;have hu:=qZ Z;refine⟨_,((!K (aM (CD (K:=K) rfl rfl) @G T.SA Zc (!Z (bA (osc:=ag zW) (ON:=n14) (N:=["wire","waiting"]) (n:=1) (fx:=[1]) rfl rfl rfl @O (!bc @ad) @Q (!O (aq (i:=0) (show ka (["wire","waiting"]:C') from by decide +kernel) rfl @F) (Sb (Jx hu @K @I)))))))),@aN⟩;lia;intro D ω;refine nj (xs:=r.2.2.2.map V.str) (!bR (!bQ ((r.2.2.2.take i).map λw=>decide (w∈zs)))) (!a4 ω) (!c1 α) (λi x ys H' Y c=>?_) @c3
 ·obtain⟨z,hz,rfl⟩:=aA Y;have hi:=(@aV).1;lia;refine N0 (!bi γ) ?_;rw[vz β z];refine Cs.put ω c.same c.at' c.len @A ?_;rw[c.pv,take_succ hz,dt,dt];rfl
 ·have L:=c.at';rw[c.pv,aI,ic] at L;lia;refine N1 (!ag L) ?_;have G:(r.2.2.2.map λw=>decide (w∈zs)).any id=iC zs r.2.2.2:=by rw[ah7];rfl
  lia;rw[G];exact q H' c.same
theorem uT (T:@L):!H 4 a.c8 a.oV ["ins","sums","stores"] (F0 a.a9 a.aU a.aD):=by
 refine T.iq.1.okA nG λf4 A outer s H vs Q E hr h=>?_;obtain⟨i,s,t,o,rs,qs,N,rfl,kp,g,q⟩:=h;have hi:=kp.i;have hs:=kp.s;have ht:=kp.t;have li:=g.li;have ls:=g.ls;have lt:=g.lt;have f1:rs.length=N.sums.length:=by rw[<-kp.es,aI]
 have f2:qs.length=N.sts.length:=by rw[<-kp.et,aI]
 refine⟨_,((ae (b7 (osc:=ag cV) (ON:=n18) (N:=["number","name"]) (n:=2) (fx:=[]) (i:=3) nG.nd rfl rfl rfl rfl rfl rfl @O (rL (K:=K) rfl @G T.fA @K) (xI (fj @Q (fj @Q rf))) (!O (!bK rfl rfl (aq (i:=0) (show ka (["number","name"]:C') from by decide +kernel) rfl @F) (aZ (aq (i:=1) (show ka (["number","name"]:C') from by decide +kernel) rfl @F) ie)) (ke T.ND (rR T) @av @G T.Na T.gv.2 .nil bW (!ah 1 0))))
  (ae (bp (!aB la UJ UI il @U (bA (osc:=ag cV) (ON:=n18) (N:=n10) (n:=1) (fx:=[]) rfl rfl rfl @O (!bc @I) @Q (!O (aq (i:=0) (show ka (n10:C') from by decide +kernel) rfl @F) (ke T.Lm (qT T) @av @G T.Kt T.fo.2 .nil bW (!a9 @ad @ad))))))
  (ae (bp (!aB la UJ UI il @U (bA (osc:=ag cV) (ON:=n18) (N:=["number","row"]) (n:=2) (fx:=[]) rfl rfl rfl @O (rL (K:=K) rfl @G T.fA @S) (xI (fj @Q (fj @Q rf))) (!O (!bK rfl rfl (aq (i:=0) (show ka (["number","row"]:C') from by decide +kernel) rfl @F) (aZ (aq (i:=1) (show ka (["number","row"]:C') from by decide +kernel) rfl @F) ie)) (ke T.EN (oF T) @av @G T.Et T.dI.2 .nil bW (aa (!V @I) (aa (!V @I) @a2)))))))
  (!K (aW (zH rfl) @G T.Og Z7 (!Z (bA (osc:=ag cV) (ON:=n18) (N:=["wire"]) (n:=1) (fx:=[]) rfl rfl rfl @O (!U @U) @Q (!O (aq (i:=0) (show ka (["wire"]:C') from by decide +kernel) rfl @F) (dh (aa @W @a2))))))))))),aw (σ':=[ak _,ak _,ak _,f']) rfl ?_⟩
 lia;refine !F ⟨⟨_,SqT.of hi⟩,?_⟩;intro D ω;refine uq (xs:=N.ins.map V.str) (λi ys H'=>∃ws,WL H H' a.a9 a.aU a.aD N D ys (N.ins.take i) ws) ⟨[],rfl,rfl,λ_ h=>hF h @C,bj ω,ay⟩ (λi ys H' _ ⟨ws,c⟩=>SqT.of (!bi hi)) (λi x ys H' pz H2 hx ⟨ws,c⟩ fp s2 e2=>?_) (λys H' ⟨ws,c⟩=>?_)
 ·obtain⟨z,hz,rfl⟩:=aA hx;have a6:=(@aV).1;have lw:ws.length=i:=by have:=px zz c.nm;rw[aI,pa] at this;omega
  lia;intro x dx H3 δ s3 e3;refine⟨x,dx,@ao,nat i,rfl,e3,λH4 u4=>⟨rfl,?_⟩⟩;have ψ:Same H2 H4:=λb o e=>u4.oth _ _ (!L δ) (s3.get e);exact c.put ω (s2.trans ψ) (.i i dx hz u4.at') (by rw[pa];omega) (take_succ hz)
 ·rw[aI,ic] at c;have b3:=c.same.get hs;have e4:=c.same.get ht;have b9:=c.d;lia;intro D2 φ;refine nj (xs:=rs.map λr=>V.ref r.1) (λi ys H2=>∃ws,WL H' H2 a.a9 a.aU a.aD N D2 ys ((!bb i).map (·.2.2.1)) ws) ⟨[],rfl,rfl,λ_ h=>hF h @C,bj φ,ay⟩ (λi ys H2 _ ⟨ws,ε⟩=>SqT.of (ε.same.get b3)) (λi x ι H2 hx ⟨π,ε⟩=>?_) (fun ι H2 ⟨π,ε⟩=>?_)
  ·obtain⟨r,Y,rfl⟩:=aA hx;have a6:=(!M Y).1;have hm:=eH Y;have a8:=c.same.trans ε.same;have O:=a8.get (kp.sr r hm).1;have ew:=a8.get (kp.sr r hm).2;lia;intro x dx H3 δ s3 e3;refine⟨x,dx,.str r.2.2.1,r.2.1,_,rfl,s3.get ew,e3,λH4 u4=>⟨rfl,?_⟩⟩;have ψ:Same H2 H4:=λb o e=>u4.oth _ _ (!L δ) (s3.get e);exact ε.put φ ψ (.s r.2.2.2 dx r.2.1 (by rw[<-kp.es];exact hD.mpr ⟨r,hm,rfl⟩) u4.at' (ψ.get ew)) (by rw[aI,pa];omega) (by rw[take_succ Y,dt];rfl)
  ·rw[aI,ic] at ε;have a0:=ε.same.get b9;have d1:=ε.d;have b0:ys.length=N.ins.length:=by rw[c.ey,<-c.nm,aI,aI]
   have ξ:ι.length=rs.length:=by rw[ε.ey,aI,<-aI (f:=(·.1)),ε.nm,aI]
   lia;refine iY a0 d1 (by rw[ix];omega) λH3 u3=>?_;have ζ:=c.join ε ω u3;have b8:=ζ.d;have a3:=ζ.same.get ht;have e8:(ys++ι).length=N.ins.length + rs.length:=by rw[fD,b0,ξ]
   clear c ε a0 d1 b3 e4 b9 b0 ξ φ;generalize ys++ι=ys3 at *
   lia;refine !F ⟨⟨_,SqT.of a3⟩,?_⟩;intro D4 a7;refine uq (xs:=qs.map λq=>V.ref q.1) (λi ys H'=>∃ws,WL H3 H' a.a9 a.aU a.aD N D4 ys ((qs.take i).map (·.2.1)) ws) ⟨[],rfl,rfl,λ_ h=>hF h @C,bj a7,ay⟩ (λi ys H' _ ⟨ws,c⟩=>SqT.of (!bi a3)) (λi x ys H4 pz H5 hx ⟨ws,c⟩ fp s5 e5=>?_) (λe0 H4 ⟨τ,c4⟩=>?_)
   ·obtain⟨r,Y,rfl⟩:=aA hx;have a6:=(!M Y).1;have hm:=eH Y;have O:=s5.get (!bi (ζ.same.get (kp.tr r hm)));lia;intro x dx H6 f6 s6 ρ;refine⟨x,dx,.str r.2.1,.str r.2.2,nat i,rfl,ρ,λH7 u7=>⟨rfl,?_⟩⟩;have ν:Same H5 H7:=λb o e=>u7.oth _ _ (!L f6) (s6.get e);exact c.put a7 (s5.trans ν) (.t i r.2.2 dx (by rw[<-kp.et,hH,Y];rfl) u7.at') (by rw[aI,pa];omega) (by rw[take_succ Y,dt];rfl)
   ·rw[aI,ic] at c4;have ο:=c4.same.get b8;have c1:=c4.d;have L:e0.length=qs.length:=by rw[c4.ey,aI,<-aI (f:=(·.1)),c4.nm,aI]
    lia;refine iY ο c1 (by rw[ix];omega) λH5 u5=>?_;have η:=ζ.join c4 ω u5;have χ:=η.d;have υ:=η.ey
    have c0:N.ins++rs.map (·.2.2.1)++qs.map (·.2.1)=N.names:=by
     unfold Nt.names;rw[<-kp.es,<-kp.et,u2,u2];rfl
    rw[c0] at η;clear ζ c4 ο c1 b8 a3 a7;rw[υ] at χ;generalize ws++π++τ=wl at *
    have f0:wl.length<=100:=by rw[<-aI (f:=(·.1)),η.nm,<-c0,fD,fD,aI,aI];omega
    lia;intro D6 G;refine aN (xs:=wl.map λq=>V.ref q.2) (λi ys H'=>∃ps:eS (ee×Key×V),ys=ps.map (λq=>V.ref q.1)/\ps.map (·.2)=(wl.take i).map (λq=>((v3 q.1:Key),V.ref q.2))/\(∀q∈ps,H' q.1=ak (!G [kV q.2.1,q.2.2]))/\Same H5 H'/\H' D6=ak @X) ⟨[],rfl,rfl,λ_ h=>hF h @C,bj G,ay⟩ (λi ys H' _ ⟨_,_,_,_,s',_⟩=>SqL.of (!a2 χ)) ?_ ?_
    ·rintro i y ys H' hy ⟨ps,rfl,γ,hq,s',θ⟩;obtain⟨α,a4,rfl⟩:=aA hy;have a6:=(!M a4).1;have e9:ps.length=i:=by have:=px zz γ;rw[aI,aI,pa] at this;omega
     have Z:=(η.ob α (eH a4)).same s'
     have fld:∀{Q:VK},Q (.str α.1) H'->QG K (Vq "name") Q (!ap α.2) H':=λh=>by
      cases Z with
      | i k dx hk e=>exact aJ e T.nF T.rY rfl h
      | s ws dx tw hk e et=>exact aJ e T.kN T.p9 rfl h
      | t k y dx hk e=>exact aJ e T.fT T.nJ rfl h
     lia;refine fld ?_;lia;intro tt H6 f6 s6 ρ;have e1:tt≠D6:=λz=>by rw[z,θ] at f6;cases f6
     refine⟨s6.get θ,by rw[aI];exact aO @A,ps++[(tt,v3 α.1,.ref α.2)],by rw[dt];rfl,by rw[dt,γ,take_succ a4,dt];rfl,fun β a5=>?_,λb o e=>?_,ay⟩
     ·rcases gz.mp a5 with h | h
      ·have e:=hq β h;rw[aH (cF e θ λz=>by cases z)];exact s6.get e
      ·rw[gs] at h;subst h;rw[aH e1];exact ρ
     ·rw[aH (!L G)];exact s6.get @af
    ·rintro ys H6 ⟨ps,rfl,γ,hq,s',θ⟩;rw[aI,ic] at γ
     have ek:ps.map @cb=N.names.map Sum.inr:=by
      have:=px (Xa (·.1)) γ;rw[u2,u2] at this;rw[<-η.nm,u2];exact this
     lia;refine IZ θ hq (by rw[ek];exact Yb _ (λx y h z=>h (Xt z)) g.nd) λd H7 f7 s7 e7=>?_;have ν:=s'.trans s7;rw[γ] at e7;exact q d H7 wl ((η.same.trans s').free f7) (η.same.trans ν) ⟨e7,η.nm,fun β a5=>(η.ob β a5).same ν⟩
theorem GH (T:@L):!H 2 a.kF a.Ck ["sums"] F7:=by
 refine T.sP.1.okA jP λf7 A outer s H vs Q E η h=>?_;obtain⟨s,rs,N,rfl,hs,c1,b0,g,q⟩:=h;have f5:rs.length=N.sums.length:=by rw[<-b0,aI]
 have ls:=g.ls
 refine⟨_,((ae (!ba jP.nd rfl @an)
  (ae (!af jP.nd (!b9 rfl @G T.ig oD @a2))
  (ae (rJ lI (!X qP (!aa @ae) ah) (ae (!ax jP.nd (aW (zH rfl) @G T.Og Z7 @ae))
  (ae (b7 (osc:=ag oq) (ON:=["sums","names","left","waiting","ready"]) (N:=n14) (n:=1) (fx:=[3]) (i:=4) jP.nd rfl rfl rfl rfl rfl rfl @O (!U @S) @Q (!bk (aq (i:=0) (show ka (n14:C') from by decide +kernel) rfl @F) (!b6 (!aR (Fg T) η T.Kn T.yf 0 1)) @ad))
  (ae (!aK (!X lR (!aa (!a5 4)) ah) kc)
  (ae (bp (!bD la UJ UI il @I (!a5 4)))
  (ai (b7 (osc:=ag oq) (ON:=["sums","names","left","waiting","ready"]) (N:=n14) (n:=1) (fx:=[3]) (i:=2) jP.nd rfl rfl rfl rfl rfl rfl @O (!U @S) @Q (!bk (aq (i:=0) (show ka (n14:C') from by decide +kernel) rfl @F) (gZ (!aR (Fg T) η T.Kn T.yf 0 1)) @K))))))))
  (!K @I))))),aw (σ':=[ak _,f',f',f',f']) rfl ?_⟩
 lia;intro ν H1 f1 s1 e1;have ο:=s1.get hs;lia;intro Dl H2 f2 s2 e2;lia;have nd:=g.nds;refine⟨fun μ σ' H'=>∃(od:C') (lf:eS Rw) (Dl:ee) (Y v4:qE V),σ'=[ak (!j s),ak (!j ν),ak (!j Dl),Y,v4]/\Same H H'/\H' ν=ak (!A (od.map V.str))/\H' Dl=ak (!A (lf.map λr=>V.ref r.1))/\Dl≠ν/\(∀r∈lf,r∈rs)/\Otp N.sums od (!am (·.2.2))/\μ=lf.length,⟨rs.length,[],rs,Dl,f',f',rfl,s1.trans s2,s2.get e1,e2,λz=>(by rw[z,e1] at f2;cases f2),λ_ h=>h,by rw[b0];exact Otp.start _,rfl⟩,?_⟩;rintro μ σ' H3 ⟨od,lf,Dl,Y,v4,rfl,s3,en,el,φ,sub,ot,rfl⟩;lia;rw[aI];by_cases h0:lf=[]
 ·subst h0;refine jW (hA @C) ?_;lia;exact q ν H3 od f1 s3 en ot.done
 ·have f3:0 < lf.length:=Yw.mpr h0;refine rE (hE @A) ?_;have ε:=ot.perm.nodup_iff.mpr nd;rw[UK] at ε;have c5:(!am (·.2.2.1)).Nodup:=by have:=ε.2.1;rw[u2] at this;exact this
  have ρ:od.length + lf.length=N.sums.length:=by have:=ot.perm.length_eq;rw[fD,aI,aI,aI] at this;exact this
  have θ:=ot.ready g (by simpa using h0);have b8:(!am (·.2.2)).map (·.1)=lf.map (·.2.2.1):=by rw[u2];rfl
  rw[b8] at θ;have ξ:∀r∈lf,∀{H'},Same H H'->H' r.1=ak @bP/\H' r.2.1=ak (!G @bx):=λr η H' s'=>⟨s'.get (c1 r (sub r η)).1,s'.get (c1 r (sub r η)).2⟩;have L:∀r∈lf,r.2.2.2.length<=24:=λr η=>g.lw r.2.2 (by rw[<-b0];exact hD.mpr ⟨r,sub r η,rfl⟩);refine⟨fun σ' H'=>∃(od:C') (δ:eS Rw) (Dl:ee) (Y v4:qE V),σ'=[ak (!j s),ak (!j ν),ak (!j Dl),Y,v4]/\Same H H'/\H' ν=ak (!A (od.map V.str))/\H' Dl=ak (!A (δ.map λr=>V.ref r.1))/\Dl≠ν/\(∀r∈δ,r∈rs)/\Otp N.sums od (δ.map (·.2.2))/\δ.length < lf.length,fun σ' H' ⟨od,δ,Dl,Y,v4,a1,a2,a3,a4,a5,a6,υ,τ⟩=>⟨δ.length,τ,od,δ,Dl,Y,v4,a1,a2,a3,a4,a5,a6,υ,rfl⟩,?_⟩;lia;refine IZ (ps:=lf.map λr=>(r.1,v3 r.2.2.1,V.ref r.2.1)) (by rw[u2];exact el) (fun β e0=>?_) ?_ λd H4 f4 s4 e4=>?_
  ·obtain⟨r,G,rfl⟩:=hD.mp e0;exact(ξ r G s3).1
  ·rw[u2];have:=Yb (v3:lA->Key) (S:=λa b=>a≠b) (λx y h z=>h (Xt z)) c5;rw[u2] at this;exact this
  have kn:Knw H4 d (!am (·.2.2.1)):=⟨_,e4,by rw[u2,u2,u2];rfl⟩;have c4:=s4.get el;have c3:=s4.get en;have γ:=s3.trans s4;lia;intro D5 χ;refine aN (xs:=lf.map λr=>V.ref r.1) (λi ys H'=>ys=(((lf.take i).filter λr=> !iC (!am (·.2.2.1)) r.2.2.2).map (·.2.2.1)).map V.str/\Same H4 H'/\H' D5=ak @X) ⟨rfl,bj χ,ay⟩ (λi ys H' _ ⟨_,s',_⟩=>SqL.of (!a2 c4)) (λi x ys H' hx ⟨ey,s',e'⟩=>?_) (λys H5 ⟨ey,s5,e5⟩=>?_)
  ·obtain⟨r,G,rfl⟩:=aA hx;have hm:=eH G;have e3:=(@aD).1;have rr:=ξ r hm (γ.trans s');have ζ:=rr.1;have fs:(lf.take @J).filter (λr=> !iC (!am (·.2.2.1)) r.2.2.2)=(lf.take i).filter (λr=> !iC (!am (·.2.2.1)) r.2.2.2)++(if (!iC (!am (·.2.2.1)) r.2.2.2)=true then [r] else []):=by rw[take_succ G,UV,VF];rfl
   lia;refine⟨r,d,!am (·.2.2.1),rfl,rr.1,rr.2,L r hm,kn.same s',λH6 s6=>?_⟩;have π:=s6.get ζ;cases hw:iC (!am (·.2.2.1)) r.2.2.2 with
   | true=>
     lia;refine⟨?_,!b5 s6,s6.get e'⟩;rw[fs,hw,ey];simp
   | false=>
     lia;refine⟨s6.get e',?_,?_,λb o e=>?_,ay⟩
     ·rw[ey,aI,aI];have:=VB (λr:Rw=> !iC (!am (·.2.2.1)) r.2.2.2) (lf.take i);rw[pa] at this;exact @b6
     ·rw[fs,hw,ey];simp
     ·rw[aH (!L χ)];exact s6.get @af
  ·rw[aI,ic] at ey;have fm:((!am (·.2.2)).filter λr=> !iC (!am (·.2.2.1)) r.2)=(lf.filter λr=> !iC (!am (·.2.2.1)) r.2.2.2).map (·.2.2):=by rw[af4];rfl
   have e6:((!am (·.2.2)).filter λr=>iC (!am (·.2.2.1)) r.2)=(lf.filter λr=>iC (!am (·.2.2.1)) r.2.2.2).map (·.2.2):=by rw[af4];rfl
   rw[fm,aI] at θ;have d1:ys.length=(lf.filter λr=> !iC (!am (·.2.2.1)) r.2.2.2).length:=by rw[ey,aI,aI]
   have f6:=VB (λr:Rw=> !iC (!am (·.2.2.1)) r.2.2.2) lf;have a0:=Ey (λr:Rw=>iC (!am (·.2.2.1)) r.2.2.2) lf θ;have c0:=ot.step nd;rw[b8,fm,e6,u2] at c0;have f0:=s5.get c4;have e8:=s5.get c3;lia;refine jW (hA λz=>by have:=V.int.inj z;omega) ?_;lia;refine iY e8 e5 (by rw[aI,d1,ix];omega) λH6 u6=>?_;have b9:∀b o,b≠ν->H4 b=ak o->H6 b=ak o:=λb o n e=>u6.oth _ _ n (s5.get e);have O:Same H H6:=λb o e=>b9 b o (!L f1) (γ.get e);have e9:=u6.oth _ _ φ f0;have b3:=u6.at';rw[ey,<-dt] at b3
   have ω:Knw H6 d (!am (·.2.2.1)):=by
    obtain⟨kvs,ed,ek⟩:=kn;exact⟨kvs,b9 _ _ (cF ed c3 λz=>by cases z) ed,ek⟩
   lia;intro D7 ι;refine aN (xs:=lf.map λr=>V.ref r.1) (λi ys H'=>ys=((lf.take i).filter λr=>iC (!am (·.2.2.1)) r.2.2.2).map @c9/\Same H6 H'/\H' D7=ak @X) ⟨rfl,bj ι,ay⟩ (λi ys H' _ ⟨_,s',_⟩=>SqL.of (!a2 e9)) (λi x ys H' hx ⟨ey,s',e'⟩=>?_) (λys H7 ⟨c2,α,e7⟩=>?_)
   ·obtain⟨r,G,rfl⟩:=aA hx;have hm:=eH G;have e3:=(@aD).1;have rr:=ξ r hm (O.trans s');have fs:(lf.take @J).filter (λr=>iC (!am (·.2.2.1)) r.2.2.2)=(lf.take i).filter (λr=>iC (!am (·.2.2.1)) r.2.2.2)++(if iC (!am (·.2.2.1)) r.2.2.2=true then [r] else []):=by rw[take_succ G,UV,VF];rfl
    lia;refine⟨r,d,!am (·.2.2.1),rfl,rr.1,rr.2,L r hm,ω.same s',λH8 s8=>?_⟩;cases hw:iC (!am (·.2.2.1)) r.2.2.2 with
    | false=>
      lia;refine⟨?_,!b5 s8,!aY e'⟩;rw[fs,hw,ey];simp
    | true=>
      lia;refine⟨!aY e',?_,?_,λb o e=>?_,ay⟩
      ·rw[ey,aI];have:=VB (λr:Rw=>iC (!am (·.2.2.1)) r.2.2.2) (lf.take i);rw[pa] at this;exact @b6
      ·rw[fs,hw,ey];simp
      ·rw[aH (!L ι)];exact !aY @af
   ·rw[aI,ic] at c2;rw[c2] at e7;lia;have Z:∀r∈lf.filter (λr=>iC (!am (·.2.2.1)) r.2.2.2),r∈rs:=λr η=>sub r (UQ.mp η).1;have ψ:D7≠ν:=λz=>(by rw[z,b3] at ι;cases ι);exact⟨_,_,D7,_,_,rfl,O.trans α,α.get b3,e7,ψ,Z,c0,a0⟩
theorem oG (T:@L):!H 5 a.cx a.qm @dp (Q3 a.df a.a9 a.aU a.aD):=by
 refine T.gK.1.okA wj λr4 A outer s H vs Q E hr h=>?_;obtain⟨x,dx,i,s,t,o,rs,qs,N,rfl,hx,hn,g,q⟩:=h;have li:=g.li;have ls:=g.ls;have lt:=g.lt;have lo:=g.lo;have q6:rs.length=N.sums.length:=by rw[<-hn.es,aI]
 have q7:qs.length=N.sts.length:=by rw[<-hn.et,aI]
 refine⟨_,((ae (bp (ao (yv T) hr T.AK T.jK (!ar 1 (!ar 2 (!ah 3 4)))))
  (ae (bp (!aZ (yw T) hr T.AL T.jL (av g6 (av g6 (!b9 rfl @G T.ig oD @ag) (!cj rfl rfl rfl @O @S @Q (!O (aq (i:=0) (show ka (n10:C') from by decide +kernel) rfl @F) @ad))) (!cj rfl rfl rfl @O @U @Q (!O (aq (i:=0) (show ka (n10:C') from by decide +kernel) rfl @F) @ad)))))
  (ae (!aA (!bx rfl @G T.lV zt @ag))
  (ae (!aA (!bx rfl @G T.lV zt (!Z (!cj rfl rfl rfl @O @S @Q (!O (aq (i:=0) (show ka (n10:C') from by decide +kernel) rfl @F) (dh (!a9 @ad (!bx rfl @G T.lV zt (!Z @ad)))))))))
  (ae (!aA (!bx rfl @G T.lV zt (!Z (!cj rfl rfl rfl @O @U @Q (!O (aq (i:=0) (show ka (n10:C') from by decide +kernel) rfl @F) (dh (!a9 @ad @ad)))))))
  (ae (!aA (!bx rfl @G T.lV zt (!a5 4)))
  (ae (!aA (ao (uT T) hr T.xJ T.iq (aa @W (!a9 @W @W))))
  (ae (bp (ao (yt T) hr T.AI T.jI (aa @W (aa @W (!a9 @W @W)))))
  (ai (!aA (!bx rfl @G T.lV zt (!Z (ao (GH T) hr T.Kp T.sP @aE)))))))))))))),aw (σ':=[ak _,ak _,ak _,ak _,ak _]) rfl ?_⟩
 lia;refine⟨i,s,t,o,rs,qs,N,rfl,hn,g,λH1 s1=>?_⟩;have b8:=hn.same s1;have o3:=b8.i;have m3:=b8.s;have m0:=b8.t;lia;intro D2 H2 f2 s2 e2;have m2:=s2.get m3;lia;intro D3 k6;refine aN (xs:=rs.map λr=>V.ref r.1) (!ca ((!bb i).map (·.2.2.1))) (!a4 k6) (!aF m2) (λi x ys H' hx c=>?_) @cr
 ·obtain⟨r,ε,rfl⟩:=aA hx;have j4:=(!M ε).1;have O:=c.same.get (s2.get (b8.sr r (eH ε)).1);lia;refine Cs.put k6 c.same c.at' c.len @A ?_;rw[c.pv,take_succ ε,dt,dt];rfl
 ·have e3:=c.at';rw[c.pv,aI,ic] at e3;have ο:=c.same;clear c;refine lH (ο.get e2) e3 (by rw[aI,aI,aI,ix];omega) λD4 H4 f4 L e4=>?_;have η:=s2.trans (ο.trans L);have l9:=η.get m0;lia;intro D5 k4;refine aN (xs:=qs.map λr=>V.ref r.1) (!ch (!bg ((qs.take i).map (·.2.1)))) (!a4 k4) (!aF l9) (λi x ys H' hx c=>?_) @bV
  ·obtain⟨r,ε,rfl⟩:=aA hx;have j4:=(!M ε).1;have O:=c.same.get (η.get (b8.tr r (eH ε)));lia;refine Cs.put k4 c.same c.at' c.len @A ?_;rw[c.pv,take_succ ε,dt,dt];rfl
  ·have e5:=c.at';rw[c.pv,aI,ic] at e5;have h6:=c.same;clear c
   have n3:N.ins++rs.map (·.2.2.1)++qs.map (·.2.1)=N.names:=by
    unfold Nt.names;rw[<-hn.es,<-hn.et,u2,u2];rfl
   have q8:N.names.length<=100:=by rw[<-n3,fD,fD,aI,aI];omega
   refine lH (h6.get e4) e5 (by rw[fD,aI,aI,aI,aI,aI,ix];omega) λD6 H6 f6 s6 e6=>?_;rw[<-dt,<-dt,n3] at e6;have a0:=η.trans (h6.trans s6);lia;refine⟨D6,N.names,rfl,e6,@A,g.nd,g.nm,λH7 s7=>?_⟩;have f1:=s1.trans (a0.trans s7);have j3:=hn.same f1;have j1:=f1.get hx;clear e6 e5 e4 e3 e2 a0 η m2 l9 o3 m3 m0 b8 k6 k4 f2 f4 f6 s1 s2 ο L h6 s6 s7;have o0:=j3.i;lia;intro ti H8 f8 s8 e8;lia;refine cW (!aY j1) T.dZ T.rX (by show 0 < 1000;decide) rfl λH9 u9=>?_;have j0:=s8.get j1;have c5:=(!ak u9).hnd j0 (j3.same s8);have e9:=(!ak u9).tup j0 e8;have l5:=u9.at';have k9:Kx x H H9:=(Kx.same (f1.trans s8)).trans (!ak u9);have m1:=c5.s;clear u9 j0 s8 e8 f8 o0 j1 j3 f1;lia;intro k8 e0;refine aN (xs:=rs.map λr=>V.ref r.1) (λi ys H'=>∃ι:eS Rw,ys=ι.map @c9/\ι.map (·.2.2)=(!bb i).map (·.2.2)/\RwK H' ι/\Same H9 H'/\H' k8=ak @X) ⟨[],rfl,rfl,λ_ h=>hF h @C,bj e0,ay⟩ (λi ys H' _ ⟨_,_,_,_,s',_⟩=>SqL.of (!a2 m1)) ?_ ?_
   ·rintro i y ys H' hy ⟨ι,rfl,b3,hk,s',θ⟩;obtain⟨r,ε,rfl⟩:=aA hy;have j4:=(!M ε).1;have hm:=eH ε;have O:=s'.get (c5.sr r hm).1;have ew:=s'.get (c5.sr r hm).2;have m7:ι.length=i:=by have:=px zz b3;rw[aI,aI,pa] at this;omega
    lia;intro tw q5 f5 a8 g0;lia;intro tr k7 n2 f0 f9;have i4:tr≠k8:=λz=>(by rw[z,a8.get θ] at n2;cases n2);have n8:tw≠k8:=λz=>(by rw[z,θ] at f5;cases f5);have h4:=f0.get (a8.get θ);refine⟨h4,by rw[aI];exact aO @A,ι++[(tr,tw,r.2.2)],by rw[dt];rfl,by rw[dt,b3,take_succ ε,dt];rfl,λr2 h2=>?_,λb ob e=>?_,ay⟩
    ·rcases gz.mp h2 with h2 | h2
     ·exact((hk.same a8).same f0).updL h4 (λb ob n e=>by rw[aH n];exact e) r2 h2
     ·rw[gs] at h2;subst h2;exact⟨by rw[aH i4];exact f9,by rw[aH n8];exact f0.get g0⟩
    ·rw[aH (!L e0)];exact f0.get (a8.get @af)
   ·rintro ys s5 ⟨ι,rfl,b3,hk,l1,Y⟩;rw[aI,ic,hn.es] at b3;lia;intro ts q5 f5 a8 g0;have δ:=l1.trans a8;have a5:=δ.get l5;lia;refine cW a5 T.dZ T.mj (by show 1 < 1000;decide) rfl λk7 ξ=>?_;have γ:=(!ak ξ).hnd a5 (c5.same δ);have h5:=(!ak ξ).tup a5 (δ.get e9);have f9:=(!ak ξ).tup a5 g0;have g3:=(!ak ξ).rw a5 (hk.same a8);have χ:=ξ.at';have l4:Kx x H k7:=k9.trans ((Kx.same δ).trans (!ak ξ));have ψ:=γ.t;clear ξ a5 δ l1 a8 g0 f5 hk Y e0 c5 m1 l5 e9 k9;lia;intro n5 d1;refine aN (xs:=qs.map λr=>V.ref r.1) (λi ys H'=>∃ν:eS Qs,ys=ν.map @c9/\ν.map (·.2)=(qs.take i).map (·.2)/\QsK H' ν/\Same k7 H'/\H' n5=ak @X) ⟨[],rfl,rfl,λ_ h=>hF h @C,bj d1,ay⟩ (λi ys H' _ ⟨_,_,_,_,s',_⟩=>SqL.of (!a2 ψ)) ?_ ?_
    ·rintro i y ys H' hy ⟨ν,rfl,c4,hk,s',θ⟩;obtain⟨r,ε,rfl⟩:=aA hy;have j4:=(!M ε).1;have O:=s'.get (γ.tr r (eH ε));have m7:ν.length=i:=by have:=px zz c4;rw[aI,aI,pa] at this;omega
     lia;intro tr q4 f3 η f7;have i4:tr≠n5:=λz=>(by rw[z,θ] at f3;cases f3);have h3:=η.get θ;refine⟨h3,by rw[aI];exact aO @A,ν++[(tr,r.2)],by rw[dt];rfl,by rw[dt,c4,take_succ ε,dt];rfl,λr2 h2=>?_,λb ob e=>?_,ay⟩
     ·rcases gz.mp h2 with h2 | h2
      ·exact(hk.same η).updL h3 (λb ob n e=>by rw[aH n];exact e) r2 h2
      ·rw[gs] at h2;subst h2;rw[aH i4];exact f7
     ·rw[aH (!L d1)];exact η.get @af
    ·rintro ys s3 ⟨ν,rfl,c4,m4,l0,n4⟩;rw[aI,ic,hn.et] at c4;lia;intro tk q4 f3 η f7;have G:=l0.trans η;have ζ:=G.get χ;lia;refine cW ζ T.dZ T.dQ (by show 2 < 1000;decide) rfl λq3 a6=>?_;have ω:=(!ak a6).hnd ζ (γ.same G);have h0:=(!ak a6).tup ζ (G.get h5);have g5:=(!ak a6).tup ζ (G.get f9);have ρ:=(!ak a6).rw ζ (g3.same G);have g4:=(!ak a6).tup ζ f7;have τ:=(!ak a6).qs ζ (m4.same η);have φ:=a6.at';have l3:Kx x H q3:=l4.trans ((Kx.same G).trans (!ak a6));have m5:=ω.o;clear a6 ζ G l0 η f7 f3 m4 n4 d1 γ ψ χ f9 h5 l4 g3;lia;intro to s0 p5 a0 Z;have c3:=a0.get φ;lia;refine cW c3 T.dZ T.tT (by show 3 < 1000;decide) rfl fun α e1=>?_;have c2:Kpt α ti ts tk to ι ν N:=(!ak e1).kpt c3 ⟨a0.get h0,a0.get g5,ρ.same a0,b3,a0.get g4,τ.same a0,c4,Z⟩;have b0:=e1.at';have l2:Kx x H α:=l3.trans ((Kx.same a0).trans (!ak e1));clear e1 c3 a0 Z p5 φ l3 h0 g5 ρ g4 τ m5 ω;lia;refine !aW b0 T.rX;lia;refine !aW b0 T.mj;lia;refine !aW b0 T.dQ;lia;refine⟨ti,ts,tk,to,ι,ν,N,rfl,c2,g,λdb r9 ws p0 e7 wi=>?_⟩;have a4:=e7.get b0;lia;refine cW a4 T.dZ T.jF (by show 4 < 1000;decide) rfl λq2 c0=>?_;have n0:db≠x:=cF wi.d a4 λz=>by cases z
     have l8:∀q∈ws,q.2≠x:=λq hq z=>by
      obtain⟨C,r3,fs,e,_⟩:=(wi.ob q hq).name;rw[z,a4] at e;injection e with e
      injection e with _ _ e
      injection e with e _
      injection e with e _
      exact hF e @D
     have π:=(!ak c0).wia wi n0 l8 a4;have c1:=(!ak c0).kpt a4 (c2.same e7);have a3:=c0.at';have n9:Kx x H q2:=l2.trans ((Kx.same e7).trans (!ak c0));clear c0 wi c2 b0 a4 e7 l2 p0;lia;refine !aW a3 T.mj;lia;refine !aW a3 T.dQ;lia;refine !aW a3 T.tT;lia;refine !aW a3 T.jF;lia;refine⟨ti,ts,tk,to,db,ι,ν,N,rfl,c1,g,π.knw,λr8 i3=>?_⟩;have l7:=i3.get a3;have υ:=c1.same i3;lia;refine !aW l7 T.mj;lia;refine⟨ts,ι,N,rfl,υ.s,υ.sr,b3,g,λDo r7 od r0 n7 r1 tp=>?_⟩;lia;intro tq r5 q9 n6 q0;have a7:=i3.trans (n7.trans n6);have β:=a7.get a3;lia;refine cW β T.dZ T.oJ (by show 5 < 1000;decide) rfl λq1 b9=>?_;lia;exact q q1 od (n9.trans ((Kx.same a7).trans (!ak b9))) ⟨⟨dx,ti,ts,tk,to,db,tq,ι,ν,ws,b9.at',(!ak b9).kpt β (c1.same a7),(!ak b9).wia (π.same a7) n0 l8 β,(!ak b9).tup β q0⟩,g,tp⟩
noncomputable abbrev NAof (a:Ad):NP:=λH p N od=>NetA H a.df a.a9 a.aU a.aD p N od
theorem kj (T:@L):!H 1 a.cw a.qj @ai (F9 @ay):=by
 refine T.dF.1.okA wg λL A outer s H vs Q E Z h=>?_;obtain⟨p,N,od,rfl,na,q⟩:=h;obtain⟨dx,i,s,t,o,d,Y,rs,qs,ws,G,kp,O,eq⟩:=na.ho;have hi:=kp.i;refine⟨_,((!K (!b9 rfl @G T.ig oD @aE))),@aL⟩;lia;refine !aW G T.rX;lia;exact q
theorem jt (T:@L):!H 1 a.b4 a.o4 @ai (O3 @ay):=by
 refine T.de.1.okA uR λL A outer s H vs Q E Z h=>?_;obtain⟨p,N,od,rfl,na,q⟩:=h;obtain⟨dx,i,s,t,o,d,Y,rs,qs,ws,G,kp,O,eq⟩:=na.ho;have ho:=kp.o;refine⟨_,((!K (!b9 rfl @G T.ig oD @aE))),@aL⟩;lia;refine !aW G T.tT;lia;exact q
theorem iK (T:@L):!H 1 a.bP a.nN @ai (Iz @ay):=by
 refine T.cK.1.okA sZ λZ A outer s H vs Q E δ h=>?_;obtain⟨p,N,od,rfl,na,q⟩:=h;obtain⟨dx,i,s,t,o,d,γ,rs,qs,ws,L,kp,α,eq⟩:=na.ho;have ht:=kp.t;refine⟨_,((!K (!b9 rfl @G T.ig oD @aE))),@aL⟩;lia;refine !aW L T.dQ;lia;intro D H2 O G Y;exact q D H2 qs O G Y (fun β m=>G.get (kp.tr β m)) kp.et
theorem eX (T:@L):!H 3 a.cP a.sF @ci (Iq @ay a.a9 a.aU a.aD):=by
 refine T.cC.1.okA yn fun γ A outer s H vs Q E O h=>?_;obtain⟨p,N,od,z,rfl,na,hz,q⟩:=h;have hu:=qZ O;obtain⟨dx,i,s,t,o,d,ζ,rs,qs,ws,Y,kp,G,eq⟩:=na.ho;have g:=na.g
 refine⟨_,((ae (bp (!an (jE T) O T.kU T.fP 1 @W))
  (!K (oC hu @W @I @bn)))),@aN⟩
 lia;refine !aW Y T.jF;lia;refine⟨z,d,N.names,rfl,G.knw,hz,g.nm z hz,λH2 L=>?_⟩;have δ:=G.same L;lia;refine !aW (!aj Y) T.jF;lia
 have ε:∀ws:U1,z∈ws.map (·.1)->∃q∈ws,q.1=z/\valV (ws.map λq=>((v3 q.1:Key),V.ref q.2)) @aK=ak (!j q.2):=by
  intro ws
  induction ws with
  | nil=>intro h;cases h
  | cons q l ih=>
    intro h;by_cases e:q.1=z
    ·exact⟨q,j' ..,e,mH (px v3 e)⟩
    ·rw[UL] at h;obtain⟨β,m,α,v⟩:=ih ((qq.mp h).resolve_left λh2=>e h2.symm);refine⟨β,ik _ m,α,?_⟩;rw[UL,mI λh2=>e (Xt h2)];exact v
 obtain⟨β,m,e,v⟩:=ε ws (by rw[G.nm];exact hz);refine tD δ.d v ?_;have Z:=δ.ob β m;rw[e] at Z;lia;exact q β.2 H2 L Z
theorem jx (T:@L):!H 1 a.bu a.kL @ai (O7 @ay):=by
 refine T.cj.1.okA pS fun ω A outer s H vs Q E hr h=>?_;obtain⟨p,N,od,rfl,na,q⟩:=h;obtain⟨dx,i,s,t,o,d,tq,rs,qs,ws,β,kp,wi,eq⟩:=na.ho;have g:=na.g;have nl:=Ak g na.tp;have hi:=kp.i;have ht:=kp.t;have θ:qs.length=N.sts.length:=by rw[<-kp.et,aI]
 have ε:=nl;unfold need at ε;rw[fD,fD,aI] at ε;refine⟨_,((!K (av g6 (av g6 (!b9 rfl @G T.ig oD @aE) (bA (osc:=ag d5) (ON:=["self"]) (N:=n10) (n:=1) (fx:=[]) rfl rfl rfl @O (!bc @W) @Q (!O (aq (i:=0) (show ka (n10:C') from by decide +kernel) rfl @F) @ad))) (!b9 rfl @G T.ig oD @aE)))),@aL⟩;lia;refine !aW β T.rX;lia;intro D2 H2 f2 Z ψ;have α:=Z.get ht;lia;refine !aW (Z.get β) T.dQ;lia;intro D3 Y;refine nj (xs:=qs.map λr=>V.ref r.1) (!ca ((qs.take i).map (·.2.1))) (!a4 Y) (!c1 α) (λi x ys H' ι c=>?_) @cr
 ·obtain⟨r,G,rfl⟩:=aA ι;have ν:=(@aD).1;have er:=c.same.get (Z.get (kp.tr r (eH G)));lia;refine Cs.put Y c.same c.at' c.len @A ?_;rw[c.pv,take_succ G,dt,dt];rfl
 ·have ζ:=c.at';rw[c.pv,aI,ic] at ζ;have ο:=c.same;clear c;refine lH (ο.get ψ) ζ (by rw[aI,aI,aI,ix];omega) λD4 H4 f4 L χ=>?_;have γ:=Z.trans (ο.trans L);have τ:=γ.get eq;lia;refine !aW (γ.get β) T.oJ;lia;intro D5 H5 ξ δ φ;refine lH (δ.get χ) φ (by rw[fD,aI,aI,aI,aI,ix];omega) λD6 H6 π η ρ=>?_;have υ:N.ins++qs.map (·.2.1)++od=need N od:=by unfold need;rw[<-kp.et,u2];rfl
  rw[<-dt,<-dt,υ] at ρ;have O:=γ.trans δ;exact q D6 H6 (O.free π) (O.trans η) ρ
theorem By (T:@L):!H 4 a.gN a.xU ["net","row","state"] (L4 @ay):=by
 refine T.nq.1.okA oh λb0 A outer s H vs Q E η h=>?_;obtain⟨p,N,od,row,st,rfl,na,q⟩:=h;have hu:=qZ η;obtain⟨dx,i,s,t,o,d,tq,rs,qs,ws,hp,kp,wi,eq⟩:=na.ho;have g:=na.g;have tp:=na.tp;have nl:=Ak g tp
 refine⟨_,((ae (!ax oh.nd rM)
  (ae (!aS lI (!U (!aI T.dZ T.kA (jx T) @bj T.cj.2 bW)) (!bj oh.nd rfl) (z6 hu @U @a7 (PE.or (fc (fc @K T.dZ T.gc (eX T) @bj T.cC.2 .nil bW (!a5 4)) T.nF T.BH (Af T) @bj T.je.2 .nil bW (!ar 3 (!ah 1 2))) (PE.or (fc (fc @K T.dZ T.gc (eX T) @bj T.cC.2 .nil bW (!a5 4)) T.kN T.Aq (yx T) @bj T.iy.2 .nil bW (!ar 3 (!ah 1 2))) (fc (fc @K T.dZ T.gc (eX T) @bj T.cC.2 .nil bW (!a5 4)) T.fT T.w6 (uV T) @bj T.fQ.2 .nil bW (!ar 3 (!ah 1 2))))) rfl))
  (!K @U)))),!cm rfl⟩
 lia;intro ν H1 f1 s1 e1;have a5:=s1.get hp;lia;refine !W a5;lia;refine⟨p,N,od,rfl,na.same s1,λD2 H2 f2 s2 e2=>?_⟩;have a0:=s1.trans s2;lia;refine fk (xs:=(@a0).map V.str) (λi σ H'=>∃v f,σ=[ak @P,ak (nat row),ak (nat st),ak (!j ν),v]/\Same H H'/\H' D2=ak (!bd (@a0))/\H' ν=ak (.dK (bitK f (!aQ (@a0))))/\Pre N row st (!aQ (@a0)) f) ⟨f',λ_=>false,rfl,a0,e2,s2.get e1,Pre.nil ..⟩ (λi σ H' _ ⟨_,_,_,_,e',_⟩=>SqL.of e') ?_ ?_
 ·rintro i y σ H' τ ⟨v,f,rfl,s',θ,ρ,pr⟩;obtain⟨z,hz,rfl⟩:=aA τ;have a8:=(@aV).1;have γ:=(kS g tp z).mp (eH hz);have ο:=s'.get hp;have ξ:=na.same s';obtain⟨a7,ω,a6,x1,x2,ζ⟩:=mV g;have Y:=wX g tp hz
  have fin:∀(b:US) (H4 α:Hp),Same H' H4->Upd H4 α ν (.dK (putK (bitK f (!aQ (@a0))) @aK (nat (M.bn b))))->Bt N row st (!aQ (@a0)) f z b->∃ι,Same H α/\α D2=ak (!bd (@a0))/\α ν=ak (.dK (bitK ι ((@a0).take @J)))/\Pre N row st ((@a0).take @J) ι:=λb H4 α L β bt=>by
   have ek:putK (bitK f (!aQ (@a0))) @aK (nat (M.bn b))=bitK (λy=>if y=z then b else f y) ((@a0).take @J):=by
    rw[DF (K5 f _) Y,take_succ hz];unfold bitK;rw[dt];congr 1
    ·exact Vc λy τ=>by show(_,nat (M.bn (f y)))=(_,nat (M.bn (if y=z then b else f y)));rw[mu (λ(e:y=z)=>Y (e ▸ τ))]
    ·show[(_,nat (M.bn b))]=[(_,nat (M.bn (if z=z then b else f z)))];rw[oL rfl]
   rw[ek] at β;refine⟨_,λbb o e=>β.oth _ _ (!L f1) (!aj @af),β.oth _ _ (cF (!aj θ) (!aj ρ) λz=>by cases z) (!aj θ),β.at',by rw[take_succ hz];exact pr.step Y bt⟩
  have lk:(bitK f (!aQ (@a0))).length<=1000:=by unfold bitK;rw[aI,pa];omega
  lia;have ε:=γ;unfold Nt.names at ε;rcases gz.mp ε with h' | h'
  ·rcases gz.mp h' with h' | h'
   ·refine X4 ?_;lia;refine !W ο;lia;refine⟨p,N,od,z,rfl,ξ,γ,λw χ δ Z=>?_⟩;have π:=δ.get ρ;cases Z with
    | i k G hk e=>
      lia;refine !W e;lia;refine⟨w,G,@ao,(k:Int),!j ν,(row:Int),(st:Int),rfl,e,@A,?_⟩;rw[CG,show(if row.testBit k=true then (1:Int) else 0)=((M.bn (row.testBit k):Nat):Int) by unfold M.bn;cases row.testBit k<;>rfl];lia;refine qG π (aO lk) fun α β=>?_;obtain⟨ι,a1,a2,φ,υ⟩:=fin (row.testBit k) χ α δ β (Tg g hk);lia;exact⟨_,ι,rfl,a1,a2,φ,υ⟩
    | s O G tw hk e et=>exact hF @cW (x1 z h')
    | t k y G hk e=>exact hF @cU (x2 z h')
   ·refine WU (X4 ?_);lia;refine !W ο;lia;refine⟨p,N,od,z,rfl,ξ,γ,λw χ δ Z=>?_⟩;have π:=δ.get ρ;cases Z with
    | i k G hk e=>exact hF h' (x1 z (eH hk))
    | s O G tw hk e et=>
      have ψ:=DV g tp hz O hk;lia;refine !W e;lia;refine⟨w,G,@ao,tw,ν,O,_,λy=>((M.bn (f y):Nat):Int),(row:Int),(st:Int),rfl,e,SqT.of et,π,λy τ=>zL f (ψ y τ),?_⟩;rw[Qp];lia;refine qG π (aO lk) fun α β=>?_;obtain⟨ι,a1,a2,φ,υ⟩:=fin (xb f O) χ α δ β (OD g hk ψ);lia;exact⟨_,ι,rfl,a1,a2,φ,υ⟩
    | t k y G hk e=>exact hF @cU (ζ z h')
  ·refine WU (WU ?_);lia;refine !W ο;lia;refine⟨p,N,od,z,rfl,ξ,γ,λw χ δ Z=>?_⟩;have π:=δ.get ρ;cases Z with
   | i k G hk e=>exact hF h' (x2 z (eH hk))
   | s O G tw hk e et=>exact hF h' (ζ z @cW)
   | t k y G hk e=>
     lia;refine !W e;lia;refine⟨w,G,@ao,.str y,(k:Int),!j ν,(row:Int),(st:Int),rfl,e,@A,?_⟩;rw[CG,show(if st.testBit k=true then (1:Int) else 0)=((M.bn (st.testBit k):Nat):Int) by unfold M.bn;cases st.testBit k<;>rfl];lia;refine qG π (aO lk) fun α β=>?_;obtain⟨ι,a1,a2,φ,υ⟩:=fin (st.testBit k) χ α δ β (Tf g hk);lia;exact⟨_,ι,rfl,a1,a2,φ,υ⟩
 ·rintro σ H' ⟨v,f,rfl,s',θ,ρ,pr⟩;rw[aI,ic] at ρ pr;lia;exact q ν H' f f1 s' ρ (Jt g tp pr)
theorem zj (T:@L):!H 2 a.kH a.Cn ["wires","bits"] IE:=by
 refine T.o8.1.okA Ge fun γ A outer s H vs Q E Y h=>?_;obtain⟨l,d,ws,zs,f,rfl,hl,hd,ln,sub,q⟩:=h;have hu:=qZ Y;refine⟨_,((!K (!aZ (tK T) Y T.xM T.mE (bA (osc:=ag rC) (ON:=["wires","bits"]) (N:=["place","wire","bits"]) (n:=2) (fx:=[1]) rfl rfl rfl @O (rL (K:=K) rfl @G T.fA @K) (xI (fj @Q (fj @Q rf))) (!bk (!bK rfl rfl (aq (i:=0) (show ka (["place","wire","bits"]:C') from by decide +kernel) rfl @F) (aZ (aq (i:=1) (show ka (["place","wire","bits"]:C') from by decide +kernel) rfl @F) ie)) (!X lR (oC hu @S @I @bn) ah) @K))))),@aN⟩;lia;refine !J ⟨⟨_,SqL.of hl⟩,?_⟩;intro D ω;refine Hn (xs:=ws.map V.str) (λi ys H'=>ys=((kv i).filter λk=>f (!bu k)).map nat/\Same H H'/\H' D=ak @X) ⟨rfl,bj ω,ay⟩ (λi ys H' _ ⟨_,s',_⟩=>SqL.of (!a2 hl)) (λi x ys H' δ H2 Z ⟨ey,s',O⟩ fp L ε=>?_) (λys H' ⟨ey,s',O⟩=>?_)
 ·obtain⟨z,hz,rfl⟩:=aA Z;have α:=(@aV).1;have β:ws.getD i ""=z:=by rw[dm,hz];rfl
  have fs:(kv @J).filter (λk=>f (!bu k))=(kv i).filter (λk=>f (!bu k))++(if f z=true then [i] else []):=by rw[V9,UV,VF,β];rfl
  have G:=L.get O;lia;refine tD (!aj (!a2 hd)) (zL f (sub z (eH hz))) ?_;cases hf:f z with
  | true=>
    lia;refine⟨G,?_,?_,λb o e=>?_,ay⟩
    ·rw[ey,aI];have:=VB (λk=>f (!bu k)) (kv i);rw[qQ] at this;exact @b6
    ·rw[fs,hf,ey];simp
    ·rw[aH (!L ω)];exact !aj @af
  | false=>
    lia;refine⟨?_,!b5 L,G⟩;rw[fs,hf,ey];simp
 ·rw[aI] at ey;rw[ey] at O;lia;refine⟨D,_,rfl,O,λk hk=>?_,?_⟩
  ·have:=wh.mp (UQ.mp hk).1;omega
  ·rw[SC];exact q H' s'
theorem RK:(∀(v:V) (r:eS (lA×V)),([]:eS (lA×V))≠(("name":lA),v)::r)/\∀(v:V) (r:@as),([]:eS (lA×V))≠(("ins":lA),v)::r:=⟨λ_ _ h=>(by cases h),λ_ _ h=>(by cases h)⟩
theorem Jc (x:V) (fs:@as):(∀(v:V) (r:eS (lA×V)),(("net":lA),x)::fs≠(("name":lA),v)::r)/\∀(v:V) (r:@as),(("net":lA),x)::fs≠(("ins":lA),v)::r:=
 ⟨λ_ _ h=>(by injection h with h _;injection h with h _;exact hF h @D),λ_ _ h=>(by injection h with h _;injection h with h _;exact hF h @D)⟩
theorem wN (T:@L):!H 1 a.cu a.qh ["self","net"] (F5 @ay a.gG):=by
 refine T.i6.1.okA wc fun ν A outer s H vs Q E ο h=>?_;obtain⟨x,dx,n,N,od,rfl,ε,na,q⟩:=h
 refine⟨_,((ae (!aA @I)
  (ae (!aA ah)
  (ae (!aA rM)
  (ai (!aA @an)))))),@aN⟩
 lia;refine cW ε T.o9 T.oI (by show 0 < 1000;decide) rfl λH1 O=>?_;lia;refine cW O.at' T.o9 T.tS (by show 1 < 1000;decide) rfl λH2 θ=>?_;have ξ:=O.trans θ;lia;intro d υ δ Z π;lia;refine cW (Z.get ξ.at') T.o9 T.pE (by show 2 < 1000;decide) rfl fun τ L=>?_;lia;intro l ρ α β ι;lia;refine cW (β.get L.at') T.o9 T.qV (by show 3 < 1000;decide) rfl fun ζ Y=>?_;lia;have γ:Kx x H ζ:=(!ak ξ).trans ((Kx.same Z).trans ((!ak L).trans ((Kx.same β).trans (!ak Y))));have G:l≠x:=λz=>(by rw[z,L.at'] at α;cases α)
 have η:H l=none:=by
  cases e:H l with
  | none=>rfl
  | some o=>
    have:=L.oth _ _ G (Z.get (ξ.oth _ _ G e));rw[α] at this;cases this
 exact q ζ l γ η ⟨⟨dx,d,Y.at'⟩,Y.oth _ _ G ι,na.keep ε RK γ⟩
theorem wM (T:@L):!H 1 a.cq a.qg @ai (L7 @ay a.gG):=by
 refine T.gI.1.okA wa λO A outer s H vs Q E Z h=>?_;obtain⟨p,l,n,N,od,st,Y,rfl,G,q⟩:=h;obtain⟨dx,d,L⟩:=G.ho;have hl:=G.hl;refine⟨_,((!K (!b9 rfl @G T.ig oD @aE))),@aL⟩;lia;refine !aw L T.o9 T.qV;lia;exact q
theorem DS (T:@L):!H 5 a.gi a.zE ["self","row"] (L6 @ay a.gG):=by
 refine T.mF.1.okA vZ λe9 A outer s H vs Q E η h=>?_;obtain⟨p,l,n,N,od,st,row,Y,rfl,ra,a3,e3,q⟩:=h;obtain⟨dx,d,τ⟩:=ra.ho;have hl:=ra.hl;have na:=ra.na;have g:=na.g;have tp:=na.tp;have υ:l≠p:=cF hl τ λz=>by cases z
 obtain⟨e7,ni,ns,nt,no,nd,c4,c5,d1,c3,hn,_⟩:=na.ho
 refine⟨_,((ae (!aK (!b6 (!an (pD T) η T.oQ T.jc 1 (!aa (!Z (bI @W T.dZ T.lW (kj T) @bj T.dF.2 .nil bW))))) kc)
  (ae (!aA (ao (By T) η T.Em T.nq (aa @W (!b3 1 @W))))
  (ae (!aA (ao (zj T) η T.B1 T.o8 (!a9 (bA (osc:=ag pq) (ON:=["self","row","answer"]) (N:=["store"]) (n:=1) (fx:=[]) rfl rfl rfl @O (!U (bI @W T.dZ T.jw (iK T) @bj T.cK.2 .nil bW)) @Q (!O (aq (i:=0) (show ka (["store"]:C') from by decide +kernel) rfl @F) @ad)) @W)))
  (ae (!af vZ.nd (ao (zj T) η T.B1 T.o8 (!a9 (bI @W T.dZ T.kz (jt T) @bj T.de.2 .nil bW) @W)))
  (ae (bp (!bD la so sb dq @W @ae))
  (!K @S))))))),!cc rfl⟩
 lia;refine !aw τ T.o9 T.oI;lia;refine !W hn;lia;refine⟨n,N,od,rfl,na,λD1 H1 f1 s1 e1=>?_⟩;have a6:=s1.get τ;lia;rw[aI,c7 a3];lia;refine !aw a6 T.o9 T.oI;lia;refine !aw a6 T.o9 T.tS;lia;refine⟨n,N,od,row,st,rfl,na.same s1,λdb H2 f f2 s2 e2 vl=>?_⟩;have φ:=s1.trans s2;have a5:=φ.get τ;lia;refine cW a5 T.o9 T.pE (by show 4 < 1000;decide) rfl λH3 α=>?_;have G:=α.at';have k3:Kx p H H3:=(Kx.same φ).trans (!ak α);have a0:=na.keep τ (Jc _ _) k3;have b9:=k3 _ _ υ hl
 have a7:n≠p:=λz=>by
  rw[z,τ] at hn;injection hn with hn
  injection hn with _ _ hn
  exact(Jc _ _).2 _ _ hn
 have ν:=k3 _ _ a7 hn;have π:=α.oth _ _ (cF e2 a5 λz=>by cases z) e2;lia;refine !aw G T.o9 T.oI;lia;refine !W ν;lia;refine⟨n,N,od,rfl,a0,λD4 H4 qs f4 L e4 qk et=>?_⟩;have e0:qs.length<=16:=by have:=g.lt;rw[<-et,aI] at this;exact this
 lia;intro D5 χ;refine aN (xs:=qs.map λr=>V.ref r.1) (!ch (!bg ((qs.take i).map (·.2.2)))) (!a4 χ) (!aF e4) (λi x ys H' hx c=>?_) @bV
 ·obtain⟨r,ζ,rfl⟩:=aA hx;have e6:=(!M ζ).1;have O:=c.same.get (qk r (eH ζ));lia;refine Cs.put χ c.same c.at' c.len @A ?_;rw[c.pv,take_succ ζ,dt,dt];rfl
 ·have e5:=c.at';rw[c.pv,aI,ic] at e5;have ρ:=L.trans c.same;clear c;have c0:qs.map (·.2.2)=N.sts.map (·.2):=by rw[<-et,u2];rfl
  rw[c0] at e5;have ι:=ρ.get G;lia;refine !aw ι T.o9 T.pE;lia;refine⟨D5,db,_,@a0,f,rfl,e5,ρ.get π,by rw[aI,<-et,aI];omega,λw hw=>(kS g tp w).mpr (by obtain⟨β,a8,rfl⟩:=hD.mp hw;exact g.ts β a8),λH6 s6=>?_⟩;rw[Od g tp vl];have δ:=ρ.trans s6;have θ:=δ.get G;lia;refine cW θ T.o9 T.tS (by show 4 < 1000;decide) rfl λH7 u7=>?_;have ο:=u7.at';have ε:Kx p H3 H7:=(Kx.same δ).trans (!ak u7);have k7:Kx p H H7:=k3.trans ε;have ω:=na.keep τ (Jc _ _) k7;have b8:=k7 _ _ υ hl;have b3:=k7 _ _ a7 hn;have c1:=ε _ _ (cF π G λz=>by cases z) π;clear u7 θ δ s6 ι e5 χ ρ e4 qk et f4 L ν a0 b9 ε π G;lia;refine !aw ο T.o9 T.oI;lia;refine !W b3;lia;refine⟨n,N,od,rfl,ω,fun ψ H8 f8 s8 e8=>?_⟩;have b0:=s8.get ο;lia;refine !aw b0 T.o9 T.pE;lia;have lo:=g.lo;refine⟨ψ,db,N.outs,@a0,f,rfl,e8,!aY c1,@A,λw hw=>(kS g tp w).mpr (g.os w hw),λH9 s9=>?_⟩;rw[Of g tp vl];have γ:=s8.trans s9;have a4:=γ.get ο;have ξ:=γ.get b8;lia;refine !aw a4 T.o9 T.qV;lia;refine fX ξ (by rw[aI,ix];omega) λc2 Z=>?_;lia;refine q c2 (λb ob n1 n2 e=>Z.oth _ _ n2 (γ.get (k7 _ _ n1 e))) ⟨⟨dx,db,Z.oth _ _ υ.symm a4⟩,by rw[Z.at',dt];rfl,(ω.same γ).updL ξ Z.oth⟩
theorem mU (T:@L):!H 6 a.fH a.uG ["net","rows"] (IS @ay):=by
 refine T.g9.1.okA mL fun υ A outer s H vs Q E β h=>?_;obtain⟨n,r,N,od,rs,rfl,na,α,ν,hb,q⟩:=h
 refine⟨_,((ae (!af mL.nd (ke T.UD (wN T) (β.mono @D) @G T.Uv T.i6.2 .nil bW @a2))
  (ae (!aS lI (!U @I) (!bM mL.nd @F) (bp (fc @S T.o9 T.GR (DS T) (β.mono @D) T.mF.2 .nil bW (!a5 3))))
  (!K (bI @S T.o9 T.yF (wM T) (β.mono @D) T.gI.2 .nil bW))))),!bT rfl⟩
 lia;intro x dx H1 ζ O τ;refine⟨x,dx,n,N,od,rfl,τ,na.same O,λH2 l k2 π ι=>⟨rfl,?_⟩⟩;have Y:Same H H2:=λb ob e=>k2 _ _ (!L ζ) (O.get e);have γ:H l=none:=O.free π;lia;refine fk (xs:=rs.map nat) (λi σ H'=>∃v,σ=[ak (!j n),ak (!j r),ak (!j x),v]/\Same H H'/\RunA @ay H' a.gG x l n N od (rst N 0 (!bb i)) (ran N 0 (!bb i))) ⟨f',rfl,Y,ι⟩ (λi σ H' _ ⟨_,_,s',_⟩=>SqL.of (!a2 α)) ?_ ?_
 ·rintro i y σ H' ξ ⟨v,rfl,s',L⟩;obtain⟨z,hz,rfl⟩:=aA ξ;have ο:=(@aV).1;obtain⟨ε,d',G⟩:=L.ho;lia;refine !W G;lia;refine⟨x,l,n,N,od,_,z,_,rfl,L,hb z (eH hz),by rw[Jh,pa];omega,fun η k3 Z=>?_⟩;lia;refine⟨λb ob e=>k3 _ _ (!L ζ) (!L γ) @af,?_⟩;rw[take_succ hz,E5,E8];exact Z
 ·rintro σ H' ⟨v,rfl,s',L⟩;rw[aI,ic] at L;obtain⟨ε,d',G⟩:=L.ho;lia;refine !W G;lia;refine⟨x,l,n,N,od,_,_,rfl,L,λD η δ θ ρ=>?_⟩;exact q D η (s'.free δ) (!b5 θ) ρ
theorem MH (T:@L):!H 4 a.rj a.KU ["net"] (Mi @ay):=by
 refine T.A9.1.okA zS λb3 A outer s H vs Q E ο h=>?_;obtain⟨p,N,od,rfl,na,q⟩:=h;have hu:=qZ ο;obtain⟨dx,i,s,t,o,d,tq,rs,qs,ws,hp,kp,wi,eq⟩:=na.ho;have g:=na.g;have tp:=na.tp;have nl:=Ak g tp;have hg:=El g tp
 refine⟨_,((ae (!ba zS.nd rfl rM)
  (ae (!aS lI (!U (!aI T.dZ T.kA (jx T) @c7 T.cj.2 bW)) (!bJ zS.nd @F) (z6 hu @I @S (PE.or (fc (fc @K T.dZ T.gc (eX T) @c7 T.cC.2 .nil bW @ae) T.nF T.Ar (yy T) @c7 T.iA.2 .nil bW @ag) (PE.or (fc (fc @K T.dZ T.gc (eX T) @c7 T.cC.2 .nil bW @ae) T.kN T.yE (wL T) @c7 T.gH.2 .nil bW @ag) (fc (fc @K T.dZ T.gc (eX T) @c7 T.cC.2 .nil bW @ae) T.fT T.vb (tL T) @c7 T.eR.2 .nil bW @ag))) rfl))
  (!K @I)))),!c6 rfl⟩
 lia;intro π H1 f1 s1 e1;have a5:=s1.get hp;lia;refine !W a5;lia;refine⟨p,N,od,rfl,na.same s1,λD2 H2 f2 s2 e2=>?_⟩;have a4:=s1.trans s2;lia;refine fk (xs:=(@a0).map V.str) (λi σ H'=>∃v hs,σ=[ak @P,ak (!j π),v]/\Same H H'/\H' D2=ak (!bd (@a0))/\Hgd H' π N (!aQ (@a0)) hs) ⟨f',[],rfl,a4,e2,s2.get e1,rfl,λ_ h=>by cases h⟩ (λi σ H' _ ⟨_,_,_,_,e',_⟩=>SqL.of e') ?_ ?_
 ·rintro i y σ H' hy ⟨v,hs,rfl,s',θ,hd⟩;obtain⟨z,hz,rfl⟩:=aA hy;have b0:=(@aV).1;have ι:=(kS g tp z).mp (eH hz);have τ:=s'.get hp;have ρ:=na.same s';obtain⟨a8,ω,a7,x1,x2,ζ⟩:=mV g;have χ:=wX g tp hz
  have lk:(hs.map λq=>((v3 q.1:Key),V.ref q.2)).length<=1000:=by
   have:=px zz hd.nm;rw[aI,pa] at this;rw[aI];omega
  have fin:∀(t:ee) (γ η:Hp),Same H' γ->γ t=ak (!bC (hgp N z) (hgp N z))->Upd γ η π (.dK (putK (hs.map λq=>((v3 q.1:Key),V.ref q.2)) @aK @a5))->∃α,Same H η/\η D2=ak (!bd (@a0))/\Hgd η π N ((@a0).take @J) α:=λt γ η L et β=>by
   rw[DF (zs:=(@a0).take i) (by rw[u2,<-hd.nm,u2];rfl) χ] at β;have υ:=L.get hd.d;refine⟨hs++[(z,t)],λbb o e=>β.oth _ _ (!L f1) (!aj @af),β.oth _ _ (cF (!aj θ) υ λz=>by cases z) (!aj θ),by rw[dt];exact β.at',by rw[dt,hd.nm,take_succ hz];rfl,λq hq=>?_⟩;rcases gz.mp hq with h | h
   ·have e4:=L.get (hd.ob q h);exact β.oth _ _ (cF e4 υ λz=>by cases z) e4
   ·rw[gs.mp h];exact β.oth _ _ (cF et υ λz=>by cases z) et
  lia;have ξ:=ι;unfold Nt.names at ξ;rcases gz.mp ξ with h' | h'
  ·rcases gz.mp h' with h' | h'
   ·refine X4 ?_;lia;refine !W τ;lia;refine⟨p,N,od,z,rfl,ρ,ι,λw H3 ν Z=>?_⟩;cases Z with
    | i k O hk e=>
      have a6:=(@b5).1;have:=g.li;lia;refine !W e;lia;refine⟨w,O,@ao,(k:Int),!j π,rfl,e,@A,@A,λt γ L et=>?_⟩;rw[shl1] at et;have ε:γ t=ak (!bC (hgp N z) (hgp N z)):=by rw[hg.i k z hk];exact et
      lia;refine qG (!aj (ν.get hd.d)) (aO lk) fun η β=>?_;obtain⟨α,a1,a2,a3⟩:=fin t γ η (ν.trans L) ε β;lia;exact⟨_,α,rfl,a1,a2,a3⟩
    | s δ O tw hk e et=>exact hF @cW (x1 z h')
    | t k y O hk e=>exact hF @cU (x2 z h')
   ·refine WU (X4 ?_);lia;refine !W τ;lia;refine⟨p,N,od,z,rfl,ρ,ι,λw H3 ν Z=>?_⟩;cases Z with
    | i k O hk e=>exact hF h' (x1 z (eH hk))
    | s δ O tw hk e et=>
      have ψ:=DV g tp hz δ hk;have G:=hd.same ν;lia;refine !W e;lia;refine⟨w,O,@ao,tw,π,δ,_,λy=>(((hgp N y).1:Nat):Int),λy=>(((hgp N y).2:Nat):Int),rfl,e,SqT.of et,G.d,λy hy=>(by obtain⟨t,Y,φ⟩:=G.val (ψ y hy);exact⟨t,Y,SqT.of φ⟩),λt γ L a0=>?_⟩;rw[Ky,Ky] at a0;have ε:γ t=ak (!bC (hgp N z) (hgp N z)):=by rw[hg.s z δ hk];exact a0
      lia;refine qG (!aj G.d) (aO lk) fun η β=>?_;obtain⟨α,a1,a2,a3⟩:=fin t γ η (ν.trans L) ε β;lia;exact⟨_,α,rfl,a1,a2,a3⟩
    | t k y O hk e=>exact hF @cU (ζ z h')
  ·refine WU (WU ?_);lia;refine !W τ;lia;refine⟨p,N,od,z,rfl,ρ,ι,λw H3 ν Z=>?_⟩;cases Z with
   | i k O hk e=>exact hF h' (x2 z (eH hk))
   | s δ O tw hk e et=>exact hF h' (ζ z @cW)
   | t k y O hk e=>
     have a6:=(@b5).1;have:=g.lt;lia;refine !W e;lia;refine⟨w,O,@ao,.str y,(k:Int),!j π,rfl,e,@A,@A,λt γ L et=>?_⟩;rw[shl1] at et;have ε:γ t=ak (!bC (hgp N z) (hgp N z)):=by rw[hg.t k z y hk];exact et
     lia;refine qG (!aj (ν.get hd.d)) (aO lk) fun η β=>?_;obtain⟨α,a1,a2,a3⟩:=fin t γ η (ν.trans L) ε β;lia;exact⟨_,α,rfl,a1,a2,a3⟩
 ·rintro σ H' ⟨v,hs,rfl,s',θ,hd⟩;rw[aI,ic] at hd;lia;exact q π H' hs f1 s' hd
theorem DN (T:@L):!H 7 a.iN a.zv ["net"] (L5 @ay a.ar):=by
 refine T.pM.1.okA mK λb8 A outer s H vs Q E τ h=>?_;obtain⟨p,N,od,rfl,na,q⟩:=h;have hu:=qZ τ;obtain⟨dx,i,s,t,o,d,tq,rs,qs,ws,hp,kp,wi,eq⟩:=na.ho;have g:=na.g;have tp:=na.tp;have lt:=g.lt;have lo:=g.lo;have li:=g.li
 refine⟨_,((ae (!ba mK.nd rfl (ao (MH T) τ T.Qm T.A9 @a2))
  (ae (b7 (osc:=ag me) (ON:=["net","pairs","nexts","outs"]) (N:=["row","pairs"]) (n:=1) (fx:=[1]) (i:=2) mK.nd rfl rfl rfl rfl rfl rfl @O (!U (!aI T.dZ T.jw (iK T) @cf T.cK.2 bW)) @Q (!O (aq (i:=0) (show ka (["row","pairs"]:C') from by decide +kernel) rfl @F) (oC hu @I @ad @bn)))
  (ae (b7 (osc:=ag me) (ON:=["net","pairs","nexts","outs"]) (N:=["wire","pairs"]) (n:=1) (fx:=[1]) (i:=3) mK.nd rfl rfl rfl rfl rfl rfl @O (!U (!aI T.dZ T.kz (jt T) @cf T.de.2 bW)) @Q (!O (aq (i:=0) (show ka (["wire","pairs"]:C') from by decide +kernel) rfl @F) (oC hu @I @K @bn)))
  (!K (ke T.C0 (ko T) @cf @G T.B7 T.dw.2 .nil bW (aa (!aa (!Z (!aI T.dZ T.lW (kj T) @cf T.dF.2 bW))) (!ah 2 3)))))))),aw (σ':=[ak _,f',f',f']) rfl ?_⟩
 lia;refine⟨p,N,od,rfl,na,λDd H1 hs f1 s1 hd=>?_⟩;lia;refine !W (s1.get hp);lia;refine⟨p,N,od,rfl,na.same s1,λD2 H2 η f2 s2 e2 qk et=>?_⟩;have a0:=s1.trans s2;have ν:=hd.same s2;have lq:η.length=N.sts.length:=by rw[<-et,aI]
 have ο:∀{k:Nat} {r:Qs},η[k]? =ak r->(N.sts.map (·.2))[k]? =ak r.2.2:=λ{k r} h=>by rw[<-et,hH,hH,h];rfl
 lia;intro D3 υ;refine aN (xs:=η.map λr=>V.ref r.1) (λi ys H'=>∃nx:eS Pr3,ys=refs nx/\Same H2 H'/\H' D3=ak @X/\Prt H2 nx/\prs nx=(!aQ (N.sts.map (·.2))).map (hgp N)) ⟨[],rfl,bj υ,ay,λ_ h=>(by cases h),rfl⟩ (λi ys H' _ ⟨_,_,s',_⟩=>SqL.of (!a2 e2)) ?_ ?_
 ·rintro i y ys H' hy ⟨nx,rfl,s',φ,pt,ep⟩;obtain⟨r,θ,rfl⟩:=aA hy;have a7:=(!M θ).1;have O:=s'.get (qk r (eH θ));have Z:=ο θ;have ι:r.2.2∈need N od:=(kS g tp _).mpr (by obtain⟨β,Y,φ⟩:=hD.mp (eH Z);rw[<-φ];exact g.ts β Y);obtain⟨tt,v1,ξ⟩:=ν.val ι;have ln:nx.length=i:=by have:=px zz ep;rw[aI,aI,pa,aI] at this;omega
  lia;refine tD (s'.get ν.d) v1 ?_;lia;refine⟨φ,by rw[d6];exact aO @A,nx++[(tt,hgp N r.2.2)],by unfold refs;rw[dt];rfl,λb ob e=>?_,ay,fun β Y=>?_,?_⟩
  ·rw[aH (!L υ)];exact @af
  ·rcases gz.mp Y with h | h
   ·exact pt β h
   ·rw[gs.mp h];exact ξ
  ·show Xa _ (nx++_)=_;rw[dt,show nx.map (·.2)=_ from ep,take_succ Z,dt];rfl
 ·rintro ys H3 ⟨nx,rfl,s3,e3,pn,en⟩;rw[aI,lq,Va (by rw[aI];exact oe _)] at en;have a5:=pn.same s3;have G:=ν.same s3;have ε:=a0.trans s3;clear e2 qk et ο pn f2;lia;refine !W (ε.get hp);lia;refine⟨p,N,od,rfl,na.same ε,λD4 H4 f4 L e4=>?_⟩;have π:=G.same L;lia;intro D5 χ;refine aN (xs:=N.outs.map V.str) (λi ys H'=>∃nx:eS Pr3,ys=refs nx/\Same H4 H'/\H' D5=ak @X/\Prt H4 nx/\prs nx=(N.outs.take i).map (hgp N)) ⟨[],rfl,bj χ,ay,λ_ h=>(by cases h),rfl⟩ (λi ys H' _ ⟨_,_,s',_⟩=>SqL.of (!a2 e4)) ?_ ?_
  ·rintro i y ys H' hy ⟨nx,rfl,s',φ,pt,ep⟩;obtain⟨z,hz,rfl⟩:=aA hy;have a7:=(@aV).1;have ι:z∈need N od:=(kS g tp _).mpr (g.os z (eH hz));obtain⟨tt,v1,ξ⟩:=π.val ι;have ln:nx.length=i:=by have:=px zz ep;rw[aI,aI,pa] at this;omega
   lia;refine tD (s'.get π.d) v1 ?_;lia;refine⟨φ,by rw[d6];exact aO @A,nx++[(tt,hgp N z)],by unfold refs;rw[dt];rfl,λb ob e=>?_,ay,fun β Y=>?_,?_⟩
   ·rw[aH (!L χ)];exact @af
   ·rcases gz.mp Y with h | h
    ·exact pt β h
    ·rw[gs.mp h];exact ξ
   ·show Xa _ (nx++_)=_;rw[dt,show nx.map (·.2)=_ from ep,take_succ hz,dt];rfl
  ·rintro ys H5 ⟨os,rfl,s5,e5,po,ζ⟩;rw[aI,ic] at ζ;have ρ:=L.trans s5;have δ:=ε.trans ρ;have a3:=po.same s5;have a4:=a5.same ρ;have a8:=ρ.get e3;have a6:nx.length=N.sts.length:=by have:=px zz en;rw[aI,aI,aI] at this;exact this
   have b3:os.length=N.outs.length:=by have:=px zz ζ;rw[aI,aI] at this;exact this
   have ω:∀q∈nx++os,q.2.1 < 2 ^ nx.length/\q.2.2 < 2 ^ N.ins.length:=fun β Y=>by
    have:∃z,β.2=hgp N z:=by
     rcases gz.mp Y with h | h
     ·have:β.2∈prs nx:=hD.mpr ⟨β,h,rfl⟩;rw[en] at this;obtain⟨z,_,e⟩:=hD.mp this;exact⟨z,e.symm⟩
     ·have:β.2∈prs os:=hD.mpr ⟨β,h,rfl⟩;rw[ζ] at this;obtain⟨z,_,e⟩:=hD.mp this;exact⟨z,e.symm⟩
    obtain⟨z,e⟩:=this;rw[e,a6];exact⟨SR N z,SQ N z⟩
   clear e4 f4;lia;refine !W (δ.get hp);lia;refine⟨p,N,od,rfl,na.same δ,λD6 H6 f6 s6 e6=>?_⟩;lia;rw[aI];intro x b0 H7 f7 α e7;have γ:=s6.trans α;refine⟨x,b0,D3,D5,N.ins.length,nx,os,rfl,e7,⟨li,γ.get a8,γ.get e5,a4.same γ,a3.same γ,@A,@A,ω⟩,λH8 k8 ma=>⟨rfl,?_⟩⟩;have ψ:Same H6 H8:=λb ob e=>k8 _ _ (!L f7) (α.get e);exact q x H8 nx os (δ.free (s6.free f7)) (δ.trans (s6.trans ψ)) ma ⟨li,by omega,by omega,ω⟩ en ζ
section
local macro_rules | `(tactic| walk_at "l2step") =>`(tactic| first | (with_reducible refine NY ?_) | (with_reducible refine T3 ?_))
theorem mT (T:@L):!H 1 a.iQ a.zA ["letter","count"] O5:=by
 refine T.iV.1.okA Dx λG A outer s H vs Q E L h=>?_;obtain⟨l,n,rfl,hl,hn,q⟩:=h;refine⟨_,((!K (bA (osc:=ag ph) (ON:=["letter","count"]) (N:=["number","letter"]) (n:=1) (fx:=[0]) rfl rfl rfl @O (!b4 @G @ag) @Q (!O (aq (i:=0) (show ka (["number","letter"]:C') from by decide +kernel) rfl @F) (av eW @I (aW kZ @G T.JT Wb @a2)))))),@aN⟩;lia;rw[lj];intro D ω;refine !bN (!bR (!bg (nmb l i))) (!a4 ω) @c3
 ·lia;rw[Wg];refine⟨Nu @A,l,tx i,rfl,rfl,K1 hl @A,?_⟩;refine Cs.put ω c.same c.at' c.len @A ?_;rw[c.pv,ML,dt];rfl
 ·have e:=c.at';rw[c.pv] at e;lia;exact q D H' ω c.same e
theorem BA (T:@L):!H 2 a.gP a.xW ["name","pair"] O6:=by
 refine T.ny.1.okA ux fun χ A outer s H vs Q E β h=>?_;obtain⟨z,t,x,y,rfl,et,π,ο,q⟩:=h
 have pb:∀{m k i:Nat},(!aD m)[i]? =ak k->k < 1000/\i < 1000:=λ{m k i} h=>by
  have a1:=wh.mp (UQ.mp (eH h)).1;have a2:=(!M h).1;have a3:=M.pl_le 1000 m;omega
 have l1:=M.pl_le 1000 x;have ν:=M.pl_le 1000 y
 refine⟨_,((ae (b7 (osc:=ag jV) (ON:=["name","pair","stores"]) (N:=["place"]) (n:=1) (fx:=[]) (i:=2) ux.nd rfl rfl rfl rfl rfl rfl @O (!U (!aZ (jR T) β T.mn T.iw (!V @I))) @Q (!O (aq (i:=0) (show ka (["place"]:C') from by decide +kernel) rfl @F) (av eW bc (aW kZ @G T.JT Wb @a2))))
  (!aT (!b3 0 (av g6 @S (bA (osc:=ag jV) (ON:=["name","pair","stores"]) (N:=["place"]) (n:=1) (fx:=[]) rfl rfl rfl @O (!U (!aZ (jR T) β T.mn T.iw (!V @I))) @Q (!O (aq (i:=0) (show ka (["place"]:C') from by decide +kernel) rfl @F) (av eW bc (aW kZ @G T.JT Wb @a2))))))))),!cc rfl⟩
 lia;refine⟨x,rfl,π,λD1 H1 f1 ι υ=>?_⟩;lia;intro D2 φ;refine aN (xs:=(!aD x).map nat) (!ck (!bg ((!aQ (!aD x)).map λk=>("s":lA)++tx k))) (!a4 φ) (!aF υ) (λi v ys H' Z c=>?_) (λys H2 c=>?_)
 ·obtain⟨k,hk,rfl⟩:=aA Z;have b1:=pb hk;lia;refine⟨Nu @A,"s",tx k,rfl,rfl,K1 @O @A,?_⟩;refine Cs.put φ c.same c.at' c.len @A ?_;rw[c.pv,take_succ hk,dt,dt];rfl
 ·have ζ:=c.at';rw[c.pv,aI,ic] at ζ;have Y:=c.same;have L:=ι.trans Y;clear c;lia;refine⟨y,rfl,ο,λD3 ω δ θ τ=>?_⟩;lia;intro D4 O;refine aN (xs:=(!aD y).map nat) (λi ys H'=>Cs (!bg ((!aQ (!aD y)).map λk=>("i":lA)++tx k)) ω D4 i ys H') (!a4 O) (!aF τ) (λi v ys H' Z c=>?_) (λys H4 c=>?_)
  ·obtain⟨k,hk,rfl⟩:=aA Z;have b1:=pb hk;lia;refine⟨Nu @A,"i",tx k,rfl,rfl,K1 @O @A,?_⟩;refine Cs.put O c.same c.at' c.len @A ?_;rw[c.pv,take_succ hk,dt,dt];rfl
  ·have ε:=c.at';rw[c.pv,aI,ic] at ε;have G:=θ.trans c.same;clear c;refine lH (G.get ζ) ε (by rw[aI,aI,aI,aI,ix];omega) λD5 H5 ξ η γ=>?_;rw[<-dt] at γ;lia;intro tt ψ f6 α ρ;exact q tt D5 ψ ((L.trans G).free ξ) (L.trans (G.trans (η.trans α))) ρ (α.get γ)
theorem JG (T:@L):!H 7 a.mZ a.Fw @bL (Ma @ay a.ar):=by
 refine T.vP.1.okA l6 λk7 A outer s H vs Q E hr h=>?_;obtain⟨p,m,nx,os,rfl,ma,L,q⟩:=h;have lp:=L.lp;have lo:=L.lo;have m6:=L.m6;rw[az] at lp lo;obtain⟨dx,tn,to,hp,hn,ho⟩:=ma.ho;have pn:=ma.hn;have po:=ma.hs;have f0:("n":lA).length<=10:=by decide +kernel
 have e0:("o":lA).length<=10:=by decide +kernel
 have d1:("s":lA).length<=10:=by decide +kernel
 have f7:("i":lA).length<=10:=by decide +kernel
 refine⟨_,((ae (!ba l6.nd rfl (ao (mT T) hr T.pH T.iV (!a9 bc (!aI T.aB T.b6 (bT T) @av T.bh.2 bW))))
  (ae (!af l6.nd (ao (mT T) hr T.pH T.iV (!a9 bc (!aI T.aB T.dS (dn T) @av T.bG.2 bW))))
  (ae (!ax l6.nd (av g6 (!b9 rfl @G T.ig oD @aE) (!b9 rfl @G T.ig oD @aE)))
  (ae (b7 (osc:=ag vC) (ON:=["machine","next_names","out_names","pairs","sums","stores"]) (N:=["name","pair"]) (n:=2) (fx:=[]) (i:=4) l6.nd rfl rfl rfl rfl rfl rfl @O (N7 (K:=K) rfl @G T.Qb (av g6 @I @S) @U) (xI (fj @Q (fj @Q rf))) (!O (!bK rfl rfl (aq (i:=0) (show ka (["name","pair"]:C') from by decide +kernel) rfl @F) (aZ (aq (i:=1) (show ka (["name","pair"]:C') from by decide +kernel) rfl @F) ie)) (!aR (BA T) hr T.Ep T.ny 0 1)))
  (ae (!bt l6.nd rfl (GC (K:=K) rfl rfl @G @G T.ig T.Qb (ao (mT T) hr T.pH T.iV (!a9 bc (!aI T.aB T.b6 (bT T) @av T.bh.2 bW))) @I))
  (!K (ke T.Tv (oG T) @av @G T.SU T.gK.2 .nil bW (aa (ao (mT T) hr T.pH T.iV (!a9 bc @W)) (!ar 4 (!ah 5 2))))))))))),aw (σ':=[ak _,f',f',f',f',f']) rfl ?_⟩
 lia;refine !W hp;lia;refine⟨p,m,nx,os,rfl,ma,?_⟩;lia;refine⟨"n",nx.length,rfl,f0,@A,λD1 H1 f1 s1 e1=>?_⟩;lia;refine !W (s1.get hp);lia;refine⟨p,m,nx,os,rfl,!aL s1,?_⟩;lia;refine⟨"o",os.length,rfl,e0,@A,λD2 H2 f2 s2 e2=>?_⟩;have ω:=s1.trans s2;have h4:=ω.get hn;have π:=ω.get ho;have b3:=ω.get hp;lia;refine !aJ b3 T.cD;lia;intro D3 H3 δ s3 e3;lia;refine !aJ (s3.get b3) T.dA;have ν:=s3.get π;lia;intro D4 H4 f4 s4 e4;refine lH (s4.get e3) e4 (by rw[d6,d6,ix];omega) λD5 H5 ξ s5 e5=>?_;have e5:H5 D5=ak (!A (refs @b3)):=by unfold refs;rw[dt];exact e5
 have a5:=s3.trans (s4.trans s5);have j1:=a5.get (s2.get e1);have i4:=a5.get e2;lia;refine lH j1 i4 (by rw[aI,aI,bK,bK,ix];omega) λD6 H6 f6 s6 e6=>?_;rw[<-dt] at e6;have c1:=s6.get e5;have a4:=a5.trans s6;have O:=ω.trans a4;have g0:Prt H6 @b3:=fun β ι=>(gz.mp ι).elim (λh=>O.get (pn β h)) (λh=>O.get (po β h));have a0:(@cn).length=(@b3).length:=by rw[fD,fD,bK,bK]
 clear δ s3 e3 ν f4 s4 e4 ξ s5 e5 s6 π h4;lia;refine⟨D6,D5,_,_,rfl,rfl,!ag e6,!ag c1,by rw[d6,aI];exact a0,?_⟩;intro D7 b9;refine FC (xs:=(@cn).map V.str) (ys:=refs @b3) (by rw[d6,aI];exact a0) (λi zs H'=>∃rs:eS Rw,zs=rs.map @c9/\Same H6 H'/\H' D7=ak (!A zs)/\RwL H' rs/\(∀r∈rs,r.2.1≠D7)/\rs.map (·.2.2)=(Wh @cn ((prs @b3).map wr2)).take i) ⟨[],rfl,bj b9,ay,λ_ h=>(by cases h),λ_ h=>(by cases h),rfl⟩ (λi zs H' _ ⟨_,_,s',_⟩=>⟨SqL.of (!a2 e6),SqL.of (!a2 c1)⟩) (λi u v zs H8 pz H9 g5 hv ⟨rs,χ,s8,e8,rl,rd,er⟩ fp s9 k6=>?_) (λzs H7 ⟨rs,χ,α,e7,rl,rd,er⟩=>?_)
 ·obtain⟨z,hz,rfl⟩:=aA g5;obtain⟨r,a7,rfl⟩:=aA (f:=λq:Pr3=>V.ref q.1) hv;have h5:=(!M a7).1;rw[fD] at h5;have hm:=eH a7;have bq:=L.bn r.2 (by rw[show prs nx++prs os=prs @b3 from(dt ..).symm];exact hD.mpr ⟨r,hm,rfl⟩);rw[az] at bq;have h6:=s9.get (!aY (g0 r hm));lia;refine⟨z,r.1,r.2.1,r.2.2,rfl,h6,iH bq.1 @A,iH bq.2 @A,λtt DD a3 a8 ο Z υ=>?_⟩;have ρ:=ο.get (s9.get e8);have b8:DD≠D7:=λz=>by rw[z,s9.get e8] at a8;cases a8
  have k4:rs.length=i:=by
   have:=px zz er;rw[aI,pa,Xb,aI,az,a0,fD] at this;omega
  have θ:∀b ob,b≠D7->a3 b=ak ob->upd a3 D7 (!A (zs++[.ref tt])) b=ak ob:=λb ob n e=>by rw[aH n];exact e
  refine⟨ρ,by rw[χ,aI];exact aO @A,rs++[(tt,DD,z,wr2 r.2)],by rw[χ,dt];rfl,λb ob e=>θ _ _ (!L b9) (ο.get (s9.get (!aY e))),ay,λr' a6=>?_,λr' a6=>?_,?_⟩
  ·rcases gz.mp a6 with h | h
   ·have Y:=ο.get (s9.get (rl r' h).1);have t2:=ο.get (s9.get (rl r' h).2);exact⟨θ _ _ (cF Y ρ λz=>by cases z) Y,θ _ _ (rd r' h) t2⟩
   ·rw[gs.mp h];exact⟨θ _ _ (cF Z ρ λz=>by cases z) Z,θ _ _ b8 υ⟩
  ·rcases gz.mp a6 with h | h
   ·exact rd r' h
   ·rw[gs.mp h];exact b8
  ·have τ:(Wh @cn ((prs @b3).map wr2))[i]? =ak (z,wr2 r.2):=VG.mpr ⟨hz,by rw[hH,PQ a7];rfl⟩;rw[dt,er,take_succ τ];rfl
 ·subst χ;have η:=O.trans α;have lz:(Wh @cn ((prs @b3).map wr2)).length=(@cn).length:=by rw[Xb,aI,az,a0];exact Z4 _
  rw[aI,<-lz,ic] at er;have j0:=α.get (a4.get (s2.get e1));have i3:=α.get (a4.get e2);lia;refine !W (η.get hp);lia;refine⟨p,m,nx,os,rfl,!aL η,?_⟩;lia;refine⟨"s",nx.length,rfl,d1,@A,fun ψ H8 f8 s8 e8=>?_⟩;lia;refine⟨ψ,D1,_,_,rfl,rfl,!ag e8,!ag (!aY j0),by rw[aI,aI,bK,bK],λD9 qa H9 f9 s9 e9 g3 h0=>?_⟩;have b0:=s8.trans s9;have h3:=b0.get (η.get hp);lia;refine !aJ h3 T.bM;lia;refine⟨"i",m,rfl,f7,@A,λc5 a3 a8 ο j4=>?_⟩;have ε:=b0.trans ο;lia;intro x c2 c4 c0 ζ j3;have γ:=ε.trans ζ;have lq:qa.length=nx.length:=by rw[g3,aI,bK]
  obtain⟨qs,φ⟩:∃qs:eS Qs,qs=Wh qa (Wh (nmb "s" nx.length) (nmb "n" nx.length)):=⟨_,rfl⟩
  have q1:qs.map (λq=>V.ref q.1)=qa.map V.ref:=by
   rw[φ,show(λq:Qs=>V.ref q.1)=V.ref ∘ aa0 from rfl,<-u2,Yv];rw[Xb,bK,bK,Z4,lq];exact oe _
  have q2:qs.map (·.2)=Wh (nmb "s" nx.length) (nmb "n" nx.length):=by
   rw[φ];show Xa Prod.snd _=_;rw[ae3];rw[Xb,bK,bK,Z4,lq];exact oe _
  have q3:∀β∈qs,H9 β.1=ak (!G [.str β.2.1,.str β.2.2]):=fun β ι=>by
   obtain⟨j,hj⟩:=wq.mp ι;rw[φ] at hj;obtain⟨z1,z2⟩:=VG.mp hj;obtain⟨z3,z4⟩:=VG.mp z2;exact h0 j β.1 _ _ z1 (by rw[hH,z3];rfl) (by rw[hH,z4];rfl)
  rw[<-q1] at e9;have hnd:Hnd c4 c5 D7 D9 D2 rs qs (ju m @E @H):=⟨ζ.get j4,γ.get e7,(rl.same γ),by rw[er];unfold ju;rw[az,az,show prs @b3=prs nx++prs os from dt ..],ζ.get (ο.get e9),fun β ι=>ζ.get (ο.get (q3 β ι)),by rw[q2];unfold ju;rw[az],by show c4 D2=ak (!bd (nmb "o" (@H).length));rw[az];exact γ.get i3⟩;refine⟨x,c2,c5,D7,D9,D2,rs,qs,ju m @E @H,rfl,j3,hnd,tR L,λc3 od g4 na=>⟨rfl,?_⟩⟩;have G:Same a3 c3:=λb ob e=>g4 _ _ (!L c0) (ζ.get e);exact q x c3 od (η.free (ε.free c0)) (η.trans (ε.trans G)) na
end
theorem DM (T:@L):!H 1 a.iL a.zr ["row"] FZ:=by
 refine T.pL.1.okA Dp λY A outer s H vs Q E Z h=>?_;obtain⟨z,rfl,hl,q⟩:=h;refine⟨_,((!K (!aB Vl X' XZ An @K bc))),@aL⟩;lia;refine DA @O (by rw[ix];omega) λD H2 O L G=>?_;rw[rz] at G;exact q D H2 O L G
theorem GG (T:@L):!H 1 a.kE a.Cj ["text"] IB:=by
 refine T.sO.1.okA Gd λY A outer s H vs Q E Z h=>?_;obtain⟨z,rfl,hl,q⟩:=h;refine⟨_,((!K (Fe (!X lR @K bc) @an (!aB Vl X' XZ An @K bc)))),@aL⟩;lia;by_cases hz:z=""
 ·refine rE (hE (by rw[hz])) ?_;rw[oL hz] at q;lia;intro D H2 O L G;exact q D H2 O L G
 ·refine jW (hA λe=>hz (V.str.inj e)) ?_;rw[mu hz] at q;lia;refine DA @O (by rw[ix];omega) λD H2 O L G=>?_;rw[vW] at G;exact q D H2 O L G
theorem DP (T:@L):!H 2 a.iR a.zB ["words"] O9:=by
 refine T.pP.1.okA Dz λa4 A outer s H vs Q E ξ h=>?_;obtain⟨l,r,rfl,hl,fm,q⟩:=h;have ψ:∀(z:lA) (xs:C'),atI (!bz (z::xs)) 0=ak @ao:=λz xs=>dE (j:=0) rfl;have a1:∀(y z:lA) (xs:C'),atI (!bz (y::z::xs)) 1=ak @ao:=λy z xs=>dE (j:=1) rfl;have a2:∀(x y z:lA) (xs:C'),atI (!bz (x::y::z::xs)) 2=ak @ao:=λx y z xs=>dE (j:=2) rfl;have i1:inV (V.str "in") [V.str "in",V.str "out"]=true:=by decide +kernel
 have i2:inV (V.str "out") [V.str "in",V.str "out"]=true:=by decide +kernel
 have i3:inV (V.str "sum") [V.str "in",V.str "out"]=false:=by decide +kernel
 have i4:inV (V.str "store") [V.str "in",V.str "out"]=false:=by decide +kernel
 have j3:inV (V.str "sum") [V.str "sum",V.str "store"]=true:=by decide +kernel
 have j4:inV (V.str "store") [V.str "sum",V.str "store"]=true:=by decide +kernel
 have a3:("sum":lA)≠"store":=by decide +kernel
 refine⟨_,((ae (d7 (aV (Oa (K:=K) rfl) (!ad @K ah) (dh (!a9 bc bc)) @G) (!K (uB (jq lR (!aa @a2) ah @bk) (wA (!aZ (mi T) ξ T.oP T.jb (!ad @K ah))))) bz)
  (ae (d7 (PW.pt (uS (aV (JA (K:=K) rfl) (!ad @K ah) (dh (!a9 bc bc)) @G) (uS (!X GF (!aa @a2) ah) (uz (!X MG (!ad @K ah) bc))))) (!K DK) bz)
  (ae (d7 (PW.pt (N6 (!X lR (!ad @K ah) bc) (Jq (!X MG (!aa @a2) ah)))) (!K DK) bz)
  (!K (uB (!aZ (mi T) ξ T.oP T.jb (!ad @K ah)) (wA (aM (ya (K:=K) rfl rfl) @G T.Qc XH (!Z (bA (osc:=ag pj) (ON:=n11) (N:=["word"]) (n:=1) (fx:=[]) rfl rfl rfl @O (!U (pC @c8 @K (tF ah) tG)) @Q (!O (aq (i:=0) (show ka (["word"]:C') from by decide +kernel) rfl @F) (ao (mi T) ξ T.oP T.jb @a2)))))))))))),@aL⟩
 cases fm with
 | i z h=>
   have hz:=ψ "in" [z];have Y:=a1 "in" z [];lia;intro α H1 g1 G Z;refine⟨α,_,rfl,!F (SqT.of Z),rfl,rfl,?_⟩;rw[mu ia,i1];have hl1:=G.get hl;lia;exact c_nm h fun η O=>q η (G.trans O)
 | o z h=>
   have hz:=ψ "out" [z];have Y:=a1 "out" z [];lia;intro α H1 g1 G Z;refine⟨α,_,rfl,!F (SqT.of Z),rfl,rfl,?_⟩;rw[mu ia,i2];have hl1:=G.get hl;lia;exact c_nm h fun η O=>q η (G.trans O)
 | s z ws h hw ο=>
   have hz:=ψ "sum" (z::"="::ws);have Y:=a1 "sum" z ("="::ws);have θ:=a2 "sum" z "=" ws;lia;intro α H1 g1 G Z;refine⟨α,_,rfl,!F (SqT.of Z),rfl,rfl,?_⟩;rw[mu ia,i3];have hl1:=G.get hl;lia;intro D2 H2 g2 δ υ;refine⟨D2,_,rfl,!F (SqT.of υ),rfl,rfl,?_⟩;rw[oL rfl,j3];have hl2:=δ.get hl1;lia;refine c_nm h fun η O=>?_;have ρ:=O.get hl2;lia;intro D4 φ f4 L ζ;rw[show cutV (!bz (("sum":lA)::z::("=":lA)::ws)) (ak 3) f'=(ws).map V.str from(vN _ 3 @C).trans rfl] at ζ;have γ:=G.trans (δ.trans (O.trans L));lia;intro D5 χ;refine aN (xs:=(ws).map V.str) (λi ys H'=>Cs (!bQ (hC i true)) φ D5 i ys H') (!a4 χ) (!aF ζ) (λi x ys H' ι c=>?_) @bV
   ·obtain⟨τ,ω,rfl⟩:=aA ι;have hi:=(!M ω).1;have π:=ο;lia;refine c_nm (hw τ (eH ω)) λH6 β=>?_;refine !bL χ β (β.get c.at') c.len @A ?_;rw[c.pv,Wn,dt];rfl
   ·have ε:=c.at';rw[c.pv] at ε;lia;refine E3 (!ag ε) ?_;rw[show(hC ((ws).map V.str).length true).all id=true from VR.mpr λb hb=>(ac5.mp hb).2];exact q _ (γ.trans c.same)
 | t z y h hy=>
   have ν:∀w∈[y],Nm w:=λw hw=>by rw[gs.mp hw];exact hy
   have hz:=ψ "store" [z,"=",y];have Y:=a1 "store" z ["=",y];have θ:=a2 "store" z "=" [y];lia;intro α H1 g1 G Z;refine⟨α,_,rfl,!F (SqT.of Z),rfl,rfl,?_⟩;rw[mu ia,i4];have hl1:=G.get hl;lia;intro D2 H2 g2 δ υ;refine⟨D2,_,rfl,!F (SqT.of υ),rfl,rfl,?_⟩;rw[oL rfl,j4];have hl2:=δ.get hl1;lia;refine c_nm h fun η O=>?_;have ρ:=O.get hl2;lia;intro D4 φ f4 L ζ;rw[show cutV (!bz ([("store":lA),z,("=":lA),y])) (ak 3) f'=([y]).map V.str from(vN _ 3 @C).trans rfl] at ζ;have γ:=G.trans (δ.trans (O.trans L));lia;intro D5 χ;refine aN (xs:=([y]).map V.str) (λi ys H'=>Cs (!bQ (hC i true)) φ D5 i ys H') (!a4 χ) (!aF ζ) (λi x ys H' ι c=>?_) @bV
   ·obtain⟨τ,ω,rfl⟩:=aA ι;have hi:=(!M ω).1;have π:=(show([y]:C').length<=24 by simp);lia;refine c_nm (ν τ (eH ω)) λH6 β=>?_;refine !bL χ β (β.get c.at') c.len @A ?_;rw[c.pv,Wn,dt];rfl
   ·have ε:=c.at';rw[c.pv] at ε;lia;refine E3 (!ag ε) ?_;rw[show(hC (([y]).map V.str).length true).all id=true from VR.mpr λb hb=>(ac5.mp hb).2];exact q _ (γ.trans c.same)
theorem wI (T:@L):!H 7 a.iP a.zy ["text"] (O2 @ay):=by
 refine T.mD.1.okA fq λj1 A outer s H vs Q E hr h=>?_;obtain⟨rows,rfl,fm,lr,g,q⟩:=h;have tl:=LS fm
 have e0:(if txtR rows="" then [] else W3 (txtR rows) ⟨#[10]⟩)=rows.map rowT:=by
  by_cases e:rows=[]
  ·subst e;rw[oL (show txtR []="" from rfl)];rfl
  ·rw[mu (OU fm e),FP (λr G=>(fm r G).wd) e]
 have rl:∀r∈rows,(rowT r).length<=1000:=λr G=>by
  have b1:=(fm r G).len;have b2:=vF b1.2;omega
 have χ:∀(r:C') (k:Nat),k < r.length->atI @bI (k:Int)=ak (.str (r.getD k "")):=λr k hk=>dE (by rw[hH,ef hk,dm,ef hk];rfl);have fl:∀r∈rows,2<=r.length:=λr G=>by cases fm r G<;>simp
 have f4:∀r∈rows,kd "store" r=true->4<=r.length:=λr G hk=>by
  obtain⟨n1,n2,n3,n4,n5,n6,ε,ν,n9,f9,b9,π⟩:=w_ne;cases fm r G with
  | i z h=>exact hF (v5 hk) n2
  | o z h=>exact hF (v5 hk) π
  | s z ws h hw h3=>exact hF (v5 hk) n5
  | t z y h Z=>simp
 have δ:∀r∈rows,kd "sum" r=true->3<=r.length:=λr G hk=>by
  obtain⟨n1,n2,n3,n4,n5,n6,ε,ν,n9,f9,b9,π⟩:=w_ne;cases fm r G with
  | i z h=>exact hF (v5 hk) n1
  | o z h=>exact hF (v5 hk) b9
  | s z ws h hw h3=>simp
  | t z y h Z=>simp
 have fs:∀(k:lA) (i:Nat) (r:C'),rows[i]? =ak r->(rows.take @J).filter (kd k)=(@bb).filter (kd k)++(if kd k r=true then [r] else []):=λk i r h=>by
  rw[take_succ h,UV,VF];rfl
 refine⟨_,((ae (b7 (osc:=ag gY) (ON:=n15) (N:=n10) (n:=1) (fx:=[]) (i:=1) fq.nd rfl rfl rfl rfl rfl rfl @O (!U (ao (GG T) hr T.Ko T.sO @a2)) @Q (!O (aq (i:=0) (show ka (n10:C') from by decide +kernel) rfl @F) (ao (DM T) hr T.G6 T.pL @a2)))
  (ae (!aS lI (DJ (K:=K) rfl @G T.fA @I) (uA rfl (aZ (!bJ fq.nd @F) (aZ (!bM fq.nd @F) ie))) (!aK (!b6 (ao (DP T) hr T.G9 T.pP (!a5 3))) kc))
  (ae (b7 (osc:=ag gY) (ON:=n15) (N:=n11) (n:=1) (fx:=[]) (i:=4) fq.nd rfl rfl rfl rfl rfl rfl @O (!U @I) @Q (!bk (aq (i:=0) (show ka (n11:C') from by decide +kernel) rfl @F) (!X lR (!ad @K ah) bc) (!ad @K ah)))
  (ae (b7 (osc:=ag gY) (ON:=n15) (N:=n11) (n:=1) (fx:=[]) (i:=5) fq.nd rfl rfl rfl rfl rfl rfl @O (!U @I) @Q (!bk (aq (i:=0) (show ka (n11:C') from by decide +kernel) rfl @F) (!X lR (!ad @K ah) bc) (dh (!a9 (!ad @K ah) (pC @c8 @K (tF ah) tG)))))
  (ae (b7 (osc:=ag gY) (ON:=n15) (N:=n11) (n:=1) (fx:=[]) (i:=6) fq.nd rfl rfl rfl rfl rfl rfl @O (!U @I) @Q (!bk (aq (i:=0) (show ka (n11:C') from by decide +kernel) rfl @F) (!X lR (!ad @K ah) bc) (dh (!a9 (!ad @K ah) (!ad @K ah)))))
  (ae (b7 (osc:=ag gY) (ON:=n15) (N:=n11) (n:=1) (fx:=[]) (i:=7) fq.nd rfl rfl rfl rfl rfl rfl @O (!U @I) @Q (!bk (aq (i:=0) (show ka (n11:C') from by decide +kernel) rfl @F) (!X lR (!ad @K ah) bc) (!ad @K ah)))
  (!K (ke T.Tv (oG T) @av @G T.SU T.gK.2 .nil bW (!ar 4 (!ar 5 (!ah 6 7)))))))))))),aw (σ':=[ak _,f',f',f',f',f',f',f']) rfl ?_⟩
 lia;refine⟨txtR rows,rfl,@A,λD1 H1 f1 s1 e1=>?_⟩;rw[e0] at e1;lia;intro D2 φ;refine aN (xs:=(rows.map rowT).map V.str) (λi ys H'=>∃ds:M',ys=ds.map V.ref/\Same H1 H'/\H' D2=ak @X/\ds.length=i/\(∀d∈ds,d≠D2)/\∀(j:Nat) (d:ee) (r:C'),ds[j]? =ak d->rows[j]? =ak r->H' d=ak (!A @bI)) ⟨[],rfl,bj φ,ay,rfl,λ_ h=>(by cases h),λj d r h=>(by simp at h)⟩ (λi ys H' _ ⟨_,_,s',_⟩=>SqL.of (!a2 e1)) ?_ ?_
 ·rintro i y ys H' Z ⟨ds,rfl,s',e',ld,nd,hd⟩;obtain⟨z,hz,rfl⟩:=aA Z;rw[hH] at hz;obtain⟨r,G,rfl⟩:=Vv.mp hz;have υ:=(@aD).1;have hm:=eH G;have i4:=rl r hm;lia;refine⟨rowT r,rfl,@A,λD3 H3 d1 ζ e3=>?_⟩;rw[Gp (fm r hm).wd (fm r hm).ne] at e3;have c5:D3≠D2:=λz=>by rw[z,e'] at d1;cases d1
  have k3:∀b ob,b≠D2->H3 b=ak ob->upd H3 D2 (!A (ds.map V.ref++[.ref D3])) b=ak ob:=λb ob n e=>by rw[aH n];exact e
  refine⟨ζ.get e',by rw[aI];exact aO @A,ds++[D3],by rw[dt];rfl,λb ob e=>k3 _ _ (!L φ) (ζ.get @af),ay,by rw[fD,ld];rfl,λd γ=>?_,λj d r' hj a8=>?_⟩
  ·rcases gz.mp γ with h | h
   ·exact nd d h
   ·rw[gs.mp h];exact c5
  ·by_cases h4:j < ds.length
   ·rw[ky h4] at hj;exact k3 _ _ (nd d (eH hj)) (ζ.get (hd j d r' hj a8))
   ·have hl:=(!M hj).1;rw[fD,pO] at hl;rw[lB @A,show j - ds.length=0 by omega] at hj;cases hj;rw[show j=i by omega,G] at a8;cases a8;exact k3 _ _ c5 e3
 ·rintro ys H2 ⟨ds,rfl,s2,e2,ld,nd,hd⟩;rw[aI,aI] at ld;have ι:∀{j:Nat} {d:ee} {r:C'},ds[j]? =ak d->rows[j]? =ak r->H2 d=ak (!A @bI):=λ{j d r}=>hd j d r
  have dr:∀{j:Nat} {d:ee},ds[j]? =ak d->∃r,rows[j]? =ak r/\r∈rows:=λ{j d} h=>by
   have hl:=(!M h).1;exact⟨_,ef @A,UX _⟩
  have f7:=s1.trans s2;clear hd nd e1 s2 s1 f1;lia;refine vL (xs:=ds.map V.ref) (λi σ H'=>∃ξ Y v4 O v6 v7,σ=[ak (.str (txtR rows)),ak (!j D2),ξ,Y,v4,O,v6,v7]/\Same H2 H') ⟨f',f',f',f',f',f',rfl,Same.refl _⟩ (λi σ H' _ ⟨_,_,_,_,_,_,_,s'⟩=>SqL.of (!a2 e2)) ?_ ?_
  ·rintro i y σ H' pz H3 Z ⟨ξ,Y,v4,O,v6,v7,rfl,s'⟩ fp ζ e3;obtain⟨d,γ,rfl⟩:=aA Z;obtain⟨r,G,hm⟩:=dr γ;lia;refine⟨d,r,rfl,ζ.get (!a2 (ι γ G)),fm r hm,λH4 s4=>?_⟩;lia;exact⟨_,_,_,_,_,_,rfl,!b5 (ζ.trans s4)⟩
  ·rintro σ H3 ⟨ξ,Y,v4,O,v6,v7,rfl,ζ⟩;have j0:=ζ.get e2;lia;intro Di c4;refine !bX (λi ys H'=>Cs (!bg (((@bb).filter (kd "in")).map λr=>r.getD 1 "")) H3 Di i ys H') (!a4 c4) (!aF (ζ.get e2)) (λi y ys H' Z c=>?_) (λys H4 c=>?_)
   ·obtain⟨d,γ,rfl⟩:=aA Z;obtain⟨r,G,hm⟩:=dr γ;have υ:=(@aD).1;have er:=c.same.get (ζ.get (ι γ G));have a6:=fl r hm;have g0:=χ r 0 @A;have g1:=χ r 1 @A;lia;by_cases hk:r.getD 0 ""="in"
    ·refine rE (hE (by rw[hk])) ?_;lia;refine Cs.put c4 c.same c.at' c.len @A ?_;rw[c.pv,fs "in" i r G,oL (show kd "in" r=true from hE hk),dt,dt];rfl
    ·refine jW (!ce e) ?_;refine Cs.skip c.same c.at' c.len ?_;rw[c.pv,fs "in" i r G,mu (show ¬kd "in" r=true from λz=>hk (v5 z)),UY]
   ·have e7:=c.at';rw[c.pv,aI,ld,ic] at e7;have f2:=c.same;clear c;have a5:=ζ.trans f2;lia;intro η c2;refine !bX (λi ys H'=>∃rs:eS Rw,ys=rs.map @c9/\Same H4 H'/\H' η=ak @X/\rs.length<=i/\RwL H' rs/\(∀r∈rs,r.2.1≠η)/\rs.map (·.2.2)=((@bb).filter (kd "sum")).map λr=>(r.getD 1 "",r.drop 3)) ⟨[],rfl,bj c2,ay,oe _,λ_ h=>(by cases h),λ_ h=>(by cases h),rfl⟩ (λi ys H' _ ⟨_,_,s',_⟩=>SqL.of (!a2 (a5.get e2))) ?_ ?_
    ·rintro i y ys H' Z ⟨rs,ey,s',e',g4,rk,rd,ο⟩;obtain⟨d,γ,rfl⟩:=aA Z;obtain⟨r,G,hm⟩:=dr γ;have υ:=(@aD).1;have er:=s'.get (a5.get (ι γ G));have a6:=fl r hm;have g0:=χ r 0 @A;have g1:=χ r 1 @A;lia;by_cases hk:r.getD 0 ""="sum"
     ·have θ:kd "sum" r=true:=hE hk;refine rE (hE (by rw[hk])) ?_;lia;intro Dw H5 f5 s5 e5;rw[show cutV @bI (ak 3) f'=(r.drop 3).map V.str from(vN @bI 3 (by rw[aI];exact δ r hm θ)).trans (ag9 ..).symm] at e5;lia;intro tp H6 f6 s6 ρ;have τ:=s5.trans s6;have α:=τ.get e';have c0:Dw≠η:=λz=>by rw[z,e'] at f5;cases f5
      have k6:∀b ob,b≠η->H6 b=ak ob->upd H6 η (!A (ys++[.ref tp])) b=ak ob:=λb ob n e=>by rw[aH n];exact e
      refine⟨α,by rw[ey,aI];exact aO @A,rs++[(tp,Dw,r.getD 1 "",r.drop 3)],by rw[ey,dt];rfl,λb ob e=>k6 _ _ (!L c2) (τ.get @af),ay,by rw[fD,pO];omega,λr' a7=>?_,λr' a7=>?_,?_⟩
      ·rcases gz.mp a7 with h | h
       ·have t1:=τ.get (rk r' h).1;exact⟨k6 _ _ (cF t1 α λz=>by cases z) t1,k6 _ _ (rd r' h) (τ.get (rk r' h).2)⟩
       ·rw[gs.mp h];exact⟨k6 _ _ (cF ρ α λz=>by cases z) ρ,k6 _ _ c0 (s6.get e5)⟩
      ·rcases gz.mp a7 with h | h
       ·exact rd r' h
       ·rw[gs.mp h];exact c0
      ·rw[dt,ο,fs "sum" i r G,oL θ,dt];rfl
     ·refine jW (!ce e) ?_;exact⟨rs,ey,s',e',@A,rk,rd,by rw[ο,fs "sum" i r G,mu (show ¬kd "sum" r=true from λz=>hk (v5 z)),UY]⟩
    ·rintro ys H5 ⟨rs,rfl,b3,h6,g4,rk,rd,ο⟩;rw[aI,ld,ic] at ο;have a4:=a5.trans b3;lia;intro Dt c1;refine !bX (λi ys H'=>∃qs:eS Qs,ys=qs.map @c9/\Same H5 H'/\H' Dt=ak @X/\qs.length<=i/\QsK H' qs/\qs.map (·.2)=((@bb).filter (kd "store")).map λr=>(r.getD 1 "",r.getD 3 "")) ⟨[],rfl,bj c1,ay,oe _,λ_ h=>(by cases h),rfl⟩ (λi ys H' _ ⟨_,_,s',_⟩=>SqL.of (!a2 (a4.get e2))) ?_ ?_
     ·rintro i y ys H' Z ⟨qs,ey,s',e',g5,qk,eq0⟩;obtain⟨d,γ,rfl⟩:=aA Z;obtain⟨r,G,hm⟩:=dr γ;have υ:=(@aD).1;have er:=s'.get (a4.get (ι γ G));have a6:=fl r hm;have g0:=χ r 0 @A;have g1:=χ r 1 @A;lia;by_cases hk:r.getD 0 ""="store"
      ·have θ:kd "store" r=true:=hE hk;have g3:=χ r 3 (by have:=f4 r hm θ;omega);refine rE (hE (by rw[hk])) ?_;lia;intro tp H6 f6 s6 ρ;have α:=s6.get e';refine⟨α,by rw[ey,aI];exact aO @A,qs++[(tp,r.getD 1 "",r.getD 3 "")],by rw[ey,dt];rfl,λb ob e=>?_,ay,by rw[fD,pO];omega,fun β h0=>?_,?_⟩
       ·rw[aH (!L c1)];exact s6.get @af
       ·have:H6 β.1=ak (!G [.str β.2.1,.str β.2.2]):=by
         rcases gz.mp h0 with h | h
         ·exact s6.get (qk β h)
         ·rw[gs.mp h];exact ρ
        rw[aH (cF this α λz=>by cases z)];exact this
       ·rw[dt,eq0,fs "store" i r G,oL θ,dt];rfl
      ·refine jW (!ce e) ?_;exact⟨qs,ey,s',e',@A,qk,by rw[eq0,fs "store" i r G,mu (show ¬kd "store" r=true from λz=>hk (v5 z)),UY]⟩
     ·rintro ys H6 ⟨qs,rfl,ω,h5,g5,qk,eq0⟩;rw[aI,ld,ic] at eq0;have a3:=a4.trans ω;lia;intro Do c3;refine !bX (λi ys H'=>Cs (!bg (((@bb).filter (kd "out")).map λr=>r.getD 1 "")) H6 Do i ys H') (!a4 c3) (!aF (a3.get e2)) (λi y ys H' Z c=>?_) (λys H7 c=>?_)
      ·obtain⟨d,γ,rfl⟩:=aA Z;obtain⟨r,G,hm⟩:=dr γ;have υ:=(@aD).1;have er:=c.same.get (a3.get (ι γ G));have a6:=fl r hm;have g0:=χ r 0 @A;have g1:=χ r 1 @A;lia;by_cases hk:r.getD 0 ""="out"
       ·refine rE (hE (by rw[hk])) ?_;lia;refine Cs.put c3 c.same c.at' c.len @A ?_;rw[c.pv,fs "out" i r G,oL (show kd "out" r=true from hE hk),dt,dt];rfl
       ·refine jW (!ce e) ?_;refine Cs.skip c.same c.at' c.len ?_;rw[c.pv,fs "out" i r G,mu (show ¬kd "out" r=true from λz=>hk (v5 z)),UY]
      ·have e4:=c.at';rw[c.pv,aI,ld,ic] at e4;have b0:=c.same;clear c;lia;intro x i3 H8 L s8 e8;have ψ:=b0.trans s8;have a0:=ω.trans ψ;have f0:=b3.trans a0;refine⟨x,i3,Di,η,Dt,Do,rs,qs,netR rows,rfl,e8,⟨f0.get e7,a0.get h6,rk.same a0,ο,ψ.get h5,fun β m=>ψ.get (qk β m),eq0,!aY e4⟩,g,λH9 od k9 na=>⟨rfl,?_⟩⟩;have e9:Same H7 H9:=λb ob e=>k9 _ _ (!L L) (!aY e);have b8:=f7.trans (a3.trans b0);exact q x H9 od (b8.free L) (b8.trans e9) na
theorem wO (T:@L):!H 1 a.cv a.qi @ai (OZ @ay):=by
 refine T.gJ.1.okA we λZ A outer s H vs Q E γ h=>?_;obtain⟨p,N,od,rfl,na,q⟩:=h;obtain⟨dx,i,s,t,o,d,β,rs,qs,ws,L,kp,α,eq⟩:=na.ho;have hs:=kp.s;refine⟨_,((!K (!b9 rfl @G T.ig oD @aE))),@aL⟩;lia;refine !aW L T.mj;lia;intro D H2 O G Y;exact q D H2 rs O G Y (RwK.same kp.sr G) kp.es
theorem DO (T:@L):!H 2 a.iO a.zw ["net"] (O1 @ay):=by
 refine T.pN.1.okA vX λl0 A outer s H vs Q E hr h=>?_;obtain⟨p,N,od,rfl,na,q⟩:=h;obtain⟨dx,i,s,t,o,d,tq,rs,qs,ws,hp,kp,wi,eq⟩:=na.ho;have g:=na.g;have li:=g.li;have ls:=g.ls;have lt:=g.lt;have lo:=g.lo;have fm:=vE g;have k8:=rG g
 refine⟨_,((ae (b7 (osc:=ag gX) (ON:=n16) (N:=["name"]) (n:=1) (fx:=[]) (i:=1) vX.nd rfl rfl rfl rfl rfl rfl @O (!U (!aI T.dZ T.lW (kj T) @av T.dF.2 bW)) @Q (!O (aq (i:=0) (show ka (["name"]:C') from by decide +kernel) rfl @F) (cR (aa bc @a2))))
  (ae (bp (!aB la UJ UI il @I (bA (osc:=ag gX) (ON:=n16) (N:=n10) (n:=1) (fx:=[]) rfl rfl rfl @O (!U (!aI T.dZ T.yG (wO T) @av T.gJ.2 bW)) @Q (!O (aq (i:=0) (show ka (n10:C') from by decide +kernel) rfl @F) (av g6 (cR (aa bc (!a9 @ad bc))) (!b9 rfl @G T.ig oD (!Z @ad)))))))
  (ae (bp (!aB la UJ UI il @I (bA (osc:=ag gX) (ON:=n16) (N:=n10) (n:=1) (fx:=[]) rfl rfl rfl @O (!U (!aI T.dZ T.jw (iK T) @av T.cK.2 bW)) @Q (!O (aq (i:=0) (show ka (n10:C') from by decide +kernel) rfl @F) (cR (aa bc (aa @ad (!a9 bc @ad))))))))
  (ae (bp (!aB la UJ UI il @I (bA (osc:=ag gX) (ON:=n16) (N:=["wire"]) (n:=1) (fx:=[]) rfl rfl rfl @O (!U (!aI T.dZ T.kz (jt T) @av T.de.2 bW)) @Q (!O (aq (i:=0) (show ka (["wire"]:C') from by decide +kernel) rfl @F) (cR (aa bc @a2))))))
  (!K (!aB Vl X0 W' (vJ (K:=K) rfl) bc (bA (osc:=ag gX) (ON:=n16) (N:=n11) (n:=1) (fx:=[]) rfl rfl rfl @O (!U @I) @Q (!O (aq (i:=0) (show ka (n11:C') from by decide +kernel) rfl @F) (!bD Vl X0 W' (vJ (K:=K) rfl) bc @a2)))))))))),aw (σ':=[ak _,f']) rfl ?_⟩
 lia;refine !W hp;lia;refine⟨p,N,od,rfl,na,λD1 H1 f1 s1 e1=>?_⟩;lia;intro D2 φ;refine aN (xs:=N.ins.map V.str) (λi ys H'=>Same H1 H'/\H' D2=ak @X/\Lrw H1 H' D2 ys ((N.ins.take i).map λz=>[("in":lA),z])) ⟨bj φ,ay,Lrw.nil⟩ (λi ys H' _ ⟨s',_⟩=>SqL.of (!a2 e1)) ?_ ?_
 ·rintro i y ys H' hy ⟨s',ν,lr⟩;obtain⟨z,hz,rfl⟩:=aA hy;have a4:=(@aV).1;lia;intro D3 H3 δ s3 e3;have ζ:=lr.len;rw[aI,pa] at ζ;refine⟨s3.get ν,@b6,λb ob e=>?_,ay,?_⟩
  ·rw[aH (!L φ)];exact s3.get @af
  ·rw[take_succ hz,dt];exact lr.put (s'.free δ) ν δ s3 e3
 ·rintro ys H2 ⟨s2,e2,a0⟩;rw[aI,ic] at a0;have f4:=s1.trans s2;have υ:=a0.len;rw[aI] at υ;lia;refine !W (f4.get hp);lia;refine⟨p,N,od,rfl,na.same f4,λD3 H3 g3 δ s3 e3 rk es=>?_⟩;have j0:g3.length=N.sums.length:=by rw[<-es,aI]
  lia;intro D4 h0;refine aN (xs:=g3.map λr=>V.ref r.1) (λi ys H'=>Same H3 H'/\H' D4=ak @X/\Lrw H3 H' D4 ys ((N.sums.take i).map λr=>("sum":lA)::r.1::("=":lA)::r.2)) ⟨bj h0,ay,Lrw.nil⟩ (λi ys H' _ ⟨s',_⟩=>SqL.of (!a2 e3)) ?_ ?_
  ·rintro i y ys H' hy ⟨s',ν,lr⟩;obtain⟨r,G,rfl⟩:=aA hy;have a4:=(@aD).1;obtain⟨k6,k4⟩:=rk r (eH G);have b9:=s'.get k6;have a3:N.sums[i]? =ak r.2.2:=by rw[<-es,hH,G];rfl
   have k9:=g.lw _ (eH a3);lia;intro D5 H5 ξ s5 e5;have Z:=s5.get b9;have j4:=s5.get (!a2 k4);lia;intro D6 H6 f6 s6 ρ;refine lH (s6.get e5) ρ (by rw[aI,ix];simp;omega) λD7 H7 f7 α e7=>?_;have η:=s5.trans (s6.trans α);have ζ:=lr.len;rw[aI,pa] at ζ;have h3:H' D7=none:=s5.free (s6.free f7);refine⟨η.get ν,@b6,λb ob e=>?_,ay,?_⟩
   ·rw[aH (!L h0)];exact η.get @af
   ·rw[take_succ a3,dt];exact lr.put (s'.free h3) ν h3 η e7
  ·rintro c5 H4 ⟨s4,e4,ω⟩;rw[aI,j0,ic] at ω;have θ:=ω.len;rw[aI] at θ;have c0:=s3.trans s4;have a7:Lrw H2 H4 D4 c5 _:=ω.base s3;lia;refine iY (c0.get e2) e4 (by rw[ix];omega) λH5 β=>?_;have c4:=a0.join e2 s2 c0 a7 β;have L:Same H1 H5:=λb ob e=>β.oth _ _ (!L φ) (c0.get (s2.get e));have f2:=s1.trans L;have l5:=c4.len;clear a0 ω a7 e4 e3 rk es δ;have e5:=β.at';lia;refine !W (f2.get hp);lia;refine⟨p,N,od,rfl,na.same f2,λD6 H6 g4 f6 s6 ρ qk et=>?_⟩;have j1:g4.length=N.sts.length:=by rw[<-et,aI]
   lia;intro D7 g5;refine aN (xs:=g4.map λr=>V.ref r.1) (λi ys H'=>Same H6 H'/\H' D7=ak @X/\Lrw H6 H' D7 ys ((N.sts.take i).map λr=>[("store":lA),r.1,("=":lA),r.2])) ⟨bj g5,ay,Lrw.nil⟩ (λi ys H' _ ⟨s',_⟩=>SqL.of (!a2 ρ)) ?_ ?_
   ·rintro i y ys H' hy ⟨s',ν,lr⟩;obtain⟨r,G,rfl⟩:=aA hy;have a4:=(@aD).1;have b9:=s'.get (qk r (eH G));have a3:N.sts[i]? =ak r.2:=by rw[<-et,hH,G];rfl
    lia;intro D8 H8 f8 s8 e8;have ζ:=lr.len;rw[aI,pa] at ζ;refine⟨!aY ν,@b6,λb ob e=>?_,ay,?_⟩
    ·rw[aH (!L g5)];exact !aY @af
    ·rw[take_succ a3,dt];exact lr.put (s'.free f8) ν f8 s8 e8
   ·rintro i4 H7 ⟨α,e7,χ⟩;rw[aI,j1,ic] at χ;have l7:=χ.len;rw[aI] at l7;have η:=s6.trans α;simp only[fD,aI] at l5;lia;refine iY (η.get e5) e7 (by rw[ix];simp only[fD];omega) λH8 u8=>?_;have c3:=c4.join e5 L η (χ.base s6) u8;have c1:Same H1 H8:=λb ob e=>u8.oth _ _ (!L φ) (η.get (!aj e));have f0:=s1.trans c1;have l8:=c3.len;clear c4 χ e7 ρ qk et f6 e5;have e8:=u8.at';lia;refine !W (f0.get hp);lia;refine⟨p,N,od,rfl,na.same f0,λD9 H9 ψ s9 e9=>?_⟩;lia;intro i3 b8;refine aN (xs:=N.outs.map V.str) (λi ys H'=>Same H9 H'/\H' i3=ak @X/\Lrw H9 H' i3 ys ((N.outs.take i).map λz=>[("out":lA),z])) ⟨bj b8,ay,Lrw.nil⟩ (λi ys H' _ ⟨s',_⟩=>SqL.of (!a2 e9)) ?_ ?_
    ·rintro i y ys H' hy ⟨s',ν,lr⟩;obtain⟨z,hz,rfl⟩:=aA hy;have a4:=(@aV).1;lia;intro l9 a6 h4 c2 a5;have ζ:=lr.len;rw[aI,pa] at ζ;refine⟨c2.get ν,@b6,λb ob e=>?_,ay,?_⟩
     ·rw[aH (!L b8)];exact c2.get @af
     ·rw[take_succ hz,dt];exact lr.put (s'.free h4) ν h4 c2 a5
    ·rintro d1 l3 ⟨ο,h6,ε⟩;rw[aI,ic] at ε;have j3:=ε.len;rw[aI] at j3;have ι:=s9.trans ο;simp only[fD,aI] at l8;lia;refine iY (ι.get e8) h6 (by rw[ix];simp only[fD];omega) λa6 π=>?_;have a8:Lrw H1 a6 D2 _ (nT N):=c3.join e8 c1 ι (ε.base s9) π;have e0:Same H1 a6:=λb ob e=>π.oth _ _ (!L φ) (ι.get (c1.get e));have g0:=s1.trans e0;have a5:=π.at';clear c3 ε h6 e9 ψ e8 π;generalize ys++c5++i4++d1=Y at a8 a5;obtain⟨ds,rfl,ld,_,_,hd⟩:=a8;lia;intro k7 b0;refine !bX (λi ys H'=>Cs (!bg ((!aQ (nT N)).map rowT)) a6 k7 i ys H') (!a4 b0) (!aF a5) (λi y ys H' hy c=>?_) (λys l1 c=>?_)
     ·obtain⟨d,γ,rfl⟩:=aA hy;have a4:=(!M γ).1;obtain⟨r,G⟩:∃r,(nT N)[i]? =ak r:=⟨_,ef @A⟩;have hm:=eH G;have O:=c.same.get (hd i d r γ G);have b1:=(fm r hm).len
      have τ:∀(l:C'),(∀w∈l,w.length<=6)->(l.map (·.length)).sum<=l.length * 6:=λl=>by
       induction l with
       | nil=>intro _;simp
       | cons x l ih=>intro h;have:=ih λw hw=>h w (ik _ hw);have:=h x j';simp only[UL,Z2,pA];omega
      have hs:=τ r b1.2;lia;refine E2 (!ag O) (by rw[rz];show _ + r.length * 1<=_;omega) ?_;rw[vA,rz];refine Cs.put b0 c.same c.at' c.len @A ?_;rw[c.pv,take_succ G,dt,dt];rfl
     ·have h5:=c.at';rw[c.pv,aI,ld,ic] at h5
      have τ:∀(l:eS C'),(∀r∈l,Fm r)->((l.map rowT).map (·.length)).sum<=l.length * 189:=λl=>by
       induction l with
       | nil=>intro _;simp
       | cons x l ih=>
         intro h;have:=ih λw hw=>h w (ik _ hw);have b1:=(h x j').len;have b2:=vF b1.2;have b3:x.length * 7<=27 * 7:=VA 7 b1.1;simp only[UL,Z2,pA];omega
      have hs:=τ (nT N) fm;lia;refine E2 (!ag h5) (by rw[vW,aI];show _ + (nT N).length * 1<=_;omega) ?_;rw[vA,vW];exact q _ (g0.trans c.same)
theorem Ae (T:@L):!H 10 a.fN a.uK @dq (Dg a.ar):=by
 refine T.lD.1.okA zU λa4 A outer s H vs Q E ε h=>?_;obtain⟨p,r,m,nx,os,rs,rfl,ma,g,O,a3,hb,q⟩:=h;obtain⟨π,ο,θ,hm,_⟩:=ma.ho;have b0:0 < 2 ^ nx.length:=mm _
 refine⟨_,((ae (d7 (!X qP (!aI T.aB T.b6 (bT T) @bK T.bh.2 bW) ah) (!K (fZ (dvs:=[.int 0]) @K T.aB T.r6 (p8 T) @bK T.jM (!bf T.rq) thr0 @ag)) bz)
  (!K (ao (mU T) ε T.oR T.g9 (aa (!aZ (wI T) ε T.zq T.mD (!aZ (DO T) ε T.G8 T.pN (ao (JG T) ε T.M8 T.vP @a2))) @ag))))),@aN⟩
 lia;refine !W hm;lia;refine⟨p,m,nx,os,rfl,ma,?_⟩;lia;dsimp only;by_cases hl:16 < nx.length
 ·rw[oL (hE @A)];lia;refine dP hm rfl ?_;lia;refine⟨p,r,m,nx,os,nat 0,@b2,rfl,⟨ma,g,⟨"int",rfl⟩,!ag O,HG.nats _ _ _,by rw[aI];omega⟩,λa1 a0 gd D1 H1 f1 s1 e1=>?_,fun ρ=>UP (P8 b0 hb ρ)⟩;obtain⟨rfl,rfl⟩:=Km gd;exact q D1 H1 f1 s1 e1
 ·rw[mu (by rw[W1];omega)]
  have L:Sml m @E @H:=⟨g.m6,by rw[az];omega,by rw[az];exact g.lo,λq' ν=>by
   rw[show prs nx++prs os=prs @b3 from(dt ..).symm] at ν;obtain⟨r,υ,rfl⟩:=hD.mp ν;rw[az];exact g.bn r υ⟩
  lia;refine⟨p,m,nx,os,rfl,ma,L,λn2 H3 γ f3 s3 η=>?_⟩;obtain⟨N2,Y⟩:∃N2,N2=ju m @E @H:=⟨_,rfl⟩;rw[<-Y] at η;have g2:Gn N2:=by rw[Y];exact tR L
  have τ:=zk N2;have χ:=rG g2;lia;refine⟨n2,N2,γ,rfl,η,λH4 s4=>?_⟩;lia;refine⟨nT N2,rfl,vE g2,@A,by rw[τ];exact g2,λn3 H5 β ξ s5 G=>?_⟩;rw[τ] at G;have α:=s3.trans (s4.trans s5);have ι:N2.ins.length=m:=by rw[Y];exact bK _ _
  have Z:(N2.sts.map (·.2)).map (hgp N2)=prs nx/\N2.outs.map (hgp N2)=prs os:=by
   have ζ:=G.tp;rw[Y] at ζ ⊢;exact JR L ζ
  have φ:ran N2 0 rs=M.wan @E @H 0 rs:=by rw[<-Z.1,<-Z.2];exact Jg G.g G.tp (El G.g G.tp) rs 0
  have δ:=α.get O;lia;refine⟨n3,r,N2,β,rs,rfl,G,δ,@A,λx hx=>by rw[ι];exact hb x hx,λD H6 f6 ω ψ=>?_⟩;rw[φ] at ψ;exact q D H6 (α.free f6) (α.trans ω) ψ
theorem Ab (T:@L):!H 1 a.fK a.uI ["_law_found","_law_turns"] Df:=by
 refine T.ly.1.okA be λh3 A outer s H vs Q E hr h=>?_;obtain⟨H0,t,B,S,I,L,u,bars,Y,bq,ls,ps,os,m,rfl,ο,hp,hm,q⟩:=h;have et:=ο.ht;have eB:=ο.hb;have τ:=ο.hs;have eI:=ο.hi;have eL:=ο.hl
 have lw:Y.length<=ps.length:=by
  obtain⟨j,S,_⟩:=ο.fev.ex
  have hl:∀r∈Y.map (· % 2 ^ ps.length),r < 2 ^ ps.length:=λr hr=>by
   obtain⟨x,_,rfl⟩:=hD.mp hr;exact Y0 _ @az
  have:=M.rank_le hl;rw[M.fr_inj S.w.inj,aI] at this;exact this
 have e6:∀w∈Y,w < 2 ^ @bq/\M.tr2 os @cs @cx=0:=by
  obtain⟨j,S,_⟩:=ο.fev.ex;exactλw hw=>⟨S.w.lt w hw,(S.w.ev w hw).1⟩
 generalize O:Y.map (· % 2 ^ ps.length)=Ss at *
 generalize b3:Y.map (·>>>ps.length)=Is at *
 have lS:Ss.length=Y.length:=by rw[<-O,aI]
 have ρ:Is.length=Y.length:=by rw[<-b3,aI]
 have f5:∀{x p:Nat},Sumd Ss x p->M.xs Ss (!aD p)=x/\(!aD p).Nodup/\(∀k∈M.pl 1000 p,k < Y.length):=λ{x p} sd=>by
  refine⟨?_,(M.pl_rise 1000 p).imp (λh=>u' h),λk hk=>?_⟩
  ·rw[M.pl_up sd.lt @A,M.xs_pl,sd.sm]
  ·rw[<-lS];exact M.pl_lt sd.lt k hk
 obtain⟨f9,f8,θ⟩:=f5 (by have:=ο.bs;rw[O] at this;exact this)
 have ι:∀l:Cr,M.xs Is l < 2 ^ m:=λl=>by
  induction l with
  | nil=>exact mm _
  | cons k l ih=>
    rw[M.xs_cons];refine YJ ?_ ih;rw[dm];cases h:Is[k]? with
    | none=>exact mm _
    | some y=>
      have:=eH h;rw[<-b3] at this;obtain⟨w,hw,rfl⟩:=hD.mp this;show w>>>ps.length < 2 ^ m;rw[tu,Yg @az,<-X5,XF];exact(e6 w hw).1
 have hO:∀l,M.tr2 os (M.xs Ss l) (M.xs Is l)=0:=λl=>by
  rw[M.xs_tr2 os Ss Is @A];refine M.xs_none (λk=>?_) l;rw[dm,WJ,<-O,<-b3,hH,hH];cases h:Y[k]? with
  | none=>rfl
  | some w=>exact(e6 w (eH h)).2
 refine⟨_,((ae (Js @K (uA rfl (aZ (!bJ be.nd @F) (aZ (!bM be.nd @F) (aZ (!bj be.nd rfl) (aZ (aq (i:=5) be.nd rfl @F) (aZ (aq (i:=6) be.nd rfl @F) (aZ (aq (i:=7) be.nd rfl @F) ie))))))))
  (ae (ax (i:=8) be.nd rfl @F (cR (!a5 3)))
  (ae (ax (i:=9) be.nd rfl @F @a7)
  (ae (cX lI rfl (wz @G T.fh (aa ah @ag)) (aq (i:=10) be.nd rfl @F) (ae (ax (i:=11) be.nd rfl @F ah)
  (ae (ax (i:=12) be.nd rfl @F @an)
  (ae (cX lI rfl (!U (pv 9)) (aq (i:=13) be.nd rfl @F) (ae (ax (i:=11) be.nd rfl @F (av iB (pv 11) (!ad (pv 6) (pv 13))))
  (ai (!aS lI (!U (!ad (pv 7) (pv 13))) (aq (i:=14) be.nd rfl @F) (d7 (aV (Oa (K:=K) rfl) (pv 14) (pv 12) @G) (ai (bp (!bD la PySem.F.slot_list_remove PySem.F.type_list_remove JU (pv 12) (!a5 14)))) (ai (bp (!bD la so sb dq (pv 12) (!a5 14)))))))))
  (ae (bp (!bD la so sb dq (pv 8) (!a5 11)))
  (ai (ax (i:=9) be.nd rfl @F (pv 12))))))))
  (!K (pv 8))))))),aw (σ':=[ak _,ak _,f',f',f',f',f',f',f',f',f',f',f',f',f']) rfl ?_⟩
 lia;intro ψ H1 f1 s1 e1;have f6:∀{b:ee} {o:HO},H b=ak o->b≠ψ:=λh=>aj h f1;lia;refine⟨1,((20:Nat):Int),rfl,⟨@D,@D,@D,@D⟩,?_⟩;refine kB (lo:=1) (n:=19) (λi σ H'=>∃(D9:ee) (hs rs:Cr) (c0 b9 b8 γ Z:qE V),σ=[ak @a5,ak (nat 20),ak (.str "never"),ak (nat u),ak (!j B),ak @aF,ak (!j I),ak (!j L),ak (!j ψ),ak (!j D9),c0,b9,b8,γ,Z]/\Same H H'/\H' ψ=ak (!A @b2)/\H' D9=ak (!A (hs.map nat))/\D9≠ψ/\rs.length=i + 1/\rs[0]? =ak u/\(∀r∈rs,r < 2 ^ m)/\M.wan ps os 0 rs=hC @J 0/\M.wst ps 0 rs=M.xs Ss hs/\hs.Nodup/\∀k∈hs,k < Y.length) ⟨B,_,[u],f',f',f',f',f',rfl,s1,e1,s1.get eB,f6 eB,rfl,rfl,λr hr=>by rw[gs.mp hr];exact ο.ul,by show[M.tr2 os 0 u]=[0];rw[ο.ev.1],by show M.tr2 ps 0 u=_;rw[f9],f8,θ⟩ ?_ ?_
 ·rintro i σ H2 hi ⟨D9,hs,rs,c0,b9,b8,γ,Z,rfl,s2,e8,e9,ε,c5,ru,c2,c1,G,f0,δ⟩;lia;intro α H3 f3 s3 e3;lia;have π:∀{b:ee} {o:HO},H2 b=ak o->b≠α:=λh=>aj h f3;have e7:D9≠α:=π e9;have a3:ψ≠α:=π e8;have φ:=s2.trans s3;have lhs:hs.length<=16:=Vs (M.nodup_le _ hs f0 δ) @A;refine fk (xs:=hs.map nat) (λj σ H'=>∃(ξ:Cr) (γ Z:qE V),σ=[ak @a5,ak (nat 20),ak (.str "never"),ak (nat u),ak (!j B),ak @aF,ak (!j I),ak (!j L),ak (!j ψ),ak (!j D9),ak (.int (1 + (i:Int))),ak (nat (M.xs Is (hs.take j))),ak (!j α),γ,Z]/\(∀b o,b≠α->H3 b=ak o->H' b=ak o)/\H' α=ak (!A (ξ.map nat))/\ξ.Nodup/\(∀k∈ξ,k < Y.length)/\M.xs Ss ξ=M.xs (Vp (M.tr2 ps) Ss Is) (hs.take j)) ⟨[],γ,Z,rfl,λb o _ h=>h,e3,List.nodup_nil,λk h=>hF h @C,rfl⟩ (λj σ H' _ ⟨_,_,_,_,k',_⟩=>SqL.of (k' _ _ e7 (s3.get e9))) ?_ ?_
  ·rintro j y σ H4 hy ⟨ξ,γ,Z,rfl,k4,e4,c3,c4,a7⟩;obtain⟨χ,e0,rfl⟩:=aA hy;have a5:=δ χ (eH e0);have h0:=k4 _ _ (π (s2.get eI)) (φ.get eI);have g5:=k4 _ _ (π (s2.get eL)) (φ.get eL);have υ:atI (Is.map nat) ((χ:Nat):Int)=ak (nat (Is.getD χ 0)):=dE (by rw[hH,dm,ef @A];rfl);have a4:χ < ls.length:=by rw[ο.ll];exact a5
   have aL:atI (ls.map λq=>V.ref q.1) ((χ:Nat):Int)=ak (V.ref (ls[χ]).1):=dE (by rw[hH,ef a4];rfl);have a6:=ο.el _ (UX a4);have d1:=ο.ss χ (Y[χ]) (ls[χ]) (ef a5) (ef a4);rw[O] at d1;obtain⟨f4,ζ,f2⟩:=f5 d1;generalize ls[χ]=lp at aL a6 d1 f4 ζ f2;have g4:=k4 _ _ (π (s2.get a6)) (φ.get a6);lia;rw[b5,<-zJ e0];refine !bW (!aD lp.2) (λk σ H'=>∃(ξ:Cr) (Z:qE V),σ=[ak @a5,ak (nat 20),ak (.str "never"),ak (nat u),ak (!j B),ak @aF,ak (!j I),ak (!j L),ak (!j ψ),ak (!j D9),ak (.int (1 + (i:Int))),ak (nat (M.xs Is (hs.take @au))),ak (!j α),ak (nat χ),Z]/\(∀b o,b≠α->H3 b=ak o->H' b=ak o)/\H' α=ak (!A (ξ.map nat))/\ξ.Nodup/\(∀k∈ξ,k < Y.length)/\M.xs Ss ξ=M.xs (Vp (M.tr2 ps) Ss Is) (hs.take j)^^^M.xs Ss ((!aD lp.2).take k)) ⟨ξ,Z,rfl,k4,e4,c3,c4,by rw[a7];exact(Vf _).symm⟩ (λj σ H' _ ⟨_,_,_,k',_⟩=>SqL.of (k' _ _ (π (s2.get a6)) (φ.get a6))) ?_
   ·rintro k y σ H5 hy ⟨ν,Z,rfl,k5,e5,ω,a0,a8⟩;obtain⟨mo,e2,rfl⟩:=aA hy;have f7:=f2 mo (eH e2);have g3:ν.length<=16:=Vs (M.nodup_le _ ν ω a0) @A;lia;refine Pt e5 ?_;by_cases b0:mo∈ν
    ·rw[hE b0];lia;refine IX e5 b0 λH6 jj η u6=>?_;lia;refine⟨_,_,rfl,λb o hb h=>u6.oth _ _ hb (k5 b o hb h),u6.at',M.nodup_erase ω _,λk hk=>a0 k (List.mem_of_mem_eraseIdx hk),?_⟩;rw[M.xs_erase η,a8,zJ e2,U7]
    ·rw[hA b0];lia;refine fX e5 (by rw[aI,ix];omega) λH6 u6=>?_;lia;refine⟨ν++[mo],_,rfl,λb o hb h=>u6.oth _ _ hb (k5 b o hb h),by rw[u6.at',dt];rfl,?_,λk hk=>?_,?_⟩
     ·rw[UK];exact⟨ω,@C,λx hx y hy=>by rw[gs.mp hy];exactλh=>b0 (h ▸ hx)⟩
     ·rcases gz.mp hk with h | h
      ·exact a0 k h
      ·rw[gs.mp h];exact f7
     ·rw[M.xs_snoc,a8,zJ e2,U7]
   ·rintro σ H5 ⟨ν,Z,rfl,k5,e5,ω,a0,a8⟩;lia;refine⟨ν,_,_,rfl,k5,e5,ω,a0,?_⟩;rw[a8,aI,ic,f4,zJ e0];congr 1;rw[dm,WJ,<-O,<-b3,hH,hH,ef a5];rfl
  ·rintro σ H4 ⟨ξ,γ,Z,rfl,k4,e4,c3,c4,a7⟩;have g0:=k4 _ _ a3 (s3.get e8);rw[aI,ic] at a7;rw[aI,ic];lia;refine fX g0 (by rw[aI,ix];omega) λH5 β=>?_;lia;refine⟨α,ξ,rs++[M.xs Is hs],_,_,_,_,_,rfl,λb o h=>β.oth _ _ (f6 h) (k4 _ _ (π (s2.get h)) (φ.get h)),by rw[β.at',dt];rfl,β.oth _ _ (λh=>a3 h.symm) e4,λh=>a3 h.symm,by rw[fD,c5];rfl,by rw[ky @A];exact ru,λr hr=>?_,?_,?_,c3,c4⟩
   ·rcases gz.mp hr with h | h
    ·exact c2 r h
    ·rw[gs.mp h];exact ι hs
   ·rw[M.wan_snoc,c1,G,hO,Wn (n:=i + 1)]
   ·rw[M.wst_snoc,G,M.xs_tr2 ps Ss Is @A,a7]
 ·rintro σ H2 ⟨D9,hs,rs,c0,b9,b8,γ,Z,rfl,s2,e8,e9,ε,c5,ru,c2,c1,G,f0,δ⟩;lia;exact q ψ H2 rs f1 s2 e8 c5 ru c2 c1
end
section
theorem oE (T:@L):!H 1 a.gT a.x6 @dj (EZ K):=by
 refine T.iW.1.okA Bn λY A outer s H vs Q E Z h=>?_;obtain⟨p,ns,k,rfl,θ,O,q⟩:=h
 refine⟨_,((ae (d7 (!X GF @I (!aa @a2)) (!K (!ad @K @I)) bz)
  (!K (!a3 cL (av ki ah @I))))),@aN⟩
 lia;rw[aI];unfold cell at q;refine ite2 (λG=>?_) (λG=>?_)
 ·have G:=v5 G
  have ha:atI @ar k=ak (.int (ns.getD k.toNat 0)):=by
   obtain⟨j,rfl⟩:=Ve O;have L:j < ns.length:=by omega
   exact dE (by rw[hH,ef L,dm,lj,ef L];rfl)
  rw[oL G] at q;lia;exact q
 ·have G:¬k < ns.length:=λz=>G (hE z);rw[mu G] at q;lia;exact q
theorem FF {H:Hp} {Q:VK} {E:XK} {c k:Int} (h0:0<=k) (h1:k < 100000) (q:Q (.int (!b0 k)) H):Dc [.int c,.int k] H Q E:=⟨c,k,rfl,h0,h1,q⟩
local macro_rules | `(tactic| walk_at "l2step") =>`(tactic| first | ((with_reducible refine' FF ?a ?b ?_);(case a=>walk_at "l2side");(case b=>walk_at "l2side")) | ((with_reducible refine' uu ?e ?a ?_);(case e=>walk_at "l2hp");(case a=>walk_at "l2side")))
theorem fz (T:@L):!H 1 a.iT a.zD @cX Dc:=by
 refine T.bU.1.okA qy λG A outer s H vs Q E L h=>?_;obtain⟨c,k,rfl,O,h1,q⟩:=h
 refine⟨_,((ae (!af qy.nd (!a3 eJ (!a3 cL (!ab cL (!a3 ki (!a3 eJ @K)) ki ah @I))))
  (ae (!af qy.nd (!a3 eJ (av ki @S @S)))
  (!K (!a3 eJ (!ab ki @S cL (!ab cL @S ki ah @I) ah)))))),!cc rfl⟩
 lia;exact q
theorem kR (T:@L):!H 2 a.gS a.x5 @cX zh:=by
 refine T.gU.1.okA kO fun η A outer s H vs Q E L h=>?_;obtain⟨c,k,rfl,θ,h1,q⟩:=h;have hk:decide (k < 40)=true:=hE h1
 refine⟨_,((ae (!af kO.nd bc)
  (ae (!ax kO.nd bc)
  (ae (!ax kO.nd (av eW @U bc))
  (ae (d7 (PW.pt (N6 (!X GF @I ah) (Jq (!X lR (!a3 eJ (!an (fz T) L T.cH T.bU 0 ah)) ah)))) (!K (!ad (!aB Vl X' XZ An @U bc) (!a3 eJ (av cL @I (!an (fz T) L T.cH T.bU 0 ah))))) bz)
  (!K (av eW (!c4 Oj @S (!a3 eJ (!an (fz T) L T.cH T.bU 0 ah))) (aW kZ @G T.JT Wb (!Z (!ab cL (!a3 eJ (!an (fz T) L T.cH T.bU 0 ah)) ki ah @I)))))))))),!bT rfl⟩
 lia;refine⟨@O,?_⟩;lia;generalize hw:((_:lA)++_)=words;have hw:words=Ib:=hw.symm;by_cases h2:mixV c 402 % 2=0
 ·refine rE (hE (by rw[h2])) ?_;lia;refine DA @O (by rw[hw];decide +kernel) λD H2 ι Z O=>?_;have hm:=y2 @bm (show(0:Int) < 40 by decide);have ψ:=UN @bm (show(40:Int)≠0 by decide);rw[hw] at O
  have ζ:atI (W40.map V.str) (@bm % 40)=ak (.str (nmf c k)):=by
   obtain⟨j,ε⟩:=Ve ψ;have α:j < W40.length:=by rw[A8];omega
   unfold nmf;rw[oL h2,ε];refine dE ?_;rw[hH,dm,lj,ef α];rfl
  have O:H2 D=ak (!A (W40.map V.str)):=O;lia;exact q H2 Z
 ·refine jW (hA λz=>h2 (V.int.inj z)) ?_;have hm:=y2 (!b0 400) (show(0:Int) < 26 by decide);have ψ:=UN (!b0 400) (show(26:Int)≠0 by decide);have γ:=y2 (!b0 401) (show(0:Int) < 1000 by decide);have δ:=UN (!b0 401) (show(1000:Int)≠0 by decide);lia;refine Rv @O (GS _ ψ hm) ?_;lia;have hn:(@cV).natAbs < 10 ^ 4:=by omega
  have G:(@cV).natAbs.log2 < 1920:=by
   rcases ad4 (@cV).natAbs with z | z
   ·rw[z];decide
   ·exact(Yy @A).mpr (fy hn (Vs (by decide:10 ^ 4<=2 ^ 14) (gA @D @D)))
  have Y:=Yj G;refine⟨G,?_⟩;lia;refine⟨by rw[ix];have:(⟨#[97 + (@cu).toNat]⟩:lA).length=1:=rfl;omega,?_⟩;have e:@cV=(((@bw).toNat + 37 * k.toNat:Nat):Int):=by omega
  have β:=q H (Same.refl _);unfold nmf at β;rw[mu h2] at β;rw[e];exact β
end
section
local macro_rules | `(tactic| walk_at "l2step") =>`(tactic| first | ((with_reducible refine' FF ?a ?b ?_);(case a=>walk_at "l2side");(case b=>walk_at "l2side")) | ((with_reducible refine' uu ?e ?a ?_);(case e=>walk_at "l2hp");(case a=>walk_at "l2side")))
theorem vG {K:b'} {H:Hp} {D:ee} {ws:C'} (h:H D=ak (!A @bU)):Rep K H @Z (!A (!aM Dt.str)):= .lst (!ag h) (by rw[aI,aI]) (Jf V.str Dt.str (λz=> .str z) ws)
theorem AR:∀ws:C',EA (!aM Dt.str)=0
 | []=>rfl
 | w::ws=>by rw[UL,EA,AR ws];rfl
theorem KD (ws:C'):eqD (!A (!aM Dt.str)) (!A [])=decide (ws=[]):=by
 cases ws with
 | nil=>rfl
 | cons w l=>rw[hA @C];rfl
theorem Aa (T:@L):!H 2 a.fJ a.uH @dG IF:=by
 refine T.lh.1.okA fV λa5 A outer s H vs Q E ο h=>?_;obtain⟨c,st,l,zs,dg,rfl,a3,a0,hl,ll,q⟩:=h;have ι:=Je ο;have χ:(((@b0).length:Nat):Int)=(zs.length:Int):=by rw[aI]
 refine⟨_,((ae (d7 (gZ @U) (ae (!b7 fV.nd rfl (!ab eJ @K Sf (!a3 cL (!aa @ae)) ah))
  (ae (!bt fV.nd rfl @an)
  (ae (cX lI rfl (!b4 @G (!Z ah)) (aq (i:=6) fV.nd rfl @F) (Jr (!aK (!X qP (!ab eJ @a7 cL (!aa @ae) ah) ah) (bp (!aB la so sb dq @aw (!ad @S (!a3 mf (!ab eJ @a7 cL (!aa @ae) ah))))))
  (ai (!b7 fV.nd rfl (!ab z8 @a7 cL (!aa @ae) ah)))))
  (!K @aw)))) bz)
  (ae (ax (i:=7) fV.nd rfl @F (!a3 eJ (!aR (fz T) ο T.cH T.bU 0 1)))
  (!K (bA (osc:=ag kQ) (ON:=["_law_cell_here","_law_start","_law_names","_law_digits","_law_left","_law_found","_law_k","_law_many"]) (N:=n30) (n:=1) (fx:=[2,0,1]) rfl rfl rfl @O (!b4 @G (!a5 7)) @Q (!bk (aq (i:=0) (show ka (n30:C') from by decide +kernel) rfl @F) (!X (JB (K:=K) rfl ι) @I @an) (!ad @I (av eJ (!an (fz T) ο T.cH T.bU 2 (av cL (!a3 cL @U) @K)) (!aa @ag))))))))),aw (σ':=[ak _,ak _,ak _,ak _,f',f',f',f']) rfl ?_⟩
 have δ:(0:Int) < ((((@b0).length:Nat):Int) + 1) ^ (4:Int).toNat:=Int.pow_pos @A;have ε:(0:Int) < (((@b0).length:Nat):Int) + 1:=by omega
 lia;cases dg with
 | true=>
   lia;generalize c % ((((@b0).length:Nat):Int) + 1) ^ (4:Int).toNat=left;clear δ;intro D H1 υ τ e1;have hl1:=τ.get hl;lia;refine kB (λi σ H'=>∃(v:qE V) (left:Int) (ws:C'),σ=[ak (V.int c),ak (V.int st),ak (!ap l),ak (V.bl true),ak (V.int left),ak (!ap D),v,f']/\Same H H'/\H' D=ak (!A @bU)/\ws.length<=i/\∀w∈ws,w∈zs) ⟨f',left,[],rfl,τ,e1,oe _,λ_ h=>hF h @C⟩ ?_ ?_
   ·rintro i σ H' hi ⟨v,left,ws,rfl,s',θ,lw,hw⟩;have γ:=s'.get hl;have ξ:i < 4:=hi;lia;refine RG (fun σ H2=>∃L:C',σ=[ak (V.int c),ak (V.int st),ak (!ap l),ak (V.bl true),ak (V.int left),ak (!ap D),ak (V.int (0 + (i:Int))),f']/\Same H H2/\H2 D=ak (!A (L.map V.str))/\L.length<=i + 1/\∀w∈L,w∈zs) ?_ ?_
    ·have φ:=UN left (Int.ne_of_gt ε);have ζ:=y2 left ε;lia;by_cases Z:0 < left % ((((@b0).length:Nat):Int) + 1)
     ·refine rE (hE Z) ?_;obtain⟨j,π⟩:=Ve (show 0<=left % ((((@b0).length:Nat):Int) + 1) - 1 by omega);have G:j < zs.length:=by omega
      have ψ:atI @b0 (left % ((((@b0).length:Nat):Int) + 1) - 1)=ak (.str zs[j]):=by
       rw[π];exact dE (by rw[hH,ef G];rfl)
      lia;refine fX θ (by rw[aI,ix];omega) λH3 α=>?_;lia;refine⟨ws++[zs[j]],rfl,λb o e=>α.oth _ _ (!L υ) @af,by rw[α.at',dt];rfl,by rw[fD];show _ + 1<=_;omega,λw ω=>?_⟩;rcases gz.mp ω with h | h
      ·exact hw w h
      ·rw[gs.mp h];exact UX G
     ·refine jW (hA Z) ?_;lia;exact⟨ws,rfl,s',θ,@A,hw⟩
    ·rintro σ H2 ⟨L,rfl,Y,O,ν,ω⟩;have hl2:=Y.get hl;lia;exact⟨_,_,L,rfl,Y,O,ν,ω⟩
   ·rintro σ H' ⟨v,left,ws,rfl,s',θ,lw,hw⟩;lia;exact q D H' ws υ s' θ lw hw
 | false=>
   have β:=UN (!b0 st) (show(5:Int)≠0 by decide);have m1:=y2 (!b0 st) (show(0:Int) < 5 by decide);lia;intro D ρ;refine dW (λi ys H'=>∃ws:C',ys=ws.map V.str/\Same H H'/\H' D=ak @X/\ws.length<=i/\∀w∈ws,w∈zs) ⟨[],rfl,bj ρ,ay,oe _,λ_ h=>hF h @C⟩ ?_ ?_
   ·rintro i ys H' hi ⟨ws,rfl,s',θ,lw,hw⟩;have γ:=s'.get hl;lia;intro L2 H2 f2 Y e2;have hl2:=Y.get γ;have O:=Y.get θ;refine RA (vG hl2) (vG (ws:=[]) e2) (by rw[depD,AR];decide) ?_;rw[show(Xa Dt.str [])=[] from rfl,KD];by_cases hz:zs=[]
    ·rw[hE hz];lia;exact⟨!b5 Y,O,@A,hw⟩
    ·rw[hA hz];have a4:0 < zs.length:=Yw.mpr hz;have η:(0:Int) < (((@b0).length:Nat):Int):=by omega
     lia;obtain⟨j,π,G⟩:=jG (c:=mixV c (st + 1 + (0 + (i:Int)))) η;have G:j < zs.length:=by omega
     have ψ:atI @b0 (mixV c (st + 1 + (0 + (i:Int))) % (((@b0).length:Nat):Int))=ak (.str zs[j]):=by
      rw[π];exact dE (by rw[hH,ef G];rfl)
     lia;refine⟨O,by rw[aI];exact aO @A,ws++[zs[j]],by rw[dt];rfl,λb o e=>?_,ay,by rw[fD];show _ + 1<=_;omega,λw ω=>?_⟩
     ·rw[aH (!L ρ)];exact Y.get @af
     ·rcases gz.mp ω with h | h
      ·exact hw w h
      ·rw[gs.mp h];exact UX G
   ·rintro ys H' ⟨ws,rfl,s',θ,lw,hw⟩;exact q D H' ws ρ s' θ @A hw
end
section
theorem AX {H:Hp} {Q:VK} {E:XK} {c k:Int} (h0:0<=k) (h1:k < 40) (q:∀H2,Same H H2->Q (.str (nmf c k)) H2):zh [.int c,.int k] H Q E:=⟨c,k,rfl,h0,h1,q⟩
local macro_rules | `(tactic| walk_at "l2step") =>`(tactic| first | (with_reducible refine bL ?_) | ((with_reducible refine' FF ?a ?b ?_);(case a=>omega);(case b=>omega)) | ((with_reducible refine' uu ?e ?a ?_);(case e=>walk_at "l2hp");(case a=>walk_at "l2side")))
theorem DR (T:@L):!H 3 a.iS a.zC ["_law_script","_law_start","_law_most"] (IH K):=by
 have gj:=@fz P w K mg base a T;refine T.pR.1.okA bB λs0 A outer s H vs Q E ε h=>?_;obtain⟨p,ns,st,mo,rfl,hS,r1,r2,q⟩:=h;have n5:=Je ε
 refine⟨_,((ae (!ax bB.nd (!aR (oE T) ε T.rg T.iW 0 1))
  (ae (!b7 bB.nd rfl (cR (aa (!a3 eJ (!an gj ε T.cH T.bU 3 ah)) (!a9 (!ab eJ (!an gj ε T.cH T.bU 3 ah) cL @S ah) (!ab eJ (!an gj ε T.cH T.bU 3 ah) cL @S ah)))))
  (ae (b7 (osc:=ag jQ) (ON:=n24) (N:=n20) (n:=1) (fx:=[3]) (i:=5) bB.nd rfl rfl rfl rfl rfl rfl @O (!b4 @G (!Z (!ad @a7 ah))) @Q (!O (aq (i:=0) (show ka (n20:C') from by decide +kernel) rfl @F) (!aR (kR T) ε T.mX T.gU 1 0)))
  (ae (b7 (osc:=ag jQ) (ON:=n24) (N:=n20) (n:=1) (fx:=[3]) (i:=6) bB.nd rfl rfl rfl rfl rfl rfl @O (!b4 @G (!Z (!ad @a7 ah))) @Q (!O (aq (i:=0) (show ka (n20:C') from by decide +kernel) rfl @F) (!an (kR T) ε T.mX T.gU 1 (av cL ah @K))))
  (ae (ax (i:=7) bB.nd rfl @F (av g6 @aw (pv 6)))
  (ae (ax (i:=8) bB.nd rfl @F @an)
  (ae (cX lI rfl (!b4 @G (!Z (!ad @a7 ah))) (aq (i:=9) bB.nd rfl @F) (ae (ax (i:=10) bB.nd rfl @F (ao (Aa T) ε T.B2 T.lh (aa (!an (oE T) ε T.rg T.iW 0 (av cL (!a3 cL @I) (pv 9))) (aa ah (!b3 7 (jq lR (!a3 eJ @U) ah @bk))))))
  (ae (bp (!aB la so sb dq (pv 8) (dh (aa (!an (kR T) ε T.mX T.gU 3 (av cL ah (pv 9))) (!a5 10)))))
  (ai (ax (i:=7) bB.nd rfl @F (av g6 (pv 7) (cR (!Z (!an (kR T) ε T.mX T.gU 3 (av cL ah (pv 9)))))))))))
  (ae (ax (i:=11) bB.nd rfl @F (!ab eJ (!an gj ε T.cH T.bU 3 ah) cL (!aa (!a5 8)) ah))
  (ae (ax (i:=8) bB.nd rfl @F (av g6 (pC @c8 (pv 8) (tF (pv 11)) tG) (GD @G @G T.ig T.GN rfl (pC @c8 (pv 8) tG (tF (pv 11))))))
  (ae (ax (i:=12) bB.nd rfl @F @an)
  (ae (!aS lI (rL (K:=K) rfl @G T.fA (pv 6)) (uA rfl (aZ (aq (i:=9) bB.nd rfl @F) (aZ (aq (i:=13) bB.nd rfl @F) ie))) (bp (!aB la so sb dq (pv 12) (dh (!b3 13 (!ad (pv 7) (av eJ (!an gj ε T.cH T.bU 3 (av cL ah (pv 9))) (!aa (!a5 7)))))))))
  (ae (ax (i:=14) bB.nd rfl @F @an)
  (Jr (!aK (!X (JB (K:=K) rfl n5) (pv 7) @an) (b7 (osc:=ag jQ) (ON:=n24) (N:=["_law_k","_law_known","_law_cell_here"]) (n:=1) (fx:=[7,3]) (i:=14) bB.nd rfl rfl rfl rfl rfl rfl @O (!b4 @G (!Z (!a3 eJ (!an gj ε T.cH T.bU 3 ah)))) @Q (!O (aq (i:=0) (show ka (["_law_k","_law_known","_law_cell_here"]:C') from by decide +kernel) rfl @F) (!ad @I (av eJ (!an gj ε T.cH T.bU 2 (av cL ah @K)) (!aa @ag))))))
  (!aT (!ar 5 (!ar 8 (!ah 12 14)))))))))))))))))),aw (σ':=[ak _,ak _,ak _,f',f',f',f',f',f',f',f',f',f',f',f']) rfl ?_⟩
 lia;generalize cell ns ((st:Nat):Int)=c;intro Z H1 f1 s1 e1;obtain⟨ni,π,ψ⟩:=jG (c:=mixV c 1) (m:=4) @D;obtain⟨nt,υ,χ⟩:=jG (c:=mixV c 2) (m:=(mo:Int) + 1) @A;obtain⟨nz,j1,n3⟩:=jG (c:=mixV c 3) (m:=(mo:Int) + 1) @A;rw[π,υ,j1] at e1;have e0:ni<=3:=by omega
 have j3:nt<=12:=by omega
 have j0:nz<=12:=by omega
 have i4:nz<=mo:=by omega
 have r0:nt<=mo:=by omega
 have k6:=Same.seq s1 hS;clear π υ j1 ψ χ n3;lia;intro D2 g5;refine dW (!ck (!bg (nms c 0 i))) (!a4 g5) (λi ys H' hi φ=>?_) (λys H2 φ=>?_)
 ·have r5:i < 3:=by omega
  lia;refine AX @A @A λH3 s3=>?_;refine Cs.put g5 (φ.same.trans s3) (s3.get φ.at') φ.len @A ?_;rw[φ.pv,rW,dt,show(0:Int) + (i:Int)=((0 + i:Nat):Int) by push_cast;rfl];rfl
 ·have e2:=φ.at';rw[φ.pv,lj] at e2;have ζ:=φ.same;clear φ;have ι:=ζ.get e1;lia;intro D3 g4;refine dW (!ca (nms c 6 i)) (!a4 g4) (λi ys H' hi φ=>?_) (λys H3 φ=>?_)
  ·have n7:i < 12:=by omega
   lia;refine AX @A @A λH4 L=>?_;refine Cs.put g4 (φ.same.trans L) (L.get φ.at') φ.len @A ?_;rw[φ.pv,rW,dt,show(6:Int) + (0 + (i:Int))=((6 + i:Nat):Int) by push_cast;omega];rfl
  ·have e3:=φ.at';rw[φ.pv,lj] at e3;have ο:=φ.same;clear φ;lia;refine lH (ο.get e2) e3 (by rw[aI,aI,fg,fg,ix];omega) λD4 H4 f4 L e4=>?_;rw[<-dt] at e4;have b8:=ζ.trans (ο.trans L);have m2:=b8.get e1;have l8:=L.get (ο.get e2);have l3:=L.get e3;have g0:=Same.seq b8 k6;have γ:=s1.trans b8;clear ι g5 g4 f1 f4 ζ ο L b8 e1 e2 e3 k6 s1;lia;intro D5 H5 f5 s5 e5;have q3:=s5.get m2;have m7:=γ.trans s5;have n9:H D5=none:=γ.free f5;lia;refine kB (λi σ H'=>∃(v9 a7:qE V) (Dk:ee) (rs:eS Rw),σ=[ak (!ap p),ak (nat st),ak (nat mo),ak (V.int c),ak (!ap Z),ak (!ap D2),ak (!ap D3),ak (!ap Dk),ak (!ap D5),v9,a7,f',f',f',f']/\Same H4 H'/\H' Dk=ak (!bd (nms c 0 ni++nms c 6 nt++nms c 22 i))/\Dk≠D5/\H' D5=ak (!A @bv)/\RwL H' rs/\(∀r∈rs,r.2.1≠D5)/\Mk c ni nt (rs.map (·.2.2))/\rs.length=i) ⟨f',f',D4,[],rfl,s5,by rw[show nms c 22 0=[] from rfl,UY];exact s5.get e4,aj e4 f5,e5,λ_ h=>hF h @C,λ_ h=>hF h @C,Mk.nil ..,rfl⟩ ?_ ?_
   ·rintro i σ H' hi ⟨v9,a7,Dk,rs,rfl,s',ek,nk,θ,rl,ξ,mk,lr⟩;have n7:i < 12:=by omega
    have g3:=Same.seq s' g0;lia;refine⟨_,10,Dk,_,_,rfl,@D,@D,ek,by rw[fD,fD,fg,fg,fg];omega,λDw H6 ws f6 s6 ρ l4 hw=>?_⟩;have c3:=s6.get θ;lia;refine AX @A @A λH7 α=>?_;lia;intro tr H8 f8 s8 e8;have a0:=α.trans s8;have c2:=a0.get c3;have O:=a0.get (s6.get ek);have k7:=a0.get ρ;lia;refine fX c2 (by rw[aI,ix];omega) λH9 u9=>?_;have nw:Dw≠D5:=(aj θ f6).symm;have a3:Same H4 H9:=λb o e=>u9.oth _ _ (!L f5) (a0.get (s6.get @af));have b0:=u9.oth _ _ nk O;have k8:=u9.oth _ _ (cF e8 c2 λz=>by cases z) e8;have p0:=u9.oth _ _ nw k7;have c1:RwL H9 rs:=λr ε=>⟨u9.oth _ _ (cF ((rl.same s6).same a0 r ε).1 c2 λz=>by cases z) ((rl.same s6).same a0 r ε).1,u9.oth _ _ (ξ r ε) ((rl.same s6).same a0 r ε).2⟩;have l1:=u9.at';clear u9 e8 k7 O c2 a0 α s8 f8 c3 ρ g3;lia;refine AX @A @A λq8 c0=>?_;lia;intro m4 q7 o0 b9 h3;have δ:=c0.trans b9;refine lH (δ.get b0) h3 (by rw[aI,fD,fD,fg,fg,fg,ix];show _ + 1<=_;omega) λq9 h4 ω ζ ι=>?_;have ν:=δ.trans ζ;have ei:(22:Int) + (0 + (i:Int))=((22 + i:Nat):Int):=by push_cast;omega
    rw[ei] at ι k8
    have p5:(nms c 0 ni++nms c 6 nt++nms c 22 i).map V.str++[V.str (nmf c ((22 + i:Nat):Int))]=(nms c 0 ni++nms c 6 nt++nms c 22 @J).map V.str:=by
     rw[rW,<-WH,dt (l₂:=[_])];rfl
    rw[p5] at ι;lia;refine⟨_,_,q9,rs++[(tr,Dw,nmf c ((22 + i:Nat):Int),ws)],rfl,a3.trans ν,ι,(aj (δ.get l1) ω).symm,by rw[ν.get l1,dt];rfl,λr ε=>?_,λr ε=>?_,?_,by rw[fD,lr];rfl⟩
    ·rcases gz.mp ε with h | h
     ·exact c1.same ν r h
     ·rw[gs] at h;subst h;exact⟨ν.get k8,ν.get p0⟩
    ·rcases gz.mp ε with h | h
     ·exact ξ r h
     ·rw[gs] at h;subst h;exact nw
    ·have lm:(rs.map (·.2.2)).length=i:=by rw[aI,lr]
     have:=mk.put (ws:=ws) l4 (by rw[lm];exact hw);rw[lm] at this;rw[dt];exact this
   ·rintro σ H' ⟨v9,a7,Dk,rs,rfl,s',ek,nk,θ,rl,ξ,mk,lr⟩;rw[lj] at lr;rw[lj] at ek;have c4:=s'.get l8;have l7:=s'.get l3;have g3:=Same.seq s' g0;have h5:=γ.trans s';obtain⟨j,hj,r3⟩:=jG (c:=mixV c 4) (m:=(((@bv).length:Nat):Int) + 1) @A;have h6:(@bv).length=rs.length:=aI ..
    have k4:j<=rs.length:=by omega
    clear m2 l8 l3 e4 e5 g0 γ m7 s5 f5 n9 q3;lia;rw[hj];intro D6 H6 f6 s6 ρ;rw[vN _ j (by rw[h6];exact k4),<-ag9] at ρ;have c3:=s6.get θ;lia;refine Rj ?_;lia;intro D7 H7 f7 α e7;rw[AS _ j (by rw[h6];exact k4),<-Z5] at e7;refine⟨D7,_,rfl,!ag e7,λD8 f8=>?_⟩;rw[<-List.map_reverse];have s8:=bj (o:=HO.lst (!cg (!bb j))) f8;have e8:upd H7 D8 (HO.lst (!cg (!bb j))) D8=ak (HO.lst (!cg (!bb j))):=ay;generalize upd H7 D8 (HO.lst (!cg (!bb j)))=H8 at s8 e8 ⊢;refine lH (!aY (α.get ρ)) e8 (by rw[aI,aI,ab6,WB,pa,ix];omega) λD9 H9 f9 s9 e9=>?_;rw[<-dt] at e9;have a3:=s6.trans (α.trans (s8.trans s9));have q2:=a3.get c4;have l2:=a3.get l7;have b0:=a3.get ek;have c1:=rl.same a3;have m5:=h5.trans a3
    have perm:(rs.drop j++(!bb j).reverse).Perm rs:=by
     refine XO (Zp _ (List.reverse_perm _)) ?_;refine XO ZZ ?_;rw[WI]
    generalize i3:rs.drop j++(!bb j).reverse=rs' at e9 perm;have n2:RwL H9 rs':=λr ε=>c1 r (perm.mem_iff.mp ε);clear c1 rl s8 e8 e7 f7 f8 α ρ f6 s6 s9 f9 a3 c4 l7 θ c3 ξ nk s' h5 g3 ek i3;lia;intro c5 q8 o3 c0 q5;have l5:=c0.get l2;lia;refine !J ⟨⟨_,SqL.of l5⟩,?_⟩;have lk:(nms c 0 ni++nms c 6 nt++nms c 22 nz).length=ni + nt + nz:=by rw[fD,fD,fg,fg,fg]
    generalize n6:nms c 0 ni++nms c 6 nt++nms c 22 nz=η at b0 lk;refine vL (xs:=(nms c 6 nt).map V.str) (λi σ H'=>∃(v9 b3:qE V) (qs:eS Qs),σ=[ak (!ap p),ak (nat st),ak (nat mo),ak (V.int c),ak (!ap Z),ak (!ap D2),ak (!ap D3),ak (!ap Dk),ak (!ap D9),v9,a7,ak (V.int j),ak (!ap c5),b3,f']/\Same H9 H'/\H' c5=ak (!A @cE)/\QsK H' qs/\qs.map (·.2.1)=nms c 6 i/\∀q∈qs,q.2.2∈η) ⟨_,f',[],rfl,c0,q5,λ_ h=>hF h @C,rfl,λ_ h=>hF h @C⟩ (λi σ H' _ ⟨_,_,_,_,s',_⟩=>SqL.of (!a2 l2)) ?_ ?_
    ·rintro i y σ H' pz H7 hy ⟨v9,b3,qs,rfl,s',eq,qk,qn,qw⟩ fp α e7;obtain⟨z,hz,rfl⟩:=aA hy;have j4:=(@aV).1;rw[fg] at j4
     have ez:z=nmf c ((6 + i:Nat):Int):=by
      unfold nms at hz;rw[hH,Vt j4] at hz;exact(ry hz).symm
     have lq:qs.length=i:=by have:=px zz qn;rw[aI,fg] at this;exact this
     have r8:=α.get (!a2 b0);have k9:(@bH).length=ni + nt + nz:=by rw[aI,lk]
     have h0:=α.get eq;lia;obtain⟨m,hm,a5⟩:=jG (c:=mixV c (50 + (i:Int))) (m:=(((@bH).length:Nat):Int)) @A;have a5:m < η.length:=by rw[aI] at a5;omega
     have n8:atI @bH (mixV c (50 + (i:Int)) % (((@bH).length:Nat):Int))=ak (.str η[m]):=by
      rw[hm];exact dE (by rw[hH,ef a5];rfl)
     lia;intro tq H8 f8 s8 e8;lia;refine fX (!aY h0) (by rw[aI,ix];omega) λt2 u9=>?_;lia;refine⟨_,_,qs++[(tq,z,η[m])],rfl,λb o e=>u9.oth _ _ (!L o3) (!aY (α.get @af)),by rw[u9.at',dt];rfl,?_,?_,fun β a6=>?_⟩
     ·intro β a6;rcases gz.mp a6 with h | h
      ·exact((qk.same α).same s8).updL (!aY h0) u9.oth β h
      ·rw[gs] at h;subst h;exact u9.oth _ _ (cF e8 (!aY h0) λz=>by cases z) e8
     ·rw[dt,qn,rW,ez];rfl
     ·rcases gz.mp a6 with h | h
      ·exact qw β h
      ·rw[gs] at h;subst h;exact UX a5
    ·rintro σ H' ⟨v9,b3,qs,rfl,s',eq,qk,qn,qw⟩;rw[aI,fg] at qn;have q0:=s'.get b0;have c4:=s'.get q2;have q1:=s'.get e9;have n0:=n2.same s';lia;intro m4 q7 o0 b9 h3;lia;refine RG (fun σ H2=>∃(Do:ee) (outs:C'),σ=[ak (!ap p),ak (nat st),ak (nat mo),ak (V.int c),ak (!ap Z),ak (!ap D2),ak (!ap D3),ak (!ap Dk),ak (!ap D9),v9,a7,ak (V.int j),ak (!ap c5),b3,ak (!ap Do)]/\Same H' H2/\H2 Do=ak (!A (outs.map V.str))/\outs.length<=3/\∀z∈outs,z∈η) ?_ ?_
     ·have l0:=b9.get q0;lia;intro t1 h4 ω ζ ι;have f2:=ζ.get l0;refine RA (vG f2) (vG (ws:=[]) ι) (by rw[depD,AR];decide) ?_;rw[show(Xa Dt.str [])=[] from rfl,KD];have d1:=b9.trans ζ;have Y:=ζ.get h3;by_cases hz:η=[]
      ·rw[hE hz];lia;exact⟨m4,[],rfl,d1,Y,Vh _,λ_ h=>hF h @C⟩
      ·rw[hA hz];have m0:=UN (!b0 5) (show(4:Int)≠0 by decide);have m1:=y2 (!b0 5) (show(0:Int) < 4 by decide);have a8:1<=η.length:=Yw.mpr hz;have k9:(@bH).length=η.length:=aI ..
       lia;intro m3 f0;refine dW (λi ys H2=>∃ws:C',ys=ws.map V.str/\Same h4 H2/\H2 m3=ak @X/\ws.length=i/\∀w∈ws,w∈η) ⟨[],rfl,bj f0,ay,rfl,λ_ h=>hF h @C⟩ ?_ ?_
       ·rintro i ys H2 hi ⟨ws,rfl,s2,θ,lw,hw⟩;have r9:=s2.get f2;have r4:i < 4:=by omega
        lia;obtain⟨m,hm,a5⟩:=jG (c:=mixV c (80 + (0 + (i:Int)))) (m:=(((@bH).length:Nat):Int)) @A;have a5:m < η.length:=by omega
        have n8:atI @bH (mixV c (80 + (0 + (i:Int))) % (((@bH).length:Nat):Int))=ak (.str η[m]):=by
         rw[hm];exact dE (by rw[hH,ef a5];rfl)
        lia;refine⟨θ,by rw[aI];exact aO @A,ws++[η[m]],by rw[dt];rfl,λb o e=>?_,ay,by rw[fD,lw];rfl,λw n4=>?_⟩
        ·rw[aH (!L f0)];exact s2.get e
        ·rcases gz.mp n4 with h | h
         ·exact hw w h
         ·rw[gs.mp h];exact UX a5
       ·rintro ys H2 ⟨ws,rfl,s2,θ,lw,hw⟩;lia;exact⟨m3,ws,rfl,d1.trans s2,θ,@A,hw⟩
     ·rintro σ h4 ⟨Do,outs,rfl,ζ,ι,lo,ho⟩;have l9:=ζ.get c4;lia;intro tt q6 r7 f3 q4;have a4:=ζ.trans f3;have a8:(rs.map (·.2.2)).length=nz:=by rw[aI,lr]
      subst n6;refine q tt D2 D9 c5 Do q6 rs' qs ⟨nms c 0 ni,rs'.map (·.2.2),qs.map (·.2),outs⟩ (m5.trans (!b5 a4)) q4 ⟨f3.get l9,a4.get q1,λr ε=>n0.same a4 r ε,rfl,a4.get eq,fun β a6=>qk.same a4 β a6,rfl,f3.get ι⟩ (JW mk e0 j3 (by rw[a8];exact j0) (perm.map _) (by rw[u2];exact qn) @A (fun β a6=>?_) (by rw[a8];exact ho)) (by show(nms c 0 ni).length<=3;rw[fg];exact e0) (by show(rs'.map (·.2.2)).length<=mo;rw[(perm.map _).length_eq,a8];exact i4) (by show(qs.map (·.2)).length<=mo;have:=px zz qn;rw[aI,fg] at this;rw[aI];omega) lo;obtain⟨τ,G,rfl⟩:=hD.mp a6;rw[a8];exact qw τ G
end
end
local macro_rules | `(tactic| walk_at "l2step") =>`(tactic| first | ((with_reducible refine' uu ?e ?a ?_);(case e=>walk_at "l2hp");(case a=>walk_at "l2side")) | ((with_reducible refine' Te ?a ?b ?_);(case a=>walk_at "l2side");(case b=>walk_at "l2side");(with_reducible intro _ _)))
section
variable {P:pT} {w:z0} {K:b'} {mg:F'} {base:zx} {a:Ad}
theorem MP (vs:eS V) (H:Hp) (Q:VK) (E:XK) (h:NW vs H Q E):Dc vs H Q E:=by
 obtain⟨c,k,rfl,G,h1,q⟩:=h;refine⟨c,k,rfl,G,h1,?_⟩;have L:=Qd c k;have n1:=Qe c k;have:=q (!b0 k).toNat @A;unfold nat at this;rwa [Int.toNat_of_nonneg L] at this
theorem Ac (T:@L):!H 2 a.fM a.uJ @dE II:=by
 have L:=(fz (P:=P) (w:=w) (base:=base) T).imp MP;refine T.lC.1.okA hZ fun τ A outer s H vs Q E ν h=>?_;obtain⟨c,st,n,wd,dg,rfl,Z,hn,hw,q⟩:=h;have ο:n * wd<=1024:=Vs (Wy hn hw) @D;have O:(1:Int) * 2 ^ ((wd:Int).toNat)=((2 ^ wd:Nat):Int):=shl1 wd;have ξ:=mm wd;have ζ:2 ^ wd<=2 ^ 16:=gA @D hw;have η:(n:Int) * (wd:Int) + 1=((n * wd + 1:Nat):Int):=by push_cast;rfl
 have G:(1:Int) * 2 ^ (((n * wd + 1:Nat):Int).toNat)=((2 ^ (n * wd + 1):Nat):Int):=shl1 _;have γ:=mm (n * wd + 1)
 refine⟨_,((ae (!bt hZ.nd rfl @an)
  (ae (ax (i:=6) hZ.nd rfl @F (!a3 z8 (!ab eJ @K fw ah (!a3 cL (av ki @S @U)))))
  (ae (cX lI rfl (!b4 @G @ae) (aq (i:=7) hZ.nd rfl @F) (ai (d7 (gZ @a7) (ae (bp (!aB la so sb dq @aw (!ab eJ (pv 6) fw ah @U)))
  (ai (ax (i:=6) hZ.nd rfl @F (!ab z8 (pv 6) fw ah @U)))) (ai (bp (!aB la so sb dq @aw (!ab eJ (!an L ν T.cH T.bU 0 (av cL @I (pv 7))) fw ah @U)))))))
  (!K @aw))))),aw (σ':=[ak _,ak _,ak _,ak _,ak _,f',f',f']) rfl ?_⟩
 lia;intro D H1 ε θ π;lia;rw[η];lia;rw[G];lia;refine kB (λi σ H'=>∃(l:Int) (v:qE V) (ms:Cr),σ=[ak (.int c),ak (nat st),ak (nat n),ak (nat wd),ak (.bl dg),ak @Z,ak (.int l),v]/\Same H H'/\H' D=ak (!A (ms.map nat))/\ms.length=i/\∀x∈ms,x < 2 ^ wd) ⟨_,f',[],rfl,θ,π,rfl,λ_ h=>hF h @C⟩ ?_ ?_
 ·rintro i σ H' hi ⟨l,v,ms,rfl,α,ρ,el,hb⟩;have χ:i < n:=by omega
  clear G γ η;cases dg with
  | true=>
    lia;rw[O];obtain⟨k,hk,δ⟩:=jG (c:=l) (m:=((2 ^ wd:Nat):Int)) @A;lia;rw[hk];refine fX ρ (by rw[aI,ix];omega) fun υ Y=>?_;lia;rw[O];lia;refine⟨_,_,ms++[k],rfl,λb o e=>Y.oth _ _ (!L ε) (α.get e),?_,by rw[fD,el];rfl,λx β=>?_⟩
    ·rw[Y.at',dt];rfl
    ·rcases gz.mp β with h | h
     ·exact hb x h
     ·rw[gs.mp h];omega
  | false=>
    lia;rename_i r ι;rw[O];obtain⟨k,hk,δ⟩:=jG (c:=(r:Int)) (m:=((2 ^ wd:Nat):Int)) @A;lia;rw[hk];refine fX ρ (by rw[aI,ix];omega) fun υ Y=>?_;lia;refine⟨_,_,ms++[k],rfl,λb o e=>Y.oth _ _ (!L ε) (α.get e),?_,by rw[fD,el];rfl,λx β=>?_⟩
    ·rw[Y.at',dt];rfl
    ·rcases gz.mp β with h | h
     ·exact hb x h
     ·rw[gs.mp h];omega
 ·rintro σ H' ⟨l,v,ms,rfl,α,ρ,el,hb⟩;lia;exact q D H' ms ε α ρ @A hb
theorem BD (T:@L):!H 3 a.gR a.x4 @ds IG:=by
 refine T.nE.1.okA Bm λL A outer s H vs Q E G h=>?_;obtain⟨c,n,wd,rfl,hn,hw,q⟩:=h;refine⟨_,((!K (ao (Ac T) G T.B4 T.lC (!ar 0 (aa ah (!ar 1 (!b3 2 (jq lR (!a3 eJ @K) ah @bk)))))))),!bn rfl⟩;lia;exact⟨c,500,n,wd,_,rfl,@D,hn,hw,q⟩
end
section
variable {P:pT} {w:z0} {K:b'} {mg:F'} {base:zx} {a:Ad}
local macro_rules | `(tactic| walk_at "l2step") =>`(tactic| first | ((with_reducible refine' cJ ?e ?_);(case e=>walk_at "l2kind")) | ((with_reducible refine' eP ?e ?_);(case e=>walk_at "l2kind")) | (with_reducible refine bL ?_) | (with_reducible refine cN ?_))
def Md:Sp:=λvs H Q _=>∃(i s u o:ee) (rs:eS Rw) (qs:eS Qs) (N:Nt),vs=[.ref i,.ref s,.ref u,.ref o]/\Hnd H i s u o rs qs N/\Gn N/\∀(H2:Hp),Same H H2->Q (.str (txtN N)) H2
theorem BC (T:@L):!H 1 a.gQ a.xZ @dJ Md:=by
 refine T.nC.1.okA i7 λb0 A outer s H vs Q E hr h=>?_;obtain⟨i,s,u,o,rs,qs,N,rfl,hn,g,q⟩:=h;have li:=g.li;have ls:=g.ls;have lt:=g.lt;have lo:=g.lo;have hi:=hn.i;have hs:=hn.s;have hu:=hn.t;have ho:=hn.o;have fm:=vE g;have a6:=rG g
 refine⟨_,((ae (b7 (osc:=ag iE) (ON:=n25) (N:=n21) (n:=1) (fx:=[]) (i:=4) i7.nd rfl rfl rfl rfl rfl rfl @O (!U @K) @Q (!O (aq (i:=0) (show ka (n21:C') from by decide +kernel) rfl @F) (av eW bc @K)))
  (ae (!aS lI (!U @I) (uA rfl (aZ (aq (i:=5) i7.nd rfl @F) (aZ (aq (i:=6) i7.nd rfl @F) ie))) (bp (!aB la so sb dq @a7 (!aB Vl X0 W' (vJ (K:=K) rfl) bc (av g6 (cR (aa bc (!b3 5 bc))) (!b9 rfl @G T.ig oD (!a5 6)))))))
  (ae (!b7 i7.nd rfl (av g6 @a7 (bA (osc:=ag iE) (ON:=n25) (N:=n26) (n:=2) (fx:=[]) rfl rfl rfl @O (!U @S) (xI (fj @Q (fj @Q rf))) (!O (!bK rfl rfl (aq (i:=0) (show ka (n26:C') from by decide +kernel) rfl @F) (aZ (aq (i:=1) (show ka (n26:C') from by decide +kernel) rfl @F) ie)) (av eW (av eW (av eW bc @K) bc) @I)))))
  (!K (!aB Vl X0 W' (vJ (K:=K) rfl) bc (av g6 @a7 (bA (osc:=ag iE) (ON:=n25) (N:=n21) (n:=1) (fx:=[]) rfl rfl rfl @O (!U @U) @Q (!O (aq (i:=0) (show ka (n21:C') from by decide +kernel) rfl @F) (av eW bc @K)))))))))),aw (σ':=[ak _,ak _,ak _,ak _,f',f',f']) rfl ?_⟩
 lia;intro D1 β;refine aN (xs:=N.ins.map V.str) (λi ys H'=>Cs (!bg ((N.ins.take i).map λz=>rowT [("in":lA),z])) H D1 i ys H') (!a4 β) (!aF hi) (λj x ys H' ζ c=>?_) @ch
 ·obtain⟨z,hz,rfl⟩:=aA ζ;lia;have υ:=((fm _ (!N (!N (!N (!aq ⟨z,eH hz,rfl⟩))))).len.2 z @C);have α:=(@aV).1;refine⟨by rw[show(Vq "in ").length=3 by decide +kernel,ix];omega,Cs.put β c.same c.at' c.len @A ?_⟩;rw[c.pv,take_succ hz,dt,dt,PM];rfl
 ·have e1:=c.at';rw[c.pv] at e1;have s1:=c.same;clear c;lia;rw[aI,ic] at e1;refine fk (xs:=rs.map λr=>V.ref r.1) (λj σ H'=>∃φ ξ,σ=[ak (!j i),ak (!j s),ak (!j u),ak (!j o),ak (!j D1),φ,ξ]/\Same H H'/\H' D1=ak (!bd ((N.ins.map λz=>rowT [("in":lA),z])++(N.sums.take j).map λr=>rowT (("sum":lA)::r.1::("=":lA)::r.2)))) ⟨f',f',rfl,s1,by rw[Ze,Z0,UY];exact e1⟩ (λj σ H' _ ⟨_,_,_,s',_⟩=>SqL.of (!a2 hs)) ?_ ?_
  ·rintro j y σ H' hy ⟨φ,ξ,rfl,s',e'⟩;obtain⟨r,G,rfl⟩:=aA hy;have α:=(@aD).1;have hm:=eH G;have O:=s'.get (hn.sr r hm).1;have ew:=s'.get (hn.sr r hm).2;have Y:N.sums[j]? =ak r.2.2:=by rw[<-hn.es,hH,G];rfl
   have a7:=g.lw _ (eH Y);have b1:=(fm _ (!N (!N (!Q (!aq ⟨r.2.2,eH Y,rfl⟩))))).len;lia;intro D3 H3 δ ε ν;have a8:=ε.get ew;lia;intro D4 H4 f4 L ι;refine lH (!aj ν) ι (by rw[aI,ix];simp;omega) λD5 H5 f5 ο θ=>?_;have a5:H5 D5=ak (!bd (("sum":lA)::r.2.2.1::("=":lA)::r.2.2.2)):=θ
   have τ:∀(l:C'),(∀w∈l,w.length<=6)->(l.map (·.length)).sum<=l.length * 6:=λl=>by
    induction l with
    | nil=>intro _;simp
    | cons x l ih=>intro h;have:=ih λw hw=>h w (ik _ hw);have:=h x j';simp only[UL,Z2,pA];omega
   have a0:=τ _ b1.2;have ρ:=ε.trans (L.trans ο);have a4:=ρ.get e';clear θ ι ν;lia;refine E2 (!ag a5) (by rw[rz];show _ + (("sum":lA)::r.2.2.1::("=":lA)::r.2.2.2).length * 1<=_;omega) ?_;rw[vA,rz];lia;refine fX a4 (by rw[aI,fD,aI,aI,pa,ix];omega) λH6 u6=>?_;lia;refine⟨_,_,rfl,u6.same β (!b5 ρ),?_⟩;rw[u6.at',take_succ Y,dt (l₂:=[r.2.2]),<-WH,dt (l₂:=Xa _ [r.2.2])];rfl
  ·rintro σ H2 ⟨φ,ξ,rfl,ψ,e2⟩;rw[aI,show rs.length=N.sums.length by rw[<-hn.es,aI],ic] at e2;have ω:=ψ.get hu;lia;intro D3 η;refine aN (xs:=qs.map λq=>V.ref q.1) (!ca ((N.sts.take i).map λr=>rowT [("store":lA),r.1,("=":lA),r.2])) (!a4 η) (!aF ω) (λj x ys H' ζ c=>?_) @cr
   ·obtain⟨r,G,rfl⟩:=aA ζ;have O:=c.same.get (ψ.get (hn.tr r (eH G)));have Z:N.sts[j]? =ak r.2:=by rw[<-hn.et,hH,G];rfl
    have α:=(!M Z).1;have b1:=(fm _ (!N (!Q (!aq ⟨r.2,eH Z,rfl⟩)))).len.2;have l1:=b1 r.2.1 @C;have l2:=b1 r.2.2 @C;lia;have π:(Vq "store ").length=6:=by decide +kernel
    have z2:(Vq " = ").length=3:=by decide +kernel
    refine⟨by rw[π,ix];omega,?_⟩;lia;refine⟨by rw[zO,π,z2,ix];omega,?_⟩;lia;refine⟨by rw[zO,zO,π,z2,ix];omega,Cs.put η c.same c.at' c.len @A ?_⟩;rw[c.pv,take_succ Z,dt,dt,Gm];rfl
   ·have ν:=c.at';rw[c.pv,aI,show qs.length=N.sts.length by rw[<-hn.et,aI],ic] at ν;have ε:=c.same;clear c;refine lH (ε.get e2) ν (by rw[aI,aI,aI,fD,aI,aI,ix];omega) λD4 H4 f4 L ι=>?_;rw[<-dt] at ι;have γ:=ψ.trans (ε.trans L);have a3:=γ.get ho;lia;intro D5 χ;refine aN (xs:=N.outs.map V.str) (!ch (!bg ((N.outs.take i).map λz=>rowT [("out":lA),z]))) (!a4 χ) (!aF a3) (λj x ys H' ζ c=>?_) @bV
    ·obtain⟨z,hz,rfl⟩:=aA ζ;lia;have υ:=(fm _ (!Q (!aq ⟨z,eH hz,rfl⟩))).len.2 z @C;have α:=(@aV).1;refine⟨by rw[show(Vq "out ").length=4 by decide +kernel,ix];omega,Cs.put χ c.same c.at' c.len @A ?_⟩;rw[c.pv,take_succ hz,dt,dt,Mw];rfl
    ·have θ:=c.at';rw[c.pv,aI,ic] at θ;have ο:=c.same;clear c;refine lH (ο.get ι) θ (by simp only[aI,fD];rw[ix];omega) λD6 H6 f6 s6 e6=>?_;rw[<-dt] at e6
     have hR:((N.ins.map λz=>rowT [("in":lA),z])++(N.sums.map λr=>rowT (("sum":lA)::r.1::("=":lA)::r.2)))++(N.sts.map λr=>rowT [("store":lA),r.1,("=":lA),r.2])++(N.outs.map λz=>rowT [("out":lA),z])=(nT N).map rowT:=by
      unfold nT;simp only[dt,u2];rfl
     rw[hR] at e6
     have τ:∀(l:eS C'),(∀r∈l,Fm r)->((l.map rowT).map (·.length)).sum<=l.length * 189:=λl=>by
      induction l with
      | nil=>intro _;simp
      | cons x l ih=>
        intro h;have:=ih λw hw=>h w (ik _ hw);have b1:=(h x j').len;have b2:=vF b1.2;have b3:x.length * 7<=27 * 7:=VA 7 b1.1;simp only[UL,Z2,pA];omega
     have a0:=τ (nT N) fm;lia;refine E2 (!ag e6) (by rw[vW,aI];show _ + (nT N).length * 1<=_;omega) ?_;rw[vA,vW];exact q _ (γ.trans (ο.trans s6))
end
local macro_rules | `(tactic| walk_at "l2step") =>`(tactic| first | ((with_reducible refine' uu ?e ?a ?_);(case e=>walk_at "l2hp");(case a=>walk_at "l2side")) | ((with_reducible refine' Te ?a ?b ?_);(case a=>walk_at "l2side");(case b=>walk_at "l2side");(with_reducible intro _ _)))
section
variable {P:pT} {w:z0} {K:b'} {mg:F'} {base:zx} {a:Ad}
local macro_rules | `(tactic| walk_at "l2step") =>`(tactic| first | ((with_reducible refine' cJ ?e ?_);(case e=>walk_at "l2kind")) | ((with_reducible refine' eP ?e ?_);(case e=>walk_at "l2kind")) | (with_reducible refine bL ?_) | (with_reducible refine cN ?_))
local macro_rules | `(tactic| walk_at "l2step") =>`(tactic| first | ((with_reducible refine' FF ?a ?b ?_);(case a=>omega);(case b=>omega)) | ((with_reducible refine' uu ?e ?a ?_);(case e=>walk_at "l2hp");(case a=>walk_at "l2side")))
theorem Sj (T:@L):!H 14 a.Hc a.Tc ["_law_script"] (EY K):=by
 refine T.NF.okA p6 λn4 A outer s H vs Q E ε h=>?_;obtain⟨Y,ns,rfl,hS,l3,q⟩:=h;have c0:=SO ε
 refine⟨_,((ae (Js (ao (DR T) ε T.Ha T.pR (!ar 0 (!a9 ah ah))) (uA rfl (aZ (aq (i:=1) p6.nd rfl @F) (aZ (!bJ p6.nd @F) (aZ (!bM p6.nd @F) (aZ (!bj p6.nd rfl) ie))))))
  (ae (!bt p6.nd rfl (!aZ (wI T) ε T.zq T.mD (ao (BC T) ε T.Er T.nC (!ar 1 (!ar 2 (!ah 3 4))))))
  (ae (ax (i:=6) p6.nd rfl @F (!aZ (Bz T) ε T.Eo T.nu (ao (DN T) ε T.G7 T.pM (!a5 5))))
  (ae (d7 (!X lR (!V (pv 6)) bc) (ae (ax (i:=7) p6.nd rfl @F (!an (Ab T) ε T.B3 T.ly 6 ah))
  (!K (uB (jq qP (aM (KZ rfl) @G T.Sw Zb (!a5 7)) ah @bk) (wA (jq (P4 (K:=K) rfl c0) (!aR (mU T) ε T.oR T.g9 5 7) (!a3 Jz (cR (!Z ah))) @bk))))) bz)
  (ae (cX lI rfl (wz @G T.fh (!a9 ah (aM (K0 rfl) @G T.Sw Zb (!a9 ah (aM (KY rfl) @G T.Uq PyProof.Rows.boot_min (!a9 (!aa @a2) ah)))))) (aq (i:=8) p6.nd rfl @F) (ae (ax (i:=7) p6.nd rfl @F (ao (BD T) ε T.Es T.nE (aa (!aR (oE T) ε T.rg T.iW 0 8) (!a9 ah (!aa @ag)))))
  (ai (d7 (!X (P3 (K:=K) rfl c0) (ao (Ae T) ε T.B5 T.lD (!a9 (!V (pv 6)) (!aR (mU T) ε T.oR T.g9 5 7))) (av g6 (av Jz (cR (!Z ah)) (!V (pv 6))) (pC @c8 (pv 7) tG (tF (av mf ah (!V (pv 6))))))) (!K DK) bz))))
  (!K DK))))))),aw (σ':=[ak _,f',f',f',f',f',f',f',f']) rfl ?_⟩
 lia;refine⟨Y,ns,3,4,rfl,hS,@D,@D,λt i s u o H1 rs qs N s1 et hn g li ls lt lo=>?_⟩;have c4:=Same.seq s1 hS;lia;refine⟨i,s,u,o,rs,qs,N,rfl,hn,g,λH2 s2=>?_⟩;have c3:=s2.get hn.i;have ν:=Same.seq s2 c4;have fm:=vE g;have l5:=rG g;have eN:=zk N;lia;refine⟨nT N,rfl,fm,@A,by rw[eN];exact g,λn1 H5 od ξ s5 na=>?_⟩;rw[eN] at na;have tp:=na.tp;lia;refine⟨n1,N,od,rfl,na,λxm H6 nx os f6 s6 ma gm en eo=>?_⟩;have a8:=s5.trans s6;have i3:=Same.seq a8 ν;have Z:=a8.get c3;have b3:=na.same s6;have m0:nx.length=N.sts.length:=by have:=px zz en;rw[az,aI,aI] at this;exact this
 have l7:os.length=N.outs.length:=by have:=px zz eo;rw[az,aI] at this;exact this
 have hh:=El g tp;have c5:∀rs st,ran N st rs=M.wan @E @H st rs:=λrs st=>by rw[en,eo];exact Jg g tp hh rs st
 have η:nx.length<=4:=by omega
 have c2:os.length<=3:=by omega
 have i4:(nx.length + 1) * os.length < 64:=w2 (Wy (show nx.length + 1<=5 by omega) c2) @D;clear hn et c4 s1 hS ν s2 s5 ξ c3 na;lia;refine⟨xm,N.ins.length,nx,os,rfl,ma,gm,@A,i4,λH7 φ B S I L u7 bars a7 bq g5 α nv=>?_,fun φ τ D7 H7 d ζ f2 μs l4 f7 α e7 eD g4 g0 j4 j3 bk=>?_⟩
 ·have n3:=nv.ht;have a5:=b3.same α;lia;refine⟨H6,φ,B,S,I,L,u7,bars,a7,bq,g5,@E,@H,N.ins.length,rfl,nv,by rw[az];omega,@A,λD8 H8 f1 f8 ρ e8 l8 r8 b8 O=>?_⟩;have f4:=a5.same ρ;lia;refine Rp e8 @A λmx m3 h4=>?_;have m2:=h4 u7 (eH r8);have l2:=nv.u0;lia;rw[hE (show(0:Int) < (mx:Int) by omega)];lia;refine⟨n1,D8,N,od,f1,rfl,f4,e8,@A,b8,λD9 H9 f9 s9 e9=>?_⟩;rw[c5,O] at e9;lia;intro e6 l0 j1 ο π;have k4:=ο.get e9;lia;refine Po π @A @A (by rw[ix];decide) λe5 e4 j0 a4 G=>?_;have G:e4 e5=ak (!a7 (hC 20 0)):=by rw[G];rfl
  refine NZ (!ag (a4.get k4)) (!ag G) ?_;lia;exact q _
 ·have h6:=Same.seq α i3;have h5:=α.get Z;have a5:=b3.same α;lia;refine⟨_,_,rfl,?_⟩;refine⟨_,_,rfl,?_⟩;obtain⟨θ,hz,m1,χ⟩:∃θ:Int,(if min (((@ar).length:Nat):Int) 21 > 17 then min (((@ar).length:Nat):Int) 21 else 17)=θ/\17<=θ/\θ<=21:=⟨_,rfl,by split<;>omega,by split<;>omega⟩;refine⟨15,θ,by rw[<-hz],⟨@D,@D,@A,@A⟩,?_⟩;refine kB (lo:=15) (n:=(θ - 15).toNat) (λk σ H'=>∃v7 v8,σ=[ak (!j Y),ak (!j i),ak (!j s),ak (!j u),ak (!j o),ak (!j n1),ak (!j φ),v7,v8]/\Same H7 H') @di ?_ ?_
  ·rintro k σ H8 hk ⟨v7,v8,rfl,ρ⟩;have m5:=Same.seq ρ h6;have m4:=ρ.get h5;have k7:=ρ.get e7;lia;refine⟨_,20,N.ins.length,by rw[aI];rfl,@D,@A,λD9 H9 us f9 s9 e9 l9 b9=>?_⟩;have υ:=ρ.trans s9;have f3:=a5.same υ;have k6:=s9.get k7;have g3:=g4.same υ;lia;refine⟨n1,D9,N,od,us,rfl,f3,e9,@A,b9,λe6 l0 j1 ο π=>?_⟩;rw[c5] at π;lia;refine⟨τ,e6,os.length,ζ,f2,_,rfl,g3.same ο,g0,π,by rw[M.wan_len];omega,λy hy=>by have:=M.wan_lt @E @H us 0 y hy;rw[az] at this;exact this,λe5 e4 j0 a4 G=>?_⟩;have hd:d<=4:=by have:=bk.le;rw[az] at this;omega
   have ψ:∀q∈prs nx++prs os,q.1 < 2 ^ (@E).length:=λq' c1=>by
    rw[show prs nx++prs os=prs @b3 from(dt ..).symm] at c1;obtain⟨r,h0,rfl⟩:=hD.mp c1;rw[az];exact(gm.bn r h0).1
   have h3:(@E).length + @a4 * (@H).length<=1000:=by
    rw[az,az];have:=Wy (show d + 1<=5 by omega) c2;omega
   rw[j4,j3,M.told_back bk.mks ψ h3 (by rw[az];omega) @A b9,l9,XR,w5,Va (show(hC d 0).length<=20 by rw[w5];omega)] at G;have δ:=ο.trans a4;have e1:=δ.get k6;lia;intro o0 n7 ω a3 k8;have e0:=a3.get e1;have d1:=(δ.trans a3).get e9;lia;refine Po k8 @A @A (by rw[ix,lj];simp;omega) λl1 k9 n2 a0 a6=>?_;have a6:k9 l1=ak (!a7 (hC d 0)):=by rw[a6];simp
   have γ:=a0.get e0;have β:=a0.get d1;lia;intro n9 n6 n0 b0 e3;rw[show(20:Int) - (d:Int)=((20 - d:Nat):Int) by omega,AS _ _ (by rw[aI];omega),<-Z5] at e3;refine lH (b0.get a6) e3 (by rw[aI,aI,w5,pa];exact Vw @b6) λn8 n5 m7 f0 e2=>?_;rw[<-dt] at e2;have ι:=a3.trans (a0.trans (b0.trans f0));refine NZ (!ag (ι.get G)) (!ag e2) ?_;lia;exact⟨_,_,rfl,υ.trans (δ.trans ι)⟩
  ·rintro σ H8 ⟨v7,v8,rfl,ρ⟩;lia;exact q _
end
open PySem.W in
theorem all_mk {l:ac8} {w:z0} {K:Frag} {h:zx} {mg:F'} {fa:ee} (X:K.In h) (G:h.Ns z5 mg) (hfa:mg "law"=ak (!j fa)){gh i8 kJ xQ kK kG iL mY iM kI eh m9 fE bx bR bD aX cy bQ sM:ee}{yj:kk}{yi:Q'}{yh:Nat}{yg:K'}{qc:Tok}{yz zb:Q'}{yk:K'}{yA y3 y9 yq qr za:kk}{cA bS cB bO bY eE bZ xR kD nc m8 d9 cc fF dC kC d8 c9 dD cb gO cE bE du cQ bw cO cn bg bX bN eA eC fG eg c8 rh kF cx cw cv bP b4 cP bu iR kE iP iO gN kH cu gi cq fH rj iN iQ gP mZ gT iT gS fJ iS fM gR gQ fK fN:ee}{Sm Tj:Q'}{Rb:K'}{Sn SG Tb R4 OC Td:kk}{Hc ar:ee}(Li:NI K "Machine" ar){bF:ee}(QB:NI K "Steps" bF){sJ:ee}(Tq:NI K "Wire" sJ){a9:ee}(NB:NI K "InWire" a9){aU:ee}(Lh:NI K "SumWire" aU){aD:ee}(EL:NI K "StoreWire" aD){df:ee}(UB:NI K "Net" df){gG:ee}(UA:NI K "Run" gG)(Hz:NI K "is_whole" gh)(GZ:FR K "is_whole" "is_whole" tz gh)(Lf:NI K "is_mask" i8)(J9:FR K "is_mask" "is_mask" wy i8)(Le:NI K "is_name" kJ)(J8:FR K "is_name" "is_name" rD kJ)(To:NI K "even" xQ)(SE:FR K "even" "even" IY xQ)(Lg:NI K "bits_of" kK)(Ka:FR K "bits_of" "bits_of" rF kK)(Lb:NI K "mask_of" kG)(J5:FR K "mask_of" "mask_of" wu kG)(Ht:NI K "words_of" iL)(GT:FR K "words_of" "words_of" tj iL)(Nv:NI K "packed" mY)(MT:FR K "packed" "packed" zX mY)(Hu:NI K "unpacked" iM)(GU:FR K "unpacked" "unpacked" pf iM)(Ld:NI K "is_pair" kI)(J7:FR K "is_pair" "is_pair" wx kI)(A4:NI K "check_table" eh)(Az:FR K "check_table" "check_table" jC eh)(Ny:NI K "is_odd" m9)(MW:FR K "is_odd" "is_odd" zZ m9)(CM:NI K "odd_places" fE)(BM:FR K "odd_places" "odd_places" kP fE)(ES:FI K ar "__init__" bx)(sg:FR K "__init__" "Machine.__init__" h9 bx)(HN:FI K ar "stores" bR)(vt:FR K "stores" "Machine.stores" jl bR)(FM:FI K ar "outputs" bD)(ug:FR K "outputs" "Machine.outputs" iF bD)(Bc:FI K ar "check_state" aX)(oN:FR K "check_state" "Machine.check_state" fu aX)(LB:FI K ar "step" cy)(yY:FR K "step" "Machine.step" lP cy)(HM:FI K ar "walked" bQ)(vq:FR K "walked" "Machine.walked" jk bQ)(LL:FI K ar "run" cA)(AE:K.lookup cA=ak ⟨yA,yz,.func (fnOf "run" "Machine.run" (iU fY) (fO fY) (ag fY) (!j sM) y3 y9 yq zb qr za),yk⟩)(yP:K.lookup sM=ak ⟨yj,yi,.seq #[.int 0 qc] yh,yg⟩)(AY:codeIn K qr "Machine.run"=true)(rN:!bp cA)(HP:FI K ar "single" bS)(vv:FR K "single" "Machine.single" jm bS)(LC:FI K ar "back" cB)(yZ:FR K "back" "Machine.back" lQ cB)(HK:FI K bF "__init__" bO)(vo:FR K "__init__" "Steps.__init__" jh bO)(HX:FI K bF "lowered" bY)(xD:FR K "lowered" "Steps.lowered" j5 bY)(OP:FI K bF "lay" eE)(Ej:FR K "lay" "Steps.lay" qK eE)(HY:FI K bF "barring" bZ)(xE:FR K "barring" "Steps.barring" j6 bZ)(Tp:NI K "base" xR)(SF:FR K "base" "base" Jb xR)(K8:NI K "sum_for" kD)(J2:FR K "sum_for" "sum_for" wo kD)(Nz:NI K "across" nc)(MX:FR K "across" "across" vD nc)(Nx:NI K "joined" m8)(MV:FR K "joined" "joined" zY m8)(A2:NI K "silent_ways" d9)(Ax:FR K "silent_ways" "silent_ways" d4 d9)(uw:NI K "silent_for_ever" cc)(uf:FR K "silent_for_ever" "silent_for_ever" fW cc)(CN:NI K "never_told" fF)(BN:FR K "never_told" "never_told" d2 fF)(zc:NI K "sign_answers" dC)(yQ:FR K "sign_answers" "sign_answers" gE dC)(K7:NI K "tellers" kC)(J1:FR K "tellers" "tellers" wm kC)(A1:NI K "teller_pair" d8)(Aw:FR K "teller_pair" "teller_pair" h7 d8)(ye:NI K "followed_pair" c9)(xA:FR K "followed_pair" "followed_pair" jX c9)(zd:NI K "kept_answers" dD)(yR:FR K "kept_answers" "kept_answers" gF dD)(uv:NI K "telling_machine" cb)(ue:FR K "telling_machine" "telling_machine" dO cb)(EF:NI K "told_back" gO)(Ed:FR K "told_back" "told_back" qF gO)(HV:FI K sJ "__init__" cE)(xB:FR K "__init__" "Wire.__init__" jZ cE)(FO:FI K a9 "__init__" bE)(uh:FR K "__init__" "InWire.__init__" iG bE)(NM:FI K a9 "bit" du)(BV:FR K "bit" "InWire.bit" oB du)(LM:FI K a9 "hang" cQ)(AF:FR K "hang" "InWire.hang" mR cQ)(ER:FI K aU "__init__" bw)(sf:FR K "__init__" "SumWire.__init__" h8 bw)(LJ:FI K aU "bit" cO)(AC:FR K "bit" "SumWire.bit" mP cO)(Lu:FI K aU "hang" cn)(yS:FR K "hang" "SumWire.hang" lJ cn)(C1:FI K aD "__init__" bg)(pZ:FR K "__init__" "StoreWire.__init__" gy bg)(HW:FI K aD "bit" bX)(xC:FR K "bit" "StoreWire.bit" j2 bX)(HJ:FI K aD "hang" bN)(vn:FR K "hang" "StoreWire.hang" jg bN)(A5:NI K "check_sizes" eA)(AA:FR K "check_sizes" "check_sizes" jD eA)(A6:NI K "check_names" eC)(AB:FR K "check_names" "check_names" mO eC)(CO:NI K "check_wire" fG)(BO:FR K "check_wire" "check_wire" ou fG)(A3:NI K "check_wires" eg)(Ay:FR K "check_wires" "check_wires" mM eg)(yd:NI K "wires_by_name" c8)(xy:FR K "wires_by_name" "wires_by_name" cV c8)(Qz:NI K "waits" rh)(Qh:FR K "waits" "waits" zW rh)(La:NI K "ordered" kF)(J4:FR K "ordered" "ordered" oq kF)(Lz:FI K df "__init__" cx)(yX:FR K "__init__" "Net.__init__" dy cx)(Ly:FI K df "in_names" cw)(yW:FR K "in_names" "Net.in_names" lO cw)(Lx:FI K df "sum_rows" cv)(yV:FR K "sum_rows" "Net.sum_rows" lM cv)(HL:FI K df "store_rows" bP)(vp:FR K "store_rows" "Net.store_rows" ji bP)(HZ:FI K df "out_wires" b4)(xF:FR K "out_wires" "Net.out_wires" j7 b4)(LK:FI K df "wire_of" cP)(AD:FR K "wire_of" "Net.wire_of" mQ cP)(C4:FI K df "names_by_need" bu)(qY:FR K "names_by_need" "Net.names_by_need" d5 bu)(HA:NI K "has_form" iR)(G0:FR K "has_form" "has_form" pj iR)(K9:NI K "rows_of" kE)(J3:FR K "rows_of" "rows_of" wt kE)(Hx:NI K "read_net" iP)(GX:FR K "read_net" "read_net" gY iP)(Hw:NI K "show_net" iO)(GW:FR K "show_net" "show_net" gX iO)(EE:NI K "turn_bits" gN)(Ec:FR K "turn_bits" "turn_bits" qD gN)(Lc:NI K "mask_at" kH)(J6:FR K "mask_at" "mask_at" rC kH)(Lw:FI K gG "__init__" cu)(yU:FR K "__init__" "Run.__init__" lL cu)(QJ:FI K gG "step" gi)(G3:FR K "step" "Run.step" pq gi)(Lv:FI K gG "answered" cq)(yT:FR K "answered" "Run.answered" lK cq)(CP:NI K "answers_of" fH)(BP:FR K "answers_of" "answers_of" ox fH)(QA:NI K "hangs" rj)(Qi:FR K "hangs" "hangs" DB rj)(Hv:NI K "table_of" iN)(GV:FR K "table_of" "table_of" me iN)(Hy:NI K "numbered" iQ)(GY:FR K "numbered" "numbered" ph iQ)(EG:NI K "named_sum" gP)(Ee:FR K "named_sum" "named_sum" jV gP)(Nw:NI K "net_of" mZ)(MU:FR K "net_of" "net_of" vC mZ)(EK:NI K "_law_cell" gT)(Ei:FR K "_law_cell" "_law_cell" qJ gT)(HC:NI K "_law_mix" iT)(G2:FR K "_law_mix" "_law_mix" tE iT)(EJ:NI K "_law_name" gS)(Eh:FR K "_law_name" "_law_name" qI gS)(CQ:NI K "_law_wires" fJ)(BQ:FR K "_law_wires" "_law_wires" kQ fJ)(HB:NI K "_law_net" iS)(G1:FR K "_law_net" "_law_net" jQ iS)(CV:NI K "_law_masks" fM)(BS:FR K "_law_masks" "_law_masks" oz fM)(EI:NI K "_law_rows" gR)(Eg:FR K "_law_rows" "_law_rows" qH gR)(EH:NI K "_law_text" gQ)(Ef:FR K "_law_text" "_law_text" iE gQ)(CU:NI K "_law_ruled" fK)(BR:FR K "_law_ruled" "_law_ruled" oy fK)(CW:NI K "_law_heard" fN)(BU:FR K "_law_heard" "_law_heard" oA fN)(Uz:NI K "law" Hc)(Us:K.lookup Hc=ak ⟨Sn,Sm,.func (fnOf "law" "law" (iU Gj) (fO Gj) (ag Gj) .none SG Tb R4 Tj OC Td),Rb⟩)(Ux:codeIn K OC "law"=true)(Ul:!bp Hc)(Gy:plainGet K ar Xs=true)(Gw:hasDictIn K ar=true)(Gu:plainOver K ar=true)(Gr:findIn K (!j ar) "__setattr__"=ak (ak @bp))(Hl:makesIn K ar=true)(Hj:FI K ar "__init__" bx)(Hh:!ae bx)(Hf:!bp ar)(uc:FI K ar "stores" bR)(tX:!ae bR)(se:FI K ar "outputs" bD)(r9:!ae bD)(nV:FI K ar "check_state" aX)(nU:!ae aX)(xq:FI K ar "step" cy)(xh:!ae cy)(ub:FI K ar "walked" bQ)(tW:!ae bQ)(yN:FI K ar "run" cA)(yJ:!ae cA)(ud:FI K ar "single" bS)(tY:!ae bS)(xr:FI K ar "back" cB)(xi:!ae cB)(uY:FN K ar "inputs")(wV:FN K ar "nexts")(yD:FN K ar "outs")(MB:plainGet K bF Xs=true)(MA:hasDictIn K bF=true)(Mz:plainOver K bF=true)(Mx:findIn K (!j bF) "__setattr__"=ak (ak @bp))(Nk:makesIn K bF=true)(Nj:FI K bF "__init__" bO)(Ni:!ae bO)(Nh:!bp bF)(vj:FI K bF "lowered" bY)(vf:!ae bY)(BJ:FI K bF "lay" eE)(BI:!ae eE)(vk:FI K bF "barring" bZ)(vg:!ae bZ)(yC:FN K bF "by_top")(qU:FN K bF "free_places")(rT:FN K bF "null_masks")(Jp:plainGet K a9 Xs=true)(Jn:hasDictIn K a9=true)(Jm:plainOver K a9=true)(Jl:findIn K (!j a9) "__setattr__"=ak (ak @bp))(KI:makesIn K a9=true)(KH:FI K a9 "__init__" bE)(KG:!ae bE)(KF:!bp a9)(Av:FI K a9 "bit" du)(Au:!ae du)(yO:FI K a9 "hang" cQ)(yK:!ae cQ)(Ah:FN K a9 "name")(wW:FN K a9 "number")(Gx:plainGet K aU Xs=true)(Gv:hasDictIn K aU=true)(Gs:plainOver K aU=true)(Gq:findIn K (!j aU) "__setattr__"=ak (ak @bp))(Hk:makesIn K aU=true)(Hi:FI K aU "__init__" bw)(Hg:!ae bw)(He:!bp aU)(yL:FI K aU "bit" cO)(yH:!ae cO)(xj:FI K aU "hang" cn)(w9:!ae cn)(yB:FN K aU "name")(wR:FN K aU "wires")(Br:plainGet K aD Xs=true)(Bq:hasDictIn K aD=true)(Bp:plainOver K aD=true)(Bo:findIn K (!j aD) "__setattr__"=ak (ak @bp))(Cf:makesIn K aD=true)(Ce:FI K aD "__init__" bg)(Cd:!ae bg)(Cc:!bp aD)(vi:FI K aD "bit" bX)(ve:!ae bX)(tZ:FI K aD "hang" bN)(tU:!ae bN)(uX:FN K aD "name")(rS:FN K aD "number")(uW:FN K aD "wire")(R1:plainGet K df Xs=true)(RY:hasDictIn K df=true)(RW:plainOver K df=true)(RU:findIn K (!j df) "__setattr__"=ak (ak @bp))(S6:makesIn K df=true)(S4:FI K df "__init__" cx)(S2:!ae cx)(S0:!bp df)(xp:FI K df "in_names" cw)(xg:!ae cw)(xl:FI K df "sum_rows" cv)(xc:!ae cv)(t6:FI K df "store_rows" bP)(tV:!ae bP)(vm:FI K df "out_wires" b4)(vh:!ae b4)(yM:FI K df "wire_of" cP)(yI:!ae cP)(pX:FI K df "names_by_need" bu)(pW:!ae bu)(Ag:FN K df "by_name")(JM:FN K df "ins")(tO:FN K df "kept_stores")(GM:FN K df "outs")(wU:FN K df "sum_order")(GL:FN K df "sums")(RZ:plainGet K gG Xs=true)(RX:hasDictIn K gG=true)(RV:plainOver K gG=true)(RT:findIn K (!j gG) "__setattr__"=ak (ak @bp))(S5:makesIn K gG=true)(S3:FI K gG "__init__" cu)(S1:!ae cu)(SZ:!bp gG)(D0:FI K gG "step" gi)(DZ:!ae gi)(xk:FI K gG "answered" cq)(xa:!ae cq)(GK:FN K gG "bits")(DT:FN K gG "given")(GJ:FN K gG "held")(JL:FN K gG "net"){yb:ee}(Tr:NI K "TooMany" yb){eQ:ee}(Lk:NI K "BadMask" eQ){jS:ee}(HE:NI K "BadTable" jS)(jU:excIn K eQ [.type "ValueError",.type "Exception",.type "BaseException",.type "object"] "ValueError.__new__"=true)(gW:excIn K jS [.type "ValueError",.type "Exception",.type "BaseException",.type "object"] "ValueError.__new__"=true)(uO:specialIn K (!j sJ) "__getattribute__"=ak (ak @dr))(uN:readsIn K sJ @bS=true)(uM:findCls K (!j sJ) @bS "__init__"=ak (.val (!j cE))){vU:Tok}(Lj:nsIn K z5 "LETTERS"=ak (ak (.str "abcdefghijklmnopqrstuvwxyz" vU))){lF:Tok}(ze:nsIn K z5 "LONGEST_NAME"=ak (ak (.int 6 lF))){mJ:Tok}(A7:nsIn K z5 "MOST_INPUTS"=ak (ak (.int 6 mJ))){sV:Tok}(HD:nsIn K z5 "MOST_INS"=ak (ak (.int 6 sV))){gw:Tok}(p5:nsIn K z5 "MOST_OUTS_machines"=ak (ak (.int 6 gw))){jf:Tok}(vx:nsIn K z5 "MOST_OUTS_nets"=ak (ak (.int 6 jf))){eZ:Tok}(nX:nsIn K z5 "MOST_STORES_machines"=ak (ak (.int 120 eZ))){hU:Tok}(sL:nsIn K z5 "MOST_STORES_nets"=ak (ak (.int 16 hU))){qx:Tok}(EM:nsIn K z5 "MOST_SUMS"=ak (ak (.int 40 qx))){oa:Tok}(CZ:nsIn K z5 "MOST_WIRES"=ak (ak (.int 24 oa))){nZ:Tok}(CY:nsIn K z5 "NAME_SIGNS"=ak (ak (.str "abcdefghijklmnopqrstuvwxyz0123456789" nZ)))(TN:NN K "all")(TM:NN K "any")(QO:NN K "bool")(QN:NN K "dict")(C2:NN K "enumerate")(TL:NN K "int")(Bb:NN K "isinstance")(TK:NN K "len")(QM:NN K "list")(TJ:NN K "max")(TH:NN K "min")(OJ:NN K "range")(FL:NN K "reversed")(LG:NN K "sorted")(TF:NN K "str")(OI:NN K "tuple")(TC:NN K "zip"):∃fd:hM,(∀(s:kb) (v:kk),BindsTo s fd ⟨[v],[]⟩ [("_law_script",v)])/\∀base:zx,K.In base->base.Ns z5 mg->FnOk l.prog w K mg base CX0 14 fa fd ["_law_script"] (EY K):=by
 have e:=hfa.symm.trans (!I Uz);cases e;obtain⟨_,jT⟩:=GZ.ok (ps:=["thing"]) @M;obtain⟨_,jc⟩:=J9.ok (ps:=["thing","width"]) @M;obtain⟨_,jb⟩:=J8.ok (ps:=["thing"]) @M;obtain⟨_,zI⟩:=SE.ok (ps:=["number"]) @M;obtain⟨_,iw⟩:=Ka.ok (ps:=["mask"]) @M;obtain⟨_,mE⟩:=J5.ok (ps:=["places"]) @M;obtain⟨_,pL⟩:=GT.ok (ps:=["row"]) @M;obtain⟨_,vO⟩:=MT.ok (ps:=["masks","width"]) @M;obtain⟨_,mB⟩:=GU.ok (ps:=["whole","width","count"]) @M;obtain⟨_,sR⟩:=J7.ok (ps:=["thing","stores","inputs"]) @M;obtain⟨_,jJ⟩:=Az.ok (ps:=["inputs","nexts","outs"]) @M;obtain⟨_,vQ⟩:=MW.ok (ps:=["pair","state","row"]) @M;obtain⟨_,ja⟩:=BM.ok (ps:=["pairs","state","row"]) @M;obtain⟨_,dw⟩:=sg.ok (ps:=["self","inputs","nexts","outs"]) @M;obtain⟨_,bh⟩:=vt.ok (ps:=["self"]) @M;obtain⟨_,bG⟩:=ug.ok (ps:=["self"]) @M;obtain⟨_,bC⟩:=oN.ok (ps:=["self","state"]) @M;obtain⟨_,dG⟩:=yY.ok (ps:=["self","state","row"]) @M;obtain⟨_,eU⟩:=vq.ok (ps:=["self","rows","state"]) @M;have iz:=Qo (st:=fY) AE yP AY rN;have b_Machine_run:=iz.binds (ps:=["self","rows","state"]) (ds:=[]) λ_ _ _ _ _ _ _ us hl=>match us,hl with | [_,_,_],_=>⟨_,rfl,rfl⟩
 have jM:=iz.binds (ps:=["self","rows","state"]) (ds:=[.int 0 qc]) λ_ _ _ _ _ _ _ us hl=>match us,(show us.length=2 by simpa using hl) with | [_,_],_=>⟨_,rfl,rfl⟩
 obtain⟨_,eV⟩:=vv.ok (ps:=["self","which","turns"]) @M;obtain⟨_,dH⟩:=yZ.ok (ps:=["self","mask"]) @M;obtain⟨_,dk⟩:=vo.ok (ps:=["self","rows"]) @M;obtain⟨_,dX⟩:=xD.ok (ps:=["self","mask"]) @M;obtain⟨_,kM⟩:=Ej.ok (ps:=["self","place","row"]) @M;obtain⟨_,dY⟩:=xE.ok (ps:=["self","bit"]) @M;obtain⟨_,FK⟩:=SF.ok (ps:=["rows"]) @M;obtain⟨_,mC⟩:=J2.ok (ps:=["rows","wish"]) @M;obtain⟨_,pQ⟩:=MX.ok (ps:=["rows","width"]) @M;obtain⟨_,sQ⟩:=MV.ok (ps:=["pair","stores"]) @M;obtain⟨_,ir⟩:=Ax.ok (ps:=["machine","bars"]) @M;obtain⟨_,gu⟩:=uf.ok (ps:=["machine"]) @M;obtain⟨_,lg⟩:=BN.ok (ps:=["machine"]) @M;obtain⟨_,i0⟩:=yQ.ok (ps:=["machine","turns"]) @M;obtain⟨_,o7⟩:=J1.ok (ps:=["machine","delay"]) @M;obtain⟨_,jH⟩:=Aw.ok (ps:=["machine","delay","mask"]) @M;obtain⟨_,iu⟩:=xA.ok (ps:=["pair","tellings"]) @M;obtain⟨_,i5⟩:=yR.ok (ps:=["machine","delay"]) @M;obtain⟨_,gq⟩:=ue.ok (ps:=["machine","delay","masks"]) @M;obtain⟨_,nu⟩:=Ed.ok (ps:=["machine"]) @M;obtain⟨_,dc⟩:=xB.ok (ps:=["self","name"]) @M;obtain⟨_,gv⟩:=uh.ok (ps:=["self","name","number"]) @M;obtain⟨_,je⟩:=BV.ok (ps:=["self","known","row","state"]) @M;obtain⟨_,iA⟩:=AF.ok (ps:=["self","known"]) @M;obtain⟨_,fo⟩:=sf.ok (ps:=["self","name","wires"]) @M;obtain⟨_,iy⟩:=AC.ok (ps:=["self","known","row","state"]) @M;obtain⟨_,gH⟩:=yS.ok (ps:=["self","known"]) @M;obtain⟨_,dI⟩:=pZ.ok (ps:=["self","name","wire","number"]) @M;obtain⟨_,fQ⟩:=xC.ok (ps:=["self","known","row","state"]) @M;obtain⟨_,eR⟩:=vn.ok (ps:=["self","known"]) @M;obtain⟨_,jK⟩:=AA.ok (ps:=["ins","sums","stores","outs"]) @M;obtain⟨_,jL⟩:=AB.ok (ps:=["names"]) @M;obtain⟨_,fP⟩:=BO.ok (ps:=["wire","known"]) @M;obtain⟨_,jI⟩:=Ay.ok (ps:=["sums","stores","outs","known"]) @M;obtain⟨_,iq⟩:=xy.ok (ps:=["ins","sums","stores"]) @M;obtain⟨_,yf⟩:=Qh.ok (ps:=["row","waiting"]) @M;obtain⟨_,sP⟩:=J4.ok (ps:=["sums"]) @M;obtain⟨_,gK⟩:=yX.ok (ps:=["self","ins","sums","stores","outs"]) @M;obtain⟨_,dF⟩:=yW.ok (ps:=["self"]) @M;obtain⟨_,gJ⟩:=yV.ok (ps:=["self"]) @M;obtain⟨_,cK⟩:=vp.ok (ps:=["self"]) @M;obtain⟨_,de⟩:=xF.ok (ps:=["self"]) @M;obtain⟨_,cC⟩:=AD.ok (ps:=["self","name"]) @M;obtain⟨_,cj⟩:=qY.ok (ps:=["self"]) @M;obtain⟨_,pP⟩:=G0.ok (ps:=["words"]) @M;obtain⟨_,sO⟩:=J3.ok (ps:=["text"]) @M;obtain⟨_,mD⟩:=GX.ok (ps:=["text"]) @M;obtain⟨_,pN⟩:=GW.ok (ps:=["net"]) @M;obtain⟨_,nq⟩:=Ec.ok (ps:=["net","row","state"]) @M;obtain⟨_,o8⟩:=J6.ok (ps:=["wires","bits"]) @M;obtain⟨_,i6⟩:=yU.ok (ps:=["self","net"]) @M;obtain⟨_,mF⟩:=G3.ok (ps:=["self","row"]) @M;obtain⟨_,gI⟩:=yT.ok (ps:=["self"]) @M;obtain⟨_,g9⟩:=BP.ok (ps:=["net","rows"]) @M;obtain⟨_,A9⟩:=Qi.ok (ps:=["net"]) @M;obtain⟨_,pM⟩:=GV.ok (ps:=["net"]) @M;obtain⟨_,iV⟩:=GY.ok (ps:=["letter","count"]) @M;obtain⟨_,ny⟩:=Ee.ok (ps:=["name","pair"]) @M;obtain⟨_,vP⟩:=MU.ok (ps:=["machine"]) @M;obtain⟨_,iW⟩:=Ei.ok (ps:=["_law_script","_law_k"]) @M;obtain⟨_,bU⟩:=G2.ok (ps:=["_law_cell_here","_law_k"]) @M;obtain⟨_,gU⟩:=Eh.ok (ps:=["_law_cell_here","_law_k"]) @M;obtain⟨_,lh⟩:=BQ.ok (ps:=["_law_cell_here","_law_start","_law_names","_law_digits"]) @M;obtain⟨_,pR⟩:=G1.ok (ps:=["_law_script","_law_start","_law_most"]) @M;obtain⟨_,lC⟩:=BS.ok (ps:=["_law_cell_here","_law_start","_law_many","_law_width","_law_digits"]) @M;obtain⟨_,nE⟩:=Eg.ok (ps:=["_law_cell_here","_law_many","_law_width"]) @M;obtain⟨_,nC⟩:=Ef.ok (ps:=["_law_ins","_law_sums","_law_stores","_law_outs"]) @M;obtain⟨_,ly⟩:=BR.ok (ps:=["_law_found","_law_turns"]) @M;obtain⟨_,lD⟩:=BU.ok (ps:=["_law_other","_law_answers"]) @M;have NF:=On (st:=Gj) Us Ux Ul;have b_law:=NF.binds (ps:=["_law_script"]) λ_ _ _ _ _ _ us hl=>match us,hl with | [_],_=>rfl
 have T:Tx K mg ⟨gh,_,i8,_,kJ,_,xQ,_,kK,_,kG,_,iL,_,mY,_,iM,_,kI,_,eh,_,m9,_,fE,_,bx,_,bR,_,bD,_,aX,_,cy,_,bQ,_,cA,_,_,bS,_,cB,_,bO,_,bY,_,eE,_,bZ,_,xR,_,kD,_,nc,_,m8,_,d9,_,cc,_,fF,_,dC,_,kC,_,d8,_,c9,_,dD,_,cb,_,gO,_,cE,_,bE,_,du,_,cQ,_,bw,_,cO,_,cn,_,bg,_,bX,_,bN,_,eA,_,eC,_,fG,_,eg,_,c8,_,rh,_,kF,_,cx,_,cw,_,cv,_,bP,_,b4,_,cP,_,bu,_,iR,_,kE,_,iP,_,iO,_,gN,_,kH,_,cu,_,gi,_,cq,_,fH,_,rj,_,iN,_,iQ,_,gP,_,mZ,_,gT,_,iT,_,gS,_,fJ,_,iS,_,fM,_,gR,_,gQ,_,fK,_,fN,_,fa,_,ar,bF,sJ,a9,aU,aD,df,gG,yb,eQ,jS,_,_,_,_,_,_,_,_,_,_,_⟩:=⟨jT,!I Hz,jc,!I Lf,jb,!I Le,zI,!I To,iw,!I Lg,mE,!I Lb,pL,!I Ht,vO,!I Nv,mB,!I Hu,sR,!I Ld,jJ,!I A4,vQ,!I Ny,ja,!I CM,dw,bh,bG,bC,dG,eU,iz,jM,⟨_,rfl⟩,eV,dH,dk,dX,kM,dY,FK,!I Tp,mC,!I K8,pQ,!I Nz,sQ,!I Nx,ir,!I A2,gu,!I uw,lg,!I CN,i0,!I zc,o7,!I K7,jH,!I A1,iu,!I ye,i5,!I zd,gq,!I uv,nu,!I EF,dc,gv,je,iA,fo,iy,gH,dI,fQ,eR,jK,!I A5,jL,!I A6,fP,!I CO,jI,!I A3,iq,!I yd,yf,!I Qz,sP,!I La,gK,dF,gJ,cK,de,cC,cj,pP,!I HA,sO,!I K9,mD,!I Hx,pN,!I Hw,nq,!I EE,o8,!I Lc,i6,mF,gI,g9,!I CP,A9,!I QA,pM,!I Hv,iV,!I Hy,ny,!I EG,vP,!I Nw,iW,!I EK,bU,!I HC,gU,!I EJ,lh,!I CQ,pR,!I HB,lC,!I CV,nE,!I EI,nC,!I EH,ly,!I CU,lD,!I CW,NF,!I Li,⟨Gy,Gw,Gu,Gr⟩,⟨Hl,Hj,Hh,Hf⟩,⟨uc,tX,bh.1.2⟩,⟨se,r9,bG.1.2⟩,⟨nV,nU,bC.1.2⟩,⟨xq,xh,dG.1.2⟩,⟨ub,tW,eU.1.2⟩,⟨yN,yJ,rN⟩,⟨ud,tY,eV.1.2⟩,⟨xr,xi,dH.1.2⟩,uY,wV,yD,!I QB,⟨MB,MA,Mz,Mx⟩,⟨Nk,Nj,Ni,Nh⟩,⟨vj,vf,dX.1.2⟩,⟨BJ,BI,kM.1.2⟩,⟨vk,vg,dY.1.2⟩,yC,qU,rT,!I Tq,!I NB,⟨Jp,Jn,Jm,Jl⟩,⟨KI,KH,KG,KF⟩,⟨Av,Au,je.1.2⟩,⟨yO,yK,iA.1.2⟩,Ah,wW,!I Lh,⟨Gx,Gv,Gs,Gq⟩,⟨Hk,Hi,Hg,He⟩,⟨yL,yH,iy.1.2⟩,⟨xj,w9,gH.1.2⟩,yB,wR,!I EL,⟨Br,Bq,Bp,Bo⟩,⟨Cf,Ce,Cd,Cc⟩,⟨vi,ve,fQ.1.2⟩,⟨tZ,tU,eR.1.2⟩,uX,rS,uW,!I UB,⟨R1,RY,RW,RU⟩,⟨S6,S4,S2,S0⟩,⟨xp,xg,dF.1.2⟩,⟨xl,xc,gJ.1.2⟩,⟨t6,tV,cK.1.2⟩,⟨vm,vh,de.1.2⟩,⟨yM,yI,cC.1.2⟩,⟨pX,pW,cj.1.2⟩,Ag,JM,tO,GM,wU,GL,!I UA,⟨RZ,RX,RV,RT⟩,⟨S5,S3,S1,SZ⟩,⟨D0,DZ,mF.1.2⟩,⟨xk,xa,gI.1.2⟩,GK,DT,GJ,JL,⟨uO,uN,uM,@G,dc.1.2⟩,!I Lk,jU,!I HE,gW,!I Lj,!I ze,!I A7,!I HD,!I p5,!I vx,!I nX,!I sL,!I EM,!I CZ,!I CY,Vi X G TN,Vi X G TM,Vi X G QO,Vi X G QN,Vi X G C2,Vi X G TL,Vi X G Bb,Vi X G TK,Vi X G QM,Vi X G TJ,Vi X G TH,Vi X G OJ,Vi X G FL,Vi X G LG,Vi X G TF,Vi X G OI,Vi X G TC⟩;exact⟨_,λs v=> .of_eq rfl,λbase _ _=>Sj T⟩
open PySem.W in
theorem walk {l:ac8} {q:pT} {loose:C'} {XP:F'->zx->Prop} {YP:z0->zx->Prop} {d:DefRec} {K:Params->Frag} (hn:l.most=ak 63) (hdf:d.params.defaults=[])
  (hY:∀(w:z0) (h:zx),YP w h->(@bi).In h)
  (F:∀(w:z0) (mg:F') (fa:ee) (h:zx),(@bi).In h->h.Ns z5 mg->mg d.name=ak (!j fa)->
   ∃fd:hM,(∀(s:kb) (u:kk),BindsTo s fd ⟨[u],[]⟩ [("_law_script",u)])/\∀base:zx,(@bi).In base->base.Ns z5 mg->FnOk l.prog w @bi mg base CX0 14 fa fd ["_law_script"] (EY @bi)):
  WalkO q loose XP YP l.row.toRowW d [] (λf vs=>ab4 f vs):=
 L2.walk_of (n:=63) (k:=14) (x:="_law_script") (CX:=λ_=>CX0) (sp:=λw=>EY @bi) hn @D hdf ⟨rfl,@D,@D⟩ hY F (λ_ _ a ns hl _ hS=>⟨a,ns,rfl,hS,hl,λ_=>rfl⟩) λ_ _ _ _ _ z=>z
end My
namespace PySem.W.Fast
theorem tw10022644753082213217:True:=⟨⟩
theorem tw10049694801619723146:True:=⟨⟩
theorem tw10063352915321395890:True:=⟨⟩
theorem tw10071472082898085643:True:=⟨⟩
theorem tw10084665921149521214:True:=⟨⟩
theorem tw10220201591932692212:True:=⟨⟩
theorem tw10226521231995782938:True:=⟨⟩
theorem tw1022909169052238943:True:=⟨⟩
theorem tw10256670277015169674:True:=⟨⟩
theorem tw10259933719184934346:True:=⟨⟩
theorem tw1026710786435212744:True:=⟨⟩
theorem tw10269674411163923531:True:=⟨⟩
theorem tw10297484997790198342:True:=⟨⟩
theorem tw10300675356407411231:True:=⟨⟩
theorem tw10343810968932175738:True:=⟨⟩
theorem tw10355851653391675565:True:=⟨⟩
theorem tw104202717877658556:True:=⟨⟩
theorem tw1042123137299246616:True:=⟨⟩
theorem tw10425113691221175934:True:=⟨⟩
theorem tw10435282169539431172:True:=⟨⟩
theorem tw1049195083837173586:True:=⟨⟩
theorem tw10492215239616742143:True:=⟨⟩
theorem tw10499548772672793974:True:=⟨⟩
theorem tw10586935876013781398:True:=⟨⟩
theorem tw10619579748315461507:True:=⟨⟩
theorem tw1065536968524731955:True:=⟨⟩
theorem tw1068758701583161221:True:=⟨⟩
theorem tw1073699688630455307:True:=⟨⟩
theorem tw10746423108642963390:True:=⟨⟩
theorem tw10750000009026645537:True:=⟨⟩
theorem tw10805925701049699650:True:=⟨⟩
theorem tw10839617726054047069:True:=⟨⟩
theorem tw10929940402520766583:True:=⟨⟩
theorem tw10947947173448696166:True:=⟨⟩
theorem tw10969350055319248025:True:=⟨⟩
theorem tw10994002454782089702:True:=⟨⟩
theorem tw11047262494673139239:True:=⟨⟩
theorem tw11233957072686115993:True:=⟨⟩
theorem tw11272199020784995044:True:=⟨⟩
theorem tw11282261596837736315:True:=⟨⟩
theorem tw11286043565899358509:True:=⟨⟩
theorem tw1137176653874279442:True:=⟨⟩
theorem tw11419483553612346863:True:=⟨⟩
theorem tw11441879542111032841:True:=⟨⟩
theorem tw11453175521922715024:True:=⟨⟩
theorem tw11483698764661875335:True:=⟨⟩
theorem tw11484971527847803356:True:=⟨⟩
theorem tw1149817850169541235:True:=⟨⟩
theorem tw11506947593391191756:True:=⟨⟩
theorem tw11515154624053572312:True:=⟨⟩
theorem tw11541842349386340239:True:=⟨⟩
theorem tw11547135954315506226:True:=⟨⟩
theorem tw11553313694105036390:True:=⟨⟩
theorem tw11564798045977966812:True:=⟨⟩
theorem tw11618129153820861774:True:=⟨⟩
theorem tw11629327481790136945:True:=⟨⟩
theorem tw11704842738224043109:True:=⟨⟩
theorem tw11756764742550813996:True:=⟨⟩
theorem tw11758577602737426049:True:=⟨⟩
theorem tw11787529139140903780:True:=⟨⟩
theorem tw11803970717304826509:True:=⟨⟩
theorem tw11849567980079393091:True:=⟨⟩
theorem tw11896400957299032768:True:=⟨⟩
theorem tw11899071938722613412:True:=⟨⟩
theorem tw11922007141445902565:True:=⟨⟩
theorem tw11951904555780067559:True:=⟨⟩
theorem tw11983569737077240053:True:=⟨⟩
theorem tw12030560152522134348:True:=⟨⟩
theorem tw12036944437276646445:True:=⟨⟩
theorem tw12048340090111950700:True:=⟨⟩
theorem tw12065959397483314455:True:=⟨⟩
theorem tw12072173893921826343:True:=⟨⟩
theorem tw12072753727620840935:True:=⟨⟩
theorem tw12152702611319481516:True:=⟨⟩
theorem tw1216793055140114471:True:=⟨⟩
theorem tw12211461872247712538:True:=⟨⟩
theorem tw12232612125267317059:True:=⟨⟩
theorem tw12250610108113659433:True:=⟨⟩
theorem tw12255497989745753212:True:=⟨⟩
theorem tw1228345221225699576:True:=⟨⟩
theorem tw12346584144100698139:True:=⟨⟩
theorem tw12367768499659592466:True:=⟨⟩
theorem tw12399492155066291426:True:=⟨⟩
theorem tw12430923272293635256:True:=⟨⟩
theorem tw1243349240773510710:True:=⟨⟩
theorem tw12452663338189413982:True:=⟨⟩
theorem tw1249214324796295528:True:=⟨⟩
theorem tw12497742185534682724:True:=⟨⟩
theorem tw12537200740936856604:True:=⟨⟩
theorem tw12579605174771738781:True:=⟨⟩
theorem tw12588137322304091562:True:=⟨⟩
theorem tw12594623023195503946:True:=⟨⟩
theorem tw12615192681493793954:True:=⟨⟩
theorem tw12620140959507591927:True:=⟨⟩
theorem tw12662569832820625982:True:=⟨⟩
theorem tw12712185121293588547:True:=⟨⟩
theorem tw12740658929604915847:True:=⟨⟩
theorem tw12743967733862955442:True:=⟨⟩
theorem tw12748783278528859273:True:=⟨⟩
theorem tw1277894645742345713:True:=⟨⟩
theorem tw12800084102501718498:True:=⟨⟩
theorem tw12855635064411863856:True:=⟨⟩
theorem tw12860491282637887903:True:=⟨⟩
theorem tw12921791644703584863:True:=⟨⟩
theorem tw12982316394123496931:True:=⟨⟩
theorem tw13066921531250201311:True:=⟨⟩
theorem tw13074520154700768204:True:=⟨⟩
theorem tw13142257711073505199:True:=⟨⟩
theorem tw13144661287282778638:True:=⟨⟩
theorem tw13147319979501535861:True:=⟨⟩
theorem tw13164493027200016887:True:=⟨⟩
theorem tw13181112523910358620:True:=⟨⟩
theorem tw13197178333754042400:True:=⟨⟩
theorem tw13207819595467760399:True:=⟨⟩
theorem tw13248818275667678157:True:=⟨⟩
theorem tw13276114957079438502:True:=⟨⟩
theorem tw1328292105199195301:True:=⟨⟩
theorem tw13298447277841064040:True:=⟨⟩
theorem tw13326381724263307645:True:=⟨⟩
theorem tw13329256031623231282:True:=⟨⟩
theorem tw13339765604949445632:True:=⟨⟩
theorem tw13344861855523796136:True:=⟨⟩
theorem tw13348933953230007484:True:=⟨⟩
theorem tw13373554258813730020:True:=⟨⟩
theorem tw13404776564171691592:True:=⟨⟩
theorem tw13425138302195621353:True:=⟨⟩
theorem tw13531383551938728565:True:=⟨⟩
theorem tw1361046044213413784:True:=⟨⟩
theorem tw13622717566682030529:True:=⟨⟩
theorem tw13666976109285777654:True:=⟨⟩
theorem tw13667054663384683219:True:=⟨⟩
theorem tw13729245799323518180:True:=⟨⟩
theorem tw13734221886859696587:True:=⟨⟩
theorem tw137500676149692586:True:=⟨⟩
theorem tw13752808014325081407:True:=⟨⟩
theorem tw13787225947467458853:True:=⟨⟩
theorem tw13795367086583677014:True:=⟨⟩
theorem tw13801292361774880112:True:=⟨⟩
theorem tw13815484139164863881:True:=⟨⟩
theorem tw13850695389833248988:True:=⟨⟩
theorem tw13854062275156788041:True:=⟨⟩
theorem tw13874078630537893386:True:=⟨⟩
theorem tw13888210624774581005:True:=⟨⟩
theorem tw13892496033714879661:True:=⟨⟩
theorem tw13929436194584064917:True:=⟨⟩
theorem tw1394067372765878834:True:=⟨⟩
theorem tw13944996449355937436:True:=⟨⟩
theorem tw13961091897089186551:True:=⟨⟩
theorem tw13983512442293533818:True:=⟨⟩
theorem tw13993878250623668081:True:=⟨⟩
theorem tw14045904461074687693:True:=⟨⟩
theorem tw14143269485947860657:True:=⟨⟩
theorem tw14159138267128149352:True:=⟨⟩
theorem tw14282137837439347709:True:=⟨⟩
theorem tw14405477623684705740:True:=⟨⟩
theorem tw14407069282481488744:True:=⟨⟩
theorem tw14410277332016550798:True:=⟨⟩
theorem tw14490250699559471626:True:=⟨⟩
theorem tw14567401791110697697:True:=⟨⟩
theorem tw14568917034524022438:True:=⟨⟩
theorem tw14593251851776366842:True:=⟨⟩
theorem tw14604061285244343053:True:=⟨⟩
theorem tw14633364684457558190:True:=⟨⟩
theorem tw14648420463371129351:True:=⟨⟩
theorem tw14649761625080648543:True:=⟨⟩
theorem tw14652719013770967065:True:=⟨⟩
theorem tw14678859923494778321:True:=⟨⟩
theorem tw14685915307016557871:True:=⟨⟩
theorem tw14733642876291349677:True:=⟨⟩
theorem tw1474658869165591500:True:=⟨⟩
theorem tw14769964860536713289:True:=⟨⟩
theorem tw1479114125428440348:True:=⟨⟩
theorem tw1484151986691834740:True:=⟨⟩
theorem tw14858447913283797585:True:=⟨⟩
theorem tw14866520537955184658:True:=⟨⟩
theorem tw14883491273206920452:True:=⟨⟩
theorem tw14900615411150153321:True:=⟨⟩
theorem tw1492360617036610154:True:=⟨⟩
theorem tw14974615148755881370:True:=⟨⟩
theorem tw15041072249973836141:True:=⟨⟩
theorem tw15043269271486226606:True:=⟨⟩
theorem tw15046764472353245416:True:=⟨⟩
theorem tw15079206319664731481:True:=⟨⟩
theorem tw15121514856508273985:True:=⟨⟩
theorem tw15134260470921397792:True:=⟨⟩
theorem tw15141690987021088970:True:=⟨⟩
theorem tw15154146979617440572:True:=⟨⟩
theorem tw15234446870431148742:True:=⟨⟩
theorem tw15269342325396513014:True:=⟨⟩
theorem tw15272620136265193329:True:=⟨⟩
theorem tw15286709738406593288:True:=⟨⟩
theorem tw1529660455716981269:True:=⟨⟩
theorem tw15302674269916935138:True:=⟨⟩
theorem tw15413722470936871835:True:=⟨⟩
theorem tw15419180037056857279:True:=⟨⟩
theorem tw15435186396184516457:True:=⟨⟩
theorem tw15439238983282662994:True:=⟨⟩
theorem tw15442715253494049633:True:=⟨⟩
theorem tw15489097407387962511:True:=⟨⟩
theorem tw1550378343032101237:True:=⟨⟩
theorem tw15542844867524232927:True:=⟨⟩
theorem tw15579120022512754198:True:=⟨⟩
theorem tw15634203108917672359:True:=⟨⟩
theorem tw15654727576021576313:True:=⟨⟩
theorem tw15665211411762857353:True:=⟨⟩
theorem tw15673114157630186919:True:=⟨⟩
theorem tw15685396991893435154:True:=⟨⟩
theorem tw1568772163678083878:True:=⟨⟩
theorem tw15748221560361657400:True:=⟨⟩
theorem tw15762663958705588968:True:=⟨⟩
theorem tw15768877694002696062:True:=⟨⟩
theorem tw15772376616430560893:True:=⟨⟩
theorem tw15859113474013392838:True:=⟨⟩
theorem tw15880404773551763682:True:=⟨⟩
theorem tw15883413177995903499:True:=⟨⟩
theorem tw15922276958565813749:True:=⟨⟩
theorem tw15928143232796549355:True:=⟨⟩
theorem tw16040723531010474388:True:=⟨⟩
theorem tw16070756441499936692:True:=⟨⟩
theorem tw16116735438220215262:True:=⟨⟩
theorem tw16173412320396734342:True:=⟨⟩
theorem tw16182256112148322360:True:=⟨⟩
theorem tw16221860217002144257:True:=⟨⟩
theorem tw16236646937880665402:True:=⟨⟩
theorem tw16271365555969439768:True:=⟨⟩
theorem tw1627474048635739940:True:=⟨⟩
theorem tw16304132718198246894:True:=⟨⟩
theorem tw16320980398400583269:True:=⟨⟩
theorem tw16364470210302056:True:=⟨⟩
theorem tw16386996201448354112:True:=⟨⟩
theorem tw16492539309030475645:True:=⟨⟩
theorem tw16498944325290793581:True:=⟨⟩
theorem tw1651629783210193542:True:=⟨⟩
theorem tw16529736093737370274:True:=⟨⟩
theorem tw16539189619647429556:True:=⟨⟩
theorem tw16589598519900979369:True:=⟨⟩
theorem tw16592141548578449643:True:=⟨⟩
theorem tw16606794452135627636:True:=⟨⟩
theorem tw1660728911878590425:True:=⟨⟩
theorem tw16626407945378128965:True:=⟨⟩
theorem tw16630648396393769971:True:=⟨⟩
theorem tw16638812198098107752:True:=⟨⟩
theorem tw16744846698079721101:True:=⟨⟩
theorem tw16748455265054931201:True:=⟨⟩
theorem tw16749611883765481130:True:=⟨⟩
theorem tw16762921347671550021:True:=⟨⟩
theorem tw16782974562911336789:True:=⟨⟩
theorem tw16805533329002549261:True:=⟨⟩
theorem tw1682129773358744783:True:=⟨⟩
theorem tw16842963316861930685:True:=⟨⟩
theorem tw16868704083304949895:True:=⟨⟩
theorem tw16873395753332051585:True:=⟨⟩
theorem tw169694166634779766:True:=⟨⟩
theorem tw16974986348734670427:True:=⟨⟩
theorem tw16993720534491900077:True:=⟨⟩
theorem tw1700522927011105458:True:=⟨⟩
theorem tw17063180499358863704:True:=⟨⟩
theorem tw17080179290466372273:True:=⟨⟩
theorem tw17087537369576112383:True:=⟨⟩
theorem tw17104543263103763607:True:=⟨⟩
theorem tw17217500950372935129:True:=⟨⟩
theorem tw17218344307334451314:True:=⟨⟩
theorem tw17253527946651533510:True:=⟨⟩
theorem tw17254840540928058468:True:=⟨⟩
theorem tw17258012200439673630:True:=⟨⟩
theorem tw17276756097616789424:True:=⟨⟩
theorem tw17291318992507753853:True:=⟨⟩
theorem tw17375433378602100927:True:=⟨⟩
theorem tw17390794091396054178:True:=⟨⟩
theorem tw17431306594373115246:True:=⟨⟩
theorem tw17437572030075609074:True:=⟨⟩
theorem tw1745154873064071573:True:=⟨⟩
theorem tw17495396707218950419:True:=⟨⟩
theorem tw17526378877926593333:True:=⟨⟩
theorem tw17541508001594616639:True:=⟨⟩
theorem tw17559027342775672406:True:=⟨⟩
theorem tw17559975545087459358:True:=⟨⟩
theorem tw17569392876295777548:True:=⟨⟩
theorem tw17607619875726488728:True:=⟨⟩
theorem tw17635042214369043037:True:=⟨⟩
theorem tw1766274096883354530:True:=⟨⟩
theorem tw17679929730427104658:True:=⟨⟩
theorem tw17715384293126715224:True:=⟨⟩
theorem tw1774776281322051931:True:=⟨⟩
theorem tw1775615001779332343:True:=⟨⟩
theorem tw17756430294017136303:True:=⟨⟩
theorem tw17809850982115080000:True:=⟨⟩
theorem tw17853723298835567371:True:=⟨⟩
theorem tw17877305664484440943:True:=⟨⟩
theorem tw17946205452691370511:True:=⟨⟩
theorem tw17958598958399655872:True:=⟨⟩
theorem tw17979064013881120002:True:=⟨⟩
theorem tw17979478126879038419:True:=⟨⟩
theorem tw17988730494624692519:True:=⟨⟩
theorem tw18002594743142676968:True:=⟨⟩
theorem tw18020170093503305569:True:=⟨⟩
theorem tw18036183608729466972:True:=⟨⟩
theorem tw18052671492535212056:True:=⟨⟩
theorem tw18054300186390265262:True:=⟨⟩
theorem tw18071070508054893726:True:=⟨⟩
theorem tw18124304302839980464:True:=⟨⟩
theorem tw18129745653536158888:True:=⟨⟩
theorem tw1815543756470428611:True:=⟨⟩
theorem tw18161514259080866936:True:=⟨⟩
theorem tw18164530681199234384:True:=⟨⟩
theorem tw18217660673056149511:True:=⟨⟩
theorem tw18295772746412746869:True:=⟨⟩
theorem tw18296859404726364134:True:=⟨⟩
theorem tw18357317252918588777:True:=⟨⟩
theorem tw18358743899617334968:True:=⟨⟩
theorem tw18381235193451940298:True:=⟨⟩
theorem tw18400603308317764798:True:=⟨⟩
theorem tw1855859089777238322:True:=⟨⟩
theorem tw1887806969554520033:True:=⟨⟩
theorem tw1930049680428266719:True:=⟨⟩
theorem tw1980808359616035917:True:=⟨⟩
theorem tw1988042407026827967:True:=⟨⟩
theorem tw2004759405555655322:True:=⟨⟩
theorem tw2011708558356228905:True:=⟨⟩
theorem tw201431292402915643:True:=⟨⟩
theorem tw2014827835609656097:True:=⟨⟩
theorem tw201496491097772331:True:=⟨⟩
theorem tw2032459375844105339:True:=⟨⟩
theorem tw203920883860174069:True:=⟨⟩
theorem tw2063489593464636448:True:=⟨⟩
theorem tw2068241645769659581:True:=⟨⟩
theorem tw2080713387949946383:True:=⟨⟩
theorem tw2081494848432985687:True:=⟨⟩
theorem tw2131618376396069002:True:=⟨⟩
theorem tw2155929860915599353:True:=⟨⟩
theorem tw2158218172999052502:True:=⟨⟩
theorem tw2184880799664492843:True:=⟨⟩
theorem tw2195336072835028976:True:=⟨⟩
theorem tw2233538389895620385:True:=⟨⟩
theorem tw2241514162660793:True:=⟨⟩
theorem tw2248451936480235550:True:=⟨⟩
theorem tw2254440558139805802:True:=⟨⟩
theorem tw2301850277605101642:True:=⟨⟩
theorem tw2309872120577911625:True:=⟨⟩
theorem tw2366006122467238266:True:=⟨⟩
theorem tw2379850175157274551:True:=⟨⟩
theorem tw2397261860396685840:True:=⟨⟩
theorem tw2457647018837970177:True:=⟨⟩
theorem tw2478786030322128347:True:=⟨⟩
theorem tw249318987251163135:True:=⟨⟩
theorem tw252068962777594187:True:=⟨⟩
theorem tw25450293667595388:True:=⟨⟩
theorem tw2570678406594686086:True:=⟨⟩
theorem tw2571303206506812041:True:=⟨⟩
theorem tw2589439866614146420:True:=⟨⟩
theorem tw2593803916560965977:True:=⟨⟩
theorem tw2623063149679963756:True:=⟨⟩
theorem tw2630782127511855622:True:=⟨⟩
theorem tw2642232423882653175:True:=⟨⟩
theorem tw2651180362592074670:True:=⟨⟩
theorem tw2662189690032879527:True:=⟨⟩
theorem tw2669262908465558615:True:=⟨⟩
theorem tw2700208623279908896:True:=⟨⟩
theorem tw2759424773567337943:True:=⟨⟩
theorem tw2807233157149214428:True:=⟨⟩
theorem tw2850572396226550560:True:=⟨⟩
theorem tw2883549387582994759:True:=⟨⟩
theorem tw2934060432808053651:True:=⟨⟩
theorem tw2962331128560489251:True:=⟨⟩
theorem tw2969544441122529663:True:=⟨⟩
theorem tw3015171946398246619:True:=⟨⟩
theorem tw3066053652736629182:True:=⟨⟩
theorem tw3116297834817126417:True:=⟨⟩
theorem tw3128968083310673476:True:=⟨⟩
theorem tw3168053746297415000:True:=⟨⟩
theorem tw3219495724730459248:True:=⟨⟩
theorem tw3230062952363641057:True:=⟨⟩
theorem tw3281094645860865313:True:=⟨⟩
theorem tw3290564125031527045:True:=⟨⟩
theorem tw3325896122577243756:True:=⟨⟩
theorem tw3341614502681406374:True:=⟨⟩
theorem tw3359497923079241054:True:=⟨⟩
theorem tw3371773572390444442:True:=⟨⟩
theorem tw3422469508575453323:True:=⟨⟩
theorem tw3438628733137379466:True:=⟨⟩
theorem tw3444616663618940987:True:=⟨⟩
theorem tw3449075187144761629:True:=⟨⟩
theorem tw3465233853832928352:True:=⟨⟩
theorem tw3467130906111870448:True:=⟨⟩
theorem tw3472482218261713620:True:=⟨⟩
theorem tw3484377529842378960:True:=⟨⟩
theorem tw3537674330797121783:True:=⟨⟩
theorem tw3540334661292200271:True:=⟨⟩
theorem tw3541736192628672969:True:=⟨⟩
theorem tw3549767861011235932:True:=⟨⟩
theorem tw3554600925464712163:True:=⟨⟩
theorem tw3562028040818189764:True:=⟨⟩
theorem tw3564413376869570578:True:=⟨⟩
theorem tw3568217621881212599:True:=⟨⟩
theorem tw3660265090348476590:True:=⟨⟩
theorem tw3884374380868540764:True:=⟨⟩
theorem tw3906265557336528917:True:=⟨⟩
theorem tw3908668730641594548:True:=⟨⟩
theorem tw3950236496756165998:True:=⟨⟩
theorem tw3959712586658761744:True:=⟨⟩
theorem tw3966875016142842053:True:=⟨⟩
theorem tw3993875166640378083:True:=⟨⟩
theorem tw4003227255498562667:True:=⟨⟩
theorem tw4018756464230225277:True:=⟨⟩
theorem tw4042933775557251727:True:=⟨⟩
theorem tw4068955795506297583:True:=⟨⟩
theorem tw4077188042860515804:True:=⟨⟩
theorem tw4143384209983677546:True:=⟨⟩
theorem tw4156808437706384618:True:=⟨⟩
theorem tw4229896431198703360:True:=⟨⟩
theorem tw4266933812604727877:True:=⟨⟩
theorem tw4280176333196336511:True:=⟨⟩
theorem tw4327082689079269222:True:=⟨⟩
theorem tw4372607187894579437:True:=⟨⟩
theorem tw439431288855530307:True:=⟨⟩
theorem tw4397121226932549743:True:=⟨⟩
theorem tw4398371931010209645:True:=⟨⟩
theorem tw4482178138388550241:True:=⟨⟩
theorem tw4517291083503793214:True:=⟨⟩
theorem tw4545145339633072306:True:=⟨⟩
theorem tw4567276022162534746:True:=⟨⟩
theorem tw4597751314086240947:True:=⟨⟩
theorem tw4608815861295048986:True:=⟨⟩
theorem tw4648616617933978278:True:=⟨⟩
theorem tw4652119638452823312:True:=⟨⟩
theorem tw4662677725167909080:True:=⟨⟩
theorem tw4674322848670904973:True:=⟨⟩
theorem tw4675210116657508727:True:=⟨⟩
theorem tw4700567652610857241:True:=⟨⟩
theorem tw4713480145618534435:True:=⟨⟩
theorem tw4850703836237909147:True:=⟨⟩
theorem tw4892087975508274707:True:=⟨⟩
theorem tw4904697537964884379:True:=⟨⟩
theorem tw4914276096617000446:True:=⟨⟩
theorem tw4979887828928061884:True:=⟨⟩
theorem tw5003132909420166848:True:=⟨⟩
theorem tw5020194489421542958:True:=⟨⟩
theorem tw5063874301085868410:True:=⟨⟩
theorem tw5069521496732726565:True:=⟨⟩
theorem tw5082678000601434566:True:=⟨⟩
theorem tw5131789096039889265:True:=⟨⟩
theorem tw5132748944131723748:True:=⟨⟩
theorem tw5137027202168968452:True:=⟨⟩
theorem tw5181290192255768464:True:=⟨⟩
theorem tw5235703761279321267:True:=⟨⟩
theorem tw5252776453144333813:True:=⟨⟩
theorem tw5261148431252411999:True:=⟨⟩
theorem tw5312874195847870934:True:=⟨⟩
theorem tw5315399053805962073:True:=⟨⟩
theorem tw5323638271266637739:True:=⟨⟩
theorem tw5379454825676558511:True:=⟨⟩
theorem tw5387789015771671126:True:=⟨⟩
theorem tw5393139405428693121:True:=⟨⟩
theorem tw5396610182003062913:True:=⟨⟩
theorem tw5420257731851006117:True:=⟨⟩
theorem tw5452010139321190927:True:=⟨⟩
theorem tw5464511611881130050:True:=⟨⟩
theorem tw5484594358822136661:True:=⟨⟩
theorem tw5513623295265976681:True:=⟨⟩
theorem tw5519597904553071376:True:=⟨⟩
theorem tw5534639183000756058:True:=⟨⟩
theorem tw5537879214346831766:True:=⟨⟩
theorem tw5583708852970962544:True:=⟨⟩
theorem tw5594024428207671810:True:=⟨⟩
theorem tw561308328418591429:True:=⟨⟩
theorem tw5692417819741489558:True:=⟨⟩
theorem tw5786851809157268367:True:=⟨⟩
theorem tw5802556866348921805:True:=⟨⟩
theorem tw5803915764442419497:True:=⟨⟩
theorem tw5807374841340313424:True:=⟨⟩
theorem tw5816685120971675053:True:=⟨⟩
theorem tw5848042471873629460:True:=⟨⟩
theorem tw5865455810138647221:True:=⟨⟩
theorem tw5878652092181706610:True:=⟨⟩
theorem tw5959816565549938841:True:=⟨⟩
theorem tw6001470347863264951:True:=⟨⟩
theorem tw6004138833056299433:True:=⟨⟩
theorem tw6038129468109965491:True:=⟨⟩
theorem tw6052170889045644213:True:=⟨⟩
theorem tw6066589330407774820:True:=⟨⟩
theorem tw6094095878137943407:True:=⟨⟩
theorem tw6131865133933555203:True:=⟨⟩
theorem tw6143866232037892955:True:=⟨⟩
theorem tw618031896975846352:True:=⟨⟩
theorem tw6180596210377780194:True:=⟨⟩
theorem tw6181553599692637928:True:=⟨⟩
theorem tw6194838382370544074:True:=⟨⟩
theorem tw6199987837074606762:True:=⟨⟩
theorem tw6221168873006063113:True:=⟨⟩
theorem tw6224702844671771207:True:=⟨⟩
theorem tw626846490255497801:True:=⟨⟩
theorem tw6273145721559769043:True:=⟨⟩
theorem tw6327676748604379811:True:=⟨⟩
theorem tw6355515901983182345:True:=⟨⟩
theorem tw641711764423126733:True:=⟨⟩
theorem tw6468787428378971520:True:=⟨⟩
theorem tw6491210476310511181:True:=⟨⟩
theorem tw6503297965271767467:True:=⟨⟩
theorem tw6526753697774507323:True:=⟨⟩
theorem tw6542248366660219125:True:=⟨⟩
theorem tw6578067311821937837:True:=⟨⟩
theorem tw6612359232999815427:True:=⟨⟩
theorem tw6634968231721386835:True:=⟨⟩
theorem tw663626308490307988:True:=⟨⟩
theorem tw6637961139125798942:True:=⟨⟩
theorem tw6641798421930001627:True:=⟨⟩
theorem tw6732572358160081770:True:=⟨⟩
theorem tw6744836442869255776:True:=⟨⟩
theorem tw6817064192647082858:True:=⟨⟩
theorem tw6890607134418799335:True:=⟨⟩
theorem tw6922991745054187258:True:=⟨⟩
theorem tw6958111356119319904:True:=⟨⟩
theorem tw6974864820095416536:True:=⟨⟩
theorem tw6978706573919581711:True:=⟨⟩
theorem tw7005091788063360994:True:=⟨⟩
theorem tw7024213632832007905:True:=⟨⟩
theorem tw7025623965964261055:True:=⟨⟩
theorem tw7046227900425930436:True:=⟨⟩
theorem tw7141682426059137882:True:=⟨⟩
theorem tw7152394435986445698:True:=⟨⟩
theorem tw7170774114433845395:True:=⟨⟩
theorem tw7193606165171170234:True:=⟨⟩
theorem tw7198029355297767428:True:=⟨⟩
theorem tw7217208708663558632:True:=⟨⟩
theorem tw7226659140803387277:True:=⟨⟩
theorem tw7284246879612430963:True:=⟨⟩
theorem tw7295899315871455847:True:=⟨⟩
theorem tw7300240913369778016:True:=⟨⟩
theorem tw7332168165223180611:True:=⟨⟩
theorem tw7332325055684240600:True:=⟨⟩
theorem tw735010059785371258:True:=⟨⟩
theorem tw737407652468530788:True:=⟨⟩
theorem tw7393924005513169866:True:=⟨⟩
theorem tw7399434749600711674:True:=⟨⟩
theorem tw7403234859458268576:True:=⟨⟩
theorem tw7450495288135890034:True:=⟨⟩
theorem tw7503432018185530977:True:=⟨⟩
theorem tw7512019751207343444:True:=⟨⟩
theorem tw7551526352286315416:True:=⟨⟩
theorem tw7582741205330209217:True:=⟨⟩
theorem tw7603447071248957257:True:=⟨⟩
theorem tw7640668139933340060:True:=⟨⟩
theorem tw7650634648094654266:True:=⟨⟩
theorem tw7662310293518559646:True:=⟨⟩
theorem tw7704153674114757532:True:=⟨⟩
theorem tw7717652421531244890:True:=⟨⟩
theorem tw7730523660166177099:True:=⟨⟩
theorem tw7748698853261641958:True:=⟨⟩
theorem tw7772302026431644589:True:=⟨⟩
theorem tw7774571509278868056:True:=⟨⟩
theorem tw7813991856417319411:True:=⟨⟩
theorem tw7849403072167214289:True:=⟨⟩
theorem tw7897795857231933584:True:=⟨⟩
theorem tw7898381442539264053:True:=⟨⟩
theorem tw7906385644418429805:True:=⟨⟩
theorem tw7913742462441137944:True:=⟨⟩
theorem tw7916703669914662890:True:=⟨⟩
theorem tw7920162917775372664:True:=⟨⟩
theorem tw7921842179894926999:True:=⟨⟩
theorem tw7935049364042203314:True:=⟨⟩
theorem tw795860758807204892:True:=⟨⟩
theorem tw7984529192646514039:True:=⟨⟩
theorem tw8006925062350504900:True:=⟨⟩
theorem tw8014135230126493308:True:=⟨⟩
theorem tw8020884479545827135:True:=⟨⟩
theorem tw8064829932053111369:True:=⟨⟩
theorem tw8085863308808498966:True:=⟨⟩
theorem tw8099993929913375660:True:=⟨⟩
theorem tw8108901143927461714:True:=⟨⟩
theorem tw8133977031067186657:True:=⟨⟩
theorem tw8165286898266653212:True:=⟨⟩
theorem tw8171677190408327620:True:=⟨⟩
theorem tw8180425065042193523:True:=⟨⟩
theorem tw8216528140554902930:True:=⟨⟩
theorem tw8223623697477369877:True:=⟨⟩
theorem tw8290397643206310844:True:=⟨⟩
theorem tw8297175192496603474:True:=⟨⟩
theorem tw8306931001834185170:True:=⟨⟩
theorem tw8315820955221556031:True:=⟨⟩
theorem tw8318544295448323422:True:=⟨⟩
theorem tw8392977617452787048:True:=⟨⟩
theorem tw8437552486201932107:True:=⟨⟩
theorem tw8448869059032043781:True:=⟨⟩
theorem tw8466287968271725334:True:=⟨⟩
theorem tw8466605132395461086:True:=⟨⟩
theorem tw8467125335965390991:True:=⟨⟩
theorem tw8543437847119959668:True:=⟨⟩
theorem tw8577375397737960200:True:=⟨⟩
theorem tw859200605028670169:True:=⟨⟩
theorem tw8604233458223922013:True:=⟨⟩
theorem tw8608138165918599069:True:=⟨⟩
theorem tw8632029557680354288:True:=⟨⟩
theorem tw8670332376249371414:True:=⟨⟩
theorem tw867073940570661992:True:=⟨⟩
theorem tw867593389206465136:True:=⟨⟩
theorem tw8694651070079744196:True:=⟨⟩
theorem tw871043136697988674:True:=⟨⟩
theorem tw8726169567368403821:True:=⟨⟩
theorem tw8761106521773209352:True:=⟨⟩
theorem tw8775727509338201650:True:=⟨⟩
theorem tw87986286311087642:True:=⟨⟩
theorem tw8799240144337567414:True:=⟨⟩
theorem tw881942517413720584:True:=⟨⟩
theorem tw8820299447213270258:True:=⟨⟩
theorem tw8822595731015456198:True:=⟨⟩
theorem tw883462867691358684:True:=⟨⟩
theorem tw8914529629814044050:True:=⟨⟩
theorem tw8923973405583141344:True:=⟨⟩
theorem tw8998833811014385463:True:=⟨⟩
theorem tw9013727695066537739:True:=⟨⟩
theorem tw9029071736952640505:True:=⟨⟩
theorem tw9041753319777592076:True:=⟨⟩
theorem tw9087664095166883433:True:=⟨⟩
theorem tw909746451388470536:True:=⟨⟩
theorem tw9107114359136693341:True:=⟨⟩
theorem tw9134149420934331126:True:=⟨⟩
theorem tw9212581957911418519:True:=⟨⟩
theorem tw922694077128233429:True:=⟨⟩
theorem tw9286757725258264936:True:=⟨⟩
theorem tw9291367648926670445:True:=⟨⟩
theorem tw9468320534764601004:True:=⟨⟩
theorem tw9475841945223218623:True:=⟨⟩
theorem tw9483340996535693918:True:=⟨⟩
theorem tw9512793175659845773:True:=⟨⟩
theorem tw9538715880030711617:True:=⟨⟩
theorem tw9595123379871234184:True:=⟨⟩
theorem tw9614076936768711521:True:=⟨⟩
theorem tw964993161173131907:True:=⟨⟩
theorem tw9666754057342065281:True:=⟨⟩
theorem tw9694456484520933644:True:=⟨⟩
theorem tw9742132489098909495:True:=⟨⟩
theorem tw9757250474801017133:True:=⟨⟩
theorem tw9760951542963847362:True:=⟨⟩
theorem tw9763678645013041549:True:=⟨⟩
theorem tw9780286710399866089:True:=⟨⟩
theorem tw9790717185309150734:True:=⟨⟩
theorem tw9793157011033705535:True:=⟨⟩
theorem tw9830038771099211305:True:=⟨⟩
theorem tw9915840188965042988:True:=⟨⟩
theorem tw9926133348984350900:True:=⟨⟩
theorem tw9942942153851895092:True:=⟨⟩
end PySem.W.Fast
open PySem PySem.W PyProof.Rows
set_option maxRecDepth 100000 in
set_option maxHeartbeats 0 in
theorem PySem.Challenge.cw_sumwires_k93_whole_told_back_over_texts_holds : PySem.Challenge.rw_sumwires_k93_whole_told_back_over_texts.Holds := by
 w_on;o_law;k_head;(case hw=>w_witness2)
 k_fill
 refine My.walk (l:=PySem.Challenge.rw_sumwires_k93_whole_told_back_over_texts) rfl rfl (λw h Y=>PySem.W.kIn_of Y) ?F
 case F=>
  intro w mg fa h KX G hmg;refine' My.all_mk KX G hmg _ _ _ _ _ _ _ _ _ _ _ _ _ _ _ _ _ _ _ _ _ _ _ _ _ _ _ _ _ _ _ _ _ _ _ _ _ _ _ _ _ _ _ _ _ _ _ _ _ _ _ _ _ _ _ _ _ _ _ _ _ _ _ _ _ _ _ _ _ _ _ _ _ _ _ _ _ _ _ _ _ _ _ _ _ _ _ _ _ _ _ _ _ _ _ _ _ _ _ _ _ _ _ _ _ _ _ _ _ _ _ _ _ _ _ _ _ _ _ _ _ _ _ _ _ _ _ _ _ _ _ _ _ _ _ _ _ _ _ _ _ _ _ _ _ _ _ _ _ _ _ _ _ _ _ _ _ _ _ _ _ _ _ _ _ _ _ _ _ _ _ _ _ _ _ _ _ _ _ _ _ _ _ _ _ _ _ _ _ _ _ _ _ _ _ _ _ _ _ _ _ _ _ _ _ _ _ _ _ _ _ _ _ _ _ _ _ _ _ _ _ _ _ _ _ _ _ _ _ _ _ _ _ _ _ _ _ _ _ _ _ _ _ _ _ _ _ _ _ _ _ _ _ _ _ _ _ _ _ _ _ _ _ _ _ _ _ _ _ _ _ _ _ _ _ _ _ _ _ _ _ _ _ _ _ _ _ _ _ _ _ _ _ _ _ _ _ _ _ _ _ _ _ _ _ _ _ _ _ _ _ _ _ _ _ _ _ _ _ _ _ _ _ _ _ ?jU ?gW _ _ _ _ _ _ _ _ _ _ _ _ _ _ _ _ _ _ _ _ _ _ _ _ _ _ _ _ _ _ _
  any_goals ((with_reducible show _=_);k_is)
  any_goals (refine' My.FR.mk ?u ?v ?w;(case u=>k_is);(case v=>k_is);(case w=>k_is))
  (case jU=>k_exc)
  (case gW=>k_exc)
