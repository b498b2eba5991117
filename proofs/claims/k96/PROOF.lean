import PyProof.Rows.All
import Wide.FinOn
import Lean
import KE.KDictOf
import KE.KFromBytes
import KE.KIsAll
import KE.KItem
import KE.KItemsList
import KE.KRevIter
import PySem.Challenge.RW_sumwires_k96_whole_a_cut_wire_mended
section
variable {α β γ δ ε ζ η θ ι : Sort _}{G:Prop}
theorem exx2{P:α→β→Prop}(h:∃a b,P a b)(k:∀a b,P a b→G):G:=h.elim fun a h=>Exists.elim h (k a)
theorem eyy2{P:α→β→Prop}(a:α)(b:β)(h:P a b):∃a b,P a b:=⟨a,b,h⟩
theorem exx3{P:α→β→γ→Prop}(h:∃a b c,P a b c)(k:∀a b c,P a b c→G):G:=h.elim fun a h=>exx2 h (k a)
theorem eyy3{P:α→β→γ→Prop}(a:α)(b:β)(c:γ)(h:P a b c):∃a b c,P a b c:=⟨a,b,c,h⟩
theorem exx4{P:α→β→γ→δ→Prop}(h:∃a b c d,P a b c d)(k:∀a b c d,P a b c d→G):G:=h.elim fun a h=>exx3 h (k a)
theorem eyy4{P:α→β→γ→δ→Prop}(a:α)(b:β)(c:γ)(d:δ)(h:P a b c d):∃a b c d,P a b c d:=⟨a,b,c,d,h⟩
theorem exx5{P:α→β→γ→δ→ε→Prop}(h:∃a b c d e,P a b c d e)(k:∀a b c d e,P a b c d e→G):G:=h.elim fun a h=>exx4 h (k a)
theorem eyy5{P:α→β→γ→δ→ε→Prop}(a:α)(b:β)(c:γ)(d:δ)(e:ε)(h:P a b c d e):∃a b c d e,P a b c d e:=⟨a,b,c,d,e,h⟩
theorem exx6{P:α→β→γ→δ→ε→ζ→Prop}(h:∃a b c d e f,P a b c d e f)(k:∀a b c d e f,P a b c d e f→G):G:=h.elim fun a h=>exx5 h (k a)
theorem eyy6{P:α→β→γ→δ→ε→ζ→Prop}(a:α)(b:β)(c:γ)(d:δ)(e:ε)(f:ζ)(h:P a b c d e f):∃a b c d e f,P a b c d e f:=⟨a,b,c,d,e,f,h⟩
theorem exx7{P:α→β→γ→δ→ε→ζ→η→Prop}(h:∃a b c d e f g,P a b c d e f g)(k:∀a b c d e f g,P a b c d e f g→G):G:=h.elim fun a h=>exx6 h (k a)
theorem eyy7{P:α→β→γ→δ→ε→ζ→η→Prop}(a:α)(b:β)(c:γ)(d:δ)(e:ε)(f:ζ)(g:η)(h:P a b c d e f g):∃a b c d e f g,P a b c d e f g:=⟨a,b,c,d,e,f,g,h⟩
theorem exx8{P:α→β→γ→δ→ε→ζ→η→θ→Prop}(h:∃a b c d e f g i,P a b c d e f g i)(k:∀a b c d e f g i,P a b c d e f g i→G):G:=h.elim fun a h=>exx7 h (k a)
theorem eyy8{P:α→β→γ→δ→ε→ζ→η→θ→Prop}(a:α)(b:β)(c:γ)(d:δ)(e:ε)(f:ζ)(g:η)(i:θ)(h:P a b c d e f g i):∃a b c d e f g i,P a b c d e f g i:=⟨a,b,c,d,e,f,g,i,h⟩
theorem exx9{P:α→β→γ→δ→ε→ζ→η→θ→ι→Prop}(h:∃a b c d e f g i j,P a b c d e f g i j)(k:∀a b c d e f g i j,P a b c d e f g i j→G):G:=h.elim fun a h=>exx8 h (k a)
theorem eyy9{P:α→β→γ→δ→ε→ζ→η→θ→ι→Prop}(a:α)(b:β)(c:γ)(d:δ)(e:ε)(f:ζ)(g:η)(i:θ)(j:ι)(h:P a b c d e f g i j):∃a b c d e f g i j,P a b c d e f g i j:=⟨a,b,c,d,e,f,g,i,j,h⟩
end
section
variable {G A B C D E F H I J K L M:Prop}
theorem axx3(h:A∧B∧C)(k:A→B→C→G):G:=k h.1 h.2.1 h.2.2
theorem ayy3(a:A)(b:B)(c:C):A∧B∧C:=⟨a,b,c⟩
theorem axx4(h:A∧B∧C∧D)(k:A→B→C→D→G):G:=axx3 h.2 (k h.1)
theorem ayy4(a:A)(b:B)(c:C)(d:D):A∧B∧C∧D:=⟨a,b,c,d⟩
theorem axx5(h:A∧B∧C∧D∧E)(k:A→B→C→D→E→G):G:=axx4 h.2 (k h.1)
theorem ayy5(a:A)(b:B)(c:C)(d:D)(e:E):A∧B∧C∧D∧E:=⟨a,b,c,d,e⟩
theorem axx6(h:A∧B∧C∧D∧E∧F)(k:A→B→C→D→E→F→G):G:=axx5 h.2 (k h.1)
theorem ayy6(a:A)(b:B)(c:C)(d:D)(e:E)(f:F):A∧B∧C∧D∧E∧F:=⟨a,b,c,d,e,f⟩
theorem axx7(h:A∧B∧C∧D∧E∧F∧H)(k:A→B→C→D→E→F→H→G):G:=axx6 h.2 (k h.1)
theorem ayy7(a:A)(b:B)(c:C)(d:D)(e:E)(f:F)(g:H):A∧B∧C∧D∧E∧F∧H:=⟨a,b,c,d,e,f,g⟩
theorem axx8(h:A∧B∧C∧D∧E∧F∧H∧I)(k:A→B→C→D→E→F→H→I→G):G:=axx7 h.2 (k h.1)
theorem ayy8(a:A)(b:B)(c:C)(d:D)(e:E)(f:F)(g:H)(i:I):A∧B∧C∧D∧E∧F∧H∧I:=⟨a,b,c,d,e,f,g,i⟩
theorem axx9(h:A∧B∧C∧D∧E∧F∧H∧I∧J)(k:A→B→C→D→E→F→H→I→J→G):G:=axx8 h.2 (k h.1)
theorem ayy9(a:A)(b:B)(c:C)(d:D)(e:E)(f:F)(g:H)(i:I)(j:J):A∧B∧C∧D∧E∧F∧H∧I∧J:=⟨a,b,c,d,e,f,g,i,j⟩
theorem axx10(h:A∧B∧C∧D∧E∧F∧H∧I∧J∧K)(k:A→B→C→D→E→F→H→I→J→K→G):G:=axx9 h.2 (k h.1)
theorem ayy10(a:A)(b:B)(c:C)(d:D)(e:E)(f:F)(g:H)(i:I)(j:J)(l:K):A∧B∧C∧D∧E∧F∧H∧I∧J∧K:=⟨a,b,c,d,e,f,g,i,j,l⟩
theorem axx11(h:A∧B∧C∧D∧E∧F∧H∧I∧J∧K∧L)(k:A→B→C→D→E→F→H→I→J→K→L→G):G:=axx10 h.2 (k h.1)
theorem ayy11(a:A)(b:B)(c:C)(d:D)(e:E)(f:F)(g:H)(i:I)(j:J)(l:K)(m:L):A∧B∧C∧D∧E∧F∧H∧I∧J∧K∧L:=⟨a,b,c,d,e,f,g,i,j,l,m⟩
theorem axx12(h:A∧B∧C∧D∧E∧F∧H∧I∧J∧K∧L∧M)(k:A→B→C→D→E→F→H→I→J→K→L→M→G):G:=axx11 h.2 (k h.1)
theorem ayy12(a:A)(b:B)(c:C)(d:D)(e:E)(f:F)(g:H)(i:I)(j:J)(l:K)(m:L)(n:M):A∧B∧C∧D∧E∧F∧H∧I∧J∧K∧L∧M:=⟨a,b,c,d,e,f,g,i,j,l,m,n⟩
end
open Lean in
local macro_rules
  | `(tactic| obtain ⟨$ps,*⟩ := $t:term) => do
    let ps := ps.getElems
    let n := ps.size
    if n < 3 then Macro.throwUnsupported
    -- what a pattern is bound to, and what is done behind
    let one (i : Nat) (p : TSyntax `Lean.Parser.Tactic.rcasesPatLo) : MacroM (TSyntax `term × Option (TSyntax `tactic)) := do
      let z := mkIdent (Name.mkSimple s!"zz{i}")
      match p with
      | `(Lean.Parser.Tactic.rcasesPatLo| $x:ident) => if x.getId == `rfl then return (z, some (← `(tactic| subst $z:term))) else return (x, none)
      | `(Lean.Parser.Tactic.rcasesPatLo| _) => return (← `(_), none)
      | `(Lean.Parser.Tactic.rcasesPatLo| $q:rcasesPatMed) => return (z, some (← `(tactic| obtain $q:rcasesPatMed := $z:term)))
      | _ => Macro.throwUnsupported
    let mut alts : Array (TSyntax ``Lean.Parser.Tactic.tacticSeq) := #[]
    let clr : TSyntax `tactic ← if t.raw.isIdent then `(tactic| try clear $(⟨t.raw⟩):ident) else `(tactic| skip)
    let w := mkIdent `ww
    for ex in [true, false] do
      for k in [0:n] do
        let i := if ex then n - 1 - k else n - k
        if i < 1 || i > (if ex then 9 else 12) || (!ex && i < 3) then continue
        let f := mkIdent (if ex then if i == 1 then `Exists.elim else Name.mkSimple s!"exx{i}" else Name.mkSimple s!"axx{i}")
        let m := if ex then i else if i == n then i else i - 1
        let mut bs : Array (TSyntax `term) := #[]
        let mut post : Array (TSyntax `tactic) := #[]
        for j in [0:m] do
          let (b, q) ← one j ps[j]!
          bs := bs.push b
          if let some q := q then post := post.push q
        if m < n then
          if m + 1 == n then
            let (b, q) ← one m ps[m]!
            bs := bs.push b
            if let some q := q then post := post.push q
          else
            bs := bs.push w
            let rest := ps.extract m n
            post := post.push (← `(tactic| obtain ⟨$rest,*⟩ := $w:term))
        alts := alts.push (← `(Lean.Parser.Tactic.tacticSeq| refine $f $t ?_; $clr:tactic; intro $bs*; $post;*))
    alts := alts.push (← `(Lean.Parser.Tactic.tacticSeq| rcases $t:term with ⟨$ps,*⟩))
    `(tactic| first $[| $alts]*)
open Lean in
local macro_rules
  | `(tactic| rintro $rs:rintroPat*) => do
    let mut out : Array (TSyntax `tactic) := #[]
    let mut any := false
    for r in rs do
      match r with
      | `(rintroPat| $x:ident) => if x.getId == `rfl then out := out.push (← `(tactic| (intro zz; subst zz))) else out := out.push (← `(tactic| intro $x:ident))
      | `(rintroPat| _) => out := out.push (← `(tactic| intro _))
      | `(rintroPat| ⟨$ps,*⟩) =>
        if ps.getElems.size ≥ 3 then any := true
        out := out.push (← `(tactic| (intro zz; obtain ⟨$ps,*⟩ := zz)))
      | _ => Macro.throwUnsupported
    if !any then Macro.throwUnsupported
    `(tactic| ($[$out:tactic];*))
open Lean in
local macro_rules
  | `(tactic| refine ⟨$xs,*⟩) => do
    let xs := xs.getElems
    let n := xs.size
    if n < 4 then Macro.throwUnsupported
    let mut alts : Array (TSyntax ``Lean.Parser.Tactic.tacticSeq) := #[]
    for k in [0:n] do
      let i := n - 1 - k
      if i > 9 then continue
      let ws := xs.extract 0 i
      let rs := xs.extract i n
      let m := n - i
      let cs : List (TSyntax `term) ← if m == 1 then pure [rs[0]!] else if m == 2 || m > 12 then pure [← `(⟨$rs,*⟩)] else pure [← `($(mkIdent (Name.mkSimple s!"ayy{m}")) $rs*), ← `(⟨$rs,*⟩)]
      for c in cs do
        if i == 0 then
          if m > 2 then alts := alts.push (← `(Lean.Parser.Tactic.tacticSeq| refine ($c)))
        else if i == 1 then alts := alts.push (← `(Lean.Parser.Tactic.tacticSeq| refine Exists.intro $(ws[0]!) $c))
        else alts := alts.push (← `(Lean.Parser.Tactic.tacticSeq| refine $(mkIdent (Name.mkSimple s!"eyy{i}")) $ws* $c))
    alts := alts.push (← `(Lean.Parser.Tactic.tacticSeq| refine (⟨$xs,*⟩)))
    `(tactic| first $[| $alts]*)
  | `(tactic| exact ⟨$xs,*⟩) => do
    let xs := xs.getElems
    if xs.size < 4 then Macro.throwUnsupported
    `(tactic| (refine ⟨$xs,*⟩))
open Option renaming some→aY,none→gg,map_eq_some_iff→Yf,isSome_map→ae5,getD_some→al9,getD_none→am0,map_some→ao4
open List renaming length_map→a',getElem?_eq_some_iff→bx,getD_eq_getElem?_getD→dt,map_append→eF,getElem?_eq_getElem→eH,mem_of_getElem?→eO,mem_singleton→eR,length_append→fy,mem_append→gs,getElem?_map→hB,mem_map→hC,mem_append_left→hG,mem_append_right→hJ,Nodup→hM,take_length→ix,getElem?_append_left→la,replicate→lA,getElem?_append_right→lB,mem_cons_self→mu,mem_cons_of_mem→ov,range→qB,length_take→qF,map_map→tu,length_singleton→u9,length→w3,mem_cons→x8,size_toArray→y7,length_range→W1,length_cons→W3,mem_range→W9,mem_iff_getElem→WW,mem_iff_getElem?→WX,nodup_append→WY,map_congr_left→WZ,map_cons→W',getElem?_range→Xf,length_replicate→Xg,getElem?_eq_none→Xh,getElem_mem→Xm,all_eq_true→Xn,filter_append→Xp,mem_filter→Xs,append_nil→XI,take_of_length_le→XM,getElem?_take_of_lt→XN,singleton_append→XR,foldl_append→XT,getElem?_zip_eq_some→XY,length_filter_le→Y3,range_succ→Y7,replicate_succ→Y8,replicate_succ'→Ye,append_assoc→Yj,zip→Ys,map_singleton→Yw,filter_cons→YG,any_eq_true→YH,take_append_drop→YM,not_mem_nil→YZ,filter_eq_nil_iff→Z3,ext_getElem?→Z7,length_pos_iff→Z8,map→Zc,nodup_cons→Zd,length_zip→Ze,find?_cons→Zf,lookup→Zg,take_append_of_le_length→Zi,getElem?_drop→Zk,lookup_cons→Zm,reverse_cons→Zz,pairwise_map→ZA,getElem_take→ZC,flatten_cons→ZD,length_drop→ZU,all_cons→aa2,of_mem_zip→aa9,forIn_cons→ab0,perm_append_comm→ab2,getElem?_toArray→ab3,take_succ→ab6,map_id→ac1,any_cons→ac4,map_fst_zip→ac7,getElem_map→ac8,filterMap_cons→ac9,mem_replicate→ad6,mem_range'→ae3,length_nil→ae4,getElem?_inj→ae6,flatten_replicate_singleton→ae7,map_nil→af6,map_take→af7,range'→ag3,eq_nil_of_length_eq_zero→ag7,pairwise_iff_getElem→ai4,map_drop→aj0,length_erase_of_mem→aj8,pairwise_singleton→ak2,getElem?_replicate→ak3,filter_append_perm→ak4,zipWith→ak8,range_succ_eq_map→al1,pairwise_lt_range→al2,length_pos_of_mem→al3,getElem_replicate→al4,getElem?_set_self→al5,reverse_reverse→an0,pairwise_append→an1,mem_of_mem_take→an2,getElem?_set_ne→an3,getElem?_of_mem→an4,length_reverse→ao2,foldl→ao5,count→ao6,mem_filterMap→ap2,map_replicate→ap3,take_add_one→aq2,filter_congr→aq3,take_append→ar0,nodup_range→ar1,map_snd_zip→ar2,ext_getElem→ar3,nil_append→as2,foldl_cons→as3,filter_map→as4,take_left→as9,forIn_nil→at0,drop_zero→at1,sum_cons→au0,all_map→au7
open PySem.W renaming Frag→b',mg_of→y5,findIn→zx,fnOf→Xz,keepIn→XA,mg_none_of→XO,emptyDict→XU,instObj→Y9,mroIn→Yb,specialIn→Yu,codeIn→Yx,callWith_K→YS,methodCall_KW→Z2,plainGet→ZO,lookIn→aa7,plainGet_of→ab4,excIn→ab5,isFn→ad2,methodObj→ad3,hasDictIn→ad4,handedIn→ad7,takesIn→af2,takerIn→af3,cellsFrom_some→ai2,plainOver→am6,kdl_dict→ao1,readsIn→ao7,makesIn→ao8,isClsIn→ao9,findCls→ap0,OpenLaw→ap4,typeIn→ap7,nsIn→ar7
open PySem renaming Addr→ee,wpAny_bind→gz,FuncData→hF,sizeLine→ic,Shared→ik,Value→i',Str→kv,sizeLine_eq→lj,wpAny→lT,wpAny_pure→oD,starEach→pT,boot_len→p',model→rb,Program→ry,World→z5,Expr→W5,Around→W6,mainGlobals→W8,Heap→WN,mem_of_lookup→Xk,Value→Xr,wpAny_field→XD,wpAny_truthy_bool→Yk,wpAny_pyIter_enum→Yl,Scope→Yp,wpAny_passesOwn→YB,wpAny_holding→YC,builtinLookup_eq_fast→YE,wpAny_mono→YQ,wpAny_seqItems→YR,Stmt→YY,codeAny_builtin→Y',wpAny_pyIter_tuple→Z5,wpAny_callSpecial?_slot→Z9,wpAny_pyIter_list→Za,call_meets→Zn,wpAny_call_entry→Zo,Spec→Zu,wpAny_updateSeq→ZE,wpAny_specialOf→ZF,wpAny_loadPart'→ZG,typeLookup_type→ZH,wpAny_setField→ZT,wpAny_Call_Name_kw→ZX,tupleKind_room_in1→ZY,wpAny_newObj_type→aa4,plainId_quiet→aa6,codeAny_mono→ab8,wpAny_execs_nil→ac6,Str→ae9,typeIs_str→ag2,wpAny_typeOf→ag9,Addr→ah0,wpAny_pyIter_zip→ai0,wpAny_execs_cons→ai1,Within→ak0,Shared→ak1,callType_codes→am1,call→an9,wpAny_comprehension_free→ao0,wpAny_nextOf_list_item→ap5,wpAny_isTrue_Compare1→aq8,wpAny_of_eq→ar6,call_enumerate_list→as5,wpAny_rule→at4,wpAny_call→at5,wpAny_Name→at6,typeIs_int→at7,wpAny_assign_Name→au2
open _root_ renaming List→eP,decide_eq_false→f',decide_eq_true→gB,absurd→hE,if_neg→kf,if_pos→lx,congrArg→oe,Option→vr,of_decide_eq_true→y2,beq_eq_false_iff_ne→W2,String→X9,Bool→Xb,decide_eq_true_eq→Xc,beq_self_eq_true→XG,beq_iff_eq→ab7,ne_true_of_eq_false→af1,or_false→ag8,if_true→ak7,Array→ar5
open PySem.Heap renaming get?_push_of_some→gn,lt_size→hK,get?_push_size→kh,get?_update_other→X1,get?_update_self→XQ,get?_none_of_le→YD,size_push→Z0,SameBut→Zq
open Nat renaming lt_of_lt_of_le→gA,pow_le_pow_right→hL,eq_of_testBit_eq→iv,le_refl→mc,two_pow_pos→px,testBit_two_pow→ri,testBit_lt_two_pow→u7,testBit_xor→w7,ne_of_lt→y1,shiftRight_eq_div_pow→W7,zero_testBit→WO,pow_lt_pow_right→WS,testBit_two_pow_self→X0,and_comm→X8,lt_of_le_of_lt→Xe,xor_zero→Xo,lt_succ_self→Xq,testBit_shiftRight→Xt,ne_of_gt→Xw,xor_assoc→Xx,zero_le→Xy,testBit_shiftLeft→XJ,le_trans→XX,lt_irrefl→Y2,mod_two_eq_zero_or_one→Y4,zero_add→Y5,le_of_lt→Y6,zero_and→Yg,and_zero→Yh,testBit_and→Yi,zero_xor→Yn,xor_self→Yo,lt_log2_self→Yt,not_lt_zero→YF,le_add_right→YL,lt_pow_two_of_testBit→YN,mul_le_mul→YX,and_two_pow_sub_one_eq_mod→Zb,testBit_div_two→Zr,xor_comm→ZK,pow_succ→ZL,lt_succ_of_lt→ZR,div_add_mod→ZV,and_le_left→ZW,exists_eq_add_of_le→aa0,sub_self→aa1,mul_le_mul_right→ab9,div_lt_of_lt_mul→ac0,succ_mul→ac2,min_self→ac3,log2_lt→ad0,le_succ→ad1,zero_shiftLeft→ad9,lt_trichotomy→af4,lt_trans→af8,add_comm→af9,le_of_not_lt→ag4,min_eq_left→ah1,testBit_two_pow_sub_one→ah5,pow_add→ah8,one_mul→ah9,zero_mul→ai7,sub_zero→ai8,mul_comm→ai9,le_of_eq→aj1,add_mul→am3,le_of_ble_eq_true→am8,div_lt_iff_lt_mul→am9,shiftRight_zero→ap1,xor_lt_two_pow→ap8,pos_of_ne_zero→ap9,eq_zero_or_pos→aq0,add_sub_cancel→aq1,testBit_zero→ar8,shiftLeft_eq→ar9,log2_self_le→as0,and_le_right→as1,strongRecOn→as8
open Bool renaming false_ne_true→hH,false_and→WT,and_eq_true→WV,true_and→XF,and_false→XH,eq_iff_iff→Yc,xor_false→Ym,false_xor→Z1,not_eq_true'→ZQ,not_eq_true→ag0,or_true→al0
open Int renaming toNat_natCast→n',emod_lt_of_pos→w5,emod_nonneg→zt,eq_ofNat_of_zero_le→Xu,zero_add→Yr,fdiv_eq_ediv_of_nonneg→ZI,toNat→ac5,natCast_nonneg→ae0,natAbs_natCast→ae1,fmod_eq_emod_of_nonneg→ai5
open PySem.PassesOwn renaming never→qa
open PySem.F renaming plainAttrs_list→qq,type_list_append→y',slot_list_append→z0,type_list_extend→X2,slot_list_extend→X3,type_int_bit_length→X5,slot_int_bit_length→X6,excBase_ValueError→Xa,plainAttrs_int→XB,plainAttrs_str→XZ,type_str_split→YV,slot_str_split→YW,type_str_join→aj6,slot_str_join→aj7
open Option.some renaming inj→qA
open PyProof.Rows renaming boot_list→qE,callWith_type1→wq,boot_tuple→WQ,boot_isinstance→Xi,boot_str→XC,int_text_len_1921→YU,boot_all→ZN,boot_dict→ag1,boot_zip→ag5,boot_any→ag6,Call_→ai6,subscriptTail_builtinR→ap6,Subscript_→at8
open PySem.Value renaming ref→vu,none→Xj,type→Zt,str→ae8,int→aj2,bool→an7,isStrOf→as6,isInt→au4,float→au5,bytes→au6
open Ne renaming symm→wh
open PySem.Builtin.Int renaming intBits→xo
open Sum renaming inr→xY,inl→Xv
open PySem.Builtin.List renaming listExtendWith→W4,listTooLong→Yz,listSameRef→YA,listItems→YO,listUpdate→Zs,listLengthHint→ad5
open PySem.Builtin renaming bitXor→WU,bitNot→X',bitAnd→Y0,bitOr→ar4
open False renaming elim→X4
open PySem.Builtin.SmallTypes renaming nextOf→X7,ownedTupleIsFree→ZJ
open PySem.Obj renaming mapSeq→Xd,mapFields→YT,data_mapFields→ad8,isFreed_of_fields→am7,cls_mapFields→aq9
open PySem.NameKind renaming free→Xl,cell→Z4
open Classical renaming propDecidable→XS,epsilon_spec→ah2,epsilon→al7
open Array renaming getElem?_eq_some_iff→Y1,getElem?_eq_getElem→YJ,length_toList→YK,getElem?_eq_none→ak6,getElem?_toList→al8,forIn_toList→ao3,toList→au1
open PySem.Heap.SameBut renaming update→Ya
open PySem.Txt renaming split→Yd,join→an5
open PySem.Str renaming ofString→Yq,join→Zj,empty→Zx
open PySem.WalksT renaming enumerateD→Yv,zip2→af0
open PySem.Around renaming under_plainId→Yy,under→aj3
open ForInStep renaming yield→YI
open Or renaming inr→Z6,inl→Zp
open Nat.succ renaming inj→Zh
open List.Pairwise renaming imp_of_mem→Zl,map→aa8,nil→ah6
open PySem.Calls renaming spliced_cons→Zv,spliced_nil→ZM,Name_function_global→ah3,callWith_builtin→ak5,evalArgs_plain→am2
open PySem.Builtin.Str renaming occurrences→Zw,strKind→ah7
open Sum.inr renaming inj→Zy
open List.Perm renaming trans→ZS,append_left→ZZ
open Prod renaming fst→Z',ext→ae2,snd→am4
open True renaming intro→aa3
open PySem.EntryCells renaming newEntry→aa5
open List.cons renaming inj→ab1
open PySem.Builtin.Dict renaming updateFrom→af5
open PySem.Paired renaming length→ah4,snoc→at9
open PyProof renaming noPylong_small→ai3
open PySem.SeqAt.EqAt renaming str_int→aj4,int_str→aj5,same→aq7,of_refs→au8
open PySem.Code renaming isFrame→ak9,builtin→au9
open PySem.Heap.DictOf renaming new→al6
open PySem.StrLaws renaming found_one→am5
open PySem.Walks renaming list→an6
open PySem.SeqAt renaming EqAt→an8
open Iff renaming rfl→aq5
open PySem.Expr renaming Call→aq6
open Sum.inl renaming inj→as7
open PySem.IsRange renaming new→at3
open PySem.W.WShape renaming has→au3
abbrev A':=eP (Nat×Nat)
abbrev B':=eP ae9
abbrev C':=eP Nat
abbrev Cr:=Xr->ak1->Prop
abbrev D':=eP (ah0×PySem.Obj)
abbrev E':=eP Xr
abbrev F':=ae9->vr Xr
abbrev G':=ar5 Xr
abbrev K':=ar5 (vr Xr)
abbrev L':=Unit->ak1->Prop
abbrev M':=eP ah0
abbrev P':=eP Int
abbrev Q':=vr ah0
abbrev R':=ae9->Xb
abbrev S':=PySem.Result->ak1->Prop
abbrev Tn:=eP (ae9×ah0)
abbrev U':=eP (ae9×Xr)
abbrev V':=vr Xr
open Nat (mod_lt)
set_option Elab.async false
open Lean in
def Tb.st0 (as:Array Syntax)(st:List Syntax)(t:String):List Syntax:=
 let r:=(t.drop 1).toString
 let k:=r.toNat?.getD 0
 let c:=t.front
 let A(s:String):Syntax:=.atom .none s
 let N(n:Name)(l:List Syntax):Syntax:=.node .none n l.toArray
 let T(s:String)(l:List Syntax):Syntax:=N (`Lean.Parser.Term++.mkSimple s) l
 let I:=mkIdent r.toName
 if c=='i' then I::st else
 if c=='$' then as[k]!::st else
 if c=='_' then T "hole" [A "_"]::st else
 if c=='?' then T "syntheticHole" [A "?",A "_"]::st else
 if c=='n' then Syntax.mkNumLit r::st else
 if c=='t' then Syntax.mkStrLit r::st else
 if c=='d' then T "dotIdent" [A ".",I]::st else
 if c=='@' then T "explicit" [A "@",I]::st else
 if c=='c' then T "anonymousCtor" [A "⟨",mkNullNode ((st.take k).reverse.intersperse (A ",")).toArray,A "⟩"]::st.drop k else
 if c=='l' then N (.mkSimple "term[_]") [A "[",mkNullNode ((st.take k).reverse.intersperse (A ",")).toArray,A "]"]::st.drop k else
 if c=='a' then match st.drop k with|f::s=>T "app" [f,mkNullNode (st.take k).reverse.toArray]::s|_=>st else
 match st with
 |x::s=>
  if c=='!' then N (.mkSimple "term!_") [A "!",x]::s else
  if c=='p' then T "proj" [x,A ".",Syntax.mkLit fieldIdxKind r]::s else
  if c=='q' then T "proj" [x,A ".",I]::s else
  if c=='N' then T "namedArgument" [A "(",I,A ":=",x,A ")"]::s else
  if c=='f' then T "fun" [A "fun",T "basicFun" [mkNullNode (s.take k).reverse.toArray,mkNullNode,A "=>",x]]::s.drop k else
  match s with
  |y::s=>(if c=='>' then T "arrow" [y,A "→",x] else N (.mkSimple ("term_"++r++"_")) [y,A r,x])::s
  |_=>st
 |_=>st
def Tb.tb0:List (List String):=("@A @zo
@E @zx
@D @zd
c0 iaR $0 $1 $2 _ _ irfl f2 a4
@L @zk
bj iaa ipv $0 a1 $1 a2
@J @zy
@C @zs
U _ _ _ _ _ $0 iaU $1 c3 f5
@F @zr
@G ipv n0 a1
j dref $0 a1
ar ibj $0 ibj $1 $2 a2 ! a2 !
aB iupd $0 $1 dlst $2 a1 a3
b0 ii iys iH' _ ic iSqL.of ic.same.get $0 a1 a1 f5
@H ii n1 o+
Y iai iaE $0 a1 a1
@aw is.heap.objs.size n1 o+
C iar $0 $1 iag $2 a1 a3
N iaa $0 iae a2
@N iprs inx a1
W iaH iK NK irfl $0 a3
a4 iisFn iK ij $0 a1 ! a2 itrue o=
@O iaF @D a1
ah ibj $0 iae a2 !
a7 dlst $0 qmap inat a1 a1
@K ipv n1 a1
@R ieP iPr3 a1
aO ii iys iys $0 qmap iV.str a1 o= f2
@S irb iX.prog iX.w a2
@a4 ihr.mono @D a1
@aN ij is.heap.objs.size a1 !
b1 iau iaY _ a1 iaY _ a1 l2 Nσ' irfl $0 a3
@Y dlst iys a1
aS ibj $0 iN $1 a1 ! a2 !
@bu dbuiltin tobject.__setattr__ a1
ci ic0 iaG iK NK irfl a2 $0 $1 a3 !
@aO imixV ic n401 a2 n1000 o%
bH ii iys iH' iCs $0 iH iD ii iys iH' a6 f3
@bF dtup dstr ir p2 p2 p1 a1 dref ir p2 p1 a1 l2 a1
@as ins.map iV.int a1
@X iprs ios a1
bS iInv $0 ipins iσ $1 $2 a5
@aS iN.names.map iV.str a1
@ap ieP iKey iV o× a1
Q is'.get $0 a1
bI ij iys iH' _ ic iSqL.of ic.same.get $0 a1 a1 f5
be _ _ _ _ _ $0 ijP $1 a1 $2 c3 f5
aK iOpR $0 icompareOp $1 a1 $2 a3
aC irch $0 $1 ips.length a3
K ibx.mp $0 a1
@bS tself tknown trow tstate l4
@Q ipv n2 a1
@V ie ies o::
@cN ik iXl o== ienv.scope.kind dfunction o== o&& ienv.kindOf in a1 iaY dcell a1 o== o&&
@be ibe _ a1
@a9 iys iv l1 o++
bl iI1.fpOk $0 iI1.hok.fresh $1 a1 a2
aG dCall dName $0 $1 a2 $2 $3 $4 a4
@Z iaM iK NK irfl @G irfl a4
@P ij ip a1 !
@bG dbuiltin tobject.__class__ a1
a3 iCs.zero $0 irfl a2
@W ij iD a1 !
Z iaa $0 iN $1 a1 ! a2
@cf inmb tn inx.length a2 inmb to ios.length a2 o++
bf iCs.put $0 ic.same.trans $1 a1 $2 $3 $4 $5 a6
a1 ici $0 iah a2 !
aL ibH ieV iK NK $0 $1 $2 $3 $4 $5 $6 a8 a1
@aP izs.map iV.str a1
@U imc _ a1
@a0 itbN iN a1
A dlst $0 a1
@az ieP ikv iV o× a1
bq ienvOfC $0 $1 is.heap.objs.size $2 $3 a5
@bH irs.map ir iV.ref ir p1 a1 f1 a1
bO iau iaY _ a1 iaY _ a1 igg igg l4 Nσ' $0 ? a3
@aU ikv iNat iNat o× >
@T ipv n3 a1
@aA ddK ikvs a1
@aa tself l1
ai dbuiltin $0 a1
@aY ieP ikv ieP ikv a1 o× a1
@bx ij iG.heap.objs.size a1 !
@a8 ia1 @G a1 !
@bq ir p2 p2 p2 qmap iV.str a1
aw ieval $0 iX.env a2
@aQ iX.calm itrue o=
b6 dCall dAttribute $0 $1 $2 a3 $3 $4 $5 a4
O iaQ $0 $1 $2 @be a4
@bg ik imixV ic n403 a2 o+
@ah iG ir l1 o++
@c4 ikvs.any iG idecide iG p1 ik o= a1 f1 a1
aZ iOpR $0 ibinaryOp $1 a1 $2 a3
@bs imixV ic n400 a2 n26 o%
a9 iar $0 $1 iae a3 !
b7 iA $0 qmap iV.str a1 a1 !
@a5 iah n2 a1 !
@ai iNAof ia a1
@b9 iA.handled igg o=
@bh iys iH' ic ? f3
H dtup $0 a1
@c6 iapos.endLine icpos.line o==
@aj dstr iz a1
c4 ibL iag idJ a1 Nosc in17 NON in10 NN n1 Nn l0 Nfx $0 $1 $2 $3 iW $4 a1 ! $5 $6 a12
bB ibackToKw $0 ikeywordEach $1 $2 a2 a2
bT iau iaY _ a1 iaY _ a1 iaY _ a1 iaY _ a1 l4 Nσ' $0 ? a3
E dinl $0 a1
@aZ iν.mono @D a1
@cu ic n2147483647 o% n48271 o* n7919 ik o* o+ n11 o+
@bi ir iM.sm iG iq a2 o^^^
@I iTx iK img ia a3
@M ibS iX iH is a3 !
aq iaJ $0 $1 $2 irfl ? a5
@a1 ineed iN iod a2
@a6 iah n0 a1 !
@a7 ij if a1 !
@aF iA ixs a1 !
b5 ibc idc iK NK $0 a2 $1 $2 $3 $4 a5
@b7 ieP iκ iV o× a1
aD ibackTo $0 ipT $1 iX.env a2 a2
aa iaj $0 $1 $2 $3 iaS $4 $5 a2 ! a5
b2 ic.same.get $0 a1
bJ id5 $0 $1 ii iys iH' ihi ic ? f5 $2 a4
@ad iQ ie a1 !
@bB ieP ieP iKey a1 iV o× a1
@cy tself tins tsums tstores touts l5
@cw ib iX.ex o∈ iX.s₀.heap.objs.size ib o≤ o∨
aE dins iC idx $0 a3
@c3 ia ib ip1.length o<<< o^^^
bE ij iys iys $0 qmap inat a1 o= f2
ab iay $0 iay $1 $2 $3 a3 $4 a3
@cj t_law_cell_here t_law_k l2
bh iaW $0 $1 $2 $3 $4 $5 dnil ibC a8
@ch ifrns iN.names.length n1 o+ a1
M iaB $0 irfl ? a3
G iFnOk iP iw iK img ibase iCX0 $0 $1 $2 $3 $4 a11
@am iE irfl a1 !
@a2 irb iprog iw a2
br ikeepIn iK ij $0 a1 ! a2 itrue o=
@ak iaE ifs a1 !
aY icutN iN $0 $1 a3
a6 igA $0 ihL @D $1 a2 a2
a2 ic0 ia9 iK NK irfl a2 $0 $1 a3 !
@ab ij it a1 !
b3 iaA n1 Ni $0 $1 @E $2 a5
b8 ilo ip1.length $0 a2
@bO ir iV.ref ir p1 a1 f1
@bN tself tknown l2
ao ina.same $0 a1
@bj iK iw.params a1
aR iM.pl n1000 $0 a2
bg iSame iH $0 a2
@al iah n1 a1 !
ay iaq $0 iT.ax $1 a3 !
@ba _ irfl c2
@bA dtype tlist a1
an ihC.mpr $0 a1
c6 $0 qfilter iz idecide iz iN.names o∈ a1 ! f1 a1
bA iassignEach $0 iX.env a2
@b0 iNat iNat o×
@bL ik ip1.length o-
@bU ia isysModules o==
F iPE iX $0 $1 a3
I dinr $0 a1
bW iau iaY _ a1 igg igg l3 Nσ' $0 ? a3
@bW iI.hok.fresh @U a1
@cl iqs.map iq iV.ref iq p1 a1 f1 a1
@cP t_law_cell_here t_law_many t_law_width l3
@ck tself trows tstate l3
@ci ip1.length ip2.length o+
cf iswapsWith ivalue iaY $0 a1 ipos.line iX.env a4 ipure ifalse a1 o=
@aG iH ixs a1 !
ad iSqL.of $0 a1
ae iKx.upd $0 a1
af ilf.map $0 a1
@aV ivs idvs o++
@bX ieP iKey a1 iee ii' o× o×
bV dbuiltin ttype.__call__ $0 a2
@bM _ _ iFalse f2
@bI ikn.map iV.str a1
@aB iN @Z a1 !
@b8 iG.take ii a1
@ao ibg iH2 a1 !
@af ij ia a1 !
@bC ijX iK NK irfl a2
@cF iH dstr iq p2 p1 a1 dstr iq p2 p2 a1 l2 a1 !
@cI imixV ic n401 a2 n1000 o% n37 ik o* o+
@c9 ivs iH iQ iE ih ? f5
@aL ieP iEnv a1
bQ ii iys iys $0 qmap iV.bl a1 o= f2
aF iI.ok.hd $0 a1
V iupd iH $0 $1 a3
bi iaA n4 Ni $0 $1 @E $2 a5
@cC igg igg irfl iSame.refl _ a1 c4
@bE _ _ irfl f2
@cD ip1.length ip2.length o+ n1 o+
@bD iiv ij ? f1 a1
@ay icU iae a1
bR iug iK NK n2 Nn $0 $1 icc $2 $3 a2 a5
bK iN.sts.map iq $0 f1 a1
@cH dtype tmethod_descriptor a1
ba iN.outs.map $0 a1
@d7 ibinT iha ihb iI ih iv iu iG ix iy iH2 iZ iY iL iq iho ipins iG iσ iH2 ix iy iv iu iQ iZ iY iL iq a13 f10 a5
aI iaj $0 $1 $2 $3 iN $4 a1 ! a5
bc dcons $0 dnil a2
@cU inmb tn ips.length a2 inmb to ios.length a2 o++
@bQ iV.str.inj ie a1
@bP ir.map iV.str a1
aP iaq $0 iT.cA $1 a3 !
@aD n2 iw o^
ch iau iaY _ a1 iaY _ a1 iaY _ a1 iaY _ a1 igg igg l6 Nσ' $0 ? a3
@d5 t_law_cell_here t_law_start t_law_many t_law_width t_law_digits l5
ca ii iys iH' iCs $0 iH4 iD5 ii iys iH' a6 f3
@bd irs ir l1 o++
bM $0 qstop ii iH2 a2 iQ iH2 a1 o∧
@d2 dint _ a1 iH iI.tok _ a1 _ irfl c2 iq c5
aV imixV ic $0 a2
bw ibc ieM iK NK $0 a2 $1 $2 $3 $4 a5
J iy5 iX iG $0 a3
@ae ij iC a1 !
bk ikI iK NK irfl $0 a3
bn iaq n4 Ni $0 $1 @E a4
@aC ij il a1 !
@bV dtype ttype a1
@bT iws.map iV.str a1
bX ie is' iR derror $0 a1 is' a2 f2
@cr iI1.kept iG.toks Nt' ihk a2
@bz iH ip a1 iaY @aA a1 o=
bD iaI $0 qmap inat a1 Nxs $1 $2 $3 $4 $5 a6
aT iY ic6 $0 a1 a1 !
X iaB $0 iD $1 a3 !
@c5 is.heap.push iXU a1
c5 $0 qreverse qmap ir iV.ref ir p1 a1 f1 a1
@aq ipv n4 a1
aM iiR ifM $0 a1 a1
ax iaj $0 $1 $2 $3 ia9 $4 $5 a2 ! a5
@bJ iη.mono @D a1
bU ij dlst $0 qmap inat a1 a1 f1
bt iM.stj $0 iM.sg0 $1 $2 a2 $3 a3
bu inms $0 $1 iG.length a3
@d4 ik iXl o== ienv.scope.kind dfunction o== o&& ienv.kindOf iy a1 iaY dcell a1 o== o&&
al idz $0 iai $1 a1 ibg a3
@cR iH dstr tapart a1 inat iθ a1 inat it' a1 l3 a1 !
@c7 iys iH5 ic ? f3
@c2 tone tother l2
@c8 tself tname l2
@cg iq n2 iG.length o^ o<
bC is.heap.update $0 $1 a2
@cq iX.A.units n1 o+ icLine o<
@aJ iag ist a1
@cs iP ias.length n1 o+ o<<<
@bk iI.tok _ a1
c7 ii iys iH' _ ic iSqT.of ib2 $0 a1 ! a1 f5
@cO tself tinputs tnexts touts l4
L iao ie $0 a2
@aX iK ihz a1 !
ce iau iaY _ a1 iaY _ a1 iaY _ a1 igg igg l5 Nσ' $0 ? a3
@cv ij iv iys iH6 ihv ic ? f6
@an imsk ips ios a2
@aH iau iaY _ a1 l1 Nσ' irfl ? a3
bm iaA n5 Ni $0 irfl $1 $2 a5
c8 iv iH2 iv dnon o= iQ ij $0 a1 ! iH2 a2 o∧ f2
a5 iaP iaZ iK NK irfl a2 @F iT.gN ip' $0 a5
bP iH inat $0 p1 a1 inat $1 p2 a1 l2 a1 !
@cz ies.map ie ie p1 qlog2 f1 a1
@cx dbl _ a1 iH iI irfl ? c5
@ct ian _ ieO ihk a1 irfl c3 a1 !
@bK iH il a1 iaY @aF a1 o=
bz ixs.getD $0 dnon a2
c3 irI0 ii ij dbl idecide $0 a1 a1 f2 a1
@cQ tself tname twire tnumber l4
@aR ik n1 o+
@aT ix iy o^^^
@bR im n2 iw o^ o<
bZ ibH ii iys iys $0 qmap inat a1 o= f2 a1 !
@co iN.ins.map iV.str a1
bF dListComp $0 $1 $2 ipos a4
@d8 t_law_cell_here t_law_start t_law_names t_law_digits l4
@bb ius ids o++
cj ir is' ir dok $0 a1 o= iOldK iG.heap is'.heap a2 is'.os iG.os o= iAllBare is'.gens a1 o∧ o∧ o∧ f2
@ca iμ n1 o+ n2 o/
@cT iai tgetset_descriptor.__get__ a1 !
@bc dint ii a1
@cZ tins tsums tstores touts l4
@bt ikv iNat >
bL ipn.mem_iff.mp $0 a1
@cA is.heap.objs.size ia o≤
@cE iA.units n1 o+ icLine o<
b4 iY.getD $0 n0 a2
cg iau iaY _ a1 iaY _ a1 igg igg igg l5 Nσ' $0 ? a3
@b1 iaE l0 a1 !
@cB iXd ix ix.push iXj a1 f1 a1
aU dName ix $0 a2
@bZ dbool itrue a1
aN icB @F iT.eg $0 a3
bo iPW.pt irA $0 $1 a2 a1
@cW imixV ic n401 a2 n1000 o% n37 n90 o* o+
@aW n2 ij o^
@d6 iHT.sIx ixs.length ixs.length ihi a3 iHT.sIx ixs.length n0 ilo a3 o-
@cm ii' ii' iSem ii' a1 > >
aX idz $0 iY $1 a1 ! $2 a3
@d9 t_law_net_one t_law_wire t_law_fresh t_law_cells l4
@cM inu ? il iw iih ? f3 a2
cc iw ihw isM iG ifx ir ifs iw $0 a6 f2
@a3 iG _ @D a2
@au isg0 ips im a2
am iaA n3 Ni $0 irfl @E $1 a5
av itr2 ips $0 $1 a3
bx dBoolOp $0 $1 ipos a3
@c1 iδ.mono @D a1
@aE ipv n5 a1
@bv iaV n401 a1 !
az ibh @G iT.cA $0 $1 $2 $3 a6 !
@d3 iA ips.map iq iV.ref iq p1 a1 f1 a1 a1 !
@cn iH dint ii a1 ix l2 a1 !
aH iRelV $0 iu a2
aW irs.take $0 a1
@bo inx ios o++
@cX tmachine tplaces tturns l3
bY iaI ids.map iV.ref a1 Nxs $0 $1 $2 $3 $4 a6
@cd irfl irfl c2
@bl dref ip a1 l1
bv iws.getD $0 t a2
bN iM.wan $0 $1 $2 iM.pulse $3 $4 a2 a4
bG iTopo iN.sums $0 a2
@ce n2 ij n1 o+ o^
@cc ieP iκ ii' o× a1
bb is'.trans $0 a1
c2 ikK dint n6 a1 Nv @F $0 $1 a4
@cp iys iH3 ic ? f3
aJ $0 qtake ii a1
@d0 tthing tstores tinputs l3
@cV ixs.length izs.length o+ iic o≤
@cG iX.A.units icLine o<
@bp iN ibE a1 !
@b3 iprs iG a1
bd ibh $0 $1 $2 $3 $4 iT.aV p2 a6 !
@cJ ian _ ihk irfl c3 a1 !
@bn iK ihk a1 !
@bf if' @A a1
@aI iaY iv a1
@b6 ieqU ix a1
@d1 iai ttype.__getattribute__ a1 !
@bm iW @K a1 !
@b5 ij id a1 !
aA ic8 $0 $1 @C a3
ak iV.ref $0 a1
aj dtype $0 a1
@cY iGV iosc iON iN in ifx isc a6 itrue o=
c1 irI0 ii ij dint $0 a1 f2 a1
ag iY $0 a1 !
@ag iaY iw if a2 !
@ax ijnp iα iL a2
@av ilst_ ips ios im a3
au idk iK NK irfl @G $0 irfl a5
@c0 iH ix iy l2 a1 !
@b2 ij iS a1 !
aQ is6.get $0 a1
c9 ichs ips ios im iF $0 qlength a5
@cK il.cps.toList ic l1 o=
@cL dref iC a1 ius o:: iG c2
@br itbN iδ a1
@aK ipx _ a1
@bw iprs iα a1
@aM ihK ie a1
@ar ilkL ips ios im a3
ap iaA n2 Ni $0 irfl @E $1 a5
@cb imX iK NK irfl a2
b9 itr2_lt _ $0 $1 a3
@bY ieR.mpr irfl a1
@b4 iau iaY _ a1 iaY _ a1 iaY _ a1 l3 Nσ' irfl ? a3".splitOn "\n").map (·.splitOn " ")
open Lean in
def Tb.dc0(m:String)(as:Array Syntax):MacroM Syntax:=
 match Tb.tb0.find? (·.head! ==m) with
 |some r=>return (r.tail!.foldl (Tb.st0 as) []).head!
 |none=>Macro.throwUnsupported
set_option hygiene false in
local macro_rules
|`(@$x:ident)=>Tb.dc0 ("@"++x.getId.toString) #[]
|`(!$x:ident $a*)=>Tb.dc0 x.getId.toString (a.map (·.raw))
set_option hygiene false in
local macro_rules
|`(@zd)=>`((by decide))
|`(@zk)=>`((by decide +kernel))
|`(@zo)=>`((by omega))
|`(@zr)=>`((by rfl))
|`(@zs)=>`((by simp))
|`(@zy)=>`((by walk_at "b"))
|`(@zx)=>`((by walk_at "o"))
set_option hygiene false in
local macro_rules
|`(!bp $a $b $c)=>`((!U (aq (i:=0) (show hM (n10:B') from by decide +kernel) $a $b) $c))
local macro_rules | `(tactic| lia) => `(tactic| walk_at "l2")
set_option linter.all false
set_option maxRecDepth 100000
namespace L2
open PySem PySem.Spec PyProof.Rows
noncomputable abbrev Key:=Sum Int kv
noncomputable def CQ:Key->i'->Xb
 | .inl k,v=>au4 k v
 | .inr x,v=>as6 x v
noncomputable def keyH (w:z5):Key->Int
 | .inl k=>hashInt k
 | .inr x=>hashStr w x
theorem dP:∀{k:Key} {v:i'},CQ k v=true->(∃i t,k=Xv i/\v=aj2 i t)∨(∃x t,k=xY x/\v=ae8 x t)
 | .inl i,v,h=>by
   obtain⟨t,e⟩:=Value.isInt_shape (k:=i) (v:=v) h;exact !E ⟨i,t,rfl,e⟩
 | .inr x,v,h=>by
   obtain⟨t,e⟩:=Value.isStrOf_shape (x:=x) (v:=v) h;exact !I ⟨x,t,rfl,e⟩
theorem LJ (i:Int) (t:Tok):CQ (!E i) (.int i t)=true:=by simp[CQ,au4]
theorem LI (x:kv) (t:Tok):CQ (!I x) (.str x t)=true:=by simp[CQ,as6]
theorem U9 (a b:Int):decide ((Xv a:Key)=Xv b)=(a == b):=by
 by_cases e:a=b
 ·subst e;simp
 ·have h:¬(Xv a:Key)=Xv b:=λq=>e (as7 q);rw[f' h];exact(W2.mpr e).symm
theorem U6 (a b:kv):decide ((xY a:Key)=xY b)=decide (a=b):=by
 by_cases e:a=b
 ·subst e;simp
 ·have h:¬(xY a:Key)=xY b:=λq=>e (Zy q);rw[f' h,f' e]
theorem U8 (a:Int) (b:kv):decide ((Xv a:Key)=xY b)=false:=f' (λq=>nomatch q)
theorem U7 (a:kv) (b:Int):decide ((xY a:Key)=Xv b)=false:=f' (λq=>nomatch q)
noncomputable def dN (prog:ry) (w:z5):PySem.KeyKind prog w Key where
 is:=CQ
 hash:=keyH w
 inj:=λv a b ha hb=>by
  rcases dP ha with ⟨i,t,rfl,rfl⟩ | ⟨x,t,rfl,rfl⟩
  ·rcases dP hb with ⟨j,u,rfl,e⟩ | ⟨y,u,rfl,e⟩
   ·injection e with G _;rw[G]
   ·exact nomatch e
  ·rcases dP hb with ⟨j,u,rfl,e⟩ | ⟨y,u,rfl,e⟩
   ·exact nomatch e
   ·injection e with G _;rw[G]
 byValue:=λk v h=>by
  rcases dP h with ⟨i,t,rfl,rfl⟩ | ⟨x,t,rfl,rfl⟩<;>rfl
 pyHash:=λL h=>by
  rcases dP L with ⟨i,t,rfl,rfl⟩ | ⟨x,t,rfl,rfl⟩
  ·exact wpAny_pyHash_int h
  ·exact wpAny_pyHash_str h
 eqBool:=λY L h=>by
  rcases dP Y with ⟨i,t,rfl,rfl⟩ | ⟨x,t,rfl,rfl⟩
  ·rcases dP L with ⟨j,u,rfl,rfl⟩ | ⟨y,u,rfl,rfl⟩
   ·rw[U9] at h;exact wpAny_eqBool_int h
   ·rw[U8] at h;exact aj5 i t y u _ _ _ _ h
  ·rcases dP L with ⟨j,u,rfl,rfl⟩ | ⟨y,u,rfl,rfl⟩
   ·rw[U7] at h;exact aj4 x t j u _ _ _ _ h
   ·rw[U6] at h;exact wpAny_eqBool_str h
 «strs»:=λk x t v h=>by
  rcases dP h with ⟨i,u,rfl,e⟩ | ⟨y,u,rfl,e⟩
  ·exact nomatch e
  ·injection e with G _
   subst G
   cases v<;>rfl
theorem Fb (prog:ry) (w:z5) (i:Int) (t:Tok):(dN prog w).is (!E i) (.int i t)=true:=LJ i t
theorem E9 (prog:ry) (w:z5) (x:kv) (t:Tok):(dN prog w).is (!I x) (.str x t)=true:=LI x t
inductive V where
 | non | bl (b:Xb) | int (i:Int) | str (x:kv) | byt (b:ar5 UInt8) | flt (b:UInt64) | ref (a:ee) | ty (n:X9)
 deriving DecidableEq
noncomputable def RelV:V->i'->Prop
 | .non,u=>u=Xj
 | .bl b,u=>u=an7 b
 | .int i,u=>∃t,u=aj2 i t
 | .str x,u=>∃t,u=ae8 x t
 | .byt b,u=>∃t,u=au6 b t
 | .flt b,u=>∃t,u=au5 b t
 | .ref a,u=>u=vu a
 | .ty n,u=>u=Zt n
noncomputable abbrev Vals:eP V->E'->Prop:=Paired RelV
theorem Vals.length {xs:eP V} {us:E'} (r:Vals xs us):xs.length=us.length:=ah4 r
theorem Vals.get:∀{xs:eP V} {us:E'} {i:Nat} {x:V},Vals xs us->xs[i]? =aY x->∃u,us[i]? =aY u/\RelV x u
 | _,_,_,_,.nil,e=>by simp at e
 | _,_,0,_,.cons r _,e=>by simp at e;subst e;exact⟨_,rfl,r⟩
 | _,_,i + 1,x,.cons _ t,e=>by
   obtain⟨u,h1,h2⟩:=Vals.get (i:=i) (x:=x) t (by simpa using e);exact⟨u,by simpa using h1,h2⟩
theorem Vals.append:∀{xs ys:eP V} {us ws:E'},Vals xs us->Vals ys ws->Vals (xs++ys) (us++ws)
 | _,_,_,_,.nil,s=>s
 | _,_,_,_,.cons r t,s=> .cons r (Vals.append t s)
theorem Vals.take:∀{xs:eP V} {us:E'} (n:Nat),Vals xs us->Vals (xs.take n) (us.take n)
 | _,_,0,_=> .nil
 | _,_,_ + 1,.nil=> .nil
 | _,_,n + 1,.cons r t=> .cons r (Vals.take n t)
theorem Vals.drop:∀{xs:eP V} {us:E'} (n:Nat),Vals xs us->Vals (xs.drop n) (us.drop n)
 | _,_,0,r=>r
 | _,_,_ + 1,.nil=> .nil
 | _,_,n + 1,.cons _ t=>Vals.drop n t
noncomputable def RelO:vr V->V'->Prop
 | some v,aY u=>RelV v u
 | none,gg=>True
 | _,_=>False
noncomputable def KV {κ:Type}:eP (κ×V)->eP (κ×i')->Prop:=Paired λ(p:κ×V) (q:κ×i')=>p.1=q.1/\RelV p.2 q.2
noncomputable def kV:Key->V
 | .inl i=> .int i
 | .inr x=> .str x
inductive HO where
 | lst (xs:eP V)
 | tup (xs:eP V)
 | dK (kvs:@ap) | dT (kvs:@bB)
 | set (S:Int->Xb) (n:Nat)
 | ins (C dx:ee) (fs:@az)
 | own (x:ee)
 | xd (fs:@az)
 | met (f x:ee)
 | rng (lo hi:Int)
 | frz (o:Obj) (u:HO)
 | tbl (ps:G')
 | ext (φ:WN->Prop)
noncomputable abbrev Hp:=ee->vr HO
noncomputable def upd (H:Hp) (a:ee) (o:HO):Hp:=λb=>if b=a then aY o else H b
theorem aw {H:Hp} {a:ee} {o:HO}:upd H a o a=aY o:=by unfold upd;rw[lx rfl]
theorem aD {H:Hp} {a b:ee} {o:HO} (h:b≠a):upd H a o b=H b:=by unfold upd;rw[kf h]
theorem cy {H:Hp} {a b:ee} {o u:HO} (h:H a=aY o) (h':H b=aY u) (d:o≠u):a≠b:=by
 intro e;subst e;rw[h] at h';exact d (qA h')
theorem ao {H:Hp} {a b:ee} {o:HO} (h:H a=aY o) (h':H b=gg):a≠b:=by
 intro e;subst e;rw[h] at h';cases h'
section
variable (P:ry) (w:z5)
noncomputable def iu (H:Hp) (h:WN) (a:ee):HO->Prop
 | .lst xs=>xs.length<=ic/\∃(its:E') (n:Nat),Vals xs its/\h.get? a=aY {cls:= .type "list",data:= .seq its.toArray n}
 | .tup xs=>xs.length<=ic/\∃its:E',Vals xs its/\IsTup h a its.toArray
 | .dK kvs=>kvs.length<=ic/\@bU=false/\∃vs,KV kvs vs/\h.DictOf (dN P w) a vs
 | .dT kvs=>kvs.length<=ic/\@bU=false/\∃xs:eP @bX,
   Paired (λ(p:eP Key×V) (q:eP Key×ee×i')=>p.1=q.1/\H q.2.1=aY (!H (p.1.map kV))/\RelV p.2 q.2.2) kvs xs/\
   ∃o es ep,h.get? a=aY o/\o.ExactDict/\o.data= .dict es ep/\es.toList=xs.map (entryOfKey (tupleKind (dN P w)))/\(xs.map (·.1)).Nodup
 | .set S n=>h.SetOf (intKind P w) a S n
 | .ins C dx fs=>H dx=aY (.own a)/\fs.length<=1000/\dx≠a/\h.get? a=aY (Y9 C dx)/\
   ∃mA,h.Ns1 dx mA/\(∀f,RelO (fs.lookup f) (mA f))/\ak0 mA (fs.map (·.1))
 | .own _=>∃o,h.get? a=aY o
 | .xd fs=>∃mA,h.Ns1 a mA/\∀f,RelO (fs.lookup f) (mA f)
 | .rng lo hi=>∃t u v,h.get? a=aY {cls:= .type "range",data:= .fields #[.int lo t,.int hi u,.int 1 v]}
 | .frz o u=>h.get? a=aY o/\iu H h a u
 | .tbl ps=>h.get? a=aY {cls:= .none,data:= .fields ps}
 | .met f x=>h.get? a=aY (ad3 @a7 (!j x))
 | .ext φ=>φ h/\(∃o,h.get? a=aY o)/\∀h1 h2:WN,φ h1->(∀o,h1.get? a=aY o->h2.get? a=aY o)->φ h2
def HOk (H:Hp) (h:WN):Prop:=∀a o,H a=aY o->iu P w H h a o
end
section
variable {P:ry} {w:z5} {H H':Hp} {h h':WN} {a:ee} {o:HO}
theorem iu.lt (x:iu P w H h a o):a < h.objs.size:=by
 cases o with
 | lst xs=>obtain⟨_,_,_,_,e⟩:=x;exact hK e
 | tup xs=>obtain⟨_,_,_,p⟩:=x;exact p.lt
 | dK kvs=>obtain⟨_,_,_,_,o,_,_,e,_⟩:=x;exact hK e
 | dT kvs=>obtain⟨_,_,_,_,o,_,_,e,_⟩:=x;exact hK e
 | set S n=>obtain⟨o,_,_,_,e,_⟩:=x;exact hK e
 | ins C dx fs=>obtain⟨_,_,_,e,_⟩:=x;exact hK e
 | own y=>obtain⟨_,e⟩:=x;exact hK e
 | xd fs=>obtain⟨_,⟨_,_,_,e,_⟩,_⟩:=x;exact hK e
 | rng lo hi=>obtain⟨_,_,_,e⟩:=x;exact hK e
 | frz ob u=>obtain⟨e,_⟩:=x;exact hK e
 | tbl ps=>exact hK (show h.get? a=aY _ from x)
 | met f y=>exact hK (show h.get? a=aY _ from x)
 | ext φ=>obtain⟨_,⟨_,e⟩,_⟩:=x;exact hK e
theorem Paired.mapP {α β:Type} {F G:α->β->Prop}:∀{l₁:eP α} {l₂:eP β},Paired F l₁ l₂->(∀a b,F a b->G a b)->Paired G l₁ l₂
 | _,_,.nil,_=> .nil
 | _,_,.cons r t,f=> .cons (f _ _ r) (Paired.mapP t f)
theorem iu.stay (x:iu P w H h a o) (k:∀b u,(b=a∨H b=aY (.own a))->h.get? b=aY u->h'.get? b=aY u)
  (ho:∀b,H b=aY (.own a)->H' b=aY (.own a)) (ht:∀b xs,H b=aY @aG->H' b=aY @aG):iu P w H' h' a o:=by
 induction o with
 | lst xs=>obtain⟨z,its,n,r,e⟩:=x;exact⟨z,its,n,r,k _ _ @am e⟩
 | tup xs=>obtain⟨z,its,r,ob,e,c⟩:=x;exact⟨z,its,r,ob,k _ _ @am e,c⟩
 | dK kvs=>obtain⟨z,y,vs,r,ob,es,ep,e,c⟩:=x;exact⟨z,y,vs,r,ob,es,ep,k _ _ @am e,c⟩
 | dT kvs=>
   obtain⟨z,y,xs,r,ob,es,ep,e,c⟩:=x;exact⟨z,y,xs,Paired.mapP r λp q z=>⟨z.1,ht _ _ z.2.1,z.2.2⟩,ob,es,ep,k _ _ @am e,c⟩
 | set S n=>obtain⟨ob,es,ep,t,e,c⟩:=x;exact⟨ob,es,ep,t,k _ _ @am e,c⟩
 | ins C dx fs=>
   obtain⟨d,z,ne,e,mA,⟨od,es,ep,G,c⟩,r⟩:=x;exact⟨ho _ d,z,ne,k _ _ @am e,mA,⟨od,es,ep,k _ _ (!I d) G,c⟩,r⟩
 | own y=>obtain⟨ob,e⟩:=x;exact⟨ob,k _ _ @am e⟩
 | xd fs=>obtain⟨mA,⟨od,es,ep,e,c⟩,r⟩:=x;exact⟨mA,⟨od,es,ep,k _ _ @am e,c⟩,r⟩
 | rng lo hi=>obtain⟨t,u,v,e⟩:=x;exact⟨t,u,v,k _ _ @am e⟩
 | frz ob u ih=>obtain⟨e,q⟩:=x;exact⟨k _ _ @am e,ih q⟩
 | tbl ps=>
   have e:h.get? a=aY {cls:= .none,data:= .fields ps}:=x;show h'.get? a=aY {cls:= .none,data:= .fields ps};exact k a _ @am e
 | met f y=>
   have e:h.get? a=aY (ad3 @a7 (!j y)):=x;show h'.get? a=aY (ad3 @a7 (!j y));exact k a _ @am e
 | ext φ=>obtain⟨p,⟨o,e⟩,st⟩:=x;exact⟨st _ _ p λo q=>k _ _ @am q,⟨o,k _ _ @am e⟩,st⟩
theorem HOk.lt (x:HOk P w H h) (e:H a=aY o):a < h.objs.size:=(x a o e).lt
theorem HOk.fresh (x:HOk P w H h) (e:h.objs.size<=a):H a=none:=by
 cases q:H a with
 | none=>rfl
 | some u=>exact hE (gA (x.lt q) e) (Y2 _)
theorem HOk.kept (x:HOk P w H h) (k:∀b u,h.get? b=aY u->h'.get? b=aY u):HOk P w H h':=λa o e=>
 (x a o e).stay (λb u _ q=>k b u q) (λ_ q=>q) λ_ _ q=>q
theorem HOk.laid (x:HOk P w H h) (k:∀b u,h.get? b=aY u->h'.get? b=aY u) (G:h.objs.size<=a) (δ:iu P w (!V a o) h' a o):HOk P w (!V a o) h':=λb u e=>by
 have hn:=x.fresh G;by_cases hb:b=a
 ·subst hb;rw[aw] at e;cases e;exact δ
 ·rw[aD hb] at e;exact(x b u e).stay (λc v _ q=>k c v q) (λc q=>by rw[aD (ao q hn)];exact q) λc xs q=>by rw[aD (ao q hn)];exact q
end
def Rd (H:Hp) (a:ee) (u:HO):Prop:=H a=aY u∨∃o,H a=aY (.frz o u)
theorem Rd.ok {P:ry} {w:z5} {H:Hp} {h:WN} {a:ee} {u:HO} (r:Rd H a u) (x:HOk P w H h):iu P w H h a u:=by
 rcases r with r | ⟨o,r⟩
 ·exact x a u r
 ·obtain⟨_,q⟩:=x a _ r;exact q
noncomputable def Mut:vr HO->Prop
 | some (.lst _)=>True
 | some (.dK _)=>True
 | some (.dT _)=>True
 | some (.set _ _)=>True
 | some (.ins _ _ _)=>True
 | some (.ext _)=>True
 | _=>False
section
variable {P:ry} {w:z5} {H:Hp} {h h':WN} {x e:ee} {o':HO}
theorem HOk.write (ok:HOk P w H h) (Y:Mut (H x)) (he:e=x∨H e=aY (.own x)) (k:∀b u,b≠e->h.get? b=aY u->h'.get? b=aY u) (Z:∃u,h'.get? e=aY u)
  (δ:iu P w (!V x o') h' x o'):HOk P w (!V x o') h':=λb u q=>by
 have L:∀c y,H c=aY (.own y)->c≠x:=λc y r z=>by subst z;rw[r] at Y;exact Y
 have ζ:∀c xs,H c=aY @aG->c≠x:=λc xs r z=>by subst z;rw[r] at Y;exact Y
 by_cases hb:b=x
 ·subst hb;rw[aw] at q;cases q;exact δ
 ·rw[aD hb] at q;by_cases G:b=e
  ·have ε:H b=aY (.own x):=by
    rcases he with z | z
    ·exact hE (G.trans z) hb
    ·rw[G];exact z
   rw[q] at ε;cases ε;obtain⟨v,α⟩:=Z;exact⟨v,by rw[G];exact α⟩
  ·refine(ok b u q).stay (λc v hc r=>k c v ?_ r) (λc r=>by rw[aD (L c b r)];exact r) λc xs r=>by rw[aD (ζ c xs r)];exact r
   rcases hc with rfl | hc
   ·exact G
   ·rintro rfl;rcases he with z | z
    ·exact L c b hc z
    ·rw[hc] at z;cases z;exact hb rfl
end
structure Un (fs ex:M') (H H':Hp) (h h':WN):Prop where
 keep:∀b o,h.get? b=aY o->H b=gg->b∉fs->b∉ex->h'.get? b=aY o
 slot:∀b o,h.get? b=aY o->H b=gg->b∈fs->b∉ex->∃sl,h'.get? b=aY {o with slots:=sl}
 free:∀b o,h.get? b=aY o->H b=gg->b∉ex->H' b=gg
 there:∀b o,h.get? b=aY o->b∉ex->∃o',h'.get? b=aY o'
 tups:∀b xs,H b=aY @aG->H' b=aY @aG
 frzs:∀b o u,H b=aY (.frz o u)->H' b=aY (.frz o u)
 tbls:∀b ps,H b=aY (.tbl ps)->∃more,H' b=aY (.tbl (ps++more))
section
variable {fs fs' ex ex':M'} {H H1 H2:Hp} {h h1 h2 h':WN} {a x e:ee} {o:HO}
theorem Un.any (u:Un fs ex H H1 h h1) {b:ee} {ob:Obj} (q:h.get? b=aY ob) (n:H b=gg) (hx:b∉ex):∃G,h1.get? b=aY {ob with slots:=G}:=by
 by_cases hb:b∈fs
 ·exact u.slot b ob q n hb hx
 ·exact⟨ob.slots,u.keep b ob q n hb hx⟩
theorem Un.kept (k:∀b u,h.get? b=aY u->h'.get? b=aY u):Un fs ex H H h h':=
 ⟨λb ob q _ _ _=>k b ob q,λb ob q _ _ _=>⟨ob.slots,k b ob q⟩,λ_ _ _ n _=>n,λb ob q _=>⟨ob,k b ob q⟩,λ_ _ q=>q,λ_ _ _ q=>q,λ_ ps q=>⟨#[],by rw[q];simp⟩⟩
theorem Un.refl:Un fs ex H H h h:=Un.kept λ_ _ q=>q
theorem Un.laid (k:∀b u,h.get? b=aY u->h'.get? b=aY u) (G:h.objs.size<=a) (hn:H a=gg):Un fs ex H (!V a o) h h' where
 keep:=λb u q _ _ _=>k b u q
 slot:=λb u q _ _ _=>⟨u.slots,k b u q⟩
 free:=λb u q n _=>by rw[aD (y1 (gA (hK q) G))];exact n
 there:=λb u q _=>⟨u,k b u q⟩
 tups:=λb xs q=>by rw[aD (ao q hn)];exact q
 frzs:=λb u xs q=>by rw[aD (ao q hn)];exact q
 tbls:=λb ps q=>⟨#[],by rw[aD (ao q hn),q];simp⟩
theorem Un.write (L:Mut (H x)) (he:e=x∨H e=aY (.own x)) (k:∀b u,b≠e->h.get? b=aY u->h'.get? b=aY u) (Y:∃u,h'.get? e=aY u):Un fs ex H (!V x o) h h':=by
 have Z:∀b,H b=gg->b≠x:=λb n z=>by subst z;rw[n] at L;exact L
 have hb:∀b,H b=gg->b≠e:=λb n z=>by
  subst z;rcases he with r | r
  ·exact Z b n r
  ·rw[n] at r;cases r
 have hm:∀b u,H b=aY u->¬Mut (aY u)->b≠x:=λb u q nm z=>by subst z;rw[q] at L;exact nm L
 refine⟨λb u q n _ _=>k b u (hb b n) q,λb u q n _ _=>⟨u.slots,k b u (hb b n) q⟩,λb u q n _=>by rw[aD (Z b n)];exact n,λb u q _=>?_,
  λb xs q=>by rw[aD (hm b _ q λz=>z)];exact q,λb u xs q=>by rw[aD (hm b _ q λz=>z)];exact q,λb ps q=>⟨#[],by rw[aD (hm b _ q λz=>z),q];simp⟩⟩
 by_cases G:b=e
 ·subst G;exact Y
 ·exact⟨u,k b u G q⟩
end
noncomputable def trk (h:WN) (H:Hp):M':=(qB h.objs.size).filter λa=>(H a).isSome
noncomputable def hidT (h:WN) (H:Hp):Heap:=PySem.W.hideAll h (trk h H)
theorem LR (h:WN) (H:Hp):(hidT h H).objs.size=h.objs.size:=PySem.W.hideAll_size _ _
theorem OT {h:WN} {H:Hp} {b:ee} {o:Obj} (e:h.get? b=aY o) (n:H b=gg):(hidT h H).get? b=aY o:=
 PySem.W.hideAll_get _ e λhm=>by
  have q:(H b).isSome=true:=(Xs.mp hm).2;rw[n] at q;simp at q
theorem RP {h:WN} {H:Hp} {b:ee} {o:Obj} (e:(hidT h H).get? b=aY o):h.get? b=aY o/\H b=none:=by
 have G:h.get? b=aY o:=PySem.W.of_hideAll (trk h H) e;refine⟨G,?_⟩;cases q:H b with
 | none=>rfl
 | some x=>
   have hm:b∈trk h H:=Xs.mpr ⟨W9.mpr (hK G),by simp[q]⟩;have z:(hidT h H).get? b=none:=PySem.W.hideAll_none (trk h H) hm;rw[z] at e;cases e
noncomputable def SC (g h:WN) (L:ee):D':=(qB h.objs.size).filterMap λa=>if a=L∨(g.get? a).isSome=true then gg else (h.get? a).map λo=>(a,o)
noncomputable def rest (g h:WN) (L d:ee):D':=(SC g h L).filter λp=>decide (p.1≠d)
structure Mod (K:b') (mg:F') (base:WN):Prop where
 kin:K.In base
 glob:base.Ns W8 mg
 blt:∃mb,base.Ns builtinsNs mb/\∀x:kv,x≠"__name__"->mb x=bootBuiltins x
 nolimit:base.NoLimit
structure Cx where
 prog:ry
 w:z5
 K:b'
 mg:F'
 base:WN
 A:W6
 N:B'
 s₀:ik
 H₀:Hp
 env:Env
 outer:eP Env
 stack:eP Env
 ex:M'
 fn:R'
 calm:Xb
 pn:D'
 xe:Cr
noncomputable def frs (l:@aL):M':=l.filterMap (·.frame)
noncomputable abbrev Cx.fs (X:Cx):M':=frs X.outer
def Vis (G:Yp) (x:kv):Prop:=G.names.lookup x=aY .local∨G.names.lookup x=aY .cell∨G.names.lookup x=aY .free
def Loc (G:Yp) (x:kv):Prop:=G.names.lookup x=aY .local∨G.names.lookup x=aY .cell
def Look (env:Env) (h:WN) (m:F') (x:kv) (u:i'):Prop:=
 (env.kindOf x=aY .local/\m x=aY u)∨((env.kindOf x=aY .cell∨env.kindOf x=aY .free)/\∃c,env.cells.lookup x=aY c/\h.IsCell c (aY u))
structure Cx.Ok (X:Cx):Prop where
 mod:Mod X.K X.mg X.base
 kind:X.env.scope.kind= .function
 glob:X.env.globals=W8
 blt:X.env.builtins=builtinsNs
 above:X.s₀.heap.objs.size<=X.env.locals
 inj:∀x y c,X.env.cells.lookup x=aY c->X.env.cells.lookup y=aY c->x=y
 has:∀x,(X.env.kindOf x=aY .cell∨X.env.kindOf x=aY .free)->∃c,X.env.cells.lookup x=aY c
 cab:∀x c,X.fn x=true->X.env.cells.lookup x=aY c->X.s₀.heap.objs.size<=c
 hd:X.calm=true->X.A.handled=gg
 frames:X.A.frames=aY X.stack
 stk:X.stack=X.outer∨(X.stack=X.env::X.outer/\X.env.frame=aY X.env.locals)
 exf:∀b∈X.ex,b≠X.env.locals/\∀x c,X.env.cells.lookup x=aY c->c≠b
 bs:∀b o,X.base.get? b=aY o->X.s₀.heap.get? b=aY o/\X.H₀ b=gg
 bsz:X.base.objs.size<=X.s₀.heap.objs.size
 noex:∀b o,X.base.get? b=aY o->b∉X.ex
 exfs:∀b∈X.ex,b∉X.fs
 funs:X.s₀.heap.FunFrames X.base X.outer
 frf:∀b∈X.fs,X.H₀ b=gg
structure Inv (X:Cx) (pins:D') (σ:eP (vr V)) (H:Hp) (s:ik):Prop where
 ok:X.Ok
 os:s.os=X.s₀.os
 bare:AllBare s.gens
 base:Un X.fs X.ex X.H₀ H X.s₀.heap s.heap
 loc:∃m,s.heap.Ns X.env.locals m/\∀(i:Nat) (x:kv) (v:V),X.N[i]? =aY x->σ[i]? =aY @aI->Vis X.env.scope x->∃u,RelV v u/\Look X.env s.heap m x u
 cell:∀x c,X.env.cells.lookup x=aY c->∃v,s.heap.IsCell c v
 free:H X.env.locals=gg
 freeC:∀x c,X.env.cells.lookup x=aY c->H c=gg
 pin:∀p∈X.pn++pins,s.heap.get? p.1=aY p.2/\H p.1=gg/\p.1≠X.env.locals/\p.1∉X.fs/\∀v,p.2.data≠.cell v
 hok:HOk X.prog X.w H s.heap
 len:σ.length=X.N.length
section
variable {X:Cx} {pins:D'} {σ:eP (vr V)} {H H':Hp} {s:ik} {h':WN}
theorem Cx.Ok.nofr (ok:X.Ok) {b:ee} {o:Obj} (e:X.base.get? b=aY o):b∉X.fs:=λhb=>by
 have:=(ok.funs.mem hb).1;rw[e] at this;cases this
theorem Inv.bs (I:@M):∀b o,X.base.get? b=aY o->s.heap.get? b=aY o/\H b=none:=λb o e=>
 ⟨I.base.keep b o (I.ok.bs b o e).1 (I.ok.bs b o e).2 (I.ok.nofr e) (I.ok.noex b o e),I.base.free b o (I.ok.bs b o e).1 (I.ok.bs b o e).2 (I.ok.noex b o e)⟩
theorem Inv.bk (I:@M):∀b o,X.base.get? b=aY o->s.heap.get? b=aY o:=λb o e=>(I.bs b o e).1
theorem Inv.mod (I:@M):Mod X.K X.mg X.base:=I.ok.mod
theorem Inv.kIn (I:@M):X.K.In s.heap:=I.ok.mod.kin.keeps I.bk
theorem Inv.lt (I:@M):X.env.locals < s.heap.objs.size:=let ⟨_,hn,_⟩:=I.loc;hn.lt
theorem Inv.sz (I:@M):X.s₀.heap.objs.size<=s.heap.objs.size:=XX I.ok.above (Y6 I.lt)
theorem Inv.nofs (I:@M) {a:ee} (h:@cA):a∉X.fs:=λhb=>by
 obtain⟨_,o,ho,_⟩:=I.ok.funs.mem hb;exact hE (gA (hK ho) (XX I.sz h)) (Y2 _)
theorem Inv.cne (I:@M):∀x c,X.env.cells.lookup x=aY c->c≠X.env.locals:=λx c e z=>by
 obtain⟨v,o,ho,hd⟩:=I.cell x c e;obtain⟨m,⟨o',es,ep,τ,ζ,_⟩,_⟩:=I.loc;rw[z,τ] at ho;cases ho;rw[ζ] at hd;cases hd
theorem Inv.funs (I:@M):s.heap.FunFrames X.base X.outer:=by
 have all:∀(l:@aL),(∀b∈frs l,b∈X.fs)->X.s₀.heap.FunFrames X.base l->s.heap.FunFrames X.base l:=by
  intro l
  induction l with
  | nil=>intro _ _;trivial
  | cons env r ih=>
    intro hs hl;obtain⟨hk,⟨L,o,hf,hn,ho,hd⟩,G⟩:=hl;have φ:L∈X.fs:=hs L (by unfold frs;rw[ac9,hf];exact mu);obtain⟨Y,e⟩:=I.base.slot L o ho (I.ok.frf L φ) φ λz=>I.ok.exfs L z φ;exact⟨hk,⟨L,_,hf,hn,e,hd⟩,ih (λb hb=>hs b (by unfold frs;rw[ac9,hf];exact ov _ hb)) G⟩
 exact all X.outer (λ_ hb=>hb) I.ok.funs
theorem Inv.stack (I:@M):s.heap.FunFrames X.base X.stack:=by
 rcases I.ok.stk with e | ⟨e,hf⟩
 ·rw[e];exact I.funs
 ·rw[e];obtain⟨m,hn,_⟩:=I.loc;refine .cons (by rw[I.ok.kind];decide) hf hn ?_ I.funs;exact YD (XX I.ok.bsz I.ok.above)
theorem Inv.stkSub (I:@M):∀b∈frs X.stack,b∈X.env.locals::X.fs:=λb hb=>by
 rcases I.ok.stk with e | ⟨e,hf⟩
 ·rw[e] at hb;exact ov _ hb
 ·rw[e] at hb;unfold frs at hb;rw[ac9,hf] at hb;exact hb
theorem Inv.stkFree (I:@M):∀b∈frs X.stack,H b=none:=λb hb=>by
 rcases x8.mp (I.stkSub b hb) with e | hb
 ·rw[e];exact I.free
 ·obtain⟨_,o,ho,_⟩:=I.ok.funs.mem hb;exact I.base.free b o ho (I.ok.frf b hb) λz=>I.ok.exfs b z hb
theorem Inv.step {g':ar5 GenState} {t':Nat} {d':Drawn} {ch:M'} (I:@M)
  (L:∀b∈ch,@cw/\b≠X.env.locals/\(∀x c,X.env.cells.lookup x=aY c->c≠b)/\∀p∈X.pn++pins,p.1≠b)
  (keep:∀b o,b≠X.env.locals->b∉X.fs->b∉ch->s.heap.get? b=aY o->H b=gg->h'.get? b=aY o)
  (slot:∀b o,b≠X.env.locals->b∈X.fs->b∉ch->s.heap.get? b=aY o->H b=gg->∃ε,h'.get? b=aY {o with slots:=ε}) (free:∀b o,b∉ch->s.heap.get? b=aY o->H b=gg->H' b=gg)
  (there:∀b o,b∉ch->s.heap.get? b=aY o->∃o',h'.get? b=aY o')
  (tups:∀b xs,H b=aY @aG->H' b=aY @aG) (frzs:∀b o u,H b=aY (.frz o u)->H' b=aY (.frz o u)) (tbls:∀b ps,H b=aY (.tbl ps)->∃more,H' b=aY (.tbl (ps++more)))
  (ns:∀m,s.heap.Ns X.env.locals m->h'.Ns X.env.locals m) (hok:HOk X.prog X.w H' h') (ο:AllBare g'):
  Inv X pins σ H' {s with heap:=h',gens:=g',drawn:=d',toks:=t'}:=by
 have η:∀b o,X.s₀.heap.get? b=aY o->b≠X.env.locals:=λb o e=>y1 (gA @aM I.ok.above)
 have α:∀b o,X.s₀.heap.get? b=aY o->b∉X.ex->b∉ch:=λb o e G hb=>by
  rcases(L b hb).1 with z | z
  ·exact G z
  ·exact hE (gA @aM z) (Y2 _)
 have Z:∀x c,X.env.cells.lookup x=aY c->∀v,s.heap.IsCell c v->h'.IsCell c v:=λx c e v ⟨o,ho,hd⟩=>by
  have ρ:c∉ch:=λz=>(L c z).2.2.1 x c e rfl;by_cases ν:c∈X.fs
  ·obtain⟨ε,q⟩:=slot c o (I.cne x c e) ν ρ ho (I.freeC x c e);exact⟨_,q,hd⟩
  ·exact⟨o,keep c o (I.cne x c e) ν ρ ho (I.freeC x c e),hd⟩
 refine⟨I.ok,I.os,ο,⟨λb o e n hb G=>?_,λb o e n hb G=>?_,λb o e n G=>?_,λb o e G=>?_,λb xs e=>tups b xs (I.base.tups b xs e),λb o xs e=>frzs b o xs (I.base.frzs b o xs e),λb ps e=>?_⟩,?_,λx c e=>?_,?_,λx c e=>?_,λp ι=>?_,hok,I.len⟩
 ·exact keep b o (η b o e) hb (α b o e G) (I.base.keep b o e n hb G) (I.base.free b o e n G)
 ·obtain⟨ε,β⟩:=I.base.slot b o e n hb G;obtain⟨δ,γ⟩:=slot b _ (η b o e) hb (α b o e G) β (I.base.free b o e n G);exact⟨δ,γ⟩
 ·obtain⟨o',β⟩:=I.base.there b o e G;exact free b o' (α b o e G) β (I.base.free b o e n G)
 ·obtain⟨o',β⟩:=I.base.there b o e G;exact there b o' (α b o e G) β
 ·obtain⟨ξ,β⟩:=I.base.tbls b ps e;obtain⟨θ,γ⟩:=tbls b _ β;exact⟨ξ++θ,by rw[γ,Array.append_assoc]⟩
 ·obtain⟨m,hn,hl⟩:=I.loc;refine⟨m,ns m hn,λi x v β γ Y=>?_⟩;obtain⟨u,r,l⟩:=hl i x v β γ Y;refine⟨u,r,?_⟩;rcases l with l | ⟨k,c,e,z⟩
  ·exact !E l
  ·exact !I ⟨k,c,e,Z x c e _ z⟩
 ·obtain⟨v,z⟩:=I.cell x c e;exact⟨v,Z x c e v z⟩
 ·obtain⟨m,⟨o,_,_,ho,_⟩,_⟩:=I.loc;exact free _ o (λz=>(L _ z).2.1 rfl) ho I.free
 ·obtain⟨v,o,ho,hd⟩:=I.cell x c e;exact free c o (λz=>(L c z).2.2.1 x c e rfl) ho (I.freeC x c e)
 ·obtain⟨e,n,ne,ζ,d⟩:=I.pin p ι;have ρ:p.1∉ch:=λz=>(L p.1 z).2.2.2 p ι rfl;exact⟨keep p.1 p.2 ne ζ ρ e n,free p.1 p.2 ρ e n,ne,ζ,d⟩
theorem Inv.un {t':Nat} (I:@M) (u:Un X.fs [] H H' s.heap h') (hok:HOk X.prog X.w H' h'):Inv X pins σ H' {s with heap:=h',toks:=t'}:=by
 obtain⟨m,⟨o,es,ep,ho,r⟩,_⟩:=id I.loc;obtain⟨L,φ⟩:=u.any ho I.free @C
 exact I.step (g':=s.gens) (d':=s.drawn) (ch:=[]) (λ_ z=>nomatch z) (λb o _ hb _ e n=>u.keep b o e n hb @C) (λb o _ hb _ e n=>u.slot b o e n hb @C) (λb o _ e n=>u.free b o e n @C) (λb o _ e=>u.there b o e @C) u.tups u.frzs u.tbls (λY hm=>by
  obtain⟨o',G,υ,τ,r'⟩:=hm;rw[ho] at τ;cases τ;exact⟨_,G,υ,φ,r'⟩) hok I.bare
theorem Inv.call {g':ar5 GenState} {t':Nat} {d':Drawn} {ch:M'} (I:@M) (u:Un (frs X.stack) ch H H' s.heap h') (hok:HOk X.prog X.w H' h') (Z:AllBare g')
  (L:∀b∈ch,@cw/\b≠X.env.locals/\(∀x c,X.env.cells.lookup x=aY c->c≠b)/\∀p∈X.pn++pins,p.1≠b):
  Inv X pins σ H' {s with heap:=h',gens:=g',drawn:=d',toks:=t'}:=by
 obtain⟨m,⟨o,es,ep,ho,r⟩,_⟩:=id I.loc;obtain⟨α,φ⟩:=u.any ho I.free λz=>(L _ z).2.1 rfl
 exact I.step (ch:=ch) L (λb o φ hb G e n=>u.keep b o e n (λz=>(x8.mp (I.stkSub b z)).elim φ hb) G) (λb o _ _ G e n=>u.any e n G) (λb o G e n=>u.free b o e n G) (λb o G e=>u.there b o e G) u.tups u.frzs u.tbls (fun β hm=>by
  obtain⟨o',Y,υ,τ,r'⟩:=hm;rw[ho] at τ;cases τ;exact⟨_,Y,υ,φ,r'⟩) hok Z
theorem Inv.turned {t':Nat} {G:ee} (I:@M) (k:∀b o,b≠G->s.heap.get? b=aY o->h'.get? b=aY o) (hn:H G=gg) (φ:G≠X.env.locals)
  (h1:G∈X.ex∨X.s₀.heap.objs.size<=G) (h2:∀x c,X.env.cells.lookup x=aY c->c≠G) (Y:∀p∈X.pn++pins,p.1≠G):Inv X pins σ H {s with heap:=h',toks:=t'}:=by
 have χ:∀b u,H b=aY u->b≠G:=λb u e z=>by rw[z,hn] at e;cases e
 refine I.step (g':=s.gens) (d':=s.drawn) (ch:=[G]) (λb hb=>?_) (λb o _ _ L e _=>k b o (λz=>L (by simp[z])) e) (λb o _ _ L e _=>⟨o.slots,k b o (λz=>L (by simp[z])) e⟩) (λ_ _ _ _ n=>n)
  (λb o L e=>⟨o,k b o (λz=>L (by simp[z])) e⟩) (λ_ _ e=>e) (λ_ _ _ e=>e) (λb ps e=>⟨#[],by rw[e];simp⟩) (λm hm=>?_) (λb u e=>?_) I.bare
 ·have e:b=G:=by simpa using hb
  subst e;exact⟨h1,φ,h2,Y⟩
 ·obtain⟨o,es,ep,ho,r⟩:=hm;exact⟨o,es,ep,k _ o (wh φ) ho,r⟩
 ·refine(I.hok b u e).stay (λc v L q=>k c v ?_ q) (λ_ q=>q) λ_ _ q=>q;rcases L with z | z
  ·rw[z];exact χ b u e
  ·exact χ c _ z
theorem Inv.tok (I:@M) (t:Nat):Inv X pins σ H {s with toks:=t}:=I.un (h':=s.heap) (t':=t) Un.refl I.hok
theorem Inv.kept {t':Nat} (I:@M) (k:∀b u,s.heap.get? b=aY u->h'.get? b=aY u):Inv X pins σ H {s with heap:=h',toks:=t'}:=I.un (Un.kept k) (I.hok.kept k)
theorem Inv.laid {a:ee} {o:HO} {t':Nat} (I:@M) (k:∀b u,s.heap.get? b=aY u->h'.get? b=aY u) (G:@cA) (δ:iu X.prog X.w (!V a o) h' a o):
  Inv X pins σ (!V a o) {s with heap:=h',toks:=t'}:=I.un (Un.laid k G (I.hok.fresh G)) (I.hok.laid k G δ)
theorem Inv.write {x e:ee} {o:HO} {t':Nat} (I:@M) (L:Mut (H x)) (he:e=x∨H e=aY (.own x)) (k:∀b u,b≠e->s.heap.get? b=aY u->h'.get? b=aY u) (G:∃u,h'.get? e=aY u)
  (δ:iu X.prog X.w (!V x o) h' x o):Inv X pins σ (!V x o) {s with heap:=h',toks:=t'}:=I.un (Un.write L he k G) (I.hok.write L he k G δ)
theorem Inv.weak {σ':eP (vr V)} (I:@M) (hl:σ'.length=σ.length) (w:∀(i:Nat) v,σ'[i]? =aY @aI->σ[i]? =aY @aI):Inv X pins σ' H s:=
 ⟨I.ok,I.os,I.bare,I.base,let ⟨m,hn,G⟩:=I.loc;⟨m,hn,λi x v Z L Y=>G i x v Z (w i v L) Y⟩,I.cell,I.free,I.freeC,I.pin,I.hok,hl.trans I.len⟩
theorem Inv.pins_of {τ:D'} (I:@M) (h:∀p∈τ,s.heap.get? p.1=aY p.2/\H p.1=gg/\p.1≠X.env.locals/\p.1∉X.fs/\∀v,p.2.data≠.cell v):Inv X τ σ H s:=
 ⟨I.ok,I.os,I.bare,I.base,I.loc,I.cell,I.free,I.freeC,λp G=>(gs.mp G).elim (λz=>I.pin p (hG _ z)) (h p),I.hok,I.len⟩
theorem GA {N:B'} (ψ:N.Nodup) {i j:Nat} {x:kv} (a:N[i]? =aY x) (b:N[j]? =aY x):i=j:=by
 obtain⟨h1,L⟩:=bx.mp a;obtain⟨h2,G⟩:=bx.mp b;exact(List.getElem_inj ψ).mp (L.trans G.symm)
theorem BU {M:Model} {A:W6} {E:Cr} {i:Nat} {x:kv} {v:V} {u:i'} {Q:L'} (I:@M) (ψ:X.N.Nodup) (hi:X.N[i]? =aY x) (hx:Loc X.env.scope x) (r:!aH v)
  (h:∀s',Inv X pins (σ.set i @aI) H s'->(∃a,Zq a s.heap s'.heap/\(a=X.env.locals∨X.env.cells.lookup x=aY a))->Q () s') (hf:X.fn x=true∨X.env.scope.names.lookup x=aY .local:=by first | exact .inl rfl | exact .inr rfl | assumption):lT M A (storeName X.env x u) Q E s:=by
 obtain⟨m,hn,hl⟩:=id I.loc;have γ:(X.env.scope.kind == .class||(X.env.scope.kind == .module&&X.env.locals != X.env.globals))=false:=by rw[I.ok.kind];rfl
 have α:i < σ.length:=by rw[I.len];exact(!K hi).1
 have cne:=I.cne
 have G:∀{a:ee} {h':WN},(∃o,s.heap.get? a=aY o/\H a=gg)->Zq a s.heap h'->HOk X.prog X.w H h':=λ{a h'} ha hs b ob e=>by
  obtain⟨_,_,υ⟩:=ha;refine(I.hok b ob e).stay (λc ζ hc q=>(hs.2 c ?_).trans q) (λ_ q=>q) λ_ _ q=>q;rintro rfl;rcases hc with rfl | hc
  ·rw[υ] at e;cases e
  ·rw[υ] at hc;cases hc
 rcases hx with hk | hk
 ·refine wpAny_storeName_local hk hn (λh' ω hs=>?_) γ;obtain⟨oL,_,_,τ,_⟩:=id hn;refine h _ ⟨I.ok,I.os,I.bare,⟨λb o e n hb hx=>?_,λb o e n hb hx=>?_,I.base.free,λb o e hx=>?_,I.base.tups,I.base.frzs,I.base.tbls⟩,⟨_,ω,λj y ν L Z Y=>?_⟩,λy c e=>?_,I.free,I.freeC,λp ρ=>?_,G ⟨oL,τ,I.free⟩ hs,by simpa using I.len⟩ ⟨_,hs,.inl rfl⟩
  ·exact(hs.2 b (y1 (gA @aM I.ok.above))).trans (I.base.keep b o e n hb hx)
  ·obtain⟨ο,L⟩:=I.base.slot b o e n hb hx;exact⟨ο,(hs.2 b (y1 (gA @aM I.ok.above))).trans L⟩
  ·obtain⟨o',L⟩:=I.base.there b o e hx;exact⟨o',(hs.2 b (y1 (gA @aM I.ok.above))).trans L⟩
  ·by_cases β:j=i
   ·subst β;rw[hi] at L;cases L;rw[al5 α] at Z;cases Z;exact⟨u,r,!E ⟨hk,by simp⟩⟩
   ·rw[an3 (wh β)] at Z;obtain⟨ξ,r',q⟩:=hl j y ν L Z Y;refine⟨ξ,r',?_⟩;rcases q with ⟨k,e⟩ | ⟨k,c,e,z⟩
    ·refine !E ⟨k,?_⟩;have:y≠x:=λe=>β (GA ψ L (e ▸ hi));simp[this,e]
    ·exact !I ⟨k,c,e,z.sameBut hs (cne y c e)⟩
  ·obtain⟨ζ,z⟩:=I.cell y c e;exact⟨ζ,z.sameBut hs (cne y c e)⟩
  ·obtain⟨e,n,ne,π,d⟩:=I.pin p ρ;exact⟨(hs.2 p.1 ne).trans e,n,ne,π,d⟩
 ·have φ:X.fn x=true:=by
   rcases hf with z | z
   ·exact z
   ·rw[z] at hk;cases hk
  obtain⟨c,hc⟩:=I.ok.has x (!E hk);obtain⟨ζ,z⟩:=I.cell x c hc;refine wpAny_storeName_cell I.ok.kind hk hc z (λh' δ hs=>?_);obtain⟨oc,ι,θ⟩:=id z;refine h {s with heap:=h'} ⟨I.ok,I.os,I.bare,⟨λb o e n hb hx=>?_,λb o e n hb hx=>?_,I.base.free,λb o e hx=>?_,I.base.tups,I.base.frzs,I.base.tbls⟩,⟨m,hn.sameBut hs (wh (cne x c hc)),λj y ν L Z Y=>?_⟩,λy η e=>?_,I.free,I.freeC,λp ρ=>?_,G ⟨oc,ι,I.freeC x c hc⟩ hs,by simpa using I.len⟩ ⟨c,hs,.inr hc⟩
  ·exact(hs.2 b (y1 (gA @aM (I.ok.cab x c φ hc)))).trans (I.base.keep b o e n hb hx)
  ·obtain⟨ο,L⟩:=I.base.slot b o e n hb hx;exact⟨ο,(hs.2 b (y1 (gA @aM (I.ok.cab x c φ hc)))).trans L⟩
  ·obtain⟨o',L⟩:=I.base.there b o e hx;exact⟨o',(hs.2 b (y1 (gA @aM (I.ok.cab x c φ hc)))).trans L⟩
  ·by_cases β:j=i
   ·subst β;rw[hi] at L;cases L;rw[al5 α] at Z;cases Z;exact⟨u,r,!I ⟨.inl hk,c,hc,δ⟩⟩
   ·rw[an3 (wh β)] at Z;obtain⟨ξ,r',q⟩:=hl j y ν L Z Y;refine⟨ξ,r',?_⟩;rcases q with q | ⟨k,η,e,z'⟩
    ·exact !E q
    ·refine !I ⟨k,η,e,z'.sameBut hs ?_⟩;rintro rfl;exact β (GA ψ L (I.ok.inj _ _ _ e hc ▸ hi))
  ·by_cases χ:η=c
   ·subst χ;exact⟨_,δ⟩
   ·obtain⟨w2,z2⟩:=I.cell y η e;exact⟨w2,z2.sameBut hs χ⟩
  ·obtain⟨e,n,ne,π,d⟩:=I.pin p ρ;refine⟨(hs.2 p.1 ?_).trans e,n,ne,π,d⟩;intro q;rw[q,ι] at e;have ε:oc=p.2:=qA e;exact d ζ (by rw[<-ε];exact θ)
theorem Ge {M:Model} {A:W6} {E:Cr} {i:Nat} {x:kv} {v:V} {u:i'} {Q:L'} (I:@M) (ψ:X.N.Nodup) (hi:X.N[i]? =aY x) (hx:Loc X.env.scope x) (r:!aH v)
  (h:∀s',Inv X pins (σ.set i @aI) H s'->Q () s') (hf:X.fn x=true∨X.env.scope.names.lookup x=aY .local:=by first | exact .inl rfl | exact .inr rfl | assumption):lT M A (storeName X.env x u) Q E s:=
 BU I ψ hi hx r (λs' G _=>h s' G) hf
theorem Inv.call' {s':ik} {ch:M'} (I:@M) (ho:s'.os=s.os) (u:Un (frs X.stack) ch H H' s.heap s'.heap) (hok:HOk X.prog X.w H' s'.heap) (L:AllBare s'.gens)
  (G:∀b∈ch,@cw/\b≠X.env.locals/\(∀x c,X.env.cells.lookup x=aY c->c≠b)/\∀p∈X.pn++pins,p.1≠b):!bS X H' s':=by
 obtain⟨h',g',d',t',o'⟩:=s';have e:o'=s.os:=ho;subst e;exact I.call (g':=g') (t':=t') (d':=d') u hok L G
end
noncomputable abbrev XK:=i'->Q'->Hp->Prop
noncomputable abbrev St:=eP (vr V)
noncomputable abbrev VK:=V->Hp->Prop
noncomputable abbrev TE:=St->Hp->VK->Prop
noncomputable abbrev TT:=St->Hp->(Xb->Hp->Prop)->Prop
noncomputable abbrev TA:=St->Hp->(eP V->Hp->Prop)->Prop
structure Ends where
 nx:St->Hp->Prop
 rt:VK
 bk:St->Hp->Prop:=λ_ _=>False
 ct:St->Hp->Prop:=λ_ _=>False
noncomputable abbrev TS:=Ends->St->Hp->Prop
def EP (X:Cx) (pins:D') (σ:St) (Q:VK) (u:i') (s':ik):Prop:=∃v H',Inv X pins σ H' s'/\RelV v u/\Q v H'
def TP (X:Cx) (pins:D') (σ:St) (Q:Xb->Hp->Prop) (b:Xb) (s':ik):Prop:=∃H',Inv X pins σ H' s'/\Q b H'
def AP (X:Cx) (pins:D') (σ:St) (Q:eP V->Hp->Prop) (us:E') (s':ik):Prop:=∃vs H',Inv X pins σ H' s'/\Vals vs us/\Q vs H'
def SP (X:Cx) (pins:D') (D:Ends) (f:Flow) (s':ik):Prop:=
 match f with
 | .next=>∃σ' H',Inv X pins σ' H' s'/\D.nx σ' H'
 | .brk=>∃σ' H',Inv X pins σ' H' s'/\D.bk σ' H'
 | .cont=>∃σ' H',Inv X pins σ' H' s'/\D.ct σ' H'
 | .ret u=>∃v σ' H',Inv X pins σ' H' s'/\RelV v u/\D.rt v H'
def PE (X:Cx) (e:W5) (t:TE):Prop:=
 ∀(pins:D') (s:ik) (σ:St) (H:Hp) (Q:VK),Inv X pins σ H s->t σ H Q->lT @S X.A (!aw e) (EP X pins σ Q) X.xe s
def PT (X:Cx) (e:W5) (t:TT):Prop:=
 ∀(pins:D') (s:ik) (σ:St) (H:Hp) (Q:Xb->Hp->Prop),Inv X pins σ H s->t σ H Q->lT @S X.A (isTrue e X.env (!aw e)) (TP X pins σ Q) X.xe s
def PW (X:Cx) (e:W5) (t:TT):Prop:=
 ∀(G:Sem i') (pins:D') (s:ik) (σ:St) (H:Hp) (Q:Xb->Hp->Prop),Inv X pins σ H s->t σ H Q->lT @S X.A (isTrue e X.env G) (TP X pins σ Q) X.xe s
theorem PW.pt {X:Cx} {e:W5} {t:TT} (h:PW X e t):PT X e t:=h _
def PA (X:Cx) (es:eP W5) (t:TA):Prop:=
 ∀(pos:Pos) (pins:D') (s:ik) (σ:St) (H:Hp) (Q:eP V->Hp->Prop),Inv X pins σ H s->t σ H Q->lT @S X.A (spliced (!aD pos es)) (AP X pins σ Q) X.xe s
def PS (X:Cx) (st:YY) (t:TS):Prop:=
 ∀(pins:D') (s:ik) (σ:St) (H:Hp) (D:Ends),Inv X pins σ H s->t D σ H->lT @S X.A (exec st X.env) (SP X pins D) X.xe s
def PSs (X:Cx) (st:eP YY) (t:TS):Prop:=
 ∀(pins:D') (s:ik) (σ:St) (H:Hp) (D:Ends),Inv X pins σ H s->t D σ H->lT @S X.A (execs st X.env) (SP X pins D) X.xe s
theorem thn {α:Type} {t:Sem α} {Q G:α->ik->Prop} {M:Model} {A:W6} {E:Cr} {s:ik} (h:lT M A t Q E s) (Y:∀a s,Q a s->G a s):lT M A t G E s:=YQ h Y λ_ _ x=>x
section
variable {X:Cx}
noncomputable def tVar (i:Nat):TE:=fun σ H Q=>∃v,σ[i]? =aY @aI/\Q v H
noncomputable abbrev tC (v:V):TE:=λ_ H Q=>Q v H
theorem UB {i:Nat} {x:kv} {pos:Pos} (ψ:X.N[i]? =aY x) (L:Vis X.env.scope x) (hd:(x == ("__debug__":kv))=false:=by decide) (θ:(x == ("__classdict__":kv))=false:=by decide):!F (!aU pos) (tVar i):=by
 intro pins s σ H Q I h;obtain⟨v,e,h⟩:=h;obtain⟨m,hn,hl⟩:=I.loc;obtain⟨u,r,l⟩:=hl i x v ψ e L;have fin:EP X pins σ Q u s:=⟨v,H,I,r,h⟩;rcases l with ⟨hk,hm⟩ | ⟨hk,c,G,ω⟩
 ·exact at6 (wpAny_loadName_local I.ok.kind hk hn hm fin) hd
 ·rcases hk with hk | hk
  ·exact at6 (wpAny_loadName_cell I.ok.kind hk G ω fin) hd
  ·exact at6 (wpAny_loadName_free I.ok.kind hk G ω fin θ) hd
theorem ah {i j pos}:!F (.Constant @bc j pos) (tC @bc):=λ_ _ _ H _ I h=>wpAny_Constant_int ⟨@bc,H,@bk,⟨_,rfl⟩,h⟩
theorem yP {b j pos}:!F (.Constant (.bool b) j pos) (tC (.bl b)):=λ_ _ _ H _ I h=>Constant_bool ⟨.bl b,H,I,rfl,h⟩
theorem P2 {j pos}:!F (.Constant .none j pos) (tC .non):=λ_ _ _ H _ I h=>Constant_none ⟨.non,H,I,rfl,h⟩
theorem bE {x j pos}:!F (.Constant (.str x) j pos) (tC (.str x)):=λ_ _ _ H _ I h=>Calls.Constant_str ⟨.str x,H,@bk,⟨_,rfl⟩,h⟩
def Gl (X:Cx) (x:kv):Prop:=X.env.kindOf x=aY .globalImplicit
theorem xM {E:Cr} {pins:D'} {s:ik} {σ:St} {H:Hp} {x:kv} {u:i'} {pos:Pos} {Q:Cr} (I:@M) (G:Gl X x) (hm:X.mg x=aY u) (h:Q u s)
  (hd:(x == ("__debug__":kv))=false:=by decide):lT @S X.A (!aw (!aU pos)) Q E s:=
 ah3 I.ok.kind G (Calls.loadGlobal_global (by rw[I.ok.glob];exact I.mod.glob.keeps I.bk) hm h) hd
theorem mR {E:Cr} {pins:D'} {s:ik} {σ:St} {H:Hp} {x:kv} {u:i'} {pos:Pos} {Q:Cr} (I:@M) (L:Gl X x) (hm:X.mg x=gg) (G:bootBuiltins x=aY u) (h:Q u s)
  (hn:x≠"__name__":=by decide) (hd:(x == ("__debug__":kv))=false:=by decide):lT @S X.A (!aw (!aU pos)) Q E s:=by
 obtain⟨Y,h1,h2⟩:=I.mod.blt;exact ah3 I.ok.kind L (Calls.loadGlobal_builtin (by rw[I.ok.glob];exact I.mod.glob.keeps I.bk) hm (by rw[I.ok.blt];exact h1.keeps I.bk) ((h2 x hn).trans G) h) hd
theorem kK {x:kv} {v:V} {u:i'} {pos:Pos} (G:Gl X x) (hm:X.mg x=aY u) (r:!aH v) (hd:(x == ("__debug__":kv))=false:=by decide):!F (!aU pos) (tC v):=
 λ_ _ _ H _ I h=>xM I G hm ⟨v,H,I,r,h⟩ hd
theorem uh {x:kv} {v:V} {u:i'} {pos:Pos} (L:Gl X x) (hm:X.mg x=gg) (G:bootBuiltins x=aY u) (r:!aH v) (hn:x≠"__name__":=by decide) (hd:(x == ("__debug__":kv))=false:=by decide):!F (!aU pos) (tC v):=
 λ_ _ _ H _ I h=>mR I L hm G ⟨v,H,I,r,h⟩ hn hd
variable {a b:W5} {ta tb:TE} {pos:Pos}
def PC (X:Cx) (ε:CmpOp) (a b:W5) (t:TE):Prop:=
 ∀(pins:D') (s:ik) (σ:St) (H:Hp) (Q:VK),Inv X pins σ H s->t σ H Q->
  lT @S X.A (!aw a) (λv G=>lT @S X.A (!aw b) (λu τ=>lT @S X.A (compareOp ε v u) (EP X pins σ Q) X.xe τ) X.xe G) X.xe s
noncomputable abbrev tB (t:TE):TT:=fun σ H Q=>t σ H λx H1=>∃c,x= .bl c/\Q c H1
theorem UE {ε:CmpOp} {t:TE} (h:PC X ε a b t) (h1:behindInMarks ε b=false:=by first | exact nobehind _ (by decide) (by decide) | rfl):!F (.Compare a [ε] [b] pos) t:=λpins s σ H Q I hw=>wpAny_Compare1 (h pins s σ H Q I hw) h1
theorem KF {ε:CmpOp} {t:TE} (h:PC X ε a b t) (h1:behindInMarks ε b=false:=by first | exact nobehind _ (by decide) (by decide) | rfl):PT X (.Compare a [ε] [b] pos) (tB t):=by
 intro pins s σ H Q I hw;refine aq8 (thn (h pins s σ H _ I hw) λv β h1=>thn h1 λu Y h2=>thn h2 λc L ⟨x,H1,Z,α,G⟩=>?_) h1;obtain⟨d,rfl,q⟩:=G;cases α;exact Yk ⟨H1,Z,q⟩
theorem fM {e:W5} {t:TE} (h:!F e t) (he:∀G,isTrue e X.env G=(do let v <-G;standAt e.pos;holding [v] (truthy v)):=by intro _;rfl):PT X e (tB t):=by
 intro pins s σ H Q I hw;refine isTrue_plain (thn (h pins s σ H _ I hw) λv Y ⟨x,H1,Z,α,L⟩=>?_) (he _);obtain⟨d,rfl,q⟩:=L;cases α;exact Yk ⟨H1,Z,q⟩
variable {tA tB':TT} {rest:eP W5}
noncomputable abbrev tAnd (t u:TT):TT:=fun σ H Q=>t σ H λc H1=>if c=true then u σ H1 Q else Q false H1
noncomputable abbrev tOr (t u:TT):TT:=fun σ H Q=>t σ H λc H1=>if c=true then Q true H1 else u σ H1 Q
noncomputable abbrev tNot (t:TT):TT:=fun σ H Q=>t σ H λc H1=>Q (!c) H1
theorem AC (ha:PT X a tA):PW X (!bx .And [a]) tA:=by
 intro ν pins s σ H Q I h;refine isTrue_and (thn (ha pins s σ H Q I h) λc G e=>?_);cases c with
 | true=>exact isTrue_and_nil e
 | false=>exact e
theorem qJ (ha:PT X a tA):PW X (!bx .Or [a]) tA:=by
 intro ν pins s σ H Q I h;refine isTrue_or (thn (ha pins s σ H Q I h) λc G e=>?_);cases c with
 | false=>exact isTrue_or_nil e
 | true=>exact e
theorem Gq (ha:PT X a tA) (hb:PW X (!bx .And (b::rest)) tB'):PW X (!bx .And (a::b::rest)) (tAnd tA tB'):=by
 intro ν pins s σ H Q I h;refine isTrue_and (thn (ha pins s σ H _ I h) λc L ⟨H1,Z,G⟩=>?_);cases c with
 | true=>exact hb ν pins L σ H1 Q Z G
 | false=>exact⟨H1,Z,G⟩
theorem rA (ha:PT X a tA) (hb:PW X (!bx .Or (b::rest)) tB'):PW X (!bx .Or (a::b::rest)) (tOr tA tB'):=by
 intro ν pins s σ H Q I h;refine isTrue_or (thn (ha pins s σ H _ I h) λc L ⟨H1,Z,G⟩=>?_);cases c with
 | true=>exact⟨H1,Z,G⟩
 | false=>exact hb ν pins L σ H1 Q Z G
theorem iR (ha:PT X a tA):PT X (.UnaryOp .Not a pos) (tNot tA):=by
 intro pins s σ H Q I h;exact isTrue_not (ha pins s σ H (λc H1=>Q (!c) H1) I h)
noncomputable abbrev V5 (ta tb:TE):TE:=fun σ H Q=>ta σ H λx H1=>∃c,x= .bl c/\if c=true then tb σ H1 Q else Q (.bl false) H1
noncomputable abbrev V2 (ta:TE):TE:=fun σ H Q=>ta σ H λx H1=>∃c,x= .bl c/\Q (.bl (!c)) H1
theorem uV {op} {t:TE} (h:!F a t):!F (!bx op [a]) t:=λpins s σ H Q I hw=>BoolOp_one (h pins s σ H Q I hw)
theorem si (ha:!F a ta) (hb:!F (!bx .And (b::rest)) tb):!F (!bx .And (a::b::rest)) (V5 ta tb):=by
 intro pins s σ H Q I h;refine BoolOp_and (thn (ha pins s σ H _ I h) λv L ⟨x,H1,Z,α,G⟩=>?_);obtain⟨c,rfl,G⟩:=G;cases α;refine Yk ?_;cases c with
 | true=>exact hb pins L σ H1 Q Z G
 | false=>exact⟨.bl false,H1,Z,rfl,G⟩
theorem UC (ha:!F a ta):!F (.UnaryOp .Not a pos) (V2 ta):=by
 intro pins s σ H Q I h;refine UnaryOp_ (thn (ha pins s σ H _ I h) λv L ⟨x,H1,Z,α,G⟩=>?_);obtain⟨c,rfl,G⟩:=G;cases α;exact not_of (Yk ⟨.bl (!c),H1,Z,rfl,G⟩)
noncomputable abbrev tIf (t:TT) (ta tb:TE):TE:=fun σ H Q=>t σ H λc H1=>if c=true then ta σ H1 Q else tb σ H1 Q
theorem Gu {c:W5} (hc:PT X c tA) (ha:!F a ta) (hb:!F b tb):!F (.IfExp c a b pos) (tIf tA ta tb):=by
 intro pins s σ H Q I h;refine wpAny_IfExp (thn (hc pins s σ H _ I h) λd G ⟨H1,Z,L⟩=>?_);cases d with
 | true=>exact ha pins G σ H1 Q Z L
 | false=>exact hb pins G σ H1 Q Z L
end
def SqL (K:b') (H:Hp) (a:ee) (xs:eP V):Prop:=
 Rd H a @aF∨
  ∃(o:Obj) (its:G') (n:Nat),K.lookup a=aY o/\o.cls= .type "list"/\o.dict=gg/\o.data= .seq its n/\its.size<=ic/\Vals xs its.toList
def SqT (K:b') (H:Hp) (a:ee) (xs:eP V):Prop:=
 Rd H a @aG∨
  ∃(o:Obj) (its:G') (n:Nat),K.lookup a=aY o/\o.cls= .type "tuple"/\o.data= .seq its n/\its.size<=ic/\Vals xs its.toList
noncomputable def absV:i'->vr V
 | .none=>aY .non
 | .bool b=>aY (.bl b)
 | .int i _=>aY @bc
 | .str x _=>aY (.str x)
 | .bytes b _=>aY (.byt b)
 | .float b _=>aY (.flt b)
 | .ref a=>aY @af
 | .type n=>aY (.ty n)
 | _=>gg
theorem RelV.abs {x:V} {u:i'} (r:!aH x):absV u=aY x:=by
 cases x with
 | non=>cases r;rfl
 | bl _=>cases r;rfl
 | int _=>obtain⟨t,rfl⟩:=r;rfl
 | str _=>obtain⟨t,rfl⟩:=r;rfl
 | byt _=>obtain⟨t,rfl⟩:=r;rfl
 | flt _=>obtain⟨t,rfl⟩:=r;rfl
 | ref _=>cases r;rfl
 | ty _=>cases r;rfl
theorem RelV.inj {x y:V} {u:i'} (r:!aH x) (q:!aH y):x=y:=qA (r.abs.symm.trans q.abs)
theorem Vals.inj:∀{xs ys:eP V} {us:E'},Vals xs us->Vals ys us->xs=ys
 | _,_,_,.nil,.nil=>rfl
 | _,_,_,.cons r t,.cons r' t'=>by rw[r.inj r',Vals.inj t t']
section
variable {X:Cx} {pins:D'} {σ:St} {H:Hp} {s:ik} {a:ee} {xs ys:eP V}
theorem SqL.of {K:b'} (h:H a=aY @aF):SqL K H a xs:= .inl (!E h)
theorem SqT.of {K:b'} (h:H a=aY @aG):SqT K H a xs:= .inl (!E h)
theorem Inv.list (I:@M) (h:SqL X.K H a xs):∃its:E',Vals xs its/\PlainL s.heap a its.toArray/\xs.length<=sizeLine:=by
 rcases h with h | ⟨o,its,n,hk,G,hd,hs,hz,r⟩
 ·obtain⟨z,its,n,r,e⟩:=h.ok I.hok;exact⟨its,r,⟨_,n,e,rfl,rfl,rfl⟩,z⟩
 ·refine⟨its.toList,r,⟨o,n,I.kIn a o hk,G,hd,by simpa using hs⟩,?_⟩;have e:=r.length;simp only[YK] at e;omega
theorem Inv.tuple (I:@M) (h:SqT X.K H a xs):∃its:E',Vals xs its/\IsTup s.heap a its.toArray/\xs.length<=sizeLine:=by
 rcases h with h | ⟨o,its,n,hk,G,hs,hz,r⟩
 ·obtain⟨z,its,r,p⟩:=h.ok I.hok;exact⟨its,r,p,z⟩
 ·refine⟨its.toList,r,⟨o,I.kIn a o hk,G,n,by simpa using hs⟩,?_⟩;have e:=r.length;simp only[YK] at e;omega
theorem Inv.list_inj (I:@M) (h:SqL X.K H a xs) (h':SqL X.K H a ys):xs=ys:=by
 obtain⟨its,r,⟨o,n,e,_,_,d⟩,_⟩:=I.list h;obtain⟨its',r',⟨o',ι,G,_,_,d'⟩,_⟩:=I.list h';rw[e] at G;cases G;rw[d] at d';injection d' with L _
 have:its=its':=by simpa using oe au1 L
 subst this;exact r.inj r'
theorem Inv.tuple_inj (I:@M) (h:SqT X.K H a xs) (h':SqT X.K H a ys):xs=ys:=by
 obtain⟨its,r,⟨o,e,_,n,d⟩,_⟩:=I.tuple h;obtain⟨its',r',⟨o',G,_,ι,d'⟩,_⟩:=I.tuple h';rw[e] at G;cases G;rw[d] at d';injection d' with L _
 have:its=its':=by simpa using oe au1 L
 subst this;exact r.inj r'
end
noncomputable abbrev Cx.wish (X:Cx) (E:Cr):Cx:={X with xe:=E}
noncomputable abbrev Cx.nox (X:Cx):Cx:=X.wish λ_ _=>False
theorem Cx.Ok.wish {X:Cx} (ok:X.Ok) (E:Cr):(X.wish E).Ok:=
 ⟨ok.mod,ok.kind,ok.glob,ok.blt,ok.above,ok.inj,ok.has,ok.cab,ok.hd,ok.frames,ok.stk,ok.exf,ok.bs,ok.bsz,ok.noex,ok.exfs,ok.funs,ok.frf⟩
theorem Cx.Ok.unwish {X:Cx} {E:Cr} (ok:(X.wish E).Ok):X.Ok:=
 ⟨ok.mod,ok.kind,ok.glob,ok.blt,ok.above,ok.inj,ok.has,ok.cab,ok.hd,ok.frames,ok.stk,ok.exf,ok.bs,ok.bsz,ok.noex,ok.exfs,ok.funs,ok.frf⟩
section
variable {X:Cx} {pins:D'} {σ:St} {H:Hp} {s:ik} {E:Cr}
theorem Inv.wish (I:@M) (E:Cr):!bS (X.wish E) H s:=⟨I.ok.wish E,I.os,I.bare,I.base,I.loc,I.cell,I.free,I.freeC,I.pin,I.hok,I.len⟩
theorem Inv.unwish (I:!bS (X.wish E) H s):@M:=⟨I.ok.unwish,I.os,I.bare,I.base,I.loc,I.cell,I.free,I.freeC,I.pin,I.hok,I.len⟩
theorem SP.unwish {D:Ends} {f:Flow} {s':ik} (h:SP (X.wish E) pins D f s'):SP X pins D f s':=by
 cases f with
 | next=>obtain⟨σ',H',I,q⟩:=h;exact⟨σ',H',I.unwish,q⟩
 | brk=>obtain⟨σ',H',I,q⟩:=h;exact⟨σ',H',I.unwish,q⟩
 | cont=>obtain⟨σ',H',I,q⟩:=h;exact⟨σ',H',I.unwish,q⟩
 | ret u=>obtain⟨v,σ',H',I,r,q⟩:=h;exact⟨v,σ',H',I.unwish,r,q⟩
theorem PSs.nox {st:eP YY} {t:TS} (h:PSs X.nox st t):PSs X st t:=λpins s σ H D I hw=>
 YQ (h pins s σ H D (I.wish _) hw) (λ_ _ q=>q.unwish) λ_ _ z=>X4 z
end
section
variable {X:Cx} {st:YY} {rest:eP YY} {t u:TS} {e:W5} {te:TE} {pos:Pos}
noncomputable def Tc:TS:=λD σ H=>D.nx σ H
noncomputable def tSeq (t u:TS):TS:=λD σ H=>t {D with nx:=u D} σ H
theorem bg:PSs X [] Tc:=λ_ _ σ H _ I h=>ac6 ⟨σ,H,I,h⟩
theorem af (h1:PS X st t) (h2:PSs X rest u):PSs X (st::rest) (tSeq t u):=by
 intro pins s σ H D I h;refine ai1 (thn (h1 pins s σ H {D with nx:=u D} I h) λf G q=>?_);cases f with
 | next=>
   obtain⟨σ',H',L,q⟩:=q;exact h2 pins G σ' H' D L q
 | ret v=>exact q
 | brk=>exact q
 | cont=>exact q
theorem ai (h1:PS X st t):PSs X [st] t:=by
 intro pins s σ H D I h;refine ai1 (thn (h1 pins s σ H D I h) λf G q=>?_);cases f with
 | next=>exact ac6 q
 | ret v=>exact q
 | brk=>exact q
 | cont=>exact q
theorem Inv.quiet {pins:D'} {σ:St} {H:Hp} {s:ik} (I:@M):interactive X.env=false:=by simp[interactive,I.ok.kind]
noncomputable abbrev V3 (te:TE):TS:=λD σ H=>te σ H λ_ H1=>D.nx σ H1
theorem bH (he:!F e te) (hs:swapsWith e gg pos.line X.env=pure false:=by rfl):PS X (.Expr e pos) (V3 te):=by
 intro pins s σ H D I h;exact wpAny_Expr_any (thn (he pins s σ H _ I h) λv L ⟨x,H1,Z,α,G⟩=>⟨σ,H1,Z,G⟩) I.quiet hs
noncomputable abbrev tRet (te:TE):TS:=λD σ H=>te σ H D.rt
theorem aE (he:!F e te):PS X (.Return (aY e) pos) (tRet te):=by
 intro pins s σ H D I h;exact wpAny_Return_some (thn (he pins s σ H _ I h) λv L ⟨x,H1,Z,α,G⟩=>⟨x,σ,H1,Z,α,G⟩)
noncomputable abbrev tIfS (c:TT) (t u:TS):TS:=λD σ H=>c σ H λb H1=>if b=true then t D σ H1 else u D σ H1
theorem dz {c:W5} {a b:eP YY} {tc:TT} (hc:PT X c tc) (ha:PSs X a t) (hb:PSs X b u):PS X (.If c a b pos) (tIfS tc t u):=by
 intro pins s σ H D I h;refine wpAny_If (thn (hc pins s σ H _ I h) λd G ⟨H1,Z,L⟩=>?_);cases d with
 | true=>exact ha pins G σ H1 D Z L
 | false=>exact hb pins G σ H1 D Z L
end
noncomputable abbrev TG:=V->St->Hp->(St->Hp->Prop)->Prop
noncomputable abbrev TGs:=eP V->St->Hp->(St->Hp->Prop)->Prop
def PG (X:Cx) (G:W5) (t:TG):Prop:=
 ∀(pins:D') (s:ik) (σ:St) (H:Hp) (v:V) (u:i') (Q:St->Hp->Prop),Inv X pins σ H s->RelV v u->t v σ H Q->
  lT @S X.A (assign G X.env u) (λ_ s'=>∃σ' H',Inv X pins σ' H' s'/\Q σ' H') X.xe s
def PGs (X:Cx) (ts:eP W5) (t:TGs):Prop:=
 ∀(pins:D') (s:ik) (σ:St) (H:Hp) (vs:eP V) (us:E') (Q:St->Hp->Prop),Inv X pins σ H s->Vals vs us->t vs σ H Q->
  lT @S X.A (assignInOrder ((!bA ts).map (·.2)) us) (λ_ s'=>∃σ' H',Inv X pins σ' H' s'/\Q σ' H') X.xe s
section
variable {X:Cx} {pos:Pos}
noncomputable def L8 (i:Nat):TG:=λv σ H Q=>Q (σ.set i @aI) H
theorem aq {i:Nat} {x:kv} (ψ:X.N.Nodup) (hi:X.N[i]? =aY x) (hx:Loc X.env.scope x) (hf:X.fn x=true∨X.env.scope.names.lookup x=aY .local:=by first | exact .inl rfl | exact .inr rfl | assumption):PG X (!aU pos) (L8 i):=by
 intro pins s σ H v u Q I r h;exact au2 (Ge I ψ hi hx r (λs' G=>⟨_,H,G,h⟩) hf)
noncomputable def gNil:TGs:=λvs σ H Q=>vs=[]/\Q σ H
noncomputable def Si (t:TG) (u:TGs):TGs:=λvs σ H Q=>∃v r,vs=v::r/\t v σ H fun σ' H'=>u r σ' H' Q
theorem kJ:PGs X [] gNil:=by
 intro pins s σ H vs us Q I r h;obtain⟨e,h⟩:=h;subst e;cases r;exact assignInOrder_nil ⟨σ,H,I,h⟩
theorem cc {e:W5} {es:eP W5} {t:TG} {u:TGs} (h1:PG X e t) (h2:PGs X es u)
  (hs:(!bA @V).map (·.2)=assign e X.env::(!bA es).map (·.2):=by rfl):PGs X @V (Si t u):=by
 intro pins s σ H vs us Q I r h;obtain⟨v,θ,Y,h⟩:=h;subst Y;cases r with
 | cons r Z=>
   rw[hs];refine assignInOrder_cons (thn (h1 pins s σ H _ _ _ I r h) λ_ G ⟨γ,H1,α,L⟩=>?_);exact h2 pins G γ H1 _ _ Q α Z L
noncomputable def gTup (K:b') (n:Nat) (t:TGs):TG:=λv σ H Q=>∃a xs,v= .ref a/\SqT K H a xs/\xs.length=n/\t xs σ H Q
theorem zN {es:eP W5} {k:Nat} {t:TGs} {n:Nat} (hc:@aQ) (h:PGs X es t)
  (hn:(!bA es).length=n:=by rfl) (ρ:(!bA es).findIdx? (·.1)=none:=by rfl):PG X (.Tuple es k pos) (gTup X.K n t):=by
 intro pins s σ H v u Q I r hw;obtain⟨a,xs,α,Y,hl,hw⟩:=hw;subst α;cases r;obtain⟨its,G,ht,hz⟩:=I.tuple Y;refine assign_Tuple_tuple (!aF hc) ht (by simp[hn,<-hl,G.length]) ρ λh' L=>?_;have Z:Inv X pins σ H {s with heap:=h'}:=I.kept (t':=s.toks) λb o e=>L b o (y1 @aM) e;exact h pins _ σ H xs _ Q Z (by simpa using G) hw
noncomputable abbrev tAsg (te:TE) (g:TG):TS:=λD σ H=>te σ H λx H1=>g x σ H1 D.nx
theorem Uv {tg e:W5} {te:TE} {g:TG} (he:!F e te) (Y:PG X tg g) (hs:swapsWithSole [tg] e pos.line X.env=pure false:=by rfl) (hw:swappedStores [tg] e X.env=pure none:=by rfl)
  (h1:(!bA [tg]).map (·.2)=[assign tg X.env]:=by rfl):PS X (.Assign [tg] e pos) (tAsg te g):=by
 intro pins s σ H D I h;refine wpAny_Assign_stores (thn (he pins s σ H _ I h) λv G ⟨x,H1,Z,α,L⟩=>?_) hs hw;rw[h1];exact thn (Y pins G σ H1 x v _ Z α L) λ_ β q=>q
theorem aA {i:Nat} {x:kv} {e:W5} {te:TE} {pos':Pos} (ψ:X.N.Nodup) (hi:X.N[i]? =aY x) (hx:Loc X.env.scope x) (he:!F e te) (hs:swapsWith e (aY (!aU pos')) pos.line X.env=pure false:=by rfl) (hf:X.fn x=true∨X.env.scope.names.lookup x=aY .local:=by first | exact .inl rfl | exact .inr rfl | assumption):
  PS X (.Assign [.Name x pos'] e pos) (tAsg te (L8 i)):=by
 intro pins s σ H D I h;refine wpAny_Assign_Name (thn (he pins s σ H _ I h) λv β ⟨y,H1,Z,α,G⟩=>?_) hs;exact Ge Z ψ hi hx α (λY L=>⟨_,H1,L,G⟩) hf
end
section
variable {X:Cx} {pos:Pos}
noncomputable def Tb (c:TT) (tb:TS):TS:=λD σ H=>∃W:Nat->St->Hp->Prop,(∃m,W m σ H)/\∀m σ H,W m σ H->
 c σ H λb H1=>if b=true then ∃N:St->Hp->Prop,(∀σ' H',N σ' H'->∃G,G < m/\W G σ' H')/\tb {D with nx:=N,ct:=N,bk:=D.nx} σ H1 else D.nx σ H1
theorem AD {c:W5} {L:eP YY} {tc:TT} {tb:TS} (θ:PassesOwn @S X.A X.env X.xe) (hc:PT X c tc) (hb:PSs X L tb):PS X (.While c L [] pos) (Tb tc tb):=by
 intro pins s σ H D I h;obtain⟨W,⟨ρ,w0⟩,α⟩:=h;refine wpAny_While (codeAny_whileLoop (λn s'=>∃σ' H',Inv X pins σ' H' s'/\W n σ' H') ?_ ρ ⟨σ,H,I,w0⟩);rintro n π ⟨γ,H1,Z,ν⟩;refine YB θ (thn (hc pins π γ H1 _ Z (α n γ H1 ν)) λb ο ⟨H2,ι,ζ⟩=>?_);cases b with
 | true=>
   obtain⟨N,ψ,ζ⟩:=ζ;rw[lx rfl];refine YB θ (thn (hb pins ο γ H2 _ ι ζ) λf τ ε=>?_);cases f with
   | next=>
     obtain⟨δ,β,G,Y⟩:=ε;obtain⟨η,hm,ξ⟩:=ψ δ β Y;exact⟨η,hm,δ,β,G,ξ⟩
   | cont=>
     obtain⟨δ,β,G,Y⟩:=ε;obtain⟨η,hm,ξ⟩:=ψ δ β Y;exact⟨η,hm,δ,β,G,ξ⟩
   | brk=>exact ε
   | ret v=>exact ε
 | false=>
   rw[kf hH];exact ac6 ⟨γ,H2,ι,ζ⟩
end
structure It where
 go:Nat->Hp->Prop
 yld:Nat->Hp->V->Hp->Prop
 stop:Nat->Hp->Prop
def FpOk (X:Cx) (pins:D') (H:Hp) (b:ee):Prop:=
 H b=gg/\b≠X.env.locals/\b∉X.fs/\@cw/\(∀x c,X.env.cells.lookup x=aY c->c≠b)/\∀p∈X.pn++pins,p.1≠b
theorem Inv.fpOk {X:Cx} {pins:D'} {σ:St} {H H':Hp} {s:ik} {b:ee} (I:@M) (hb:s.heap.objs.size<=b) (hn:H' b=gg):FpOk X pins H' b:=by
 refine⟨hn,Xw (gA I.lt hb),I.nofs hb,!I (XX I.sz hb),λx c e z=>?_,λp G z=>?_⟩
 ·obtain⟨v,q⟩:=I.cell x c e;exact hE (gA q.lt (by rw[z];exact hb)) (Y2 _)
 ·exact hE (gA (hK (I.pin p G).1) (by rw[z];exact hb)) (Y2 _)
structure Turn (P:ry) (w:z5) (K:b') (tg:W5) (J:It) (fp:M') (it:ee) (tn:Nat->WN->Prop):Prop where
 mem:it∈fp
 obj:∀i h,tn i h->∀b∈fp,∃o,h.get? b=aY o/\∀v,o.data≠.cell v
 keep:∀i h h',tn i h->(∀b∈fp,∀o,h.get? b=aY o->h'.get? b=aY o)->tn i h'
 item:∀(X:Cx),X.prog=P->X.w=w->X.K=K->X.calm=true->∀(i:Nat) (pins:D') (s:ik) (σ:St) (H:Hp) (E:Cr),Inv X pins σ H s->(∀b∈fp,FpOk X pins H b)->tn i s.heap->J.go i H->
  lT (rb P w) X.A (pyNext (!j it)) (λr s1=>∃u,r=aY u/\
   lT (rb P w) X.A (letOwnedTupleGo tg (!j it) u) (λ_ s2=>∃x H',Inv X pins σ H' s2/\RelV x u/\J.yld i H x H'/\tn @H s2.heap/\∀b∈fp,H' b=gg) E s1) E s
 done:∀(X:Cx),X.prog=P->X.w=w->X.K=K->X.calm=true->∀(i:Nat) (pins:D') (s:ik) (σ:St) (H:Hp) (E:Cr),Inv X pins σ H s->(∀b∈fp,FpOk X pins H b)->tn i s.heap->J.stop i H->
  lT (rb P w) X.A (pyNext (!j it)) (λr s1=>r=gg/\Inv X pins σ H s1) E s
 self:∀(A:W6) (i:Nat) (s:ik) (Q:Cr) (E:Cr),tn i s.heap->Q (!j it) s->lT (rb P w) A (pyIter (!j it)) Q E s
noncomputable abbrev TI:=St->Hp->(It->Hp->Prop)->Prop
def PIE (X:Cx) (pins:D') (σ:St) (tg:W5) (R:It->Hp->Prop) (ψ:i') (L:ik):Prop:=
 ∃(Y:ee) (fp:M') (G:Nat->WN->Prop) (J:It) (H':Hp),ψ= .ref Y/\Inv X pins σ H' L/\Turn X.prog X.w X.K tg J fp Y G/\G 0 L.heap/\(∀b∈fp,FpOk X pins H' b)/\R J H'
def PI (X:Cx) (tg iter:W5) (G:TI):Prop:=
 ∀(pins:D') (s:ik) (σ:St) (H:Hp) (R:It->Hp->Prop),Inv X pins σ H s->G σ H R->
  lT @S X.A (!aw iter) (λv L=>lT @S X.A (pyIter v) (PIE X pins σ tg R) X.xe L) X.xe s
theorem OV {M:Model} {A:W6} {E:Cr} {s:ik} {tg:W5} {G:ee} {u:i'} {o:Obj} {n:X9} {vs:G'} {Q:L'} (ho:s.heap.get? G=aY o) (hc:o.cls= .type n) (hd:o.data= .fields vs)
  (hn:["enumerate","zip","dict_itemiterator","dict_reverseitemiterator","odict_iterator","itertools.zip_longest","itertools.pairwise"].contains n=false) (Y:Q () s):lT M A (letOwnedTupleGo tg (!j G) u) Q E s:=by
 unfold letOwnedTupleGo
 cases tg<;>first
  | exact oD Y
  | (cases u<;>first
    | exact oD Y
    | (refine gz (wpAny_load ho ?_)
       rw[hc,hd];show lT M A (if (["enumerate","zip","dict_itemiterator","dict_reverseitemiterator","odict_iterator","itertools.zip_longest","itertools.pairwise"].contains n&&vs[0]? == aY (rawInt _))=true then _ else _) Q E s;rw[kf (by intro h;rw[hn,WT] at h;cases h)];exact oD Y))
noncomputable def Itl (K:b') (a:ee):It:=
 ⟨λi H=>∃xs x,SqL K H a xs/\xs[i]? =aY x,λi H x H'=>H'=H/\∀xs,SqL K H a xs->xs[i]? =aY x,λi H=>∃xs,SqL K H a xs/\xs.length<=i⟩
noncomputable def Itt (K:b') (a:ee):It:=
 ⟨λi H=>∃xs x,SqT K H a xs/\xs[i]? =aY x,λi H x H'=>H'=H/\∀xs,SqT K H a xs->xs[i]? =aY x,λi H=>∃xs,SqT K H a xs/\xs.length<=i⟩
noncomputable def Itr (lo:Int) (n:Nat):It:=⟨λi _=>i < n,λi H x H'=>H'=H/\x= .int (lo + i),λi _=>n<=i⟩
theorem BS {P:ry} {w:z5} {K:b'} {tg:W5} (a G:ee):Turn P w K tg (Itl K a) [G] G (λi h=>h.IsListIter G a i) where
 mem:=by simp
 obj:=λi h st b hb=>by
  have e:b=G:=by simpa using hb
  subst e;obtain⟨o,e,c,d⟩:=st;exact⟨o,e,λv z=>by rw[d] at z;cases z⟩
 keep:=λi h h' st k=>st.at λo e=>k G @C o e
 item:=by
  intro X γ hw υ ι i pins s σ H E I hf st β;subst γ hw υ;obtain⟨xs,x,L,α⟩:=β;obtain⟨its,Y,p,hz⟩:=I.list L;obtain⟨u,π,ξ⟩:=Y.get α;obtain⟨θ,η,ρ,ψ,ζ,δ⟩:=hf G @C;refine wpAny_pyNext_list_item st p.isList (x:=u) (by simpa using π) λh' ε ν=>?_;have Z:Inv X pins σ H {s with heap:=h'}:=I.turned (t':=s.toks) (λb o hb e=>(ν.2 b hb).trans e) θ η ψ ζ δ;obtain⟨o,e,c,d⟩:=id ε;exact⟨u,rfl,OV (s:={s with heap:=h'}) e c d @D ⟨x,H,Z,ξ,⟨rfl,λys ο=>by rw[I.list_inj ο L];exact α⟩,ε,λb hb=>(hf b hb).1⟩⟩
 done:=by
  intro X γ hw υ ι i pins s σ H E I hf st β;subst γ hw υ;obtain⟨xs,L,α⟩:=β;obtain⟨its,Y,p,hz⟩:=I.list L;obtain⟨θ,η,ρ,ψ,ζ,δ⟩:=hf G @C;have hl:=Y.length;exact wpAny_pyNext_list_end (!aF ι) st p.isList (by simp;omega) λh' τ=>⟨rfl,I.turned (t':=s.toks) (λb o hb e=>τ b o hb e) θ η ψ ζ δ⟩
 self:=λ_ _ _ _ _ st h=>wpAny_pyIter_listiter st h
theorem zJ {P:ry} {w:z5} {K:b'} {tg:W5} (a G:ee):Turn P w K tg (Itt K a) [G] G (λi h=>h.IsTupleIter G a i) where
 mem:=by simp
 obj:=λi h st b hb=>by
  have e:b=G:=by simpa using hb
  subst e;obtain⟨o,e,c,d⟩:=st;exact⟨o,e,λv z=>by rw[d] at z;cases z⟩
 keep:=λi h h' st k=>st.at λo e=>k G @C o e
 item:=by
  intro X γ hw υ ι i pins s σ H E I hf st β;subst γ hw υ;obtain⟨xs,x,L,α⟩:=β;obtain⟨its,Y,p,hz⟩:=I.tuple L;obtain⟨u,π,ξ⟩:=Y.get α;obtain⟨θ,η,ρ,ψ,ζ,δ⟩:=hf G @C;refine wpAny_pyNext_tuple_item st (show s.heap.IsTuple a its.toArray from p) (x:=u) (by simpa using π) λh' ε ν=>?_;have Z:Inv X pins σ H {s with heap:=h'}:=I.turned (t':=s.toks) (λb o hb e=>(ν.2 b hb).trans e) θ η ψ ζ δ;obtain⟨o,e,c,d⟩:=id ε;exact⟨u,rfl,OV (s:={s with heap:=h'}) e c d @D ⟨x,H,Z,ξ,⟨rfl,λys ο=>by rw[I.tuple_inj ο L];exact α⟩,ε,λb hb=>(hf b hb).1⟩⟩
 done:=by
  intro X γ hw υ ι i pins s σ H E I hf st β;subst γ hw υ;obtain⟨xs,L,α⟩:=β;obtain⟨its,Y,p,hz⟩:=I.tuple L;obtain⟨θ,η,ρ,ψ,ζ,δ⟩:=hf G @C;have hl:=Y.length;exact wpAny_pyNext_tuple_end (!aF ι) st (show s.heap.IsTuple a its.toArray from p) (by simp;omega) λh' τ=>⟨rfl,I.turned (t':=s.toks) (λb o hb e=>τ b o hb e) θ η ψ ζ δ⟩
 self:=λ_ _ _ _ _ st h=>wpAny_pyIter_tupleiter st h
theorem G6 {P:ry} {w:z5} {K:b'} {tg:W5} (G:ee) (lo:Int) (n:Nat):Turn P w K tg (Itr lo n) [G] G (λi h=>IsRangeIter h G (lo + (i:Nat) * 1) ((n:Int) - (i:Nat)) 1) where
 mem:=by simp
 obj:=λi h st b hb=>by
  have e:b=G:=by simpa using hb
  subst e
  exact⟨_,st,λv z=>by
   have η:Data.fields _=Data.cell v:=z;cases η⟩
 keep:=λi h h' st k=>k G @C _ st
 item:=by
  intro X α hw υ Y i pins s σ H E I hf st L;subst α hw υ;obtain⟨ζ,δ,ν,ψ,γ,β⟩:=hf G @C;have W:=Walks.range (prog:=X.prog) (w:=X.w) (!aF Y) G lo 1 n;refine W.item i s _ _ L st λv h' tk ι ε θ=>?_;obtain⟨t,rfl⟩:=ι;have Z:Inv X pins σ H {s with heap:=h',toks:=tk}:=I.turned (λb o hb e=>θ b o (by simpa using hb) e) ζ δ ψ γ β;refine⟨_,rfl,OV (s:={s with heap:=h',toks:=tk}) (n:="range_iterator") ε rfl rfl @D ⟨.int (lo + i),H,Z,⟨t,?_⟩,⟨rfl,rfl⟩,ε,λb hb=>(hf b hb).1⟩⟩;rw[Int.mul_one]
 done:=by
  intro X α hw υ Y i pins s σ H E I hf st L;subst α hw υ;obtain⟨ζ,δ,ν,ψ,γ,β⟩:=hf G @C;exact wpAny_pyNext_range_end (!aF Y) st (by have:n<=i:=L;omega) λh' ξ=>⟨rfl,I.turned (t':=s.toks) (λb o hb e=>ξ b o hb e) ζ δ ψ γ β⟩
 self:=λ_ _ _ _ _ st h=>wpAny_pyIter_rangeiter st h
section
variable {X:Cx} {tg:W5}
noncomputable abbrev Vb (K:b') (tl:TE):TI:=fun σ H R=>tl σ H λx H1=>∃a,x= .ref a/\(∃xs,SqL K H1 a xs)/\R (Itl K a) H1
noncomputable abbrev iTup (K:b') (tl:TE):TI:=fun σ H R=>tl σ H λx H1=>∃a,x= .ref a/\(∃xs,SqT K H1 a xs)/\R (Itt K a) H1
theorem RI {l:W5} {tl:TE} (hl:!F l tl):PI X tg l (Vb X.K tl):=by
 intro pins s σ H R I h;refine thn (hl pins s σ H _ I h) λv G ⟨x,H1,I1,α,L⟩=>?_;obtain⟨a,e,⟨xs,Y⟩,q⟩:=L;subst e;cases α;obtain⟨its,Z,p,hz⟩:=I1.list Y;refine Za p.isList ?_;refine⟨G.heap.objs.size,[G.heap.objs.size],_,_,H1,rfl,I1.kept (t':=G.toks) λb o e=>gn _ e,BS a _,⟨_,kh _ rfl,rfl,rfl⟩,λb hb=>?_,q⟩;have e:b=G.heap.objs.size:=by simpa using hb
 subst e;exact !bl @U @U
theorem Uz {l:W5} {tl:TE} (hl:!F l tl):PI X tg l (iTup X.K tl):=by
 intro pins s σ H R I h;refine thn (hl pins s σ H _ I h) λv G ⟨x,H1,I1,α,L⟩=>?_;obtain⟨a,e,⟨xs,Y⟩,q⟩:=L;subst e;cases α;obtain⟨its,Z,p,hz⟩:=I1.tuple Y;refine Z5 (show G.heap.IsTuple a its.toArray from p) ?_;refine⟨G.heap.objs.size,[G.heap.objs.size],_,_,H1,rfl,I1.kept (t':=G.toks) λb o e=>gn _ e,zJ a _,⟨_,kh _ rfl,rfl,rfl⟩,λb hb=>?_,q⟩;have e:b=G.heap.objs.size:=by simpa using hb
 subst e;exact !bl @U @U
theorem On {pins:D'} {σ:St} {H:Hp} {s:ik} {R:It->Hp->Prop} {E:Cr} {lo hi:Int} {t u v:Tok} {tk:Nat} (I:@M) (h1: -(2 ^ 62)<=lo) (h2:lo < 2 ^ 62) (G: -(2 ^ 62)<=hi) (ι:hi < 2 ^ 62)
  (q:R (Itr lo (hi - lo).toNat) H):lT @S X.A (pyIter @aN) (PIE X pins σ tg R) E {s with heap:=s.heap.push {cls:= .type "range",data:= .fields #[.int lo t,.int hi u,.int 1 v]},toks:=tk}:=by
 refine wpAny_pyIter_range (at3 ..) (small_one h1 h2 G ι) ?_;have I1:Inv X pins σ H {s with heap:=s.heap.push {cls:= .type "range",data:= .fields #[.int lo t,.int hi u,.int 1 v]},toks:=tk}:=I.kept λb o e=>gn _ e
 refine⟨(s.heap.push {cls:= .type "range",data:= .fields #[.int lo t,.int hi u,.int 1 v]}).objs.size,[(s.heap.push {cls:= .type "range",data:= .fields #[.int lo t,.int hi u,.int 1 v]}).objs.size],_,_,H,rfl,
  I1.kept (t':=tk) λb o e=>gn _ e,G6 _ lo (hi - lo).toNat,?_,λb hb=>?_,q⟩
 ·have Y:lo + ((0:Nat):Int) * 1=lo:=by simp
  have L:(((hi - lo).toNat:Nat):Int) - ((0:Nat):Int)=Builtin.Range.rangeSize lo hi 1:=by rw[rangeSize_one];split<;>omega
  show IsRangeIter _ _ (lo + ((0:Nat):Int) * 1) ((((hi - lo).toNat:Nat):Int) - ((0:Nat):Int)) 1;rw[Y,L];exact kh _ rfl
 ·have e:b=(s.heap.push {cls:= .type "range",data:= .fields #[.int lo t,.int hi u,.int 1 v]}).objs.size:=by simpa using hb
  subst e;exact !bl @U @U
noncomputable abbrev Ww (ta:TA):TI:=fun σ H R=>ta σ H λvs H1=>∃j:Int,vs=[.int j]/\-(2 ^ 62)<=j/\j < 2 ^ 62/\R (Itr 0 j.toNat) H1
theorem cB {a:W5} {ta:TA} {p pos:Pos} (Y:Gl X "range") (hm:X.mg "range"=gg) (ha:PA X [a] ta) (hs:pT [a] X.env=[(false,eval a X.env)]:=by rfl):PI X tg (!aG "range" p [a] [] pos) (Ww ta):=by
 intro pins s σ H R I h;refine ai6 (mR I Y hm boot_range (wq (thn (ha pos pins s σ H _ I h) λus γ ⟨vs,H1,β,α,G⟩=>?_) hs rfl));obtain⟨j,e,G,L,q⟩:=G;subst e;cases α with
 | cons r Z=>
   cases Z;obtain⟨t,rfl⟩:=r;exact call_range_1 (On β @A @A G L (by simpa using q))
noncomputable def tFor (Y:TI) (g:TG) (tb:TS):TS:=λD σ H=>Y σ H λJ H1=>∃W:Nat->Nat->St->Hp->Prop,(∃m,W 0 m σ H1)/\∀i m σ H,W i m σ H->
 (J.stop i H/\D.nx σ H)∨(J.go i H/\∃N:St->Hp->Prop,(∀σ' H',N σ' H'->∃L,L < m/\W @H L σ' H')/\∀x H',J.yld i H x H'->g x σ H' λG H2=>tb {D with nx:=N,ct:=N,bk:=D.nx} G H2)
noncomputable def Cg (fp:M') (h:WN):D':=fp.filterMap λb=>(h.get? b).map λo=>(b,o)
theorem p8 {fp:M'} {h:WN} {b:ee} {o:Obj} (hb:b∈fp) (e:h.get? b=aY o):(b,o)∈Cg fp h:=ap2.mpr ⟨b,hb,by rw[e];rfl⟩
theorem K0 {fp:M'} {h:WN} {p:ee×Obj} (G:p∈Cg fp h):p.1∈fp/\h.get? p.1=aY p.2:=by
 obtain⟨b,hb,e⟩:=ap2.mp G;cases q:h.get? b with
 | none=>rw[q] at e;cases e
 | some o=>
   rw[q] at e;have L:(b,o)=p:=qA e;subst L;exact⟨hb,q⟩
theorem Inv.pinned {pins:D'} {σ:St} {H:Hp} {s:ik} {fp:M'} (I:@M) (hf:∀b∈fp,FpOk X pins H b) (ho:∀b∈fp,∃o,s.heap.get? b=aY o/\∀v,o.data≠.cell v):Inv X (pins++Cg fp s.heap) σ H s:=
 I.pins_of λp L=>(gs.mp L).elim (λz=>I.pin p (hJ _ z)) λz=>by
  obtain⟨hb,e⟩:=K0 z;obtain⟨ε,Z,Y,_⟩:=hf p.1 hb;obtain⟨o,G,d⟩:=ho p.1 hb;rw[e] at G;cases G;exact⟨e,ε,Z,Y,d⟩
theorem Inv.unpinned {pins pl:D'} {σ:St} {H:Hp} {s:ik} (I:Inv X (pins++pl) σ H s):@M:=I.pins_of λp G=>I.pin p (hJ _ (hG _ G))
theorem dF {iter:W5} {ε:eP YY} {wi:TI} {g:TG} {tb:TS} {pos:Pos} (τ:PassesOwn @S X.A X.env X.xe) (hc:@aQ) (hi:PI X tg iter wi) (hg:PG X tg g) (hb:PSs X ε tb)
  (hs:∀x,foldedSetIterable iter X.env x=pure x:=by intro _;rfl):PS X (.For tg iter ε [] pos) (tFor wi g tb):=by
 intro pins s σ H D I h;refine wpAny_For (thn (hi pins s σ H _ I h) λv s1 h1=>thn h1 fun ψ s2 h2=>?_) hs;obtain⟨it,fp,tn,J,H2,e,I2,T,ω,f2,W,⟨m0,w0⟩,ν⟩:=h2;subst e;have η:∀{H':Hp},(∀b∈fp,H' b=gg)->∀b∈fp,FpOk X pins H' b:=λhn b hb=>⟨hn b hb,(f2 b hb).2⟩;refine codeAny_forLoop_any (λn s'=>∃i σ' H',Inv X pins σ' H' s'/\tn i s'.heap/\(∀b∈fp,H' b=gg)/\W i n σ' H') ?_ m0 ⟨0,σ,H2,I2,ω,λb hb=>(f2 b hb).1,w0⟩;rintro n s3 ⟨i,δ,υ,G,ο,π,ξ⟩;rcases ν i n δ υ ξ with ⟨stop,qn⟩ | ⟨go,N,hN,step⟩
 ·refine YB τ (thn (T.done X rfl rfl rfl hc i pins s3 δ υ X.xe G (η π) ο stop) λr s4 ⟨hr,I4⟩=>?_);subst hr;exact ac6 ⟨δ,υ,I4,qn⟩
 ·refine YB τ (thn (T.item X rfl rfl rfl hc i pins s3 δ υ X.xe G (η π) ο go) λr s4 ⟨u,hr,ι⟩=>?_);subst hr;refine YB τ (thn ι λ_ s5 ⟨x,H5,I5,α,Y,θ,a0⟩=>?_);have a3:=I5.pinned (η a0) (T.obj _ _ θ);refine YB τ (thn (hg _ s5 δ H5 x u _ a3 α (step x H5 Y)) λ_ s6 ⟨φ,H6,β,q6⟩=>?_);refine YB τ (thn (hb _ s6 φ H6 _ β q6) λf χ γ=>?_)
  have again:∀{ζ:St} {L:Hp},Inv X (pins++Cg fp s5.heap) ζ L χ->N ζ L->∃m,m < n/\∃i σ' H',Inv X pins σ' H' χ/\tn i χ.heap/\(∀b∈fp,H' b=gg)/\W i m σ' H':=λ{ζ L} I7 ρ=>by
   obtain⟨m',hm,Z⟩:=hN ζ L ρ;refine⟨m',hm,i + 1,ζ,L,I7.unpinned,T.keep _ _ _ θ λb hb o e=>(I7.pin (b,o) (hJ _ (hJ _ (p8 hb e)))).1,λb hb=>?_,Z⟩;obtain⟨o,e,d⟩:=T.obj _ _ θ b hb;exact(I7.pin (b,o) (hJ _ (hJ _ (p8 hb e)))).2.1
  cases f with
  | next=>obtain⟨ζ,L,I7,ρ⟩:=γ;exact again I7 ρ
  | cont=>obtain⟨ζ,L,I7,ρ⟩:=γ;exact again I7 ρ
  | brk=>obtain⟨ζ,L,I7,γ⟩:=γ;exact⟨ζ,L,I7.unpinned,γ⟩
  | ret v=>obtain⟨x7,ζ,L,I7,r7,γ⟩:=γ;exact⟨x7,ζ,L,I7.unpinned,r7,γ⟩
end
theorem gE {K:b'} {a:ee} {xs:eP V} {g:TG} {tb:TS} {D:Ends} {σ:St} {H:Hp} (G:Nat->St->Hp->Prop) (h0:G 0 σ H) (hl:∀i σ H,i<=xs.length->G i σ H->SqL K H a xs)
  (hs:∀i x σ H,xs[i]? =aY x->G i σ H->g x σ H λL H2=>tb {D with nx:=G @H,ct:=G @H,bk:=D.nx} L H2) (hd:∀σ H,G xs.length σ H->D.nx σ H):
  ∃W:Nat->Nat->St->Hp->Prop,(∃m,W 0 m σ H)/\∀i m σ H,W i m σ H->
    ((Itl K a).stop i H/\D.nx σ H)∨((Itl K a).go i H/\∃N:St->Hp->Prop,(∀σ' H',N σ' H'->∃Z,Z < m/\W @H Z σ' H')/\∀x H',(Itl K a).yld i H x H'->g x σ H' λL H2=>tb {D with nx:=N,ct:=N,bk:=D.nx} L H2):=by
 refine⟨λi m σ H=>m=xs.length - i/\i<=xs.length/\G i σ H,⟨xs.length,@C,Xy _,h0⟩,?_⟩;rintro i m σ H ⟨rfl,hi,p⟩;have q:=hl i σ H hi p;by_cases Y:i < xs.length
 ·refine !I ⟨⟨xs,xs[i],q,by simp[Y]⟩,G @H,fun σ' H' α=>⟨xs.length - @H,by omega,rfl,Y,α⟩,λx H' y=>?_⟩;obtain⟨e,y⟩:=y;subst e;exact hs i x σ _ (y xs q) p
 ·have e:i=xs.length:=by omega
  subst e;exact !E ⟨⟨xs,q,mc _⟩,hd σ H p⟩
theorem uP {K:b'} {a:ee} {xs:eP V} {g:TG} {tb:TS} {D:Ends} {σ:St} {H:Hp} (G:Nat->St->Hp->Prop) (h0:G 0 σ H) (hl:∀i σ H,i<=xs.length->G i σ H->SqT K H a xs)
  (hs:∀i x σ H,xs[i]? =aY x->G i σ H->g x σ H λL H2=>tb {D with nx:=G @H,ct:=G @H,bk:=D.nx} L H2) (hd:∀σ H,G xs.length σ H->D.nx σ H):
  ∃W:Nat->Nat->St->Hp->Prop,(∃m,W 0 m σ H)/\∀i m σ H,W i m σ H->
    ((Itt K a).stop i H/\D.nx σ H)∨((Itt K a).go i H/\∃N:St->Hp->Prop,(∀σ' H',N σ' H'->∃Z,Z < m/\W @H Z σ' H')/\∀x H',(Itt K a).yld i H x H'->g x σ H' λL H2=>tb {D with nx:=N,ct:=N,bk:=D.nx} L H2):=by
 refine⟨λi m σ H=>m=xs.length - i/\i<=xs.length/\G i σ H,⟨xs.length,@C,Xy _,h0⟩,?_⟩;rintro i m σ H ⟨rfl,hi,p⟩;have q:=hl i σ H hi p;by_cases Y:i < xs.length
 ·refine !I ⟨⟨xs,xs[i],q,by simp[Y]⟩,G @H,fun σ' H' α=>⟨xs.length - @H,by omega,rfl,Y,α⟩,λx H' y=>?_⟩;obtain⟨e,y⟩:=y;subst e;exact hs i x σ _ (y xs q) p
 ·have e:i=xs.length:=by omega
  subst e;exact !E ⟨⟨xs,q,mc _⟩,hd σ H p⟩
theorem kU {lo:Int} {n:Nat} {g:TG} {tb:TS} {D:Ends} {σ:St} {H:Hp} (Y:Nat->St->Hp->Prop) (h0:Y 0 σ H)
  (hs:∀i σ H,i < n->Y i σ H->g (.int (lo + i)) σ H λG H2=>tb {D with nx:=Y @H,ct:=Y @H,bk:=D.nx} G H2) (hd:∀σ H,Y n σ H->D.nx σ H):
  ∃W:Nat->Nat->St->Hp->Prop,(∃m,W 0 m σ H)/\∀i m σ H,W i m σ H->
    ((Itr lo n).stop i H/\D.nx σ H)∨((Itr lo n).go i H/\∃N:St->Hp->Prop,(∀σ' H',N σ' H'->∃Z,Z < m/\W @H Z σ' H')/\∀x H',(Itr lo n).yld i H x H'->g x σ H' λG H2=>tb {D with nx:=N,ct:=N,bk:=D.nx} G H2):=by
 refine⟨λi m σ H=>m=n - i/\i<=n/\Y i σ H,⟨n,@C,Xy _,h0⟩,?_⟩;rintro i m σ H ⟨rfl,hi,p⟩;by_cases L:i < n
 ·refine !I ⟨L,Y @H,fun σ' H' α=>⟨n - @H,by omega,rfl,L,α⟩,λx H' y=>?_⟩;obtain⟨e,y⟩:=y;subst e y;exact hs i σ _ L p
 ·have e:i=n:=by omega
  subst e;exact !E ⟨mc _,hd σ H p⟩
noncomputable abbrev R2:=V->V->Hp->VK->Prop
def OpR (X:Cx) (f:@cm) (r:R2):Prop:=
 ∀(pins:D') (s:ik) (σ:St) (H:Hp) (x y:V) (v u:i') (Q:VK),Inv X pins σ H s->RelV x v->RelV y u->r x y H Q->
  lT @S X.A (f v u) (EP X pins σ Q) X.xe s
def UnR (X:Cx) (f:i'->Sem i') (r:V->Hp->VK->Prop):Prop:=
 ∀(pins:D') (s:ik) (σ:St) (H:Hp) (x:V) (v:i') (Q:VK),Inv X pins σ H s->RelV x v->r x H Q->
  lT @S X.A (f v) (EP X pins σ Q) X.xe s
def oJ (X:Cx) (f:i') (r:eP V->Hp->VK->Prop):Prop:=
 ∀(pins:D') (s:ik) (σ:St) (H:Hp) (xs:eP V) (us:E') (Q:VK),Inv X pins σ H s->Vals xs us->r xs H Q->
  lT @S X.A (call f us) (EP X pins σ Q) X.xe s
noncomputable abbrev tOp (r:R2) (ta tb:TE):TE:=fun σ H Q=>ta σ H λx H1=>tb σ H1 λy H2=>r x y H2 Q
noncomputable abbrev tUn (r:V->Hp->VK->Prop) (ta:TE):TE:=fun σ H Q=>ta σ H λx H1=>r x H1 Q
noncomputable def rI (C:Int->Int->Prop) (g:Int->Int->V):R2:=λx y H Q=>∃i j,x= .int i/\y= .int j/\C i j/\Q (g i j) H
noncomputable def rI0 (g:Int->Int->V):R2:=λx y H Q=>∃i j,x= .int i/\y= .int j/\Q (g i j) H
noncomputable def rU (g:Int->V):V->Hp->VK->Prop:=λx H Q=>∃i,x= .int i/\Q (g i) H
section
variable {X:Cx} {a b c:W5} {ta tb tc:TE} {pos:Pos}
theorem binT (ha:!F a ta) (hb:!F b tb) {pins:D'} {s:ik} {σ:St} {H:Hp} {R:V->V->Hp->Prop} (I:@M)
  (h:ta σ H λx H1=>tb σ H1 λy H2=>R x y H2) {Q:Cr} {f:@cm}
  (hf:∀v u L x y H2,Inv X pins σ H2 L->RelV x v->RelV y u->R x y H2->lT @S X.A (f v u) Q X.xe L):
  lT @S X.A (!aw a) (λv G=>lT @S X.A (!aw b) (λu τ=>lT @S X.A (f v u) Q X.xe τ) X.xe G) X.xe s:=by
 refine thn (ha pins s σ H _ I h) λv Y ⟨x,H1,Z,α,δ⟩=>?_;refine thn (hb pins Y σ H1 _ Z δ) λu L ⟨y,H2,ε,β,γ⟩=>?_;exact hf v u L x y H2 ε α β γ
theorem ay {ε:Operator} {r:R2} (ho:!aZ X ε r) (ha:!F a ta) (hb:!F b tb):!F (.BinOp a ε b pos) (tOp r ta tb):=by
 intro pins s σ H Q I h;exact wpAny_BinOp @d7
theorem KN {ε:UnaryOp} {r:V->Hp->VK->Prop} (ho:UnR X (unaryOp ε) r) (ha:!F a ta):!F (.UnaryOp ε a pos) (tUn r ta):=by
 intro pins s σ H Q I h;exact UnaryOp_ (thn (ha pins s σ H _ I h) λv G ⟨x,H1,Z,α,L⟩=>ho pins G σ H1 x v Q Z α L)
theorem opI {f:@cm} {C:Int->Int->Prop} {g:Int->Int->Int}
  (rule:∀(i j:Int) (t u:Tok) (s:ik) (Q:Cr) (E:Cr),C i j->Q (.int (g i j) s.toks) {s with toks:=s.toks + 1}->lT @S X.A (f (.int i t) (.int j u)) Q E s):
  OpR X f (rI C λi j=> .int (g i j)):=by
 intro pins s σ H x y v u Q I G L h;obtain⟨i,j,rfl,rfl,Y,q⟩:=h;obtain⟨t,rfl⟩:=G;obtain⟨t',rfl⟩:=L;exact rule i j t t' s _ _ Y ⟨.int (g i j),H,I.tok _,⟨_,rfl⟩,q⟩
theorem opI0 {f:@cm} {g:Int->Int->Int}
  (rule:∀(i j:Int) (t u:Tok) (s:ik) (Q:Cr) (E:Cr),Q (.int (g i j) s.toks) {s with toks:=s.toks + 1}->lT @S X.A (f (.int i t) (.int j u)) Q E s):
  OpR X f (!c1 (g i j)):=by
 intro pins s σ H x y v u Q I G L h;obtain⟨i,j,rfl,rfl,q⟩:=h;obtain⟨t,rfl⟩:=G;obtain⟨t',rfl⟩:=L;exact rule i j t t' s _ _ ⟨.int (g i j),H,I.tok _,⟨_,rfl⟩,q⟩
theorem opB0 {f:@cm} {g:Int->Int->Xb}
  (rule:∀(i j:Int) (t u:Tok) (s:ik) (Q:Cr) (E:Cr),Q (.bool (g i j)) s->lT @S X.A (f (.int i t) (.int j u)) Q E s):
  OpR X f (rI0 λi j=> .bl (g i j)):=by
 intro pins s σ H x y v u Q I G L h;obtain⟨i,j,rfl,rfl,q⟩:=h;obtain⟨t,rfl⟩:=G;obtain⟨t',rfl⟩:=L;exact rule i j t t' s _ _ ⟨.bl (g i j),H,I,rfl,q⟩
def CDiv (i j:Int):Prop:=0 < j/\j < 1073741824
def WI (i j:Int):Prop:=j≠0/\j.natAbs < 1073741824
def CPow (i j:Int):Prop:=0<=j/\j<=1000000/\i.natAbs < 2 ^ 64
def CMul (i j:Int):Prop:=(-(2 ^ 64) < i/\i < 2 ^ 64)∨(-(2 ^ 64) < j/\j < 2 ^ 64)
theorem CMul.ok {i j:Int} (h:CMul i j):IntMulOk i j:=by
 rcases h with ⟨h1,h2⟩ | ⟨h1,h2⟩
 ·exact .of_left (intBits_le_64 h1 h2)
 ·exact .of_right (intBits_le_64 h1 h2)
theorem G5 (k:Nat):(0:Int)<=2 ^ k:=by
 rw[two_pow_cast];exact ae0 _
theorem c7:!aZ X .Add (!c1 (i + j)):=opI0 λ_ _ _ _ _ _ _ q=>add_int q
theorem su:!aZ X .Sub (!c1 (i - j)):=opI0 λ_ _ _ _ _ _ _ q=>sub_int q
theorem qK:!aZ X .Mult (rI CMul λi j=> .int (i * j)):=opI λ_ _ _ _ _ _ _ hc q=>mul_int q hc.ok
theorem AJ:!aZ X .FloorDiv (rI CDiv λi j=> .int (i / j)):=opI λi j _ _ _ _ _ hc q=>by
 have h1:(0:Int) < j:=hc.1;have h2:j < 1073741824:=hc.2;exact floordiv_int @A (by rw[ZI i @A];exact q) (!E (ai3 @A))
theorem dA:!aZ X .Mod (rI (λ_ j=>0 < j) λi j=> .int (i % j)):=opI λi j _ _ _ _ _ hc q=>by
 have h1:(0:Int) < j:=hc;exact mod_int' @A (by rw[ai5 i @A];exact q)
theorem UG:!aZ X .Pow (rI CPow λi j=> .int (i ^ j.toNat)):=opI λ_ _ _ _ _ _ _ hc q=>pow_int_small hc.1 hc.2.1 hc.2.2 q
theorem ig:!aZ X .LShift (rI CPow λi j=> .int (i * 2 ^ j.toNat)):=opI λ_ _ _ _ _ _ _ hc q=>lshift_int_small hc.1 hc.2.1 hc.2.2 q
theorem w8:!aZ X .RShift (rI (λ_ j=>0<=j) λi j=> .int (i / 2 ^ j.toNat)):=opI λi j _ _ _ _ _ hc q=>
 rshift_int hc (by rw[ZI i (G5 _)];exact q)
theorem o8:!aZ X .BitAnd (!c1 (Y0 i j)):=opI0 λ_ _ _ _ _ _ _ q=>and_int q
theorem oa:!aZ X .BitXor (!c1 (WU i j)):=opI0 λ_ _ _ _ _ _ _ q=>xor_int q
theorem unI {f:i'->Sem i'} {g:Int->Int}
  (rule:∀(i:Int) (t:Tok) (s:ik) (Q:Cr) (E:Cr),Q (.int (g i) s.toks) {s with toks:=s.toks + 1}->lT @S X.A (f (.int i t)) Q E s):
  UnR X f (rU λi=> .int (g i)):=by
 intro pins s σ H x v Q I G h;obtain⟨i,rfl,q⟩:=h;obtain⟨t,rfl⟩:=G;exact rule i t s _ _ ⟨.int (g i),H,I.tok _,⟨_,rfl⟩,q⟩
theorem BQ:UnR X (unaryOp .USub) (rU λi=> .int (-i)):=unI λ_ _ _ _ _ q=>neg_int q
end
noncomputable def scal:V->V->Xb
 | .non,.non=>true | .non,.int _=>true | .int _,.non=>true | .non,.bl _=>true | .bl _,.non=>true | .non,.str _=>true | .str _,.non=>true
 | .int _,.int _=>true | .bl _,.bl _=>true | .str _,.str _=>true | .byt _,.byt _=>true
 | .int _,.str _=>true | .str _,.int _=>true | .bl _,.str _=>true | .str _,.bl _=>true
 | _,_=>false
noncomputable def rEq:R2:=λx y H Q=>scal x y=true/\Q (.bl (decide (x=y))) H
noncomputable def rNe:R2:=λx y H Q=>scal x y=true/\Q (.bl (!decide (x=y))) H
theorem Mq {i j:Int}:decide (V.int i=V.int j)=(i == j):=by
 rw[Yc];simp
theorem Qr {i j:Xb}:decide (V.bl i=V.bl j)=(i == j):=by
 rw[Yc];simp
theorem Mp {i j:kv}:decide (V.str i=V.str j)=(i == j):=by
 rw[Yc];simp
theorem Mr {i j:ar5 UInt8}:decide (V.byt i=V.byt j)=(i.toList == j.toList):=by
 rw[Yc];cases i;cases j;simp
section
variable {X:Cx} {a b c:W5} {ta tb tc:TE} {pos:Pos}
theorem c8 {pins:D'} {σ:St} {H:Hp} {s:ik} {Q:VK} {k G:Xb} (I:@M) (q:Q (.bl k) H) (e:k=G):EP X pins σ Q (.bool G) s:=by
 subst e;exact⟨.bl k,H,I,rfl,q⟩
theorem lN:!aK X .Eq rEq:=by
 intro pins s σ H x y v u Q I G L h;obtain⟨hs,q⟩:=h;cases x with
 | non=>
   cases G;cases y with
   | non=>cases L;exact PySem.EqNone.eq_none_none (!aA I q)
   | bl j=>cases L;exact PySem.EqNone.eq_none_bool (!aA I q)
   | int j=>obtain⟨t',rfl⟩:=L;exact PySem.EqNone.eq_none_int (!aA I q)
   | str j=>obtain⟨t',rfl⟩:=L;exact PySem.EqNone.eq_none_str (!aA I q)
   | _=>exact hE (show false=true from hs) hH
 | bl i=>
   cases G;cases y with
   | non=>cases L;exact PySem.EqNone.eq_bool_none (!aA I q)
   | bl j=>cases L;exact eq_bool (c8 I q Qr)
   | str j=>obtain⟨t',rfl⟩:=L;exact PySem.EqMixed.eq_bool_str (!aA I q)
   | _=>exact hE (show false=true from hs) hH
 | int i=>
   obtain⟨t,rfl⟩:=G;cases y with
   | non=>cases L;exact PySem.EqNone.eq_int_none (!aA I q)
   | int j=>obtain⟨t',rfl⟩:=L;exact eq_int (c8 I q Mq)
   | str j=>obtain⟨t',rfl⟩:=L;exact PySem.EqMixed.eq_int_str (!aA I q)
   | _=>exact hE (show false=true from hs) hH
 | str i=>
   obtain⟨t,rfl⟩:=G;cases y with
   | non=>cases L;exact PySem.EqNone.eq_str_none (!aA I q)
   | bl j=>cases L;exact PySem.EqMixed.eq_str_bool (!aA I q)
   | int j=>obtain⟨t',rfl⟩:=L;exact PySem.EqMixed.eq_str_int (!aA I q)
   | str j=>obtain⟨t',rfl⟩:=L;exact eq_str (c8 I q Mp)
   | _=>exact hE (show false=true from hs) hH
 | byt i=>
   obtain⟨t,rfl⟩:=G;cases y with
   | byt j=>obtain⟨t',rfl⟩:=L;exact PySem.W.eq_bytes (c8 I q Mr)
   | _=>exact hE (show false=true from hs) hH
 | _=>cases y<;>exact hE (show false=true from hs) hH
theorem yQ:!aK X .NotEq rNe:=by
 intro pins s σ H x y v u Q I G L h;obtain⟨hs,q⟩:=h;cases x with
 | non=>
   cases G;cases y with
   | non=>cases L;exact PySem.EqNone.ne_none_none (!aA I q)
   | bl j=>cases L;exact PySem.EqNone.ne_none_bool (!aA I q)
   | int j=>obtain⟨t',rfl⟩:=L;exact PySem.EqNone.ne_none_int (!aA I q)
   | str j=>obtain⟨t',rfl⟩:=L;exact PySem.EqNone.ne_none_str (!aA I q)
   | _=>exact hE (show false=true from hs) hH
 | bl i=>
   cases G;cases y with
   | non=>cases L;exact PySem.EqNone.ne_bool_none (!aA I q)
   | bl j=>cases L;exact ne_bool (c8 I q (oe not Qr))
   | str j=>obtain⟨t',rfl⟩:=L;exact PySem.EqMixed.ne_bool_str (!aA I q)
   | _=>exact hE (show false=true from hs) hH
 | int i=>
   obtain⟨t,rfl⟩:=G;cases y with
   | non=>cases L;exact PySem.EqNone.ne_int_none (!aA I q)
   | int j=>obtain⟨t',rfl⟩:=L;exact ne_int (c8 I q (oe not Mq))
   | str j=>obtain⟨t',rfl⟩:=L;exact PySem.EqMixed.ne_int_str (!aA I q)
   | _=>exact hE (show false=true from hs) hH
 | str i=>
   obtain⟨t,rfl⟩:=G;cases y with
   | non=>cases L;exact PySem.EqNone.ne_str_none (!aA I q)
   | bl j=>cases L;exact PySem.EqMixed.ne_str_bool (!aA I q)
   | int j=>obtain⟨t',rfl⟩:=L;exact PySem.EqMixed.ne_str_int (!aA I q)
   | str j=>obtain⟨t',rfl⟩:=L;exact ne_str (c8 I q (oe not Mp))
   | _=>exact hE (show false=true from hs) hH
 | byt i=>
   obtain⟨t,rfl⟩:=G;cases y with
   | byt j=>obtain⟨t',rfl⟩:=L;exact PySem.W.ne_bytes (c8 I q (oe not Mr))
   | _=>exact hE (show false=true from hs) hH
 | _=>cases y<;>exact hE (show false=true from hs) hH
theorem Ck:!aK X .Lt (!c3 (i < j)):=opB0 λ_ _ _ _ _ _ _ q=>lt_int q
theorem Wq:!aK X .LtE (!c3 (i<=j)):=opB0 λ_ _ _ _ _ _ _ q=>le_int q
theorem vt:!aK X .Gt (!c3 (j < i)):=opB0 λ_ _ _ _ _ _ _ q=>gt_int q
theorem UI:!aK X .GtE (!c3 (j<=i)):=opB0 λ_ _ _ _ _ _ _ q=>ge_int q
theorem Cm:!aK X .In (λx y H Q=>∃i j,x= .str i/\y= .str j/\Q (.bl (!(Zw j i 0 j.length 1).isEmpty)) H):=by
 intro pins s σ H x y v u Q I G L h;obtain⟨i,j,rfl,rfl,q⟩:=h;obtain⟨t,rfl⟩:=G;obtain⟨t',rfl⟩:=L;exact in_str (c8 I q rfl)
theorem RN:!aK X .IsNot (λx y H Q=>y= .non/\Q (.bl (!decide (x= .non))) H):=by
 intro pins s σ H x y v u Q I G L h;obtain⟨rfl,q⟩:=h;cases L;refine isnot_none_gen (c8 I q ?_)
 cases x<;>first
  | (cases G;rfl)
  | (obtain⟨t,rfl⟩:=G;rfl)
theorem be (b:W5) {ε:CmpOp} (h:ε≠.In:=by decide) (h2:ε≠.NotIn:=by decide):behindInMarks ε b=false:=by
 have L:(ε == CmpOp.In)=false:=by cases ε<;>first | rfl | exact hE rfl h
 have G:(ε == CmpOp.NotIn)=false:=by cases ε<;>first | rfl | exact hE rfl h2
 cases b<;>simp[behindInMarks,L,G]
theorem i0 {ε:CmpOp} {r:R2} (ho:!aK X ε r) (ha:!F a ta) (hb:!F b tb) (hm:behindInMarks ε b=false):!F (.Compare a [ε] [b] pos) (tOp r ta tb):=by
 intro pins s σ H Q I h;exact wpAny_Compare1 @d7 hm
noncomputable abbrev V0 (t:TE):TT:=fun σ H Q=>t σ H λx H'=>∃k,x= .bl k/\Q k H'
theorem aQ {ε:CmpOp} {r:R2} (ho:!aK X ε r) (ha:!F a ta) (hb:!F b tb) (hm:behindInMarks ε b=false):PT X (.Compare a [ε] [b] pos) (V0 (tOp r ta tb)):=by
 intro pins s σ H Q I h
 refine aq8 (thn (ha pins s σ H _ I h) λv Y ⟨x,H1,Z,α,ζ⟩=>thn (hb pins Y σ H1 _ Z ζ) λu L ⟨y,H2,η,β,δ⟩=>
  thn (ho pins L σ H2 x y v u _ η α β δ) λc ι ⟨z,θ,G,ω,k,e,γ⟩=>?_) hm
 subst e;cases ω;exact Yk ⟨θ,G,γ⟩
theorem GG:(ic:Nat) < 2 ^ 63:=by rw[lj];decide
theorem ij:!aZ X .Add (λx y H Q=>∃i j,x= .str i/\y= .str j/\i.length + j.length<=ic/\Q (.str (i++j)) H):=by
 intro pins s σ H x y v u Q I G L h;obtain⟨i,j,rfl,rfl,hz,q⟩:=h;obtain⟨t,rfl⟩:=G;obtain⟨t',rfl⟩:=L;exact add_str (λt' tk=>⟨.str (i++j),H,I.tok _,⟨_,rfl⟩,q⟩) hz
theorem wA {x:V} {us:E'} (r:Vals [x] us):∃u,us=[u]/\RelV x u:=by
 cases r with
 | cons α G=>cases G;exact⟨_,rfl,α⟩
theorem Nx {x y:V} {us:E'} (r:Vals [x,y] us):∃u θ,us=[u,θ]/\RelV x u/\RelV y θ:=by
 cases r with
 | cons α G=>
   cases G with
   | cons ω γ=>cases γ;exact⟨_,_,rfl,α,ω⟩
theorem iq:oJ X (!aj "str") (λxs H Q=>∃i,xs=[.int i]/\i.natAbs.log2 < 1920/\Q (.str (toString i)) H):=by
 intro pins s σ H xs us Q I r h;obtain⟨i,rfl,hz,q⟩:=h;obtain⟨u,rfl,t,rfl⟩:=wA r;exact PySem.P.str_of_int hz ⟨.str _,H,I.tok _,⟨_,rfl⟩,q⟩
def LenV (K:b') (x:V) (H:Hp) (n:Nat):Prop:=
 match x with
 | .str y=>y.length<=ic/\n=y.length
 | .byt y=>y.size<=ic/\n=y.size
 | .ref p=>(∃xs,SqL K H p xs/\n=xs.length)∨∃xs,SqT K H p xs/\n=xs.length
 | _=>False
theorem Pe:oJ X (!ai "len") (λxs H Q=>∃x n,xs=[x]/\LenV X.K x H n/\Q (.int n) H):=by
 intro pins s σ H xs us Q I r h;obtain⟨x,n,rfl,e,q⟩:=h;obtain⟨u,rfl,Y⟩:=wA r;have hl:=GG;have hs:ic=16777216:=lj;cases x with
 | str y=>
   obtain⟨t,rfl⟩:=Y;obtain⟨α,L⟩:y.length<=ic/\n=y.length:=e;subst L;exact len_str @A @d2
 | byt y=>
   obtain⟨t,rfl⟩:=Y;obtain⟨α,L⟩:y.size<=ic/\n=y.size:=e;subst L;exact PySem.W.len_bytes @A @d2
 | ref p=>
   cases Y;have L:(∃xs,SqL X.K H p xs/\n=xs.length)∨∃xs,SqT X.K H p xs/\n=xs.length:=e;rcases L with ⟨xs,Z,L⟩ | ⟨xs,Z,L⟩
   ·subst L;obtain⟨its,r',pl,hz⟩:=I.list Z;have G:=r'.length;exact Calls.call_len_list pl.isList (by simp only[y7];omega) ⟨.int xs.length,H,I.tok _,⟨_,by simp only[y7];rw[G]⟩,q⟩
   ·subst L;obtain⟨its,r',pl,hz⟩:=I.tuple Z;have G:=r'.length;exact len_tuple pl (by simp only[y7];omega) ⟨.int xs.length,H,I.tok _,⟨_,by simp only[y7];rw[G]⟩,q⟩
 | _=>exact(show False from e).elim
theorem FL:oJ X (!ai "divmod") (λxs H Q=>∃i j,xs=[.int i,.int j]/\CDiv i j/\∀p,H p=gg->Q @P (!V p (!H [.int (i / j),.int (i % j)]))):=by
 intro pins s σ H xs us Q I r h;obtain⟨i,j,rfl,⟨h1,h2⟩,q⟩:=h;obtain⟨u,θ,rfl,⟨t,rfl⟩,⟨t',rfl⟩⟩:=Nx r;refine divmod_int @A ?_ (!E (ai3 @A));rw[ZI i @A,ai5 i @A];have hn:H s.heap.objs.size=none:=I.hok.fresh @U;refine⟨@aN,_,?_,rfl,q _ hn⟩;refine I.laid (λb o e=>gn _ e) @U ⟨by simp only[W3,ae4];rw[lj];decide,[.int (i / j) s.toks,.int (i % j) (s.toks + 1)],.cons ⟨_,rfl⟩ (!bc @ba),?_⟩;exact⟨_,kh s.heap rfl,rfl,0,rfl⟩
end
structure ObjM (h:WN) (x dx C:ee) (mA:F'):Prop where
 obj:h.get? x=aY (Y9 C dx)
 ns:h.Ns1 dx mA
 ne:dx≠x
theorem Ln {h:WN} {dx:ee} {mA:F'} (n:h.Ns1 dx mA):∃od,h.get? dx=aY od/\∀name,aa7 name od=aY (mA name):=by
 obtain⟨o,es,ep,ho,hd,hk,_,hm⟩:=n;refine⟨o,ho,λname=>?_⟩;have e:=hm name;unfold nsFind findBy at e;rw[<-Array.find?_toList] at e;unfold aa7;rw[hd];dsimp only;split
 ·rename_i y q;rw[q] at e;exact oe aY e
 ·rename_i q;rw[q] at e
  have a:es.toList.any (·.refKey)=false:=by
   rw[List.any_eq_false];intro y L;obtain⟨z,t,G⟩:=hk y (Array.mem_toList_iff.mp L);simp[DictEntry.refKey,G]
  have δ:¬es.toList.any (·.refKey)=true:=by rw[a];exact hH
  rw[kf δ];exact oe aY e
theorem ObjM.look {h:WN} {x dx C:ee} {mA:F'} (I:ObjM h x dx C mA):∃od,PySem.W.InstAt h x (Y9 C dx) C (aY od)/\∀name,aa7 name od=aY (mA name):=
 let ⟨od,ho,hl⟩:=Ln I.ns
 ⟨od,⟨I.obj,rfl,rfl,ho⟩,hl⟩
section
variable {prog:ry} {w:z5} {A:W6} {E:Cr} {s:ik} {K:b'} {x dx C f:ee} {mA:F'} {name:kv} {v:i'}
theorem az {ρ:Xb} {Q:Cr} (X:K.In s.heap) (I:ObjM s.heap x dx C mA) (Z:ZO K C name=true) (Y:ad4 K C=true)
  (ha:zx K @ae name=aY gg) (L:mA name=aY v) (G:ad7 v=true) (h:Q v {s with toks:=s.toks + 1}):
  lT @a2 A (getAttr (!j x) name ρ) Q E s:=by
 obtain⟨od,J,hl⟩:=I.look;exact PySem.W.get_value X J (ab4 Z).1 (PySem.W.findObj_own Y ha rfl (by rw[hl,L])) G h
theorem OW {pl:Sem Xb} {Q:i'×eP i'->ik->Prop} (X:K.In s.heap) (I:ObjM s.heap x dx C mA) (G:ZO K C name=true)
  (hf:zx K @ae name=aY (aY @a7)) (ht:ad2 K @a7=true) (L:mA name=gg) (h:Q (.ref f,[.ref x]) s):
  lT @a2 A (getMethod (!j x) name pl) Q E s:=by
 obtain⟨od,J,hl⟩:=I.look;exact PySem.W.method_fn X J (ab4 G).1 (ab4 G).2 hf (ab7.mp ht) (by show(aa7 name od).map (·.isSome)=aY false;rw[hl,L];rfl) h
theorem Rj {ns:B'} {Q:L'} (X:K.In s.heap) (I:ObjM s.heap x dx C mA)
  (hs:zx K @ae "__setattr__"=aY (aY @bu)) (γ:am6 K C=true) (ht:af3 K C name=aY gg) (δ:ad4 K C=true)
  (hw:ak0 mA ns) (hsz:ns.length<=ic)
  (h:∀h',ObjM h' x dx C (λy=>if y=name then aY v else mA y)->Zq dx s.heap h'->Q () {s with heap:=h',toks:=s.toks + 2}):
  lT @a2 A (setAttr (!j x) name v) Q E s:=by
 obtain⟨od,J,hl⟩:=I.look;refine PySem.W.set_plain X J hs (PySem.W.osa_open (s:={s with toks:=s.toks + 1}) (r:=gg) X J γ ht λb=>?_);obtain⟨ν,η,ζ⟩:=PySem.W.any_some δ;have β:s.heap.get? x=aY ⟨@ae,aY dx,.plain,#[]⟩:=I.obj;refine gz (oD (gz (gz (wpAny_loadPart β (gz (PySem.W.Looks.here (s:={s with toks:=s.toks + 1}) (PySem.W.looks_clsIn X η) ?_))))));rw[ζ];refine oD (a:=aY dx) (gz (oD (gz ?_)));refine wpAny_nsSet1 (s:={s with toks:=s.toks + 1}) I.ns λh' L G=>?_;obtain⟨ι,ε,θ,Y,Z,α⟩:=L.count (PySem.Within.cons name v hw);refine gz (wpAny_lookBehind Y (by rw[Z];exact pastItsLine_dict (XX α (by rw[W3];omega))) ?_);exact oD (h _ ⟨(G.2 _ (wh I.ne)).trans I.obj,L,I.ne⟩ G)
theorem OH {R:S'} {vs:E'} {G:U'} (X:K.In s.heap) (hm:ao8 K C=true)
  (hi:zx K @ae "__init__"=aY (aY @a7)) (hf:ap7 K @a7=aY (!aj "function"))
  (h:codeAny @a2 (A.under (!bV ⟨.ref C::vs,G⟩)) (.call @a7 ⟨.ref @aw::vs,G⟩) (PySem.W.InitBack @aw R)
   {s with heap:=(@c5).push (Y9 C s.heap.objs.size)}):
  codeAny @a2 A (.call @ae ⟨vs,G⟩) R s:=by
 obtain⟨L,g,d,t,os⟩:=s;exact PySem.W.make_core (PySem.W.makes_of X hm) (PySem.W.looks_findIn X hi) (λself=>PySem.W.bind_fn X self hf) @am h
end
noncomputable def putF (f:kv) (v:V):eP (kv×V)->eP (kv×V)
 | []=>[(f,v)]
 | (g,x)::r=>if g=f then (g,v)::r else (g,x)::putF f v r
theorem xH (f g:kv) (v:V):∀fs:eP (kv×V),(putF f v fs).lookup g=if g=f then aY v else fs.lookup g
 | []=>by
   show Zg g [(f,v)]=_;by_cases h:g=f
   ·have hb:(g == f)=true:=ab7.mpr h;simp only[Zg,hb,lx h]
   ·have hb:(g == f)=false:=W2.mpr h;simp only[Zg,hb,kf h]
 | (k,x)::r=>by
   have ih:=xH f g v r;rw[show putF f v ((k,x)::r)=(if k=f then (k,v)::r else (k,x)::putF f v r) from rfl];by_cases hk:k=f
   ·rw[lx hk];by_cases h:g=k
    ·have hb:(g == k)=true:=ab7.mpr h;simp only[Zg,hb,lx (h.trans hk)]
    ·have hb:(g == k)=false:=W2.mpr h;simp only[Zg,hb,kf (λe:g=f=>h (e.trans hk.symm))]
   ·rw[kf hk];by_cases h:g=k
    ·have hb:(g == k)=true:=ab7.mpr h;simp only[Zg,hb,kf (λe:g=f=>hk (h.symm.trans e))]
    ·have hb:(g == k)=false:=W2.mpr h;simp only[Zg,hb];exact ih
theorem xV (f:kv) (v:V):∀fs:eP (kv×V),f∈(putF f v fs).map (·.1)/\∀g,g∈fs.map (·.1)->g∈(putF f v fs).map (·.1)
 | []=>⟨by simp[putF],λg h=>by simp at h⟩
 | (k,x)::r=>by
   obtain⟨i1,i2⟩:=xV f v r;rw[show putF f v ((k,x)::r)=(if k=f then (k,v)::r else (k,x)::putF f v r) from rfl];by_cases hk:k=f
   ·rw[lx hk];subst hk;exact⟨@C,λg h=>by simpa using h⟩
   ·rw[kf hk];refine⟨?_,λg h=>?_⟩
    ·rw[W'];exact ov _ i1
    ·rw[W'] at h ⊢;rcases x8.mp h with e | e
     ·exact x8.mpr (!E e)
     ·exact ov _ (i2 g e)
theorem xK (f:kv) (v:V):∀fs:eP (kv×V),(putF f v fs).length<=fs.length + 1
 | []=>by simp[putF]
 | (k,x)::r=>by
   have ih:=xK f v r;rw[show putF f v ((k,x)::r)=(if k=f then (k,v)::r else (k,x)::putF f v r) from rfl];by_cases hk:k=f
   ·rw[lx hk,W3,W3];omega
   ·rw[kf hk,W3,W3];omega
theorem RelO.some_of {v:V} {o:V'} (r:RelO @aI o):∃u,o=aY u/\RelV v u:=by
 cases o with
 | none=>exact(show False from r).elim
 | some u=>exact⟨u,rfl,r⟩
theorem RelO.none_of {o:V'} (r:RelO gg o):o=none:=by
 cases o with
 | none=>rfl
 | some u=>exact(show False from r).elim
theorem LU {v:V} {u:i'} (r:!aH v):ad7 u=true:=by
 cases v with
 | non=>cases(show u=Xj from r);rfl
 | bl b=>cases(show u=an7 b from r);rfl
 | int i=>obtain⟨t,e⟩:=(show ∃t,u=aj2 i t from r);cases e;rfl
 | str x=>obtain⟨t,e⟩:=(show ∃t,u=ae8 x t from r);cases e;rfl
 | byt b=>obtain⟨t,e⟩:=(show ∃t,u=au6 b t from r);cases e;rfl
 | flt b=>obtain⟨t,e⟩:=(show ∃t,u=au5 b t from r);cases e;rfl
 | ref a=>cases(show u=vu a from r);rfl
 | ty n=>cases(show u=Zt n from r);rfl
section
variable {P:ry} {w:z5} {H H':Hp} {h h':WN} {a C dx:ee} {fs fs':eP (kv×V)}
theorem Fv (hok:HOk P w H h) (e:H a=aY @ak):∃mA,ObjM h a dx C mA/\(∀f,RelO (fs.lookup f) (mA f))/\ak0 mA (fs.map (·.1))/\fs.length<=1000/\H dx=aY (.own a):=by
 obtain⟨d,z,ne,ob,mA,n,r,q⟩:=(show iu P w H h a @ak from hok a _ e);exact⟨mA,⟨ob,n,ne⟩,r,q,z,d⟩
end
structure Cls (K:b') (C:ee):Prop where
 pg:ZO K C Zx=true
 hd:ad4 K C=true
 po:am6 K C=true
 sa:zx K @ae "__setattr__"=aY (aY @bu)
theorem Cls.get {K:b'} {C:ee} (c:Cls K C) (f:kv):ZO K C f=true:=c.pg
def cQ (K:b') (C:ee) (f:kv):Prop:=zx K @ae f=aY gg
theorem cQ.taker {K:b'} {C:ee} {f:kv} (n:cQ K C f):af3 K C f=aY none:=by
 unfold af3;rw[show zx K @ae f=aY gg from n];rfl
structure Con (K:b') (C:ee) (f:kv) (v:V) (u:i'):Prop where
 at_:zx K @ae f=aY (aY u)
 rel:RelV v u
 get:Yu K u "__get__"=aY gg
 cp:PySem.W.copiedNames.contains f=false
structure Meth (K:b') (C:ee) (m:kv) (f:ee):Prop where
 at_:zx K @ae m=aY (aY @a7)
 fn:ad2 K @a7=true
 kp:XA K @a7=true
section
variable {X:Cx} {pins:D'} {σ:St} {H:Hp} {s:ik} {a C dx:ee} {fs:eP (kv×V)} {f:kv} {v:V} {A:W6} {E:Cr}
theorem IB {b:Xb} {Q:Cr} (I:@M) (e:H a=aY @ak) (c:Cls X.K C) (n:cQ X.K C f) (l:fs.lookup f=aY v)
  (h:∀u s',Inv X pins σ H s'->RelV v u->Q u s'):lT @S A (getAttr @af f b) Q E s:=by
 obtain⟨mA,O,r,_,_,_⟩:=Fv I.hok e;obtain⟨u,L,G⟩:=RelO.some_of (v:=v) (o:=mA f) (by rw[<-l];exact r f);exact az I.kIn O (c.get f) c.hd n L (LU G) (h u _ @bk G)
theorem uN {m:kv} {g:ee} {pl:Sem Xb} {Q:i'×eP i'->ik->Prop} (I:@M) (e:H a=aY @ak) (c:Cls X.K C) (k:Meth X.K C m g) (l:fs.lookup m=gg)
  (h:Q (.ref g,[.ref a]) s):lT @S A (getMethod @af m pl) Q E s:=by
 obtain⟨mA,O,r,_,_,_⟩:=Fv I.hok e;have hn:mA m=none:=RelO.none_of (by rw[<-l];exact r m);exact OW I.kIn O (c.get m) k.at_ k.fn hn h
theorem Hl {y:V} {u:i'} {Q:L'} (I:@M) (e:H a=aY @ak) (c:Cls X.K C) (n:cQ X.K C f) (hl:fs.length < 1000) (L:!aH y)
  (h:∀s',Inv X pins σ (!V a (!aE (putF f y fs))) s'->Q () s'):lT @S A (setAttr @af f u) Q E s:=by
 obtain⟨mA,O,r,G,_,ho⟩:=Fv I.hok e;have hz:(fs.map (·.1)).length<=sizeLine:=by rw[a',lj];omega
 refine Rj I.kIn O c.sa c.po n.taker c.hd G hz λh' O' Y=>h _ ?_;have hd:∃o,h'.get? dx=aY o:=let ⟨o,_,_,α,_⟩:=O'.ns;⟨o,α⟩
 refine I.write (x:=a) (e:=dx) (by rw[e];exact aa3) (!I ho) (λb q hb z=>(Y.2 b hb).trans z) hd ?_;refine⟨by rw[aD O.ne];exact ho,?_,O.ne,O'.obj,_,O'.ns,λg=>?_,λg Z=>?_⟩
 ·have:=xK f y fs;omega
 ·show RelO ((putF f y fs).lookup g) (if g=f then aY u else mA g);rw[xH];by_cases q:g=f
  ·rw[lx q,lx q];exact L
  ·rw[kf q,kf q];exact r g
 ·by_cases q:g=f
  ·rw[q];exact(xV f y fs).1
  ·refine(xV f y fs).2 g (G g λz=>Z ?_);show(if g=f then aY u else mA g)=gg;rw[kf q];exact z
theorem Inv.made (I:@M):Inv X pins σ (upd (!V s.heap.objs.size (.own @aw)) @aw (.ins C s.heap.objs.size []))
  {s with heap:=(@c5).push (Y9 C s.heap.objs.size)}:=by
 have G:(@c5).get? s.heap.objs.size=aY PySem.W.emptyDict:=kh s.heap rfl
 have Z:((@c5).push (Y9 C s.heap.objs.size)).get? @aw=aY (Y9 C s.heap.objs.size):=by
  have:=kh @c5 (o:=Y9 C s.heap.objs.size) rfl;rwa [Z0] at this
 have Y:(@c5).Ns s.heap.objs.size (λ_=>gg):=⟨XU,#[],_,G,rfl,(λe he=>hE he @C),λ_=>rfl⟩;have I1:=I.laid (a:=s.heap.objs.size) (o:= .own @aw) (h':=s.heap.push XU) (t':=s.toks) (λb u q=>gn _ q) @U ⟨_,G⟩;refine I1.laid (a:=s.heap.objs.size + 1) (o:= .ins C s.heap.objs.size []) (t':=s.toks) (λb u q=>gn _ q) (aj1 (Z0 _ _)) ?_;have ne:s.heap.objs.size≠s.heap.objs.size + 1:=y1 (Xq _);refine⟨by rw[aD ne,aw],Xy _,ne,Z,λ_=>gg,(Heap.Ns1.of_empty Y).at λo q=>gn _ q,λ_=>aa3,λy L=>hE rfl L⟩
theorem SB {prog:ry} {w:z5} {env:Env} {e:W5} {f:kv} {pos:Pos} {s:ik} {Q:Cr} (hb:attributeBase e f env (eval e env)=eval e env)
  (h:lT @a2 A (eval e env) (λo G=>lT @a2 A (getAttr o f true) Q E G) E s):lT @a2 A (eval (.Attribute e f pos) env) Q E s:=
 Attribute_any_ h (by rw[arm_eval_Attribute,hb])
end
noncomputable def tFld (K:b') (ta:TE) (f:kv):TE:=fun σ H Q=>ta σ H λx H1=>∃a C dx fs v,x= .ref a/\H1 a=aY @ak/\Cls K C/\cQ K C f/\fs.lookup f=aY v/\Q v H1
noncomputable def sFld (K:b') (ta tv:TE) (f:kv):TS:=λD σ H=>tv σ H λy H1=>ta σ H1 λx H2=>∃a C dx fs,x= .ref a/\H2 a=aY @ak/\Cls K C/\cQ K C f/\fs.length < 1000/\
 D.nx σ (upd H2 a (!aE (putF f y fs)))
section
variable {X:Cx} {o e value:W5} {f:kv} {pos pos' tpos:Pos} {ta tv:TE}
theorem UD (he:!F e ta) (hb:attributeBase e f X.env (!aw e)=eval e X.env):!F (.Attribute e f pos) (tFld X.K ta f):=by
 intro pins s σ H Q I h;refine SB hb (thn (he pins s σ H _ I h) λu γ ⟨x,H1,Z,G,a,C,dx,fs,v,ex,ea,c,n,l,q⟩=>?_);subst ex;obtain rfl:u=vu a:=G;exact IB Z ea c n l fun α β Y L=>⟨v,H1,Y,L,q⟩
theorem Uu (ha:!F o ta) (δ:!F value tv) (hs:!cf (.Attribute o f pos')):PS X (.Assign [.Attribute o f pos'] value pos) (sFld X.K ta tv f):=by
 intro pins s σ H D I h;refine plainObj_wpAny_Assign_Attribute (thn (δ pins s σ H _ I h) λu Y ⟨y,H1,Z,L,q⟩=>thn (ha pins Y σ H1 _ Z q) fun γ η ⟨x,H2,ε,α,a,C,dx,fs,ex,ea,c,n,l,β⟩=>?_) hs;subst ex;obtain rfl:γ=vu a:=α;exact Hl ε ea c n l L fun ζ G=>⟨σ,_,G,β⟩
end
section
variable {X:Cx} {pins:D'} {σ:St} {H:Hp} {s:ik} {A:W6} {E:Cr} {Q:Cr} {c:i'} {b:Xb}
inductive TyOf (K:b') (H:Hp):V->i'->Prop where
 | non:TyOf K H .non (.type "NoneType")
 | bl (x:Xb):TyOf K H (.bl x) (.type "bool")
 | int (i:Int):TyOf K H (.int i) (.type "int")
 | str (x:kv):TyOf K H (.str x) (.type "str")
 | flt (x:UInt64):TyOf K H (.flt x) (!aj "float")
 | lst {a:ee} {xs:eP V} (e:H a=aY @aF):TyOf K H @af @bA
 | frz {a:ee} {o:Obj} {xs:eP V} (e:H a=aY (.frz o @aF)):TyOf K H @af @bA
 | tup {a:ee} {xs:eP V} (e:H a=aY @aG):TyOf K H @af (!aj "tuple")
 | dK {a:ee} {kvs:@ap} (e:H a=aY @aA):TyOf K H @af (!aj "dict")
 | dT {a:ee} {kvs:@bB} (e:H a=aY (.dT kvs)):TyOf K H @af (!aj "dict")
 | ins {a C dx:ee} {fs:@az} (e:H a=aY @ak) (cl:Cls K C) (ha:zx K @ae "__class__"=aY (aY @bG))
   (hn:Yu K @bG "__get__"=aY (aY @cT)) (htk:af2 K @bG=aY true)
   (hm:Yb K C (!aj "object")=aY true):TyOf K H @af @ae
end
structure Room (k:Nat) (A:W6):Prop where
 hd:A.handled=gg
 dp:A.depth + 3 * k + 5 < recursionLimit
 un:A.units + 16 * k + 200 < cLine
theorem Room.mono {j k:Nat} {A:W6} (r:Room k A) (h:j<=k):Room j A:=⟨r.hd,by have:=r.dp;omega,by have:=r.un;omega⟩
theorem Room.deeper {k:Nat} {A:W6} (r:Room @aR A) (env:Env):Room k (A.deeper env):=
 ⟨r.hd,by have:=r.dp;show A.depth + 1 + 3 * k + 5 < _;omega,by have:=r.un;show A.units + 3 + 16 * k + 200 < _;omega⟩
theorem Ie {A:W6} {C:ee} {us:E'} {G:U'}:(A.under (!bV @cL)).depth=A.depth + 1:=by
 first | rfl | simp[aj3,Code.weight,Code.isCreation,Code.isGuard,Code.isCaller,Code.frames,ak9,guardIds]
theorem Ic {A:W6} {C:ee} {us:E'} {G:U'}:(A.under (!bV @cL)).units=A.units + 1:=by
 first | rfl | simp[aj3,Code.cUnits,Code.frames,ak9]
theorem Room.make {k:Nat} {A:W6} (r:Room @aR A) (C:ee) (us:E') (G:U'):Room k (A.under (!bV @cL)):=
 ⟨r.hd,by have:=r.dp;rw[Ie];omega,by have:=r.un;rw[Ic];omega⟩
theorem Room.depth {k:Nat} {A:W6} (r:Room k A):A.depth < recursionLimit:=by have:=r.dp;omega
theorem Room.units {k:Nat} {A:W6} (r:Room k A):A.units + 64 < cLine:=by have:=r.un;omega
noncomputable abbrev tNil:TA:=λ_ H Q=>Q [] H
noncomputable abbrev V4 (ta:TE) (tr:TA):TA:=fun σ H Q=>ta σ H λx H1=>tr σ H1 λxs H2=>Q (x::xs) H2
section
variable {X:Cx} {e:W5} {es:eP W5} {te:TE} {t:TA} {pos:Pos}
theorem ae:PA X [] tNil:=λ_ _ _ _ H Q I h=>ZM ⟨[],H,I,.nil,h⟩
theorem aa (ha:!F e te) (γ:PA X es t) (hs:pT @V X.env=(false,eval e X.env)::pT es X.env:=by rfl):PA X @V (V4 te t):=by
 intro pos pins s σ H Q I h;rw[hs];show lT _ _ (spliced ((false,eval e X.env)::backTo pos (pT es X.env))) _ _ s;refine Zv (thn (ha pins s σ H _ I h) λu G ⟨x,H1,Z,α,β⟩=>?_);exact thn (γ pos pins G σ H1 _ Z β) λus ε ⟨xs,H2,δ,L,Y⟩=>⟨x::xs,H2,δ,.cons α L,Y⟩
noncomputable def tTup (t:TA):TE:=fun σ H Q=>t σ H λxs H1=>xs.length<=ic/\∀p,H1 p=gg->Q @P (upd H1 p @aG)
noncomputable def tLst (t:TA):TE:=fun σ H Q=>t σ H λxs H1=>xs.length<=ic/\∀p,H1 p=gg->Q @P (!aB H1 p xs)
theorem c6 {x1} (h:PA X es t):!F (.Tuple es x1 pos) (tTup t):=by
 intro pins s σ H Q I L;refine wpAny_Tuple_spliced (thn (h pos pins s σ H _ I L) λus G ⟨xs,H1,I1,r,z,q⟩=>⟨by rw[<-r.length];exact z,?_⟩);have hf:H1 G.heap.objs.size=none:=I1.hok.fresh @U;refine⟨@bx,upd H1 G.heap.objs.size @aG,I1.laid (t':=G.toks) (λb u e=>gn _ e) @U ?_,rfl,q _ hf⟩;exact⟨z,us,r,⟨_,kh _ rfl,rfl,_,rfl⟩⟩
theorem cU (h:PA X es t):!F (.List es pos) (tLst t):=by
 intro pins s σ H Q I L;refine wpAny_List_spliced (thn (h pos pins s σ H _ I L) λus G ⟨xs,H1,I1,r,z,q⟩=>⟨by rw[<-r.length];exact z,?_⟩);have hf:H1 G.heap.objs.size=none:=I1.hok.fresh @U;refine⟨@bx,!aB H1 G.heap.objs.size xs,I1.laid (t':=G.toks) (λb u e=>gn _ e) @U ?_,rfl,q _ hf⟩;exact⟨z,us,0,r,kh _ rfl⟩
end
noncomputable abbrev Sp:=eP V->Hp->VK->XK->Prop
noncomputable abbrev CXT:=eP Env->Hp->ik->XK->Cr
structure Env0 (P:ry) (w:z5) (K:b') (mg:F') (base:WN) (A:W6) (outer:@aL) (s:ik) (H:Hp):Prop where
 frames:A.frames=aY outer
 mod:Mod K mg base
 bs:∀b o,base.get? b=aY o->s.heap.get? b=aY o/\H b=gg
 bsz:base.objs.size<=s.heap.objs.size
 funs:s.heap.FunFrames base outer
 frf:∀b∈frs outer,H b=gg
 hok:HOk P w H s.heap
 bare:AllBare s.gens
def CE (outer:@aL) (P:ry) (w:z5) (H:Hp) (s:ik) (Q:VK) (u:i') (s':ik):Prop:=
 ∃v H',s'.os=s.os/\AllBare s'.gens/\Un (frs outer) [] H H' s.heap s'.heap/\HOk P w H' s'.heap/\RelV v u/\Q v H'
def CR (CX:CXT) (outer:@aL) (P:ry) (w:z5) (H:Hp) (s:ik) (Q:VK) (E:XK) (r:Result) (s':ik):Prop:=
 match r with
 | .ok (.ret u)=>CE outer P w H s Q u s'
 | .ok _=>False
 | .error e=>CX outer H s E e s'
structure FnOk (P:ry) (w:z5) (K:b') (mg:F') (base:WN) (CX:CXT) (k:Nat) (f:ee) (fd:hF) (ps:B') (sp:Sp):Prop where
 len:∀vs H Q E,sp vs H Q E->vs.length=ps.length
 run:∀(A:W6) (outer:@aL) (s:ik) (H:Hp) (args:Args) (us:E') (vs:eP V) (Q:VK) (E:XK),Room k A->Env0 P w K mg base A outer s H->BindsTo s fd args (ps.zip us)->Vals vs us->sp vs H Q E->
  codeAny (rb P w) A (.call @a7 args) (CR CX outer P w H s Q E) s
theorem FnOk.imp {P:ry} {w:z5} {K:b'} {mg:F'} {base:WN} {CX:CXT} {k:Nat} {f:ee} {fd:hF} {ps:B'} {sp G:Sp} (F:FnOk P w K mg base CX k f fd ps sp)
  (h:∀vs H Q E,G vs H Q E->sp vs H Q E):FnOk P w K mg base CX k f fd ps G:=
 ⟨λvs H Q E q=>F.len vs H Q E (h _ _ _ _ q),λA outer s H args us vs Q E Y he hb L hs=>F.run A outer s H args us vs Q E Y he hb L (h _ _ _ _ hs)⟩
theorem Env0.make {P:ry} {w:z5} {K:b'} {mg:F'} {base:WN} {A:W6} {outer:@aL} {s:ik} {H:Hp} (e:Env0 P w K mg base A outer s H) (C:ee) (us:E') (G:U'):
  Env0 P w K mg base (A.under (!bV @cL)) outer s H:=⟨by first | exact e.frames | (simpa[aj3,Code.envs,ak9,pushEnvs] using e.frames),e.mod,e.bs,e.bsz,e.funs,e.frf,e.hok,e.bare⟩
section
variable {X:Cx} {pins:D'} {σ:St} {H:Hp} {s s':ik}
theorem Inv.env0 (I:@M):Env0 X.prog X.w X.K X.mg X.base X.A X.stack s H:=
 ⟨I.ok.frames,I.ok.mod,I.bs,XX I.ok.bsz I.sz,I.stack,I.stkFree,I.hok,I.bare⟩
theorem Inv.after {Q:VK} {u:i'} (I:@M) (h:CE X.stack X.prog X.w H s Q u s'):EP X pins σ Q u s':=by
 obtain⟨v,H',os,bare,un,hok,r,q⟩:=h;obtain⟨G,g,d,t,os'⟩:=s';obtain rfl:os'=s.os:=os;exact⟨v,H',I.call (h':=G) (g':=g) (d':=d) (t':=t) (ch:=[]) un hok bare (λb z=>hE z @C),r,q⟩
end
noncomputable def JS (sp:Sp) (dvs:eP V) (E:XK) (t:TA):TE:=fun σ H Q=>t σ H λvs H1=>sp @aV H1 Q E
noncomputable def QS (C:ee) (m:kv) (sp:Sp) (dvs:eP V) (E:XK) (ta:TE) (t:TA):TE:=fun σ H Q=>ta σ H λx H1=>∃a dx fs,x= .ref a/\H1 a=aY @ak/\fs.lookup m=gg/\
 t σ H1 λvs H2=>sp (x::@aV) H2 Q E
noncomputable def Td (C:ee) (sp:Sp) (dvs:eP V) (E:XK) (t:TA):TE:=fun σ H Q=>t σ H λvs H1=>∀x dx,H1 x=gg->H1 dx=gg->dx≠x->
 sp (.ref x::@aV) (upd (upd H1 dx (.own x)) x @b1) (!c8 x) E
def rT (K:b') (fd:hF) (ps:B') (ds:E'):Prop:=
 ∀(s:ik) (us:E'),K.In s.heap->(@bb).length=ps.length->BindsTo s fd ⟨us,[]⟩ (ps.zip @bb)
theorem rT.all {K:b'} {fd:hF} {ps:B'} (h:∀us:E',us.length=ps.length->bindArgs fd ⟨us,[]⟩=pure (ps.zip us)):rT K fd ps []:=λs us _ hl=>by
 rw[XI] at hl ⊢;exact .of_eq (h us hl)
def tL (CX:CXT) (X:Cx) (E:XK):Prop:=∀(pins:D') (σ:St) (H:Hp) (s:ik) (e:i') (s':ik),Inv X pins σ H s->CX X.stack H s E e s'->X.xe e s'
section
variable {X:Cx} {CX:CXT} {k:Nat} {f C:ee} {fd:hF} {ps:B'} {sp:Sp} {dvs:eP V} {ds:E'} {E:XK} {x m:kv} {p pos apos:Pos} {e o:W5} {es:eP W5} {ta:TE} {t:TA}
theorem Gi {pins:D'} {σ:St} {H:Hp} {s:ik} {Q:VK} {us:E'} {vs:eP V} (F:FnOk X.prog X.w X.K X.mg X.base CX k f fd ps sp) (Y:Room k X.A) (hb:rT X.K fd ps ds) (hd:Vals dvs ds) (hx:tL CX X E)
  (I:@M) (r:Vals vs us) (h:sp @aV H Q E):lT @S X.A (call @a7 us) (EP X pins σ Q) X.xe s:=by
 have L:Vals @aV @bb:=r.append hd;have hl:(@bb).length=ps.length:=by rw[<-L.length];exact F.len _ _ _ _ h
 refine at5 (ab8 (F.run X.A X.stack s H ⟨us,[]⟩ @bb @aV Q E Y I.env0 (hb s us I.kIn hl) L h) λr s' G=>?_);cases r with
 | error e=>exact hx pins σ H s e s' I G
 | ok Z=>
   cases Z with
   | ret u=>exact I.after G
   | next=>exact X4 G
   | brk=>exact X4 G
   | cont=>exact X4 G
theorem RJ (F:FnOk X.prog X.w X.K X.mg X.base CX k f fd ps sp) (Y:Room k X.A) (Z:Gl X x) (hm:X.mg x=aY @a7) (hk:XA X.K @a7=true) (hb:rT X.K fd ps ds) (hd:Vals dvs ds) (hx:tL CX X E)
  (ha:PA X @V t) (L:(x == ("__debug__":kv))=false:=by decide) (he:pT @V X.env=(false,eval e X.env)::pT es X.env:=by rfl) (G:(!aD pos es).any (·.1)=false:=by rfl):
  PE X (!aG x p @V [] pos) (JS sp dvs E t):=by
 intro pins s σ H Q I h;refine ZX (xM I Z hm ?_ L);refine YS (h₀:=X.base) I.ok.mod.kin hk (thn (ha pos pins s σ H _ I h) λus α ⟨vs,H1,I1,r,q⟩=>⟨I1.kIn,?_⟩) he G;exact Gi F Y hb hd hx I1 r q
theorem fE {pl:Sem Xb} (he:!F o ta) (c:Cls X.K C) (hm:Meth X.K C m f) (F:FnOk X.prog X.w X.K X.mg X.base CX k f fd ps sp) (γ:Room k X.A) (hb:rT X.K fd ps ds) (hd:Vals dvs ds) (hx:tL CX X E) (ha:PA X @V t)
  (ρ:pT @V X.env=(false,eval e X.env)::pT es X.env:=by rfl) (G:(!aD pos es).any (·.1)=false:=by rfl)
  (ht:eval (!b6 o m apos @V [] pos) X.env=(do
   let L <-eval o X.env
   standAt apos.atName
   let (f,first) <-holding [L] (getMethod L m pl)
   callWith pos f first (!aD pos @V) (!bB pos [] X.env)):=by rfl):
  PE X (!b6 o m apos @V [] pos) (QS C m sp dvs E ta t):=by
 intro pins s σ H Q I h;refine Z2 (pl:=pl) (thn (he pins s σ H _ I h) λu Y ⟨x,H1,Z,α,a,dx,fs,ex,ea,l,q⟩=>?_) ht;subst ex;obtain rfl:u=vu a:=α;refine uN Z ea c hm l ?_;refine YS (first:=[.ref a]) (h₀:=X.base) I.ok.mod.kin hm.kp (thn (ha pos pins Y σ H1 _ Z q) λus δ ⟨vs,H2,I2,r,β⟩=>⟨I2.kIn,?_⟩) ρ G;exact Gi (us:= .ref a::us) (vs:= .ref a::vs) F γ hb hd hx I2 (.cons rfl r) β
theorem aW {pl:Sem Xb} (he:!F o ta) (c:Cls X.K C) (hm:Meth X.K C m f) (F:FnOk X.prog X.w X.K X.mg X.base CX k f fd ps sp) (Y:Room k X.A) (hb:rT X.K fd ps ds) (hd:Vals dvs ds) (hx:tL CX X E)
  (ht:eval (!b6 o m apos [] [] pos) X.env=(do
   let G <-eval o X.env
   standAt apos.atName
   let (f,first) <-holding [G] (getMethod G m pl)
   callWith pos f first (!aD pos []) (!bB pos [] X.env)):=by rfl):
  PE X (!b6 o m apos [] [] pos) (QS C m sp dvs E ta tNil):=by
 intro pins s σ H Q I h;refine Z2 (pl:=pl) (thn (he pins s σ H _ I h) λu Z ⟨x,H1,I1,L,a,dx,fs,ex,ea,l,q⟩=>?_) ht;subst ex;obtain rfl:u=vu a:=L;refine uN I1 ea c hm l ?_;exact PySem.W.callWith_K0 (first:=[.ref a]) I1.kIn hm.kp (Gi (us:=[.ref a]) (vs:=[.ref a]) F Y hb hd hx I1 (!bc rfl) q)
structure Mk (K:b') (C f:ee):Prop where
 makes:ao8 K C=true
 init:zx K @ae "__init__"=aY (aY @a7)
 fn:ad2 K @a7=true
 kp:XA K @ae=true
theorem Oj {pins:D'} {σ:St} {H:Hp} {s:ik} {Q:VK} {us:E'} {vs:eP V} (M:Mk X.K C f) (F:FnOk X.prog X.w X.K X.mg X.base CX k f fd ps sp) (γ:Room @aR X.A) (hb:rT X.K fd ps ds) (hd:Vals dvs ds)
  (β:tL CX X E) (I:@M) (r:Vals vs us)
  (h:∀x dx,H x=gg->H dx=gg->dx≠x->sp (.ref x::@aV) (upd (!V dx (.own x)) x @b1) (!c8 x) E):
  lT @S X.A (call @ae us) (EP X pins σ Q) X.xe s:=by
 have Y:=h @aw s.heap.objs.size (I.hok.fresh (ad1 _)) @bW (y1 (Xq _));have I2:=Inv.made (C:=C) I;have L:Vals (V.ref @aw::@aV) (vu @aw::@bb):= .cons rfl (r.append hd)
 have hl:(vu @aw::us++ds).length=ps.length:=by
  have e:=L.length;rw[F.len _ _ _ _ Y] at e;exact e.symm
 refine at5 (OH (f:=f) I.kIn M.makes M.init (ab7.mp M.fn) (ab8 (F.run _ X.stack _ _ ⟨vu @aw::us,[]⟩ (vu @aw::@bb) _ _ E (γ.make C us [])
  (I2.env0.make C us []) (hb _ (vu @aw::us) I2.kIn hl) L Y) λr s' η=>?_))
 cases r with
 | error e=>exact β pins σ _ _ e s' I2 η
 | ok δ=>
   cases δ with
   | ret u=>
     obtain⟨v,H',G,Z,ev,α⟩:=I2.after η;subst ev;exact⟨Z,⟨!ak @aw,H',G,rfl,α⟩⟩
   | next=>exact X4 η
   | brk=>exact X4 η
   | cont=>exact X4 η
theorem iZ (M:Mk X.K C f) (F:FnOk X.prog X.w X.K X.mg X.base CX k f fd ps sp) (Y:Room @aR X.A) (Z:Gl X x) (hm:X.mg x=aY @ae) (hb:rT X.K fd ps ds) (hd:Vals dvs ds) (hx:tL CX X E)
  (ha:PA X @V t) (L:(x == ("__debug__":kv))=false:=by decide) (he:pT @V X.env=(false,eval e X.env)::pT es X.env:=by rfl) (G:(!aD pos es).any (·.1)=false:=by rfl):
  PE X (!aG x p @V [] pos) (Td C sp dvs E t):=by
 intro pins s σ H Q I h;refine ZX (xM I Z hm ?_ L);refine YS (h₀:=X.base) I.ok.mod.kin M.kp (thn (ha pos pins s σ H _ I h) λus α ⟨vs,H1,I1,r,q⟩=>⟨I1.kIn,?_⟩) he G;exact Oj M F Y hb hd hx I1 r q
end
section
variable {X:Cx} {CX:CXT} {k:Nat} {f C:ee} {fd:hF} {ps ks:B'} {sp:Sp} {E:XK} {x m:kv} {p pos apos kpos:Pos} {e o:W5} {es:eP W5} {kws:eP Keyword} {te ta:TE} {t tk:TA} {nm:vr kv}
structure WJ (K:b') (fd:hF) (ps ks:B') (g:E'->E'->E') (gV:eP V->eP V->eP V):Prop where
 to:∀(s:ik) (us ws:E'),K.In s.heap->(g us ws).length=ps.length->BindsTo s fd ⟨us,ks.zip ws⟩ (ps.zip (g us ws))
 rel:∀{vs:eP V} {us:E'} {zs:eP V} {ws:E'},Vals vs us->Vals zs ws->Vals (gV vs zs) (g us ws)
variable {g:E'->E'->E'} {gV:eP V->eP V->eP V}
end
structure ar (N P:B') (sc:Yp):Prop where
 kind:sc.kind= .function
 co:sc.isCoroutine=false
 gen:sc.isGenerator=false
 nd:N.Nodup
 pre:N.take P.length=P
 par:∀x∈P,sc.names.lookup x=aY .local∨sc.names.lookup x=aY .cell
 nofree:∀y∈sc.names,y.2≠.free
theorem DP {kindOf:kv->vr NameKind} {x:kv}:∀{binds:U'} {m:F'},(∀v,(x,v)∉binds)->bindL kindOf binds m x=m x
 | [],_,_=>rfl
 | (n,v)::r,m,h=>by
   unfold bindL;rw[DP λw hw=>h w (ov _ hw)];split
   ·have:x≠n:=by rintro rfl;exact h v mu
    simp[this]
   ·rfl
theorem DR {kindOf:kv->vr NameKind} {x:kv}:∀{binds:U'} {m:F'},(∀v,(x,v)∉binds)->bindC kindOf binds m x=m x
 | [],_,_=>rfl
 | (n,v)::r,m,h=>by
   unfold bindC;rw[DR λw hw=>h w (ov _ hw)];split
   ·rfl
   ·have:x≠n:=by rintro rfl;exact h v mu
    simp[this]
theorem DQ {kindOf:kv->vr NameKind} {x:kv} {v:i'}:∀{P:B'} {vs:E'} {i:Nat} {m:F'},P.Nodup->P[i]? =aY x->vs[i]? =aY v->kindOf x=aY .local->
  bindL kindOf (P.zip vs) m x=aY v
 | [],_,_,_,_,h,_,_=>by simp at h
 | _::_,[],_,_,_,_,h,_=>by simp at h
 | p::P,w::vs,0,m,nd,h1,h2,hk=>by
   simp at h1 h2;subst h1;subst h2;show bindL kindOf ((p,w)::P.zip vs) m p=_;unfold bindL;rw[DP λv G=>(Zd.mp nd).1 (aa9 G).1,lx hk];simp
 | p::P,w::vs,i + 1,m,nd,h1,h2,hk=>by
   show bindL kindOf ((p,w)::P.zip vs) m x=_;unfold bindL;exact DQ (i:=i) (Zd.mp nd).2 (by simpa using h1) (by simpa using h2) hk
theorem DS {kindOf:kv->vr NameKind} {x:kv} {v:i'}:∀{P:B'} {vs:E'} {i:Nat} {m:F'},P.Nodup->P[i]? =aY x->vs[i]? =aY v->kindOf x≠aY .local->
  bindC kindOf (P.zip vs) m x=aY v
 | [],_,_,_,_,h,_,_=>by simp at h
 | _::_,[],_,_,_,_,h,_=>by simp at h
 | p::P,w::vs,0,m,nd,h1,h2,hk=>by
   simp at h1 h2;subst h1;subst h2;show bindC kindOf ((p,w)::P.zip vs) m p=_;unfold bindC;rw[DR λv G=>(Zd.mp nd).1 (aa9 G).1,kf hk];simp
 | p::P,w::vs,i + 1,m,nd,h1,h2,hk=>by
   show bindC kindOf ((p,w)::P.zip vs) m x=_;unfold bindC;exact DS (i:=i) (Zd.mp nd).2 (by simpa using h1) (by simpa using h2) hk
noncomputable def start (N:B') (vs:eP V):St:=vs.map aY++lA (N.length - vs.length) gg
noncomputable def cxOf (CX:CXT) (P:ry) (w:z5) (K:b') (mg:F') (base:WN) (N:B') (G:kv) (scope:Yp) (f:ee) (Y:i') (A:W6) (outer:@aL) (s:ik) (H:Hp) (E:XK):Cx where
 prog:=P
 w:=w
 K:=K
 mg:=mg
 base:=base
 A:=A.deeper (!bq G scope f Y)
 N:=N
 s₀:=s
 H₀:=H
 env:=envOfC G scope s.heap.objs.size f Y
 outer:=outer
 stack:=envOfC G scope s.heap.objs.size f Y::outer
 ex:=[]
 calm:=true
 fn:=λ_=>true
 pn:=[]
 xe:=λe s'=>lT (rb P w) (A.deeper (!bq G scope f Y)) (leaving (!bq G scope f Y) e) (λ_ L=>CX outer H s E e L) (λZ L=>CX outer H s E Z L) s'
theorem GW {sc:Yp} {n:Nat} {x:kv} (h:sc.names.lookup x=aY .cell):∃c,(cellsFrom n sc.names []).lookup x=aY c:=by
 have q:=ai2 sc.names n [] (!E h);exact Option.isSome_iff_exists.mp q
theorem LO {CX:CXT} {P:ry} {w:z5} {K:b'} {mg:F'} {base:WN} {N ps:B'} {G:kv} {scope:Yp} {f:ee} {Z:i'} {A:W6} {outer:@aL} {s α:ik} {H:Hp} {E:XK} {us:E'} {vs:eP V}
  (S:ar N ps scope) (hd:@b9) (φ:Env0 P w K mg base A outer s H) (hl:vs.length=ps.length) (r:Vals vs us)
  (x:InCallC s s.heap.objs.size (bindL (!bq G scope f Z).kindOf (ps.zip us) λ_=>gg) (cellsFrom @aw scope.names []) (bindC (!bq G scope f Z).kindOf (ps.zip us) λ_=>gg) α):
  Inv (cxOf CX P w K mg base N G scope f Z A outer s H E) [] (start N vs) H α:=by
 have δ:ps.length<=N.length:=by have:=oe w3 S.pre;rw[qF] at this;omega
 obtain⟨h1,tk,rfl,hk⟩:=x.done;have L:∀b:ee,b∉(cxOf CX P w K mg base N G scope f Z A outer s H E).ex:=λb z=>hE (show b∈([]:M') from z) @C
 refine⟨⟨φ.mod,S.kind,rfl,rfl,mc _,λy z c h1 h2=>?_,λy hy=>?_,λy c _ h=>?_,λ_=>hd,Around.frames_deeper φ.frames,!I @cd,λb z=>hE z (L b),φ.bs,φ.bsz,λb _ _=>L b,λb z=>hE z (L b),φ.funs,φ.frf⟩,
  rfl,φ.bare,Un.kept hk,⟨_,x.toInCall.ns,λi y v h1 h2 ε=>?_⟩,λy c h=>⟨_,x.cell y c h⟩,φ.hok.fresh @U,λy c h=>?_,λp Y=>hE (show p∈([]:D') from Y) @C,φ.hok.kept hk,?_⟩
 ·exact name_of_addr x.apart (Xk h1) (Xk h2)
 ·have hy:scope.names.lookup y=aY .cell∨scope.names.lookup y=aY .free:=hy;rcases hy with hy | hy
  ·exact GW hy
  ·exact hE rfl (S.nofree _ (Xk hy))
 ·exact Y6 (x.above y c (Xk h))
 ·have hi:i < vs.length:=by
   unfold start at h2;by_cases hi:i < vs.length
   ·exact hi
   ·rw[lB (by simpa using hi)] at h2;rw[ak3] at h2;split at h2<;>cases h2
  have ha:vs[i]? =aY v:=by
   unfold start at h2;rw[la (by simpa using hi),hB] at h2;cases e:vs[i]? with
   | none=>rw[e] at h2;cases h2
   | some a=>rw[e] at h2;cases h2;rfl
  obtain⟨u,β,γ⟩:=r.get ha
  have Y:ps[i]? =aY y:=by
   rw[<-S.pre,XN @A];exact h1
  have τ:ps.Nodup:=by rw[<-S.pre];exact S.nd.sublist (List.take_sublist _ _)
  refine⟨u,γ,?_⟩;rcases S.par y (eO Y) with k | k
  ·exact !E ⟨k,DQ τ Y β k⟩
  ·obtain⟨c,e⟩:=GW (n:=s.heap.objs.size + 1) k;refine !I ⟨.inl k,c,e,?_⟩;have q:=x.cell y c e;rw[DS τ Y β (by show scope.names.lookup y≠_;rw[k];decide)] at q;exact q
 ·exact φ.hok.fresh (Y6 (x.above y c (Xk h)))
 ·unfold start;show _=N.length;rw[fy,a',Xg];omega
theorem So {CX:CXT} {P:ry} {w:z5} {K:b'} {mg:F'} {base:WN} {k:Nat} {f:ee} {name G:kv} {Y:Arguments} {α:eP YY} {scope:Yp} {dV kV ε Z L ct π:i'} {an od:Q'}
  {η:K'} {N ps:B'} {sp:Sp} (lk:K.lookup f=aY ⟨π,od,.func (Xz name G Y α scope dV kV ε Z an L ct),η⟩) (θ:Yx K L G=true) (S:ar N ps scope)
  (len:∀vs H Q E,sp vs H Q E->vs.length=ps.length)
  (γ:∀(A:W6) (outer:@aL) (s:ik) (H:Hp) (vs:eP V) (Q:VK) (E:XK),Room k (A.deeper (!bq G scope f L))->sp vs H Q E->
   ∃t,PSs (cxOf CX P w K mg base N G scope f L A outer s H E) α t/\t {nx:=λ_ H'=>Q .non H',rt:=Q} (start N vs) H):
  FnOk P w K mg base CX @aR f (Xz name G Y α scope dV kV ε Z an L ct) ps sp:=by
 refine⟨len,λA outer s H args us vs Q E ν φ hb r δ=>?_⟩;have hl:=len _ _ _ _ δ;have ο:K.In s.heap:=φ.mod.kin.keeps λb o e=>(φ.bs b o e).1;have ι:s.heap.NoLimit:=φ.mod.nolimit.keeps λb o e=>(φ.bs b o e).1
 have β:∀y∈ps.zip us,scope.names.lookup y.1=aY .local∨(scope.names.lookup y.1=aY .cell/\((cellsFrom @aw scope.names []).lookup y.1).isSome=true):=λ⟨n,v⟩ ρ=>by
  rcases S.par n (aa9 ρ).1 with q | q
  ·exact !E q
  ·exact !I ⟨q,ai2 _ _ _ (!E q)⟩
 refine codeAny_call_function ν.depth (ο _ _ lk) rfl S.co S.gen rfl (PySem.W.codeRec_of ο θ) (hb _ _ _ _ ?_);refine wpAny_newFunctionEnv_cells S.kind β λenv he ξ x=>?_;subst he;refine⟨ι.keeps x.toInCall.keep,codeAny_func ?_⟩;obtain⟨t,ht,τ⟩:=γ A outer s H vs Q E (ν.deeper _) δ;have I:Inv (cxOf CX P w K mg base N G scope f L A outer s H E) [] (start N vs) H ξ:=LO S ν.hd φ hl r x;refine YQ (ht [] ξ (start N vs) H _ I τ) (fun υ s' hs=>?_) λe s' hs=>hs
 have fin:∀{σ':St} {H':Hp} {v:V} {u:i'},Inv (cxOf CX P w K mg base N G scope f L A outer s H E) [] σ' H' s'->RelV v u->Q v H'->CE outer P w H s Q u s':=
  λ{σ' H' v u} J ζ q=>⟨v,H',J.os,J.bare,J.base,J.hok,ζ,q⟩
 cases υ with
 | ret u=>
   obtain⟨v,σ',H',J,ζ,q⟩:=hs;exact fin J ζ q
 | next=>
   obtain⟨σ',H',J,q⟩:=hs;exact fin (v:=V.non) (u:=Xj) J rfl q
 | brk=>
   obtain⟨_,_,_,q⟩:=hs;exact X4 q
 | cont=>
   obtain⟨_,_,_,q⟩:=hs;exact X4 q
section
variable {X:Cx} {x:kv} {p pos:Pos} {e:W5} {es:eP W5} {t:TA} {id T:X9} {r:eP V->Hp->VK->Prop}
noncomputable abbrev tCB (r:eP V->Hp->VK->Prop) (t:TA):TE:=fun σ H Q=>t σ H λvs H1=>r vs H1 Q
theorem aP (hc:oJ X (!ai id) r) (δ:Gl X x) (hm:X.mg x=gg) (γ:bootBuiltins x=aY (!ai id)) (ha:PA X @V t) (hn:x≠"__name__":=by decide) (L:(x == ("__debug__":kv))=false:=by decide)
  (he:pT @V X.env=(false,eval e X.env)::pT es X.env:=by rfl) (G:(!aD pos es).any (·.1)=false:=by rfl):!F (!aG x p @V [] pos) (tCB r t):=by
 intro pins s σ H Q I h;refine ZX (mR I δ hm γ ?_ hn L);exact PyProof.Rows.callWith_builtin1 (thn (ha pos pins s σ H _ I h) λus Y ⟨vs,H1,Z,α,β⟩=>hc pins Y σ H1 vs us Q Z α β) he G
theorem bc (hc:oJ X (!aj T) r) (δ:Gl X x) (hm:X.mg x=gg) (γ:bootBuiltins x=aY (!aj T)) (ha:PA X @V t) (hn:x≠"__name__":=by decide) (L:(x == ("__debug__":kv))=false:=by decide)
  (he:pT @V X.env=(false,eval e X.env)::pT es X.env:=by rfl) (G:(!aD pos es).any (·.1)=false:=by rfl):!F (!aG x p @V [] pos) (tCB r t):=by
 intro pins s σ H Q I h;refine ZX (mR I δ hm γ ?_ hn L);exact wq (thn (ha pos pins s σ H _ I h) λus Y ⟨vs,H1,Z,α,β⟩=>hc pins Y σ H1 vs us Q Z α β) he G
end
end L2
namespace HT
open PySem PyProof.Rows
section
variable {prog:ry} {w:z5} {A:W6} {E:Cr} {s:ik}
noncomputable def sIx (n d:Nat):vr Int->Nat
 | none=>d
 | some v=>if v < 0 then (v + (n:Int)).toNat else min v.toNat n
theorem sIx_none (n d:Nat):sIx n d gg=d:=rfl
theorem sIx_nat (n d k:Nat):sIx n d (aY (k:Int))=min k n:=by
 show(if (k:Int) < 0 then ((k:Int) + (n:Int)).toNat else min (k:Int).toNat n)=min k n;rw[kf @A,n']
theorem clip_eq (v:Int) (n d:Nat):(if v < 0 then max (v + (n:Int)) 0 else min v (n:Int))=((sIx n d @aI:Nat):Int):=by
 show(if v < 0 then max (v + (n:Int)) 0 else min v (n:Int))=(((if v < 0 then (v + (n:Int)).toNat else min v.toNat n):Nat):Int);by_cases G:v < 0
 ·simp only[lx G];omega
 ·simp only[kf G];omega
end
end HT
namespace L2
open PySem PySem.Spec PyProof.Rows
noncomputable abbrev TO:=St->Hp->(vr Int->Hp->Prop)->Prop
def PO (X:Cx) (e:vr W5) (t:TO):Prop:=
 ∀(pins:D') (s:ik) (σ:St) (H:Hp) (Q:vr Int->Hp->Prop),Inv X pins σ H s->t σ H Q->
  lT @S X.A (evalPart e X.env) (λu s'=>∃o H',Inv X pins σ H' s'/\IsPart u o/\Q o H') X.xe s
noncomputable abbrev QR:TO:=λ_ H Q=>Q gg H
noncomputable abbrev V1 (t:TE):TO:=fun σ H Q=>t σ H λx H1=>∃i,x= .int i/\Q (aY i) H1
section
variable {X:Cx} {e:W5} {te:TE} {lo hi:vr W5} {tl th:TO} {pos p2:Pos}
theorem rB:PO X gg QR:=by
 intro pins s σ H Q I h;rw[evalPart_none];exact oD ⟨gg,H,I,.none,h⟩
theorem kH (h:!F e te):PO X (aY e) (V1 te):=by
 intro pins s σ H Q I hw;rw[evalPart_some];refine thn (h pins s σ H _ I hw) λu L ⟨x,H1,Z,α,G⟩=>?_;obtain⟨i,rfl,q⟩:=G;obtain⟨t,rfl⟩:=α;exact⟨aY i,H1,Z,.int i t,q⟩
def SlR (X:Cx) (r:V->vr Int->vr Int->Hp->VK->Prop):Prop:=
 ∀(pins:D') (s:ik) (σ:St) (H:Hp) (x:V) (v L G:i') (lo hi:vr Int) (Y:ee) (Q:VK),Inv X pins σ H s->RelV x v->s.heap.IsSliceOf Y L G .none->IsPart L lo->IsPart G hi->r x lo hi H Q->
  ∃T id,typeLookup (!aj T) "__getitem__"=pure (aY (!ai id))/\s.TypeIs v T/\lT @S X.A (getItem v (!j Y)) (EP X pins σ Q) X.xe s
noncomputable abbrev tSl (r:V->vr Int->vr Int->Hp->VK->Prop) (te:TE) (tl th:TO):TE:=fun σ H Q=>te σ H λx H1=>tl σ H1 λl H2=>th σ H2 λu G=>r x l u G Q
theorem j6 {r:V->vr Int->vr Int->Hp->VK->Prop} (ν:SlR X r) (he:!F e te) (hl:PO X lo tl) (hu:PO X hi th):!F (.Subscript e (.Slice lo hi gg p2) pos) (tSl r te tl th):=by
 intro pins s σ H Q I h;refine at8 (thn (he pins s σ H _ I h) λv δ ⟨x,H1,Z,α,θ⟩=>?_);refine wpAny_Slice (thn (hl pins δ σ H1 _ Z θ) λY γ ⟨l,H2,ο,pl,η⟩=>thn (hu pins γ σ H2 _ ο η) λL G ⟨u,β,I3,ι,ε⟩=>?_);rw[evalPart_none];refine oD ?_;have ζ:Inv X pins σ β {G with heap:=G.heap.push {cls:= .type "slice",data:= .fields #[Y,L,.none]}}:=I3.kept (t':=G.toks) λb ob q=>gn _ q;obtain⟨T,id,hT,ht,ξ⟩:=ν pins {G with heap:=G.heap.push {cls:= .type "slice",data:= .fields #[Y,L,.none]}} σ β x v Y L l u G.heap.objs.size Q ζ α (Heap.IsSliceOf.new ..) pl ι ε;show lT @S X.A (subscriptTail e (.Slice lo hi gg p2) v @bx) (EP X pins σ Q) X.xe {G with heap:=G.heap.push {cls:= .type "slice",data:= .fields #[Y,L,.none]}};exact tail_any (ops:=[.ref G.heap.objs.size,v]) ht hT ξ (by with_unfolding_all rfl)
noncomputable def cutV (xs:eP V) (lo hi:vr Int):eP V:=(xs.drop (HT.sIx xs.length 0 lo)).take @d6
theorem FJ (xs:eP V) (lo hi:vr Int):(cutV xs lo hi).length<=xs.length:=by
 unfold cutV;rw[qF,ZU];omega
end
noncomputable def ixN (n:Nat) (i:Int):vr Nat:=if 0<=i then (if i < n then aY i.toNat else gg) else if -(n:Int)<=i then aY (i + n).toNat else gg
noncomputable def atI {α:Type} (xs:eP α) (i:Int):vr α:=(ixN xs.length i).bind λj=>xs[j]?
theorem Sd {n:Nat} {i:Int} {j:Nat} (h:ixN n i=aY j):seqIndex? i n=aY j/\j < n/\-(n:Int)<=i/\i < n:=by
 unfold ixN at h;by_cases G:0<=i
 ·rw[lx G] at h;by_cases h1:i < n
  ·rw[lx h1] at h;have e:i.toNat=j:=qA h;exact⟨by rw[seqIndex_of G h1,e],@A,@A,h1⟩
  ·rw[kf h1] at h;cases h
 ·rw[kf G] at h;by_cases h1: -(n:Int)<=i
  ·rw[lx h1] at h;have e:(i + n).toNat=j:=qA h;exact⟨by rw[seqIndex_neg @A h1,e],@A,h1,@A⟩
  ·rw[kf h1] at h;cases h
theorem FP {α:Type} {xs:eP α} {i:Int} {v:α} (h:atI xs i=aY v):∃j,seqIndex? i xs.length=aY j/\xs[j]? =aY v/\j < xs.length/\-(xs.length:Int)<=i/\i < xs.length:=by
 unfold atI at h;cases e:ixN xs.length i with
 | none=>rw[e] at h;cases h
 | some j=>
   rw[e] at h;obtain⟨h1,h2,G,ι⟩:=Sd e;exact⟨j,h1,h,h2,G,ι⟩
theorem dB {α:Type} {xs:eP α} {j:Nat} {v:α} (h:xs[j]? =aY v):atI xs (j:Int)=aY v:=by
 have G:j < xs.length:=(!K h).1
 have e:ixN xs.length (j:Int)=aY j:=by
  unfold ixN;rw[lx @A,lx @A];simp
 unfold atI;rw[e];exact h
theorem Ph {α:Type} (xs:eP α) (v:α):atI (xs++[v]) (-1)=aY v:=by
 have hl:(xs++[v]).length=xs.length + 1:=by simp
 have e:ixN (xs++[v]).length (-1)=aY xs.length:=by
  unfold ixN;rw[hl,kf @D,lx @A];congr 1;omega
 unfold atI;rw[e];show(xs++[v])[xs.length]? =aY v;simp
def SM (b:W5):Prop:=∀o i,subscripted b false o i=operate [o,i] (getItem o i)
def IxR (X:Cx) (r:R2):Prop:=
 ∀(value G:W5) (pins:D') (s:ik) (σ:St) (H:Hp) (x y:V) (v u:i') (Q:VK),Inv X pins σ H s->RelV x v->RelV y u->r x y H Q->
  subscripted G false v u=operate [v,u] (getItem v u)->lT @S X.A (subscriptTail value G v u) (EP X pins σ Q) X.xe s
def MtR (X:Cx) (id:X9) (r:V->eP V->Hp->VK->Prop):Prop:=
 ∀(pins:D') (s:ik) (σ:St) (H:Hp) (x:V) (xs:eP V) (v:i') (us:E') (Q:VK),Inv X pins σ H s->RelV x v->Vals xs us->r x xs H Q->
  lT @S X.A (call (!ai id) (v::us)) (EP X pins σ Q) X.xe s
section
variable {X:Cx} {a b:W5} {ta tb:TE} {pos:Pos}
theorem aR {r:R2} (Z:IxR X r) (ha:!F a ta) (hb:!F b tb) (hs:SM b):!F (.Subscript a b pos) (tOp r ta tb):=by
 intro pins s σ H Q I h;exact at8 (binT ha hb I h λv u G x y H2 α Y L q=>Z a b pins G σ H2 x y v u Q α Y L q (hs _ _))
noncomputable def rIxL (K:b'):R2:=λx y H Q=>∃p xs i v,x= .ref p/\y= .int i/\SqL K H p xs/\atI xs i=aY v/\Q v H
noncomputable def rIxT (K:b'):R2:=λx y H Q=>∃p xs i v,x= .ref p/\y= .int i/\SqT K H p xs/\atI xs i=aY v/\Q v H
noncomputable def rIxS:R2:=λx y H Q=>∃z i c,x= .str z/\y= .int i/\z.length<=ic/\atI z.cps.toList i=aY c/\Q (.str ⟨#[c]⟩) H
theorem Sb:IxR X (rIxL X.K):=by
 intro value G pins s σ H x y v u Q I γ L h hs;obtain⟨p,xs,i,z,rfl,rfl,δ,he,q⟩:=h;cases γ;obtain⟨t,rfl⟩:=L;obtain⟨its,r,pl,hz⟩:=I.list δ;obtain⟨j,h1,h2,ζ,ι,ε⟩:=FP he;obtain⟨w,β,Z⟩:=r.get h2;have hl:=r.length;have hn:=GG;have fin:EP X pins σ Q w s:=⟨z,H,I,Z,q⟩;by_cases α:0<=i
 ·have Y:i.toNat=j:=by
   rw[seqIndex_of α ε] at h1;exact qA h1
  exact item_listR pl.isList α @A (by rw[Y];simpa using β) fin hs
 ·have Y:(i + (its.toArray.size:Int)).toNat=j:=by
   rw[seqIndex_neg @A ι] at h1;rw[y7,<-hl];exact qA h1
  exact ap6 (x:=w) pl.isList.typeIs slot_list_getitem.lookup
   (wpAny_getItem_list_neg (Q:=λr s'=>r=w/\EP X pins σ Q r s') pl.isList @A (by rw[y7]<;>omega) @A (by rw[Y];simpa using β) ⟨rfl,fin⟩) hs
theorem Va:IxR X (rIxT X.K):=by
 intro value G pins s σ H x y v u Q I Y L h hs;obtain⟨p,xs,i,z,rfl,rfl,α,he,q⟩:=h;cases Y;obtain⟨t,rfl⟩:=L;obtain⟨its,r,pl,hz⟩:=I.tuple α;obtain⟨j,h1,h2,δ,ι,γ⟩:=FP he;obtain⟨w,β,Z⟩:=r.get h2;have hl:=r.length;have hn:=GG;have fin:EP X pins σ Q w s:=⟨z,H,I,Z,q⟩
 exact ap6 (x:=w) pl.typeIs slot_tuple_getitem.lookup
  (getItem_tuple (j:=j) (Q:=λr s'=>r=w/\EP X pins σ Q r s') pl @A @A (by rw[y7,<-hl];exact h1) (by simpa using β) ⟨rfl,fin⟩) hs
theorem LL:IxR X rIxS:=by
 intro value G pins s σ H x y v u Q I Y L h hs;obtain⟨z,i,c,rfl,rfl,hz,he,q⟩:=h;obtain⟨t,rfl⟩:=Y;obtain⟨t',rfl⟩:=L;obtain⟨j,h1,h2,γ,ι,Z⟩:=FP he;have hl:z.cps.toList.length=z.length:=by simp[Str.length]
 rw[hl] at h1 ι Z;have hn:=GG
 exact tail_any (ag2 s z t) slot_str_getitem.lookup (getItem_str (c:=c) (by
  have β:decide (i < -(2 ^ 63:Int))=false:=f' @A;have α:decide (i≥2 ^ 63)=false:=f' @A;rw[β,α,Bool.or_false]) (by rw[h1];simpa using h2) ⟨.str ⟨#[c]⟩,H,@bk,⟨_,rfl⟩,q⟩) hs
theorem BW (lo hi:vr Int) (n:Nat):(sliceBounds lo hi gg n).1=((HT.sIx n 0 lo:Nat):Int)/\(sliceBounds lo hi gg n).2.1=((HT.sIx n n hi:Nat):Int)/\(sliceBounds lo hi gg n).2.2=1:=by
 refine⟨?_,?_,rfl⟩
 ·cases lo with
  | none=>simp[sliceBounds,HT.sIx]
  | some i=>
    simp only[sliceBounds,HT.sIx,am0,show(1:Int) > 0 by decide,ak7];by_cases h:i < 0
    ·simp only[h,ak7]<;>omega
    ·simp only[h,if_false]<;>omega
 ·cases hi with
  | none=>simp[sliceBounds,HT.sIx]
  | some i=>
    simp only[sliceBounds,HT.sIx,am0,show(1:Int) > 0 by decide,ak7];by_cases h:i < 0
    ·simp only[h,ak7]<;>omega
    ·simp only[h,if_false]<;>omega
theorem Ap (its:E') (lo hi:vr Int):slicePick its.toArray lo hi gg=((its.drop (HT.sIx its.length 0 lo)).take (HT.sIx its.length its.length hi - HT.sIx its.length 0 lo)).toArray:=by
 obtain⟨h1,h2,G⟩:=BW lo hi its.toArray.size;unfold slicePick;rw[h1,h2,G];simp only[sliceRange_one,pick_run,y7]<;>rfl
noncomputable def rSlL (K:b'):V->vr Int->vr Int->Hp->VK->Prop:=λx lo hi H Q=>∃a xs,x= .ref a/\SqL K H a xs/\∀p,H p=gg->Q @P (!aB H p (cutV xs lo hi))
theorem Rh:SlR X (rSlL X.K):=by
 intro pins s σ H x v β α lo hi γ Q I L hs pl Y h;obtain⟨a,xs,rfl,Z,q⟩:=h;cases L;obtain⟨its,r,ht,hz⟩:=I.list Z;have G:=r.length;refine⟨"list",_,slot_list_getitem.lookup,ht.isList.typeIs,?_⟩;refine wpAny_getItem_list_slice ht.isList hs pl Y .none @C ?_ (by rw[y7]<;>omega);rw[Ap,<-G];refine⟨@aN,_,I.laid (t':=s.toks) (o:= .lst (cutV xs lo hi)) (λb ob q=>gn _ q) @U ?_,rfl,q _ @bW⟩;exact⟨XX (FJ xs lo hi) hz,_,0,(r.drop (HT.sIx xs.length 0 lo)).take @d6,kh _ rfl⟩
noncomputable def pD:V->Xb
 | .non=>true
 | .bl _=>true
 | .int _=>true
 | .str _=>true
 | _=>false
noncomputable def eqV:V->V->Xb
 | .non,.non=>true
 | .bl a,.bl b=>a == b
 | .bl a,.int b=>(if a then 1 else 0) == b
 | .int a,.bl b=>a == (if b then 1 else 0)
 | .int a,.int b=>a == b
 | .str a,.str b=>a == b
 | _,_=>false
theorem Qo {A:W6} {s:ik} {y x:V} {u v:i'} (L:!aH y) (G:RelV x v) (Y:pD y=true) (fx:pD x=true):an8 A s u v (eqV y x):=by
 cases y with
 | non=>
   cases L;cases x with
   | non=>cases G;exact SeqAt.EqAt.same _
   | bl b=>cases G;exact SeqAt.EqAt.none_bool b
   | int b=>obtain⟨t,rfl⟩:=G;exact SeqAt.EqAt.none_int b t
   | str b=>obtain⟨t,rfl⟩:=G;exact SeqAt.EqAt.none_str b t
   | _=>exact hE (show false=true from fx) hH
 | bl a=>
   cases L;cases x with
   | non=>cases G;exact SeqAt.EqAt.bool_none a
   | bl b=>cases G;exact SeqAt.EqAt.bool_bool a b
   | int b=>obtain⟨t,rfl⟩:=G;exact SeqAt.EqAt.bool_int a b t
   | str b=>obtain⟨t,rfl⟩:=G;exact SeqAt.EqAt.bool_str a b t
   | _=>exact hE (show false=true from fx) hH
 | int a=>
   obtain⟨t',rfl⟩:=L;cases x with
   | non=>cases G;exact SeqAt.EqAt.int_none a t'
   | bl b=>cases G;exact SeqAt.EqAt.int_bool a t' b
   | int b=>obtain⟨t,rfl⟩:=G;exact SeqAt.EqAt.int_int a t' b t
   | str b=>obtain⟨t,rfl⟩:=G;exact aj5 a t' b t
   | _=>exact hE (show false=true from fx) hH
 | str a=>
   obtain⟨t',rfl⟩:=L;cases x with
   | non=>cases G;exact SeqAt.EqAt.str_none a t'
   | bl b=>cases G;exact SeqAt.EqAt.str_bool a t' b
   | int b=>obtain⟨t,rfl⟩:=G;exact aj4 a t' b t
   | str b=>obtain⟨t,rfl⟩:=G;exact SeqAt.EqAt.str_str a t' b t
   | _=>exact hE (show false=true from fx) hH
 | _=>exact hE (show false=true from Y) hH
noncomputable def eqU (x:V) (u:i'):Bool:=match u with
 | .none=>eqV .non x
 | .bool b=>eqV (.bl b) x
 | .int i _=>eqV @bc x
 | .str z _=>eqV @aj x
 | _=>false
theorem Qm {x y:V} {u:i'} (r:!aH y) (f:pD y=true):eqU x u=eqV y x:=by
 cases y with
 | non=>cases r;rfl
 | bl b=>cases r;rfl
 | int i=>obtain⟨t,rfl⟩:=r;rfl
 | str z=>obtain⟨t,rfl⟩:=r;rfl
 | _=>exact hE (show false=true from f) hH
theorem yy {x:V}:∀{xs:eP V} {us:E'},Vals xs us->xs.all pD=true->us.any @b6=xs.any λy=>eqV y x
 | _,_,.nil,_=>rfl
 | y::xs,u::us,.cons r t,f=>by
   rw[aa2,WV] at f;rw[ac4,ac4,Qm r f.1,yy t f.2]
theorem sM {A:W6} {s:ik} {x:V} {v:i'} (G:RelV x v) (fx:pD x=true):∀{xs:eP V} {us:E'},Vals xs us->xs.all pD=true->∀u∈us,an8 A s u v (eqU x u)
 | _,_,.nil,_=>λu hu=>by cases hu
 | y::xs,u::us,.cons r t,f=>λL hu=>by
   rw[aa2,WV] at f;rcases x8.mp hu with rfl | hu
   ·rw[Qm r f.1];exact Qo r G f.1 fx
   ·exact sM G fx t f.2 L hu
noncomputable def inV (x:V) (xs:eP V):Bool:=xs.any λy=>eqV y x
noncomputable def rIn (K:b') (neg:Xb):R2:=λx y H Q=>∃p xs,y= .ref p/\(SqL K H p xs∨SqT K H p xs)/\pD x=true/\xs.all pD=true/\Q (.bl (if neg then !inV x xs else inV x xs)) H
theorem KS:!aK X .In (rIn X.K false):=by
 intro pins s σ H x y v u Q I G L h;obtain⟨p,xs,rfl,hq,fx,fs,q⟩:=h;cases L;rcases hq with hq | hq
 ·obtain⟨its,r,pl,hz⟩:=I.list hq;refine SeqAt.in_listAt @b6 pl.isList (!cc (by simpa using hw)) @cx;rw[show its.toArray.any @b6=its.any @b6 by simp,yy r fs];exact q
 ·obtain⟨its,r,pl,hz⟩:=I.tuple hq;refine SeqAt.in_tupleAt @b6 pl (!cc (by simpa using hw)) @cx;rw[show its.toArray.any @b6=its.any @b6 by simp,yy r fs];exact q
theorem Cj:!aK X .NotIn (rIn X.K true):=by
 intro pins s σ H x y v u Q I G L h;obtain⟨p,xs,rfl,hq,fx,fs,q⟩:=h;cases L;rcases hq with hq | hq
 ·obtain⟨its,r,pl,hz⟩:=I.list hq;refine SeqAt.notIn_listAt @b6 pl.isList (!cc (by simpa using hw)) @cx;rw[show its.toArray.any @b6=its.any @b6 by simp,yy r fs];exact q
 ·obtain⟨its,r,pl,hz⟩:=I.tuple hq;refine SeqAt.notIn_tupleAt @b6 pl (!cc (by simpa using hw)) @cx;rw[show its.toArray.any @b6=its.any @b6 by simp,yy r fs];exact q
theorem DL:oJ X @bA (λxs H Q=>∃p ys,xs=[.ref p]/\(SqL X.K H p ys∨SqT X.K H p ys)/\∀l,H l=gg->Q @aC (!aB H l ys)):=by
 intro pins s σ H xs us Q I r h;obtain⟨p,ys,rfl,hq,q⟩:=h;obtain⟨u,rfl,Z⟩:=wA r;cases Z
 have fin:∀(its:E'),Vals ys its->ys.length<=ic->∀(h':WN) (G:Nat),(∀b o',s.heap.get? b=aY o'->h'.get? b=aY o')->
   h'.get? s.heap.objs.size=aY {cls:= .type "list",dict:=gg,data:= .seq its.toArray G,slots:=#[]}->EP X pins σ Q @aN {s with heap:=h'}:=λits r' hz h' G kp e=>
  ⟨@aN,_,I.laid (t':=s.toks) kp @U (show iu X.prog X.w _ h' _ @Y from⟨hz,its,G,r',e⟩),rfl,q _ @bW⟩
 rcases hq with hq | hq
 ·obtain⟨its,r',pl,hz⟩:=I.list hq;have L:=r'.length;obtain⟨o,ho,Y,n,hd⟩:=pl.isList;exact call_list_seq p @am ho Y hd (λh' G kp e=>fin its r' hz h' G kp e) (by simp only[y7]<;>omega)
 ·obtain⟨its,r',pl,hz⟩:=I.tuple hq;have L:=r'.length;obtain⟨o,ho,Y,n,hd⟩:=pl;exact call_list_seq p (!I rfl) ho Y hd (λh' G kp e=>fin its r' hz h' G kp e) (by simp only[y7]<;>omega)
theorem Bv:oJ X (!aj "tuple") (λxs H Q=>∃p ys,xs=[.ref p]/\((SqL X.K H p ys/\∀l,H l=gg->Q @aC (!V l (!H ys)))∨(SqT X.K H p ys/\Q @P H))):=by
 intro pins s σ H xs us Q I r h;obtain⟨p,ys,rfl,h⟩:=h;obtain⟨u,rfl,Y⟩:=wA r;cases Y;rcases h with ⟨G,q⟩ | ⟨G,q⟩
 ·obtain⟨its,r',pl,hz⟩:=I.list G;have L:=r'.length;refine call_tuple_list pl.isList (λh' kp=>?_) (by simp only[y7]<;>omega);have I1:Inv X pins σ H {s with heap:=h'}:=I.kept (t':=s.toks) kp
  have Z:Inv X pins σ (!V h'.objs.size (!H ys)) {s with heap:=h'.push {cls:= .type "tuple",data:= .seq its.toArray}}:=
   I1.laid (t':=s.toks) (λb o e=>gn _ e) @U (show iu X.prog X.w _ _ _ (!H ys) from⟨hz,its,r',IsTup.new _ _⟩)
  exact⟨!j h'.objs.size,_,Z,rfl,q _ (I1.hok.fresh @U)⟩
 ·obtain⟨its,r',pl,hz⟩:=I.tuple G;exact call_tuple_same pl ⟨.ref p,H,I,rfl,q⟩
def tyV (K:b') (T:X9) (x:V) (H:Hp):Prop:=match x with
 | .str _=>T="str"
 | .int _=>T="int"
 | .ref p=>(T="list"/\∃xs,SqL K H p xs)∨(T="tuple"/\∃o,K.lookup p=aY o/\o.cls= .type "tuple"/\o.dict=gg)∨
   (T="dict"/\((∃kvs,H p=aY @aA)∨∃kvs,H p=aY (.dT kvs)))∨(T="set"/\∃S n,H p=aY (.set S n))
 | _=>False
theorem Pw {pins:D'} {σ:St} {H:Hp} {s:ik} {T:X9} {x:V} {v:i'} (I:@M) (r:RelV x v) (ty:tyV X.K T x H):
  s.TypeIs v T/\∀a,v= .ref a->∃ob,s.heap.get? a=aY ob/\ob.dict=none:=by
 cases x with
 | str z=>
   obtain⟨t,rfl⟩:=r;cases(show T="str" from ty);exact⟨ag2 s z t,λ_ e=>nomatch e⟩
 | int i=>
   obtain⟨t,rfl⟩:=r;cases(show T="int" from ty);exact⟨at7 s i t,λ_ e=>nomatch e⟩
 | ref p=>
   cases r;rcases ty with ⟨rfl,xs,L⟩ | ⟨rfl,o,hk,Y,hd⟩ | ⟨rfl,hk⟩ | ⟨rfl,S,n,hk⟩
   ·obtain⟨its,_,pl,_⟩:=I.list L;refine⟨pl.isList.typeIs,λa e=>?_⟩;cases e;obtain⟨o,n,e,c,hd,_⟩:=pl;exact⟨o,e,hd⟩
   ·refine⟨⟨o,I.kIn p o hk,Y⟩,λa e=>?_⟩;cases e;exact⟨o,I.kIn _ o hk,hd⟩
   ·have z:∃o,s.heap.get? p=aY o/\o.ExactDict:=by
     rcases hk with ⟨kvs,hk⟩ | ⟨kvs,hk⟩
     ·obtain⟨_,_,_,_,o,_,_,e,ex,_⟩:=I.hok p _ hk;exact⟨o,e,ex⟩
     ·obtain⟨_,_,_,_,o,_,_,e,ex,_⟩:=I.hok p _ hk;exact⟨o,e,ex⟩
    obtain⟨o,e,ex⟩:=z;refine⟨⟨o,e,ex.1⟩,λa G=>?_⟩;cases G;exact⟨o,e,ex.2.1⟩
   ·obtain⟨o,_,_,_,e,ex,_⟩:=I.hok p _ hk;refine⟨⟨o,e,ex.1⟩,λa G=>?_⟩;cases G;exact⟨o,e,ex.2.1⟩
 | _=>exact X4 ty
noncomputable abbrev tBM0 (K:b') (T:X9) (r:V->eP V->Hp->VK->Prop) (to:TE):TE:=fun σ H Q=>to σ H λx H1=>tyV K T x H1/\r x [] H1 Q
noncomputable abbrev tBM (K:b') (T:X9) (r:V->eP V->Hp->VK->Prop) (to:TE) (t:TA):TE:=fun σ H Q=>to σ H λx H1=>tyV K T x H1/\t σ H1 λxs H2=>r x xs H2 Q
variable {o e:W5} {es:eP W5} {to:TE} {t:TA} {name:kv} {apos cpos:Pos} {T id:X9} {r:V->eP V->Hp->VK->Prop}
theorem UF (β:PlainAttrs T) (slot:Slot T name id) (G:typeOf (!ai id)=pure @cH) (hm:MtR X id r) (ho:!F o to)
  (η:attributeBase o name X.env (!aw o)=eval o X.env:=by rfl) (ζ:@c6=true:=by rfl):!F (!b6 o name apos [] [] cpos) (tBM0 X.K T r to):=by
 intro pins s σ H Q I h;refine wpAny_Call_method0_late η ζ (thn (ho pins s σ H _ I h) λv L ⟨x,H1,Z,α,ty,Y⟩=>?_);obtain⟨h1,h2⟩:=Pw Z α ty;exact⟨T,id,β,slot,G,h1,h2,ak5 rfl (PySem.evalArgs_none (hm pins L σ H1 x [] v [] Q Z α .nil Y))⟩
theorem Wm (ν:PlainAttrs T) (slot:Slot T name id) (L:typeOf (!ai id)=pure @cH) (hm:MtR X id r) (ho:!F o to) (ha:PA X @V t)
  (η:attributeBase o name X.env (!aw o)=eval o X.env:=by rfl)
  (G:((!aD cpos @V).all (λx=> !x.1)&&(!bB cpos [] X.env).all (λx=>x.1.isSome)
   &&decide ((@V).length + ([]:eP Keyword).length + (if ([]:eP Keyword).isEmpty then 0 else 1) < 30))=true:=by rfl)
  (ζ:@c6=true:=by rfl) (hs:pT @V X.env=(false,eval e X.env)::pT es X.env:=by rfl) (α:(!aD cpos es).any (·.1)=false:=by rfl):
  PE X (!b6 o name apos @V [] cpos) (tBM X.K T r to t):=by
 intro pins s σ H Q I h;refine wpAny_Call_method_late η G ζ rfl (thn (ho pins s σ H _ I h) λv δ ⟨x,H1,Z,Y,ty,ι⟩=>?_);obtain⟨h1,h2⟩:=Pw Z Y ty;refine⟨T,id,ν,slot,L,h1,h2,?_⟩;have β:=ha cpos pins δ σ H1 _ Z ι;rw[hs] at β ⊢;refine ak5 (by show(false||(!aD cpos es).any (·.1))=false;rw[α]<;>rfl) (am2 ?_);exact thn β λus γ ⟨vs,H2,ξ,ε,θ⟩=>hm pins γ σ H2 x vs v us Q ξ Y ε θ
end
def MtM (X:Cx) (id:X9) (r:V->eP V->Hp->VK->Prop):Prop:=
 ∀(pins:D') (s:ik) (σ:St) (H:Hp) (x:V) (xs:eP V) (v:i') (us:E') (Q:VK),Inv X pins σ H s->RelV x v->Vals xs us->r x xs H Q->
  lT @S X.A (call (!ai id) (v::us)) (EP X pins σ Q) X.xe s
theorem Vals.one:∀{x:V} {us:E'},Vals [x] us->∃u,us=[u]/\RelV x u
 | _,_,.cons r .nil=>⟨_,rfl,r⟩
theorem Vals.two:∀{x y:V} {us:E'},Vals [x,y] us->∃u v,us=[u,v]/\RelV x u/\RelV y v
 | _,_,_,.cons r (.cons q .nil)=>⟨_,_,rfl,r,q⟩
theorem Vals.reverse {xs:eP V} {us:E'} (h:Vals xs us):Vals xs.reverse us.reverse:=by
 induction h with
 | nil=>exact .nil
 | cons r t ih=>rw[Zz,Zz];exact Vals.append ih (!bc r)
theorem Vals.rep {xs:eP V} {us:E'} (h:Vals xs us):∀k:Nat,Vals (lA k xs).flatten (lA k us).flatten
 | 0=> .nil
 | k + 1=>by
   rw[Y8,Y8,ZD,ZD];exact Vals.append h (Vals.rep h k)
theorem C6 (its:E'):∀(k:Nat) (G:E'),
  ao5 (λx1 x2=>x1++x2) G.toArray (lA k its.toArray)=(G++(lA k its).flatten).toArray
 | 0,G=>by simp
 | k + 1,G=>by
   have e:G.toArray++its.toArray=(G++its).toArray:=by simp
   have L:(G++its)++(lA k its).flatten=G++(lA @aR its).flatten:=by
    rw[Y8,ZD,Yj]
   rw[<-L,<-C6 its k (G++its),<-e,Y8,as3]
section
variable {X:Cx} {pins:D'} {σ:St} {H:Hp} {s:ik} {l b:ee} {xs ys zs:eP V}
theorem Inv.lset {its its':E'} {n:Nat} {f:G'->G'} {t':Nat} (I:@M) (Y:@bK)
  (e:s.heap.get? l=aY {cls:= .type "list",data:= .seq its.toArray n}) (hf:f its.toArray=its'.toArray) (G:Vals ys its') (hz:ys.length<=ic):
  Inv X pins σ (!aB H l ys) {s with heap:=s.heap.update l (Xd f),toks:=t'}:=by
 have q:=PySem.IsL.update e f;rw[hf] at q;refine I.write (x:=l) (e:=l) (by rw[Y];exact trivial) @am (λZ u hb L=>(X1 s.heap (Xd f) (wh hb)).trans L) ⟨_,q⟩ ?_;exact⟨hz,its',_,G,q⟩
theorem Inv.lnew {its:E'} {t':Nat} (I:@M) (G:Vals ys its) (hz:ys.length<=ic):
  Inv X pins σ (!aB H s.heap.objs.size ys) {s with heap:=s.heap.push {cls:= .type "list",data:= .seq its.toArray},toks:=t'}:=
 I.laid (λ_ _ q=>gn _ q) @U ⟨hz,its,0,G,kh _ rfl⟩
theorem Inv.fresh (I:@M):H s.heap.objs.size=none:=I.hok.fresh @U
theorem Inv.lstM (I:@M) (G:@bK):xs.length<=ic/\∃(its:E') (n:Nat),Vals xs its/\xs.length=its.length/\s.heap.get? l=aY {cls:= .type "list",data:= .seq its.toArray n}:=by
 obtain⟨z,its,n,r,e⟩:=I.hok l _ G;exact⟨z,its,n,r,r.length,e⟩
theorem Gy {n:Nat} (h:n<=ic):Yz n=false:=by
 unfold Yz;exact @bf
end
section
variable {X:Cx}
noncomputable def Kz:V->eP V->Hp->VK->Prop:=λx vs H Q=>∃l xs y,x= .ref l/\vs=[y]/\H l=aY @aF/\xs.length < ic/\Q .non (!aB H l (xs++[y]))
theorem fc:MtM X "list.append" Kz:=by
 intro pins s σ H x vs v us Q I L Y h;obtain⟨l,xs,y,rfl,rfl,G,hz,q⟩:=h;cases L;obtain⟨u,rfl,Z⟩:=Y.one;obtain⟨z,its,n,r,hl,e⟩:=I.lstM G;refine Zn F.slot_list_append ⟨_,e,rfl⟩ F.entry_list_append (F.args_list_append_2 _ _) (PySem.list_append l its.toArray n u (by rw[y7];omega)) ⟨e,?_⟩;refine⟨.non,_,I.lset (its':=its++[u]) G e @C (r.append (!bc Z)) ?_,rfl,q⟩;rw[fy,u9];omega
noncomputable def ER:V->eP V->Hp->VK->Prop:=λx vs H Q=>∃l b xs zs,x= .ref l/\vs=[.ref b]/\H l=aY @aF/\H b=aY (!A zs)/\xs.length + zs.length<=ic/\Q .non (!aB H l (xs++zs))
theorem jx:MtM X "list.extend" ER:=by
 intro pins s σ H x vs v us Q I L Z h;obtain⟨l,b,xs,zs,rfl,rfl,G,δ,hz,q⟩:=h;cases L;obtain⟨u,rfl,α⟩:=Z.one;cases α;obtain⟨z,its,n,r,hl,e⟩:=I.lstM G;obtain⟨ζ,θ,γ,β,hl2,ε⟩:=I.lstM δ;have hsz:its.toArray.size + θ.toArray.size<=sizeLine:=by rw[y7,y7];omega
 have Y:¬(!its.toArray.isEmpty&&Yz (its.toArray.size + θ.toArray.size))=true:=by
  rw[Gy hsz,XH];exact hH
 refine Zn F.slot_list_extend ⟨_,e,rfl⟩ F.entry_list_extend (F.args_list_extend_2 _ _)
  (AutoSeq1.list_extend_list_list_0 l its.toArray n b θ.toArray γ Y (by rw[y7];omega) @A) ⟨e,ε,?_⟩
 refine⟨.non,_,I.lset (its':=its++θ) G e @C (r.append β) ?_,rfl,q⟩;rw[fy];omega
noncomputable def rCat:R2:=λx y H Q=>∃l b xs zs,x= .ref l/\y= .ref b/\H l=aY @aF/\H b=aY (!A zs)/\xs.length + zs.length<=ic/\∀p,H p=gg->Q @P (!aB H p (xs++zs))
theorem jw:!aZ X .Add rCat:=by
 intro pins s σ H x y v u Q I G L h;obtain⟨l,b,xs,zs,rfl,rfl,α,Y,hz,q⟩:=h;cases G;cases L;obtain⟨z,its,n,r,hl,e⟩:=I.lstM α;obtain⟨γ,θ,δ,Z,hl2,β⟩:=I.lstM Y;refine PySem.P.add_list e β ?_ (by rw[y7,y7];omega);have ea:its.toArray++θ.toArray=(its++θ).toArray:=by simp
 rw[ea];exact⟨!j _,_,I.lnew (t':=s.toks) (r.append Z) (by rw[fy];omega),rfl,q _ I.fresh⟩
noncomputable def rRep:R2:=λx y H Q=>∃l k xs,x= .ref l/\y= .int k/\H l=aY @aF/\-(2 ^ 63)<=k/\k < 2 ^ 63/\xs.length * k.toNat<=ic/\
 ∀p,H p=gg->Q @P (!V p (.lst (lA k.toNat xs).flatten))
theorem R5 {α:Type} (xs:eP α) (k:Nat):(lA k xs).flatten.length=k * xs.length:=by
 induction k with
 | zero=>simp
 | succ k ih=>rw[Y8,ZD,fy,ih,ac2,af9]
theorem P4:!aZ X .Mult rRep:=by
 intro pins s σ H x y v u Q I β L h;obtain⟨l,k,xs,rfl,rfl,γ,h1,h2,hz,q⟩:=h;cases β;obtain⟨t,rfl⟩:=L;obtain⟨z,its,n,r,hl,e⟩:=I.lstM γ;have Z:its.toArray.size * k.toNat<=sizeLine:=by rw[y7,<-hl];exact hz
 have υ:¬its.toArray.size * k.toNat > (2 ^ 63 - 1) / 8:=by
  have:(ic:Nat)<=(2 ^ 63 - 1) / 8:=by decide
  omega
 have α:¬(!Builtin.List.listFitsIndex k)=true:=by
  rw[fitsIndex_both h1 h2];exact hH
 have Y:¬Yz (its.toArray.size * k.toNat)=true:=by
  rw[Gy Z];exact hH
 have G:ao5 (λx1 x2=>x1++x2) #[] (lA (if its.toArray.isEmpty=true then 0 else k.toNat) its.toArray)=(lA k.toNat its).flatten.toArray:=by
  have ε:∀m:Nat,ao5 (λx1 x2=>x1++x2) #[] (lA m its.toArray)=(lA m its).flatten.toArray:=λm=>by
   have:=C6 its m [];rw[as2] at this;exact this
  rw[ε];cases its with
  | nil=>simp
  | cons a r'=>rw[kf @C]
 refine wpAny_binaryOp_repeat_ref (T:="list") (U:="int") @D ⟨_,e,rfl⟩ (λs'=>at7 s' k t) noFill_list_mul F.fills_int_mul F.slot_int_rmul repeat_list F.slot_int_index.lookup
  (Zn F.slot_int_rmul (at7 s k t) F.entry_int_rmul (F.args_int_rmul_2 _ _) (int___rmul___int_list k t l its.toArray n)
   ⟨e,rfl,⟨_,e,rfl⟩,Zn F.slot_list_mul ⟨_,e,rfl⟩ F.entry_list_mul (F.args_list_mul_2 _ _) (AutoListH.list___mul___list_int_3 l its.toArray n k t α υ Y) ⟨e,?_⟩⟩)
 rw[G];exact⟨!j _,_,I.lnew (t':=s.toks) (r.rep k.toNat) (by rw[R5,ai9];exact hz),rfl,q _ I.fresh⟩
end
end L2
namespace Att
open PySem PySem.W PySem.Calls PyProof.Rows
theorem xW {P:Params} {h:WN}:∀(ns:P') (vs:E'),WellAll P h vs (ns.map WData.int)->IntsAre vs ns:=by
 intro ns
 induction ns with
 | nil=>
   intro vs w;rw[af6] at w;cases w;exact .nil
 | cons n ns ih=>
   intro vs w;rw[W'] at w;cases w with
   | cons a b=>
     cases a;exact .cons _ _ (ih _ b)
theorem Kg {l:ap4} {n:Nat} (hn:l.most=aY n) {P:Params} {h:WN} {args:eP WData} {G:E'}
  (L:l.row.toRowW.claim.pre args=true) (β:WellAll P h G args):
  ∃a vs ns,G=[vu a]/\args=[WData.list (ns.map WData.int)]/\h.get? a=aY {cls:= .type "list",data:= .seq vs.toArray}/\IntsAre vs ns/\ns.length<=n:=by
 have γ:WShape.hasAll [] args [.list .int]=true:=(pre_splitW L).1;have δ:l.pre.holds [] {args:=args}=true:=(pre_splitW L).2;obtain⟨d,r,rfl,h1,h2⟩:=hasAllW_cons γ;obtain rfl:=hasAllW_nil h2;obtain⟨xs,rfl,η⟩:=hasW_list h1;obtain⟨ns,rfl⟩:=items_int η
 have Y:ns.length<=n:=by
  unfold OpenLaw.pre at δ
  have ι:(WTm.not (.lt (.lit (.int (n:Int))) (.len (.arg 0)))).holds [] {args:=[.list (ns.map .int)]}=true:=by
   have ι:=(holds_andW δ).1;rw[hn] at ι;exact ι
  have α:=condW_of ι (w_not (w_lt w_lit (w_len_list (w_arg rfl))));rw[a'] at α;refine ag4 λq=>?_;have ε:(n:Int) < ((ns.length:Nat):Int):=by omega
  first
   | (rw[gB ε] at α;exact hE α @D)
   | (simp at α;omega)
 cases β with
 | cons ζ ψ=>
   cases ψ;cases ζ with
   | list ho Z=>exact⟨_,_,ns,rfl,rfl,ho,xW ns _ Z,Y⟩
theorem KL (l:ap4) (args:eP WData):l.row.toRowW.claim.post args @bZ args=true:=
 postW_of (r:=l.row.toRowW) (X:=(true == true))
  (show au3 [] @bZ .bool=true by first | rfl | decide | simp[au3,WShape.arms,WShape.armsAll])
  (show(WTm.eq .res (.lit @bZ)).value [] {args:=args,res:=aY @bZ,after:=args}=aY (.bool (true == true)) from w_eq_bool (w_res rfl) w_lit) rfl
theorem attach_call {l:ap4} {n:Nat} {q:ry} {β:B'} {χ:F'->WN->Prop} {φ:z5->WN->Prop} {d:DefRec}
  (hn:l.most=aY n) (π:d.params.defaults=[])
  (call:∀(w:z5) (s₀ L:ik) (mg ν:F') (ω:ee) (o:Obj) (η ζ α:i') (a:ee) (vs:E') (ns:P'),
   Ground q β [] χ w s₀ mg ν L.heap->φ w L.heap->
   L.heap.get? ω=aY o->o.data= .func (docDef d.name d.params d.body d.scope η ζ α)->L.heap.CodeRec ζ d.name->mg d.name=aY (!j ω)->
   L.heap.get? a=aY {cls:= .type "list",data:= .seq vs.toArray}->IntsAre vs ns->ns.length<=n->L.gens=#[]->
   codeAny (rb l.prog w) callerA (.call (!j ω) ⟨[.ref a],[]⟩) (λr s'=>r= .ok (.ret @bZ)/\OldK L.heap s'.heap/\s'.os=L.os/\AllBare s'.gens) L):
  WalkO q β χ φ l.row.toRowW d [] (λf vs=>an9 f vs):=by
 intro w s₀ L mg ν G Y ω o η ζ α dV kV ho hd θ υ ο hg args ρ as γ τ ψ ξ a0;obtain rfl:dV= .none:=Dflts.none υ π;obtain rfl:kV= .none:=Dflts.noKw υ;obtain⟨a,vs,ns,rfl,rfl,δ,Z,ε⟩:=Kg hn γ ξ;refine enter_call (ab8 (call w s₀ L mg ν ω o η ζ α a vs ns G Y ho (fd_plain hd) θ ο δ Z ε hg) λr s' hq=>?_);obtain⟨rfl,h2,h3,ι⟩:=hq;exact⟨!E ⟨.bool true,.bool true,[],rfl,λ_=>rfl,.bool true,KL l _,λ_=>⟨ah6,λ_ hm=>(nomatch hm)⟩⟩,h2,h3,ι⟩
end Att
namespace L2
open PySem PySem.Spec PyProof.Rows
theorem wz:∀{vs:E'} {ns:P'},IntsAre vs ns->Vals @as vs
 | _,_,.nil=> .nil
 | _,_,.cons n t h=> .cons ⟨t,rfl⟩ (wz h)
def Only (H:Hp):Prop:=∀b,H b=gg∨∃o xs,H b=aY (.frz o @aF)
theorem OK {P:ry} {w:z5} {K:b'} {mg ι:F'} {CX:CXT} {k:Nat} {π a:ee} {fd:hF} {x:kv} {sp:Sp} {G:ik} {vs:E'} {ns:P'}
  (KX:K.In G.heap) (γ:G.heap.Ns W8 mg) (hb:G.heap.Ns builtinsNs ι) (ξ:∀x:kv,x≠"__name__"->ι x=bootBuiltins x) (ω:G.heap.NoLimit) (hg:G.gens=#[])
  (ha:G.heap.get? a=aY {cls:= .type "list",data:= .seq vs.toArray}) (hi:IntsAre vs ns) (hl:ns.length<=ic) (hr:Room k callerA)
  (F:∀base:WN,K.In base->base.Ns W8 mg->FnOk P w K mg base CX k π fd [x] sp) (α:∀(s:ik) (u:i'),BindsTo s fd ⟨[u],[]⟩ [(x,u)])
  (ν:∀H:Hp,Only H->SqL K H a @as->sp [.ref a] H (λv _=>v= .bl true) λ_ _ _=>False)
  (ο:∀H e s',CX [] H G (λ_ _ _=>False) e s'->False):
  codeAny (rb P w) callerA (.call (!j π) ⟨[.ref a],[]⟩) (!cj (.ret @bZ)) G:=by
 have τ:=wz hi;have χ:=hi.length
 have Z:∀H:Hp,Only H->SqL K H a @as->HOk P w H G.heap->(∀b,H b≠gg->b=a)->(H a≠gg->K.lookup a=gg)->
   codeAny (rb P w) callerA (.call (!j π) ⟨[.ref a],[]⟩) (!cj (.ret @bZ)) G:=by
  intro H hO hS hok hA υ;have L:∀{b:ee} {o:Obj},G.heap.get? b=aY o->H b=gg->(hidT G.heap H).get? b=aY o:=λe n=>OT e n
  have ζ:∀{b:ee} {o:Obj} {es:ar5 DictEntry} {ep:Nat},G.heap.get? b=aY o->o.data= .dict es ep->H b=none:=λ{b o es ep} e d=>by
   cases q:H b with
   | none=>rfl
   | some u=>
     have ρ:b=a:=hA b (by rw[q];simp);subst ρ;rw[ha] at e;cases e;have d':Data.seq vs.toArray _=Data.dict es ep:=d;cases d'
  have Y:∀{b:ee} {m:F'},G.heap.Ns b m->(hidT G.heap H).Ns b m:=λ{b m} ⟨o,es,ep,e,d,r⟩=>⟨o,es,ep,L e (ζ e d),d,r⟩
  have δ:K.In (hidT G.heap H):=λb o e=>L (KX b o e) (by
   cases q:H b with
   | none=>rfl
   | some u=>
     have ρ:b=a:=hA b (by rw[q];simp);subst ρ;rw[υ (by rw[q];simp)] at e;cases e)
  have θ:Mod K mg (hidT G.heap H):=⟨δ,Y γ,⟨ι,Y hb,ξ⟩,let ⟨η,h1,h2⟩:=ω;⟨η,Y h1,h2⟩⟩;have φ:Env0 P w K mg (hidT G.heap H) callerA [] G H:=⟨rfl,θ,λb o e=>RP e,aj1 (LR _ _),trivial,λb hb=>hE (show b∈([]:M') from hb) @C,hok,.of_eq hg⟩;refine ab8 ((F _ δ (Y γ)).run callerA [] G H ⟨[.ref a],[]⟩ [.ref a] [.ref a] _ _ hr φ (α G @af) (!bc rfl) (ν H hO hS)) λr s' h=>?_;cases r with
  | error e=>exact(ο H e s' h).elim
  | ok fl=>
    cases fl with
    | next=>exact X4 h
    | brk=>exact X4 h
    | cont=>exact X4 h
    | ret u=>
      obtain⟨v,H',os,bare,un,ψ,r',q⟩:=h;have ε:v= .bl true:=q;subst ε;obtain rfl:u=an7 true:=r';refine⟨rfl,OldK.of_keep λb o e=>?_,os,bare⟩;cases q:H b with
      | none=>exact un.keep b o e q (by intro z;exact hE (show b∈([]:M') from z) @C) @C
      | some u=>
        rcases hO b with z | ⟨ob,xs,z⟩
        ·rw[q] at z;cases z
        ·have z2:=un.frzs b ob _ z;obtain⟨e1,_⟩:=hok b _ z;obtain⟨e2,_⟩:=ψ b _ z2;rw[e] at e1;cases e1;exact e2
 cases hk:K.lookup a with
 | some o=>
   have e:=KX a o hk;rw[ha] at e;cases e;refine Z (λ_=>gg) (λ_=> .inl rfl) (!I ⟨_,vs.toArray,_,hk,rfl,rfl,rfl,by rw[y7,χ];exact hl,by simpa using τ⟩) (λb u z=>by have β:(gg:vr HO)=aY u:=z;cases β) (λb z=>hE rfl z) λz=>hE rfl z
 | none=>
   refine Z (λb=>if b=a then aY (.frz {cls:= .type "list",data:= .seq vs.toArray} (!A @as)) else gg) (λb=>?_) (!E (!I ⟨{cls:= .type "list",data:= .seq vs.toArray},lx rfl⟩)) (λb u z=>?_) (λb z=>?_) λ_=>hk
   ·by_cases hb:b=a
    ·exact !I ⟨_,_,lx hb⟩
    ·exact !E (kf hb)
   ·by_cases hb:b=a
    ·have β:=(lx hb).symm.trans z;cases β;subst hb;exact⟨ha,by rw[a'];exact hl,vs,_,τ,ha⟩
    ·have β:=(kf hb).symm.trans z;cases β
   ·by_cases hb:b=a
    ·exact hb
    ·exact hE (kf hb) z
theorem walk_of {l:PySem.W.OpenLaw} {n k:Nat} {q:ry} {β:B'} {χ:F'->WN->Prop} {φ:z5->WN->Prop} {d:DefRec} {K:Params->b'} {CX:z5->CXT} {sp:z5->Sp} {x:kv}
  (hn:l.most=aY n) (ε:n<=ic) (η:d.params.defaults=[]) (ξ:Room k callerA)
  (π:∀(w:z5) (h:WN),φ w h->(@bj).In h)
  (F:∀(w:z5) (mg:F') (ω:ee) (h:WN),(@bj).In h->h.Ns W8 mg->mg d.name=aY (!j ω)->
   ∃fd:hF,(∀(s:ik) (u:i'),BindsTo s fd ⟨[u],[]⟩ [(x,u)])/\
     ∀base:WN,(@bj).In base->base.Ns W8 mg->FnOk l.prog w @bj mg base (CX w) k ω fd [x] (sp w))
  (δ:∀(w:z5) (H:Hp) (a:ee) (ns:P'),ns.length<=n->Only H->SqL @bj H a @as->sp w [.ref a] H (λv _=>v= .bl true) λ_ _ _=>False)
  (ι:∀(w:z5) (H:Hp) (s:ik) (e:i') (s':ik),CX w [] H s (λ_ _ _=>False) e s'->False):
  PySem.W.WalkO q β χ φ l.row.toRowW d [] (λf vs=>an9 f vs):=by
 refine Att.attach_call hn η λw s₀ α mg mb ω o ψ cd υ a vs ns G Y ho hd θ ζ γ Z L ο=>?_;have ν:=π w _ Y;obtain⟨fd,hb,τ⟩:=F w mg ω _ ν G.T.g ζ;exact OK ν G.T.g G.T.b G.T.builtins G.T.nolimit ο γ Z (XX L ε) ξ τ hb (λH hO ρ=>δ w H a ns L hO ρ) λH e s'=>ι w H α e s'
noncomputable def bJ (s:YY) (j:Nat):Stmt:=match s with
 | .ClassDef _ _ _ G _ _ _ _ _ _ _=>G.getD j (.Pass ⟨0,0,0,0⟩)
 | _=> .Pass ⟨0,0,0,0⟩
noncomputable def jh (s:YY):Arguments:=match s with
 | .FunctionDef _ a _ _ _ _ _ _ _ _=>a
 | _=>{posonlyargs:=[],args:=[],vararg:=gg,kwonlyargs:=[],kw_defaults:=[],kwarg:=gg,defaults:=[]}
noncomputable def gf (s:YY):eP Stmt:=match s with
 | .FunctionDef _ _ b _ _ _ _ _ _ _=>b
 | _=>[]
noncomputable def ag (s:YY):Scope:=match s with
 | .FunctionDef _ _ _ _ _ _ G _ _ _=>G
 | _=>{kind:= .function,names:=[],isGenerator:=false,isCoroutine:=false}
noncomputable abbrev CX0:CXT:=λ_ _ _ _ _ _=>False
noncomputable abbrev E0:XK:=λ_ _ _=>False
theorem bC {X:Cx}:tL CX0 X E0:=λ_ _ _ _ _ _ _ h=>h.elim
structure Fun (K:b') (x qual:kv) (st:YY) (f:ee) (fd:hF):Prop where
 ex:∃(oc:i') (od:Q') (kV doc pm:i') (an:Q') (cdv ct:i') (osl:K'),
  fd=Xz x qual (jh st) (gf st) @aJ .none kV doc pm an cdv ct/\K.lookup f=aY ⟨oc,od,.func fd,osl⟩/\Yx K cdv qual=true
 kp:XA K @a7=true
section
variable {P:ry} {w:z5} {K:b'} {mg:F'} {base:WN}
theorem Fun.ok {x G:kv} {st:YY} {f:ee} {fd:hF} {N ps:B'} {k:Nat} {sp:Sp} (F:Fun K x G st f fd) (S:!C N ps st) (len:∀vs H Q E,sp vs H Q E->vs.length=ps.length)
  (Y:∀(L:i') (A:W6) (outer:@aL) (s:ik) (H:Hp) (vs:eP V) (Q:VK) (E:XK),Room k (A.deeper (!bq G @aJ f L))->sp vs H Q E->
   ∃t,PSs (cxOf CX0 P w K mg base N G @aJ f L A outer s H E).nox (gf st) t/\t {nx:=λ_ H'=>Q .non H',rt:=Q} (start N vs) H):!G @aR f fd ps sp:=by
 obtain⟨ε,od,kV,δ,Z,an,L,ct,β,rfl,lk,θ⟩:=F.ex;refine So lk θ S len λA outer s H vs Q E γ α=>?_;obtain⟨t,h,q⟩:=Y L A outer s H vs Q E γ α;exact⟨t,h.nox,q⟩
theorem Fun.okA {x G:kv} {st:YY} {f:ee} {fd:hF} {N ps:B'} {k:Nat} {sp:Sp} (F:Fun K x G st f fd) (S:!C N ps st)
  (L:∀(Y:i') (A:W6) (outer:@aL) (s:ik) (H:Hp) (vs:eP V) (Q:VK) (E:XK),Room k (A.deeper (!bq G @aJ f Y))->sp vs H Q E->
   ∃t,PSs (cxOf CX0 P w K mg base N G @aJ f Y A outer s H E).nox (gf st) t/\t {nx:=λ_ H'=>Q .non H',rt:=Q} (start N vs) H) (len:∀vs H Q E,sp vs H Q E->vs.length=ps.length:=by walk_at "n"):!G @aR f fd ps sp:=F.ok S len L
theorem Fun.binds {x G:kv} {st:YY} {f:ee} {fd:hF} {ps:B'} (F:Fun K x G st f fd)
  (h:∀(kV L Z:i') (an:Q') (Y ct:i') (us:E'),us.length=ps.length->bindArgs (Xz x G (jh st) (gf st) @aJ .none kV L Z an Y ct) ⟨us,[]⟩=pure (ps.zip us)):rT K fd ps []:=by
 obtain⟨β,od,kV,L,Z,an,Y,ct,α,rfl,lk,θ⟩:=F.ex;exact .all (h kV L Z an Y ct)
theorem Qg {x G:kv} {st:YY} {f:ee} {β:i'} {od an:Q'} {α:K'} {kV Y Z L ct:i'} (l:K.lookup f=aY ⟨β,od,.func (Xz x G (jh st) (gf st) (ag st) .none kV Y Z an L ct),α⟩)
  (c:Yx K L G=true) (k:XA K @a7=true):Fun K x G st f (Xz x G (jh st) (gf st) @aJ .none kV Y Z an L ct):=⟨⟨β,od,kV,Y,Z,an,L,ct,α,rfl,l,c⟩,k⟩
end
theorem rL {A:W6} {k:Nat} (G:Room k A):A.units + 1 < cLine:=Xe (Nat.add_le_add_left (by decide:1<=64) _) G.units
theorem aK {n:Nat} (h:n<=1000):n < sizeLine:=Xe h @D
section
variable {X:Cx}
theorem pv (i:Nat) {x:kv} {pos:Pos} (ψ:X.N[i]? =aY x:=by rfl) (G:Vis X.env.scope x:=by first | exact Zp rfl | exact Z6 (Zp rfl) | exact Z6 (Z6 rfl)) (hd:(x == ("__debug__":kv))=false:=by decide)
  (θ:(x == ("__classdict__":kv))=false:=by decide):!F (!aU pos) (tVar i):=UB ψ G hd θ
end
theorem ite2 {c A B:Prop} [Decidable c] (h1:c->A) (h2:¬c->B):if c then A else B:=by
 by_cases h:c
 ·rw[lx h];exact h1 h
 ·rw[kf h];exact h2 h
def Same (H H':Hp):Prop:=∀b o,H b=aY o->H' b=aY o
theorem Same.refl (H:Hp):Same H H:=λ_ _ h=>h
theorem Same.trans {H H1 H2:Hp} (a:!bg H1) (b:Same H1 H2):Same H H2:=λc o h=>b c o (a c o h)
theorem Same.free {H H':Hp} (e:!bg H') {l:ee} (h:H' l=Option.none):H l=Option.none:=by
 cases q:H l with
 | none=>rfl
 | some o=>
   rw[e l o q] at h;cases h
theorem Same.seq {K:b'} {H H':Hp} {a:ee} {xs:eP V} (e:!bg H') (h:SqL K H a xs):SqL K H' a xs:=by
 rcases h with (h | ⟨o,h⟩) | h
 ·exact !E (!E (e _ _ h))
 ·exact !E (!I ⟨o,e _ _ h⟩)
 ·exact !I h
section
variable {κ:Type} [DecidableEq κ]
noncomputable def valV (kvs:@b7) (k:κ):vr V:=(kvs.find? λG=>decide (G.1=k)).map (·.2)
noncomputable def putK (kvs:@b7) (k:κ) (v:V):eP (κ×V):=
 if @c4=true then kvs.map (λG=>if G.1=k then (G.1,v) else G) else kvs++[(k,v)]
theorem nh {p:κ×V} {r:@b7} {k:κ} (e:p.1=k):valV (p::r) k=aY p.2:=by simp[valV,Zf,e]
theorem nj {p:κ×V} {r:@b7} {k:κ} (e:¬p.1=k):valV (p::r) k=valV r k:=by simp[valV,Zf,e]
theorem rV (k:κ):∀kvs:eP (κ×V),@c4=(valV kvs k).isSome
 | []=>rfl
 | p::r=>by
   rw[ac4];by_cases e:p.1=k
   ·simp only[nh e,gB e,Bool.true_or,Option.isSome_some]
   ·rw[nj e,f' e,Bool.false_or];exact rV k r
theorem xJ (kvs:@b7) (k:κ) (v:V):(putK kvs k v).length<=kvs.length + 1:=by
 unfold putK;split
 ·rw[a'];omega
 ·rw[fy,W3,ae4];omega
theorem RelO.isSome_eq {o:vr V} {u:V'} (r:RelO o u):o.isSome=u.isSome:=by
 cases o with
 | none=>cases u with
   | none=>rfl
   | some _=>exact(show False from r).elim
 | some _=>cases u with
   | none=>exact(show False from r).elim
   | some _=>rfl
theorem KV.val {kvs:@b7} {vs:@cc} (r:KV kvs vs) (k:κ):RelO (valV kvs k) (valueAt vs k):=by
 unfold KV at r
 induction r with
 | nil=>exact aa3
 | @cons p q ps qs h t ih=>
   obtain⟨h1,h2⟩:=h;by_cases e:p.1=k
   ·have G:q.1=k:=h1.symm.trans e;have b:valueAt (q::qs) k=aY q.2:=by simp[valueAt,Zf,G]
    rw[nh e,b];exact h2
   ·have G:¬q.1=k:=λz=>e (h1.trans z);have b:valueAt (q::qs) k=valueAt qs k:=by simp[valueAt,Zf,G]
    rw[nj e,b];exact ih
theorem KV.any {kvs:@b7} {vs:@cc} (r:KV kvs vs) (k:κ):@c4=vs.any λG=>decide (G.1=k):=by
 unfold KV at r
 induction r with
 | nil=>rfl
 | cons h t ih=>rw[ac4,ac4,ih,h.1]
theorem KV.repl {kvs:@b7} {vs:@cc} (r:KV kvs vs) (k:κ) {y:V} {u:i'} (L:!aH y):
  KV (kvs.map λG=>if G.1=k then (G.1,y) else G) (vs.map λG=>if G.1=k then (G.1,u) else G):=by
 unfold KV at r ⊢
 induction r with
 | nil=>exact .nil
 | @cons p q ps qs h t ih=>
   rw[W',W'];refine .cons ?_ ih;obtain⟨h1,h2⟩:=h;by_cases e:p.1=k
   ·rw[lx e,lx (h1.symm.trans e)];exact⟨h1,L⟩
   ·rw[kf e,kf (λz=>e (h1.trans z))];exact⟨h1,h2⟩
theorem KV.put {kvs:@b7} {vs:@cc} (r:KV kvs vs) (k:κ) {y:V} {u:i'} (L:!aH y):KV (putK kvs k y) (stored vs k u):=by
 unfold putK stored;rw[r.any k];by_cases e:(vs.any λG=>decide (G.1=k))=true
 ·rw[lx e,lx e];exact r.repl k L
 ·rw[kf e,kf e];exact at9 r ⟨rfl,L⟩
theorem KV.keys {kvs:@b7} {vs:@cc} (r:KV kvs vs):kvs.map (·.1)=vs.map (·.1):=by
 unfold KV at r
 induction r with
 | nil=>rfl
 | cons h t ih=>rw[W',W',ih,h.1]
theorem KV.length {kvs:@b7} {vs:@cc} (r:KV kvs vs):kvs.length=vs.length:=ah4 r
end
theorem IA {P:ry} {w:z5} {k:Key} {u:i'} (r:!aH (kV k)):(dN P w).is k u=true:=by
 cases k with
 | inl i=>obtain⟨t,e⟩:=(show ∃t,u=aj2 i t from r);subst e;exact Fb P w i t
 | inr x=>obtain⟨t,e⟩:=(show ∃t,u=ae8 x t from r);subst e;exact E9 P w x t
theorem CU {P:ry} {w:z5}:∀{ks:eP Key} {us:E'},Vals (ks.map kV) us->ItemsAre (dN P w) ks us
 | [],_,r=>by rw[af6] at r;cases r;exact .nil
 | k::ks,_,r=>by
   rw[W'] at r;cases r with
   | cons h t=>exact .cons (IA h) (CU t)
noncomputable abbrev KT (H:Hp):eP (eP Key×V)->eP @bX->Prop:=Paired λp q=>p.1=q.1/\H q.2.1=aY (!H (p.1.map kV))/\RelV p.2 q.2.2
theorem KT.val {H:Hp} {kvs:@bB} {xs:eP @bX} (r:KT H kvs xs) (k:eP Key):RelO (valV kvs k) ((atKey xs k).map (·.2)):=by
 induction r with
 | nil=>exact aa3
 | @cons p q ps qs h t ih=>
   obtain⟨h1,_,h2⟩:=h;by_cases e:p.1=k
   ·have G:q.1=k:=h1.symm.trans e;have b:atKey (q::qs) k=aY q.2:=by simp[atKey,Zf,G]
    rw[nh e,b];exact h2
   ·have G:¬q.1=k:=λz=>e (h1.trans z);have b:atKey (q::qs) k=atKey qs k:=by simp[atKey,Zf,G]
    rw[nj e,b];exact ih
theorem KT.repl {H:Hp} {kvs:@bB} {xs:eP @bX} (r:KT H kvs xs) (k:eP Key) {y:V} {u:i'} (L:!aH y):
  KT H (kvs.map λG=>if G.1=k then (G.1,y) else G) (xs.map (putAt k u)):=by
 induction r with
 | nil=>exact .nil
 | @cons p q ps qs h t ih=>
   rw[W',W'];refine .cons ?_ ih;obtain⟨h1,h2,Y⟩:=h;unfold putAt;by_cases e:p.1=k
   ·rw[lx e,lx (h1.symm.trans e)];exact⟨h1,h2,L⟩
   ·rw[kf e,kf (λz=>e (h1.trans z))];exact⟨h1,h2,Y⟩
theorem KT.put {H:Hp} {kvs:@bB} {xs:eP @bX} (r:KT H kvs xs) (k:eP Key) {b:ee} {y:V} {u:i'} (hb:H b=aY (!H (k.map kV))) (L:!aH y):
  KT H (putK kvs k y) (storedH xs k b u):=by
 have e:@c4=(atKey xs k).isSome:=by
  rw[rV,(r.val k).isSome_eq,ae5]
 unfold putK storedH;rw[e];by_cases q:(atKey xs k).isSome=true
 ·rw[lx q,lx q];exact r.repl k L
 ·rw[kf q,kf q];exact at9 r ⟨rfl,hb,L⟩
theorem KT.keeps {H H':Hp} {kvs:@bB} {xs:eP @bX} (r:KT H kvs xs) (ht:∀b ys,H b=aY (!H ys)->H' b=aY (!H ys)):KT H' kvs xs:=
 Paired.mapP r λ_ _ z=>⟨z.1,ht _ _ z.2.1,z.2.2⟩
section
variable {P:ry} {w:z5} {H:Hp} {h:WN} {a:ee}
theorem Ud {u:HO} (ok:HOk P w H h) (e:Rd H a u):iu P w H h a u:=e.ok ok
theorem Mn {kvs:@ap} (ok:HOk P w H h) (e:Rd H a @aA):kvs.length<=ic/\@bU=false/\∃vs,KV kvs vs/\h.DictOf (dN P w) a vs:=
 show iu P w H h a @aA from Ud ok e
theorem Sq {kvs:@ap} (ok:HOk P w H h) (e:H a=aY @aA):kvs.length<=ic/\@bU=false/\∃vs,KV kvs vs/\h.DictOf (dN P w) a vs:=Mn ok (!E e)
theorem CP {ks:eP Key} (ok:HOk P w H h) (e:H a=aY (!H (ks.map kV))):(tupleKind (dN P w)).is h ks a:=by
 obtain⟨_,its,r,o,h1,h2,n,G⟩:=(show iu P w H h a (!H (ks.map kV)) from ok a _ e);exact⟨o,its.toArray,n,h1,h2,G,by simpa using CU r⟩
theorem Mm {kvs:@bB} (ok:HOk P w H h) (e:Rd H a (.dT kvs)):kvs.length<=ic/\@bU=false/\
  ∃xs,KT H kvs xs/\h.DictOfH (tupleKind (dN P w)) a xs:=by
 obtain⟨z,y,xs,r,o,es,ep,h1,h2,Y,ι,L⟩:=(show iu P w H h a (.dT kvs) from Ud ok e);refine⟨z,y,xs,r,o,es,ep,h1,h2,Y,ι,λx hx=>?_,L⟩
 have all:∀{l:@bB} {m:eP @bX},KT H l m->∀x∈m,(tupleKind (dN P w)).is h x.1 x.2.1:=by
  intro l m q
  induction q with
  | nil=>intro x hx;exact nomatch hx
  | @cons p q ps qs G t ih=>
    intro x hx;rcases x8.mp hx with e | hx
    ·subst e;exact CP ok (by rw[<-G.1];exact G.2.1)
    ·exact ih x hx
 exact all r x hx
theorem Wy {kvs:@bB} (ok:HOk P w H h) (e:H a=aY (.dT kvs)):kvs.length<=ic/\@bU=false/\
  ∃xs,KT H kvs xs/\h.DictOfH (tupleKind (dN P w)) a xs:=Mm ok (!E e)
end
def DGet (H:Hp) (a:ee) (y:V) (r:vr V):Prop:=
 (∃kvs k,Rd H a @aA/\y=kV k/\r=valV kvs k)∨∃kvs k b,Rd H a (.dT kvs)/\y= .ref b/\H b=aY (!H (k.map kV))/\r=valV kvs k
def DPut (H:Hp) (a:ee) (y v:V) (H':Hp):Prop:=
 (∃kvs k,H a=aY @aA/\y=kV k/\kvs.length < ic/\H'=upd H a (.dK (putK kvs k v)))∨
 ∃kvs k b,H a=aY (.dT kvs)/\y= .ref b/\H b=aY (!H (k.map kV))/\kvs.length < ic/\H'=upd H a (.dT (putK kvs k v))
theorem DGet.k {H:Hp} {a:ee} {kvs:@ap} {k:Key} (e:H a=aY @aA):DGet H a (kV k) (valV kvs k):= .inl ⟨kvs,k,!E e,rfl,rfl⟩
theorem DPut.k {H:Hp} {a:ee} {kvs:@ap} {k:Key} {v:V} (e:H a=aY @aA) (hl:kvs.length < ic):DPut H a (kV k) v (!V a (.dK (putK kvs k v))):= .inl ⟨kvs,k,e,rfl,hl,rfl⟩
section
variable {X:Cx} {pins:D'} {σ:St} {H:Hp} {s:ik} {a:ee} {y v:V} {u r:i'} {o:vr V} {A:W6} {E:Cr}
theorem Inv.big (I:@M):sysModules < s.heap.objs.size:=by
 have h:W8 < s.heap.objs.size:=(I.mod.glob.keeps I.bk).lt;exact af8 @D h
theorem MA {Q:Cr} (hu:@cE) (I:@M) (g:DGet H a y @aI) (L:!aH y) (h:∀θ s',Inv X pins σ H s'->RelV v θ->Q θ s'):
  lT @S A (getItem @af u) Q E s:=by
 rcases g with ⟨kvs,k,e,ey,l⟩ | ⟨kvs,k,b,e,ey,α,l⟩
 ·subst ey;obtain⟨z,hd,vs,rel,dd⟩:=Mn I.hok e;obtain⟨θ,hw,Z⟩:=RelO.some_of (v:=v) (o:=valueAt vs k) (by rw[l];exact rel.val k);exact wpAny_getItem_of (IA L) dd.mapOf hw (h θ _ @bk Z)
 ·subst ey;cases(show u=vu b from L);obtain⟨z,hd,xs,rel,dd⟩:=Mm I.hok e;obtain⟨θ,hw,Z⟩:=RelO.some_of (v:=v) (o:=(atKey xs k).map (·.2)) (by rw[l];exact rel.val k);obtain⟨p,Y,G⟩:=Yf.mp hw;refine wpAny_getItem_heap (ZY hu) (CP I.hok α) dd Y ?_;rw[G];exact h θ _ @bk Z
theorem d_in {Q:Cr} (hu:@cE) (I:@M) (g:DGet H a y o) (L:!aH y) (h:∀s',Inv X pins σ H s'->Q (.bool o.isSome) s'):
  lT @S A (compareOp .In u @af) Q E s:=by
 rcases g with ⟨kvs,k,e,ey,l⟩ | ⟨kvs,k,b,e,ey,G,l⟩
 ·subst ey;obtain⟨z,hd,vs,rel,dd⟩:=Mn I.hok e;refine wpAny_in_of (IA L) hd dd.mapOf ?_;rw[<-(rel.val k).isSome_eq,<-l];exact h _ @bk
 ·subst ey;cases(show u=vu b from L);obtain⟨z,hd,xs,rel,dd⟩:=Mm I.hok e;refine wpAny_in_heap (ZY hu) (CP I.hok G) hd dd ?_;have q:=(rel.val k).isSome_eq;rw[ae5] at q;rw[<-q,<-l];exact h _ @bk
theorem Sv {Q:Cr} (hu:@cE) (I:@M) (g:DGet H a y o) (L:!aH y) (h:∀s',Inv X pins σ H s'->Q (.bool (!o.isSome)) s'):
  lT @S A (compareOp .NotIn u @af) Q E s:=by
 rcases g with ⟨kvs,k,e,ey,l⟩ | ⟨kvs,k,b,e,ey,G,l⟩
 ·subst ey;obtain⟨z,hd,vs,rel,dd⟩:=Mn I.hok e;refine wpAny_notIn_of (IA L) hd dd.mapOf ?_;rw[<-(rel.val k).isSome_eq,<-l];exact h _ @bk
 ·subst ey;cases(show u=vu b from L);obtain⟨z,hd,xs,rel,dd⟩:=Mm I.hok e;refine wpAny_notIn_heap (ZY hu) (CP I.hok G) hd dd ?_;have q:=(rel.val k).isSome_eq;rw[ae5] at q;rw[<-q,<-l];exact h _ @bk
theorem Ms {h':WN} {t':Nat} {ob:HO} (I:@M) (G:Mut (H a)) (hs:Zq a s.heap h') (he:∃q,h'.get? a=aY q) (δ:iu X.prog X.w (!V a ob) h' a ob):
  Inv X pins σ (!V a ob) {s with heap:=h',toks:=t'}:=
 I.write (x:=a) (e:=a) G @am (λb q hb z=>(hs.2 b hb).trans z) he δ
theorem Vs {P:ry} {w:z5} {H':Hp} {h':WN} {kvs:@ap} {vs:eP (Key×i')} (z:kvs.length<=ic) (hd:@bU=false) (rel:KV kvs vs) (dd:h'.DictOf (dN P w) a vs):
  iu P w H' h' a @aA:=⟨z,hd,vs,rel,dd⟩
theorem Mu {H':Hp} {Q:L'} (hu:@cE) (I:@M) (g:DPut H a y v H') (L:!aH y) (β:RelV v r) (h:∀s',Inv X pins σ H' s'->Q () s'):
  lT @S A (setItem @af u r) Q E s:=by
 rcases g with ⟨kvs,k,e,ey,l,Z⟩ | ⟨kvs,k,b,e,ey,γ,l,Z⟩
 ·subst ey Z;obtain⟨z,hd,vs,rel,dd⟩:=Sq I.hok e;have hz:vs.length<=sizeLine:=by rw[<-rel.length];exact z
  have hl:(putK kvs k v).length<=sizeLine:=by have:=xJ kvs k v;omega
  refine wpAny_setItem_pairs (hsz:=hz) (IA L) dd λh' G hs=>h _ ?_;have he:∃q,h'.get? a=aY q:=let ⟨q,_,_,Y,_⟩:=G;⟨q,Y⟩
  exact Ms I (by rw[e];exact aa3) hs he (Vs hl hd (rel.put k β) G)
 ·subst ey Z;cases(show u=vu b from L);obtain⟨z,hd,xs,rel,dd⟩:=Wy I.hok e;have hz:xs.length<=sizeLine:=by rw[<-ah4 rel];exact z
  have hl:(putK kvs k v).length<=sizeLine:=by have:=xJ kvs k v;omega
  refine wpAny_setItem_heap (hsz:=hz) (ZY hu) (CP I.hok γ) dd λh' G hs=>h _ ?_;obtain⟨q,es,ep,Y,h2,ε,ι,_,δ⟩:=G;refine Ms I (by rw[e];exact aa3) hs ⟨q,Y⟩ ⟨hl,hd,_,(rel.put k γ β).keeps λc ys α=>?_,q,es,ep,Y,h2,ε,ι,δ⟩;rw[aD (cy α e (λz=>nomatch z))];exact α
end
def NoSl (i:W5):Prop:=∀G L,subscripted i false G L=operate [G,L] (getItem G L)
theorem QT {prog:ry} {w:z5} {A:W6} {E:Cr} {s:ik} {env:Env} {value G:W5} {pos:Pos} {T id:X9} {Q:Cr}
  (hl:typeLookup (!aj T) "__getitem__"=pure (aY (!ai id))) (hs:NoSl G)
  (h:lT @a2 A (eval value env) (λo Y=>lT @a2 A (eval G env) (λi τ=>τ.TypeIs o T/\lT @a2 A (getItem o i) Q E τ) E Y) E s):
  lT @a2 A (eval (.Subscript value G pos) env) Q E s:=by
 refine at8 (YQ h (λo Y h₁=>YQ h₁ (λi τ L=>?_) λ_ _ x=>x) λ_ _ x=>x);obtain⟨hT,L⟩:=L;unfold subscriptTail;refine gz ?_;rw[getitemInPython_of_ne hT.not_modules];refine gz (ZF hT hl ?_)
 have fin:lT @a2 A (subscripted G false o i) (λr ι=>lT @a2 A (letTemporaryGo value o r >>=λ_=>pure r) Q E ι) E τ:=by
  rw[hs o i];exact wpAny_operating (YQ L (λr ι Z=>gz (wpAny_letTemporaryGo (oD Z))) λ_ _ x=>x)
 first
  | exact oD (gz fin)
  | exact gz (oD (gz fin))
  | exact gz fin
theorem FG {X:Cx} {pins:D'} {σ:St} {H:Hp} {s:ik} {a:ee} {y:V} {o:vr V} (I:@M) (g:DGet H a y o):s.TypeIs @af "dict":=by
 rcases g with ⟨kvs,k,e,_,_⟩ | ⟨kvs,k,b,e,_,_,_⟩
 ·obtain⟨_,_,vs,_,dd⟩:=Mn I.hok e;exact dd.typeIs
 ·obtain⟨_,_,xs,_,dd⟩:=Mm I.hok e;exact dd.typeIs
noncomputable def Tf (td ty:TE):TE:=fun σ H Q=>td σ H λx H1=>ty σ H1 λy H2=>∃a v,x= .ref a/\DGet H2 a y @aI/\Q v H2
noncomputable def tDIn (ty td:TE):TE:=fun σ H Q=>ty σ H λy H1=>td σ H1 λx H2=>∃a o,x= .ref a/\DGet H2 a y o/\Q (.bl o.isSome) H2
noncomputable def JR (ty td:TE):TE:=fun σ H Q=>ty σ H λy H1=>td σ H1 λx H2=>∃a o,x= .ref a/\DGet H2 a y o/\Q (.bl (!o.isSome)) H2
noncomputable def Ub (td ty tv:TE):TS:=λD σ H=>tv σ H λv H1=>td σ H1 λx H2=>ty σ H2 λy L=>∃a G,x= .ref a/\DPut L a y v G/\D.nx σ G
section
variable {X:Cx} {o i e value:W5} {pos pos' tpos:Pos} {td ty tv:TE}
theorem o7 (hu:@cq) (ho:!F o td) (hi:!F i ty) (hs:NoSl i):!F (.Subscript o i pos) (Tf td ty):=by
 intro pins s σ H Q I h;refine QT PySem.F.slot_dict_getitem.lookup hs (thn (ho pins s σ H _ I h) λu α ⟨x,H1,ε,β,δ⟩=>thn (hi pins α σ H1 _ ε δ) fun ι η ⟨y,H2,Y,L,a,v,ex,g,γ⟩=>?_);subst ex;obtain rfl:u=vu a:=β;exact⟨FG Y g,MA hu Y g L fun θ ζ G Z=>⟨v,H2,G,Z,γ⟩⟩
theorem KP (hu:@cq) (hi:!F i ty) (ho:!F o td):PC X .In i o (tDIn ty td):=by
 intro pins s σ H Q I h;refine thn (hi pins s σ H _ I h) fun θ Y ⟨y,H1,Z,L,γ⟩=>thn (ho pins Y σ H1 _ Z γ) λu η ⟨x,H2,ε,α,a,δ,ex,g,β⟩=>?_;subst ex;obtain rfl:u=vu a:=α;exact d_in hu ε g L fun ζ G=>⟨.bl δ.isSome,H2,G,rfl,β⟩
theorem KO (hu:@cq) (hi:!F i ty) (ho:!F o td):PC X .NotIn i o (JR ty td):=by
 intro pins s σ H Q I h;refine thn (hi pins s σ H _ I h) fun θ Y ⟨y,H1,Z,L,γ⟩=>thn (ho pins Y σ H1 _ Z γ) λu η ⟨x,H2,ε,α,a,δ,ex,g,β⟩=>?_;subst ex;obtain rfl:u=vu a:=α;exact Sv hu ε g L fun ζ G=>⟨.bl (!δ.isSome),H2,G,rfl,β⟩
theorem AE (hu:@cq) (ho:!F o td) (hi:!F i ty) (θ:!F value tv) (hs:!cf (.Subscript o i pos')):
  PS X (.Assign [.Subscript o i pos'] value pos) (Ub td ty tv):=by
 intro pins s σ H D I h;refine wpAny_Assign_Subscript (thn (θ pins s σ H _ I h) λr α ⟨v,H1,Z,γ,η⟩=>thn (ho pins α σ H1 _ Z η) λu Y ⟨x,H2,ι,β,ε⟩=>thn (hi pins Y σ H2 _ ι ε) fun π ο ⟨y,ρ,G,L,a,ν,ex,g,δ⟩=>?_) hs;subst ex;obtain rfl:u=vu a:=β;exact Mu hu G g L γ fun ξ ζ=>⟨σ,ν,ζ,δ⟩
end
theorem O9 {P:ry} {w:z5} {H:Hp} (h:WN) (hb:sysModules < h.objs.size):iu P w H (h.push {cls:= .type "dict",data:= .dict #[]}) h.objs.size (.dK []):=
 ⟨Xy _,W2.mpr (wh (y1 hb)),[],.nil,al6 h⟩
noncomputable def PD:TE:=λ_ H Q=>∀p,H p=gg->Q @P (!V p (.dK []))
section
variable {X:Cx} {pos:Pos}
theorem sh:!F (.Dict [] [] pos) PD:=λpins s σ H Q I h=>
 wpAny_Dict_empty ⟨@aN,_,I.laid (a:=s.heap.objs.size) (o:= .dK []) (t':=s.toks) (λ_ _ q=>gn _ q) @U (O9 s.heap I.big),rfl,h _ @bW⟩
end
structure M1 (X:Cx) (o:W5) (m:kv) (apos:Pos) (e:W5) (cpos:Pos):Prop where
 base:attributeBase o m X.env (!aw o)=eval o X.env
 few:((!aD cpos [e]).all (λx=> !x.1)&&(!bB cpos [] X.env).all (λx=>x.1.isSome)
  &&decide (([e]:eP W5).length + ([]:eP Keyword).length + (if ([]:eP Keyword).isEmpty then 0 else 1) < 30))=true
 line:@c6=true
 trees:backTo cpos (pT [e] X.env)=[(false,eval e X.env)]
structure M2 (X:Cx) (o:W5) (m:kv) (apos:Pos) (e f:W5) (cpos:Pos):Prop where
 base:attributeBase o m X.env (!aw o)=eval o X.env
 few:((!aD cpos [e,f]).all (λx=> !x.1)&&(!bB cpos [] X.env).all (λx=>x.1.isSome)
  &&decide (([e,f]:eP W5).length + ([]:eP Keyword).length + (if ([]:eP Keyword).isEmpty then 0 else 1) < 30))=true
 line:@c6=true
 trees:backTo cpos (pT [e,f] X.env)=[(false,eval e X.env),(false,eval f X.env)]
section
variable {κ:Type} [DecidableEq κ]
theorem Nz {kvs:@b7} {k:κ} (h:valV kvs k=gg):¬k∈kvs.map (·.1):=by
 intro m;obtain⟨p,L,e⟩:=hC.mp m;have q:@c4=true:=YH.mpr ⟨p,L,gB e⟩;rw[rV,h] at q;exact hE q @C
theorem QP {kvs:@b7} {k:κ} {v:V} (h:valV kvs k=aY v):k∈kvs.map (·.1):=by
 have q:@c4=true:=by
  rw[rV,h]
  all_goals rfl
 obtain⟨p,L,e⟩:=YH.mp q;exact !an ⟨p,L,y2 e⟩
end
end L2
set_option maxHeartbeats 4000000
namespace L2
open PySem PySem.Spec PyProof.Rows
section
variable {P0:ry} {w0:z5} {A0:W6} {R0:S'} {t0:ik}
theorem IW {θ tg iter:W5} {γ:eP W5} {sc:Yp} {pos:Pos} {π ε:i'} {δ:Env} (J:Nat->ik->Prop)
  (ζ:∀n s,J n s->lT (rb P0 w0) A0 (pyNext π) (λr L=>match r with
   | none=>R0 (.ok .next) L
   | some v=>lT (rb P0 w0) A0 (letOwnedTupleGo tg π v) (λ_ τ=>lT (rb P0 w0) A0 (assign tg δ v) (λ_ ι=>
     lT (rb P0 w0) A0 (forIn γ true λc r=>if r=true then do let ok <-isTrue c δ (eval c δ);pure (YI ok) else pure (YI r)) (λok G=>
      if ok=true then lT (rb P0 w0) A0 (eval θ δ) (λx β=>
       lT (rb P0 w0) A0 (call (!ai "list.append") [ε,x]) (λ_ Z=>∃m,m < n/\J m Z) @bM β) @bM G
      else ∃m,m < n/\J m G) @bM ι) @bM τ) @bM L) @bM s)
  (n:Nat) (h:J n t0):
  codeAny (rb P0 w0) A0 (.compLoop (!bF θ [⟨tg,iter,γ,0⟩] sc) 0 π ε δ) R0 t0:=by
 have no:∀{α:Type} {t:Sem α} {Q:α->ik->Prop} {E:Cr} {s:ik},lT (rb P0 w0) A0 t Q @bM s->lT (rb P0 w0) A0 t Q E s:=
  λh=>YQ h (λ_ _ q=>q) λ_ _ z=>z.elim
 refine codeAny_loop rfl J (λn s ρ=>?_) n h;show lT _ A0 ((compTurn (!bF θ [⟨tg,iter,γ,0⟩] sc) 0 π ε δ).onRaise (λx=>do noteFrame x δ;theTreesLotGoes x)) _ _ s;refine wpAny_noted ?_;rw[compTurn_list];refine gz (wpAny_standAt (gz (thn (no (ζ n s ρ)) λr L h₁=>?_)));cases r with
 | none=>exact oD h₁
 | some v=>
   refine gz (thn (no h₁) λ_ τ ο=>?_);refine gz (thn (no ο) λ_ ι ξ=>gz (thn (no ξ) λok G Y=>?_));cases ok with
   | false=>exact oD ⟨rfl,Y⟩
   | true=>
     rw[lx rfl] at Y;refine gz (gz (thn (no Y) λx β ν=>?_));refine gz (thn (no ν) λ_ Z η=>?_);exact oD (oD ⟨rfl,η⟩)
end
theorem uR (env:Env):∀(l:eP (kv×NameKind)) (χ:Tn),(∀y∈l,y.2= .free->∃c,env.cells.lookup y.1=aY c)->
  ∃r:Tn,(forIn l χ (λ(x:kv×NameKind) (r:Tn)=>if x.2 == Xl then (do let c <-cellOf env x.1;pure (YI ((x.1,c)::r))) else pure (YI r)):Sem Tn)=pure r/\
   (∀p∈r,p∈χ∨env.cells.lookup p.1=aY p.2)/\(∀p∈χ,p∈r)/\(∀y∈l,y.2= .free->∃c,(y.1,c)∈r)
 | [],χ,_=>⟨χ,rfl,λp L=> .inl L,λp L=>L,λy G=>nomatch G⟩
 | (x,k)::l,χ,h=>by
   by_cases hk:k= .free
   ·subst hk;obtain⟨c,Z⟩:=h (x,.free) mu rfl;obtain⟨r,e,h1,h2,Y⟩:=uR env l ((x,c)::χ) λy G=>h y (ov _ G);refine⟨r,?_,λp L=>?_,λp L=>h2 p (ov _ L),λy G hf=>?_⟩
    ·rw[ab0];have α:cellOf env x=pure c:=by unfold cellOf;rw[Z]
     simp only[XG,ak7,α,pure_bind];exact e
    ·rcases h1 p L with q | q
     ·rcases x8.mp q with z | z
      ·subst z;exact !I Z
      ·exact !E z
     ·exact !I q
    ·rcases x8.mp G with z | z
     ·subst z;exact⟨c,h2 _ mu⟩
     ·exact Y y z hf
   ·obtain⟨r,e,h1,h2,Y⟩:=uR env l χ λy G=>h y (ov _ G);refine⟨r,?_,h1,h2,λy G hf=>?_⟩
    ·rw[ab0];have hb:(k == Xl)=false:=by cases k<;>first | rfl | exact hE rfl hk
     simp only[hb,Bool.false_eq_true,if_false,pure_bind];exact e
    ·rcases x8.mp G with z | z
     ·subst z;exact hE hf hk
     ·exact Y y z hf
theorem Ah (sc:Yp) (env:Env) (h:∀y∈sc.names,y.2= .free->∃c,env.cells.lookup y.1=aY c):
  ∃G,closureFor sc env=pure G/\(∀p∈G,env.cells.lookup p.1=aY p.2)/\∀y∈sc.names,y.2= .free->∃c,(y.1,c)∈G:=by
 obtain⟨r,e,h1,h2,Y⟩:=uR env sc.names [] h;refine⟨r,?_,λp L=>(h1 p L).resolve_left (λz=>nomatch z),Y⟩;unfold closureFor;have:=e;simp only[bind_pure] at *
 exact e
theorem AY {κ β:Type} [BEq κ] [LawfulBEq κ]:∀{l:eP (κ×β)} {x:κ} {c:β},(x,c)∈l->∃G,l.lookup x=aY G
 | [],_,_,h=>nomatch h
 | (y,d)::l,x,c,h=>by
   by_cases e:x=y
   ·subst e;exact⟨d,by simp[Zm]⟩
   ·have hb:(x == y)=false:=W2.mpr e;rcases x8.mp h with z | z
    ·exact hE (oe Z' z) e
    ·obtain⟨G,q⟩:=AY z;exact⟨G,by rw[Zm,hb];exact q⟩
theorem sf {env:Env}:∀{names:eP (kv×NameKind)} {x:kv} {L:NameKind},
  (names.map λ(n,k)=>if @cN then (n,Z4) else (n,k)).lookup x=aY L->∃k,(x,k)∈names/\(L=k∨k= .free)
 | [],_,_,h=>by cases h
 | (y,k)::l,x,L,h=>by
   rw[W',Zm] at h;by_cases e:x=y
   ·subst e;by_cases G:(k == Xl&&env.scope.kind == .function&&env.kindOf x == aY .cell)=true
    ·refine⟨k,mu,!I ?_⟩;rw[WV,WV] at G;exact eq_of_beq G.1.1
    ·refine⟨k,mu,!E ?_⟩;simp only[kf G,XG] at h;exact(qA h).symm
   ·have hb:(x == y)=false:=W2.mpr e
    have h':(l.map λ(n,k)=>if @cN then (n,Z4) else (n,k)).lookup x=aY L:=by
     by_cases G:@d4=true
     ·simp only[lx G,hb] at h;exact h
     ·simp only[kf G,hb] at h;exact h
    obtain⟨q,hm,z⟩:=sf h';exact⟨q,ov _ hm,z⟩
theorem uU {env:Env}:∀{names:eP (kv×NameKind)} {x:kv},names.lookup x=aY .free->
  (names.map λ(n,k)=>if @cN then (n,Z4) else (n,k)).lookup x=aY .cell∨
  (names.map λ(n,k)=>if @cN then (n,Z4) else (n,k)).lookup x=aY .free
 | [],_,h=>by cases h
 | (y,k)::l,x,h=>by
   rw[Zm] at h;rw[W',Zm];by_cases e:x=y
   ·subst e;simp only[XG] at h;cases h;by_cases G:(Xl == Xl&&env.scope.kind == .function&&env.kindOf x == aY .cell)=true
    ·refine !E ?_;rw[lx G];simp only[XG]
    ·refine !I ?_;rw[kf G];simp only[XG]
   ·have hb:(x == y)=false:=W2.mpr e;simp only[hb] at h;have q:=uU (env:=env) h;by_cases G:@d4=true
    ·simp only[lx G,hb];exact q
    ·simp only[kf G,hb];exact q
structure ng (osc:Yp) (ON N:B') (n:Nat) (fx:C') (sc:Yp):Prop where
 kind:sc.kind= .function
 noc:∀y∈sc.names,y.2≠.cell
 own:∀y∈sc.names,y.2= .local->sc.names.lookup y.1=aY .local
 fre:∀y∈sc.names,y.2= .free->osc.names.lookup y.1=aY .cell∨osc.names.lookup y.1=aY .free
 len:N.length=n + fx.length
 frn:∀k,k < fx.length->∃x j,N[n + k]? =aY x/\fx[k]? =aY j/\ON[j]? =aY x/\sc.names.lookup x=aY .free
noncomputable def O1 (ON:B') (G:Yp):B'->C'->Xb
 | [],[]=>true
 | x::xs,j::js=>decide (ON[j]? =aY x)&&decide (G.names.lookup x=aY .free)&&O1 ON G xs js
 | _,_=>false
theorem C5 {ON:B'} {sc:Yp}:∀{xs:B'} {G:C'},O1 ON sc xs G=true->xs.length=G.length/\∀k,k < G.length->∃x j,xs[k]? =aY x/\G[k]? =aY j/\ON[j]? =aY x/\sc.names.lookup x=aY .free
 | [],[],_=>⟨rfl,λk h=>hE h (YF k)⟩
 | [],_::_,h=>by cases h
 | _::_,[],h=>by cases h
 | x::xs,j::G,h=>by
   simp only[O1,WV,Xc] at h;obtain⟨l,q⟩:=C5 h.2;refine⟨oe Nat.succ l,λk hk=>?_⟩;cases k with
   | zero=>exact⟨x,j,rfl,rfl,h.1.1,h.1.2⟩
   | succ k=>
     obtain⟨L,Y,a,b,c⟩:=q k (Nat.lt_of_succ_lt_succ hk);exact⟨L,Y,by simpa using a,by simpa using b,c⟩
noncomputable def GV (osc:Yp) (ON N:B') (n:Nat) (fx:C') (G:Yp):Bool:=
 decide (G.kind= .function)&&decide (∀y∈G.names,y.2≠.cell)&&decide (∀y∈G.names,y.2= .local->G.names.lookup y.1=aY .local)&&
 decide (∀y∈G.names,y.2= .free->osc.names.lookup y.1=aY .cell∨osc.names.lookup y.1=aY .free)&&decide (n<=N.length)&&O1 ON G (N.drop n) fx
theorem ng.of {osc:Yp} {ON N:B'} {n:Nat} {fx:C'} {sc:Yp} (h:@cY):ng osc ON N n fx sc:=by
 simp only[GV,WV,Xc] at h;obtain⟨⟨⟨⟨⟨h1,h2⟩,L⟩,ι⟩,Y⟩,G⟩:=h;obtain⟨l,q⟩:=C5 G;refine⟨h1,h2,L,ι,?_,λk hk=>?_⟩
 ·rw[ZU] at l;omega
 ·obtain⟨x,j,a,b⟩:=q k hk;exact⟨x,j,by rw[Zk] at a;exact a,b⟩
noncomputable def oC (X:Cx) (N:B') (G:Yp) (L:Tn) (C:ee) (fp:M') (s:ik) (H:Hp):Cx where
 prog:=X.prog
 w:=X.w
 K:=X.K
 mg:=X.mg
 base:=X.base
 A:=X.A
 N:=N
 s₀:=s
 H₀:=H
 env:=compEnvC G L C X.env
 outer:=X.stack
 stack:=X.stack
 ex:=fp
 fn:=λ_=>false
 calm:=X.calm
 pn:=[]
 xe:=λ_ _=>False
noncomputable def d8 (n:Nat) (fx:C') (σ:St):St:=lA n gg++fx.map λj=>(σ[j]?).join
def Js (n:Nat) (g:TG):Prop:=∀v σ H (Q G:St->Hp->Prop),(∀σ' H',Q σ' H'->σ'.drop n=σ.drop n->σ'.length=σ.length->G σ' H')->g v σ H Q->g v σ H G
def G0 (n:Nat) (g:TGs):Prop:=∀vs σ H (Q G:St->Hp->Prop),(∀σ' H',Q σ' H'->σ'.drop n=σ.drop n->σ'.length=σ.length->G σ' H')->g vs σ H Q->g vs σ H G
theorem aF {n i:Nat} (h:i < n):Js n (L8 i):=λv σ H Q G k q=>k _ _ q (by rw[List.drop_set_of_lt h]) (by rw[List.length_set])
theorem uM {n:Nat}:G0 n gNil:=λvs σ H Q G k ⟨e,q⟩=>⟨e,k _ _ q rfl rfl⟩
theorem gZ {n:Nat} {t:TG} {u:TGs} (ht:Js n t) (hu:G0 n u):G0 n (Si t u):=λvs σ H Q ε k ⟨v,r,e,q⟩=>
 ⟨v,r,e,ht v σ H _ _ (fun γ H1 Y δ α=>hu r γ H1 Q ε (λG H2 L β Z=>k G H2 L (β.trans δ) (Z.trans α)) Y) q⟩
theorem zS {K:b'} {n m:Nat} {t:TGs} (h:G0 n t):Js n (gTup K m t):=λv σ H Q G k ⟨a,xs,e,hs,hl,q⟩=>⟨a,xs,e,hs,hl,h xs σ H Q G k q⟩
def PTs (X:Cx) (G:eP W5) (t:TT):Prop:=
 ∀(pins:D') (s:ik) (σ:St) (H:Hp) (Q:Xb->Hp->Prop),Inv X pins σ H s->t σ H Q->
  lT @S X.A (forIn G true λc r=>if r=true then do let ok <-isTrue c X.env (!aw c);pure (YI ok) else pure (YI r)) (TP X pins σ Q) X.xe s
noncomputable def tYes:TT:=λ_ H Q=>Q true H
theorem aU {X:Cx}:PTs X [] tYes:=λ_ _ _ H _ I h=>wpAny_tests_nil ⟨H,I,h⟩
theorem jP {X:Cx} {c:W5} {t:TT} (h:PT X c t):PTs X [c] t:=λpins s σ H Q I q=>wpAny_tests_one (h pins s σ H Q I q)
noncomputable def NG (n:Nat) (fx:C') (γ:TI) (g:TG) (tc:TT) (te:TE):TE:=fun σ H Q=>γ σ H λJ H1=>∀D,H1 D=gg->
 ∃W:Nat->Nat->eP V->Hp->Prop,(∃m,W 0 m [] (!X H1 []))/\∀i m ys H2,W i m ys H2->(J.stop i H2/\Q @W H2)∨
   (J.go i H2/\∃N:eP V->Hp->Prop,(∀L H',N L H'->∃Y,Y < m/\W @H Y L H')/\∀x β,J.yld i H2 x β->g x (d8 n fx σ) β λG δ=>tc G δ λb α=>
    if b=true then te G α λv Z=>Z D=aY @Y/\ys.length < ic/\N @a9 (!X Z @a9) else N ys α)
section
variable {X:Cx} {pins:D'} {σ:St} {H:Hp} {s:ik}
theorem IX {n:Nat} {fx:C'}:(d8 n fx σ).length=n + fx.length:=by unfold d8;simp
theorem Ag {n:Nat} {fx:C'} {i:Nat} {v:V} (e:(d8 n fx σ)[i]? =aY @aI):∃k j,i=n + k/\fx[k]? =aY j/\σ[j]? =aY @aI:=by
 unfold d8 at e;by_cases h:i < n
 ·rw[la (by simpa using h),ak3,lx h] at e;cases e
 ·rw[lB (by simpa using h),Xg,hB] at e;cases q:fx[i - n]? with
  | none=>rw[q] at e;cases e
  | some j=>
    rw[q] at e;have G:(σ[j]?).join=aY v:=qA e;refine⟨i - n,j,@A,q,?_⟩;cases z:σ[j]? with
    | none=>rw[z] at G;cases G
    | some o=>rw[z] at G;have:o=aY v:=G;rw[this]
theorem Pd {osc:Yp} {ON N:B'} {n:Nat} {fx:C'} {sc:Yp} {ε:Tn} {fp:M'} {ι:WN} {tk:Nat}
  (ho:X.env.scope=osc) (hN:X.N=ON) (S:ng osc ON N n fx sc)
  (γ:∀p∈ε,X.env.cells.lookup p.1=aY p.2) (L:∀y∈sc.names,y.2= .free->∃c,(y.1,c)∈ε)
  (I:@M) (hf:∀b∈fp,FpOk X pins H b) (θ:∀b∈fp,b < s.heap.objs.size)
  (Z:∃m,ι.Ns s.heap.objs.size m) (G:∀b o,s.heap.get? b=aY o->ι.get? b=aY o):
  Inv (oC X N sc ε s.heap.objs.size fp s H) [] (d8 n fx σ) H {s with heap:=ι,toks:=tk}:=by
 have look:∀{x:kv} {c:ee},ε.lookup x=aY c->X.env.cells.lookup x=aY c:=λ{x c} e=>γ (x,c) (Xk e)
 have ok:(oC X N sc ε s.heap.objs.size fp s H).Ok:=by
  refine⟨I.ok.mod,S.kind,I.ok.glob,I.ok.blt,mc _,λx y c h1 h2=>I.ok.inj x y c (look h1) (look h2),λx hx=>?_,λx c z=>(by cases z),I.ok.hd,I.ok.frames,@am,λb hb=>⟨y1 (θ b hb),λx c e=>(hf b hb).2.2.2.2.1 x c (look e)⟩,
   I.bs,XX I.ok.bsz I.sz,λb o e hb=>?_,λb hb z=>?_,I.stack,I.stkFree⟩
  ·have ψ:∃ζ,(ζ=Z4∨ζ=Xl)/\(sc.names.map λ(n,k)=>if (k == Xl&&X.env.scope.kind == .function&&X.env.kindOf n == aY .cell) then (n,Z4) else (n,k)).lookup x=aY ζ:=by
    rcases hx with hx | hx
    ·exact⟨_,@am,hx⟩
    ·exact⟨_,!I rfl,hx⟩
   obtain⟨ζ,hk,e⟩:=ψ;obtain⟨k,hm,z⟩:=sf e
   have φ:k= .free:=by
    rcases z with z | z
    ·subst z;rcases hk with q | q
     ·exact hE q (S.noc _ hm)
     ·exact q
    ·exact z
   subst φ;obtain⟨c,hc⟩:=L _ hm rfl;exact AY hc
  ·rcases(hf b hb).2.2.2.1 with z | z
   ·exact I.ok.noex b o e z
   ·exact hE (gA (hK (I.ok.bs b o e).1) z) (Y2 _)
  ·rcases x8.mp (I.stkSub b z) with q | q
   ·exact(hf b hb).2.1 q
   ·exact(hf b hb).2.2.1 q
 obtain⟨m,Z⟩:=Z;refine⟨ok,rfl,I.bare,Un.kept G,⟨m,Z,λi x v e1 e2 Y=>?_⟩,λx c e=>?_,@bW,λx c e=>I.freeC x c (look e),λp ω=>hE (show p∈([]:D') from ω) @C,I.hok.kept G,?_⟩
 ·obtain⟨k,j,rfl,υ,χ⟩:=Ag e2;obtain⟨β,τ,a1,a2,a3,π⟩:=S.frn k (!K υ).1;have ex:β=x:=qA (a1.symm.trans e1);have ej:τ=j:=qA (a2.symm.trans υ);subst ex;subst ej;obtain⟨m',_,hl⟩:=I.loc;have hk:X.env.scope.names.lookup β=aY .cell∨X.env.scope.names.lookup β=aY .free:=by rw[ho];exact S.fre _ (Xk π) rfl
  have η:Vis X.env.scope β:=by rcases hk with z | z;exact !I (!E z);exact !I (!I z)
  obtain⟨u,r,q⟩:=hl τ β v (by rw[hN];exact a3) χ η;rcases q with ⟨z,_⟩ | ⟨_,c,α,ν⟩
  ·have ρ:X.env.scope.names.lookup β=aY .local:=z;rcases hk with q | q<;>(rw[q] at ρ;cases ρ)
  ·refine⟨u,r,!I ⟨uU π,c,?_,ν.keeps G⟩⟩;obtain⟨ξ,ο⟩:=L _ (Xk π) rfl;obtain⟨c1,δ⟩:=AY ο;have:=look δ;rw[α] at this;cases this;exact δ
 ·obtain⟨v,q⟩:=I.cell x c (look e);exact⟨v,q.keeps G⟩
 ·show _=N.length;rw[IX,S.len]
theorem DJ {osc:Yp} {ON N:B'} {n:Nat} {fx:C'} {sc:Yp} {ε:Tn} {θ tg iter:W5} {b6:eP W5} {pos:Pos} {wi:TI} {g:TG} {tc:TT} {te:TE} {Q:VK} {RR:i'->ee->S'}
  (c1:@aQ) (ho:X.env.scope=osc) (hN:X.N=ON) (S:ng osc ON N n fx sc)
  (a7:∀p∈ε,X.env.cells.lookup p.1=aY p.2) (d1:∀y∈sc.names,y.2= .free->∃c,(y.1,c)∈ε)
  (hi:PI X tg iter wi) (gk:Js n g) (hb:∀ε C fp s H,PG (oC X N sc ε C fp s H) tg g/\PTs (oC X N sc ε C fp s H) b6 tc/\PE (oC X N sc ε C fp s H) θ te)
  (I:@M) (h:NG n fx wi g tc te σ H Q)
  (e8:∀D C H' s',Inv X pins σ H' s'->(∃m,s'.heap.Ns C m)->FpOk X pins H' C->Q @W H'->RR @W C (.ok .next) s'):
  lT @S X.A (!aw iter) (λx s₁=>lT @S X.A (pyIter x) (λit τ=>lT @S X.A (newList []) (λe1 ι=>
   lT @S X.A (newFunctionEnv sc X.env.globals ε [] X.env.qual gg .none (aY X.env)) (λa8 s₄=>
    codeAny @S X.A (.compStart (!bF θ [⟨tg,iter,b6,0⟩] sc) 0 it e1 {a8 with scope:=relabel sc X.env}) (RR e1 a8.locals) s₄) X.xe ι) X.xe τ) X.xe s₁) X.xe s:=by
 refine thn (hi pins s σ H _ I h) λv s1 h1=>thn h1 λf9 G h2=>?_;obtain⟨it,fp,tn,J,H2,e2,I2,T,ω,f2,hW⟩:=h2;subst e2;obtain⟨W,⟨m0,w0⟩,c0⟩:=hW G.heap.objs.size I2.fresh;refine aa4 ?_;have I3:Inv X pins σ (!aB H2 G.heap.objs.size []) {G with heap:=G.heap.push {cls:= .type "list",data:= .seq ([]:E').toArray}}:=I2.lnew (t':=G.toks) (its:=[]) .nil (Xy _)
 have ψ:∀b∈fp,FpOk X pins (!aB H2 G.heap.objs.size []) b/\b < G.heap.objs.size:=λb hb=>by
  obtain⟨o,e,_⟩:=T.obj _ _ ω b hb;have l:=hK e;obtain⟨a1,a2⟩:=f2 b hb;exact⟨⟨by rw[aD (y1 l)];exact a1,a2⟩,l⟩
 have sz:({G with heap:=G.heap.push {cls:= .type "list",data:= .seq ([]:E').toArray}}:ik).heap.objs.size=G.heap.objs.size + 1:=Z0 ..
 generalize e6:({G with heap:=G.heap.push {cls:= .type "list",data:= .seq ([]:E').toArray}}:ik)=L at I3 sz ⊢;generalize υ:upd H2 G.heap.objs.size (!A [])=H3 at I3 ψ w0;have c4:∀b o,G.heap.get? b=aY o->L.heap.get? b=aY o:=λb o e=>by rw[<-e6];exact gn _ e
 refine wpAny_newFunctionEnv (λy hy=>S.noc y hy) (λy hy=>nomatch hy) (λh4 e7 e5=>?_) S.kind;have a0:∀b o,L.heap.get? b=aY o->h4.get? b=aY o:=λb o e=>e5.extBut b o (y1 @aM) (gn _ e);have ζ:=Pd (tk:=L.toks + ([]:U').length) ho hN S a7 d1 I3 (λb hb=>(ψ b hb).1) (λb hb=>by rw[sz];exact ZR (ψ b hb).2) ⟨_,e7⟩ a0;have ν:=hb ε L.heap.objs.size fp L H3;generalize hY:oC X N sc ε L.heap.objs.size fp L H3=Y at ζ ν
 have η:∀{H':Hp},(∀b∈fp,H' b=gg)->∀b∈fp,FpOk Y [] H' b:=λ{H'} hn b hb=>by
  subst hY;obtain⟨⟨a1,a2,a3,a4,a5,Z⟩,l⟩:=ψ b hb;refine⟨hn b hb,y1 (show b < L.heap.objs.size by rw[sz];exact ZR l),λz=>?_,!E hb,λx c e=>a5 x c (a7 (x,c) (Xk e)),λp hp=>hE (show p∈([]:D') from hp) @C⟩;rcases x8.mp (I3.stkSub b z) with q | q
  ·exact a2 q
  ·exact a3 q
 have fin:∀{σ6:St} {H6:Hp} {s6:ik},Inv Y [] σ6 H6 s6->Q @bx H6->RR @bx L.heap.objs.size (.ok .next) s6:=λ{σ6 H6 s6} I6 q=>by
  subst hY;refine e8 _ _ H6 s6 ?_ (let ⟨m,hm,_⟩:=I6.loc;⟨m,hm⟩) (I3.fpOk @U I6.free) q;obtain⟨hh,φ,dd,tt,os'⟩:=s6;obtain rfl:os'=L.os:=I6.os
  exact I3.call (h':=hh) (g':=φ) (d':=dd) (t':=tt) (ch:=fp) I6.base I6.hok I6.bare λb hb=>by
   obtain⟨⟨a1,a2,a3,a4,a5,Z⟩,l⟩:=ψ b hb;exact⟨a4,a2,a5,Z⟩
 have pY:Y.prog=X.prog:=by subst hY;rfl
 have wY:Y.w=X.w:=by subst hY;rfl
 have kY:Y.K=X.K:=by subst hY;rfl
 have χ:Y.A=X.A:=by subst hY;rfl
 have cY:Y.calm=true:=by subst hY;exact c1
 have eY:Y.env=compEnvC sc ε L.heap.objs.size X.env:=by subst hY;rfl
 have π:Y.xe=λ_ _=>False:=by subst hY;rfl
 have T':Turn Y.prog Y.w Y.K tg J fp it tn:=by rw[pY,wY,kY];exact T
 have c2:tn 0 h4:=T.keep _ _ _ ω λb hb o e=>a0 b o (c4 b o e)
 have loop:codeAny @S X.A (.compLoop (!bF θ [⟨tg,iter,b6,0⟩] sc) 0 (!j it) @bx (compEnvC sc ε L.heap.objs.size X.env)) (RR @bx L.heap.objs.size)
   {L with heap:=h4,toks:=L.toks + ([]:U').length}:=by
  rw[<-pY,<-wY,<-χ,<-eY];refine IW (λk s'=>∃i ys σ' H',Inv Y [] σ' H' s'/\σ'.drop n=(d8 n fx σ).drop n/\σ'.length=(d8 n fx σ).length/\tn i s'.heap/\(∀b∈fp,H' b=gg)/\W i k ys H') ?_ m0 ⟨0,[],_,H3,ζ,rfl,rfl,c2,λb hb=>(ψ b hb).1.1,w0⟩;rintro k s5 ⟨i,ys,ξ,H5,I5,ed,el,c3,e0,ρ⟩
  have I5:Inv Y [] (d8 n fx σ) H5 s5:=I5.weak el.symm λj v e=>by
   obtain⟨k',j',rfl,_,_⟩:=Ag e;have q:=oe (λl=>l[k']?) ed;simp only[Zk] at q;rw[q];exact e
  rcases c0 i k ys H5 ρ with ⟨stop,q⟩ | ⟨go,N',e9,step⟩
  ·refine YQ (T'.done Y rfl rfl rfl cY i [] s5 _ H5 @bM I5 (η e0) c3 stop) (λr s6 ⟨hr,I6⟩=>?_) λ_ _ z=>z;subst hr;exact fin I6 q
  ·rw[<-π];refine thn (T'.item Y rfl rfl rfl cY i [] s5 _ H5 Y.xe I5 (η e0) c3 go) λr s6 ⟨u,hr,h6⟩=>?_;subst hr;show lT _ _ _ _ _ _;refine thn h6 λ_ s7 ⟨x,H7,I7,r7,ο,b3,f0⟩=>?_;have f6:=I7.pinned (η f0) (T.obj _ _ b3);refine thn (ν.1 _ s7 _ H7 x u _ f6 r7 (gk _ _ _ _ _ (fun σ' H' q e l=>(⟨q,e,l⟩:_/\_/\_)) (step x H7 ο))) λ_ s8 ⟨δ,H8,I8,q8,f4,f1⟩=>?_;refine thn (ν.2.1 _ s8 δ H8 _ I8 q8) λok s9 ⟨H9,I9,q9⟩=>?_
   have again:∀{γ:Hp} {β:ik} {zs:eP V},Inv Y ([]++Cg fp s7.heap) δ γ β->N' zs γ->
     ∃m,m < k/\∃i ys σ' H',Inv Y [] σ' H' β/\σ'.drop n=(d8 n fx σ).drop n/\σ'.length=(d8 n fx σ).length/\tn i β.heap/\(∀b∈fp,H' b=gg)/\W i m ys H':=λ{γ β zs} I10 α=>by
    obtain⟨m',hm,e3⟩:=e9 _ _ α;refine⟨m',hm,i + 1,zs,δ,γ,I10.unpinned,f4,f1,T.keep _ _ _ b3 λb hb o e=>(I10.pin (b,o) (hJ _ (hJ _ (p8 hb e)))).1,λb hb=>?_,e3⟩;obtain⟨o,e,d⟩:=T.obj _ _ b3 b hb;exact(I10.pin (b,o) (hJ _ (hJ _ (p8 hb e)))).2.1
   cases ok with
   | false=>exact again I9 q9
   | true=>
     rw[lx rfl];refine thn (ν.2.2 _ s9 δ H9 _ I9 q9) λy β ⟨v',γ,I10,e4,d2,c5,α⟩=>?_;refine thn (fc (X:=Y) _ β δ γ @bx [v'] @bx [y] (λ_ H'=>H'=upd γ G.heap.objs.size (!A (ys++[v']))) I10 rfl (!bc e4) ⟨_,ys,v',rfl,rfl,d2,c5,rfl⟩) λ_ f8 ⟨_,g0,f7,_,f5⟩=>?_;subst f5;exact again f7 α
 exact codeAny_compStart_list loop (T.self X.A 0 _ _ _ c2 loop)
theorem bL {osc:Yp} {ON N:B'} {n:Nat} {fx:C'} {sc:Yp} {θ tg iter:W5} {L:eP W5} {pos:Pos} {δ:TI} {g:TG} {tc:TT} {te:TE}
  (G:@aQ) (ho:X.env.scope=osc) (ψ:X.N=ON) (S:@cY) (hi:PI X tg iter δ) (η:Js n g)
  (hb:∀α C fp s H,PG (oC X N sc α C fp s H) tg g/\PTs (oC X N sc α C fp s H) L tc/\PE (oC X N sc α C fp s H) θ te)
  (hs:∀x,foldedSetIterable iter X.env x=pure x:=by intro _;rfl):!F (!bF θ [⟨tg,iter,L,0⟩] sc) (NG n fx δ g tc te):=by
 intro pins s σ H Q I h;have S:=ng.of S;obtain⟨α,ι,Z,Y⟩:=Ah sc X.env λy ζ hf=>I.ok.has y.1 (by show X.env.scope.names.lookup y.1=aY .cell∨X.env.scope.names.lookup y.1=aY .free;rw[ho];exact S.fre y ζ hf);rw[eval_ListComp];refine ao0 (use:=gg) rfl hs ι S.kind S.own (DJ (RR:=fun γ C=>compPost @S X.A X.xe gg (EP X pins σ Q) γ C) G ho ψ S Z Y hi η hb I h ?_);intro D C H' s' I' hm hf q;obtain⟨m,hm⟩:=hm;obtain⟨ε,π,ρ,ο,ξ,ν⟩:=hf;exact⟨m,hm,λh' β=>⟨@W,H',I'.turned (t':=s'.toks) (λb o hb e=>(β.2 b hb).trans e) ε π ο ξ ν,rfl,q⟩⟩
theorem bP {i:Nat} {x:kv} {α:Pos} {L:Pos} {osc:Yp} {ON N:B'} {n:Nat} {fx:C'} {sc:Yp} {θ tg iter:W5} {G:eP W5} {pos:Pos} {ρ:TI} {g:TG} {tc:TT} {te:TE}
  (ν:X.N.Nodup) (hx:X.N[i]? =aY x) (hl:X.env.scope.names.lookup x=aY .local) (ζ:swapsWith (!bF θ [⟨tg,iter,G,0⟩] sc) (aY (!aU α)) L.line X.env=pure true)
  (Y:@aQ) (ho:X.env.scope=osc) (ψ:X.N=ON) (S:@cY) (hi:PI X tg iter ρ) (gk:Js n g)
  (hb:∀δ C fp s H,PG (oC X N sc δ C fp s H) tg g/\PTs (oC X N sc δ C fp s H) G tc/\PE (oC X N sc δ C fp s H) θ te)
  (hs:∀x,foldedSetIterable iter X.env x=pure x:=by intro _;rfl):PS X (.Assign [.Name x α] (!bF θ [⟨tg,iter,G,0⟩] sc) L) (tAsg (NG n fx ρ g tc te) (L8 i)):=by
 intro pins s σ H D I h;have S:=ng.of S;obtain⟨δ,ι,γ,β⟩:=Ah sc X.env λy ω hf=>I.ok.has y.1 (by show X.env.scope.names.lookup y.1=aY .cell∨X.env.scope.names.lookup y.1=aY .free;rw[ho];exact S.fre y ω hf);rw[exec_Assign_Name_used _ _ _ _ ζ];refine gz (wpAny_standAt (gz ?_));show lT _ X.A (do let _ <-comprehension (!bF θ [⟨tg,iter,G,0⟩] sc) sc X.env _ (newList []) false (!aw iter) (aY (assign (!aU α) X.env))) _ _ s
 refine gz (thn (ao0 (use:=aY (assign (!aU α) X.env)) (Q:=λ_ s'=>SP X pins D .next s') rfl hs ι S.kind S.own
  (DJ (RR:=fun π C=>compPost @S X.A X.xe (aY (assign (!aU α) X.env)) (λ_ s'=>SP X pins D .next s') π C) Y ho ψ S γ β hi gk hb I h ?_)) λ_ s' q=>oD (oD q))
 intro φ C H' s' I' hm hf q;obtain⟨m,hm⟩:=hm;obtain⟨ε,υ,f2,f3,τ,f5⟩:=hf;show lT _ X.A (assign (!aU α) X.env (!j φ)) _ _ _;refine au2 (BU I' ν hx (!E hl) (v:= .ref φ) rfl (fun χ I2 ξ=>?_) (!I hl));obtain⟨a,η,ha⟩:=ξ
 have ο:C≠a:=by
  rcases ha with z | z
  ·rw[z];exact υ
  ·exactλe=>τ _ _ z e.symm
 exact⟨m,hm.sameBut η ο,λh' Z=>⟨_,H',I2.turned (t':=χ.toks) (λb o hb e=>(Z.2 b hb).trans e) ε υ f3 τ f5,q⟩⟩
end
section
variable {K:b'} {n:Nat} {fx:C'} {g:TG} {tc:TT} {te:TE} {σ:St} {H1:Hp} {D:ee} {Q:Hp->Prop}
theorem d5 {lo:Int} {k:Nat} (Z:Nat->eP V->Hp->Prop) (h0:Z 0 [] (!X H1 []))
  (hs:∀i ys H,i < k->Z i ys H->g (.int (lo + i)) (d8 n fx σ) H λG γ=>tc G γ λb β=>if b=true then te G β λv α=>α D=aY @Y/\ys.length < ic/\Z @H @a9 (!X α @a9) else Z @H ys β)
  (hd:∀ys H,Z k ys H->Q H):
  ∃W:Nat->Nat->eP V->Hp->Prop,(∃m,W 0 m [] (!X H1 []))/\∀i m ys H2,W i m ys H2->(!bM (Itr lo k))∨
    ((Itr lo k).go i H2/\∃N:eP V->Hp->Prop,(∀L H',N L H'->∃δ,δ < m/\W @H δ L H')/\∀x ε,(Itr lo k).yld i H2 x ε->g x (d8 n fx σ) ε λG γ=>tc G γ λb β=>
      if b=true then te G β λv α=>α D=aY @Y/\ys.length < ic/\N @a9 (!X α @a9) else N ys β):=by
 refine⟨λi m ys H=>m=k - i/\i<=k/\Z i ys H,⟨k,@C,Xy _,h0⟩,?_⟩;rintro i m ys H ⟨rfl,hi,p⟩;by_cases Y:i < k
 ·refine !I ⟨Y,Z @H,λL H' ζ=>⟨k - @H,by omega,rfl,Y,ζ⟩,λx H' y=>?_⟩;obtain⟨e,y⟩:=y;subst e;subst y;exact hs i ys _ Y p
 ·have e:i=k:=by omega
  subst e;exact !E ⟨mc _,hd ys H p⟩
theorem aI {a:ee} {xs:eP V} (L:Nat->eP V->Hp->Prop) (h0:L 0 [] (!X H1 [])) (hl:∀i ys H,i<=xs.length->L i ys H->SqL K H a xs)
  (hs:∀i x ys H,xs[i]? =aY x->L i ys H->g x (d8 n fx σ) H λG γ=>tc G γ λb β=>if b=true then te G β λv α=>α D=aY @Y/\ys.length < ic/\L @H @a9 (!X α @a9) else L @H ys β)
  (hd:∀ys H,L xs.length ys H->Q H):
  ∃W:Nat->Nat->eP V->Hp->Prop,(∃m,W 0 m [] (!X H1 []))/\∀i m ys H2,W i m ys H2->(!bM (Itl K a))∨
    ((Itl K a).go i H2/\∃N:eP V->Hp->Prop,(∀Y H',N Y H'->∃δ,δ < m/\W @H δ Y H')/\∀x ε,(Itl K a).yld i H2 x ε->g x (d8 n fx σ) ε λG γ=>tc G γ λb β=>
      if b=true then te G β λv α=>α D=aY @Y/\ys.length < ic/\N @a9 (!X α @a9) else N ys β):=by
 refine⟨λi m ys H=>m=xs.length - i/\i<=xs.length/\L i ys H,⟨xs.length,@C,Xy _,h0⟩,?_⟩;rintro i m ys H ⟨rfl,hi,p⟩;have q:=hl i ys H hi p;by_cases Z:i < xs.length
 ·refine !I ⟨⟨xs,xs[i],q,by simp[Z]⟩,L @H,λY H' ζ=>⟨xs.length - @H,by omega,rfl,Z,ζ⟩,λx H' y=>?_⟩;obtain⟨e,y⟩:=y;subst e;exact hs i x ys _ (y xs q) p
 ·have e:i=xs.length:=by omega
  subst e;exact !E ⟨⟨xs,q,mc _⟩,hd ys H p⟩
theorem qg {a:ee} {xs:eP V} (L:Nat->eP V->Hp->Prop) (h0:L 0 [] (!X H1 [])) (hl:∀i ys H,i<=xs.length->L i ys H->SqT K H a xs)
  (hs:∀i x ys H,xs[i]? =aY x->L i ys H->g x (d8 n fx σ) H λG γ=>tc G γ λb β=>if b=true then te G β λv α=>α D=aY @Y/\ys.length < ic/\L @H @a9 (!X α @a9) else L @H ys β)
  (hd:∀ys H,L xs.length ys H->Q H):
  ∃W:Nat->Nat->eP V->Hp->Prop,(∃m,W 0 m [] (!X H1 []))/\∀i m ys H2,W i m ys H2->(!bM (Itt K a))∨
    ((Itt K a).go i H2/\∃N:eP V->Hp->Prop,(∀Y H',N Y H'->∃δ,δ < m/\W @H δ Y H')/\∀x ε,(Itt K a).yld i H2 x ε->g x (d8 n fx σ) ε λG γ=>tc G γ λb β=>
      if b=true then te G β λv α=>α D=aY @Y/\ys.length < ic/\N @a9 (!X α @a9) else N ys β):=by
 refine⟨λi m ys H=>m=xs.length - i/\i<=xs.length/\L i ys H,⟨xs.length,@C,Xy _,h0⟩,?_⟩;rintro i m ys H ⟨rfl,hi,p⟩;have q:=hl i ys H hi p;by_cases Z:i < xs.length
 ·refine !I ⟨⟨xs,xs[i],q,by simp[Z]⟩,L @H,λY H' ζ=>⟨xs.length - @H,by omega,rfl,Z,ζ⟩,λx H' y=>?_⟩;obtain⟨e,y⟩:=y;subst e;exact hs i x ys _ (y xs q) p
 ·have e:i=xs.length:=by omega
  subst e;exact !E ⟨⟨xs,q,mc _⟩,hd ys H p⟩
end
def nN (K:b') (H:Hp) (x:V) (k:X9):Prop:=match x with
 | .non=>k="NoneType"
 | .bl _=>k="bool"
 | .int _=>k="int"
 | .str _=>k="str"
 | .ref p=>(k="list"/\∃xs,SqL K H p xs)∨(k="tuple"/\∃xs,SqT K H p xs)∨(k="dict"/\∃kvs,Rd H p @aA)
 | _=>False
noncomputable def subB (k T:X9):Bool:=k == T||(k == "bool"&&T == "int")
noncomputable def rIsi (K:b'):eP V->Hp->VK->Prop:=λxs H Q=>∃x k T,xs=[x,.ty T]/\nN K H x k/\T∈["int","bool","str","list","tuple","dict"]/\Q (.bl (subB k T)) H
section
variable {X:Cx}
theorem Pf:oJ X (!ai "isinstance") (rIsi X.K):=by
 intro pins s σ H xs us Q I r h;obtain⟨x,k,T,rfl,hk,hT,q⟩:=h;obtain⟨u,v,rfl,Y,rt⟩:=Nx r;cases rt;have ε:∀b,b=subB k T->EP X pins σ Q (.bool b) s:=λb e=>⟨.bl b,H,I,rfl,by rw[e];exact q⟩;have G:∀b,b=subB k T->EP X pins σ Q (.bool b) {s with toks:=s.toks + 1}:=λb e=>⟨.bl b,H,@bk,rfl,by rw[e];exact q⟩;simp only[x8,YZ,ag8] at hT;cases x with
 | non=>
   cases Y;cases hk;rcases hT with rfl | rfl | rfl | rfl | rfl | rfl
   ·exact IsiPair.NoneType_int @a3
   ·exact IsiPair.NoneType_bool @a3
   ·exact IsiPair.NoneType_str @a3
   ·exact IsiPair.NoneType_list @a3
   ·exact IsiPair.NoneType_tuple @a3
   ·exact IsiPair.NoneType_dict @a3
 | bl b=>
   cases Y;cases hk;rcases hT with rfl | rfl | rfl | rfl | rfl | rfl
   ·exact IsiPair.bool_int (ε _ @D)
   ·exact IsiPair.bool_bool (ε _ @D)
   ·exact IsiPair.bool_str @a3
   ·exact IsiPair.bool_list @a3
   ·exact IsiPair.bool_tuple @a3
   ·exact IsiPair.bool_dict @a3
 | int i=>
   obtain⟨t,rfl⟩:=Y;cases hk;rcases hT with rfl | rfl | rfl | rfl | rfl | rfl
   ·exact IsiPair.int_int (ε _ @D)
   ·exact IsiPair.int_bool @a3
   ·exact IsiPair.int_str @a3
   ·exact IsiPair.int_list @a3
   ·exact IsiPair.int_tuple @a3
   ·exact IsiPair.int_dict @a3
 | str z=>
   obtain⟨t,rfl⟩:=Y;cases hk;rcases hT with rfl | rfl | rfl | rfl | rfl | rfl
   ·exact IsiPair.str_int @a3
   ·exact IsiPair.str_bool @a3
   ·exact IsiPair.str_str (ε _ @D)
   ·exact IsiPair.str_list @a3
   ·exact IsiPair.str_tuple @a3
   ·exact IsiPair.str_dict @a3
 | ref p=>
   cases Y;rcases hk with ⟨rfl,xs,Z⟩ | ⟨rfl,xs,Z⟩ | ⟨rfl,kvs,Z⟩
   ·obtain⟨its,_,pl,_⟩:=I.list Z;obtain⟨o,ho,L,_⟩:=pl.isList;rcases hT with rfl | rfl | rfl | rfl | rfl | rfl
    ·exact IsiPair.list_int ho L @a3
    ·exact IsiPair.list_bool ho L @a3
    ·exact IsiPair.list_str ho L @a3
    ·exact IsiPair.list_list ho L (ε _ @D)
    ·exact IsiPair.list_tuple ho L @a3
    ·exact IsiPair.list_dict ho L @a3
   ·obtain⟨its,_,pl,_⟩:=I.tuple Z;obtain⟨o,ho,L,_⟩:=pl;rcases hT with rfl | rfl | rfl | rfl | rfl | rfl
    ·exact IsiPair.tuple_int ho L @a3
    ·exact IsiPair.tuple_bool ho L @a3
    ·exact IsiPair.tuple_str ho L @a3
    ·exact IsiPair.tuple_list ho L @a3
    ·exact IsiPair.tuple_tuple ho L (ε _ @D)
    ·exact IsiPair.tuple_dict ho L @a3
   ·obtain⟨_,_,_,_,o,_,_,ho,ex,_⟩:=Z.ok I.hok;have L:o.cls= .type "dict":=ex.1;rcases hT with rfl | rfl | rfl | rfl | rfl | rfl
    ·exact IsiPair.dict_int ho L @a3
    ·exact IsiPair.dict_bool ho L @a3
    ·exact IsiPair.dict_str ho L @a3
    ·exact IsiPair.dict_list ho L @a3
    ·exact IsiPair.dict_tuple ho L @a3
    ·exact IsiPair.dict_dict ho L (ε _ @D)
 | _=>exact X4 hk
noncomputable def Ui:V->eP V->Hp->VK->Prop:=λx xs H Q=>∃i,x= .int i/\xs=[]/\Q (.int (xo i:Nat)) H
theorem rH:MtR X "int.bit_length" Ui:=by
 intro pins s σ H x xs v us Q I G rs h;obtain⟨i,rfl,rfl,q⟩:=h;obtain⟨t,rfl⟩:=G;cases rs;exact call_int_bit_length @d2
noncomputable def eqVs (xs ys:eP V):Bool:=xs.length == ys.length&&(qB xs.length).all λj=>eqV (!bz j) (ys.getD j .non)
noncomputable def rEqL (K:b') (neg:Xb):R2:=λx y H Q=>∃a b xs ys,x= .ref a/\y= .ref b/\SqL K H a xs/\SqL K H b ys/\xs.all pD=true/\ys.all pD=true/\Q (.bl (if neg then !eqVs xs ys else eqVs xs ys)) H
theorem tR {xs:eP V} {us:E'} (r:Vals xs us) {j:Nat} (h:j < us.toArray.size):RelV (!bz j) (us.toArray[j]):=by
 have hl:=r.length;have h':j < us.length:=by simpa using h
 obtain⟨u,e,G⟩:=r.get (i:=j) (x:=xs.getD j .non) (by rw[dt,eH @A];rfl)
 have L:us.toArray[j]=u:=by
  rw[eH h'] at e;have:=qA e;simpa using this
 rw[L];exact G
theorem FD {xs:eP V} (f:xs.all pD=true) (j:Nat):pD (!bz j)=true:=by
 rw[dt];cases e:xs[j]? with
 | none=>rfl
 | some x=>exact Xn.mp f x (eO e)
theorem Gm {pins:D'} {σ:St} {H:Hp} {s:ik} {a b:ee} {xs ys:eP V} {A:W6} (hu:A.units < cLine) (I:@M) (ha:SqL X.K H a xs) (hb:SqL X.K H b ys) (fx:xs.all pD=true) (Y:ys.all pD=true):
  SeqAt.RcAt A s @af (!j b) (eqVs xs ys)/\SeqAt.RcNeAt A s @af (!j b) (!eqVs xs ys):=by
 obtain⟨its,r,pl,_⟩:=I.list ha;obtain⟨G,r',ω,_⟩:=I.list hb;have L:=r.length;have Z:=r'.length;by_cases hl:xs.length=ys.length
 ·have e:eqVs xs ys=(qB its.toArray.size).all λj=>eqV (!bz j) (ys.getD j .non):=by
   unfold eqVs;rw[hl,XG,XF,y7,<-L,hl]
  rw[e];have hz:its.toArray.size=G.toArray.size:=by simp;omega
  have he:∀j (h1:j < its.toArray.size) (h2:j < G.toArray.size),an8 A.in1 s its.toArray[j] G.toArray[j] (eqV (!bz j) (ys.getD j .non)):=λj h1 h2=>
   Qo (tR r h1) (tR r' h2) (FD fx j) (FD Y j)
  exact⟨SeqAt.RcAt.lists pl.isList ω.isList hz hu he,SeqAt.RcNeAt.lists pl.isList ω.isList hz hu he⟩
 ·have e:eqVs xs ys=false:=by
   unfold eqVs;rw[W2.mpr hl,WT]
  rw[e];have hz:(its.toArray.size != G.toArray.size)=true:=by simp;omega
  exact⟨SeqAt.RcAt.lists_lengths pl.isList ω.isList hz hu,SeqAt.RcNeAt.lists_lengths pl.isList ω.isList hz hu⟩
theorem UJ (hu:@cG):!aK X .Eq (rEqL X.K false):=by
 intro pins s σ H x y v u Q I G L h;obtain⟨a,b,xs,ys,rfl,rfl,ha,hb,fx,Y,q⟩:=h;cases G;cases L;exact(Gm hu I ha hb fx Y).1 X.prog X.w X.xe _ ⟨.bl _,H,I,rfl,q⟩
theorem UH (hu:@cG):!aK X .NotEq (rEqL X.K true):=by
 intro pins s σ H x y v u Q I G L h;obtain⟨a,b,xs,ys,rfl,rfl,ha,hb,fx,Y,q⟩:=h;cases G;cases L;exact(Gm hu I ha hb fx Y).2 X.prog X.w X.xe _ ⟨.bl _,H,I,rfl,q⟩
end
theorem Mg {xs:eP V} (f:xs.all pD=true):eqVs xs xs=true:=by
 unfold eqVs;rw[XG,XF,Xn];intro j _;have:=FD f j;generalize xs.getD j .non=x at this;cases x<;>first | rfl | exact XG _ | cases this
theorem fz (a b:Nat):Y0 (a:Int) (b:Int)=((a&&&b:Nat):Int):=by
 unfold Y0;rw[gB (ae0 a),gB (ae0 b)];simp
theorem K8:typeLookup (!aj "list_reverseiterator") "__len__"=pure none:=by rw[ZH,YE];kernel_rfl
theorem OS:typeLookup (!aj "list_reverseiterator") "__length_hint__"=pure (aY (!ai "list_reverseiterator.__length_hint__")):=by rw[ZH,YE];kernel_rfl
section
variable {P0:ry} {w0:z5} {A0:W6} {E0':Cr} {t0:ik}
theorem IK {R:S'} {Z l:ee} {items:G'} (ο:A0.handled=gg) (η:l≠Z) (Y:t0.heap.IsRevIter Z l ((items.size:Int) - 1)) (hl:t0.heap.IsList l items) (hz:items.size<=ic)
  (S:ee) (res:i') (α:Nat) (π:t0.heap.get? S=aY {cls:= .type "list",data:= .seq #[] α}) (ε:S≠Z) (ι:S≠l)
  (ρ:∀h' tk G β,(∀b o,b≠S->b≠Z->t0.heap.get? b=aY o->h'.get? b=aY o)->h'.get? S=aY {cls:= .type "list",dict:=gg,data:= .seq G β,slots:=#[]}->
   ItemsOf (λi v=>items[items.size - 1 - i]? =aY v) G items.size->R (.ok (.ret res)) {t0 with heap:=h',toks:=tk}):
  lT (rb P0 w0) A0.in1 (W4 @b2 (!j Z) res)
   (λfin s'=>match fin with | .done f=>R (.ok f) s' | .again β=>β.quiet=true/\codeAny (rb P0 w0) A0 β R s') (!bX e) t0:=by
 have W:=(Walks.listRev (prog:=P0) (w:=w0) (A:=A0.in1) ο Z l η items).toS;have ζ:(0:Nat)<=items.size/\t0.heap.IsRevIter Z l ((items.size:Int) - 1 - ((0:Nat):Int))/\t0.heap.IsList l items:=⟨Xy _,by simpa using Y,hl⟩;have h1:YA @b2 (!j Z)=false:=by simp[YA,ε]
 have ξ:S∉[Z,l]:=by simp[ε,ι]
 unfold W4;refine gz (ag9 Y.typeIs ?_);rw[kf (by rw[h1];decide)];refine gz (wpAny_pyIter_revIter Y ?_);refine gz (YC ?_);unfold ad5;refine gz (ZF Y.typeIs K8 ?_);show lT _ A0.in1 (specialOf (vu Z) (Yq "__length_hint__") >>=_) _ _ _;refine gz (ZF Y.typeIs OS ?_)
 (generalize γ:("list_reverseiterator.__length_hint__":X9)=id0;wp_delta;rw[show splitId id0=aY ("list_reverseiterator","__length_hint__") from by subst γ;decide +kernel];subst γ)
 refine gz (wpAny_isInstance (b:=true) Y.typeIs (by rw[isSubtype_type];kernel_rfl) ?_);refine oD ?_;rw[kf @D];refine oD ⟨aa6 F.plain_extend_loop _,codeAny_extend_loopS W hz S ξ res items.size 0 t0 #[] α rfl (Xy _) ζ π (ItemsOf.nil _) λs' G β hm L δ=>?_⟩;rw[Moved.eq_with hm];refine ρ s'.heap s'.toks G β (λb o hb θ e=>hm.heap b o (fun ν=>?_) e) L δ;rcases x8.mp ν with z | z
 ·exact hb z
 ·exact θ (eR.mp z)
theorem OQ {R:S'} {Y l:ee} {items:G'} (ι:A0.handled=gg) (δ:l≠Y) (ε:t0.heap.IsRevIter Y l ((items.size:Int) - 1)) (hl:t0.heap.IsList l items) (hz:items.size<=ic)
  (S:ee) (θ:t0.heap.get? S=aY {cls:= .type "list",data:= .seq #[]}) (β:S≠Y) (α:S≠l)
  (ξ:∀h' tk G Z,(∀b o,b≠S->b≠Y->t0.heap.get? b=aY o->h'.get? b=aY o)->h'.get? S=aY {cls:= .type "list",dict:=gg,data:= .seq G Z,slots:=#[]}->
   ItemsOf (λi v=>items[items.size - 1 - i]? =aY v) G items.size->R (.ok (.ret .none)) {t0 with heap:=h',toks:=tk}):
  lT (rb P0 w0) A0.in1 (Builtin.«list.__init__» ⟨[.ref S,.ref Y],[]⟩)
   (λfin s'=>match fin with | .done f=>R (.ok f) s' | .again Z=>Z.quiet=true/\codeAny (rb P0 w0) A0 Z R s') (!bX e) t0:=by
 show lT _ _ (do let γ <-YO @b2;Zs @b2 (λ_=>#[]);letGo γ.toList.reverse;W4 @b2 (!j Y) .none) _ _ t0;refine gz ?_;unfold YO;refine gz (YR θ rfl (oD ?_));show lT _ _ (updateSeq S (λ_=>#[]) >>=λ_=>letGo (#[]:G').toList.reverse >>=λ_=>W4 @b2 (!j Y) .none) _ _ t0;refine gz (ZE θ rfl ?_);have η:=XQ (Xd (λ_=>(#[]:G'))) θ rfl;have oth:∀b o,b≠S->t0.heap.get? b=aY o->(t0.heap.update S (Xd (λ_=>(#[]:G')))).get? b=aY o:=λb o hb e=>(X1 _ _ (wh hb)).trans e;refine gz (wpAny_letGo ?_);refine IK ι δ (ε.at λo e=>oth Y o (wh β) e) (let ⟨o,e,c⟩:=hl;⟨o,oth l o (wh α) e,c⟩) hz S .none _ η β α λh' tk G Z hk L ν=>?_;exact ξ h' tk G Z (λb o hb ζ e=>hk b o hb ζ (oth b o hb e)) L ν
theorem Bw {Q:Cr} {α l:ee} {items:G'} (θ:A0.handled=gg) (ε:l≠α) (β:t0.heap.IsRevIter α l ((items.size:Int) - 1)) (hl:t0.heap.IsList l items) (hz:items.size<=ic)
  (Y:∀h' tk G ζ,(∀b o,b≠α->t0.heap.get? b=aY o->h'.get? b=aY o)->h'.get? t0.heap.objs.size=aY {cls:= .type "list",dict:=gg,data:= .seq G ζ,slots:=#[]}->
   ItemsOf (λi v=>items[items.size - 1 - i]? =aY v) G items.size->Q (!j t0.heap.objs.size) {t0 with heap:=h',toks:=tk}):
  lT (rb P0 w0) A0 (call @bA [.ref α]) Q E0' t0:=by
 have δ:α < t0.heap.objs.size:=let ⟨o,e,_⟩:=β;hK e
 have γ:l < t0.heap.objs.size:=let ⟨o,e,_⟩:=hl;hK e
 refine am1 (Q₁:=λobj Z=>obj= .ref t0.heap.objs.size/\Z={t0 with heap:=t0.heap.push {cls:= .type "list",data:= .seq #[]}}) F.called_list (F.typeCall_list_1 _) F.entry_list_init (code_list_new _ @cd) λobj Z h₁=>?_;obtain⟨rfl,rfl⟩:=h₁;have η:(t0.heap.push {cls:= .type "list",data:= .seq #[]}).get? t0.heap.objs.size=aY {cls:= .type "list",data:= .seq #[]}:=kh _ rfl;refine⟨⟨_,η,rfl⟩,F.args_list_init_2 _ _,OQ (A0:=A0.in1) θ ε (β.at λo e=>gn _ e) (let ⟨o,e,c⟩:=hl;⟨o,gn _ e,c⟩) hz _ η (wh (y1 δ)) (wh (y1 γ)) λh' tk G ζ hk L ν=>?_⟩;exact⟨rfl,Y h' tk G ζ (λb o hb e=>hk b o (y1 @aM) hb (gn _ e)) L ν⟩
end
theorem Inv.laidT {X:Cx} {pins:D'} {σ:St} {H:Hp} {s:ik} {h':WN} {a L:ee} {o:HO} {t':Nat} (I:@M) (k:∀b u,b≠L->s.heap.get? b=aY u->h'.get? b=aY u) (Z:@cA)
  (δ:iu X.prog X.w (!V a o) h' a o) (fp:FpOk X pins H L):Inv X pins σ (!V a o) {s with heap:=h',toks:=t'}:=by
 obtain⟨ε,α,ζ,ψ,γ,β⟩:=fp;have fr:H a=none:=I.hok.fresh Z;have χ:∀b u,H b=aY u->b≠L:=λb u e z=>by rw[z,ε] at e;cases e
 have G:∀{b:ee},b∉[L]->b≠L:=λhb z=>hb (by rw[z];exact eR.mpr rfl)
 refine I.step (g':=s.gens) (d':=s.drawn) (ch:=[L]) (λb hb=>?_) (λb ob _ _ Y e _=>k b ob (G Y) e) (λb ob _ _ Y e _=>⟨ob.slots,k b ob (G Y) e⟩) (λb ob _ e n=>?_) (λb ob Y e=>⟨ob,k b ob (G Y) e⟩)
  (λb xs e=>by rw[aD (!L fr)];exact e) (λb ob u e=>by rw[aD (!L fr)];exact e) (λb ps e=>⟨#[],by rw[aD (!L fr),e];simp⟩) (λm hm=>?_) (λb u e=>?_) I.bare
 ·have e:b=L:=eR.mp hb;subst e;exact⟨ψ,α,γ,β⟩
 ·rw[aD (y1 (gA @aM Z))];exact n
 ·obtain⟨ob,es,ep,ho,r⟩:=hm;exact⟨ob,es,ep,k _ ob (wh α) ho,r⟩
 ·by_cases hb:b=a
  ·subst hb;rw[aw] at e;cases e;exact δ
  ·rw[aD hb] at e;refine(I.hok b u e).stay (λc v Y q=>k c v ?_ q) (λc q=>by rw[aD (ao q fr)];exact q) λc xs q=>by rw[aD (ao q fr)];exact q
   rcases Y with z | z
   ·rw[z];exact χ b u e
   ·exact χ c _ z
theorem LM {its:E'} {G:G'} (h:ItemsOf (λi v=>its.toArray[its.toArray.size - 1 - i]? =aY v) G its.toArray.size):G=its.reverse.toArray:=by
 obtain⟨h1,h2⟩:=h;apply Array.ext_getElem?;intro i;have hs:its.toArray.size=its.length:=by simp
 by_cases hi:i < G.size
 ·have e:=h2 i G[i] (YJ hi);rw[YJ hi,<-e];rw[ab3,ab3,List.getElem?_reverse @A,hs]
 ·rw[ak6 @A,ak6 (by simp;omega)]
noncomputable def tRev (K:b') (te:TE):TE:=fun σ H Q=>te σ H λx H1=>∃a xs,x= .ref a/\SqL K H1 a xs/\∀l,H1 l=gg->Q @aC (!aB H1 l xs.reverse)
section
variable {X:Cx}
theorem HP {e:W5} {te:TE} {p1 p2 β η:Pos} (g1:Gl X "list") (g2:Gl X "reversed") (n1:X.mg "list"=gg) (ι:X.mg "reversed"=gg) (hc:@aQ) (he:!F e te)
  (h1:pT [aq6 (.Name "reversed" p1) [e] [] p2] X.env=[(false,eval (!aG "reversed" p1 [e] [] p2) X.env)]:=by rfl) (h2:pT [e] X.env=[(false,eval e X.env)]:=by rfl):
  PE X (!aG "list" β [.Call (.Name "reversed" p1) [e] [] p2] [] η) (tRev X.K te):=by
 intro pins s σ H Q I h
 have Y:∀ζ:Cr,(∀v L,(∃a xs its H1 r,v= .ref r/\SqL X.K H1 a xs/\Vals xs its/\a≠r/\Inv X pins σ H1 L/\L.heap.IsRevIter r a ((its.toArray.size:Int) - 1)/\L.heap.IsList a its.toArray/\its.length<=ic/\H1 r=gg/\FpOk X pins H1 r/\(∀l,H1 l=gg->Q @aC (!aB H1 l xs.reverse)))->ζ v L)->
   lT @S X.A (!aw (!aG "reversed" p1 [e] [] p2)) ζ X.xe s:=fun ζ G=>by
  refine ai6 (mR I g2 ι PyProof.Rows.boot_reversed (wq (thn (aa he ae h2 p2 pins s σ H (λvs H1=>match vs with | [x]=>∃a xs,x= .ref a/\SqL X.K H1 a xs/\∀l,H1 l=gg->Q @aC (!aB H1 l xs.reverse) | _=>False) I h) λus L ⟨vs,H1,I1,α,β⟩=>?_) h2 rfl))
  match vs,α,β with
  | [x],α,⟨a,xs,π,γ,q⟩=>
  obtain⟨u,rfl,θ⟩:=α.one;subst π;cases θ;obtain⟨its,Z,pl,hz⟩:=I1.list γ;have lt:a < L.heap.objs.size:=let ⟨o,e,_⟩:=pl.isList;hK e
  refine call_reversed_list pl.isList (G _ _ ⟨a,xs,its,H1,L.heap.objs.size,rfl,γ,Z,y1 lt,I1.kept (t':=L.toks) λb o e=>gn _ e,⟨_,kh _ rfl,rfl,rfl⟩,let ⟨o,e,c⟩:=pl.isList;⟨o,gn _ e,c⟩,by rw[<-Z.length];exact hz,I1.fresh,I1.fpOk @U I1.fresh,q⟩)
 refine ai6 (mR I g1 n1 qE (wq (Q:=EP X pins σ Q) ?_ h1 rfl));rw[h1];show lT _ _ (spliced ((false,eval (!aG "reversed" p1 [e] [] p2) X.env)::backTo η [])) _ _ s;refine Zv (Y _ λv L ξ=>ZM ?_);obtain⟨a,xs,its,H1,r,rfl,γ,Z,δ,I1,ε,hl,hz,hf,fp,q⟩:=ξ;refine Bw (I1.ok.hd hc) δ ε hl (by simpa using hz) λh' tk ρ c hk ο ν=>?_;have e:=LM ν;subst e;exact⟨!j L.heap.objs.size,!aB H1 L.heap.objs.size xs.reverse,I1.laidT hk @U ⟨by rw[ao2,Z.length];exact hz,its.reverse,c,Z.reverse,ο⟩ fp,rfl,q _ I1.fresh⟩
end
section
variable {X:Cx} {K:b'}
theorem a9 (h:X.K=K):IxR X (rIxL K):=by subst h;exact Sb
theorem aG (h:X.K=K):IxR X (rIxT K):=by subst h;exact Va
theorem jX (h:X.K=K):SlR X (rSlL K):=by subst h;exact Rh
theorem RO (h:X.K=K) (hu:@cG):!aK X .Eq (rEqL K false):=by subst h;exact UJ hu
theorem KR (h:X.K=K) (hu:@cG):!aK X .NotEq (rEqL K true):=by subst h;exact UH hu
theorem mX (h:X.K=K):oJ X (!ai "isinstance") (rIsi K):=by subst h;exact Pf
noncomputable def rLen (K:b'):eP V->Hp->VK->Prop:=λxs H Q=>∃x n,xs=[x]/\LenV K x H n/\Q (.int n) H
theorem aZ (h:X.K=K):oJ X (!ai "len") (rLen K):=by subst h;exact Pe
noncomputable def EO (K:b'):eP V->Hp->VK->Prop:=λxs H Q=>∃p ys,xs=[.ref p]/\(SqL K H p ys∨SqT K H p ys)/\∀l,H l=gg->Q @aC (!aB H l ys)
theorem dc (h:X.K=K):oJ X @bA (EO K):=by subst h;exact DL
noncomputable def Ky (K:b'):eP V->Hp->VK->Prop:=λxs H Q=>∃p ys,xs=[.ref p]/\((SqL K H p ys/\∀l,H l=gg->Q @aC (!V l (!H ys)))∨(SqT K H p ys/\Q @P H))
theorem eM (h:X.K=K):oJ X (!aj "tuple") (Ky K):=by subst h;exact Bv
theorem aH {tg l:W5} {tl:TE} (h:X.K=K) (hl:!F l tl):PI X tg l (Vb K tl):=by subst h;exact RI hl
theorem kI {tg l:W5} {tl:TE} (h:X.K=K) (hl:!F l tl):PI X tg l (iTup K tl):=by subst h;exact Uz hl
theorem rC {o:W5} {to:TE} {name:kv} {apos cpos:Pos} {T id:X9} {r:V->eP V->Hp->VK->Prop} (h:X.K=K) (L:PlainAttrs T) (slot:Slot T name id) (G:typeOf (!ai id)=pure @cH) (hm:MtR X id r) (ho:!F o to)
  (η:attributeBase o name X.env (!aw o)=eval o X.env:=by rfl) (ζ:@c6=true:=by rfl):!F (!b6 o name apos [] [] cpos) (tBM0 K T r to):=by subst h;exact UF L slot G hm ho η ζ
theorem eV {o e:W5} {es:eP W5} {to:TE} {t:TA} {name:kv} {apos cpos:Pos} {T id:X9} {r:V->eP V->Hp->VK->Prop} (h:X.K=K) (Y:PlainAttrs T) (slot:Slot T name id) (L:typeOf (!ai id)=pure @cH) (hm:MtR X id r) (ho:!F o to) (ha:PA X @V t)
  (η:attributeBase o name X.env (!aw o)=eval o X.env:=by rfl)
  (G:((!aD cpos @V).all (λx=> !x.1)&&(!bB cpos [] X.env).all (λx=>x.1.isSome)
   &&decide ((@V).length + ([]:eP Keyword).length + (if ([]:eP Keyword).isEmpty then 0 else 1) < 30))=true:=by rfl)
  (ζ:@c6=true:=by rfl) (hs:pT @V X.env=(false,eval e X.env)::pT es X.env:=by rfl) (α:(!aD cpos es).any (·.1)=false:=by rfl):
  PE X (!b6 o name apos @V [] cpos) (tBM K T r to t):=by subst h;exact Wm Y slot L hm ho ha η G ζ hs α
end
noncomputable def Its (x:kv):It:=⟨λi _=>i < x.cps.size,λi H v H'=>H'=H/\∃c,x.cps[i]? =aY c/\v= .str ⟨#[c]⟩,λi _=>i=x.cps.size⟩
theorem F9 {P:ry} {w:z5} {K:b'} {tg:W5} {G:ee} {x:kv} {t:Tok} {n:X9}
  (hn:["enumerate","zip","dict_itemiterator","dict_reverseitemiterator","odict_iterator","itertools.zip_longest","itertools.pairwise"].contains n=false)
  (W:∀A:W6,A.handled=gg->Walks P w A G [G] [G] x.cps.size (SignAt x) (λi h=>h.IsStrIter G n x t i))
  (L:∀(A:W6) (i:Nat) (s:ik) (Q:Cr) (E:Cr),s.heap.IsStrIter G n x t i->Q (!j G) s->lT (rb P w) A (pyIter (!j G)) Q E s):
  Turn P w K tg (Its x) [G] G (λi h=>h.IsStrIter G n x t i) where
 mem:=by simp
 obj:=λi h st b hb=>by
  have e:b=G:=by simpa using hb
  subst e;obtain⟨o,e,c,d⟩:=st;exact⟨o,e,λv z=>by rw[d] at z;cases z⟩
 keep:=λi h h' st k=>let ⟨o,e,r⟩:=st;⟨o,k G @C o e,r⟩
 item:=by
  intro X γ hw υ β i pins s σ H E I hf st Y;subst γ hw υ;obtain⟨θ,η,ξ,ψ,ζ,δ⟩:=hf G @C;refine(W X.A (!aF β)).item i s _ _ Y st λv h' tk ν ε α=>?_;obtain⟨c,u,ι,rfl⟩:=ν;have Z:Inv X pins σ H {s with heap:=h',toks:=tk}:=I.turned (λb o hb e=>α b o (by simpa using hb) e) θ η ψ ζ δ;obtain⟨o,e,ο,d⟩:=id ε;exact⟨_,rfl,OV (s:={s with heap:=h',toks:=tk}) (n:=n) e ο d hn ⟨.str ⟨#[c]⟩,H,Z,⟨u,rfl⟩,⟨rfl,c,ι,rfl⟩,ε,λb hb=>(hf b hb).1⟩⟩
 done:=by
  intro X γ hw υ β i pins s σ H E I hf st Y;subst γ hw υ;obtain⟨θ,η,ξ,ψ,ζ,δ⟩:=hf G @C;have Y:i=x.cps.size:=Y;subst Y;exact(W X.A (!aF β)).done s _ _ st λh' tk α=>⟨rfl,I.turned (λb o hb e=>α b o (by simpa using hb) e) θ η ψ ζ δ⟩
 self:=L
noncomputable abbrev iStr (tl:TE):TI:=fun σ H R=>tl σ H λx H1=>∃z,x= .str z/\R (Its z) H1
section
variable {X:Cx} {tg:W5}
theorem UA {l:W5} {tl:TE} (hl:!F l tl):PI X tg l (iStr tl):=by
 intro pins s σ H R I h;refine thn (hl pins s σ H _ I h) λv G ⟨x,H1,I1,α,Y⟩=>?_;obtain⟨z,e,q⟩:=Y;subst e;obtain⟨t,rfl⟩:=α
 have fp:∀(o:Obj),∀b∈[G.heap.objs.size],FpOk X pins H1 b:=λo b hb=>by
  have e:b=G.heap.objs.size:=by simpa using hb
  subst e;exact !bl @U @U
 cases ha:z.cps.all (· < 128)
 ·refine wpAny_pyIter_wide ha ⟨G.heap.objs.size,[G.heap.objs.size],_,_,H1,rfl,I1.kept (t':=G.toks) λb o e=>gn _ e,
   F9 (n:="str_iterator") (t:=t) @D (λA L=>Walks.strWide L _ z t) (λ_ _ _ _ _ st h=>wpAny_pyIter_striter_wide st h),⟨_,kh _ rfl,rfl,rfl⟩,fp default,q⟩
 ·refine wpAny_pyIter_ascii ha ⟨G.heap.objs.size,[G.heap.objs.size],_,_,H1,rfl,I1.kept (t':=G.toks) λb o e=>gn _ e,
   F9 (n:="str_ascii_iterator") (t:=t) @D (λA L=>Walks.strAscii L _ z t) (λ_ _ _ _ _ st h=>wpAny_pyIter_striter_ascii st h),⟨_,kh _ rfl,rfl,rfl⟩,fp default,q⟩
end
section
variable {n:Nat} {fx:C'} {g:TG} {tc:TT} {te:TE} {σ:St} {H1:Hp} {D:ee} {Q:Hp->Prop}
theorem Pc {z:kv} (Y:Nat->eP V->Hp->Prop) (h0:Y 0 [] (!X H1 []))
  (hs:∀i c ys H,z.cps[i]? =aY c->Y i ys H->g (.str ⟨#[c]⟩) (d8 n fx σ) H λG γ=>tc G γ λb β=>if b=true then te G β λv α=>α D=aY @Y/\ys.length < ic/\Y @H @a9 (!X α @a9) else Y @H ys β)
  (hd:∀ys H,Y z.cps.size ys H->Q H):
  ∃W:Nat->Nat->eP V->Hp->Prop,(∃m,W 0 m [] (!X H1 []))/\∀i m ys H2,W i m ys H2->(!bM (Its z))∨
    ((Its z).go i H2/\∃N:eP V->Hp->Prop,(∀L H',N L H'->∃δ,δ < m/\W @H δ L H')/\∀x ε,(Its z).yld i H2 x ε->g x (d8 n fx σ) ε λG γ=>tc G γ λb β=>
      if b=true then te G β λv α=>α D=aY @Y/\ys.length < ic/\N @a9 (!X α @a9) else N ys β):=by
 refine⟨λi m ys H=>m=z.cps.size - i/\i<=z.cps.size/\Y i ys H,⟨z.cps.size,@C,Xy _,h0⟩,?_⟩;rintro i m ys H ⟨rfl,hi,p⟩;by_cases Z:i < z.cps.size
 ·refine !I ⟨Z,Y @H,λL H' ζ=>⟨z.cps.size - @H,by omega,rfl,Z,ζ⟩,λx H' y=>?_⟩;obtain⟨e,c,η,y⟩:=y;subst e;subst y;exact hs i c ys _ η p
 ·have e:i=z.cps.size:=by omega
  subst e;exact !E ⟨rfl,hd ys H p⟩
end
theorem Ha {ns:B'}:∀{us:E'},Vals (ns.map V.str) us->StrsAre us ns:=by
 induction ns with
 | nil=>intro us r;rw[af6] at r;cases r;exact .nil
 | cons n ns ih=>
   intro us r;rw[W'] at r;cases r with
   | cons α G=>
     obtain⟨t,e⟩:=α;subst e;exact .cons n t (ih G)
noncomputable def Ug (K:b'):V->eP V->Hp->VK->Prop:=λx xs H Q=>∃z D ys,x= .str z/\xs=[.ref D]/\SqL K H D (ys.map V.str)/\(ys.map (·.length)).sum + ys.length * z.length<=16777216/\Q (.str (an5 z ys)) H
noncomputable def Uk (K:b'):eP V->Hp->VK->Prop:=λxs H Q=>∃(a:ee) (bs:eP Xb),xs=[.ref a]/\SqL K H a (bs.map V.bl)/\Q (.bl (bs.all id)) H
noncomputable def Uj (K:b'):eP V->Hp->VK->Prop:=λxs H Q=>∃(a:ee) (bs:eP Xb),xs=[.ref a]/\SqL K H a (bs.map V.bl)/\Q (.bl (bs.any id)) H
section
variable {X:Cx} {K:b'}
theorem GF (h:X.K=K):MtR X "str.join" (Ug K):=by
 subst h;intro pins s σ H x xs v us Q I G rs h;obtain⟨z,D,ys,rfl,rfl,Z,hz,q⟩:=h;obtain⟨t,rfl⟩:=G;obtain⟨u,rfl,Y⟩:=wA rs;cases Y;obtain⟨its,L,pl,_⟩:=I.list Z;exact join_list pl.isList (Ha (by simpa using L)) hz λt' k=>⟨.str (an5 z ys),H,I.tok k,⟨t',rfl⟩,q⟩
theorem MH {bs:eP Xb} {its:E'} (G:Vals (bs.map V.bl) its) {i:Nat} {v:i'} (h:its.toArray[i]? =aY v):v= .bool (bs.getD i false):=by
 have h':its[i]? =aY v:=by simpa using h
 have hi:i < its.length:=(!K h').1;have hl:=G.length;rw[a'] at hl;obtain⟨u,e,r⟩:=G.get (i:=i) (x:= .bl (bs.getD i false)) (by rw[hB,eH @A,dt,eH @A];rfl);rw[h'] at e;cases e;exact r
theorem VE (bs:eP Xb):(qB bs.length).all (λi=>bs.getD i false)=bs.all id:=by
 rw[Yc,Xn,Xn];constructor
 ·intro h x G;obtain⟨i,hi,e⟩:=WW.mp G;have:=h i (W9.mpr hi);rw[dt,eH hi,e] at this;exact this
 ·intro h i hi;have hi:=W9.mp hi;rw[dt,eH hi];exact h _ (Xm hi)
theorem VC (bs:eP Xb):(qB bs.length).any (λi=>bs.getD i false)=bs.any id:=by
 rw[Yc,YH,YH];constructor
 ·rintro⟨i,hi,h⟩;have hi:=W9.mp hi;rw[dt,eH hi] at h;exact⟨_,Xm hi,h⟩
 ·rintro⟨x,G,h⟩;obtain⟨i,hi,e⟩:=WW.mp G;refine⟨i,W9.mpr hi,?_⟩;rw[dt,eH hi,e];exact h
theorem yw (h:X.K=K) (hc:@aQ):oJ X (!ai "all") (Uk K):=by
 subst h;intro pins s σ H xs us Q I r h;obtain⟨a,bs,rfl,β,q⟩:=h;obtain⟨u,rfl,L⟩:=wA r;cases L;obtain⟨its,G,pl,hz⟩:=I.list β;have lt:a < s.heap.objs.size:=let ⟨o,e,_⟩:=pl.isList;hK e
 have hl:its.toArray.size=bs.length:=by have:=G.length;rw[a'] at this;simp[this]
 refine call_all_walk (Za pl.isList ⟨s.heap.objs.size,_,_,its.toArray.size,_,_,λi=>bs.getD i false,rfl,an6 (A:=X.A.in1) (!aF hc) s.heap.objs.size a (y1 lt) its.toArray,⟨⟨_,kh _ rfl,rfl,rfl⟩,let ⟨o,e,c⟩:=pl.isList;⟨o,gn _ e,c⟩⟩,λi v s Q E α Y=>by rw[MH G α];exact Yk Y,λh' tk Z=>?_⟩);rw[hl,VE];exact⟨.bl _,H,I.kept (λb o e=>Z b o (λhm=>by have:=hK e;rw[eR.mp hm] at this;exact hE this (Y2 _)) (gn _ e)),rfl,q⟩
theorem DM (h:X.K=K) (hc:@aQ):oJ X (!ai "any") (Uj K):=by
 subst h;intro pins s σ H xs us Q I r h;obtain⟨a,bs,rfl,β,q⟩:=h;obtain⟨u,rfl,L⟩:=wA r;cases L;obtain⟨its,G,pl,hz⟩:=I.list β;have lt:a < s.heap.objs.size:=let ⟨o,e,_⟩:=pl.isList;hK e
 have hl:its.toArray.size=bs.length:=by have:=G.length;rw[a'] at this;simp[this]
 refine call_any_walk (Za pl.isList ⟨s.heap.objs.size,_,_,its.toArray.size,_,_,λi=>bs.getD i false,rfl,an6 (A:=X.A.in1) (!aF hc) s.heap.objs.size a (y1 lt) its.toArray,⟨⟨_,kh _ rfl,rfl,rfl⟩,let ⟨o,e,c⟩:=pl.isList;⟨o,gn _ e,c⟩⟩,λi v s Q E α Y=>by rw[MH G α];exact Yk Y,λh' tk Z=>?_⟩);rw[hl,VC];exact⟨.bl _,H,I.kept (λb o e=>Z b o (λhm=>by have:=hK e;rw[eR.mp hm] at this;exact hE this (Y2 _)) (gn _ e)),rfl,q⟩
end
inductive Dt where
 | non | bl (b:Xb) | int (i:Int) | str (x:kv) | lst (xs:eP Dt) | tup (xs:eP Dt)
inductive Rep (K:b') (H:Hp):V->Dt->Prop where
 | non:Rep K H .non .non
 | bl (b:Xb):Rep K H (.bl b) (.bl b)
 | int (i:Int):Rep K H (.int i) (.int i)
 | str (x:kv):Rep K H (.str x) (.str x)
 | lst {p:ee} {xs:eP V} {ds:eP Dt} (h:SqL K H p xs) (l:xs.length=ds.length) (r:∀(i:Nat) x d,xs[i]? =aY x->ds[i]? =aY d->Rep K H x d):Rep K H @P (!A ds)
 | tup {p:ee} {xs:eP V} {ds:eP Dt} (h:SqT K H p xs) (l:xs.length=ds.length) (r:∀(i:Nat) x d,xs[i]? =aY x->ds[i]? =aY d->Rep K H x d):Rep K H @P (!H ds)
theorem Same.tup {K:b'} {H H':Hp} {a:ee} {xs:eP V} (e:!bg H') (h:SqT K H a xs):SqT K H' a xs:=by
 rcases h with (h | ⟨o,h⟩) | h
 ·exact !E (!E (e _ _ h))
 ·exact !E (!I ⟨o,e _ _ h⟩)
 ·exact !I h
mutual
noncomputable def eqD:Dt->Dt->Xb
 | .non,.non=>true
 | .bl a,.bl b=>a == b
 | .bl a,.int b=>(if a then 1 else 0) == b
 | .int a,.bl b=>a == (if b then 1 else 0)
 | .int a,.int b=>a == b
 | .str a,.str b=>a == b
 | .lst xs,.lst ys=>eqDs xs ys
 | .tup xs,.tup ys=>eqDs xs ys
 | _,_=>false
noncomputable def eqDs:eP Dt->eP Dt->Xb
 | [],[]=>true
 | x::xs,y::ys=>eqD x y&&eqDs xs ys
 | _,_=>false
end
mutual
noncomputable def depD:Dt->Nat
 | .lst xs=>Bu xs + 1
 | .tup xs=>Bu xs + 1
 | _=>0
noncomputable def Bu:eP Dt->Nat
 | []=>0
 | x::xs=>max (depD x) (Bu xs)
end
theorem Mo {ds:eP Dt} {d:Dt} (h:d∈ds):depD d<=Bu ds:=by
 induction ds with
 | nil=>cases h
 | cons x xs ih=>
   rw[Bu];rcases x8.mp h with rfl | h
   ·omega
   ·have:=ih h;omega
theorem Bq:∀{xs ys:eP Dt},xs.length≠ys.length->eqDs xs ys=false
 | [],[],h=>hE rfl h
 | [],_::_,_=>rfl
 | _::_,[],_=>rfl
 | x::xs,y::ys,h=>by rw[eqDs,Bq (λz=>h (by simp[z])),XH]
theorem Br:∀{xs ys:eP Dt},xs.length=ys.length->eqDs xs ys=(qB xs.length).all λi=>eqD (!bz i) (ys.getD i .non)
 | [],[],_=>rfl
 | [],_::_,h=>by cases h
 | _::_,[],h=>by cases h
 | x::xs,y::ys,h=>by
   rw[eqDs,Br (by simpa using h),W3,al1,aa2,au7];rfl
theorem O2:∀d:Dt,eqD d d=true:=by
 intro d;refine Dt.rec (motive_1:=λd=>eqD d d=true) (motive_2:=λds=>eqDs ds ds=true) ?_ ?_ ?_ ?_ ?_ ?_ ?_ ?_ d
 ·rfl
 ·intro b;simp[eqD]
 ·intro b;simp[eqD]
 ·intro b;simp[eqD]
 ·intro xs h;rw[eqD];exact h
 ·intro xs h;rw[eqD];exact h
 ·rfl
 ·intro x xs h1 h2;rw[eqDs,h1,h2];rfl
theorem Qn:∀{d e:Dt},d=e->eqD d e=true:=λh=>by subst h;exact O2 _
section
variable {X:Cx} {pins:D'} {σ:St} {H:Hp} {s:ik}
theorem Inv.notBoth (I:@M) {p:ee} {xs ys:eP V} (h1:SqL X.K H p xs) (h2:SqT X.K H p ys):False:=by
 obtain⟨_,_,pl,_⟩:=I.list h1;obtain⟨_,_,⟨o,ho,G,_⟩,_⟩:=I.tuple h2;obtain⟨o',n,τ,φ,_⟩:=pl;rw[ho] at τ;cases τ;rw[G] at φ;exact hE φ @D
theorem Rep.fun (I:@M) {x:V} {d:Dt} (r:Rep X.K H x d):∀{e:Dt},Rep X.K H x e->d=e:=by
 induction r with
 | non=>intro e q;cases q;rfl
 | bl b=>intro e q;cases q;rfl
 | int i=>intro e q;cases q;rfl
 | str z=>intro e q;cases q;rfl
 | lst h l r ih=>
   intro e q;cases q with
   | lst h' L r'=>
     have ex:=I.list_inj h h';subst ex;congr 1;refine Z7 λi=>?_;rename_i xs ds Y;by_cases hi:i < ds.length
     ·rw[eH hi,eH @A];have G:i < xs.length:=by omega
      rw[ih i _ _ (eH G) (eH hi) (r' i _ _ (eH G) (eH @A))]
     ·rw[Xh @A,Xh @A]
   | tup h' L r'=>exact(I.notBoth h h').elim
 | tup h l r ih=>
   intro e q;cases q with
   | tup h' L r'=>
     have ex:=I.tuple_inj h h';subst ex;congr 1;refine Z7 λi=>?_;rename_i xs ds Y;by_cases hi:i < ds.length
     ·rw[eH hi,eH @A];have G:i < xs.length:=by omega
      rw[ih i _ _ (eH G) (eH hi) (r' i _ _ (eH G) (eH @A))]
     ·rw[Xh @A,Xh @A]
   | lst h' L r'=>exact(I.notBoth h' h).elim
open SeqAt in
theorem rc_D (I:@M) {x:V} {d:Dt} (r:Rep X.K H x d):∀{A:W6} {e:Dt} {y:V} {u v:i'} (n:Nat),Rep X.K H y e->RelV x u->RelV y v->depD d<=n->A.units + n < cLine->
  EqAt A s u v (eqD d e)/\RcAt A s u v (eqD d e)/\RcNeAt A s u v (!eqD d e):=by
 induction r with
 | non=>
   intro A e y u v n q δ L hd ι;cases δ;cases q with
   | non=>cases L;exact⟨aq7 _,RcAt.none_none,RcNeAt.none_none⟩
   | bl b=>cases L;exact⟨EqAt.none_bool b,RcAt.none_bool b,RcNeAt.none_bool b⟩
   | int b=>obtain⟨t,rfl⟩:=L;exact⟨EqAt.none_int b t,RcAt.none_int b t,RcNeAt.none_int b t⟩
   | str b=>obtain⟨t,rfl⟩:=L;exact⟨EqAt.none_str b t,RcAt.none_str b t,RcNeAt.none_str b t⟩
   | lst h l r=>cases L;obtain⟨_,_,pl,_⟩:=I.list h;exact⟨EqAt.none_list pl.isList @A,RcAt.none_list pl.isList @A,RcNeAt.none_list pl.isList @A⟩
   | tup h l r=>cases L;obtain⟨_,_,pl,_⟩:=I.tuple h;exact⟨EqAt.none_tuple pl @A,RcAt.none_tuple pl @A,RcNeAt.none_tuple pl @A⟩
 | bl a=>
   intro A e y u v n q δ L hd ι;cases δ;cases q with
   | non=>cases L;exact⟨EqAt.bool_none a,RcAt.bool_none a,RcNeAt.bool_none a⟩
   | bl b=>cases L;exact⟨EqAt.bool_bool a b,RcAt.bool_bool a b,RcNeAt.bool_bool a b⟩
   | int b=>obtain⟨t,rfl⟩:=L;exact⟨EqAt.bool_int a b t,RcAt.bool_int a b t,RcNeAt.bool_int a b t⟩
   | str b=>obtain⟨t,rfl⟩:=L;exact⟨EqAt.bool_str a b t,RcAt.bool_str a b t,RcNeAt.bool_str a b t⟩
   | lst h l r=>cases L;obtain⟨_,_,pl,_⟩:=I.list h;exact⟨EqAt.bool_list a pl.isList @A,RcAt.bool_list a pl.isList @A,RcNeAt.bool_list a pl.isList @A⟩
   | tup h l r=>cases L;obtain⟨_,_,pl,_⟩:=I.tuple h;exact⟨EqAt.bool_tuple a pl @A,RcAt.bool_tuple a pl @A,RcNeAt.bool_tuple a pl @A⟩
 | int a=>
   intro A e y u v n q δ L hd ι;obtain⟨t',rfl⟩:=δ;cases q with
   | non=>cases L;exact⟨EqAt.int_none a t',RcAt.int_none a t',RcNeAt.int_none a t'⟩
   | bl b=>cases L;exact⟨EqAt.int_bool a t' b,RcAt.int_bool a t' b,RcNeAt.int_bool a t' b⟩
   | int b=>obtain⟨t,rfl⟩:=L;exact⟨EqAt.int_int a t' b t,RcAt.int_int a t' b t,RcNeAt.int_int a t' b t⟩
   | str b=>obtain⟨t,rfl⟩:=L;exact⟨EqAt.int_str a t' b t,RcAt.int_str a t' b t,RcNeAt.int_str a t' b t⟩
   | lst h l r=>cases L;obtain⟨_,_,pl,_⟩:=I.list h;exact⟨EqAt.int_list a t' pl.isList @A,RcAt.int_list a t' pl.isList @A,RcNeAt.int_list a t' pl.isList @A⟩
   | tup h l r=>cases L;obtain⟨_,_,pl,_⟩:=I.tuple h;exact⟨EqAt.int_tuple a t' pl @A,RcAt.int_tuple a t' pl @A,RcNeAt.int_tuple a t' pl @A⟩
 | str a=>
   intro A e y u v n q δ L hd ι;obtain⟨t',rfl⟩:=δ;cases q with
   | non=>cases L;exact⟨EqAt.str_none a t',RcAt.str_none a t',RcNeAt.str_none a t'⟩
   | bl b=>cases L;exact⟨EqAt.str_bool a t' b,RcAt.str_bool a t' b,RcNeAt.str_bool a t' b⟩
   | int b=>obtain⟨t,rfl⟩:=L;exact⟨EqAt.str_int a t' b t,RcAt.str_int a t' b t,RcNeAt.str_int a t' b t⟩
   | str b=>obtain⟨t,rfl⟩:=L;exact⟨EqAt.str_str a t' b t,RcAt.str_str a t' b t,RcNeAt.str_str a t' b t⟩
   | lst h l r=>cases L;obtain⟨_,_,pl,_⟩:=I.list h;exact⟨EqAt.str_list a t' pl.isList @A,RcAt.str_list a t' pl.isList @A,RcNeAt.str_list a t' pl.isList @A⟩
   | tup h l r=>cases L;obtain⟨_,_,pl,_⟩:=I.tuple h;exact⟨EqAt.str_tuple a t' pl @A,RcAt.str_tuple a t' pl @A,RcNeAt.str_tuple a t' pl @A⟩
 | @lst p xs ds h l r ih=>
   intro A e y u v n q δ L hd ι;cases δ;obtain⟨its,α,pl,_⟩:=I.list h;rw[depD] at hd;cases q with
   | non=>cases L;exact⟨EqAt.list_none pl.isList @A,RcAt.list_none pl.isList @A,RcNeAt.list_none pl.isList @A⟩
   | bl b=>cases L;exact⟨EqAt.list_bool b pl.isList @A,RcAt.list_bool b pl.isList @A,RcNeAt.list_bool b pl.isList @A⟩
   | int b=>obtain⟨t,rfl⟩:=L;exact⟨EqAt.list_int b t pl.isList @A,RcAt.list_int b t pl.isList @A,RcNeAt.list_int b t pl.isList @A⟩
   | str b=>obtain⟨t,rfl⟩:=L;exact⟨EqAt.list_str b t pl.isList @A,RcAt.list_str b t pl.isList @A,RcNeAt.list_str b t pl.isList @A⟩
   | tup h' θ r'=>
     cases L;obtain⟨_,_,ω,_⟩:=I.tuple h';exact⟨EqAt.list_tuple pl.isList ω @A,RcAt.list_tuple pl.isList ω @A,RcNeAt.list_tuple pl.isList ω @A⟩
   | @lst ζ β G h' θ r'=>
     cases L;obtain⟨its',Z,ω,_⟩:=I.list h';have n1:=α.length;have χ:=Z.length
     have Y:RcAt A s @P (!j ζ) (eqDs ds G)/\RcNeAt A s @P (!j ζ) (!eqDs ds G):=by
      by_cases hl:ds.length=G.length
      ·have e:eqDs ds G=(qB its.toArray.size).all λi=>eqD (ds.getD i .non) (G.getD i .non):=by
        rw[Br hl,y7,<-n1,l]
       rw[e];have hz:its.toArray.size=its'.toArray.size:=by simp;omega
       have he:∀j (h1:j < its.toArray.size) (h2:j < its'.toArray.size),EqAt A.in1 s its.toArray[j] its'.toArray[j] (eqD (ds.getD j .non) (G.getD j .non)):=λj h1 h2=>by
        have γ:j < its.length:=by simpa using h1
        have ξ:j < its'.length:=by simpa using h2
        have ο:j < xs.length:=by omega
        have ψ:j < β.length:=by omega
        have η:j < ds.length:=by omega
        have ε:j < G.length:=by omega
        have g1:xs[j]? =aY (!bz j):=by rw[dt,eH ο];rfl
        have g2:ds[j]? =aY (ds.getD j .non):=by rw[dt,eH η];rfl
        have ρ:β[j]? =aY (β.getD j .non):=by rw[dt,eH ψ];rfl
        have π:G[j]? =aY (G.getD j .non):=by rw[dt,eH ε];rfl
        have hn:n≠0:=by omega
        exact(ih j _ _ g1 g2 (n - 1) (r' j _ _ ρ π) (tR α h1) (tR Z h2) (by have:=Mo (eO g2);omega) (by show A.units + 1 + (n - 1) < cLine;omega)).1
       exact⟨RcAt.lists pl.isList ω.isList hz @A he,RcNeAt.lists pl.isList ω.isList hz @A he⟩
      ·rw[Bq hl];have hz:(its.toArray.size != its'.toArray.size)=true:=by simp;omega
       exact⟨RcAt.lists_lengths pl.isList ω.isList hz @A,RcNeAt.lists_lengths pl.isList ω.isList hz @A⟩
     rw[eqD];refine⟨?_,Y⟩;by_cases ν:p=ζ
     ·subst ν;have e:Dt.lst ds=Dt.lst G:=(Rep.lst h l r).fun I (.lst h' θ r');have τ:eqDs ds G=true:=by have:=Qn e;rw[eqD] at this;exact this
      rw[τ];exact aq7 _
     ·exact au8 ν Y.1
 | @tup p xs ds h l r ih=>
   intro A e y u v n q δ L hd ι;cases δ;obtain⟨its,α,pl,_⟩:=I.tuple h;rw[depD] at hd;cases q with
   | non=>cases L;exact⟨EqAt.tuple_none pl @A,RcAt.tuple_none pl @A,RcNeAt.tuple_none pl @A⟩
   | bl b=>cases L;exact⟨EqAt.tuple_bool b pl @A,RcAt.tuple_bool b pl @A,RcNeAt.tuple_bool b pl @A⟩
   | int b=>obtain⟨t,rfl⟩:=L;exact⟨EqAt.tuple_int b t pl @A,RcAt.tuple_int b t pl @A,RcNeAt.tuple_int b t pl @A⟩
   | str b=>obtain⟨t,rfl⟩:=L;exact⟨EqAt.tuple_str b t pl @A,RcAt.tuple_str b t pl @A,RcNeAt.tuple_str b t pl @A⟩
   | lst h' θ r'=>
     cases L;obtain⟨_,_,ω,_⟩:=I.list h';exact⟨EqAt.tuple_list pl ω.isList @A,RcAt.tuple_list pl ω.isList @A,RcNeAt.tuple_list pl ω.isList @A⟩
   | @tup ζ β G h' θ r'=>
     cases L;obtain⟨its',Z,ω,_⟩:=I.tuple h';have n1:=α.length;have χ:=Z.length
     have Y:RcAt A s @P (!j ζ) (eqDs ds G)/\RcNeAt A s @P (!j ζ) (!eqDs ds G):=by
      have e:eqDs ds G=((qB (min its.toArray.size its'.toArray.size)).all (λi=>eqD (ds.getD i .non) (G.getD i .non))&&its.toArray.size == its'.toArray.size):=by
       by_cases hl:ds.length=G.length
       ·have φ:its.toArray.size=ds.length:=by simp;omega
        have υ:its'.toArray.size=ds.length:=by simp;omega
        rw[Br hl,φ,υ,ac3,XG,Bool.and_true]
       ·have z:(its.toArray.size == its'.toArray.size)=false:=by rw[W2];simp;omega
        rw[Bq hl,z,XH]
      rw[e]
      have he:∀j (h1:j < its.toArray.size) (h2:j < its'.toArray.size),EqAt A.in1 s its.toArray[j] its'.toArray[j] (eqD (ds.getD j .non) (G.getD j .non)):=λj h1 h2=>by
       have γ:j < its.length:=by simpa using h1
       have ξ:j < its'.length:=by simpa using h2
       have ο:j < xs.length:=by omega
       have ψ:j < β.length:=by omega
       have η:j < ds.length:=by omega
       have ε:j < G.length:=by omega
       have g1:xs[j]? =aY (!bz j):=by rw[dt,eH ο];rfl
       have g2:ds[j]? =aY (ds.getD j .non):=by rw[dt,eH η];rfl
       have ρ:β[j]? =aY (β.getD j .non):=by rw[dt,eH ψ];rfl
       have π:G[j]? =aY (G.getD j .non):=by rw[dt,eH ε];rfl
       have hn:n≠0:=by omega
       exact(ih j _ _ g1 g2 (n - 1) (r' j _ _ ρ π) (tR α h1) (tR Z h2) (by have:=Mo (eO g2);omega) (by show A.units + 1 + (n - 1) < cLine;omega)).1
      exact⟨RcAt.tuples pl ω @A he,RcNeAt.tuples pl ω @A he⟩
     rw[eqD];refine⟨?_,Y⟩;by_cases ν:p=ζ
     ·subst ν;have e:Dt.tup ds=Dt.tup G:=(Rep.tup h l r).fun I (.tup h' θ r');have τ:eqDs ds G=true:=by have:=Qn e;rw[eqD] at this;exact this
      rw[τ];exact aq7 _
     ·exact au8 ν Y.1
end
noncomputable def rEqD (K:b') (neg:Xb):R2:=λx y H Q=>∃d e,Rep K H x d/\Rep K H y e/\depD d<=100/\Q (.bl (if neg then !eqD d e else eqD d e)) H
section
variable {X:Cx} {K:b'}
theorem EU (h:X.K=K) (hu:X.A.units + 100 < cLine):!aK X .NotEq (rEqD K true):=by
 subst h;intro pins s σ H x y v u Q I G L h;obtain⟨d,e,α,Y,hd,q⟩:=h;exact(rc_D I α 100 Y G L hd hu).2.2 X.prog X.w X.xe _ ⟨.bl _,H,I,rfl,q⟩
end
inductive Jq:St->Nat->vr V->St->Prop where
 | z {a v:vr V} {l:St}:Jq (a::l) 0 v (v::l)
 | s {a v:vr V} {l l':St} {i:Nat}:Jq l i v l'->Jq (a::l) (i + 1) v (a::l')
theorem Jq.eq {l G:St} {i:Nat} {v:vr V} (h:Jq l i v G):l.set i v=G:=by
 induction h with
 | z=>rfl
 | s _ ih=>rw[List.set_cons_succ,ih]
inductive Jr:St->Nat->V->Prop where
 | z {v:V} {l:St}:Jr (aY v::l) 0 v
 | s {a:vr V} {v:V} {l:St} {i:Nat}:Jr l i v->Jr (a::l) (i + 1) v
theorem Jr.eq {l:St} {i:Nat} {v:V} (h:Jr l i v):l[i]? =aY @aI:=by
 induction h with
 | z=>rfl
 | s _ ih=>rw[List.getElem?_cons_succ];exact ih
section
variable {σ σ':St} {H:Hp} {Q:VK} {D:Ends} {ta tb tc te:TE} {t u:TS} {tt tt':TT} {r r':R2} {x y v:V}
theorem au {N:B'} {vs:eP V} {t:TS} (e:start N vs=σ') (h:t D σ' H):t D (start N vs) H:=by rw[e];exact h
theorem V8 {i:Nat} (e:Jr σ i v) (h:Q v H):tVar i σ H Q:=⟨v,e.eq,h⟩
theorem s_rI {C:Int->Int->Prop} {g:Int->Int->V} {i j:Int} (c:C i j) (h:Q (g i j) H):rI C g @bc (.int j) H Q:=⟨i,j,rfl,rfl,c,h⟩
theorem Wc {g:Int->Int->V} {i j:Int} (h:Q (g i j) H):rI0 g @bc (.int j) H Q:=⟨i,j,rfl,rfl,h⟩
theorem s_rU {g:Int->V} {i:Int} (h:Q (g i) H):rU g @bc H Q:=⟨i,rfl,h⟩
theorem We (e:scal x y=true) (h:Q (.bl (decide (x=y))) H):rEq x y H Q:=⟨e,h⟩
theorem Wb (e:scal x y=true) (h:Q (.bl (!decide (x=y))) H):rNe x y H Q:=⟨e,h⟩
theorem TJ (h:D.nx σ H):Tc D σ H:=h
theorem Rv {i:Nat} {Q:St->Hp->Prop} (e:Jq σ i @aI σ') (h:Q σ' H):L8 i v σ H Q:=by show Q (σ.set i @aI) H;rw[e.eq];exact h
theorem T1 {Q:St->Hp->Prop} (h:Q σ H):gNil [] σ H Q:=⟨rfl,h⟩
theorem Rx {g:TG} {L:TGs} {vs:eP V} {Q:St->Hp->Prop} (h:g v σ H fun σ' H'=>L vs σ' H' Q):Si g L (v::vs) σ H Q:=⟨v,vs,rfl,h⟩
theorem TZ {K:b'} {n:Nat} {L:TGs} {p:ee} {xs:eP V} {Q:St->Hp->Prop} (e:SqT K H p xs) (l:xs.length=n) (h:L xs σ H Q):gTup K n L @P σ H Q:=⟨p,xs,rfl,e,l,h⟩
def NewT (Q:VK) (xs:eP V) (H:Hp):Prop:=xs.length<=ic/\∀p,H p=gg->Q @P (!V p @aG)
def NewL (Q:VK) (xs:eP V) (H:Hp):Prop:=xs.length<=ic/\∀p,H p=gg->Q @P (!aB H p xs)
theorem V9 {tr:TA} (h:tr σ H (NewT Q)):tTup tr σ H Q:=h
theorem Wf {tr:TA} (h:tr σ H (NewL Q)):tLst tr σ H Q:=h
theorem bo {H:Hp} {D:ee} {o:HO} (h:H D=gg):!bg (!V D o):=λb u e=>by rw[aD (!L h)];exact e
theorem jH {o:HO} (h:∀p H2,H p=gg->Same H H2->H2 p=aY o->Q @P H2):∀p,H p=gg->Q @P (!V p o):=λp G=>h p _ G (bo G) aw
theorem Same.get {H H':Hp} (e:!bg H') {b:ee} {o:HO} (h:H b=aY o):H' b=aY o:=e b o h
theorem TK {xs:eP V} (l:xs.length<=ic) (h:∀p H2,H p=gg->Same H H2->H2 p=aY @aG->Q @P H2):NewT Q xs H:=⟨l,jH h⟩
theorem TL {xs:eP V} (l:xs.length<=ic) (h:∀p H2,H p=gg->Same H H2->H2 p=aY @aF->Q @P H2):NewL Q xs H:=⟨l,jH h⟩
theorem RC {sp:Sp} {E:XK} {tr:TA} (h:tr σ H λvs H1=>sp vs H1 Q E):JS sp [] E tr σ H Q:=by unfold JS;simp only[XI];exact h
theorem Wa {K:b'} {p:ee} {xs:eP V} {lo hi:vr Int} (e:SqL K H p xs) (h:∀q H2,H q=gg->Same H H2->H2 q=aY (!A (cutV xs lo hi))->Q (!j q) H2):rSlL K @P lo hi H Q:=⟨p,xs,rfl,e,jH h⟩
theorem Wh {K:b'} {p:ee} {xs:eP V} {i:Int} (e:SqL K H p xs) (a:atI xs i=aY v) (h:Q v H):rIxL K @P @bc H Q:=⟨p,xs,i,v,rfl,rfl,e,a,h⟩
theorem Wg {K:b'} {p:ee} {xs:eP V} {i:Int} (e:SqT K H p xs) (a:atI xs i=aY v) (h:Q v H):rIxT K @P @bc H Q:=⟨p,xs,i,v,rfl,rfl,e,a,h⟩
theorem Rt {z:kv} {i:Int} {c:Nat} (e:z.length<=ic) (a:atI z.cps.toList i=aY c) (h:Q (.str ⟨#[c]⟩) H):rIxS @aj @bc H Q:=⟨z,i,c,rfl,rfl,e,a,h⟩
theorem Lr {n:Nat} (h:n<=1000):n<=sizeLine:=Y6 (aK h)
theorem Rz {K:b'} {neg:Xb} {d e:Dt} (α:Rep K H x d) (G:Rep K H y e) (hd:depD d<=100) (h:Q (.bl (if neg then !eqD d e else eqD d e)) H):rEqD K neg x y H Q:=⟨d,e,α,G,hd,h⟩
theorem s_ty {K:b'} {T:X9} {A:Prop} (e:tyV K T x H) (h:A):tyV K T x H/\A:=⟨e,h⟩
theorem T9 {i:Int} (h:Q (.int (xo i:Nat)) H):Ui @bc [] H Q:=⟨i,rfl,rfl,h⟩
theorem PR {K:b'} {z:kv} {p:ee} {ys:B'} (e:SqL K H p (ys.map V.str)) (l:(ys.map (·.length)).sum + ys.length * z.length<=16777216) (h:Q (.str (an5 z ys)) H):Ug K @aj @bl H Q:=⟨z,p,ys,rfl,rfl,e,l,h⟩
theorem TV {K:b'} {p:ee} {xs:eP V} (e:SqL K H p xs) (h:Q (.int xs.length) H):rLen K @bl H Q:=⟨_,_,rfl,!E ⟨xs,e,rfl⟩,h⟩
theorem TR {K:b'} {p:ee} {xs:eP V} (e:SqT K H p xs) (h:Q (.int xs.length) H):rLen K @bl H Q:=⟨_,_,rfl,!I ⟨xs,e,rfl⟩,h⟩
theorem TU {K:b'} {z:kv} (e:z.length<=ic) (h:Q (.int z.length) H):rLen K [.str z] H Q:=⟨_,_,rfl,⟨e,rfl⟩,h⟩
theorem Wi {K:b'} {T k:X9} (e:nN K H x k) (m:T∈["int","bool","str","list","tuple","dict"]) (h:Q (.bl (subB k T)) H):rIsi K [x,.ty T] H Q:=⟨x,k,T,rfl,e,m,h⟩
theorem T4 (h:∀p H2,H p=gg->Same H H2->H2 p=aY (.dK [])->Q @P H2):PD σ H Q:=jH h
theorem Wj {L:TI} {g:TG} {tb:TS} (h:L σ H λJ H1=>∃W:Nat->Nat->St->Hp->Prop,(∃m,W 0 m σ H1)/\∀i m σ H,W i m σ H->(J.stop i H/\D.nx σ H)∨(J.go i H/\∃N:St->Hp->Prop,(∀σ' H',N σ' H'->∃Y,Y < m/\W @H Y σ' H')/\∀x H',J.yld i H x H'->g x σ H' λG H2=>tb {D with nx:=N,ct:=N,bk:=D.nx} G H2)):tFor L g tb D σ H:=h
theorem V7 {Q:Xb->Hp->Prop} (h:Q true H):tYes σ H Q:=h
theorem TB {A B:Prop} (h:A):if true=true then A else B:=by rw[lx rfl];exact h
theorem Ry {A B:Prop} (h:B):if false=true then A else B:=by rw[kf hH];exact h
theorem oV {c:Xb} {A B:Prop} (e:c=true) (h:A):if c=true then A else B:=by rw[lx e];exact h
theorem jv {c:Xb} {A B:Prop} (e:c=false) (h:B):if c=true then A else B:=by rw[e,kf hH];exact h
theorem T8 {n:Nat} {fx:C'} {Y:TI} {g:TG} (h:Y σ H λJ H1=>∀D,H1 D=gg->
 ∃W:Nat->Nat->eP V->Hp->Prop,(∃m,W 0 m [] (!X H1 []))/\∀i m ys H2,W i m ys H2->(J.stop i H2/\Q @W H2)∨
   (J.go i H2/\∃N:eP V->Hp->Prop,(∀L H',N L H'->∃Z,Z < m/\W @H Z L H')/\∀x γ,J.yld i H2 x γ->g x (d8 n fx σ) γ λG δ=>tt G δ λb β=>
    if b=true then te G β λv α=>α D=aY @Y/\ys.length < ic/\N @a9 (!X α @a9) else N ys β)):NG n fx Y g tt te σ H Q:=h
theorem Gh {K:b'} {p:ee} {bs:eP Xb} (e:SqL K H p (bs.map V.bl)) (h:Q (.bl (bs.all id)) H):Uk K @bl H Q:=⟨p,bs,rfl,e,h⟩
theorem PV {K:b'} {p:ee} {bs:eP Xb} (e:SqL K H p (bs.map V.bl)) (h:Q (.bl (bs.any id)) H):Uj K @bl H Q:=⟨p,bs,rfl,e,h⟩
theorem Oi {j:Int} {A:Prop} (h1: -(2 ^ 62)<=j) (h2:j < 2 ^ 62) (h:A): -(2 ^ 62)<=j/\j < 2 ^ 62/\A:=⟨h1,h2,h⟩
end
noncomputable def tCut (t u:TS):TS:=λD σ H=>∃P:St->Hp->Prop,t {D with nx:=P} σ H/\∀σ' H',P σ' H'->u D σ' H'
theorem KG {X:Cx} {st:YY} {rest:eP YY} {t u:TS} (h1:PS X st t) (h2:PSs X rest u):PSs X (st::rest) (tCut t u):=by
 intro pins s σ H D I ⟨P,a,b⟩;refine ai1 (thn (h1 pins s σ H {D with nx:=P} I a) λf G q=>?_);cases f with
 | next=>obtain⟨γ,H1,Z,L⟩:=q;exact h2 pins G γ H1 D Z (b γ H1 L)
 | brk=>exact q
 | cont=>exact q
 | ret v=>exact q
theorem s_cut {t u:TS} {D:Ends} {σ:St} {H:Hp} (P:St->Hp->Prop) (h:t {D with nx:=P} σ H) (k:∀σ' H',P σ' H'->u D σ' H'):tCut t u D σ H:=⟨P,h,k⟩
section
variable {K:b'} {n:Nat} {fx:C'} {g:TG} {tc:TT} {te:TE} {σ:St} {H1:Hp} {D:ee} {Q:Hp->Prop}
structure Cs (Pv:Nat->eP V->Prop) (H1:Hp) (D:ee) (i:Nat) (ys:eP V) (H:Hp):Prop where
 pv:Pv i ys
 same:Same H1 H
 at':H D=aY @Y
 len:ys.length<=i
theorem Cs.put {L:Nat->eP V->Prop} {i:Nat} {ys:eP V} {v:V} {G:Hp} (f:H1 D=gg) (s:Same H1 G) (e:G D=aY @Y) (l:ys.length<=i) (hi:i < 16777216) (p:L @H @a9):
  G D=aY @Y/\ys.length < ic/\Cs L H1 D @H @a9 (!X G @a9):=
 ⟨e,by rw[lj];omega,p,λb o h=>by rw[aD (ao h f)];exact s b o h,aw,by rw[fy];simpa using l⟩
theorem Cs.skip {L:Nat->eP V->Prop} {i:Nat} {ys:eP V} {G:Hp} (s:Same H1 G) (e:G D=aY @Y) (l:ys.length<=i) (p:L @H ys):Cs L H1 D @H ys G:=⟨p,s,e,@A⟩
theorem Cs.zero {G:Nat->eP V->Prop} (f:H1 D=gg) (p:G 0 []):Cs G H1 D 0 [] (!X H1 []):=⟨p,bo f,aw,mc _⟩
end
structure QE (K:b') (C:ee) (m:kv) (f:ee):Prop where
 ga:Yu K @ae "__getattribute__"=aY (aY @d1)
 rd:ao7 K C @bV=true
 fd:ap0 K @ae @bV m=aY (.val @a7)
 hd:ad7 @a7=true
 kp:XA K @a7=true
section
variable {X:Cx} {CX:CXT} {k:Nat} {f C:ee} {fd:hF} {ps:B'} {sp:Sp} {dvs:eP V} {ds:E'} {E:XK} {x m:kv} {p pos apos:Pos} {e o:W5} {es:eP W5} {ta:TE} {t:TA}
theorem w4 {pl:Sem Xb} (γ:Gl X x) (hx:X.mg x=aY @ae) (c:QE X.K C m f) (F:FnOk X.prog X.w X.K X.mg X.base CX k f fd ps sp) (β:Room k X.A) (hb:rT X.K fd ps ds) (hd:Vals dvs ds) (G:tL CX X E) (ha:PA X @V t)
  (Y:(x == ("__debug__":kv))=false:=by decide) (ρ:pT @V X.env=(false,eval e X.env)::pT es X.env:=by rfl) (L:(!aD pos es).any (·.1)=false:=by rfl)
  (ht:eval (!b6 (!aU p) m apos @V [] pos) X.env=(do
   let Z <-eval (!aU p) X.env
   standAt apos.atName
   let (f,first) <-holding [Z] (getMethod Z m pl)
   callWith pos f first (!aD pos @V) (!bB pos [] X.env)):=by rfl):
  PE X (!b6 (!aU p) m apos @V [] pos) (JS sp dvs E t):=by
 intro pins s σ H Q I h;refine Z2 (pl:=pl) (xM I γ hx ?_ Y) ht;refine PySem.W.method_cls I.kIn c.ga (PySem.W.cls_value I.kIn c.rd c.fd c.hd ?_);have I1:=I.tok (s.toks + 1);refine YS (first:=[]) (h₀:=X.base) I1.ok.mod.kin c.kp (thn (ha pos pins _ σ H _ I1 h) λus δ ⟨vs,H2,I2,r,α⟩=>⟨I2.kIn,?_⟩) ρ L;exact Gi (us:=us) (vs:=vs) F β hb hd G I2 r α
end
structure WM (K:b') (D:ee):Prop where
 cls:Cls K D
 ha:zx K @W "__class__"=aY (aY @bG)
 hn:Yu K @bG "__get__"=aY (aY @cT)
 tk:af2 K @bG=aY true
 hm:Yb K D (!aj "object")=aY true
section
variable {X:Cx} {K:b'}
theorem aM {e:W5} {ta:TE} {f:kv} {pos:Pos} (h:X.K=K) (he:!F e ta) (hb:attributeBase e f X.env (!aw e)=eval e X.env):!F (.Attribute e f pos) (tFld K ta f):=by subst h;exact UD he hb
theorem dk {o value:W5} {ta tv:TE} {f:kv} {pos pos':Pos} (h:X.K=K) (ha:!F o ta) (G:!F value tv) (hs:!cf (.Attribute o f pos')):PS X (.Assign [.Attribute o f pos'] value pos) (sFld K ta tv f):=by subst h;exact Uu ha G hs
theorem PE.or {e:W5} {t u:TE} (h:!F e t) (h':!F e u):!F e (fun σ H Q=>t σ H Q∨u σ H Q):=by
 intro pins s σ H Q I q;rcases q with q | q
 ·exact h pins s σ H Q I q
 ·exact h' pins s σ H Q I q
end
section
variable {σ:St} {H:Hp} {Q:VK} {D:Ends} {te tv ta:TE} {x y v:V}
def SO (K:b') (f:kv) (Q:VK) (x:V) (H:Hp):Prop:=∃a C dx fs v,x= .ref a/\H a=aY @ak/\Cls K C/\cQ K C f/\fs.lookup f=aY v/\Q v H
theorem Wk {K:b'} {f:kv} (h:te σ H (SO K f Q)):tFld K te f σ H Q:=h
theorem aJ {K:b'} {f:kv} {p C dx:ee} {fs:@az} (e:H p=aY @ak) (c:Cls K C) (n:cQ K C f) (l:fs.lookup f=aY v) (h:Q v H):SO K f Q @P H:=⟨p,C,dx,fs,v,rfl,e,c,n,l,h⟩
structure Upd (H H':Hp) (p:ee) (o:HO):Prop where
 at':H' p=aY o
 oth:∀b u,b≠p->H b=aY u->H' b=aY u
 non:∀b,b≠p->H b=gg->H' b=gg
theorem Upd.of {H:Hp} {p:ee} {o:HO}:Upd H (!V p o) p o:=⟨aw,λb u n h=>by rw[aD n];exact h,λb n h=>by rw[aD n];exact h⟩
def VM (K:b') (f:kv) (y:V) (D:Ends) (σ:St) (x:V) (H:Hp):Prop:=∃a C dx fs,x= .ref a/\H a=aY @ak/\Cls K C/\cQ K C f/\fs.length < 1000/\D.nx σ (!V a (!aE (putF f y fs)))
theorem Og {K:b'} {f:kv} (h:tv σ H λy H1=>te σ H1 (VM K f y D σ)):sFld K te tv f D σ H:=h
theorem dj {K:b'} {f:kv} {p C dx:ee} {fs fs':@az} (e:H p=aY @ak) (c:Cls K C) (n:cQ K C f) (l:fs.length < 1000) (G:putF f y fs=fs') (h:∀H2,Upd H H2 p (!aE fs')->D.nx σ H2):
  VM K f y D σ @P H:=⟨p,C,dx,fs,rfl,e,c,n,l,by rw[G];exact h _ Upd.of⟩
def QC (C:ee) (sp:Sp) (E:XK) (Q:VK) (vs:eP V) (H:Hp):Prop:=∀x dx,H x=gg->H dx=gg->dx≠x->sp (.ref x::(vs++[])) (upd (!V dx (.own x)) x @b1) (!c8 x) E
theorem TN {C:ee} {sp:Sp} {E:XK} {tr:TA} (h:tr σ H (QC C sp E Q)):Td C sp [] E tr σ H Q:=h
theorem Oh {C:ee} {sp:Sp} {E:XK} {vs:eP V} (h:∀x dx H2,H x=gg->Same H H2->H2 x=aY @b1->sp (.ref x::vs) H2 (!c8 x) E):QC C sp E Q vs H:=by
 intro x dx G L n;rw[XI];exact h x dx _ G (λb o e=>by rw[aD (!L G),aD (!L L)];exact e) aw
theorem Upd.same {τ H2:Hp} {p:ee} {o:HO} (u:Upd H H2 p o) (f:τ p=gg) (s:Same τ H):Same τ H2:=λb q e=>u.oth b q (!L f) (s b q e)
theorem Upd.trans {H2 G:Hp} {p:ee} {o o':HO} (u:Upd H H2 p o) (w:Upd H2 G p o'):Upd H G p o':=⟨w.at',λb q n e=>w.oth b q n (u.oth b q n e),λb n e=>w.non b n (u.non b n e)⟩
end
theorem Inv.laidCh {X:Cx} {pins:D'} {σ:St} {H:Hp} {s:ik} {h':WN} {a:ee} {o:HO} {t':Nat} {ch:M'} (I:@M) (k:∀b u,b∉ch->s.heap.get? b=aY u->h'.get? b=aY u) (L:@cA)
  (δ:iu X.prog X.w (!V a o) h' a o) (fp:∀b∈ch,FpOk X pins H b):Inv X pins σ (!V a o) {s with heap:=h',toks:=t'}:=by
 have fr:H a=none:=I.hok.fresh L;have χ:∀b u,H b=aY u->b∉ch:=λb u e z=>by rw[(fp b z).1] at e;cases e
 refine I.step (g':=s.gens) (d':=s.drawn) (ch:=ch) (λb hb=>?_) (λb ob _ _ G e _=>k b ob G e) (λb ob _ _ G e _=>⟨ob.slots,k b ob G e⟩) (λb ob _ e n=>?_) (λb ob G e=>⟨ob,k b ob G e⟩)
  (λb xs e=>by rw[aD (!L fr)];exact e) (λb ob u e=>by rw[aD (!L fr)];exact e) (λb ps e=>⟨#[],by rw[aD (!L fr),e];simp⟩) (λm hm=>?_) (λb u e=>?_) I.bare
 ·obtain⟨ε,α,β,ψ,Z,Y⟩:=fp b hb;exact⟨ψ,α,Z,Y⟩
 ·rw[aD (y1 (gA @aM L))];exact n
 ·obtain⟨ob,es,ep,ho,r⟩:=hm;exact⟨ob,es,ep,k _ ob (λz=>(fp _ z).2.1 rfl) ho,r⟩
 ·by_cases hb:b=a
  ·subst hb;rw[aw] at e;cases e;exact δ
  ·rw[aD hb] at e;refine(I.hok b u e).stay (λc v G q=>k c v ?_ q) (λc q=>by rw[aD (ao q fr)];exact q) λc xs q=>by rw[aD (ao q fr)];exact q
   rcases G with z | z
   ·rw[z];exact χ b u e
   ·exact χ c _ z
theorem Inv.turnedCh {X:Cx} {pins:D'} {σ:St} {H:Hp} {s:ik} {h':WN} {t':Nat} {ch:M'} (I:@M) (k:∀b u,b∉ch->s.heap.get? b=aY u->h'.get? b=aY u)
  (fp:∀b∈ch,FpOk X pins H b):Inv X pins σ H {s with heap:=h',toks:=t'}:=by
 have χ:∀b u,H b=aY u->b∉ch:=λb u e z=>by rw[(fp b z).1] at e;cases e
 refine I.step (g':=s.gens) (d':=s.drawn) (ch:=ch) (λb hb=>?_) (λb ob _ _ G e _=>k b ob G e) (λb ob _ _ G e _=>⟨ob.slots,k b ob G e⟩) (λb ob _ e n=>n) (λb ob G e=>⟨ob,k b ob G e⟩)
  (λb xs e=>e) (λb ob u e=>e) (λb ps e=>⟨#[],by rw[e];simp⟩) (λm hm=>?_) (λb u e=>?_) I.bare
 ·obtain⟨ε,Z,α,ψ,Y,L⟩:=fp b hb;exact⟨ψ,Z,Y,L⟩
 ·obtain⟨ob,es,ep,ho,r⟩:=hm;exact⟨ob,es,ep,k _ ob (λz=>(fp _ z).2.1 rfl) ho,r⟩
 ·refine(I.hok b u e).stay (λc v G q=>k c v ?_ q) (λc q=>q) λc xs q=>q;rcases G with z | z
  ·rw[z];exact χ b u e
  ·exact χ c _ z
noncomputable def Ite (K:b') (a:ee):It:=
 ⟨λi H=>∃xs x,SqL K H a xs/\xs[i]? =aY x,λi H x H'=>∃p v,H p=gg/\x= .ref p/\H'=upd H p (!H [.int i,v])/\∀xs,SqL K H a xs->xs[i]? =aY v,λi H=>∃xs,SqL K H a xs/\xs.length=i⟩
noncomputable def Itz (x:kv):It:=⟨λi _=>i < x.cps.size,λi H v H'=>∃p c,H p=gg/\v= .ref p/\H'=upd H p (!H [.int i,.str ⟨#[c]⟩])/\x.cps[i]? =aY c,λi _=>i=x.cps.size⟩
theorem BR:(2:Nat)<=sizeLine:=by rw[lj];decide
theorem zK {P:ry} {w:z5} {K:b'} {γ:eP W5} {k:Nat} {pos:Pos} (a e Y:ee) (Z:e≠Y):
  Turn P w K (.Tuple γ k pos) (Ite K a) [e,Y] e (λi h=>(∃L,IsEnum h e Y i L)/\h.IsListIter Y a i) where
 mem:=by simp
 obj:=λi h st b hb=>by
  obtain⟨⟨L,he⟩,⟨o,ho,χ,hd⟩⟩:=st;rcases x8.mp hb with z | z
  ·subst z;exact⟨_,he,λv z=>by cases z⟩
  ·rw[eR.mp z];exact⟨o,ho,λv z=>by rw[hd] at z;cases z⟩
 keep:=λi h h' st k=>⟨let ⟨L,he⟩:=st.1;⟨L,k e @C _ he⟩,st.2.at λo z=>k Y @C o z⟩
 item:=by
  intro X hP hw υ χ i pins s σ H E I hf st hg;subst hP hw υ;obtain⟨xs,x,φ,π⟩:=hg;obtain⟨its,ξ,p,hz⟩:=I.list φ;obtain⟨⟨L,he⟩,hl⟩:=st
  have δ:a≠Y:=λz=>by
   obtain⟨o,ho,ι,_⟩:=hl;obtain⟨o',n,τ,G,_⟩:=p;rw[z,ho] at τ;cases τ;rw[ι] at G;exact hE G @D
  have ε:a≠e:=λz=>by
   obtain⟨o',n,τ,G,_⟩:=p;rw[z,he] at τ;cases τ;exact hE (show Zt "enumerate"= .type "list" from G) @D
  have W:=Yv (prog:=X.prog) (w:=X.w) (A:=X.A) (Draws.list (A:=X.A.in1) (!aF χ) Y a δ its.toArray) e Z (by simp[Z,wh ε]) @C;have hi:i < its.toArray.size:=by have:=ξ.length;have:=(!K π).1;simp;omega
  refine W.item i s _ _ hi ⟨⟨L,he⟩,hl,p.isList⟩ λT a0 h' tk η hT ο β hk=>⟨_,rfl,W.go γ k pos i T _ _ _ β fun θ ρ ν=>?_⟩;obtain⟨t,ω,ψ,rfl⟩:=η;have ζ:=W.apart i T h' β
  have ru:RelV x ω:=by
   obtain⟨u,hu,r⟩:=ξ.get π;have α:its[i]? =aY ω:=by simpa using ψ
   rw[hu] at α;cases α;exact r
  have kk:∀b u,b∉[e,Y]->s.heap.get? b=aY u->θ.get? b=aY u:=λb u hb q=>ν b u hb (hk b u hb q);have fr:H T=none:=I.hok.fresh hT;refine⟨!j T,!V T @cn,I.laidCh (t':=tk) kk hT ⟨BR,[.int i t,ω],.cons ⟨t,rfl⟩ (!bc ru),?_⟩ hf,rfl,⟨T,x,fr,rfl,rfl,λys hy=>by rw[I.list_inj hy φ];exact π⟩,⟨ρ.1,ρ.2.1⟩,λb hb=>?_⟩
  ·obtain⟨o,ho,r⟩:=ο;exact⟨o,ν T o ζ ho,r⟩
  ·have fb:=(hf b hb);rw[aD (λz=>?_)]
   ·exact fb.1
   ·have lt:b < s.heap.objs.size:=by
     rcases x8.mp hb with z | z
     ·subst z;exact hK he
     ·rw[eR.mp z];obtain⟨o,ho,_⟩:=hl;exact hK ho
    rw[z] at lt;exact hE (gA lt hT) (Y2 _)
 done:=by
  intro X hP hw υ χ i pins s σ H E I hf st hg;subst hP hw υ;obtain⟨xs,φ,π⟩:=hg;obtain⟨its,ξ,p,hz⟩:=I.list φ;obtain⟨⟨L,he⟩,hl⟩:=st
  have δ:a≠Y:=λz=>by
   obtain⟨o,ho,ι,_⟩:=hl;obtain⟨o',n,τ,G,_⟩:=p;rw[z,ho] at τ;cases τ;rw[ι] at G;exact hE G @D
  have ε:a≠e:=λz=>by
   obtain⟨o',n,τ,G,_⟩:=p;rw[z,he] at τ;cases τ;exact hE (show Zt "enumerate"= .type "list" from G) @D
  have W:=Yv (prog:=X.prog) (w:=X.w) (A:=X.A) (Draws.list (A:=X.A.in1) (!aF χ) Y a δ its.toArray) e Z (by simp[Z,wh ε]) @C;have hn:its.toArray.size=i:=by have:=ξ.length;simp;omega
  subst hn;exact W.done s _ _ ⟨⟨L,he⟩,hl,p.isList⟩ λh' tk hk=>⟨rfl,I.turnedCh hk hf⟩
 self:=λ_ _ _ _ _ st h=>let ⟨_,he⟩:=st.1;Yl he h
theorem G8 {P:ry} {w:z5} {K:b'} {α:eP W5} {k:Nat} {pos:Pos} {x:kv} {t:Tok} {n:X9} (e L:ee) (Y:e≠L)
  (D:∀A:W6,A.handled=gg->Draws P w A L [L] x.cps.size (λi v=>∃c u,x.cps[i]? =aY c/\v= .str ⟨#[c]⟩ u) (λi h=>h.IsStrIter L n x t i)):
  Turn P w K (.Tuple α k pos) (Itz x) [e,L] e (λi h=>(∃G,IsEnum h e L i G)/\h.IsStrIter L n x t i) where
 mem:=by simp
 obj:=λi h st b hb=>by
  obtain⟨⟨G,he⟩,⟨o,ho,δ,hd⟩⟩:=st;rcases x8.mp hb with z | z
  ·subst z;exact⟨_,he,λv z=>by cases z⟩
  ·rw[eR.mp z];exact⟨o,ho,λv z=>by rw[hd] at z;cases z⟩
 keep:=λi h h' st k=>⟨let ⟨G,he⟩:=st.1;⟨G,k e @C _ he⟩,let ⟨o,ho,r⟩:=st.2;⟨o,k L @C o ho,r⟩⟩
 item:=by
  intro X ε hw υ δ i pins s σ H E I hf st γ;subst ε hw υ;obtain⟨⟨G,he⟩,hl⟩:=st;have W:=Yv (prog:=X.prog) (w:=X.w) (A:=X.A) (D X.A.in1 (!aF δ)) e Y (by simp[Y]) @C;refine W.item i s _ _ γ ⟨⟨G,he⟩,hl⟩ λT ι h' tk η hT ο Z hk=>⟨_,rfl,W.go α k pos i T _ _ _ Z fun θ ρ β=>?_⟩;obtain⟨ν,τ,⟨c,u,ψ,rfl⟩,rfl⟩:=η;have ζ:=W.apart i T h' Z;have ξ:∀b u,b∉[e,L]->s.heap.get? b=aY u->θ.get? b=aY u:=λb u hb q=>β b u hb (hk b u hb q);have fr:H T=none:=I.hok.fresh hT;refine⟨!j T,!V T (!H [.int i,.str ⟨#[c]⟩]),I.laidCh (t':=tk) ξ hT ⟨BR,[.int i ν,.str ⟨#[c]⟩ u],.cons ⟨ν,rfl⟩ (!bc ⟨u,rfl⟩),?_⟩ hf,rfl,⟨T,c,fr,rfl,rfl,ψ⟩,⟨ρ.1,ρ.2⟩,λb hb=>?_⟩
  ·obtain⟨o,ho,r⟩:=ο;exact⟨o,β T o ζ ho,r⟩
  ·have π:=(hf b hb);rw[aD (λz=>?_)]
   ·exact π.1
   ·have lt:b < s.heap.objs.size:=by
     rcases x8.mp hb with z | z
     ·subst z;exact hK he
     ·rw[eR.mp z];obtain⟨o,ho,_⟩:=hl;exact hK ho
    rw[z] at lt;exact hE (gA lt hT) (Y2 _)
 done:=by
  intro X ε hw υ δ i pins s σ H E I hf st γ;subst ε hw υ;obtain⟨⟨G,he⟩,hl⟩:=st;have W:=Yv (prog:=X.prog) (w:=X.w) (A:=X.A) (D X.A.in1 (!aF δ)) e Y (by simp[Y]) @C;have γ:i=x.cps.size:=γ;subst γ;exact W.done s _ _ ⟨⟨G,he⟩,hl⟩ λh' tk hk=>⟨rfl,I.turnedCh hk hf⟩
 self:=λ_ _ _ _ _ st h=>let ⟨_,he⟩:=st.1;Yl he h
noncomputable def Vc (K:b') (tl:TE):TI:=fun σ H R=>tl σ H λx H1=>(∃a,x= .ref a/\(∃xs,SqL K H1 a xs)/\R (Ite K a) H1)∨∃z,x= .str z/\R (Itz z) H1
section
variable {X:Cx} {K:b'}
theorem KM {l:W5} {tl:TE} {Z:eP W5} {k:Nat} {tpos p pos:Pos} (h:X.K=K) (ζ:Gl X "enumerate") (hm:X.mg "enumerate"=gg) (hl:!F l tl) (hs:pT [l] X.env=[(false,eval l X.env)]:=by rfl):
  PI X (.Tuple Z k tpos) (!aG "enumerate" p [l] [] pos) (Vc K tl):=by
 subst h;intro pins s σ H R I h;refine ai6 (mR I ζ hm boot_enumerate (wq (thn (aa hl ae hs pos pins s σ H (λvs H1=>match vs with | [x]=>(∃a,x= .ref a/\(∃xs,SqL X.K H1 a xs)/\R (Ite X.K a) H1)∨∃z,x= .str z/\R (Itz z) H1 | _=>False) I h) λus G ⟨vs,H1,I1,α,β⟩=>?_) hs rfl))
 match vs,α,β with
 | [x],α,β=>
 obtain⟨u,rfl,δ⟩:=α.one;rcases β with ⟨a,rfl,⟨xs,ε⟩,q⟩ | ⟨z,rfl,q⟩
 ·cases δ;obtain⟨its,η,pl,hz⟩:=I1.list ε;refine as5 pl.isList λh' he L hsz hk=>Yl he ?_;refine⟨G.heap.objs.size + 1,[G.heap.objs.size + 1,G.heap.objs.size],_,_,H1,rfl,@cr,zK a _ _ (Xw (Xq _)),⟨⟨_,he⟩,L⟩,λb hb=>?_,q⟩;have Y:G.heap.objs.size<=b:=(x8.mp hb).elim (λz=>by rw[z];exact ad1 _) (λz=>by rw[eR.mp z];exact mc _);exact !bl Y Y
 ·obtain⟨t,rfl⟩:=δ;refine call_enumerate_str λh' he L hsz hk=>Yl he ?_
  have fin:∀n,(h'.IsStrIter G.heap.objs.size n z t 0)->(∀A:W6,A.handled=gg->Draws X.prog X.w A G.heap.objs.size [G.heap.objs.size] z.cps.size (λi v=>∃c u,z.cps[i]? =aY c/\v= .str ⟨#[c]⟩ u) (λi h=>h.IsStrIter G.heap.objs.size n z t i))->
    PIE X pins σ (.Tuple Z k tpos) R (!j (G.heap.objs.size + 1)) {G with heap:=h'}:=λn hn D=>by
   refine⟨G.heap.objs.size + 1,[G.heap.objs.size + 1,G.heap.objs.size],_,_,H1,rfl,@cr,G8 _ _ (Xw (Xq _)) D,⟨⟨_,he⟩,hn⟩,λb hb=>?_,q⟩;have Y:G.heap.objs.size<=b:=(x8.mp hb).elim (λz=>by rw[z];exact ad1 _) (λz=>by rw[eR.mp z];exact mc _);exact !bl Y Y
  unfold strIterType at L;split at L
  ·exact fin _ L λA γ=>Draws.strAscii γ _ z t
  ·exact fin _ L λA γ=>Draws.strWide γ _ z t
end
theorem Bo {K:b'} {a:ee} {xs:eP V} {g:TG} {tb:TS} {D:Ends} {σ:St} {H:Hp} (G:Nat->St->Hp->Prop) (h0:G 0 σ H) (hl:∀i σ H,i<=xs.length->G i σ H->SqL K H a xs)
  (hs:∀i x σ H p H',xs[i]? =aY x->G i σ H->H p=gg->Same H H'->H' p=aY @cn->g @P σ H' λL H2=>tb {D with nx:=G @H,ct:=G @H,bk:=D.nx} L H2) (hd:∀σ H,G xs.length σ H->D.nx σ H):
  ∃W:Nat->Nat->St->Hp->Prop,(∃m,W 0 m σ H)/\∀i m σ H,W i m σ H->
    ((Ite K a).stop i H/\D.nx σ H)∨((Ite K a).go i H/\∃N:St->Hp->Prop,(∀σ' H',N σ' H'->∃Z,Z < m/\W @H Z σ' H')/\∀x H',(Ite K a).yld i H x H'->g x σ H' λL H2=>tb {D with nx:=N,ct:=N,bk:=D.nx} L H2):=by
 refine⟨λi m σ H=>m=xs.length - i/\i<=xs.length/\G i σ H,⟨xs.length,@C,Xy _,h0⟩,?_⟩;rintro i m σ H ⟨rfl,hi,p⟩;have q:=hl i σ H hi p;by_cases Y:i < xs.length
 ·refine !I ⟨⟨xs,xs[i],q,by simp[Y]⟩,G @H,fun σ' H' α=>⟨xs.length - @H,by omega,rfl,Y,α⟩,λx H' y=>?_⟩;obtain⟨r,v,f,γ,β,y⟩:=y;subst γ β;exact hs i v σ H r _ (y xs q) p f (bo f) aw
 ·have e:i=xs.length:=by omega
  subst e;exact !E ⟨⟨xs,q,rfl⟩,hd σ H p⟩
section
variable {σ:St} {H:Hp} {te:TE} {R:It->Hp->Prop}
theorem Ru {K:b'} (h:te σ H λx H1=>(∃a,x= .ref a/\(∃xs,SqL K H1 a xs)/\R (Ite K a) H1)∨∃z,x= .str z/\R (Itz z) H1):Vc K te σ H R:=h
end
noncomputable def PX:V->eP V->Hp->VK->Prop:=λx xs H Q=>∃z y,x= .str z/\xs=[.str y]/\y.length≠0/\z.length + 2<=ic/\∀D,H D=gg->Q @W (!X H ((Yd z y).map V.str))
theorem BP:∀(G:B') (n:Nat),Vals (G.map V.str) (strsFrom n G)
 | [],_=> .nil
 | x::r,n=> .cons ⟨n,rfl⟩ (BP r (n + 1))
section
variable {X:Cx}
theorem wj:MtR X "str.split" PX:=by
 intro pins s σ H x xs v us Q I Y rs h;obtain⟨z,y,rfl,rfl,L,hz,q⟩:=h;obtain⟨t,rfl⟩:=Y;obtain⟨u,rfl,Z⟩:=wA rs;obtain⟨t',rfl⟩:=Z;have L:(y.length == 0)=false:=W2.mpr L;have α:=split_le z y;have fr:=I.hok.fresh (mc s.heap.objs.size)
 have G:Yd z y=[z]->EP X pins σ Q @aN {s with heap:=s.heap.push {cls:= .type "list",data:= .seq [ae8 z t].toArray}}:=λe=>
  ⟨@aN,_,I.laid (t':=s.toks) (o:= .lst ((Yd z y).map V.str)) (λb o e=>gn _ e) @U ⟨by rw[a'];omega,[.str z t],0,by rw[e];exact .cons ⟨t,rfl⟩ .nil,kh _ rfl⟩,rfl,q _ fr⟩
 cases h1:(decide (z.length < y.length)||decide (ah7 z < ah7 y)) with
 | true=>exact Zn F.slot_str_split (ag2 _ _ _) F.entry_str_split (F.args_str_split_2 _ _) (meets_str_split_cannot_occur z y t t' h1) (G (lx h1))
 | false=>
   cases hf:(Zw z y 0 z.length (z.length + 1)).isEmpty with
   | true=>exact Zn F.slot_str_split (ag2 _ _ _) F.entry_str_split (F.args_str_split_2 _ _) (meets_str_split_not_found z y t t' h1 L hf) (G ((kf (af1 h1)).trans (lx hf)))
   | false=>
     have e:Yd z y=Builtin.Str.partsBetween z (Zw z y 0 z.length (z.length + 1)) y.length:=(kf (af1 h1)).trans (kf (af1 hf));refine Zn F.slot_str_split (ag2 _ _ _) F.entry_str_split (F.args_str_split_2 _ _) (meets_str_split_sep z y t t' h1 L hf @A (by rw[<-e];omega)) ?_;refine⟨@aN,_,I.laid (λb o e=>gn _ e) @U (o:= .lst ((Yd z y).map V.str)) ⟨by rw[a'];omega,_,0,?_,kh _ rfl⟩,rfl,q _ fr⟩;rw[e];exact BP _ _
end
section
variable {σ:St} {H:Hp} {Q:VK} {D:Ends} {te ty tv td:TE} {x y v:V}
theorem EJ {z w:kv} (hw:w.length≠0) (hz:z.length + 2<=ic) (h:∀p H2,H p=gg->Same H H2->H2 p=aY (!b7 (Yd z w))->Q @P H2):PX @aj [.str w] H Q:=⟨z,w,rfl,rfl,hw,hz,jH h⟩
theorem gY {l:ee} {xs:eP V} (e:@bK) (hz:xs.length < ic) (h:∀H2,Upd H H2 l (!A (xs++[y]))->Q .non H2):Kz @aC [y] H Q:=⟨l,xs,y,rfl,rfl,e,hz,h _ Upd.of⟩
def Nb (v:V) (x:V) (D:Ends) (σ:St) (y:V) (H:Hp):Prop:=∃a G,x= .ref a/\DPut H a y v G/\D.nx σ G
theorem T2 (h:tv σ H λv H1=>td σ H1 λx H2=>ty σ H2 (Nb v x D σ)):Ub td ty tv D σ H:=h
theorem rm {p:ee} {kvs:@ap} {z:kv} (e:@bz) (hl:kvs.length < ic) (h:∀H2,Upd H H2 p (.dK (putK kvs (xY z) v))->D.nx σ H2):Nb v @P D σ @aj H:=⟨p,_,rfl,DPut.k (k:=xY z) e hl,h _ Upd.of⟩
theorem RA {p:ee} {kvs:@ap} {z:Int} (e:@bz) (hl:kvs.length < ic) (h:∀H2,Upd H H2 p (.dK (putK kvs (Xv z) v))->D.nx σ H2):Nb v @P D σ (.int z) H:=⟨p,_,rfl,DPut.k (k:=Xv z) e hl,h _ Upd.of⟩
def Nc (x:V) (Q:VK) (y:V) (H:Hp):Prop:=∃a v,x= .ref a/\DGet H a y @aI/\Q v H
theorem T7 (h:td σ H λx H1=>ty σ H1 (Nc x Q)):Tf td ty σ H Q:=h
theorem uc {p:ee} {kvs:@ap} {z:kv} (e:@bz) (l:valV kvs (xY z)=aY v) (h:Q v H):Nc @P Q @aj H:=⟨p,v,rfl,by rw[<-l];exact DGet.k (k:=xY z) e,h⟩
theorem Km {p:ee} {kvs:@ap} {z:Int} (e:@bz) (l:valV kvs (Xv z)=aY v) (h:Q v H):Nc @P Q (.int z) H:=⟨p,v,rfl,by rw[<-l];exact DGet.k (k:=Xv z) e,h⟩
def QB (C:ee) (m:kv) (sp:Sp) (E:XK) (tr:TA) (σ:St) (Q:VK) (x:V) (H:Hp):Prop:=∃a dx fs,x= .ref a/\H a=aY @ak/\fs.lookup m=gg/\tr σ H λvs H2=>sp (x::(vs++[])) H2 Q E
theorem TM {C:ee} {m:kv} {sp:Sp} {E:XK} {tr:TA} (h:te σ H (QB C m sp E tr σ Q)):QS C m sp [] E te tr σ H Q:=h
theorem aB {C dx p:ee} {m:kv} {fs:@az} {sp:Sp} {E:XK} {tr:TA} (e:H p=aY @ak) (l:fs.lookup m=gg) (h:tr σ H λvs H2=>sp (.ref p::vs) H2 Q E):QB C m sp E tr σ Q @P H:=⟨p,dx,fs,rfl,e,l,by simp only[XI];exact h⟩
theorem Rq {K:b'} {p:ee} {xs:eP V} (e:SqL K H p xs) (h:∀q H2,H q=gg->Same H H2->H2 q=aY @aF->Q (!j q) H2):EO K @bl H Q:=⟨p,xs,rfl,!E e,jH h⟩
theorem Rp {K:b'} {p:ee} {xs:eP V} (e:SqT K H p xs) (h:∀q H2,H q=gg->Same H H2->H2 q=aY @aF->Q (!j q) H2):EO K @bl H Q:=⟨p,xs,rfl,!I e,jH h⟩
theorem Tz {K:b'} {p:ee} {xs:eP V} (e:SqL K H p xs) (h:∀q H2,H q=gg->Same H H2->H2 q=aY @aG->Q (!j q) H2):Ky K @bl H Q:=⟨p,xs,rfl,!E ⟨e,jH h⟩⟩
theorem Tw {K:b'} {p:ee} {xs:eP V} (e:SqT K H p xs) (h:Q @P H):Ky K @bl H Q:=⟨p,xs,rfl,!I ⟨e,h⟩⟩
end
def Mv (ch fr:M') (h h':WN):Prop:=(∀b o,b∉ch->b∉fr->h.get? b=aY o->h'.get? b=aY o)/\∀b o,b∉ch->b∈fr->h.get? b=aY o->∃G,h'.get? b=aY {o with slots:=G}
def Na (h:WN) (e:ee) (C:i') (dx:Q') (T:vr (ee×i')):Prop:=
 ∃π vs,h.get? e=aY π/\π.cls=C/\π.dict=dx/\π.data= .fields vs/\1 < vs.size/\
   match T with
   | none=>vs[1]? =aY .none
   | some (t,L)=>vs[1]? =aY @ab/\t≠e/\∃G ts,h.get? t=aY G/\G.data= .fields ts/\ts[3]? =aY L
section
variable {M:Model} {A:W6} {E:Cr} {s:ik}
theorem C7 {h:WN} {a:ee} {o:Obj} {vs:G'} {i:Nat} {v:i'} (ho:h.get? a=aY o) (hd:o.data= .fields vs):
  ∃o',(h.update a (YT (·.setIfInBounds i v))).get? a=aY o'/\o'.cls=o.cls/\o'.dict=o.dict/\o'.data= .fields (vs.setIfInBounds i v):=by
 have ζ:=ad8 hd (·.setIfInBounds i v);refine⟨_,XQ (YT (·.setIfInBounds i v)) ho (am7 ζ),aq9 _ _,?_,ζ⟩;obtain⟨c,d,G,L⟩:=o;have hd:G= .fields vs:=hd;subst hd;rfl
theorem O4 {base:WN} {env:Env} {outer:@aL} {L e:ee} {π:Obj} {vs:G'} {G:i'} {b:Xb} {Q:L'}
  (δ:A.frames=aY (env::outer)) (hl:s.heap.FunFrames base (env::outer)) (hf:env.frame=aY L) (he:s.heap.get? e=aY π) (hd:π.data= .fields vs) (hsz:1 < vs.size)
  (h:∀h',Mv [e] (frs (env::outer)) s.heap h'->Na h' e π.cls π.dict (aY (s.heap.objs.size,rawInt L))->Q () {s with heap:=h'}):
  lT M A (do let a <-frameOf env;let pl <-entryPlaceOf L b;let t <-aa5 G a .none (rawInt L) .none pl;setField (!j e) 1 t) Q E s:=by
 have ne:e∉frs (env::outer):=λhm=>by
  obtain⟨_,o,ho,γ⟩:=hl.mem hm;rw[he] at ho;cases ho;exact γ vs hd
 refine gz (wpAny_frameOf_fun δ hl hf λg1 β=>?_);refine gz (wpAny_entryPlaceOf λpl Z=>?_);unfold aa5 newFields;refine gz (aa4 ?_ (Z.sizeOk5 _ _ _ _ _));have ι:g1.get? e=aY π:=(β.2.1 e ne).trans he;have sz:g1.objs.size=s.heap.objs.size:=β.1;generalize α:({cls:= .type "traceback",dict:=gg,data:= .fields ([G,.ref L,.none,rawInt L,.none]++(if pl.isEmpty then lA 6 Xj else pl)).toArray}:Obj)=ob;have θ:(g1.push ob).get? e=aY π:=gn ob ι;refine ZT θ hd hsz ?_;have lt:e < g1.objs.size:=hK ι;obtain⟨o',τ,ρ,ο,ξ⟩:=C7 (i:=1) (v:= .ref g1.objs.size) θ hd;have oth:∀c,c≠e->((g1.push ob).update e (YT (·.setIfInBounds 1 (vu g1.objs.size)))).get? c=(g1.push ob).get? c:=λc ζ=>X1 _ _ (wh ζ);have Y:∀c o,c≠e->g1.get? c=aY o->((g1.push ob).update e (YT (·.setIfInBounds 1 (vu g1.objs.size)))).get? c=aY o:=λc o ζ q=>(oth c ζ).trans (gn ob q);refine h _ ⟨λc o n m q=>Y c o (λz=>n (by rw[z];exact eR.mpr rfl)) ((β.2.1 c m).trans q),λc o n m q=>?_⟩ ⟨o',_,τ,ρ,ο,ξ,by simpa using hsz,?_⟩
 ·obtain⟨ν,ε⟩:=β.2.2 c o q;exact⟨ν,Y c _ (λz=>n (by rw[z];exact eR.mpr rfl)) ε⟩
 ·have η:g1.objs.size≠e:=Xw lt;refine⟨by rw[<-sz];simp[hsz],by rw[<-sz];exact η,ob,_,?_,by rw[<-α],?_⟩
  ·rw[<-sz,oth _ η];exact kh g1 (by rw[<-α];rfl)
  ·first | (simp;done) | (rcases Z with rfl | ⟨_,_,_,_,_,_,_,rfl⟩<;>simp)
theorem Md {e t:ee} {C:i'} {dx:Q'} {γ:i'} {fr:Q'} {Q:L'} (x:Na s.heap e C dx (aY (t,γ)))
  (h:∀h',(∀b o,b≠t->s.heap.get? b=aY o->h'.get? b=aY o)->Na h' e C dx (aY (t,fr.elim .none λf=>rawInt f))->Q () {s with heap:=h'}):lT M A (setFlight (!j e) fr) Q E s:=by
 obtain⟨π,vs,he,Y,L,hd,hsz,h1,ι,ζ,ts,hT,G,Z⟩:=x;unfold setFlight;refine gz (XD he hd h1 ?_);rw[lx (show(vu t != Xj)=true from by simp)];refine ZT hT G (Y1.mp Z).1 ?_;obtain⟨o',β,ε,δ,α⟩:=C7 (i:=3) (v:=fr.elim .none λf=>rawInt f) hT G;have oth:∀c,c≠t->(!bC t (YT (·.setIfInBounds 3 (fr.elim Xj λf=>rawInt f)))).get? c=s.heap.get? c:=λc Y=>X1 _ _ (wh Y);refine h _ (λb o hb q=>(oth b hb).trans q) ⟨π,vs,(oth e (wh ι)).trans he,Y,L,hd,hsz,h1,ι,o',_,β,α,?_⟩;have:=(Y1.mp Z).1;simp[this]
end
section
variable {X:Cx} {pins:D'} {σ:St} {H:Hp} {s:ik}
theorem Inv.mv {h':WN} {ch:M'} (I:@M) (m:Mv ch (frs X.stack) s.heap h') (fp:∀b∈ch,FpOk X pins H b):Inv X pins σ H {s with heap:=h'}:=by
 have χ:∀b u,H b=aY u->b∉ch:=λb u e z=>by rw[(fp b z).1] at e;cases e
 have L:∀b u,H b=aY u->b∉frs X.stack:=λb u e z=>by rw[I.stkFree b z] at e;cases e
 have any:∀b o,b∉ch->s.heap.get? b=aY o->∃Y,h'.get? b=aY {o with slots:=Y}:=λb o n e=>by
  by_cases z:b∈frs X.stack
  ·exact m.2 b o n z e
  ·exact⟨o.slots,m.1 b o n z e⟩
 refine I.step (g':=s.gens) (d':=s.drawn) (t':=s.toks) (ch:=ch) (λb hb=>?_) (λb ob φ hb G e _=>m.1 b ob G (λz=>(x8.mp (I.stkSub b z)).elim φ hb) e) (λb ob _ _ G e _=>any b ob G e) (λb ob _ e n=>n) (λb ob G e=>let ⟨Y,q⟩:=any b ob G e;⟨_,q⟩)
  (λb xs e=>e) (λb ob u e=>e) (λb ps e=>⟨#[],by rw[e];simp⟩) (fun γ hm=>?_) (λb u e=>?_) I.bare
 ·obtain⟨ε,β,δ,ψ,α,Z⟩:=fp b hb;exact⟨ψ,β,α,Z⟩
 ·obtain⟨ob,es,ep,ho,r⟩:=hm;obtain⟨Y,q⟩:=any _ ob (λz=>(fp _ z).2.1 rfl) ho;exact⟨_,es,ep,q,r⟩
 ·refine(I.hok b u e).stay (λc v G q=>m.1 c v ?_ ?_ q) (λc q=>q) λc xs q=>q
  ·rcases G with z | z
   ·rw[z];exact χ b u e
   ·exact χ c _ z
  ·rcases G with z | z
   ·rw[z];exact L b u e
   ·exact L c _ z
theorem iu.there {P:ry} {w:z5} {h:WN} {a:ee} {o:HO} (x:iu P w H h a o):∃o',h.get? a=aY o':=by
 cases o with
 | lst xs=>obtain⟨_,_,_,_,e⟩:=x;exact⟨_,e⟩
 | tup xs=>obtain⟨_,_,_,_,e,_⟩:=x;exact⟨_,e⟩
 | dK kvs=>obtain⟨_,_,_,_,o,_,_,e,_⟩:=x;exact⟨_,e⟩
 | dT kvs=>obtain⟨_,_,_,_,o,_,_,e,_⟩:=x;exact⟨_,e⟩
 | set S n=>obtain⟨o,_,_,_,e,_⟩:=x;exact⟨_,e⟩
 | ins C dx fs=>obtain⟨_,_,_,e,_⟩:=x;exact⟨_,e⟩
 | own y=>obtain⟨_,e⟩:=x;exact⟨_,e⟩
 | xd fs=>obtain⟨_,⟨_,_,_,e,_⟩,_⟩:=x;exact⟨_,e⟩
 | rng lo hi=>obtain⟨_,_,_,e⟩:=x;exact⟨_,e⟩
 | frz ob u=>obtain⟨e,_⟩:=x;exact⟨_,e⟩
 | tbl ps=>exact⟨_,(show h.get? a=aY _ from x)⟩
 | met f y=>exact⟨_,(show h.get? a=aY _ from x)⟩
 | ext φ=>obtain⟨_,⟨_,e⟩,_⟩:=x;exact⟨_,e⟩
theorem HOk.none_ {P:ry} {w:z5} {h:WN} {a:ee} (x:HOk P w H h) (e:h.get? a=gg):H a=none:=by
 cases q:H a with
 | none=>rfl
 | some u=>obtain⟨o,z⟩:=(x a u q).there;rw[e] at z;cases z
def FpN (X:Cx) (pins:D') (H:Hp) (b:ee):Prop:=
 H b=gg/\b≠X.env.locals/\b∉X.fs/\(b∈X.ex∨X.s₀.heap.get? b=gg)/\(∀x c,X.env.cells.lookup x=aY c->c≠b)/\∀p∈X.pn++pins,p.1≠b
theorem FpOk.n {b:ee} (f:FpOk X pins H b):FpN X pins H b:=⟨f.1,f.2.1,f.2.2.1,f.2.2.2.1.imp id YD,f.2.2.2.2⟩
theorem Inv.fpN {H':Hp} {b:ee} (I:@M) (hb:s.heap.get? b=gg) (hn:H' b=gg):FpN X pins H' b:=by
 refine⟨hn,λz=>?_,λz=>?_,?_,λx c e z=>?_,λp L z=>?_⟩
 ·obtain⟨m,⟨o,es,ep,ho,r⟩,_⟩:=I.loc;rw[<-z,hb] at ho;cases ho
 ·obtain⟨_,o,ho,_⟩:=I.ok.funs.mem z;obtain⟨o',G⟩:=I.base.there b o ho λy=>I.ok.exfs b y z;rw[hb] at G;cases G
 ·by_cases z:b∈X.ex
  ·exact !E z
  ·cases q:X.s₀.heap.get? b with
   | none=>exact !I rfl
   | some o=>obtain⟨o',G⟩:=I.base.there b o q z;rw[hb] at G;cases G
 ·obtain⟨v,o,q,_⟩:=I.cell x c e;rw[z,hb] at q;cases q
 ·have:=(I.pin p L).1;rw[z,hb] at this;cases this
theorem Inv.mvN {h':WN} {ch:M'} (I:@M) (m:Mv ch (frs X.stack) s.heap h') (fp:∀b∈ch,FpN X pins H b):Inv X pins σ H {s with heap:=h'}:=by
 have out:∀b o,X.s₀.heap.get? b=aY o->b∉X.ex->b∉ch++X.ex:=λb o e n z=>by
  rcases gs.mp z with z | z
  ·rcases(fp b z).2.2.2.1 with y | y
   ·exact n y
   ·rw[e] at y;cases y
  ·exact n z
 have sub:∀b,b∉ch++X.ex->b∉X.ex:=λb n z=>n (hJ _ z)
 have ok:Cx.Ok {X with ex:=ch++X.ex}:=⟨I.ok.mod,I.ok.kind,I.ok.glob,I.ok.blt,I.ok.above,I.ok.inj,I.ok.has,I.ok.cab,I.ok.hd,I.ok.frames,I.ok.stk,
  λb hb=>(gs.mp hb).elim (λz=>⟨(fp b z).2.1,(fp b z).2.2.2.2.1⟩) (I.ok.exf b),I.ok.bs,I.ok.bsz,λb o e=>out b o (I.ok.bs b o e).1 (I.ok.noex b o e),
  λb hb=>(gs.mp hb).elim (λz=>(fp b z).2.2.1) (I.ok.exfs b),I.ok.funs,I.ok.frf⟩
 have U:=I.base
 have J:Inv {X with ex:=ch++X.ex} pins σ H s:=⟨ok,I.os,I.bare,⟨λb o e n f z=>U.keep b o e n f (sub b z),λb o e n f z=>U.slot b o e n f (sub b z),λb o e n z=>U.free b o e n (sub b z),λb o e z=>U.there b o e (sub b z),U.tups,U.frzs,U.tbls⟩,
  I.loc,I.cell,I.free,I.freeC,I.pin,I.hok,I.len⟩
 have J':=J.mv (h':=h') (ch:=ch) m λb hb=>⟨(fp b hb).1,(fp b hb).2.1,(fp b hb).2.2.1,!E (hG _ hb),(fp b hb).2.2.2.2⟩;have V:=J'.base
 exact⟨I.ok,J'.os,J'.bare,⟨λb o e n f z=>V.keep b o e n f (out b o e z),λb o e n f z=>V.slot b o e n f (out b o e z),λb o e n z=>V.free b o e n (out b o e z),λb o e z=>V.there b o e (out b o e z),V.tups,V.frzs,V.tbls⟩,
  J'.loc,J'.cell,J'.free,J'.freeC,J'.pin,J'.hok,J'.len⟩
structure Fly (X:Cx) (pins:D') (H:Hp) (e:ee) (C:i') (dx:Q') (T:vr (ee×i')) (h:WN):Prop where
 at_:Na h e C dx T
 fe:FpN X pins H e
 ft:∀t fl,T=aY (t,fl)->FpN X pins H t
def Own (X:Cx):Prop:=X.stack=X.env::X.outer/\X.env.frame=aY X.env.locals
theorem K6 {M:Model} {E:Cr} {e:ee} {C:i'} {dx:Q'} {T:vr (ee×i')} {Q:L'} (I:@M) (ow:Own X) (f:Fly X pins H e C dx T s.heap)
  (h:∀h' t,Inv X pins σ H {s with heap:=h'}->Fly X pins H e C dx (aY (t,rawInt X.env.locals)) h'->Q () {s with heap:=h'}):lT M X.A (noteFrame (!j e) X.env) Q E s:=by
 obtain⟨ho,hf⟩:=ow;have θ:X.A.frames=aY (X.env::X.outer):=by rw[I.ok.frames,ho]
 have ρ:s.heap.FunFrames X.base (X.env::X.outer):=by rw[<-ho];exact I.stack
 obtain⟨⟨π,vs,he,ε,Z,hd,hsz,hT⟩,fe,ft⟩:=f
 have fin:∀(L:ik) (G:Obj) (Y:G') (δ:i') (b1:Xb),Inv X pins σ H L->L.heap.objs.size=s.heap.objs.size->L={s with heap:=L.heap}->L.heap.get? e=aY G->G.cls=C->G.dict=dx->G.data= .fields Y->1 < Y.size->
   lT M X.A (do let a <-frameOf X.env;let pl <-entryPlaceOf X.env.locals b1;let t <-aa5 δ a .none (rawInt X.env.locals) .none pl;setField (!j e) 1 t) Q E L:=by
  intro L G Y δ b1 I1 hz η ψ χ φ υ τ;have γ:L.heap.FunFrames X.base (X.env::X.outer):=by rw[<-ho];exact I1.stack
  refine O4 θ γ hf ψ υ τ λh' m x=>?_;have ο:Inv X pins σ H {L with heap:=h'}:=I1.mvN (ch:=[e]) (by rw[ho];exact m) λb hb=>by rw[eR.mp hb];exact fe
  have e2:({L with heap:=h'}:ik)={s with heap:=h'}:=by rw[η]
  rw[e2] at ο ⊢;rw[χ,φ] at x;exact h h' _ ο ⟨x,fe,λt ξ z=>by cases z;exact(!bl @U @U).n⟩
 unfold noteFrame;simp only[hf];cases T with
 | none=>
   have h1:vs[1]? =aY .none:=hT;refine gz (XD he hd h1 ?_);rw[kf @D];exact fin s π vs _ _ I rfl rfl he ε Z hd hsz
 | some p=>
   obtain⟨t,ξ⟩:=p;obtain⟨h1,ι,ω,ts,β,α,ν⟩:=hT;refine gz (XD he hd h1 ?_);rw[lx (show(vu t != Xj)=true from by simp)];refine gz (XD β α ν ?_);by_cases hz:(ξ == rawInt X.env.locals)=true
   ·rw[lx hz];have ζ:=eq_of_beq hz;subst ζ;exact oD (h s.heap t I ⟨⟨π,vs,he,ε,Z,hd,hsz,h1,ι,ω,ts,β,α,ν⟩,fe,ft⟩)
   ·rw[kf hz];refine gz (ZT β α (Y1.mp ν).1 ?_);have oth:∀c,c≠t->(!bC t (YT (·.setIfInBounds 3 Xj))).get? c=s.heap.get? c:=λc ε=>X1 _ _ (wh ε)
    have m1:Mv [t] (frs X.stack) s.heap (!bC t (YT (·.setIfInBounds 3 Xj))):=
     ⟨λb o n _ q=>(oth b (λz=>n (by rw[z];exact eR.mpr rfl))).trans q,λb o n _ q=>⟨o.slots,(oth b (λz=>n (by rw[z];exact eR.mpr rfl))).trans q⟩⟩
    have I1:=I.mvN m1 λb hb=>by rw[eR.mp hb];exact ft t ξ rfl
    exact fin _ π vs _ _ I1 (Heap.size_after_update ..) rfl ((oth e (wh ι)).trans he) ε Z hd hsz
theorem Qi {M:Model} {A:W6} {E:Cr} {e t:ee} {C:i'} {dx:Q'} {G:i'} {fr:Q'} {Q:L'} (I:@M) (f:Fly X pins H e C dx (aY (t,G)) s.heap)
  (h:∀h',Inv X pins σ H {s with heap:=h'}->Fly X pins H e C dx (aY (t,fr.elim .none λf=>rawInt f)) h'->Q () {s with heap:=h'}):lT M A (setFlight (!j e) fr) Q E s:=by
 refine Md f.at_ λh' k x=>h h' (I.mvN (ch:=[t]) ⟨λb o n _ q=>k b o (λz=>n (by rw[z];exact eR.mpr rfl)) q,λb o n _ q=>⟨o.slots,k b o (λz=>n (by rw[z];exact eR.mpr rfl)) q⟩⟩ λb hb=>by rw[eR.mp hb];exact f.ft t G rfl) ⟨x,f.fe,λt' L z=>by cases z;exact f.ft t G rfl⟩
end
noncomputable abbrev XW:=St->XK
def XE (X:Cx) (W:XW) (e:i') (s:ik):Prop:=∃pins x C dx T σ H,e= .ref x/\Inv X pins σ H s/\Fly X pins H x C dx T s.heap/\W σ C dx H
def Thr (X:Cx) (W:XW):Prop:=∀e s,XE X W e s->X.xe e s
noncomputable abbrev Cx.thr (X:Cx) (W:XW):Cx:=X.wish (XE X W)
noncomputable abbrev W0:XW:=λ_ _ _ _=>False
section
variable {X:Cx} {W:XW} {pins:D'} {σ:St} {H:Hp} {s:ik}
theorem Fly.wish {E:Cr} {e:ee} {C:i'} {dx:Q'} {T:vr (ee×i')} {h:WN} (f:Fly (X.wish E) pins H e C dx T h):Fly X pins H e C dx T h:=⟨f.at_,f.fe,f.ft⟩
theorem jW:Thr (X.thr W) W:=λe s ⟨pins,x,C,dx,T,σ,H,he,I,f,w⟩=>⟨pins,x,C,dx,T,σ,H,he,I.unwish,f.wish,w⟩
theorem thr0:Thr X W0:=λe s ⟨pins,x,C,dx,T,σ,H,he,I,f,w⟩=>w.elim
theorem HQ (ow:Own X):PassesOwn @S X.A X.env (XE X W):=by
 intro e s' ⟨pins,x,C,dx,T,σ,H,he,I,f,w⟩;subst he;unfold notedBy;refine K6 I ow f λh' t γ α=>?_;unfold cameBackBy;obtain⟨⟨π,vs,Z,η,ζ,Y,ε,L,δ⟩,fe,ft⟩:=id α;refine gz (XD Z Y L ?_);rw[kf @C];refine Qi γ α λh2 β G=>?_;rw[ow.2] at G;exact⟨pins,x,C,dx,_,σ,H,rfl,β,G,w⟩
theorem w6 (ow:Own X):PassesOwn @S X.A X.env (X.thr W).xe:=HQ ow
theorem PSs.thr {st:eP YY} {t:TS} (h:PSs (X.thr W) st t) (k:Thr X W):PSs X st t:=λpins s σ H D I hw=>
 YQ (h pins s σ H D (I.wish _) hw) (λ_ _ q=>q.unwish) k
end
noncomputable def CX1 (P:ry) (w:z5):CXT:=λouter H s E e s'=>∃x C dx t H',e= .ref x/\s'.os=s.os/\AllBare s'.gens/\Un (frs outer) [] H H' s.heap s'.heap/\HOk P w H' s'.heap/\
 Na s'.heap x C dx (aY (t,.none))/\s.heap.get? x=gg/\s.heap.get? t=gg/\H' x=gg/\H' t=gg/\E C dx H'
section
variable {P:ry} {w:z5} {K:b'} {mg:F'} {base:WN}
theorem GH {N:B'} {G:kv} {scope:Yp} {f:ee} {Y:i'} {A:W6} {outer:@aL} {s:ik} {H:Hp} {E:XK}:
  Thr (cxOf (CX1 P w) P w K mg base N G scope f Y A outer s H E) λ_=>E:=by
 intro e s' ⟨pins,x,C,dx,T,σ,H',he,I,α,β⟩;subst he;have own:Own (cxOf (CX1 P w) P w K mg base N G scope f Y A outer s H E):=⟨rfl,rfl⟩;show lT _ _ (leaving _ _) _ _ _;unfold leaving;refine gz (K6 I own α λh1 t Z γ=>?_);refine Qi (fr:=gg) Z γ λh2 I2 L=>?_;have fx:=L.fe;have ft:=L.ft t _ rfl;have no:∀b:ee,(b∈([]:M')∨s.heap.get? b=gg)->s.heap.get? b=none:=λb z=>z.elim (λq=>hE q @C) id;exact⟨x,C,dx,t,H',rfl,I2.os,I2.bare,I2.base,I2.hok,L.at_,no x fx.2.2.2.1,no t ft.2.2.2.1,fx.1,ft.1,β⟩
theorem Fun.okX {x G:kv} {st:YY} {f:ee} {fd:hF} {N ps:B'} {k:Nat} {sp:Sp} (F:Fun K x G st f fd) (S:!C N ps st) (len:∀vs H Q E,sp vs H Q E->vs.length=ps.length)
  (Y:∀(L:i') (A:W6) (outer:@aL) (s:ik) (H:Hp) (vs:eP V) (Q:VK) (E:XK),Room k (A.deeper (!bq G @aJ f L))->sp vs H Q E->
   ∃t,PSs ((cxOf (CX1 P w) P w K mg base N G @aJ f L A outer s H E).thr λ_=>E) (gf st) t/\t {nx:=λ_ H'=>Q .non H',rt:=Q} (start N vs) H):FnOk P w K mg base (CX1 P w) @aR f fd ps sp:=by
 obtain⟨ε,od,kV,δ,Z,an,L,ct,β,rfl,lk,θ⟩:=F.ex;refine So lk θ S len λA outer s H vs Q E γ α=>?_;obtain⟨t,h,q⟩:=Y L A outer s H vs Q E γ α;exact⟨t,h.thr GH,q⟩
end
section
variable {X:Cx} {W:XW} {pins:D'} {σ:St} {H:Hp} {s s':ik}
theorem Inv.afterX {e:i'} (I:@M) (hx:Thr X W) (h:CX1 X.prog X.w X.stack H s (W σ) e s'):X.xe e s':=by
 obtain⟨x,C,dx,t,H',rfl,os,bare,un,hok,ea,G,L,nx,Y,w⟩:=h;refine hx _ _ ⟨pins,x,C,dx,_,σ,H',rfl,I.call' (ch:=[]) os un hok bare (λb z=>hE z @C),⟨ea,I.fpN G nx,λt' Z z=>?_⟩,w⟩;cases z;exact I.fpN L Y
variable {k:Nat} {f C:ee} {fd:hF} {ps:B'} {sp:Sp} {dvs:eP V} {ds:E'} {x m:kv} {p pos apos:Pos} {e o:W5} {es:eP W5} {ta:TE} {t:TA}
theorem RD {Q:VK} {us:E'} {vs:eP V} (F:FnOk X.prog X.w X.K X.mg X.base (CX1 X.prog X.w) k f fd ps sp) (Y:Room k X.A) (hb:rT X.K fd ps ds) (hd:Vals dvs ds) (hx:Thr X W)
  (I:@M) (r:Vals vs us) (h:sp @aV H Q (W σ)):lT @S X.A (call @a7 us) (EP X pins σ Q) X.xe s:=by
 have L:Vals @aV @bb:=r.append hd;have hl:(@bb).length=ps.length:=by rw[<-L.length];exact F.len _ _ _ _ h
 refine at5 (ab8 (F.run X.A X.stack s H ⟨us,[]⟩ @bb @aV Q (W σ) Y I.env0 (hb s us I.kIn hl) L h) λr s' G=>?_);cases r with
 | error e=>exact I.afterX hx G
 | ok Z=>
   cases Z with
   | ret u=>exact I.after G
   | next=>exact X4 G
   | brk=>exact X4 G
   | cont=>exact X4 G
noncomputable def PB (C:ee) (m:kv) (sp:Sp) (dvs:eP V) (W:XW) (ta:TE) (t:TA):TE:=fun σ H Q=>ta σ H λx H1=>∃a dx fs,x= .ref a/\H1 a=aY @ak/\fs.lookup m=gg/\
 t σ H1 λvs H2=>sp (x::@aV) H2 Q (W σ)
theorem fH {pl:Sem Xb} (he:!F o ta) (c:Cls X.K C) (hm:Meth X.K C m f) (F:FnOk X.prog X.w X.K X.mg X.base (CX1 X.prog X.w) k f fd ps sp) (γ:Room k X.A) (hb:rT X.K fd ps ds) (hd:Vals dvs ds) (hx:Thr X W) (ha:PA X @V t)
  (ρ:pT @V X.env=(false,eval e X.env)::pT es X.env:=by rfl) (G:(!aD pos es).any (·.1)=false:=by rfl)
  (ht:eval (!b6 o m apos @V [] pos) X.env=(do
   let L <-eval o X.env
   standAt apos.atName
   let (f,first) <-holding [L] (getMethod L m pl)
   callWith pos f first (!aD pos @V) (!bB pos [] X.env)):=by rfl):
  PE X (!b6 o m apos @V [] pos) (PB C m sp dvs W ta t):=by
 intro pins s σ H Q I h;refine Z2 (pl:=pl) (thn (he pins s σ H _ I h) λu Y ⟨x,H1,Z,α,a,dx,fs,ex,ea,l,q⟩=>?_) ht;subst ex;obtain rfl:u=vu a:=α;refine uN Z ea c hm l ?_;refine YS (first:=[.ref a]) (h₀:=X.base) I.ok.mod.kin hm.kp (thn (ha pos pins Y σ H1 _ Z q) λus δ ⟨vs,H2,I2,r,β⟩=>⟨I2.kIn,?_⟩) ρ G;exact RD (us:= .ref a::us) (vs:= .ref a::vs) F γ hb hd hx I2 (.cons rfl r) β
end
structure XCls (h:WN) (C:ee) (bmB:E') (newId:X9):Prop where
 obj:∃bm N nm q bs hdct sn sub ab col dd k0 k1 k2 k3 k5 mN,h.get? C=aY (excClassObj nm q C N bs bm hdct sn sub ab col dd k0 k1 k2 k3 k5 newId)/\h.Ns N mN/\mN "__init__"=gg/\OwnTail h bmB bm
theorem QN {K:b'} {h:WN} {C:ee} {bmB:E'} {newId:X9} (X:K.In h) (q:ab5 K C bmB newId=true):XCls h C bmB newId:=by
 refine⟨?_⟩;unfold ab5 at q;split at q
 next dd ε α ho=>
  split at q
  next ζ bm k0 k1 k2 k3 n k5 hm hs=>
   simp only[WV,ab7,ZQ] at q;obtain⟨⟨⟨⟨⟨δ,γ⟩,G⟩,ht⟩,hok⟩,Z⟩:=q;subst δ γ;cases ε with
   | mk nm bs Y ns β hd sn sub ab col del=>
   have hm:Y=_:=hm;have G:del=false:=G;subst hm G;have L:α=#[k0,k1,k2,k3,aY (!ai n),k5]:=by rw[<-hs]
   subst L;exact⟨bm,ns,nm,β,bs,hd,sn,sub,ab,col,dd,k0,k1,k2,k3,k5,_,X _ _ ho,.of_isNs (PySem.W.isNs_of_in X hok),PySem.W.nsMap_none_of_in X hok Z,PySem.W.tail_of_in X ht⟩
  next=>cases q
 next=>cases q
section
variable {X:Cx} {W:XW} {C:ee} {x:kv} {np cpos pos:Pos} {e:W5} {es:eP W5} {t:TA} {B newId initId:X9} {bmB:E'}
noncomputable def Pz (C:ee) (W:XW) (t:TA):TS:=λ_ σ H=>t σ H λvs H1=>vs.length<=ic/\W σ @ae gg H1
theorem R3 {pins:D'} {σ:St} {H:Hp} {s:ik} {h':WN} {a:ee} {vs:E'} (I:@M) (m:Heap.MadeExcOf s.heap h' a @ae vs):
  Inv X pins σ H {s with heap:=h'}/\Fly X pins H a @ae gg gg h':=by
 obtain⟨tt,G,Y,L⟩:=m.there;exact⟨I.mvN (ch:=[]) ⟨λb o _ _ e=>m.keeps b o e,λb o _ _ e=>⟨o.slots,m.keeps b o e⟩⟩ λb z=>hE z @C,⟨⟨_,_,G,rfl,rfl,rfl,@C,@C⟩,I.fpN m.new (I.hok.none_ m.new),λt Z z=>by cases z⟩⟩
theorem nJ (FB:ExcBaseFacts B newId initId bmB) (q:ab5 X.K C bmB newId=true) (hx:Thr X W) (hc:@aQ) (β:Gl X x) (hm:X.mg x=aY @ae) (ha:PA X @V t)
  (Z:(x == ("__debug__":kv))=false:=by decide) (he:pT @V X.env=(false,eval e X.env)::pT es X.env:=by rfl) (L:(!aD cpos es).any (·.1)=false:=by rfl):
  PS X (.Raise (aY (!aG x np @V [] cpos)) gg pos) (Pz C W t):=by
 intro pins s σ H D I h;obtain⟨tl,N,nm,α,bs,hdct,sn,sub,ab,col,dd,k0,k1,k2,k3,k5,mN,γ,ψ,Y,T⟩:=(QN I.ok.mod.kin q).obj
 refine wpAny_Raise_call_subT (C:=C) (nm:=nm) (q:=α) (N:=N) (bs:=bs) (bm:=tl) (hdct:=hdct) (sn:=sn) (sub:=sub) (ab:=ab) (col:=col) (dd:=dd) (k0:=k0) (k1:=k1) (k2:=k2) (k3:=k3) (k5:=k5)
  FB (mN:=mN) (T.hasType FB.hasBase) (!aF hc) (by rw[he];show(false||(!aD cpos es).any (·.1))=false;rw[L];rfl) Y (xM I β hm ⟨rfl,?_⟩ Z)
 have G:=ha cpos pins s σ H _ I h;rw[he] at G ⊢;refine am2 (YQ G (λus ζ ⟨vs,H1,I1,r,z,w⟩=>⟨rfl,?_,I1.bk _ _ γ,ψ.keeps I1.bk,T.keeps I1.bk,λh' a m=>?_⟩) λ_ _ y=>y)
 ·show us.length<=_;rw[<-r.length];exact z
 ·obtain⟨ε,δ⟩:=R3 I1 m;exact hx _ _ ⟨pins,a,.ref C,gg,gg,σ,H1,rfl,ε,δ,w⟩
end
structure SR (K:b') (G:ee):Prop where
 ty:ap7 K (!j G)=aY @bV
 cls:ao9 K G=true
 base:Yb K G (!aj "BaseException")=aY true
section
variable {X:Cx} {pins:D'} {σ:St} {H:Hp} {s:ik}
theorem Inv.track {x:ee} {o:HO} (I:@M) (f:FpN X pins H x) (δ:iu X.prog X.w (!V x o) s.heap x o):!bS X (!V x o) s:=by
 obtain⟨ε,β,γ,ψ,α,Z⟩:=f;have ne:∀b u,H b=aY u->b≠x:=λb u e z=>by rw[z,ε] at e;cases e
 have G:∀b u,H b=aY u->upd H x o b=aY u:=λb u e=>by rw[aD (ne b u e)];exact e
 have U:=I.base;refine⟨I.ok,I.os,I.bare,⟨U.keep,U.slot,λb ob e n L=>?_,U.there,λb xs e=>G b _ (U.tups b xs e),λb ob u e=>G b _ (U.frzs b ob u e),λb ps e=>?_⟩,I.loc,I.cell,?_,λy c e=>?_,λp Y=>?_,λb ob e=>?_,I.len⟩
 ·rw[aD (λz=>?_)]
  ·exact U.free b ob e n L
  ·subst z;rcases ψ with y | y
   ·exact L y
   ·rw[e] at y;cases y
 ·obtain⟨m,q⟩:=U.tbls b ps e;exact⟨m,G b _ q⟩
 ·rw[aD (wh β)];exact I.free
 ·rw[aD (α y c e)];exact I.freeC y c e
 ·obtain⟨e,n,r⟩:=I.pin p Y;exact⟨e,by rw[aD (Z p Y)];exact n,r⟩
 ·by_cases z:b=x
  ·subst z;rw[aw] at e;cases e;exact δ
  ·rw[aD z] at e;exact(I.hok b ob e).stay (λ_ _ _ q=>q) (λc q=>G c _ q) λc xs q=>G c _ q
end
noncomputable def ExcO (x:ee) (C:i') (dx:Q'):HO:= .ext λh=>∃π vs,h.get? x=aY π/\π.cls=C/\π.dict=dx/\π.data= .fields vs
noncomputable abbrev Cx.pin (X:Cx) (pins:D'):Cx:={X with pn:=X.pn++pins}
noncomputable abbrev Cx.mark (X:Cx) (pins:D') (e:i'):Cx:={X with A:=X.A.mark (aY e),calm:=false,pn:=X.pn++pins,xe:=λ_ _=>False}
noncomputable def Ends.less (D:Ends) (i:Nat):Ends:={nx:=fun σ H=>D.nx (σ.set i gg) H,rt:=D.rt,bk:=fun σ H=>D.bk (σ.set i gg) H,ct:=fun σ H=>D.ct (σ.set i gg) H}
noncomputable def WTry (K:b') (G:ee) (i:Nat) (L:XW) (ts:TS) (D:Ends):XW:=fun σ C dx H=>∃c,C= .ref c/\((Yb K c (!j G)=aY true/\∀x,H x=gg->ts (D.less i) (σ.set i (aY (!j x))) (!V x (ExcO x C dx)))∨
 (Yb K c (!j G)=aY false/\L σ C dx H))
structure XIsi (K:b') (D:ee):Prop where
 cls:ao9 K D=true
 ga:zx K @W "__getattribute__"=aY (aY (!ai "BaseException.__getattribute__"))
 gr:zx K @W "__getattr__"=aY gg
 ha:zx K @W "__class__"=aY (aY @bG)
 hn:Yu K @bG "__get__"=aY (aY @cT)
 tk:af2 K @bG=aY true
 hm:Yb K D (!aj "object")=aY true
 base:Yb K D (!aj "BaseException")=aY true
noncomputable def dV:V->i'
 | .ref a=> .ref a
 | .ty n=> .type n
 | _=> .none
section
variable {σ:St} {H:Hp} {Q:VK} {D:Ends} {W:XW} {t:TA}
theorem Ro {C:ee} (h:t σ H λvs H1=>vs.length<=ic/\W σ @ae gg H1):Pz C W t D σ H:=h
end
theorem ug {X:Cx} {K:b'} {es:eP W5} {k:Nat} {t:TGs} {n:Nat} {pos:Pos} (h:X.K=K) (hc:@aQ) (ht:PGs X es t)
  (hn:(!bA es).length=n:=by rfl) (ρ:(!bA es).findIdx? (·.1)=none:=by rfl):PG X (.Tuple es k pos) (gTup K n t):=by subst h;exact zN hc ht hn ρ
noncomputable def CO (kvs:@ap):eP V:=kvs.map λG=>kV G.1
noncomputable def PZ:eP V->Hp->VK->Prop:=λxs H Q=>∃p kvs,xs=[.ref p]/\H p=aY @aA/\∀l,H l=gg->Q @aC (!aB H l (CO kvs))
theorem Kr {k:Key} {v:i'} (h:CQ k v=true):RelV (kV k) v:=by
 rcases dP h with ⟨i,t,rfl,rfl⟩ | ⟨x,t,rfl,rfl⟩
 ·exact⟨t,rfl⟩
 ·exact⟨t,rfl⟩
theorem sj {α β:Type} {F:α->β->Prop}:∀{l:eP α} {m:eP β},l.length=m.length->(∀(i:Nat) (a:α) (b:β),l[i]? =aY a->m[i]? =aY b->F a b)->Paired F l m
 | [],[],_,_=> .nil
 | a::l,b::m,hl,h=> .cons (h 0 a b rfl rfl) (sj (by simpa using hl) λi x y L G=>h @H x y (by simpa using L) (by simpa using G))
 | [],_::_,hl,_=>by simp at hl
 | _::_,[],hl,_=>by simp at hl
section
variable {X:Cx}
theorem IZ (hc:@aQ):oJ X @bA PZ:=by
 intro pins s σ H xs us Q I r h;obtain⟨p,kvs,rfl,ζ,q⟩:=h;obtain⟨u,rfl,γ⟩:=wA r;cases γ;obtain⟨hz,lo,vs,rel,dd⟩:=Sq I.hok ζ;obtain⟨ep,Z⟩:=dd.dictAt;refine PySem.W.kdl_call (ao1 (knd:=dN X.prog X.w) (kvs:=vs) (ep:=ep) lo) (!aF hc) Z (by rw[<-rel.length];exact hz) λh' tk G θ hk η ν=>?_
 have δ:Vals (CO kvs) G.toList:=by
  refine sj (by unfold CO;rw[a',rel.length,YK];exact ν.1.symm) λi a b ha hb=>?_;unfold CO at ha;rw[hB] at ha;obtain⟨α,L,rfl⟩:=Yf.mp ha;rw[al8] at hb;obtain⟨k,x,ε,Y⟩:=ν.2 i b hb
  have e:α.1=k:=by
   have β:(kvs.map (·.1))[i]? =aY α.1:=by rw[hB,L];rfl
   rw[rel.keys,hB,ε] at β;exact(qA β).symm
  rw[e];exact Kr Y
 exact⟨@aN,_,I.laid (t':=tk) hk @U (show iu X.prog X.w _ h' _ (!A (CO kvs)) from⟨by unfold CO;rw[a'];exact hz,G.toList,θ,δ,by simpa using η⟩),rfl,q _ @bW⟩
end
section
variable {σ:St} {H:Hp} {Q:VK} {D:Ends} {te ty tv td:TE} {x y v:V}
theorem Rr {p:ee} {kvs:@ap} (e:@bz) (h:∀q H2,H q=gg->Same H H2->H2 q=aY (!A (CO kvs))->Q (!j q) H2):PZ @bl H Q:=⟨p,kvs,rfl,e,jH h⟩
def SQ (y:V) (Q:VK) (x:V) (H:Hp):Prop:=∃a o,x= .ref a/\DGet H a y o/\Q (.bl o.isSome) H
theorem Wl (h:ty σ H λy H1=>td σ H1 (SQ y Q)):tDIn ty td σ H Q:=h
theorem T6 {p:ee} {kvs:@ap} {z:Int} (e:@bz) (h:Q (.bl (valV kvs (Xv z)).isSome) H):SQ (.int z) Q @P H:=⟨p,_,rfl,DGet.k (k:=Xv z) e,h⟩
theorem PU {p:ee} {kvs:@ap} {z:kv} (e:@bz) (h:Q (.bl (valV kvs (xY z)).isSome) H):SQ @aj Q @P H:=⟨p,_,rfl,DGet.k (k:=xY z) e,h⟩
def QD (y:V) (Q:VK) (x:V) (H:Hp):Prop:=∃a o,x= .ref a/\DGet H a y o/\Q (.bl (!o.isSome)) H
theorem T3 (h:ty σ H λy H1=>td σ H1 (QD y Q)):JR ty td σ H Q:=h
theorem RB {p:ee} {kvs:@ap} {z:kv} (e:@bz) (h:Q (.bl (!(valV kvs (xY z)).isSome)) H):QD @aj Q @P H:=⟨p,_,rfl,DGet.k (k:=xY z) e,h⟩
theorem oX {l b:ee} {xs zs:eP V} (e:@bK) (G:H b=aY (!A zs)) (hz:@cV) (h:∀p H2,H p=gg->Same H H2->H2 p=aY (!A (xs++zs))->Q @P H2):rCat @aC (!j b) H Q:=⟨l,b,xs,zs,rfl,rfl,e,G,hz,jH h⟩
end
theorem GI:∀{ns:P'} {us:E'},Vals @as us->IntsAre us ns
 | [],us,r=>by cases r;exact .nil
 | n::ns,us,r=>by
   rw[W'] at r;cases r with
   | cons h t=>obtain⟨t',rfl⟩:=h;exact .cons _ _ (GI t)
theorem LP:∀{ns:P'} {us:E'},IntsAre us ns->Vals @as us:=wz
section
variable {prog:ry} {w:z5} {A:W6} {E:Cr} {s:ik} {d:ee} {vs:eP (Key×i')} {ep:Nat}
theorem HM:plainId "list.__iadd__"=true:=by decide +kernel
theorem DK {Q:E'->ik->Prop} (β:@b9) (lo:(d == sysModules)=false) (Z:s.heap.DictAt (dN prog w) d vs ep) (hn:vs.length<=ic)
  (h:∀h' tk (Y:G'),(∀b o,s.heap.get? b=aY o->h'.get? b=aY o)->s.heap.objs.size < h'.objs.size->ItemsOf (λi v=>∃k x,vs[i]? =aY (k,x)/\(dN prog w).is k v=true) Y vs.length->Q Y.toList {s with heap:=h',toks:=tk}):
  lT @a2 A (collect @b5) Q E s:=by
 unfold collect;refine gz (wpAny_runValue (Y' entry_proto_collect' ?_));show lT _ _ (do again (.builtin "list.__iadd__" ⟨[<-newList [],.ref d],[]⟩)) _ _ s;refine gz (wpAny_newList (oD ⟨Code.quiet_builtin _ @L,Y' entry_list_iadd' ?_⟩));rw[Yy HM _];show lT _ _ (W4 @aN @b5 @aN) _ _ {s with heap:=s.heap.push (seqObj "list" #[] 0)};have G:=Z.lt_size
 refine PySem.W.kdl_extend (R:=λr s'=>match r with
   | Except.ok (Flow.ret v)=>lT @a2 A (match v with
     | vu a=>do
       let o <-load a
       match o.data with
       | .seq xs _=>pure xs.toList
       | _=>unsupported "internal:collect"
     | _=>unsupported "internal:collect") Q E s'
   | Except.ok _=>False
   | Except.error e=>E e s') (s:={s with heap:=s.heap.push (seqObj "list" #[] 0)}) (ao1 (knd:=dN prog w) (kvs:=vs) (ep:=ep) lo) β (Z.push _) s.heap.objs.size (Xw G) (Xw G) _ 0 (kh _ rfl) (λh' tk L γ hk α ν=>?_) hn
 show lT @a2 A (do
   let o <-load s.heap.objs.size
   match o.data with
   | .seq xs _=>pure xs.toList
   | _=>unsupported "internal:collect") Q E {s with heap:=h',toks:=tk}
 refine gz (wpAny_load α ?_);exact oD (h h' tk L (λb o e=>hk b o (y1 @aM) (gn _ e)) (hK α) ν)
theorem Ey {Q:Cr} {ks:P'} (ξ:@b9) (lo:(d == sysModules)=false) (Z:s.heap.DictAt (dN prog w) d vs ep) (hn:vs.length<=ic) (hk:vs.map (·.1)=ks.map Xv) (η:vs.length < 64)
  (h:∀h' tk a (out:G') (e:Nat) (γ:P'),(∀b o,s.heap.get? b=aY o->h'.get? b=aY o)->s.heap.objs.size<=a->h'.get? a=aY (seqObj "list" out e)->IntsAre out.toList γ->γ.Perm ks->γ.Pairwise (·<=·)->Q @af {s with heap:=h',toks:=tk}):
  lT @a2 A (call (!ai "sorted") [.ref d]) Q E s:=by
 refine Calls.call_function_entry kind_sorted plain_sorted entry_sorted (args_sorted1 _) ?_;unfold Builtin.«sorted»;refine gz (m:=checkCount "sorted" 1 1 _) (oD ?_);refine gz (DK (by exact ξ) lo Z hn λh' tk G δ hsz ν=>?_)
 have α:(ks.map V.int).length=G.toList.length:=by
  have L:=oe w3 hk;rw[a',a'] at L;have π:G.toList.length=vs.length:=by rw[YK];exact ν.1
  rw[a'];omega
 have hI:IntsAre G.toList ks:=by
  refine GI (sj α λi a b ha hb=>?_);rw[hB] at ha;obtain⟨k,ε,rfl⟩:=Yf.mp ha;rw[al8] at hb;obtain⟨θ,x,ι,β⟩:=ν.2 i b hb;have L:(vs.map (·.1))[i]? =aY θ:=by rw[hB,ι];rfl
  rw[hk,hB,ε] at L;have L:=qA L;subst L;exact Kr (show CQ (Xv k) b=true from β)
 have ζ:G.toList.length < 64:=by rw[YK,ν.1];exact η
 refine gz (wpAny_newList ?_);have χ:(h'.push (seqObj "list" G.toList.toArray 0)).get? h'.objs.size=aY (seqObj "list" G.toList.toArray 0):=kh _ rfl;show lT _ _ _ _ _ {s with heap:=h'.push (seqObj "list" G.toList.toArray 0),toks:=tk};refine gz (YC (Zo slot_list_sort ⟨_,χ,rfl⟩ entry_list_sort (list_sort_tree χ hI ζ λout γ a1 a2 ο=>⟨_,rfl,?_⟩) (args_list_sort _)));obtain⟨e,he⟩:=sortedHeap_at (out:=out) χ;refine oD ⟨_,rfl,h _ tk h'.objs.size out e γ (λb o hb=>?_) ?_ he a1 a2 ο⟩
 ·have Y:=hK (δ b o hb);rw[sortedHeap_old (y1 Y) (by rw[size_push'];exact ZR Y)];exact gn _ (δ b o hb)
 ·exact Y6 hsz
end
noncomputable def PY:eP V->Hp->VK->Prop:=λxs H Q=>∃(p:ee) (ks:P') (kvs:@ap),xs=[.ref p]/\H p=aY @aA/\kvs.map (·.1)=ks.map Xv/\kvs.length < 64/\
 ∀(l:ee) (ns:P'),H l=gg->ns.Perm ks->ns.Pairwise (·<=·)->Q @aC (!aB H l @as)
theorem IY {X:Cx} (hc:@aQ):oJ X (!ai "sorted") PY:=by
 intro pins s σ H xs us Q I r h;obtain⟨p,ks,kvs,rfl,ε,hk,Y,q⟩:=h;obtain⟨u,rfl,β⟩:=wA r;cases β;obtain⟨hz,lo,vs,rel,dd⟩:=Sq I.hok ε;obtain⟨ep,Z⟩:=dd.dictAt;refine Ey (ks:=ks) (!aF hc) lo Z (by rw[<-rel.length];exact hz) (by rw[<-rel.keys];exact hk) (by rw[<-rel.length];exact Y) λh' tk a out e γ kp ha he hi G L=>?_;have δ:=LP hi
 have hl:(γ.map V.int).length<=sizeLine:=by
  have α:=oe w3 hk;rw[a',a'] at α;rw[a',G.length_eq,<-α];exact hz
 refine⟨@af,_,I.laid (t':=tk) kp ha (show iu X.prog X.w _ h' _ (!A (γ.map V.int)) from⟨hl,out.toList,e,δ,by simpa using he⟩),rfl,q _ γ (I.hok.fresh ha) G L⟩
section
variable {H:Hp} {Q:VK}
theorem Rn {p:ee} {kvs:@ap} {ks:P'} (e:@bz) (hk:kvs.map (·.1)=ks.map Xv) (G:kvs.length < 64) (h:∀(l:ee) (ns:P') (H2:Hp),H l=gg->Same H H2->H2 l=aY (!A @as)->ns.Perm ks->ns.Pairwise (·<=·)->Q @aC H2):PY @bl H Q:=
 ⟨p,ks,kvs,rfl,e,hk,G,λl ns hl L hw=>h l ns _ hl (bo hl) aw L hw⟩
end
open AutoSeq1 (wpAny_loadPart')
section
variable {prog:ry} {w:z5} {A:W6} {E:Cr} {s:ik}
theorem ur {L t:ee} {i:Nat} {items:G'} {x:i'} {Q:Cr} (G:s.heap.IsTupleIter L t i) (ht:s.heap.IsTuple t items) (hx:items[i]? =aY x)
  (Y:∀h',h'.IsTupleIter L t @H->Zq L s.heap h'->Q x {s with heap:=h'}):
  lT @a2 A (X7 (!j L)) Q E s:=by
 obtain⟨o,ho,β,hd⟩:=id G;obtain⟨γ,Z,_,δ,α⟩:=ht;unfold X7
 refine gz (Z9 (name:=Yq "__next__") G.typeIs F.slot_tuple_iterator_next
  (Zo F.slot_tuple_iterator_next G.typeIs F.entry_tuple_iterator_next ?_ (F.args_tuple_iterator_next_1 _)))
 show lT _ _ (field (!j L) 0 >>=_) _ _ s;refine gz (XD ho hd (x:= .ref t) rfl ?_);show lT _ _ (if (vu t == Xj)=true then _ else _) _ _ s;rw[kf (show ¬((vu t == Xj)=true) from hH)];show lT _ _ (field (!j L) 1 >>=_) _ _ s;refine gz (XD ho hd (x:= .int i 0) rfl ?_);show lT _ _ (seqItems? @ab >>=_) _ _ s;refine gz (YR Z α ?_);simp only[n',hx];refine gz (ZT ho hd @C (oD ⟨x,rfl,oD (Y _ ?_ (Ya ..))⟩))
 exact⟨_,XQ _ ho (am7 (ad8 hd _)),(aq9 ..).trans β,by
  rw[ad8 hd];simp[rawInt]⟩
theorem vC {L t:ee} {i:Nat} {items:G'} {Q:Cr} (α:@b9) (G:s.heap.IsTupleIter L t i) (ht:s.heap.IsTuple t items) (hx:items[i]? =gg)
  (β:∀h' e,Heap.ExtBut L s.heap h'->(∃o,h'.get? e=aY o/\o.cls= .type "StopIteration")->E (!j e) {s with heap:=h'}):
  lT @a2 A (X7 (!j L)) Q E s:=by
 obtain⟨o,ho,ε,hd⟩:=id G;obtain⟨γ,Y,_,δ,Z⟩:=ht;unfold X7
 refine gz (Z9 (name:=Yq "__next__") G.typeIs F.slot_tuple_iterator_next
  (Zo F.slot_tuple_iterator_next G.typeIs F.entry_tuple_iterator_next ?_ (F.args_tuple_iterator_next_1 _)))
 show lT _ _ (field (!j L) 0 >>=_) _ _ s;refine gz (XD ho hd (x:= .ref t) rfl ?_);show lT _ _ (if (vu t == Xj)=true then _ else _) _ _ s;rw[kf (show ¬((vu t == Xj)=true) from hH)];show lT _ _ (field (!j L) 1 >>=_) _ _ s;refine gz (XD ho hd (x:= .int i 0) rfl ?_);show lT _ _ (seqItems? @ab >>=_) _ _ s;refine gz (YR Y Z ?_);simp only[n',hx];refine gz (at4 (gz (ZT ho hd @C ?_)));show lT _ _ (newExc (!aj "StopIteration") [] >>=_) _ _ _;refine gz ?_;simp only[newExc,newTuple];refine gz (aa4 ?_ (by size_fits));refine gz (m:=firstArgMember _ _) (ar6 (a:=Xj) (by first | rfl | (simp only[firstArgMember];rfl)) ?_);refine aa4 ?_ (by size_fits);simp only[raiseNew];refine gz (wpAny_handled ?_)
 first | rw[show A.in1.handled=gg from α] | rw[α]
 refine gz (oD (wpAny_throw ?_));exact β _ _ (((Ya ..).extBut.push _).push _) ⟨_,kh _ rfl,rfl⟩
end
theorem Draws.tuple {prog:ry} {w:z5} {A:W6} (α:@b9) (G l:ee) (ν:l≠G) (items:G'):
  Draws prog w A G [G,l] items.size (λi v=>items[i]? =aY v) (λi h=>h.IsTupleIter G l i/\h.IsTuple l items) where
 live:=λ_ _ st=>let ⟨o,ho,_⟩:=st.1;⟨o,ho⟩
 frame:=λ_ _ _ st hk=>⟨let ⟨o,ho,r⟩:=st.1;⟨o,hk G @C o ho,r⟩,let ⟨o,ho,r⟩:=st.2;⟨o,hk l @C o ho,r⟩⟩
 item:=λi s Q E hi st Y=>by
  refine ur st.1 st.2 (x:=items[i]) (by simp[hi]) λh' Z L=>?_;exact Y _ h' s.toks (by simp[hi]) ⟨Z,st.2.extBut L.extBut ν⟩ L
 done:=λs Q E st β=>vC α st.1 st.2 @C β
theorem qv (l:ee) (items:G') (n:Nat) (G:Q') (Y:K'):
  Meets (Builtin.«enumerate.__new__» ⟨[.type "enumerate",.ref l],[]⟩) (λ_ R s=>s.heap.get? l=aY {cls:= .type "tuple",dict:=G,data:= .seq items n,slots:=Y}/\
   R (.ok (.ret (.ref (s.heap.push {cls:= .type "tuple_iterator",data:= .fields #[.ref l,.int 0 0]}).objs.size)))
     {s with heap:=(s.heap.push {cls:= .type "tuple_iterator",data:= .fields #[.ref l,.int 0 0]}).push {cls:= .type "enumerate",data:= .fields #[.none,.bool false,.ref s.heap.objs.size,rawInt 0,.none,.none]}}):=
 .of_wp λprog w A R s h=>by
  obtain⟨Z,g,d,tk,os⟩:=s;obtain⟨hl,h⟩:=h;have L:=sub_enumerate;have φ:Heap.IsTuple (Shared.heap ⟨Z,g,d,tk,os⟩) l items:=⟨_,hl,rfl,n,rfl⟩
  wp_walk using ZG hl
  refine wpAny_stack_any λst=>oD ?_;split
  ·rename_i c _ _ _ _ _;cases(c == Zt "enumerate")
   ·wp_walk using ZG hl,Z5 φ
    exact⟨_,rfl,h⟩
   ·wp_walk using ZG hl,Z5 φ
    exact⟨_,rfl,h⟩
  ·wp_walk using ZG hl,Z5 φ
   exact⟨_,rfl,h⟩
theorem qG {prog:ry} {w:z5} {A:W6} {E:Cr} {s:ik} {l:ee} {items:G'} {Q:Cr} (φ:s.heap.IsTuple l items)
  (h:∀h',IsEnum h' @aw s.heap.objs.size 0 .none->h'.IsTupleIter s.heap.objs.size l 0->h'.objs.size=s.heap.objs.size + 2->
   (∀b o,s.heap.get? b=aY o->h'.get? b=aY o)->Q (!j @aw) {s with heap:=h'}):
  lT @a2 A (call (!aj "enumerate") [.ref l]) Q E s:=by
 obtain⟨⟨c,L,Z,Y⟩,hl,G,n,hd⟩:=φ;replace G:c= .type "tuple":=G;replace hd:Z= .seq items n:=hd;subst G hd
 refine callType_new F.called_enumerate @D (F.typeCall_enumerate_1 _) (F.newCall_enumerate_1 _) (λobj=>F.args_object_init_2 obj _) F.entry_enumerate_new
  (qv l items n L Y) ⟨hl,?_⟩
 have hz:(s.heap.push {cls:= .type "tuple_iterator",data:= .fields #[.ref l,.int 0 0]}).objs.size=s.heap.objs.size + 1:=Z0 ..
 show _/\_;rw[hz]
 have he:IsEnum ((s.heap.push {cls:= .type "tuple_iterator",data:= .fields #[.ref l,.int 0 0]}).push
   {cls:= .type "enumerate",data:= .fields #[.none,.bool false,.ref s.heap.objs.size,rawInt 0,.none,.none]}) @aw s.heap.objs.size 0 .none:=by
  have:=kh (s.heap.push {cls:= .type "tuple_iterator",data:= .fields #[.ref l,.int 0 0]})
   (o:={cls:= .type "enumerate",data:= .fields #[.none,.bool false,.ref s.heap.objs.size,rawInt 0,.none,.none]}) rfl
  rw[hz] at this;exact this
 refine⟨⟨_,he,rfl⟩,h _ he ⟨_,gn _ (kh _ rfl),rfl,rfl⟩ (by rw[Z0,hz]) λb o x=>gn _ (gn _ x)⟩
noncomputable def Itet (K:b') (a:ee):It:=
 ⟨λi H=>∃xs x,SqT K H a xs/\xs[i]? =aY x,λi H x H'=>∃p v,H p=gg/\x= .ref p/\H'=upd H p (!H [.int i,v])/\∀xs,SqT K H a xs->xs[i]? =aY v,λi H=>∃xs,SqT K H a xs/\xs.length=i⟩
theorem G7 {P:ry} {w:z5} {K:b'} {γ:eP W5} {k:Nat} {pos:Pos} (a e Y:ee) (Z:e≠Y):
  Turn P w K (.Tuple γ k pos) (Itet K a) [e,Y] e (λi h=>(∃L,IsEnum h e Y i L)/\h.IsTupleIter Y a i) where
 mem:=by simp
 obj:=λi h st b hb=>by
  obtain⟨⟨L,he⟩,⟨o,ho,ω,hd⟩⟩:=st;rcases x8.mp hb with z | z
  ·subst z;exact⟨_,he,λv z=>by cases z⟩
  ·rw[eR.mp z];exact⟨o,ho,λv z=>by rw[hd] at z;cases z⟩
 keep:=λi h h' st k=>⟨let ⟨L,he⟩:=st.1;⟨L,k e @C _ he⟩,(let ⟨o,ho,r⟩:=st.2;⟨o,k Y @C o ho,r⟩)⟩
 item:=by
  intro X hP hw υ ω i pins s σ H E I hf st hg;subst hP hw υ;obtain⟨xs,x,χ,φ⟩:=hg;obtain⟨its,π,p,hz⟩:=I.tuple χ;have ν:s.heap.IsTuple a its.toArray:=p;obtain⟨⟨L,he⟩,hl⟩:=st
  have δ:a≠Y:=λz=>by
   obtain⟨o,ho,ι,_⟩:=hl;obtain⟨o',τ,G,_⟩:=ν;rw[z,ho] at τ;cases τ;rw[ι] at G;exact hE G @D
  have ε:a≠e:=λz=>by
   obtain⟨o',τ,G,_⟩:=ν;rw[z,he] at τ;cases τ;exact hE (show Zt "enumerate"= .type "tuple" from G) @D
  have W:=Yv (prog:=X.prog) (w:=X.w) (A:=X.A) (Draws.tuple (A:=X.A.in1) (!aF ω) Y a δ its.toArray) e Z (by simp[Z,wh ε]) @C;have hi:i < its.toArray.size:=by have:=π.length;have:=(!K φ).1;simp;omega
  refine W.item i s _ _ hi ⟨⟨L,he⟩,hl,ν⟩ λT a0 h' tk η hT ο β hk=>⟨_,rfl,W.go γ k pos i T _ _ _ β fun θ ρ ξ=>?_⟩;obtain⟨t,x',ψ,rfl⟩:=η;have ζ:=W.apart i T h' β
  have ru:RelV x x':=by
   obtain⟨u,hu,r⟩:=π.get φ;have α:its[i]? =aY x':=by simpa using ψ
   rw[hu] at α;cases α;exact r
  have kk:∀b u,b∉[e,Y]->s.heap.get? b=aY u->θ.get? b=aY u:=λb u hb q=>ξ b u hb (hk b u hb q);have fr:H T=none:=I.hok.fresh hT;refine⟨!j T,!V T @cn,I.laidCh (t':=tk) kk hT ⟨BR,[.int i t,x'],.cons ⟨t,rfl⟩ (!bc ru),?_⟩ hf,rfl,⟨T,x,fr,rfl,rfl,λys hy=>by rw[I.tuple_inj hy χ];exact φ⟩,⟨ρ.1,ρ.2.1⟩,λb hb=>?_⟩
  ·obtain⟨o,ho,r⟩:=ο;exact⟨o,ξ T o ζ ho,r⟩
  ·have fb:=(hf b hb);rw[aD (λz=>?_)]
   ·exact fb.1
   ·have lt:b < s.heap.objs.size:=by
     rcases x8.mp hb with z | z
     ·subst z;exact hK he
     ·rw[eR.mp z];obtain⟨o,ho,_⟩:=hl;exact hK ho
    rw[z] at lt;exact hE (gA lt hT) (Y2 _)
 done:=by
  intro X hP hw υ ω i pins s σ H E I hf st hg;subst hP hw υ;obtain⟨xs,χ,φ⟩:=hg;obtain⟨its,π,p,hz⟩:=I.tuple χ;have ν:s.heap.IsTuple a its.toArray:=p;obtain⟨⟨L,he⟩,hl⟩:=st
  have δ:a≠Y:=λz=>by
   obtain⟨o,ho,ι,_⟩:=hl;obtain⟨o',τ,G,_⟩:=ν;rw[z,ho] at τ;cases τ;rw[ι] at G;exact hE G @D
  have ε:a≠e:=λz=>by
   obtain⟨o',τ,G,_⟩:=ν;rw[z,he] at τ;cases τ;exact hE (show Zt "enumerate"= .type "tuple" from G) @D
  have W:=Yv (prog:=X.prog) (w:=X.w) (A:=X.A) (Draws.tuple (A:=X.A.in1) (!aF ω) Y a δ its.toArray) e Z (by simp[Z,wh ε]) @C;have hn:its.toArray.size=i:=by have:=π.length;simp;omega
  subst hn;exact W.done s _ _ ⟨⟨L,he⟩,hl,ν⟩ λh' tk hk=>⟨rfl,I.turnedCh hk hf⟩
 self:=λ_ _ _ _ _ st h=>let ⟨_,he⟩:=st.1;Yl he h
noncomputable def Qf (K:b') (tl:TE):TI:=fun σ H R=>tl σ H λx H1=>∃a,x= .ref a/\(((∃xs,SqL K H1 a xs)/\R (Ite K a) H1)∨((∃xs,SqT K H1 a xs)/\R (Itet K a) H1))
section
variable {X:Cx} {K:b'}
theorem p3 {l:W5} {tl:TE} {β:eP W5} {k:Nat} {tpos p pos:Pos} (h:X.K=K) (ζ:Gl X "enumerate") (hm:X.mg "enumerate"=gg) (hl:!F l tl) (hs:pT [l] X.env=[(false,eval l X.env)]:=by rfl):
  PI X (.Tuple β k tpos) (!aG "enumerate" p [l] [] pos) (Qf K tl):=by
 subst h;intro pins s σ H R I h;refine ai6 (mR I ζ hm boot_enumerate (wq (thn (aa hl ae hs pos pins s σ H (λvs H1=>match vs with | [x]=>∃a,x= .ref a/\(((∃xs,SqL X.K H1 a xs)/\R (Ite X.K a) H1)∨((∃xs,SqT X.K H1 a xs)/\R (Itet X.K a) H1)) | _=>False) I h) λus G ⟨vs,H1,I1,α,Y⟩=>?_) hs rfl))
 match vs,α,Y with
 | [x],α,Y=>
 obtain⟨u,rfl,ε⟩:=α.one;obtain⟨a,rfl,Y⟩:=Y;cases ε
 have fin:∀b∈[G.heap.objs.size + 1,G.heap.objs.size],FpOk X pins H1 b:=λb hb=>by
  have Z:G.heap.objs.size<=b:=(x8.mp hb).elim (λz=>by rw[z];exact ad1 _) (λz=>by rw[eR.mp z];exact mc _);exact !bl Z Z
 rcases Y with ⟨⟨xs,γ⟩,q⟩ | ⟨⟨xs,γ⟩,q⟩
 ·obtain⟨its,δ,pl,hz⟩:=I1.list γ;refine as5 pl.isList λh' he L hsz hk=>Yl he ?_;exact⟨G.heap.objs.size + 1,[G.heap.objs.size + 1,G.heap.objs.size],_,_,H1,rfl,@cr,zK a _ _ (Xw (Xq _)),⟨⟨_,he⟩,L⟩,fin,q⟩
 ·obtain⟨its,δ,pl,hz⟩:=I1.tuple γ;refine qG (show G.heap.IsTuple a its.toArray from pl) λh' he L hsz hk=>Yl he ?_;exact⟨G.heap.objs.size + 1,[G.heap.objs.size + 1,G.heap.objs.size],_,_,H1,rfl,@cr,G7 a _ _ (Xw (Xq _)),⟨⟨_,he⟩,L⟩,fin,q⟩
end
theorem Af {K:b'} {n:Nat} {fx:C'} {g:TG} {tc:TT} {te:TE} {σ:St} {H1:Hp} {D:ee} {Q:Hp->Prop} {a:ee} {xs:eP V} (L:Nat->eP V->Hp->Prop) (h0:L 0 [] (!X H1 [])) (hl:∀i ys H,i<=xs.length->L i ys H->SqL K H a xs)
  (hs:∀i x ys H p H',xs[i]? =aY x->L i ys H->H p=gg->Same H H'->H' p=aY @cn->g @P (d8 n fx σ) H' λG γ=>tc G γ λb β=>if b=true then te G β λv α=>α D=aY @Y/\ys.length < ic/\L @H @a9 (!X α @a9) else L @H ys β)
  (hd:∀ys H,L xs.length ys H->Q H):
  ∃W:Nat->Nat->eP V->Hp->Prop,(∃m,W 0 m [] (!X H1 []))/\∀i m ys H2,W i m ys H2->(!bM (Ite K a))∨
    ((Ite K a).go i H2/\∃N:eP V->Hp->Prop,(∀Y H',N Y H'->∃δ,δ < m/\W @H δ Y H')/\∀x ε,(Ite K a).yld i H2 x ε->g x (d8 n fx σ) ε λG γ=>tc G γ λb β=>
      if b=true then te G β λv α=>α D=aY @Y/\ys.length < ic/\N @a9 (!X α @a9) else N ys β):=by
 refine⟨λi m ys H=>m=xs.length - i/\i<=xs.length/\L i ys H,⟨xs.length,@C,Xy _,h0⟩,?_⟩;rintro i m ys H ⟨rfl,hi,p⟩;have q:=hl i ys H hi p;by_cases Z:i < xs.length
 ·refine !I ⟨⟨xs,xs[i],q,by simp[Z]⟩,L @H,λY H' ζ=>⟨xs.length - @H,by omega,rfl,Z,ζ⟩,λx H' y=>?_⟩;obtain⟨r,v,f,θ,η,y⟩:=y;subst θ η;exact hs i v ys H r _ (y xs q) p f (bo f) aw
 ·have e:i=xs.length:=by omega
  subst e;exact !E ⟨⟨xs,q,rfl⟩,hd ys H p⟩
theorem uQ {K:b'} {n:Nat} {fx:C'} {g:TG} {tc:TT} {te:TE} {σ:St} {H1:Hp} {D:ee} {Q:Hp->Prop} {a:ee} {xs:eP V} (L:Nat->eP V->Hp->Prop) (h0:L 0 [] (!X H1 [])) (hl:∀i ys H,i<=xs.length->L i ys H->SqT K H a xs)
  (hs:∀i x ys H p H',xs[i]? =aY x->L i ys H->H p=gg->Same H H'->H' p=aY @cn->g @P (d8 n fx σ) H' λG γ=>tc G γ λb β=>if b=true then te G β λv α=>α D=aY @Y/\ys.length < ic/\L @H @a9 (!X α @a9) else L @H ys β)
  (hd:∀ys H,L xs.length ys H->Q H):
  ∃W:Nat->Nat->eP V->Hp->Prop,(∃m,W 0 m [] (!X H1 []))/\∀i m ys H2,W i m ys H2->(!bM (Itet K a))∨
    ((Itet K a).go i H2/\∃N:eP V->Hp->Prop,(∀Y H',N Y H'->∃δ,δ < m/\W @H δ Y H')/\∀x ε,(Itet K a).yld i H2 x ε->g x (d8 n fx σ) ε λG γ=>tc G γ λb β=>
      if b=true then te G β λv α=>α D=aY @Y/\ys.length < ic/\N @a9 (!X α @a9) else N ys β):=by
 refine⟨λi m ys H=>m=xs.length - i/\i<=xs.length/\L i ys H,⟨xs.length,@C,Xy _,h0⟩,?_⟩;rintro i m ys H ⟨rfl,hi,p⟩;have q:=hl i ys H hi p;by_cases Z:i < xs.length
 ·refine !I ⟨⟨xs,xs[i],q,by simp[Z]⟩,L @H,λY H' ζ=>⟨xs.length - @H,by omega,rfl,Z,ζ⟩,λx H' y=>?_⟩;obtain⟨r,v,f,θ,η,y⟩:=y;subst θ η;exact hs i v ys H r _ (y xs q) p f (bo f) aw
 ·have e:i=xs.length:=by omega
  subst e;exact !E ⟨⟨xs,q,rfl⟩,hd ys H p⟩
section
variable {σ:St} {H:Hp} {te:TE} {R:It->Hp->Prop}
theorem cE {K:b'} (h:te σ H λx H1=>∃a,x= .ref a/\(((∃xs,SqL K H1 a xs)/\R (Ite K a) H1)∨((∃xs,SqT K H1 a xs)/\R (Itet K a) H1))):Qf K te σ H R:=h
end
namespace ZP
noncomputable abbrev Busy (h:WN) (z TI TO T:ee) (G:Xb):Prop:=h.get? z=aY {cls:= .type "zip",data:= .fields #[rawInt T,.bool G,.bool false,.ref TI,.ref TO]}
section
variable {prog:ry} {w:z5} {A:W6} {E:Cr} {s:ik}
theorem K7 {z TI TO T:ee} {G:Xb} {L:Obj} {Q:Xb->ik->Prop} (hz:Busy s.heap z TI TO T G) (hT:s.heap.get? T=aY L) (h:∀h',Busy h' z TI TO T true->Zq z s.heap h'->Q false {s with heap:=h'}):
  lT @a2 A (ZJ (!j z)) Q E s:=by
 unfold ZJ;refine gz (XD hz rfl (x:=rawInt T) rfl ?_);show lT _ _ (loadIfAlive ((T:Int).toNat) >>=_) _ _ s;rw[n'];refine gz (PySem.W.kdx_alive hT ?_);rw[kf @C];refine gz (XD hz rfl (x:= .bool G) rfl ?_);cases G with
 | true=>
   rw[kf @D];exact oD (h s.heap hz ⟨rfl,λ_ _=>rfl⟩)
 | false=>
   rw[lx @D];refine gz (wpAny_setField_rec hz (by show 1 < 5;decide) λh' e hs=>oD (h h' e hs))
theorem K9 {z TI TO T i1 i2 Y L:ee} {φ:Xb} {ο:Obj} {i:Nat} {xs ys:G'} {x y:i'} {Q:V'->ik->Prop} (ap:ZipApart z TI TO i1 i2 Y L) (hz:Busy s.heap z TI TO T φ) (hT:s.heap.get? T=aY ο)
  (hI:IsPair s.heap TI (!j i1) (!j i2)) (h1:s.heap.IsListIter i1 Y i) (h2:s.heap.IsListIter i2 L i) (hl1:s.heap.IsList Y xs) (hl2:s.heap.IsList L ys) (τ:xs[i]? =aY x) (ρ:ys[i]? =aY y)
  (h:∀h',Busy h' z TI TO T true->h'.IsListIter i1 Y @H->h'.IsListIter i2 L @H->(∀b o,b≠z->b≠i1->b≠i2->s.heap.get? b=aY o->h'.get? b=aY o)->h'.get? s.heap.objs.size=aY {cls:= .type "tuple",data:= .seq #[x,y]}->Q (aY @aN) {s with heap:=h'}):
  lT @a2 A (pyNext (!j z)) Q E s:=by
 have ty:s.TypeIs (!j z) "zip":=⟨_,hz,rfl⟩;unfold pyNext;refine gz (wpAny_attempt (Z9 (name:=Yq "__next__") ty F.slot_zip_next (Zo F.slot_zip_next ty F.entry_zip_next ?_ (F.args_zip_next_1 _))));unfold Builtin.«zip.__next__»;refine gz (ar6 (a:=(vu z,[])) rfl ?_);dsimp only;refine gz (XD hz rfl (x:= .bool false) rfl ?_);refine gz (XD hz rfl (x:= .ref TI) rfl ?_);refine gz (YR hI rfl ?_);dsimp only;rw[kf (show ¬(#[vu i1,vu i2].isEmpty=true) from hH)];refine gz (K7 hz hT λh' θ hs=>?_);rw[kf @D];rw[<-ao3];simp only[ab0,at0];have keep:∀{b:ee} {o:Obj},b≠z->s.heap.get? b=aY o->h'.get? b=aY o:=fun υ e=>(hs.2 _ υ).trans e;have γ:h'.IsListIter i1 Y i:=h1.at λo e=>keep ap.i1z e;have ξ:h'.IsListIter i2 L i:=h2.at λo e=>keep ap.i2z e;have ε:h'.IsList Y xs:=let ⟨o,e,c⟩:=hl1;⟨o,keep ap.l1z e,c⟩
 have β:h'.IsList L ys:=let ⟨o,e,c⟩:=hl2;⟨o,keep ap.l2z e,c⟩
 refine gz (gz (gz (YC ?_)));show lT _ _ (X7 (!j i1) >>=λx=>pure (aY x)) _ _ _;refine gz (ap5 γ ε τ fun ν η α=>oD ?_);dsimp only;refine oD ?_;dsimp only;have δ:∀{b:ee} {o:Obj},b≠i1->h'.get? b=aY o->ν.get? b=aY o:=fun υ e=>(α.2 _ υ).trans e;refine gz (gz (YC ?_));show lT _ _ (X7 (!j i2) >>=λx=>pure (aY x)) _ _ _;refine gz (ap5 (ξ.at λo e=>δ (wh ap.i12) e) (let ⟨o,e,c⟩:=β;⟨o,δ ap.l2i1 e,c⟩) ρ fun ι ζ Z=>oD ?_);have G:∀{b:ee} {o:Obj},b≠i2->ν.get? b=aY o->ι.get? b=aY o:=fun υ e=>(Z.2 _ υ).trans e;dsimp only;refine oD ?_;dsimp only;refine oD ?_;dsimp only;have es:ι.objs.size=s.heap.objs.size:=Z.1.trans (α.1.trans hs.1);refine gz (wpAny_newTuple (oD ⟨_,rfl,oD ?_⟩) (by show 2<=ic;rw[lj];decide));show Q (aY (.ref ι.objs.size)) {s with heap:=ι.push _};rw[es];refine h _ ?_ ?_ ?_ (λb o nz n1 π e=>gn _ (G π (δ n1 (keep nz e)))) ?_
 ·exact gn _ (G (wh ap.i2z) (δ (wh ap.i1z) θ))
 ·exact η.at λo e=>gn _ (G ap.i12 e)
 ·exact ζ.at λo e=>gn _ e
 ·rw[<-es];exact kh _ rfl
theorem OA {z TI TO T i1 i2 G β:ee} {ζ:Xb} {α:Obj} {i:Nat} {xs:G'} {Q:V'->ik->Prop} (Y:@b9) (ap:ZipApart z TI TO i1 i2 G β) (hz:Busy s.heap z TI TO T ζ) (hT:s.heap.get? T=aY α)
  (hI:IsPair s.heap TI (!j i1) (!j i2)) (h1:s.heap.IsListIter i1 G i) (hl1:s.heap.IsList G xs) (ε:xs[i]? =gg)
  (h:∀h',(∀b o,b≠z->b≠i1->s.heap.get? b=aY o->h'.get? b=aY o)->Q gg {s with heap:=h'}):
  lT @a2 A (pyNext (!j z)) Q E s:=by
 have ty:s.TypeIs (!j z) "zip":=⟨_,hz,rfl⟩;unfold pyNext;refine gz (wpAny_attempt (Z9 (name:=Yq "__next__") ty F.slot_zip_next (Zo F.slot_zip_next ty F.entry_zip_next ?_ (F.args_zip_next_1 _))));unfold Builtin.«zip.__next__»;refine gz (ar6 (a:=(vu z,[])) rfl ?_);dsimp only;refine gz (XD hz rfl (x:= .bool false) rfl ?_);refine gz (XD hz rfl (x:= .ref TI) rfl ?_);refine gz (YR hI rfl ?_);dsimp only;rw[kf (show ¬(#[vu i1,vu i2].isEmpty=true) from hH)];refine gz (K7 hz hT λh' δ hs=>?_);rw[kf @D];rw[<-ao3];simp only[ab0,at0];have keep:∀{b:ee} {o:Obj},b≠z->s.heap.get? b=aY o->h'.get? b=aY o:=fun υ e=>(hs.2 _ υ).trans e;have γ:h'.IsListIter i1 G i:=h1.at λo e=>keep ap.i1z e;have L:h'.IsList G xs:=let ⟨o,e,c⟩:=hl1;⟨o,keep ap.l1z e,c⟩
 refine gz (gz (gz (YC ?_)));show lT _ _ (X7 (!j i1) >>=λx=>pure (aY x)) _ _ _;refine gz (wpAny_nextOf_list_end (by first | exact Y | (rw[show A.in1.handled=gg from Y])) γ L ε λZ e ex he=>?_);refine gz (wpAny_isInstance (T:="StopIteration") (b:=true) (s:={s with heap:=Z}) (let ⟨o,a,b⟩:=he;⟨o,a,b⟩) isSubtype_stop ?_);exact oD (h Z λb o nz n1 η=>ex b o n1 (keep nz η))
structure ZGot (h:WN) (lo:Nat) (xs ys:G') (as:M'):Prop where
 rise:as.Pairwise (· < ·)
 above:∀a∈as,lo<=a/\a < h.objs.size
 pairs:∀(j:Nat) (a:ee),as[j]? =aY a->∃x y,xs[j]? =aY x/\ys[j]? =aY y/\h.IsTuple a #[x,y]
structure ZSt (h:WN) (z TI TO i1 i2 l1 l2:ee) (lo:Nat) (xs ys:G') (i:Nat) (as:M'):Prop where
 zp:(i=0/\IsZip h z TI TO .none)∨∃T fl,Busy h z TI TO T fl/\as[0]? =aY T
 hI:IsPair h TI (!j i1) (!j i2)
 hO:∃a b,IsPair h TO a b
 h1:h.IsListIter i1 l1 i
 h2:h.IsListIter i2 l2 i
 hl1:h.IsList l1 xs
 hl2:h.IsList l2 ys
 len:as.length=i
 got:ZGot h lo xs ys as
structure Und (z TI TO i1 i2 l1 l2 S:ee) (lo:Nat):Prop where
 ap:ZipApart z TI TO i1 i2 l1 l2
 Sz:S≠z
 STI:S≠TI
 STO:S≠TO
 Si1:S≠i1
 Si2:S≠i2
 Sl1:S≠l1
 Sl2:S≠l2
 z:z < lo
 TO:TO < lo
 i1:i1 < lo
 i2:i2 < lo
 S:S < lo
theorem mS {h:WN} {a:ee} {o:Obj} (e:h.get? a=aY o):a < h.objs.size:=hK e
theorem ZGot.keep {h h':WN} {lo:Nat} {xs ys:G'} {as:M'} (g:ZGot h lo xs ys as) (k:∀b o,lo<=b->h.get? b=aY o->h'.get? b=aY o):ZGot h' lo xs ys as:=by
 have k2:∀a∈as,h'.IsTuple a #[.none,.none]->True:=λ_ _ _=>trivial;refine⟨g.rise,λa ha=>?_,λj a G=>?_⟩
 ·obtain⟨j,G⟩:=WX.mp ha;obtain⟨x,y,_,_,o,e,_⟩:=g.pairs j a G;exact⟨(g.above a ha).1,mS (k a o (g.above a ha).1 e)⟩
 ·obtain⟨x,y,Y,L,o,e,c⟩:=g.pairs j a G;exact⟨x,y,Y,L,o,k a o (g.above a (eO G)).1 e,c⟩
theorem ZGot.more {h:WN} {lo:Nat} {xs ys:G'} {as:M'} {a:ee} {x y:i'} (g:ZGot h lo xs ys as) (ha:∀b∈as,b < a) (L:lo<=a) (hx:xs[as.length]? =aY x) (hy:ys[as.length]? =aY y) (ht:h.IsTuple a #[x,y]):ZGot h lo xs ys (as++[a]):=by
 refine⟨an1.mpr ⟨g.rise,ak2 _ _,λb hb c Y=>by rw[eR.mp Y];exact ha b hb⟩,λb hb=>?_,λj b G=>?_⟩
 ·rcases gs.mp hb with z | z
  ·exact g.above b z
  ·rw[eR.mp z];obtain⟨o,e,_⟩:=ht;exact⟨L,mS e⟩
 ·by_cases hl:j < as.length
  ·rw[la hl] at G;exact g.pairs j b G
  ·rw[lB @A] at G
   have φ:j=as.length:=by
    have:=(!K G).1;simp at this;omega
   subst φ;rw[aa1] at G;have:a=b:=by simpa using G
   subst this;exact⟨x,y,hx,hy,ht⟩
theorem loop {R:S'} {z TI TO i1 i2 ι ζ S:ee} {lo:Nat} {xs ys:G'} (hh:@b9) (U:Und z TI TO i1 i2 ι ζ S lo) (hn:xs.size<=ic) (a7:ys.size=xs.size) (res:i') {h₁:WN}
  (hR:∀h' tk Z c as,(∀b o,b≠S->b≠z->b≠TO->b≠i1->b≠i2->h₁.get? b=aY o->h'.get? b=aY o)->h'.get? S=aY {cls:= .type "list",data:= .seq Z c}->Z.toList=as.map .ref->as.length=xs.size->ZGot h' lo xs ys as->R (.ok (.ret res)) {s with heap:=h',toks:=tk}):
  ∀(k i:Nat) (h:WN) (tk c:Nat) (Z:G') (as:M'),xs.size - i=k->i<=xs.size->lo<=h.objs.size->ZSt h z TI TO i1 i2 ι ζ lo xs ys i as->
    (∀b o,b≠S->b≠z->b≠TO->b≠i1->b≠i2->h₁.get? b=aY o->h.get? b=aY o)->h.get? S=aY {cls:= .type "list",data:= .seq Z c}->Z.toList=as.map .ref->
    codeAny @a2 A (au9 "list.extend.loop" {pos:=[.ref S,.ref z,res]}) R {s with heap:=h,toks:=tk}:=by
 have ap:=U.ap;intro k
 induction k with
 | zero=>
   intro i h tk c Z as hk hi ε st χ υ ν;have a3:i=xs.size:=by omega
   subst a3;refine Y' F.entry_extend_loop ?_;rw[Yy F.plain_extend_loop];show lT _ A.in1 (pyNext (!j z) >>=_) _ _ _;refine gz ?_
   have fin:∀h' G,(∀b o,b≠z->b≠TO->b≠i1->b≠i2->h.get? b=aY o->h'.get? b=aY o)->R (.ok (.ret res)) {s with heap:=h',toks:=G}:=λh' G α=>
    hR h' G Z c as (λb o n1 γ Y β δ e=>α b o γ Y β δ (χ b o n1 γ Y β δ e)) (α S _ U.Sz U.STO U.Si1 U.Si2 υ) ν st.len (st.got.keep λb o hb e=>α b o (Xw (gA U.z hb)) (Xw (gA U.TO hb)) (Xw (gA U.i1 hb)) (Xw (gA U.i2 hb)) e)
   rcases st.zp with ⟨h0,hz⟩ | ⟨T,π,hz,hT⟩
   ·have W:=af0 (prog:=prog) (w:=w) (A:=A.in1) hh z TI TO i1 i2 ι ζ ap xs ys;have em:min xs.size ys.size=xs.size:=by omega
    rw[em] at W;refine W.done {s with heap:=h,toks:=tk} _ _ ⟨hz,st.hI,st.hO,st.h1,st.h2,st.hl1,st.hl2⟩ λh' G α=>?_;exact oD (fin h' G λb o γ Y β δ e=>α b o (by simp[γ,Y,β,δ]) e)
   ·obtain⟨x,y,_,_,oT,eT,_⟩:=st.got.pairs 0 T hT;refine OA (s:={s with heap:=h,toks:=tk}) hh ap hz eT st.hI st.h1 st.hl1 @C λh' α=>?_;exact oD (fin h' tk λb o γ Y β δ e=>α b o γ β e)
 | succ k ih=>
   intro i h tk c Z as hk hi ε st χ υ ν;have ξ:i < xs.size:=by omega
   have τ:xs[i]? =aY xs[i]:=YJ ξ;have ρ:ys[i]? =aY (ys[i]' @A):=YJ @A;generalize xs[i]=x at τ;generalize ys[i]'_=y at ρ;refine Y' F.entry_extend_loop ?_;rw[Yy F.plain_extend_loop];show lT _ A.in1 (pyNext (!j z) >>=_) _ _ _;refine gz ?_
   have go:∀(a:ee) (h':WN) (G:Nat),h.objs.size<=a->h'.IsTuple a #[x,y]->(∀b o,b≠z->b≠TO->b≠i1->b≠i2->h.get? b=aY o->h'.get? b=aY o)->lo<=h'.objs.size->
     (∃T π,Busy h' z TI TO T π/\(as++[a])[0]? =aY T)->IsPair h' TI (!j i1) (!j i2)->(∃a b,IsPair h' TO a b)->h'.IsListIter i1 ι @H->h'.IsListIter i2 ζ @H->h'.IsList ι xs->h'.IsList ζ ys->
     lT @a2 A.in1 (Zs @b2 (λq=>q.push @af) >>=λ_=>again (au9 "list.extend.loop" {pos:=[.ref S,.ref z,res]}))
      (λfin s'=>match fin with | .done f=>R (.ok f) s' | .again c'=>c'.quiet=true/\codeAny @a2 A c' R s') (!bX e) {s with heap:=h',toks:=G}:=by
    intro a h' G ha ht α ο ψ hI hO h1 h2 hl1 hl2;have L:=α S _ U.Sz U.STO U.Si1 U.Si2 υ;have aS:a≠S:=Xw (gA (mS υ) ha);have hsz:Z.size=i:=by have:=oe w3 ν;rw[a',st.len] at this;simpa using this
    have oth:∀b o,b≠S->h'.get? b=aY o->(h'.update S (Xd λq=>q.push @af)).get? b=aY o:=λb o hb e=>(X1 _ _ (wh hb)).trans e;have a4:=XQ (Xd (λq=>q.push (vu a))) L rfl;refine gz (ZE (s:={s with heap:=h',toks:=G}) L rfl (oD ⟨aa6 F.plain_extend_loop _,?_⟩) (by rw[hsz];omega) (by rw[Array.size_push,hsz];omega));refine ih @H (h'.update S _) G _ (Z.push @af) (as++[a]) @A ξ ?_ ⟨.inr ?_,?_,?_,?_,?_,?_,?_,?_,?_⟩ ?_ a4 ?_
    ·have es:(h'.update S (Xd λq=>q.push @af)).objs.size=h'.objs.size:=(Ya ..).1;rw[es];exact ο
    ·obtain⟨T,π,e,q⟩:=ψ;exact⟨T,π,oth _ _ (wh U.Sz) e,q⟩
    ·exact oth _ _ (wh U.STI) hI
    ·obtain⟨p,q,e⟩:=hO;exact⟨p,q,oth _ _ (wh U.STO) e⟩
    ·exact h1.at λo e=>oth _ o (wh U.Si1) e
    ·exact h2.at λo e=>oth _ o (wh U.Si2) e
    ·exact let ⟨o,e,c⟩:=hl1;⟨o,oth _ o (wh U.Sl1) e,c⟩
    ·exact let ⟨o,e,c⟩:=hl2;⟨o,oth _ o (wh U.Sl2) e,c⟩
    ·rw[fy,st.len];rfl
    ·have g:=st.got.keep (h':=h'.update S (Xd λq=>q.push @af)) λb o hb e=>oth b o (Xw (gA U.S hb)) (α b o (Xw (gA U.z hb)) (Xw (gA U.TO hb)) (Xw (gA U.i1 hb)) (Xw (gA U.i2 hb)) e);refine g.more (λb hb=>gA (st.got.above b hb).2 ha) (XX ε ha) (by rw[st.len];exact τ) (by rw[st.len];exact ρ) (let ⟨o,e,c⟩:=ht;⟨o,oth _ o aS e,c⟩)
    ·exactλb o n1 γ Y β δ e=>oth b o n1 (α b o γ Y β δ (χ b o n1 γ Y β δ e))
    ·rw[Array.toList_push,ν,eF];rfl
   rcases st.zp with ⟨h0,hz⟩ | ⟨T,π,hz,hT⟩
   ·have W:=af0 (prog:=prog) (w:=w) (A:=A.in1) hh z TI TO i1 i2 ι ζ ap xs ys;have em:min xs.size ys.size=xs.size:=by omega
    rw[em] at W;refine W.item i {s with heap:=h,toks:=tk} _ _ ξ ⟨hz,st.hI,st.hO,st.h1,st.h2,st.hl1,st.hl2⟩ λT a6 h' G hp hT ht φ α=>?_;obtain⟨x',η,ex,ey,rfl⟩:=hp;rw[τ] at ex;cases ex;rw[ρ] at ey;cases ey;obtain⟨m1,θ,m3,m4,m5,m6,m7,_⟩:=φ;have a5:as=[]:=ag7 (st.len.trans h0);refine go T h' G hT ht (λb o γ Y β δ e=>α b o (by simp[γ,Y,β,δ]) e) ?_ ⟨T,false,m1,by rw[a5];rfl⟩ θ m3 m4 m5 m6 m7;obtain⟨o,e,_⟩:=ht;exact Y6 (Xe (XX ε hT) (mS e))
   ·obtain⟨_,_,_,_,oT,eT,_⟩:=st.got.pairs 0 T hT;refine K9 (s:={s with heap:=h,toks:=tk}) ap hz eT st.hI st.h1 st.h2 st.hl1 st.hl2 τ ρ λh' ω b1 b2 α ht=>?_;refine go h.objs.size h' tk @U ⟨_,ht,rfl,_,rfl⟩ (λb o γ Y β δ e=>α b o γ β δ e) ?_ ⟨T,true,ω,?_⟩ (α TI _ ap.TIz ap.TIi1 ap.TIi2 st.hI) (let ⟨p,q,e⟩:=st.hO;⟨p,q,α TO _ ap.TOz ap.TOi1 ap.TOi2 e⟩) b1 b2 (let ⟨o,e,c⟩:=st.hl1;⟨o,α ι o ap.l1z ap.l1i1 ap.l1i2 e,c⟩) (let ⟨o,e,c⟩:=st.hl2;⟨o,α ζ o ap.l2z ap.l2i1 ap.l2i2 e,c⟩)
    ·have a0:h'.get? h.objs.size=_:=ht;exact Y6 (Xe ε (mS a0))
    ·have:0 < as.length:=(!K hT).1;rw[la this];exact hT
theorem Ws:typeLookup (!aj "zip") "__len__"=pure none:=by rw[ZH,YE];kernel_rfl
theorem UQ:typeLookup (!aj "zip") "__length_hint__"=pure none:=by rw[ZH,YE];kernel_rfl
structure New (h:WN) (z TI TO i1 i2 l1 l2:ee) (xs ys:G'):Prop where
 ap:ZipApart z TI TO i1 i2 l1 l2
 hz:IsZip h z TI TO .none
 hI:IsPair h TI (!j i1) (!j i2)
 hO:∃a b,IsPair h TO a b
 h1:h.IsListIter i1 l1 0
 h2:h.IsListIter i2 l2 0
 hl1:h.IsList l1 xs
 hl2:h.IsList l2 ys
theorem New.keep {h h':WN} {z TI TO i1 i2 L G:ee} {xs ys:G'} (n:New h z TI TO i1 i2 L G xs ys) (k:∀b o,h.get? b=aY o->(b=z∨b=TI∨b=TO∨b=i1∨b=i2∨b=L∨b=G)->h'.get? b=aY o):New h' z TI TO i1 i2 L G xs ys where
 ap:=n.ap
 hz:=k _ _ n.hz @C
 hI:=k _ _ n.hI @C
 hO:=let ⟨a,b,e⟩:=n.hO;⟨a,b,k _ _ e @C⟩
 h1:=n.h1.at λo e=>k _ o e @C
 h2:=n.h2.at λo e=>k _ o e @C
 hl1:=let ⟨o,e,c⟩:=n.hl1;⟨o,k _ o e @C,c⟩
 hl2:=let ⟨o,e,c⟩:=n.hl2;⟨o,k _ o e @C,c⟩
theorem Vi {R:S'} {z TI TO i1 i2 β α S:ee} {lo:Nat} {xs ys:G'} (ο:@b9) (U:Und z TI TO i1 i2 β α S lo) (N:New s.heap z TI TO i1 i2 β α xs ys) (hn:xs.size<=ic) (γ:ys.size=xs.size) (δ:lo<=s.heap.objs.size) (res:i') {Y:Nat} (θ:s.heap.get? S=aY {cls:= .type "list",data:= .seq #[] Y})
  (τ:∀h' tk Z c as,(∀b o,b≠S->b≠z->b≠TO->b≠i1->b≠i2->s.heap.get? b=aY o->h'.get? b=aY o)->h'.get? S=aY {cls:= .type "list",data:= .seq Z c}->Z.toList=as.map .ref->as.length=xs.size->ZGot h' lo xs ys as->R (.ok (.ret res)) {s with heap:=h',toks:=tk}):
  lT @a2 A.in1 (W4 @b2 (!j z) res)
   (λfin s'=>match fin with | .done f=>R (.ok f) s' | .again ν=>ν.quiet=true/\codeAny @a2 A ν R s') (!bX e) s:=by
 have ty:s.TypeIs (!j z) "zip":=⟨_,N.hz,rfl⟩;have h1:YA @b2 (!j z)=false:=by simp[YA,U.Sz]
 unfold W4;refine gz (ag9 ty ?_);rw[kf (by rw[h1];decide)];refine gz (ai0 N.hz ?_);refine gz (YC ?_);unfold ad5;refine gz (ZF ty Ws ?_);show lT _ A.in1 (specialOf (vu z) (Yq "__length_hint__") >>=_) _ _ _;refine gz (ZF ty UQ ?_);refine oD ?_;dsimp only;rw[lx @D];refine gz (at4 (gz ?_));show lT _ _ (updateSeq S (λx=>x.push .none) >>=λ_=>updateSeq S λx=>x.pop) _ _ s;have ε:=XQ @cB θ rfl;have L:∀b o,b≠S->s.heap.get? b=aY o->(!bC S @cB).get? b=aY o:=λb o hb e=>(X1 _ _ (wh hb)).trans e;have η:(!bC S @cB).objs.size=s.heap.objs.size:=(Ya ..).1;refine gz (ZE θ rfl ?_ (by show 0<=ic;exact Xy _) (by show 1<=ic + 1;omega));generalize ρ:s.heap.update S @cB=g1 at ε L η;refine ZE (s:={s with heap:=g1}) ε rfl ?_ (by show 1<=ic;rw[lj];decide) (by show 0<=ic + 1;omega);have ι:=XQ (Xd (λx=>x.pop)) ε rfl;have G:∀b o,b≠S->g1.get? b=aY o->(g1.update S (Xd (λx=>x.pop))).get? b=aY o:=λb o hb e=>(X1 _ _ (wh hb)).trans e;have ζ:(g1.update S (Xd (λx=>x.pop))).objs.size=g1.objs.size:=(Ya ..).1;generalize π:g1.update S (Xd (λx=>x.pop))=g2 at ι G ζ;refine oD ⟨aa6 F.plain_extend_loop _,?_⟩
 have N2:New g2 z TI TO i1 i2 β α xs ys:=N.keep λb o e hb=>by
  have υ:b≠S:=by
   rcases hb with rfl | rfl | rfl | rfl | rfl | rfl | rfl
   ·exact wh U.Sz
   ·exact wh U.STI
   ·exact wh U.STO
   ·exact wh U.Si1
   ·exact wh U.Si2
   ·exact wh U.Sl1
   ·exact wh U.Sl2
  exact G b o υ (L b o υ e)
 exact loop (s:=s) (h₁:=s.heap) ο U hn γ res τ xs.size 0 g2 s.toks _ #[] [] (ai8 _) (Xy _) (by rw[ζ,η];exact δ) ⟨.inl ⟨rfl,N2.hz⟩,N2.hI,N2.hO,N2.h1,N2.h2,N2.hl1,N2.hl2,rfl,⟨ah6,λ_ h=>hE h @C,λj a ξ=>by simp at ξ⟩⟩ (λb o n1 _ _ _ _ e=>G b o n1 (L b o n1 e)) ι rfl
theorem init {R:S'} {z TI TO i1 i2 ε δ S:ee} {lo:Nat} {xs ys:G'} (ν:@b9) (U:Und z TI TO i1 i2 ε δ S lo) (N:New s.heap z TI TO i1 i2 ε δ xs ys) (hn:xs.size<=ic) (Z:ys.size=xs.size) (α:lo<=s.heap.objs.size) (γ:s.heap.get? S=aY {cls:= .type "list",data:= .seq #[]})
  (ξ:∀h' tk G c as,(∀b o,b≠S->b≠z->b≠TO->b≠i1->b≠i2->s.heap.get? b=aY o->h'.get? b=aY o)->h'.get? S=aY {cls:= .type "list",data:= .seq G c}->G.toList=as.map .ref->as.length=xs.size->ZGot h' lo xs ys as->R (.ok (.ret .none)) {s with heap:=h',toks:=tk}):
  lT @a2 A.in1 (Builtin.«list.__init__» ⟨[.ref S,.ref z],[]⟩)
   (λfin s'=>match fin with | .done f=>R (.ok f) s' | .again ζ=>ζ.quiet=true/\codeAny @a2 A ζ R s') (!bX e) s:=by
 show lT _ _ (do let L <-YO @b2;Zs @b2 (λ_=>#[]);letGo L.toList.reverse;W4 @b2 (!j z) .none) _ _ s;refine gz ?_;unfold YO;refine gz (YR γ rfl (oD ?_));show lT _ _ (updateSeq S (λ_=>#[]) >>=λ_=>letGo (#[]:G').toList.reverse >>=λ_=>W4 @b2 (!j z) .none) _ _ s;refine gz (ZE γ rfl ?_);have β:=XQ (Xd (λ_=>(#[]:G'))) γ rfl;have oth:∀b o,b≠S->s.heap.get? b=aY o->(!bC S (Xd (λ_=>(#[]:G')))).get? b=aY o:=λb o hb e=>(X1 _ _ (wh hb)).trans e;have es:(!bC S (Xd (λ_=>(#[]:G')))).objs.size=s.heap.objs.size:=(Ya ..).1;refine gz (wpAny_letGo ?_);refine Vi (s:={s with heap:=_}) ν U (N.keep λb o e hb=>oth b o ?_ e) hn Z (by show lo<=(!bC S _).objs.size;rw[es];exact α) .none β λh' tk G c as k a1 a2 π ο=>ξ h' tk G c as (λb o n1 ι Y θ η e=>k b o n1 ι Y θ η (oth b o n1 e)) a1 a2 π ο;rcases hb with rfl | rfl | rfl | rfl | rfl | rfl | rfl
 ·exact wh U.Sz
 ·exact wh U.STI
 ·exact wh U.STO
 ·exact wh U.Si1
 ·exact wh U.Si2
 ·exact wh U.Sl1
 ·exact wh U.Sl2
theorem call_list {Q:Cr} {z TI TO i1 i2 θ η:ee} {xs ys:G'} (ρ:@b9) (N:New s.heap z TI TO i1 i2 θ η xs ys) (hn:xs.size<=ic) (ι:ys.size=xs.size)
  (τ:∀h' tk L c as,(∀b o,b≠z->b≠TO->b≠i1->b≠i2->s.heap.get? b=aY o->h'.get? b=aY o)->h'.get? s.heap.objs.size=aY {cls:= .type "list",data:= .seq L c}->L.toList=as.map .ref->as.length=xs.size->ZGot h' @aw xs ys as->Q @aN {s with heap:=h',toks:=tk}):
  lT @a2 A (call @bA [.ref z]) Q E s:=by
 have β:=mS N.hz;have ζ:=mS N.hI;obtain⟨ψ,pb,υ⟩:=N.hO;have G:=mS υ;have γ:i1 < s.heap.objs.size:=let ⟨o,e,_⟩:=N.h1;mS e
 have α:i2 < s.heap.objs.size:=let ⟨o,e,_⟩:=N.h2;mS e
 have ε:θ < s.heap.objs.size:=let ⟨o,e,_⟩:=N.hl1;mS e
 have δ:η < s.heap.objs.size:=let ⟨o,e,_⟩:=N.hl2;mS e
 refine am1 (Q₁:=λobj Z=>obj= .ref s.heap.objs.size/\Z={s with heap:=s.heap.push {cls:= .type "list",data:= .seq #[]}}) F.called_list (F.typeCall_list_1 _) F.entry_list_init (code_list_new _ @cd) λobj Z h₁=>?_;obtain⟨rfl,rfl⟩:=h₁;have ν:(s.heap.push {cls:= .type "list",data:= .seq #[]}).get? s.heap.objs.size=aY {cls:= .type "list",data:= .seq #[]}:=kh _ rfl;have up:∀{b:ee},b < s.heap.objs.size->b < s.heap.objs.size + 1:=λh=>ZR h;have ne:∀{b:ee},b < s.heap.objs.size->s.heap.objs.size≠b:=λh=>Xw h;have U:Und z TI TO i1 i2 θ η s.heap.objs.size @aw:=⟨N.ap,ne β,ne ζ,ne G,ne γ,ne α,ne ε,ne δ,up β,up G,up γ,up α,Xq _⟩;have sz:(s.heap.push {cls:= .type "list",data:= .seq #[]}).objs.size=s.heap.objs.size + 1:=by simp[Heap.push]
 refine⟨⟨_,ν,rfl⟩,F.args_list_init_2 _ _,init (A:=A.in1) (s:={s with heap:=_}) ρ U (N.keep λb o e _=>gn _ e) hn ι (aj1 sz.symm) ν λh' tk L c as k a1 a2 χ φ=>?_⟩;exact⟨rfl,τ h' tk L c as (λb o π Y ο ξ e=>k b o (y1 (mS e)) π Y ο ξ (gn _ e)) a1 a2 χ φ⟩
end
end ZP
open PySem PySem.Spec PyProof.Rows
theorem BO:∀as:M',Vals (as.map V.ref) (as.map vu)
 | []=> .nil
 | _::as=> .cons rfl (BO as)
theorem Px {X:Cx} {pins:D'} {σ:St} {ν s:ik} {τ:Hp} (I0:!bS X τ ν):∀(as:M') (xs ys:eP V) (H:Hp),Inv X pins σ H s->as.Pairwise (· < ·)->(∀a∈as,ν.heap.objs.size<=a/\H a=gg)->as.length=xs.length->as.length=ys.length->
  (∀(j:Nat) (a:ee) (x y:V),as[j]? =aY a->xs[j]? =aY x->ys[j]? =aY y->∃u v,RelV x u/\RelV y v/\s.heap.IsTuple a #[u,v])->
  ∃H2,Inv X pins σ H2 s/\Same H H2/\(∀b,b∉as->H2 b=H b)/\∀(j:Nat) (a:ee) (x y:V),as[j]? =aY a->xs[j]? =aY x->ys[j]? =aY y->H2 a=aY @c0
 | [],_,_,H,I,_,_,_,_,_=>⟨H,I,Same.refl _,λ_ _=>rfl,λj a x y h=>by simp at h⟩
 | a::as,[],_,H,I,_,_,h,_,_=>by simp at h
 | a::as,_,[],H,I,_,_,_,h,_=>by simp at h
 | a::as,x::xs,y::ys,H,I,pw,fr,l1,l2,ht=>by
   obtain⟨u,v,δ,γ,o,e,c⟩:=ht 0 a x y rfl rfl rfl;have ω:=fr a (mu ..);have G:=List.pairwise_cons.mp pw;have na:a∉as:=λh=>Y2 _ (G.1 a h);have Z:Inv X pins σ (!V a @c0) s:=I.track (I0.fpN (YD ω.1) ω.2) ⟨BR,[u,v],.cons δ (!bc γ),o,e,c⟩;obtain⟨H2,θ,β,o2,g2⟩:=Px I0 as xs ys (!V a @c0) Z G.2 (λb hb=>⟨(fr b (ov _ hb)).1,by rw[aD (λz:b=a=>na (by rw[<-z];exact hb))];exact(fr b (ov _ hb)).2⟩) (by simpa using l1) (by simpa using l2) λj b L η h1 h2 α=>ht (j + 1) b L η (by simpa using h1) (by simpa using h2) (by simpa using α);refine⟨H2,θ,λb ob h=>β b ob (by rw[aD (ao h ω.2)];exact h),λb hb=>?_,λj b L η h1 h2 α=>?_⟩
   ·rw[o2 b λz=>hb (ov _ z),aD (λz:b=a=>hb (by rw[z];exact mu ..))]
   ·cases j with
    | zero=>
      have ζ:a=b:=by simpa using h1
      have ε:x=L:=by simpa using h2
      have Y:y=η:=by simpa using α
      subst ζ ε Y;exact β a _ aw
    | succ j=>exact g2 j b L η (by simpa using h1) (by simpa using h2) (by simpa using α)
def SL (K:b') (Q:VK) (x y:V) (H:Hp):Prop:=∃a b xs ys,x= .ref a/\y= .ref b/\SqL K H a xs/\SqL K H b ys/\xs.length=ys.length/\
 ∀(D:ee) (ps:M') (G:Hp),H D=gg->Same H G->G D=aY (!A (ps.map V.ref))->ps.length=xs.length->(∀(j:Nat) (p:ee) (x y:V),ps[j]? =aY p->xs[j]? =aY x->ys[j]? =aY y->G p=aY @c0)->Q @W G
noncomputable def tZip (K:b') (L G:TE):TE:=fun σ H Q=>L σ H λx H1=>G σ H1 λy H2=>SL K Q x y H2
theorem V6 {K:b'} {L G:TE} {σ:St} {H:Hp} {Q:VK} (h:L σ H λx H1=>G σ H1 λy H2=>SL K Q x y H2):tZip K L G σ H Q:=h
section
variable {X:Cx}
theorem Vj {K:b'} {δ γ:W5} {π ο:TE} {p1 p2:Pos} {pins:D'} {s:ik} {σ:St} {H:Hp} {Q:VK} (υ:X.K=K) (g2:Gl X "zip") (n2:X.mg "zip"=gg) (ξ:!F δ π) (ι:!F γ ο) (h2:pT [δ,γ] X.env=(false,eval δ X.env)::pT [γ] X.env) (ρ:pT [γ] X.env=[(false,eval γ X.env)])
  (I:@M) (h:tZip K π ο σ H Q) (τ:Cr)
  (hQ:∀(G:ik) (h':WN) (H1:Hp) (a b:ee) (xs ys:eP V) (its Z:E'),Inv X pins σ H1 G->Vals xs its->Vals ys Z->its.length<=ic->xs.length=ys.length->h'.objs.size=G.heap.objs.size + 5->(∀c o,G.heap.get? c=aY o->h'.get? c=aY o)->
   ZP.New h' (G.heap.objs.size + 4) (G.heap.objs.size + 2) (G.heap.objs.size + 3) G.heap.objs.size (G.heap.objs.size + 1) a b its.toArray Z.toArray->
   (∀(D:ee) (ps:M') (ε:Hp),H1 D=gg->Same H1 ε->ε D=aY (!A (ps.map V.ref))->ps.length=xs.length->(∀(j:Nat) (p:ee) (x y:V),ps[j]? =aY p->xs[j]? =aY x->ys[j]? =aY y->ε p=aY @c0)->Q @W ε)->
   τ (!j (G.heap.objs.size + 4)) {G with heap:=h'}):
  lT @S X.A (!aw (!aG "zip" p1 [δ,γ] [] p2)) τ X.xe s:=by
 subst υ;refine ai6 (mR I g2 n2 ag5 (wq (thn (aa ξ (aa ι ae ρ) h2 p2 pins s σ H (λvs H1=>match vs with | [x,y]=>SL X.K Q x y H1 | _=>False) I h) λus G ⟨vs,H1,I1,α,ζ⟩=>?_) h2 (by rw[ρ];rfl)))
 match vs,α,ζ with
 | [x,y],α,ζ=>
 obtain⟨a,b,xs,ys,ex,ey,sa,sb,hl,q⟩:=ζ;subst ex ey;cases α with
 | cons rx r2=>
 cases r2 with
 | cons L ω=>
 cases ω;cases rx;cases L;obtain⟨its,β,η,ν⟩:=I1.list sa;obtain⟨Z,θ,pb,a0⟩:=I1.list sb;have Y:a < G.heap.objs.size:=let ⟨o,e,_⟩:=η.isList;hK e
 have lb:b < G.heap.objs.size:=let ⟨o,e,_⟩:=pb.isList;hK e
 refine call_zip_2 η.isList pb.isList λh' z1 z2 ψ χ φ hsz k=>?_;exact hQ G h' H1 a b xs ys its Z I1 β θ (by rw[<-β.length];exact ν) hl hsz k ⟨zipApart_new Y lb,z1,z2,⟨_,_,ψ⟩,χ,φ,let ⟨o,e,c⟩:=η.isList;⟨o,k _ o e,c⟩,let ⟨o,e,c⟩:=pb.isList;⟨o,k _ o e,c⟩⟩ q
theorem HN {K:b'} {δ Y:W5} {t1 t2:TE} {p1 p2 q1 q2:Pos} (υ:X.K=K) (hc:@aQ) (g1:Gl X "list") (g2:Gl X "zip") (n1:X.mg "list"=gg) (n2:X.mg "zip"=gg) (ω:!F δ t1) (ψ:!F Y t2)
  (h1:pT [aq6 (.Name "zip" p1) [δ,Y] [] p2] X.env=[(false,eval (!aG "zip" p1 [δ,Y] [] p2) X.env)]:=by rfl) (h2:pT [δ,Y] X.env=(false,eval δ X.env)::pT [Y] X.env:=by rfl) (h3:pT [Y] X.env=[(false,eval Y X.env)]:=by rfl):
  PE X (!aG "list" q1 [.Call (.Name "zip" p1) [δ,Y] [] p2] [] q2) (tZip K t1 t2):=by
 intro pins s σ H Q I h;refine ai6 (mR I g1 n1 qE (wq (Q:=EP X pins σ Q) ?_ h1 rfl));rw[h1];show lT _ _ (spliced ((false,eval (!aG "zip" p1 [δ,Y] [] p2) X.env)::backTo q2 [])) _ _ s;refine Zv (Vj υ g2 n2 ω ψ h2 h3 I h _ λL h' H1 a b xs ys its π I1 β θ ν hl hsz k N q=>ZM ?_);have α:π.toArray.size=its.toArray.size:=by have:=β.length;have:=θ.length;simp;omega
 refine ZP.call_list (s:={L with heap:=h'}) (I1.ok.hd hc) N (by simpa using ν) α λh2 tk a4 c as kk hD ο ι G=>?_
 have Z:∀b o,L.heap.get? b=aY o->h2.get? b=aY o:=λb o e=>by
  have lt:=hK e;exact kk b o (y1 (gA lt (YL _ _))) (y1 (gA lt (YL _ _))) (y1 lt) (y1 (gA lt (YL _ _))) (k b o e)
 have I2:Inv X pins σ H1 {L with heap:=h2,toks:=tk}:=I1.kept (t':=tk) Z;have ξ:as.length=xs.length:=by rw[ι,β.length];simp
 have a3:∀p∈as,L.heap.objs.size<=p/\H1 p=none:=λp η=>by
  have h0:L.heap.objs.size<=p:=XX (by show L.heap.objs.size<=h'.objs.size + 1;rw[hsz];exact XX (YL _ _) (ad1 _)) (G.above p η).1;exact⟨h0,I1.hok.fresh h0⟩
 obtain⟨H3,I3,s3,o3,g3⟩:=Px I1 as xs ys H1 I2 G.rise a3 ξ (ξ.trans hl) λj p x y η τ ρ=>by
  obtain⟨u,v,χ,φ,ht⟩:=G.pairs j p η;rw[ab3] at χ φ;obtain⟨u',eu,ru⟩:=β.get τ;obtain⟨v',ev,rv⟩:=θ.get ρ;rw[eu] at χ;cases χ;rw[ev] at φ;cases φ;exact⟨u,v,ru,rv,ht⟩
 have ε:L.heap.objs.size<=h'.objs.size:=by rw[hsz];exact YL _ _
 have fD:H1 h'.objs.size=none:=I1.hok.fresh ε;have nD:h'.objs.size∉as:=λz=>Nat.not_succ_le_self _ (G.above _ z).1;have γ:H3 h'.objs.size=none:=by rw[o3 _ nD];exact fD
 have a0:L.heap.get? h'.objs.size=none:=YD ε;have ζ:Inv X pins σ (!aB H3 h'.objs.size (as.map V.ref)) {L with heap:=h2,toks:=tk}:=I3.track (I1.fpN a0 γ) ⟨by rw[a',ξ,β.length];exact ν,as.map .ref,c,BO as,by rw[<-ο];exact hD⟩;refine⟨!j h'.objs.size,_,ζ,rfl,q h'.objs.size as _ fD (λb ob e=>?_) aw ξ λj p x y η τ ρ=>?_⟩
 ·rw[aD (ao (s3 b ob e) γ)];exact s3 b ob e
 ·have:=g3 j p x y η τ ρ;rw[aD (ao this γ)];exact this
end
structure FunD (K:b') (x qual:kv) (st:YY) (f:ee) (fd:hF) (dv:i'):Prop where
 ex:∃(oc:i') (od:Q') (T:ee) (kV doc pm:i') (an:Q') (cdv ct:i') (osl:K') (tc:i') (td:Q') (n:Nat) (tsl:K'),
  fd=Xz x qual (jh st) (gf st) @aJ (!j T) kV doc pm an cdv ct/\K.lookup f=aY ⟨oc,od,.func fd,osl⟩/\Yx K cdv qual=true/\K.lookup T=aY ⟨tc,td,.seq #[dv] n,tsl⟩
 kp:XA K @a7=true
section
variable {P:ry} {w:z5} {K:b'} {mg:F'} {base:WN}
theorem FunD.okX {x G:kv} {st:YY} {f:ee} {fd:hF} {dv:i'} {N ps:B'} {k:Nat} {sp:Sp} (F:FunD K x G st f fd dv) (S:!C N ps st) (len:∀vs H Q E,sp vs H Q E->vs.length=ps.length)
  (Y:∀(L:i') (A:W6) (outer:@aL) (s:ik) (H:Hp) (vs:eP V) (Q:VK) (E:XK),Room k (A.deeper (!bq G @aJ f L))->sp vs H Q E->
   ∃t,PSs ((cxOf (CX1 P w) P w K mg base N G @aJ f L A outer s H E).thr λ_=>E) (gf st) t/\t {nx:=λ_ H'=>Q .non H',rt:=Q} (start N vs) H):FnOk P w K mg base (CX1 P w) @aR f fd ps sp:=by
 obtain⟨ζ,od,T,kV,ε,Z,an,L,ct,γ,tc,td,n,β,rfl,lk,θ,_⟩:=F.ex;refine So lk θ S len λA outer s H vs Q E δ α=>?_;obtain⟨t,h,q⟩:=Y L A outer s H vs Q E δ α;exact⟨t,h.thr GH,q⟩
theorem FunD.binds {x G:kv} {st:YY} {f:ee} {fd:hF} {dv:i'} {ps:B'} {ds:E'} (F:FunD K x G st f fd dv)
  (h:∀(T:ee) (kV L Z:i') (an:Q') (Y ct:i') (us:E'),(@bb).length=ps.length->∃k:vr G'->Sem U',bindArgs (Xz x G (jh st) (gf st) @aJ (!j T) kV L Z an Y ct) ⟨us,[]⟩=(seqItems? (!j T) >>=k)/\k (aY #[dv])=pure (ps.zip @bb)):rT K fd ps ds:=by
 obtain⟨ζ,od,T,kV,L,Z,an,Y,ct,β,tc,td,n,α,rfl,lk,θ,γ⟩:=F.ex;intro s us υ hl;obtain⟨k,ε,δ⟩:=h T kV L Z an Y ct us hl;exact BindsTo.of_defaults (T:=T) rfl (υ T _ γ) rfl ε δ
theorem Sj {x G:kv} {st:YY} {f T:ee} {δ tc dv:i'} {od an td:Q'} {β α:K'} {n:Nat} {kV Y Z L ct:i'} (l:K.lookup f=aY ⟨δ,od,.func (Xz x G (jh st) (gf st) (ag st) (.ref T) kV Y Z an L ct),β⟩)
  (γ:K.lookup T=aY ⟨tc,td,.seq #[dv] n,α⟩) (c:Yx K L G=true) (k:XA K @a7=true):FunD K x G st f (Xz x G (jh st) (gf st) @aJ (!j T) kV Y Z an L ct) dv:=⟨⟨δ,od,T,kV,Y,Z,an,L,ct,β,tc,td,n,α,rfl,l,c,γ⟩,k⟩
end
section
variable {σ:St} {H:Hp} {Q:VK} {te:TE}
def M3 (C:ee) (m:kv) (sp:Sp) (dvs:eP V) (W:XW) (tr:TA) (σ:St) (Q:VK) (x:V) (H:Hp):Prop:=∃a dx fs,x= .ref a/\H a=aY @ak/\fs.lookup m=gg/\tr σ H λvs H2=>sp (x::@aV) H2 Q (W σ)
theorem dZ {C:ee} {m:kv} {sp:Sp} {dvs:eP V} {W:XW} {tr:TA} (h:te σ H (M3 C m sp dvs W tr σ Q)):PB C m sp dvs W te tr σ H Q:=h
theorem dE {C dx p:ee} {m:kv} {fs:@az} {sp:Sp} {dvs:eP V} {W:XW} {tr:TA} (e:H p=aY @ak) (l:fs.lookup m=gg) (h:tr σ H λvs H2=>sp (.ref p::@aV) H2 Q (W σ)):M3 C m sp dvs W tr σ Q @P H:=⟨p,dx,fs,rfl,e,l,h⟩
end
noncomputable def Itzp (K:b') (a b:ee):It:=
 ⟨λi H=>∃xs ys x y,SqL K H a xs/\SqL K H b ys/\xs[i]? =aY x/\ys[i]? =aY y,
  λi H x H'=>∃p u v,H p=gg/\x= .ref p/\H'=upd H p (!H [u,v])/\(∀xs,SqL K H a xs->xs[i]? =aY u)/\∀ys,SqL K H b ys->ys[i]? =aY v,
  λi H=>∃xs ys,SqL K H a xs/\SqL K H b ys/\xs.length=ys.length/\xs.length=i⟩
theorem ND {P:ry} {w:z5} {K:b'} {π:eP W5} {k:Nat} {pos:Pos} (a b z TI TO i1 i2:ee) (D:ZipApart z TI TO i1 i2 a b):
  Turn P w K (.Tuple π k pos) (Itzp K a b) [z,TI,TO,i1,i2] z (λi h=>IsZip h z TI TO .none/\IsPair h TI (!j i1) (!j i2)/\(∃u v,IsPair h TO u v)/\h.IsListIter i1 a i/\h.IsListIter i2 b i) where
 mem:=by simp
 obj:=λi h st c hb=>by
  obtain⟨hz,Y,⟨u,v,G⟩,⟨o1,φ,_,a4⟩,⟨o2,ξ,_,L⟩⟩:=st;simp only[x8,YZ,ag8] at hb;rcases hb with e | e | e | e | e
  ·rw[e];exact⟨_,hz,λv z=>by cases z⟩
  ·rw[e];exact⟨_,Y,λv z=>by cases z⟩
  ·rw[e];exact⟨_,G,λv z=>by cases z⟩
  ·rw[e];exact⟨o1,φ,λv z=>by rw[a4] at z;cases z⟩
  ·rw[e];exact⟨o2,ξ,λv z=>by rw[L] at z;cases z⟩
 keep:=λi h h' st k=>by
  obtain⟨hz,Y,⟨u,v,G⟩,h1,h2⟩:=st;exact⟨k z @C _ hz,k TI @C _ Y,⟨u,v,k TO @C _ G⟩,h1.at λo e=>k i1 @C o e,h2.at λo e=>k i2 @C o e⟩
 item:=by
  intro X hP hw υ hc i pins s σ H E I hf st hg;subst hP hw υ;obtain⟨xs,ys,x,y,ι,qb,hx,hy⟩:=hg;obtain⟨its,β,pa,ν⟩:=I.list ι;obtain⟨Z,θ,pb,a3⟩:=I.list qb;obtain⟨hz,Y,G,h1,h2⟩:=st;have W:=af0 (prog:=X.prog) (w:=X.w) (A:=X.A) (!aF hc) z TI TO i1 i2 a b D its.toArray Z.toArray;have b3:i < its.length:=by have:=β.length;have:=(!K hx).1;omega
  have a8:i < Z.length:=by have:=θ.length;have:=(!K hy).1;omega
  have a0:∀c∈[z,TI,TO,i1,i2],c < s.heap.objs.size:=λc hb=>by
   obtain⟨u,v,G⟩:=G;obtain⟨o1,φ,_⟩:=h1;obtain⟨o2,ξ,_⟩:=h2;simp only[x8,YZ,ag8] at hb;rcases hb with e | e | e | e | e
   ·rw[e];exact hK hz
   ·rw[e];exact hK Y
   ·rw[e];exact hK G
   ·rw[e];exact hK φ
   ·rw[e];exact hK ξ
  refine W.item i s _ _ (by simp;omega) ⟨hz,Y,G,h1,h2,pa.isList,pb.isList⟩ λT a7 h' tk a5 hT ο δ hk=>⟨_,rfl,W.go π k pos i T _ _ _ δ λa6 ρ ω=>?_⟩;obtain⟨x',η,ψ,ε,rfl⟩:=a5;have ζ:=W.apart i T h' δ
  have ru:RelV x x':=by
   obtain⟨u,hu,r⟩:=β.get hx;have γ:its[i]? =aY x':=by simpa using ψ
   rw[hu] at γ;cases γ;exact r
  have rv:RelV y η:=by
   obtain⟨u,hu,r⟩:=θ.get hy;have α:Z[i]? =aY η:=by simpa using ε
   rw[hu] at α;cases α;exact r
  have sub:∀c,c∉[z,TI,TO,i1,i2]->c∉[z,TO,i1,i2]:=λc h χ=>h (by
   simp only[x8,YZ,ag8] at χ ⊢;rcases χ with e | e | e | e<;>simp[e])
  have kk:∀c u,c∉[z,TI,TO,i1,i2]->s.heap.get? c=aY u->a6.get? c=aY u:=λc u hb q=>ω c u (sub c hb) (hk c u (sub c hb) q);have fr:H T=none:=I.hok.fresh hT;refine⟨!j T,!V T @c0,I.laidCh (t':=tk) kk hT ⟨BR,[x',η],.cons ru (!bc rv),?_⟩ hf,rfl,⟨T,x,y,fr,rfl,rfl,λzs τ=>by rw[I.list_inj τ ι];exact hx,λzs τ=>by rw[I.list_inj τ qb];exact hy⟩,⟨ρ.1,ρ.2.1,ρ.2.2.1,ρ.2.2.2.1,ρ.2.2.2.2.1⟩,λc hb=>?_⟩
  ·obtain⟨o,ho,r⟩:=ο;exact⟨o,ω T o ζ ho,r⟩
  ·rw[aD (λe=>?_)]
   ·exact(hf c hb).1
   ·have:=a0 c hb;rw[e] at this;exact hE (gA this hT) (Y2 _)
 done:=by
  intro X hP hw υ hc i pins s σ H E I hf st hg;subst hP hw υ;obtain⟨xs,ys,ι,qb,hl,hn⟩:=hg;obtain⟨its,β,pa,ν⟩:=I.list ι;obtain⟨Z,θ,pb,a3⟩:=I.list qb;obtain⟨hz,Y,G,h1,h2⟩:=st;have W:=af0 (prog:=X.prog) (w:=X.w) (A:=X.A) (!aF hc) z TI TO i1 i2 a b D its.toArray Z.toArray;have e:min its.toArray.size Z.toArray.size=i:=by have:=β.length;have:=θ.length;simp;omega
  rw[e] at W
  have sub:∀c,c∉[z,TI,TO,i1,i2]->c∉[z,TO,i1,i2]:=λc h χ=>h (by
   simp only[x8,YZ,ag8] at χ ⊢;rcases χ with e | e | e | e<;>simp[e])
  exact W.done s _ _ ⟨hz,Y,G,h1,h2,pa.isList,pb.isList⟩ λh' tk hk=>⟨rfl,I.turnedCh (λc u hb q=>hk c u (sub c hb) q) hf⟩
 self:=λ_ _ _ _ _ st h=>ai0 st.1 h
def SK (K:b') (R:It->Hp->Prop) (x y:V) (H:Hp):Prop:=∃a b xs ys,x= .ref a/\y= .ref b/\SqL K H a xs/\SqL K H b ys/\xs.length=ys.length/\R (Itzp K a b) H
noncomputable def iZip (K:b') (L G:TE):TI:=fun σ H R=>L σ H λx H1=>G σ H1 λy H2=>SK K R x y H2
theorem TX {K:b'} {L G:TE} {σ:St} {H:Hp} {R:It->Hp->Prop} (h:L σ H λx H1=>G σ H1 λy H2=>SK K R x y H2):iZip K L G σ H R:=h
section
variable {X:Cx} {K:b'}
theorem Uy {ε Z:W5} {π ο:TE} {δ:eP W5} {k:Nat} {tpos p pos:Pos} (υ:X.K=K) (g2:Gl X "zip") (n2:X.mg "zip"=gg) (ι:!F ε π) (η:!F Z ο)
  (h2:pT [ε,Z] X.env=(false,eval ε X.env)::pT [Z] X.env:=by rfl) (τ:pT [Z] X.env=[(false,eval Z X.env)]:=by rfl):
  PI X (.Tuple δ k tpos) (!aG "zip" p [ε,Z] [] pos) (iZip K π ο):=by
 subst υ;intro pins s σ H R I h;refine ai6 (mR I g2 n2 ag5 (wq (thn (aa ι (aa η ae τ) h2 pos pins s σ H (λvs H1=>match vs with | [x,y]=>SK X.K R x y H1 | _=>False) I h) λus G ⟨vs,H1,I1,α,ζ⟩=>?_) h2 (by rw[τ];rfl)))
 match vs,α,ζ with
 | [x,y],α,ζ=>
 obtain⟨a,b,xs,ys,ex,ey,sa,sb,hl,q⟩:=ζ;subst ex ey;cases α with
 | cons rx r2=>
 cases r2 with
 | cons L ω=>
 cases ω;cases rx;cases L;obtain⟨its,β,ρ,ν⟩:=I1.list sa;obtain⟨a0,θ,pb,a3⟩:=I1.list sb;have Y:a < G.heap.objs.size:=let ⟨o,e,_⟩:=ρ.isList;hK e
 have lb:b < G.heap.objs.size:=let ⟨o,e,_⟩:=pb.isList;hK e
 have fin:∀c∈[G.heap.objs.size + 4,G.heap.objs.size + 2,G.heap.objs.size + 3,G.heap.objs.size,G.heap.objs.size + 1],FpOk X pins H1 c:=λc hb=>by
  have γ:G.heap.objs.size<=c:=by
   simp only[x8,YZ,ag8] at hb;rcases hb with e | e | e | e | e<;>rw[e]<;>omega
  exact !bl γ γ
 refine call_zip_2 ρ.isList pb.isList λh' ξ z2 ψ χ φ hsz k=>ai0 ξ ?_;exact⟨G.heap.objs.size + 4,_,_,_,H1,rfl,I1.kept (t':=G.toks) k,ND a b _ _ _ _ _ (zipApart_new Y lb),⟨ξ,z2,⟨_,_,ψ⟩,χ,φ⟩,fin,q⟩
end
theorem Pb {K:b'} {n:Nat} {fx:C'} {g:TG} {tc:TT} {te:TE} {σ:St} {H1:Hp} {D:ee} {Q:Hp->Prop} {a b:ee} {xs ys:eP V} (hl:xs.length=ys.length) (Y:Nat->eP V->Hp->Prop) (h0:Y 0 [] (!X H1 [])) (hq:∀i zs H,i<=xs.length->Y i zs H->SqL K H a xs/\SqL K H b ys)
  (hs:∀i x y zs H p H',xs[i]? =aY x->ys[i]? =aY y->Y i zs H->H p=gg->Same H H'->H' p=aY @c0->g @P (d8 n fx σ) H' λL δ=>tc L δ λb β=>if b=true then te L β λv α=>α D=aY (!A zs)/\zs.length < ic/\Y @H (zs++[v]) (!X α (zs++[v])) else Y @H zs β)
  (hd:∀zs H,Y xs.length zs H->Q H):
  ∃W:Nat->Nat->eP V->Hp->Prop,(∃m,W 0 m [] (!X H1 []))/\∀i m zs H2,W i m zs H2->(!bM (Itzp K a b))∨
    ((Itzp K a b).go i H2/\∃N:eP V->Hp->Prop,(∀G H',N G H'->∃ε,ε < m/\W @H ε G H')/\∀x ζ,(Itzp K a b).yld i H2 x ζ->g x (d8 n fx σ) ζ λL δ=>tc L δ λb β=>
      if b=true then te L β λv α=>α D=aY (!A zs)/\zs.length < ic/\N (zs++[v]) (!X α (zs++[v])) else N zs β):=by
 refine⟨λi m zs H=>m=xs.length - i/\i<=xs.length/\Y i zs H,⟨xs.length,@C,Xy _,h0⟩,?_⟩;rintro i m zs H ⟨rfl,hi,p⟩;obtain⟨ι,γ⟩:=hq i zs H hi p;by_cases Z:i < xs.length
 ·refine !I ⟨⟨xs,ys,xs[i],ys[i]' @A,ι,γ,by simp[Z],by simp[show i < ys.length by omega]⟩,Y @H,λG H' ν=>⟨xs.length - @H,by omega,rfl,Z,ν⟩,λx H' y=>?_⟩;obtain⟨r,u,v,f,ο,ξ,θ,η⟩:=y;subst ο ξ;exact hs i u v zs H r _ (θ xs ι) (η ys γ) p f (bo f) aw
 ·have e:i=xs.length:=by omega
  subst e;exact !E ⟨⟨xs,ys,ι,γ,hl,rfl⟩,hd zs H p⟩
noncomputable abbrev xBM:E':=[.type "ValueError",.type "Exception",.type "BaseException",.type "object"]
structure XOwn (K:b') (C W f:ee):Prop where
 lk:∃nm q N bs sn sub ab col dd k0 k1 k2 k3 k5,K.lookup C=aY (excClassObj nm q C N bs (.ref W::xBM) true sn sub ab col dd k0 k1 k2 k3 k5 "ValueError.__new__")
 up:ab5 K W xBM "ValueError.__new__"=true
 init:zx K @ae "__init__"=aY (aY @a7)
 fn:ad2 K @a7=true
 kp:XA K @ae=true
 sa:zx K @ae "__setattr__"=aY (aY @bu)
 mo:Yb K C (!aj "object")=aY true
 mv:Yb K C (!aj "ValueError")=aY true
section
variable {X:Cx} {pins:D'} {σ:St} {H:Hp} {s:ik} {p C W f:ee} {fs:eP (kv×V)}
structure WK (K:b') (W:ee):Prop where
 ga:Yu K (!j W) "__getattribute__"=aY (aY @d1)
 rd:ao7 K W @bV=true
 fd:ap0 K (!j W) @bV "__init__"=aY (.val (!ai "ValueError.__init__"))
theorem iF {st:YY}:PS X st (λ_ _ _=>False):=λ_ _ _ _ _ _ h=>h.elim
end
end L2
namespace PySem
theorem F.entry_dict_update_loop:entryFor table "dict.update.loop"=aY Builtin.«dict.update.loop»:=entryFor_of_tree (by kernel_rfl)
theorem F.plain_dict_update_loop:plainId "dict.update.loop"=true:=by decide +kernel
theorem F.list_keys_none:typeLookup @bA "keys"=pure none:=by rw[ZH,YE];kernel_rfl
theorem E6 {prog:ry} {w:z5} {A:W6} {E:Cr} {s:ik} {a:ee} {xs:G'} {k:Nat} {name:kv} {Q:V'->ik->Prop}
  (Z:s.heap.get? a=aY {cls:= .type "list",data:= .seq xs k}) (L:typeLookup @bA name=pure gg) (G:(["__module__","__name__","__qualname__","__doc__","__annotations__"]:B').contains name=false) (β:@b9)
  (h:∀h' tk,(∀b o,s.heap.get? b=aY o->h'.get? b=aY o)->Q gg {s with heap:=h',toks:=tk}) (hsz:name.length + 100<=sizeLine:=by size_fits):
  lT @a2 A (getAttr? @af name) Q E s:=by
 obtain⟨α,g,d,tk,os⟩:=s;have hT:∀Y,(⟨α,g,d,Y,os⟩:ik).TypeIs @af "list":=λ_=>⟨_,Z,rfl⟩;have η:=sub_AttributeError;have ζ:=F.slot_list_getattribute.lookup;have ε:=F.slot_list_getattribute.bind @af;have δ:=am_list_getattr_none;unfold getAttr? getAttrBy? getAttrBy
 repeat (any_goals (first | assumption | exact hT _ | ((with_reducible show lT _ _ (call (Value.builtin "list.__getattribute__") _ _) _ _ _);refine Zn F.slot_list_getattribute (hT _) am_entry_list_getattribute (F.args_list_getattribute_2 _ _) (meets_getattribute_miss_list a xs k #[] name _ L G hsz) ⟨Z,β,λh' Y e ψ=>?_⟩) | wp_step))
 obtain⟨t',γ,he⟩:=ψ.there;show lT _ _ (getattributeRaised _ _ _ _ _ _ _) _ _ _;unfold getattributeRaised
 repeat (any_goals (first | assumption | wp_step))
 exact h _ _ ψ.keeps
section
variable {prog:ry} {w:z5} {K:Type} [DecidableEq K] {knd:KeyKind prog w K} {A:W6} {R:S'} {I:ee} {fp wr:M'} {n:Nat} {P:Nat->i'->Prop} {St:Nat->WN->Prop}
def QA (knd:KeyKind prog w K) (h:WN) (a:ee) (G:K×i'):Prop:=∃γ o n,h.get? a=aY o/\o.cls= .type "tuple"/\o.data= .seq #[γ,G.2] n/\knd.is G.1 γ=true
theorem yj {h h':WN} {d:ee} {kvs:eP (K×i')} (hm:h.DictOf knd d kvs) (f:∀o,h.get? d=aY o->h'.get? d=aY o):h'.DictOf knd d kvs:=let ⟨o,es,ep,ho,r⟩:=hm;⟨o,es,ep,f o ho,r⟩
theorem rR (W:Walks prog w A.in1 I fp wr n P St) (d:ee) (φ:d∉fp) (more:eP (K×i')) (hn:more.length=n) (hsz:n<=ic) (tup:Nat->ee) (β:∀i,i < n->tup i∉wr/\tup i≠d) (hP:∀i v,i < n->P i v->v= .ref (tup i)):
  ∀(k j:Nat) (s:ik) (δ:Int) (t:Tok),n - j=k->j<=n->St j s.heap->s.heap.DictOf knd d (merged [] (more.take j))->(∀i Y,more[i]? =aY Y->QA knd s.heap (tup i) Y)->
  (∀h' tk,h'.DictOf knd d (merged [] more)->(∀b o,b∉wr->b≠d->s.heap.get? b=aY o->h'.get? b=aY o)->R (.ok (.ret .none)) {s with heap:=h',toks:=tk})->
  codeAny @a2 A (.builtin "dict.update.loop" ⟨[.ref d,.ref I,.int δ t,.none],[]⟩) R s:=by
 have υ:d∉wr:=λh=>φ (W.sub _ h);intro k
 induction k with
 | zero=>
   intro j s δ t hk hj ρ hd ω hR;have a3:j=n:=by omega
   subst a3;refine Y' F.entry_dict_update_loop ?_;rw[Yy F.plain_dict_update_loop _];show lT _ A.in1 (pyNext (!j I) >>=_) _ _ s;refine gz (W.done s _ _ ρ λh' tk G=>?_);show lT _ A.in1 (Builtin.Dict.addKeywords d [] >>=_) _ _ _;refine gz (oD (oD ?_));rw[<-hn,ix] at hd;exact hR h' tk (yj hd λo e=>G d o υ e) λb o hb _ e=>G b o hb e
 | succ k ih=>
   intro j s δ t hk hj ρ hd ω hR;have Z:j < n:=by omega
   refine Y' F.entry_dict_update_loop ?_;rw[Yy F.plain_dict_update_loop _];show lT _ A.in1 (pyNext (!j I) >>=_) _ _ s;refine gz (W.item j s _ _ Z ρ λv h' tk ε ν G=>?_);have ev:=hP j v Z ε;subst ev;obtain⟨Y,ο⟩:∃Y,more[j]? =aY Y:=⟨_,eH @A⟩;obtain⟨γ,ob,m,ht,ι,a4,π⟩:=ω j Y ο;have θ:=G _ _ (β j Z).1 ht;show lT _ A.in1 (holding [vu (tup j)] _ >>=_) _ _ _;refine gz (YC (gz (wpAny_tryCatch ?_)));unfold Builtin.Dict.pairItems;refine gz (ag9 (T:="tuple") ⟨_,θ,ι⟩ ?_);rw[lx @D];refine gz (YR θ a4 ?_);refine oD ?_;show lT _ A.in1 (holding [γ,Y.2] (dictSet d γ Y.2)) _ _ _;have ζ:h'.DictOf knd d (merged [] (more.take j)):=yj hd λo e=>G d o υ e;refine YC (wpAny_dictSet_pairs (s:={s with heap:=h',toks:=tk}) π ζ (λh2 L ξ=>?_) (hsz:=by have:=merged_length_le [] (more.take j);rw[ae4,qF] at this;omega));rw[<-merged_take_succ [] more j Y ο] at L;have kp:∀b o,b∉wr->b≠d->s.heap.get? b=aY o->h2.get? b=aY o:=λb o hb α e=>(ξ.2 b α).trans (G b o hb e);refine oD ⟨aa6 F.plain_dict_update_loop _,ih (j + 1) _ _ _ @A Z (W.frame _ _ _ ν λb hb o e=>?_) L (λi ψ hi=>?_) λh3 χ a5 a0=>?_⟩
   ·exact(ξ.2 b λz=>φ (z ▸ hb)).trans e
   ·obtain⟨η,o',m',e',x'⟩:=ω i ψ hi;have τ:i < n:=by rw[<-hn];exact(!K hi).1
    exact⟨η,o',m',kp _ _ (β i τ).1 (β i τ).2 e',x'⟩
   ·exact hR h3 χ a5 λb o hb α e=>a0 b o hb α (kp b o hb α e)
end
section
variable {prog:ry} {w:z5} {K:Type} [DecidableEq K] {knd:KeyKind prog w K} {A:W6} {E:Cr} {s:ik}
theorem yv {l:ee} {its:G'} {c:Nat} {more:eP (K×i')} {tup:Nat->ee} {Q:Cr} (ο:@b9) (hl:s.heap.get? l=aY {cls:= .type "list",data:= .seq its c})
  (hn:more.length=its.size) (hsz:its.size<=ic) (ν:∀(i:Nat) (v:i'),its[i]? =aY v->v= .ref (tup i)) (ξ:∀i α,more[i]? =aY α->QA knd s.heap (tup i) α) (nd:(more.map (·.1)).Nodup)
  (h:∀h' tk,h'.DictOf knd s.heap.objs.size more->(∀b o,s.heap.get? b=aY o->h'.get? b=aY o)->Q @aN {s with heap:=h',toks:=tk}):
  lT @a2 A (call (!aj "dict") [.ref l]) Q E s:=by
 refine am1 (Q₁:=λobj Z=>obj= .ref s.heap.objs.size/\Z={s with heap:=s.heap.push {cls:= .type "dict",data:= .dict #[]}}) F.kt_called_dict (F.kt_typeCall_dict_1 _) F.entry_dict_init (kt_code_dict_new _ @cd) ?_;rintro obj Z ⟨rfl,rfl⟩;have G:(s.heap.push {cls:= .type "dict",data:= .dict #[]}).DictOf knd s.heap.objs.size []:=al6 s.heap;have β:(s.heap.push {cls:= .type "dict",data:= .dict #[]}).get? l=aY {cls:= .type "list",data:= .seq its c}:=gn _ hl;refine⟨G.typeIs,F.args_dict_init_2 _ _,?_⟩;unfold Builtin.«dict.__init__»;refine gz ?_;unfold Builtin.Dict.selfAndRest;refine gz (wpAny_notOrdered_dict G.typeIs ?_);show lT _ _ (pure (s.heap.objs.size,[vu l])) _ _ _;refine oD ?_;show lT _ _ (af5 "dict.__init__" s.heap.objs.size @aC [] .none) _ _ _;unfold af5;refine gz (ag9 (T:="list") ⟨_,β,rfl⟩ ?_);rw[lx @D];refine gz (E6 β F.list_keys_none @D ο λh' tk hk=>?_);rw[lx (show(gg:V').isNone=true from rfl)];have hl2:=hk _ _ β;have ε:l < s.heap.objs.size:=hK hl;have L:h'.DictOf knd s.heap.objs.size []:=yj G λo e=>hk _ _ e;have Y:s.heap.objs.size < h'.objs.size:=by obtain⟨o,_,_,ho,_⟩:=L;exact hK ho
 have δ:∀i,i < its.size->tup i < s.heap.objs.size:=λi hi=>by
  obtain⟨α,θ⟩:∃α,more[i]? =aY α:=⟨_,eH @A⟩;obtain⟨_,_,_,e,_⟩:=ξ i α θ;exact hK e
 refine gz (at4 ?_);refine gz (Za (items:=its) ⟨_,hl2,rfl,c,rfl⟩ ?_);have W:=an6 (prog:=prog) (w:=w) (A:=A.in1.in1) ο h'.objs.size l (y1 (af8 ε Y)) its;refine oD ⟨aa6 F.plain_dict_update_loop _,rR (knd:=knd) (A:=A.in1) W s.heap.objs.size ?_ more hn hsz tup (λi hi=>⟨?_,?_⟩) (λi v _ e=>ν i v e) _ 0 _ _ _ rfl (Xy _) ⟨⟨_,kh _ rfl,rfl,rfl⟩,?_⟩ ?_ (λi α hi=>?_) fun π η ζ ι=>?_⟩
 ·intro hm;rcases x8.mp hm with e | hm
  ·exact hE e (y1 Y)
  ·exact hE (eR.mp hm).symm (y1 ε)
 ·intro hm;exact hE (eR.mp hm) (y1 (af8 (δ i hi) Y))
 ·exact y1 (δ i hi)
 ·exact⟨_,gn _ hl2,rfl,c,rfl⟩
 ·exact L.push _
 ·obtain⟨γ,ob,m,e,x⟩:=ξ i α hi;exact⟨γ,ob,m,gn _ (hk _ _ (gn _ e)),x⟩
 ·rw[merged_nil_of_nodup more nd] at ζ;refine⟨rfl,h π η ζ λb o e=>ι b o (λhm=>?_) ?_ (gn _ (hk _ _ (gn _ e)))⟩
  ·exact hE (eR.mp hm) (y1 (af8 @aM Y))
  ·exact y1 @aM
end
end PySem
namespace L2
open PySem PySem.Spec PyProof.Rows
noncomputable def P1:eP V->Hp->VK->Prop:=λxs H Q=>∃(l:ee) (ps:eP (ee×Key×V)),xs=[.ref l]/\H l=aY @d3/\(∀q∈ps,H q.1=aY (!H [kV q.2.1,q.2.2]))/\(ps.map λq=>q.2.1).Nodup/\
 ∀d,H d=gg->Q @b5 (!V d (.dK (ps.map (·.2))))
section
variable {X:Cx}
theorem Ai (hc:@aQ):oJ X (!aj "dict") P1:=by
 intro pins s σ H xs us Q I r h;obtain⟨l,ps,rfl,hl,ht,nd,q⟩:=h;obtain⟨u,rfl,ν⟩:=wA r;cases ν;obtain⟨z,its,c,Z,δ,el⟩:=I.lstM hl;rw[a'] at z δ
 have get:∀(i:Nat) q,ps[i]? =aY q->its[i]? =aY (!j q.1)/\∃γ v o n,s.heap.get? q.1=aY o/\o.cls= .type "tuple"/\o.data= .seq #[γ,v] n/\(dN X.prog X.w).is q.2.1 γ=true/\RelV q.2.2 v:=λi q G=>by
  obtain⟨u,υ,ξ⟩:=Vals.get (x:=V.ref q.1) Z (by rw[hB,G];rfl);cases ξ;refine⟨υ,?_⟩;have e:=ht q (eO G);obtain⟨_,us,rt,τ⟩:=I.hok _ _ e;obtain⟨a,b,rfl,β,θ⟩:=Vals.two rt;obtain⟨o,ho,ι,n,η⟩:=τ;exact⟨a,b,o,n,ho,ι,η,IA β,θ⟩
 obtain⟨vs,L⟩:∃vs:eP (Key×i'),vs=(qB ps.length).map λi=>match ps[i]? with
  | some q=>(q.2.1,match s.heap.get? q.1 with | some o=>(match o.data with | .seq xs _=>xs.getD 1 .none | _=> .none) | none=> .none)
  | none=>(.inl 0,.none):=⟨_,rfl⟩
 have ζ:∀(i:Nat) q,ps[i]? =aY q->∃γ v o n,vs[i]? =aY (q.2.1,v)/\s.heap.get? q.1=aY o/\o.cls= .type "tuple"/\o.data= .seq #[γ,v] n/\(dN X.prog X.w).is q.2.1 γ=true/\RelV q.2.2 v:=λi q G=>by
  obtain⟨_,γ,v,o,n,e,α,Y,k,Z⟩:=get i q G;have hi:=(!K G).1;refine⟨γ,v,o,n,?_,e,α,Y,k,Z⟩;rw[L,hB,Xf hi];show aY (match ps[i]? with | some q=>_ | none=>_)=_;rw[G];show aY (q.2.1,match s.heap.get? q.1 with | some o=>_ | none=>_)=_;rw[e];show aY (q.2.1,match o.data with | .seq xs _=>_ | _=>_)=_;rw[Y];rfl
 have ο:vs.length=ps.length:=by rw[L,a',W1]
 clear L
 have keys:vs.map (·.1)=ps.map λq=>q.2.1:=by
  apply Z7;intro i;rw[hB,hB];cases G:ps[i]? with
  | none=>rw[Xh (by rw[ο];exact List.getElem?_eq_none_iff.mp G)];rfl
  | some q=>obtain⟨_,v,_,_,e,_⟩:=ζ i q G;rw[e];rfl
 have ρ:KV (ps.map (·.2)) vs:=by
  refine sj (by rw[a',ο]) λi a b ha hb=>?_;rw[hB] at ha;obtain⟨q,G,rfl⟩:=Yf.mp ha;obtain⟨_,v,_,_,e,_,_,_,_,Z⟩:=ζ i q G;rw[e] at hb;cases hb;exact⟨rfl,Z⟩
 refine yv (knd:=dN X.prog X.w) (its:=its.toArray) (c:=c) (more:=vs) (tup:=λi=>match ps[i]? with | some q=>q.1 | none=>0) (!aF hc) el (by rw[ο,δ];simp) (by simpa using(δ ▸ z)) (λi v e=>?_) (λi π e=>?_) (by rw[keys];exact nd) λh' tk hd hk=>?_
 ·have hi:i < ps.length:=by rw[δ];have:=(Y1.mp e).1;simpa using this
  obtain⟨ε,G⟩:∃ε,ps[i]? =aY ε:=⟨_,eH hi⟩;have α:=(get i ε G).1;have e:its[i]? =aY v:=by simpa using e
  rw[α] at e;cases e;rw[G]
 ·have hi:i < ps.length:=by rw[<-ο];exact(!K e).1
  obtain⟨ε,G⟩:∃ε,ps[i]? =aY ε:=⟨_,eH hi⟩;obtain⟨γ,v,o,n,ψ,α,Y,φ,χ,_⟩:=ζ i ε G;rw[ψ] at e;cases e;rw[G];exact⟨γ,o,n,α,Y,φ,χ⟩
 ·refine⟨@aN,_,I.laid (t':=tk) hk @U (show iu X.prog X.w _ h' _ (.dK (ps.map (·.2))) from⟨by rw[a'];exact z,W2.mpr λe=>hE e.symm (y1 I.big),vs,ρ,hd⟩),rfl,q _ @bW⟩
end
section
variable {H:Hp} {Q:VK}
theorem Kl {l:ee} {ps:eP (ee×Key×V)} (e:H l=aY @d3) (ht:∀q∈ps,H q.1=aY (!H [kV q.2.1,q.2.2])) (nd:(ps.map λq=>q.2.1).Nodup) (h:∀d H2,H d=gg->Same H H2->H2 d=aY (.dK (ps.map (·.2)))->Q @b5 H2):P1 [.ref l] H Q:=⟨l,ps,rfl,e,ht,nd,jH h⟩
end
end L2
namespace PySem
end PySem
namespace L2
open PySem PySem.Spec PyProof.Rows
noncomputable def del (H:Hp) (p:ee):Hp:=λb=>if b=p then gg else H b
inductive PH (X:Cx) (Wo:XW):eP ExceptHandler->(Ends->XW)->Prop where
 | nil:PH X Wo [] (λ_=>Wo)
 | cons {G:ee} {g n:kv} {i:Nat} {gp hp:Pos} {b₀:YY} {suite:eP YY} {ts:TS} {hs:eP ExceptHandler} {WR:Ends->XW} (cg:SR X.K G) (hg:Gl X g) (hm:X.mg g=aY (!j G)) (hi:X.N[i]? =aY n) (hk:X.env.scope.names.lookup n=aY .local)
   (hs':∀pins e,PSs (X.mark pins e) (b₀::suite) ts) (hdb:(g == ("__debug__":kv))=false) (r:PH X Wo hs WR):PH X Wo (.ExceptHandler (aY (.Name g gp)) (aY n) (b₀::suite) hp::hs) (λD=>WTry X.K G i (WR D) ts D)
structure SW (osc:Yp) (ON N:B') (n:Nat) (fx:C') (x0:kv) (sc:Yp):Prop where
 kind:sc.kind= .function
 one:∃pre post,sc.names=pre++(x0,.cell)::post/\(∀y∈pre,y.2≠.cell)/\∀y∈post,y.2≠.cell
 its:sc.names.lookup x0=aY .cell
 own:∀y∈sc.names,y.2= .local->sc.names.lookup y.1=aY .local
 fre:∀y∈sc.names,y.2= .free->osc.names.lookup y.1=aY .cell∨osc.names.lookup y.1=aY .free
 len:N.length=n + fx.length
 frn:∀k,k < fx.length->∃x j,N[n + k]? =aY x/\fx[k]? =aY j/\ON[j]? =aY x/\sc.names.lookup x=aY .free
noncomputable def Uh:eP V->Hp->VK->Prop:=λxs H Q=>∃i j,xs=[.int i,.int j]/\CDiv i j/\∀p,H p=gg->Q @P (!V p (!H [.int (i / j),.int (i % j)]))
theorem Ja {X:Cx}:oJ X (!ai "divmod") Uh:=FL
theorem T5 {i j:Int} {H:Hp} {Q:VK} (h1:0 < j) (h2:j < 1073741824) (h:∀p H2,H p=gg->Same H H2->H2 p=aY (!H [.int (i / j),.int (i % j)])->Q @P H2):Uh [.int i,.int j] H Q:=⟨i,j,rfl,⟨h1,h2⟩,λp G=>h p _ G (bo G) aw⟩
theorem jZ {l b:ee} {xs zs:eP V} {H:Hp} {Q:VK} (e:@bK) (G:H b=aY (!A zs)) (hl:@cV) (n:l≠b) (h:∀H2,Upd H H2 l (!A (xs++zs))->Q .non H2):ER @aC [.ref b] H Q:=by
 first
 | exact⟨l,b,xs,zs,rfl,rfl,e,G,hl,h _ Upd.of⟩
 | exact⟨l,b,xs,zs,rfl,rfl,e,G,hl,n,h _ Upd.of⟩
noncomputable def iSeq (K:b') (tl:TE):TI:=fun σ H R=>tl σ H λx H1=>∃a,x= .ref a/\(((∃xs,SqL K H1 a xs)/\R (Itl K a) H1)∨((∃xs,SqT K H1 a xs)/\R (Itt K a) H1))
theorem RH {X:Cx} {K:b'} {tg l:W5} {tl:TE} (h:X.K=K) (hl:!F l tl):PI X tg l (iSeq K tl):=by
 subst h;intro pins s σ H R I h;refine thn (hl pins s σ H _ I h) λv G ⟨x,H1,I1,α,Y⟩=>?_;obtain⟨a,e,Y⟩:=Y;subst e;rcases Y with ⟨L,q⟩ | ⟨L,q⟩
 ·cases α;obtain⟨xs,L⟩:=L;obtain⟨its,Z,p,hz⟩:=I1.list L;refine Za p.isList ?_;refine⟨G.heap.objs.size,[G.heap.objs.size],_,_,H1,rfl,I1.kept (t':=G.toks) λb o e=>gn _ e,BS a _,⟨_,kh _ rfl,rfl,rfl⟩,λb hb=>?_,q⟩;have e:b=G.heap.objs.size:=by simpa using hb
  subst e;exact !bl @U @U
 ·cases α;obtain⟨xs,L⟩:=L;obtain⟨its,Z,p,hz⟩:=I1.tuple L;refine Z5 (show G.heap.IsTuple a its.toArray from p) ?_;refine⟨G.heap.objs.size,[G.heap.objs.size],_,_,H1,rfl,I1.kept (t':=G.toks) λb o e=>gn _ e,zJ a _,⟨_,kh _ rfl,rfl,rfl⟩,λb hb=>?_,q⟩;have e:b=G.heap.objs.size:=by simpa using hb
  subst e;exact !bl @U @U
theorem TY {K:b'} {te:TE} {σ:St} {H:Hp} {R:It->Hp->Prop} (h:te σ H λx H1=>∃a,x= .ref a/\(((∃xs,SqL K H1 a xs)/\R (Itl K a) H1)∨((∃xs,SqT K H1 a xs)/\R (Itt K a) H1))):iSeq K te σ H R:=h
section
variable {X:Cx}
def M7 (Q:VK) (x:V) (H1:Hp):Prop:=∃n:Nat,x= .int (n:Int)/\n<=1000/\∀(D:ee) (G:Hp),H1 D=gg->Same H1 G->G D=aY (.lst ((qB n).map λk:Nat=>V.int (k:Int)))->Q @W G
noncomputable def Te (t:TE):TE:=fun σ H Q=>t σ H (M7 Q)
theorem TQ {t:TE} {σ:St} {H:Hp} {Q:VK} (h:t σ H (M7 Q)):Te t σ H Q:=h
theorem JN:∀{xs:eP V} {us:E'},xs.length=us.length->(∀(i:Nat) x u,xs[i]? =aY x->us[i]? =aY u->RelV x u)->Vals xs us
 | [],[],_,_=> .nil
 | x::xs,u::us,hl,h=> .cons (h 0 x u rfl rfl) (JN (by simpa using hl) λi y v G L=>h @H y v (by simpa using G) (by simpa using L))
 | [],_::_,hl,_=>by simp at hl
 | _::_,[],hl,_=>by simp at hl
theorem Ci {e:W5} {t:TE} {p1 p2 L ι:Pos} (hc:@aQ) (g1:Gl X "list") (g2:Gl X "range") (n1:X.mg "list"=gg) (τ:X.mg "range"=gg) (he:!F e t)
  (h1:pT [aq6 (.Name "range" p1) [e] [] p2] X.env=[(false,eval (!aG "range" p1 [e] [] p2) X.env)]:=by rfl) (h2:pT [e] X.env=[(false,eval e X.env)]:=by rfl):
  PE X (!aG "list" L [.Call (.Name "range" p1) [e] [] p2] [] ι) (Te t):=by
 intro pins s σ H Q I h;refine ai6 (mR I g1 n1 qE (wq (Q:=EP X pins σ Q) ?_ h1 rfl));rw[h1];show lT _ _ (spliced ((false,eval (!aG "range" p1 [e] [] p2) X.env)::backTo ι [])) _ _ s;refine Zv ?_;refine ai6 (mR I g2 τ boot_range (wq (thn (aa he ae h2 p2 pins s σ H (λvs H1=>match vs with | [x]=>M7 Q x H1 | _=>False) I h) λus G ⟨vs,H1,I1,α,L⟩=>?_) h2 rfl))
 match vs,α,L with
 | [x],α,L=>
 obtain⟨n,rfl,hn,q⟩:=L;cases α with
 | cons r Z=>
 cases Z;obtain⟨t',rfl⟩:=r;refine call_range_1 ?_;refine ZM ?_;refine call_list_range (n:=n) (I1.ok.hd hc) (at3 ..) (small_one @A @A @A @A) (by rw[rangeSize_one];split<;>omega) @A λh' tk β c hk φ ν=>?_;have δ:∀b o,G.heap.get? b=aY o->h'.get? b=aY o:=λb o e=>hk b o (gn _ e);have I2:Inv X pins σ H1 {G with heap:=h',toks:=tk}:=I1.kept (t':=tk) δ;obtain⟨D,η⟩:∃D,D=(G.heap.push {cls:= .type "range",data:= .fields #[.int 0 G.toks,.int (n:Int) t',.int 1 (G.toks + 1)]}).objs.size:=⟨_,rfl⟩;have Y:G.heap.objs.size<=D:=by rw[η,Z0];exact ad1 _
 have θ:H1 D=none:=I1.hok.fresh Y;have ε:G.heap.get? D=none:=YD Y
 have υ:Vals ((qB n).map λk:Nat=>V.int (k:Int)) β.toList:=by
  obtain⟨γ,ξ⟩:=ν;refine JN (by rw[a',W1];simpa using γ.symm) λi x u ο π=>?_;rw[hB,Xf] at ο
  ·cases ο;obtain⟨ρ,χ⟩:=ξ i u (by simpa using π);refine⟨ρ,?_⟩;rw[χ];congr 1;omega
  ·have:=(!K π).1;simp at this;omega
 have ζ:Inv X pins σ (upd H1 D (.lst ((qB n).map λk:Nat=>V.int (k:Int)))) {G with heap:=h',toks:=tk}:=I2.track (I1.fpN ε θ) ⟨by rw[a',W1,lj];omega,β.toList,c,υ,by rw[η];exact φ⟩;refine⟨@W,_,ζ,by rw[η];rfl,q D _ θ (λb ob e=>?_) aw⟩;rw[aD (!L θ)];exact e
end
section
variable {σ:St} {H:Hp} {D:Ends} {t u:TS}
theorem TC (h:∀R:St->Hp->Prop,(∀σ H,u D σ H->R σ H)->t {D with nx:=R} σ H):tSeq t u D σ H:=h _ λ_ _ q=>q
theorem s_go {R X:St->Hp->Prop} (e:∀σ H,X σ H->R σ H) (h:X σ H):R σ H:=e _ _ h
end
end L2
set_option autoImplicit false
namespace M
theorem Se (a b:Nat):(a||| b) / 2=a / 2||| b / 2:=by
 apply iv;intro i;simp[Zr,Nat.testBit_or]
theorem OU (a b:Nat):(a&&&b) / 2=a / 2&&&b / 2:=by
 apply iv;intro i;simp[Zr,Yi]
theorem GL (a b:Nat):(a^^^b) / 2=a / 2^^^b / 2:=by
 apply iv;intro i;simp[Zr,w7]
theorem or_sum (a:Nat):∀b:Nat,a||| b=(a^^^b) + (a&&&b):=by
 induction a using as8 with
 | ind a ih=>
   intro b;by_cases ha:a=0
   ·subst ha;simp
   ·have h:=ih (a / 2) @A (b / 2);have L:=ZV (a||| b) 2;have G:=ZV (a^^^b) 2;have Y:=ZV (a&&&b) 2;rw[Se] at L;rw[GL] at G;rw[OU] at Y;have α:(a||| b) % 2=(a % 2||| b % 2):=by have:=@Nat.or_mod_two_pow a b 1;simpa using this
    have θ:(a^^^b) % 2=(a % 2^^^b % 2):=by have:=@Nat.xor_mod_two_pow a b 1;simpa using this
    have Z:(a&&&b) % 2=(a % 2&&&b % 2):=by have:=@Nat.and_mod_two_pow a b 1;simpa using this
    have c:(a % 2||| b % 2)=(a % 2^^^b % 2) + (a % 2&&&b % 2):=by
     rcases Y4 a with h1 | h1<;>rcases Y4 b with h2 | h2<;>rw[h1,h2]<;>decide
    omega
noncomputable def pb:Nat->Nat->Xb
 | 0,_=>false
 | w + 1,m=>(m.testBit w)^^(pb w m)
theorem P3 (w a b:Nat):pb w (a^^^b)=(pb w a^^pb w b):=by
 induction w with
 | zero=>rfl
 | succ w ih=>
   simp only[pb,w7,ih];cases a.testBit w<;>cases b.testBit w<;>cases pb w a<;>cases pb w b<;>rfl
theorem wg (h j m:Nat):pb (h + j) m=(pb h m^^pb j (m>>>h)):=by
 induction j with
 | zero=>simp[pb]
 | succ j ih=>
   rw[Nat.add_succ];simp only[pb,ih,Xt];cases m.testBit (h + j)<;>cases pb h m<;>cases pb j (m>>>h)<;>rfl
theorem KQ (h m:Nat):pb h (m % 2 ^ h)=pb h m:=by
 suffices ∀j,j<=h->pb j (m % 2 ^ h)=pb j m from this h (mc h)
 intro j
 induction j with
 | zero=>intro _;rfl
 | succ j ih=>
   intro G;simp only[pb];rw[ih @A,Nat.testBit_mod_two_pow];simp[show j < h by omega]
theorem RK (w j m:Nat) (hm:@bR):pb (w + j) m=pb w m:=by
 rw[wg,W7,Nat.div_eq_of_lt hm]
 have:∀j,pb j 0=false:=by intro j;induction j with
  | zero=>rfl
  | succ j ih=>simp[pb,ih]
 rw[this];simp
theorem pb_up {w θ m:Nat} (hm:@bR) (h:w<=θ):pb θ m=pb w m:=by
 obtain⟨j,rfl⟩:=aa0 h;exact RK w j m hm
theorem pb_fold (w h m:Nat) (hw:h<=w) (hm:@bR) (h2:w<=2 * h):pb h ((m>>>h)^^^(m&&&(2 ^ h - 1)))=pb w m:=by
 rw[Zb,P3,KQ];obtain⟨j,rfl⟩:=aa0 hw;rw[wg]
 have G:m>>>h < 2 ^ j:=by
  rw[W7];exact ac0 (by rw[<-ah8];exact hm)
 rw[pb_up G (show j<=h by omega)];cases pb j (m>>>h)<;>cases pb h m<;>rfl
theorem fold_lt (w h m:Nat) (hm:@bR) (h2:w<=2 * h):(m>>>h)^^^(m&&&(2 ^ h - 1)) < 2 ^ h:=by
 apply ap8
 ·rw[W7];refine ac0 ?_;rw[<-ah8];exact !a6 hm @A
 ·rw[Zb];exact mod_lt _ (px h)
noncomputable def pl (w m:Nat):C':=(qB w).filter m.testBit
theorem pl_up {w θ m:Nat} (hm:@bR) (h:w<=θ):pl θ m=pl w m:=by
 obtain⟨j,rfl⟩:=aa0 h;unfold pl;rw[List.range_add,Xp]
 have:List.filter m.testBit (Zc (λx=>w + x) (qB j))=[]:=by
  rw[Z3];intro a ha;obtain⟨k,_,rfl⟩:=hC.mp ha;rw[u7 (!a6 hm (YL w k))];simp
 rw[this,XI]
noncomputable def xm (ps:C'):Nat:=ps.foldl (λa p=>a^^^2 ^ p) 0
theorem QM (ps:C'):∀(a k:Nat),(ps.foldl (λa p=>a^^^2 ^ p) a).testBit k=(a.testBit k^^(ps.count k % 2 == 1)):=by
 induction ps with
 | nil=>intro a k;simp
 | cons p ps ih=>
   intro a k;rw[as3,ih,w7,ri,List.count_cons];by_cases h:p=k
   ·subst h;simp only[decide_true,XG,ak7];rcases Y4 (ao6 p ps) with z | z
    ·have e:(ao6 p ps + 1) % 2=1:=by omega
     rw[z,e];cases a.testBit p<;>rfl
    ·have e:(ao6 p ps + 1) % 2=0:=by omega
     rw[z,e];cases a.testBit p<;>rfl
   ·have hb:(p == k)=false:=W2.mpr h;simp[hb,h]
theorem S2 (ps:C') (k:Nat):(xm ps).testBit k=(ps.count k % 2 == 1):=by
 unfold xm;rw[QM];simp
theorem tG (w k:Nat) (p:Nat->Xb):((qB w).filter p).count k=if k < w/\p k=true then 1 else 0:=by
 have nd:((qB w).filter p).Nodup:=List.Pairwise.filter p ar1;by_cases h:k < w/\p k=true
 ·rw[lx h];have hm:k∈(qB w).filter p:=Xs.mpr ⟨W9.mpr h.1,h.2⟩;exact List.Nodup.count nd |>.trans (by rw[lx hm])
 ·rw[kf h];refine List.count_eq_zero.mpr λhm=>h ?_;obtain⟨a,b⟩:=Xs.mp hm;exact⟨W9.mp a,b⟩
theorem Ou (w m k:Nat):(pl w m).count k=if k < w/\m.testBit k=true then 1 else 0:=tG w k m.testBit
theorem xm_ext {w m:Nat} {ps:C'} (hm:@bR) (h:∀k,ps.count k % 2=(pl w m).count k % 2):xm ps=m:=by
 apply iv;intro k;rw[S2,h,Ou];by_cases hk:k < w
 ·cases e:m.testBit k<;>simp[hk,e]
 ·rw[u7 (!a6 hm (Nat.not_lt.mp hk))];simp[hk]
noncomputable def Span:C'->Nat->Prop
 | [],x=>x=0
 | r::rs,x=>Span rs x∨Span rs (x^^^r)
theorem span_zero:∀rs:C',Span rs 0
 | []=>rfl
 | _::rs=> .inl (span_zero rs)
theorem cx (x r:Nat):x^^^r^^^r=x:=by rw[Xx,Yo,Xo]
theorem iw (a b c:Nat):a^^^b^^^c=a^^^c^^^b:=by rw[Xx,ZK b c,<-Xx]
theorem gO:∀(rs:C') (r x:Nat),Span @bd x↔Span rs x∨Span rs (x^^^r)
 | [],r,x=>aq5
 | q::rs,r,x=>by
   show Span @bd x∨Span @bd (x^^^q)↔(Span rs x∨Span rs (x^^^q))∨(Span rs (x^^^r)∨Span rs (x^^^r^^^q));rw[gO rs r x,gO rs r (x^^^q),iw x q r];constructor
   ·rintro((h | h) | (h | h))
    ·exact !E (!E h)
    ·exact !I (!E h)
    ·exact !E (!I h)
    ·exact !I (!I h)
   ·rintro((h | h) | (h | h))
    ·exact !E (!E h)
    ·exact !I (!E h)
    ·exact !E (!I h)
    ·exact !I (!I h)
theorem span_xor:∀{rs:C'} {x y:Nat},Span rs x->Span rs y->Span rs @aT
 | [],x,y,h,k=>by
   have h:x=0:=h;have k:y=0:=k;subst h;subst k;exact rfl
 | r::rs,x,y,h,k=>by
   rcases h with h | h<;>rcases k with k | k
   ·exact !E (span_xor h k)
   ·refine !I ?_;have:=span_xor h k;rwa [<-Xx] at this
   ·refine !I ?_;have:=span_xor h k;rwa [iw] at this
   ·refine !E ?_;have:=span_xor h k;rwa [<-Xx,iw x r y,cx] at this
noncomputable def sm:C'->Nat->Nat
 | [],_=>0
 | r::rs,p=>(if p.testBit 0 then r else 0)^^^sm rs (p / 2)
theorem sm_zero:∀rs:C',sm rs 0=0
 | []=>rfl
 | r::rs=>by show(if (0:Nat).testBit 0 then r else 0)^^^sm rs (0 / 2)=0;rw[show(0:Nat) / 2=0 from rfl,sm_zero rs];simp
theorem xor4 (a b c d:Nat):a^^^b^^^(c^^^d)=a^^^c^^^(b^^^d):=by
 rw[Xx,<-Xx b c d,ZK b c,Xx c b d,<-Xx a c]
theorem sm_xor:∀(rs:C') (p q:Nat),sm rs (p^^^q)=sm rs p^^^sm rs q
 | [],p,q=>by show(0:Nat)=0^^^0;simp
 | r::rs,p,q=>by
   show(if (p^^^q).testBit 0 then r else 0)^^^sm rs ((p^^^q) / 2)=((if p.testBit 0 then r else 0)^^^sm rs (p / 2))^^^((if q.testBit 0 then r else 0)^^^sm rs (q / 2));rw[GL,sm_xor rs,w7,xor4];congr 1;cases p.testBit 0<;>cases q.testBit 0<;>simp
theorem iU:∀(rs:C') (r p:Nat),sm @bd p=sm rs p^^^(if p.testBit rs.length then r else 0)
 | [],r,p=>by show(if p.testBit 0 then r else 0)^^^0=0^^^_;rw[Xo,Yn];rfl
 | q::rs,r,p=>by
   show(if p.testBit 0 then q else 0)^^^sm @bd (p / 2)=((if p.testBit 0 then q else 0)^^^sm rs (p / 2))^^^_;rw[iU rs r (p / 2),Zr,Xx];rfl
theorem ke {rs:C'} {r p:Nat} (h:p < 2 ^ rs.length):sm @bd p=sm rs p:=by
 rw[iU,u7 h];simp
theorem Ke (rs:C') (r:Nat):sm @bd (2 ^ rs.length)=r:=by
 rw[iU]
 have e:sm rs (2 ^ rs.length)=0:=by
  have:∀(rs:C') (k:Nat),rs.length<=k->sm rs (2 ^ k)=0:=by
   intro rs
   induction rs with
   | nil=>intro k _;rfl
   | cons q rs ih=>
     intro k hk;have hk:rs.length + 1<=k:=hk;obtain⟨j,rfl⟩:∃j,k=j + 1:=⟨k - 1,@A⟩;show(if (@ce).testBit 0 then q else 0)^^^sm rs (2 ^ (j + 1) / 2)=0;have L:@ce / 2=2 ^ j:=by rw[ZL];omega
     have G:(@ce).testBit 0=false:=by rw[ri];simp
     rw[L,G,ih j @A];simp
  exact this rs _ @U
 rw[e,X0];simp
theorem sm_span:∀(rs:C') (p:Nat),Span rs (sm rs p)
 | [],p=>rfl
 | r::rs,p=>by
   show Span rs _∨Span rs _;have ih:=sm_span rs (p / 2);cases h:p.testBit 0 with
   | true=>refine !I ?_;rw[show sm (r::rs) p=r^^^sm rs (p / 2) from by show(if p.testBit 0 then r else 0)^^^_=_;rw[h];rfl,ZK r,cx];exact ih
   | false=>refine !E ?_;rw[show sm (r::rs) p=sm rs (p / 2) from by show(if p.testBit 0 then r else 0)^^^_=_;rw[h];simp];exact ih
theorem iT:∀{rs:C'} {x:Nat},Span rs x->∃p,p < 2 ^ rs.length/\sm rs p=x
 | [],x,h=>⟨0,Nat.one_pos,(show x=0 from h).symm⟩
 | r::rs,x,h=>by
   rcases h with h | h
   ·obtain⟨p,G,e⟩:=iT h;refine⟨2 * p,by rw[W3,ZL];omega,?_⟩;show(if (2 * p).testBit 0 then r else 0)^^^sm rs (2 * p / 2)=x;rw[show 2 * p / 2=p by omega,show(2 * p).testBit 0=false by simp[ar8],e];simp
   ·obtain⟨p,G,e⟩:=iT h;refine⟨2 * p + 1,by rw[W3,ZL];omega,?_⟩;show(if (2 * p + 1).testBit 0 then r else 0)^^^sm rs ((2 * p + 1) / 2)=x;rw[show(2 * p + 1) / 2=p by omega,show(2 * p + 1).testBit 0=true by simp[ar8],e];show r^^^(x^^^r)=x;rw[ZK,cx]
theorem Lo {x t:Nat} (h1:2 ^ t<=x) (h2:x < 2 ^ (t + 1)):x.log2=t:=by
 have G:x≠0:=by have:=px t;omega
 have a:=(ad0 G).mpr h2;have b:t<=x.log2:=(Nat.le_log2 G).mpr h1;omega
theorem qi {x:Nat} (h:x≠0):x.testBit x.log2=true:=by
 have:=Nat.testBit_log2 h;exact this
theorem xor_lt_pow {x y t:Nat} (h1:x < 2 ^ t) (h2:y < 2 ^ t):x^^^y < 2 ^ t:=ap8 h1 h2
theorem F4 {x y:Nat} (hx:x≠0) (hy:y≠0) (h:x.log2=y.log2):x^^^y < 2 ^ x.log2:=by
 have h1:x^^^y < 2 ^ (x.log2 + 1):=xor_lt_pow Yt (by rw[h];exact Yt)
 have hb:(@aT).testBit x.log2=false:=by
  rw[w7,qi hx,show y.testBit x.log2=true by rw[h];exact qi hy];rfl
 apply YN;intro i hi;rcases Nat.lt_or_eq_of_le hi with hi | hi
 ·exact u7 (!a6 h1 hi)
 ·rw[<-hi];exact hb
theorem xor_less {x y:Nat} (hx:x≠0) (hy:y≠0) (h:x.log2=y.log2):x^^^y < x:=
 gA (F4 hx hy h) (as0 hx)
theorem rJ {x y:Nat} (hy:y≠0) (h:x < 2 ^ y.log2):(@aT).log2=y.log2:=by
 have h1:x^^^y < 2 ^ (y.log2 + 1):=xor_lt_pow (!a6 h @A) Yt;have hb:(@aT).testBit y.log2=true:=by rw[w7,u7 h,qi hy];rfl
 exact Lo (Nat.ge_two_pow_of_testBit hb) h1
theorem Fi {x y:Nat} (hx:x≠0) (hy:y≠0) (h:x.log2≠y.log2):(@aT).log2=x.log2∨(@aT).log2=y.log2:=by
 rcases Nat.lt_or_gt_of_ne h with h | h
 ·exact !I (rJ hy (!a6 Yt h))
 ·refine !E ?_;rw[ZK];exact rJ hx (!a6 Yt h)
def Fre (G:C') (i:Nat):Prop:=i < G.length/\¬Span @b8 (G.getD i 0)
theorem Fre.snoc {G:C'} {i:Nat} (r:Nat) (h:Fre G i):Fre @ah i:=by
 obtain⟨hi,hn⟩:=h;refine⟨by rw[fy];omega,?_⟩;rw[Zi (Y6 hi),dt,la hi,<-dt];exact hn
theorem Fre.last {G:C'} {r:Nat} (h:¬Span G r):Fre @ah G.length:=by
 refine⟨by rw[fy];simp,?_⟩;rw[as9,dt,lB @U,aa1];exact h
def Frs (G:C') (q:Nat):Prop:=∀i,q.testBit i=true->Fre G i
theorem Frs.zero (G:C'):Frs G 0:=λi h=>by rw[WO] at h;cases h
theorem Frs.xor {G:C'} {p q:Nat} (L:Frs G p) (hq:Frs G q):Frs G (p^^^q):=λi h=>by
 rw[w7] at h;cases h1:p.testBit i with
 | true=>exact L i h1
 | false=>rw[h1] at h;exact hq i (by simpa using h)
theorem Frs.snoc {G:C'} {q:Nat} (r:Nat) (h:Frs G q):Frs @ah q:=λi hi=>(h i hi).snoc r
theorem Frs.more {G:C'} {q r:Nat} (h:Frs G q) (L:¬Span G r):Frs @ah (q^^^2 ^ G.length):=(h.snoc r).xor λi hi=>by
 rw[ri] at hi;have e:G.length=i:=by simpa using hi
 rw[<-e];exact Fre.last L
structure Ech (es:A') (rows:C'):Prop where
 nz:∀e∈es,e.1≠0
 lt:∀e∈es,e.2 < 2 ^ rows.length
 sm:∀e∈es,sm rows e.2=e.1
 nd:(@cz).Nodup
 all:∀y,Span rows y->y≠0->∃e∈es,e.1.log2=y.log2
 sub:∀e∈es,Frs rows e.2
theorem Ech.nil:Ech [] []:=⟨λ_ h=>hE h @C,λ_ h=>hE h @C,λ_ h=>hE h @C,.nil,λy h n=>hE h n,λ_ h=>hE h @C⟩
theorem Ech.span {es:A'} {G:C'} (I:Ech es G) {e:@b0} (h:e∈es):Span G e.1:=by
 rw[<-I.sm e h];exact sm_span _ _
theorem Ez {G:C'} {r p:Nat} (h:p < 2 ^ G.length):sm @ah (p^^^2 ^ G.length)=sm G p^^^r:=by
 rw[sm_xor,ke h,Ke]
theorem Fh {n p:Nat} (h:p < 2 ^ n):p^^^2 ^ n < 2 ^ (n + 1):=
 xor_lt_pow (!a6 h @A) (WS @D @A)
theorem Ech.null {es:A'} {G:C'} (I:Ech es G) {r q:Nat} (hq:@cg) (e:r^^^M.sm G q=0):Span G r/\Ech es @ah:=by
 have L:r=M.sm G q:=by
  have:=oe (·^^^M.sm G q) e;simpa[cx] using this
 have hs:Span G r:=by rw[L];exact sm_span _ _
 refine⟨hs,I.nz,λe h=>?_,λe h=>?_,I.nd,λy hy n=>?_,λe h=>(I.sub e h).snoc r⟩
 ·rw[fy];exact !a6 (I.lt e h) @C
 ·rw[ke (I.lt e h)];exact I.sm e h
 ·rcases(gO G r y).mp hy with hy | hy
  ·exact I.all y hy n
  ·have:=span_xor hy hs;rw[cx] at this;exact I.all y this n
theorem Ech.more {es:A'} {G:C'} (I:Ech es G) {r q:Nat} (hq:@cg) (e:r^^^M.sm G q≠0) (hn:∀e∈es,e.1.log2≠(@bi).log2) (hf:Frs G q):
  ¬Span G r/\Ech (es++[(r^^^M.sm G q,q^^^2 ^ G.length)]) @ah:=by
 have Y:¬Span G r:=λhs=>by
  obtain⟨x,L,ex⟩:=I.all _ (span_xor hs (sm_span G q)) e;exact hn x L ex
 refine⟨Y,λx h=>?_,λx h=>?_,λx h=>?_,?_,λy hy n=>?_,λx h=>(gs.mp h).elim (λh=>(I.sub x h).snoc r) λh=>by rw[eR] at h;subst h;exact hf.more Y⟩
 ·rcases gs.mp h with h | h
  ·exact I.nz x h
  ·rw[eR] at h;subst h;exact e
 ·rw[fy];rcases gs.mp h with h | h
  ·exact !a6 (I.lt x h) @C
  ·rw[eR] at h;subst h;exact Fh hq
 ·rcases gs.mp h with h | h
  ·rw[ke (I.lt x h)];exact I.sm x h
  ·rw[eR] at h;subst h;show M.sm _ (q^^^_)=r^^^M.sm G q;rw[Ez hq,ZK]
 ·rw[eF,WY];refine⟨I.nd,@C,λa ha b hb=>?_⟩;obtain⟨x,L,rfl⟩:=hC.mp ha;rw[Yw,eR] at hb;subst hb;exact hn x L
 ·rcases(gO G r y).mp hy with hy | hy
  ·obtain⟨x,L,ex⟩:=I.all y hy n;exact⟨x,hG _ L,ex⟩
  ·
   have hz:=span_xor hy (sm_span G q)
   have ey:y=(y^^^r^^^M.sm G q)^^^@bi:=by
    rw[xor4,Yo,Xo,cx]
   generalize α:y^^^r^^^M.sm G q=z at hz ey;by_cases Z:z=0
   ·refine⟨_,hJ _ @bY,?_⟩;show(@bi).log2=y.log2;rw[ey,Z,Yn]
   ·obtain⟨x,L,ex⟩:=I.all z hz Z;have ne:z.log2≠(@bi).log2:=by rw[<-ex];exact hn x L
    rcases Fi Z e ne with h | h
    ·exact⟨x,hG _ L,by rw[ex,ey,h]⟩
    ·refine⟨_,hJ _ @bY,?_⟩;show(@bi).log2=y.log2;rw[ey,h]
noncomputable def tt (p:Prop):Bool:=@decide p (XS p)
theorem S8 {p:Prop} (h:p):tt p=true:=@gB _ (XS _) h
theorem S9 {p:Prop} (h:¬p):tt p=false:=@f' _ (XS _) h
noncomputable def fr (G:C'):C':=(qB G.length).filter λi=> !tt (Span @b8 (G.getD i 0))
theorem Mb (G:C') (r:Nat):fr @ah=fr G++(if tt (Span G r)=true then [] else [G.length]):=by
 unfold fr;rw[fy,u9,Y7,Xp]
 have L:(qB G.length).filter (λi=> !tt (Span (!aJ (@ah)) ((@ah).getD i 0)))=(qB G.length).filter (λi=> !tt (Span @b8 (G.getD i 0))):=by
  apply aq3;intro i hi;have hi:=W9.mp hi;have a:(@ah).take i=G.take i:=Zi (Y6 hi)
  have b:(@ah).getD i 0=G.getD i 0:=by
   rw[dt,dt,la hi]
  rw[a,b]
 rw[L];congr 1;have a:(@ah).take G.length=G:=as9
 have b:(@ah).getD G.length 0=r:=by
  rw[dt,lB @U,aa1];rfl
 rw[YG,a,b];cases tt (Span G r)<;>rfl
theorem fr_len (G:C'):(fr G).length<=G.length:=by
 have:=Y3 (λi=> !tt (Span @b8 (G.getD i 0))) (qB G.length);rw[W1] at this;exact this
theorem fr_in {G:C'} {r:Nat} (h:Span G r):fr @ah=fr G:=by rw[Mb,S8 h];simp
theorem fr_out {G:C'} {r:Nat} (h:¬Span G r):fr @ah=fr G++[G.length]:=by rw[Mb,S9 h];rfl
structure Nul (nms rows:C'):Prop where
 lt:∀x∈nms,x < 2 ^ rows.length
 nz:∀x∈nms,x≠0
 sm:∀x∈nms,sm rows x=0
 pw:nms.Pairwise λa b=>a.log2 < b.log2
 len:nms.length + (fr rows).length=rows.length
theorem Nul.nil:Nul [] []:=⟨λ_ h=>hE h @C,λ_ h=>hE h @C,λ_ h=>hE h @C,.nil,rfl⟩
theorem Nul.keep {nms G:C'} (I:Nul nms G) {r:Nat} (h:¬Span G r):Nul nms @ah where
 lt:=λx L=>by rw[fy];exact !a6 (I.lt x L) @C
 nz:=I.nz
 sm:=λx L=>by rw[ke (I.lt x L)];exact I.sm x L
 pw:=I.pw
 len:=by rw[fr_out h,fy,fy,<-I.len];simp;omega
theorem xI {n q:Nat} (h:q < 2 ^ n):q^^^2 ^ n≠0/\(q^^^2 ^ n).log2=n:=by
 have e:(2 ^ n:Nat).log2=n:=Lo @U (WS @D @A);have G:(2 ^ n:Nat)≠0:=by have:=px n;omega
 have hl:=rJ (x:=q) G (by rw[e];exact h);refine⟨λz=>?_,by rw[hl,e]⟩;have hb:(q^^^2 ^ n).testBit n=true:=by rw[w7,u7 h,X0];rfl
 rw[z] at hb;simp at hb
theorem log2_under {n q:Nat} (h0:q≠0) (h:q < 2 ^ n):q.log2 < n:=(ad0 h0).mpr h
theorem Nul.snoc {nms G:C'} (I:Nul nms G) {r q:Nat} (hq:@cg) (e:r^^^M.sm G q=0) (hs:Span G r):Nul (nms++[q^^^2 ^ G.length]) @ah where
 lt:=λx hx=>by
  rw[fy];rcases gs.mp hx with hx | hx
  ·exact !a6 (I.lt x hx) @C
  ·rw[eR] at hx;subst hx;exact Fh hq
 nz:=λx hx=>by
  rcases gs.mp hx with hx | hx
  ·exact I.nz x hx
  ·rw[eR] at hx;subst hx;exact(xI hq).1
 sm:=λx hx=>by
  rcases gs.mp hx with hx | hx
  ·rw[ke (I.lt x hx)];exact I.sm x hx
  ·rw[eR] at hx;subst hx;rw[Ez hq,ZK];exact e
 pw:=by
  rw[an1];refine⟨I.pw,ak2 _ _,λa ha b hb=>?_⟩;rw[eR] at hb;subst hb;rw[(xI hq).2];exact log2_under (I.nz a ha) (I.lt a ha)
 len:=by rw[fr_in hs,fy,fy,<-I.len];simp;omega
def Inj (ws:C'):Prop:=∀p,p < 2 ^ ws.length->sm ws p=0->p=0
theorem sm_lt {t:Nat}:∀{ws:C'} (p:Nat),(∀x∈ws,x < 2 ^ t)->sm ws p < 2 ^ t
 | [],p,_=>px t
 | w::ws,p,h=>by
   refine xor_lt_pow ?_ (sm_lt _ λx G=>h x (ov _ G));split
   ·exact h w (mu ..)
   ·exact px t
theorem Inj.nil:Inj []:=λp h _=>by
 have:p < 1:=h;omega
theorem Gz:∀(n:Nat) (l:C'),l.Nodup->(∀x∈l,x < n)->l.length<=n
 | 0,l,_,h=>by
   cases l with
   | nil=>exact mc _
   | cons x r=>exact hE (h x (mu ..)) (YF _)
 | n + 1,l,nd,h=>by
   have ih:=Gz n (l.erase n) (nd.erase n) λx G=>by
    have hm:=(nd.mem_erase_iff).mp G;have:=h x hm.2;have:=hm.1;omega
   by_cases hm:n∈l
   ·rw[aj8 hm] at ih;omega
   ·rw[List.erase_of_not_mem hm] at ih;omega
theorem span_lt {t:Nat}:∀{rs:C'} {x:Nat},(∀r∈rs,r < 2 ^ t)->Span rs x->x < 2 ^ t
 | [],x,_,h=>by have h:x=0:=h;rw[h];exact px t
 | r::rs,x,b,h=>by
   have ih:=λx=>span_lt (rs:=rs) (x:=x) λy G=>b y (ov _ G);rcases h with h | h
   ·exact ih x h
   ·have:=xor_lt_pow (ih _ h) (b r (mu ..));rwa [cx] at this
structure Sums (ks rows:C'):Prop where
 nd:ks.Nodup
 all:∀x,x∈ks↔Span rows x
theorem Sums.zero:Sums [0] []:=⟨@C,λx=>by rw[eR];exact aq5⟩
theorem QK {a b r:Nat} (h:a^^^r=b^^^r):a=b:=by
 have:=oe (·^^^r) h;simpa[cx] using this
theorem Sums.step {ks G:C'} (S:Sums ks G) {r:Nat} (h:¬Span G r):Sums (ks++ks.map (·^^^r)) @ah:=by
 refine⟨?_,λx=>?_⟩
 ·rw[WY];refine⟨S.nd,?_,λa ha b hb e=>?_⟩
  ·exact aa8 _ (λa b L e=>L (QK e)) S.nd
  ·obtain⟨c,Z,rfl⟩:=hC.mp hb;subst e;have:=span_xor ((S.all _).mp ha) ((S.all _).mp Z);rw[iw,Yo,Yn] at this;exact h this
 ·rw[gs,gO,S.all,hC];constructor
  ·rintro(h | ⟨y,Y,rfl⟩)
   ·exact !E h
   ·refine !I ?_;rw[cx];exact(S.all _).mp Y
  ·rintro(h | h)
   ·exact !E h
   ·exact !I ⟨x^^^r,(S.all _).mpr h,cx x r⟩
theorem Sums.keep {ks G:C'} (S:Sums ks G) {r:Nat} (h:Span G r):Sums ks @ah:=
 ⟨S.nd,λx=>by
  rw[S.all,gO];refine⟨.inl,λq=>q.elim id λq=>?_⟩;have:=span_xor q h;rwa [cx] at this⟩
theorem Sums.few {ks G:C'} (S:Sums ks G) {t:Nat} (h:∀r∈G,r < 2 ^ t):ks.length<=2 ^ t:=Gz _ _ S.nd λx L=>span_lt h ((S.all x).mp L)
end M
namespace Sx
open PySem L2
noncomputable abbrev nat (k:Nat):V:= .int (k:Int)
theorem EL {k:Nat} {A:W6} (r:Room k A):A.units + 100 < cLine:=by have:=r.un;omega
theorem iteB {c:Xb} {A B:Prop} (h1:c=true->A) (h2:c=false->B):if c=true then A else B:=by
 cases c
 ·rw[kf hH];exact h2 rfl
 ·rw[lx rfl];exact h1 rfl
theorem AF (h:Nat):(2:Int) ^ h=((2 ^ h:Nat):Int):=by norm_cast
theorem shl1 (k:Nat):(1:Int) * 2 ^ ((k:Int).toNat)=((2 ^ k:Nat):Int):=by rw[n',Int.one_mul];norm_cast
theorem MK (a b:Nat):ar4 (a:Int) (b:Int)=((a||| b:Nat):Int):=by
 have L:X' (a:Int)= -(a:Int) - 1:=by first | rfl | (unfold X';omega)
 have G:X' (b:Int)= -(b:Int) - 1:=by first | rfl | (unfold X';omega)
 unfold ar4 Y0;rw[f' (show ¬(0:Int)<=X' (a:Int) by rw[L];omega),f' (show ¬(0:Int)<=X' (b:Int) by rw[G];omega)];have n:∀x:Int,X' (X' x)=x:=λx=>by unfold X';omega
 simp only[n,n']
theorem fw (a b:Nat):WU (a:Int) (b:Int)=((a^^^b:Nat):Int):=by
 unfold WU;rw[MK,fz];have:=M.or_sum a b;omega
theorem DN:xo ((0:Nat):Int)=0:=by decide
theorem qh {m:Nat} (h:m≠0):xo (m:Int)=m.log2 + 1:=by
 unfold xo;have e:((m:Int) == 0)=false:=by rw[W2];omega
 rw[e,kf hH,ae1]
theorem GZ (m i:Nat):Y0 ((m:Int) / 2 ^ ((0 + (i:Int)).toNat)) 1=if m.testBit i then 1 else 0:=by
 have φ:(0 + (i:Int)).toNat=i:=by omega
 rw[φ,AF];have G:(m:Int) / ((2 ^ i:Nat):Int)=((m>>>i:Nat):Int):=by rw[W7];norm_cast
 rw[G,show(1:Int)=((1:Nat):Int) from rfl,fz,Nat.and_one_is_mod]
 have:m.testBit i=(m>>>i % 2 == 1):=by
  rw[Nat.testBit_eq_decide_div_mod_eq,W7];rcases Y4 (m / 2 ^ i) with h | h<;>rw[h]<;>rfl
 rw[this];rcases Y4 (m>>>i) with h | h<;>rw[h]<;>rfl
structure En where
 a:ee
 m:Nat
 p:Nat
noncomputable def sS (es:eP En):eP (Key×V):=es.map λe=>(Xv ((e.m.log2:Nat):Int),V.ref e.a)
theorem wB:∀(es:eP En) (z:Int),(∃e∈es,((e.m.log2:Nat):Int)=z/\valV (sS es) (Xv z)=aY (!j e.a))∨((∀e∈es,((e.m.log2:Nat):Int)≠z)/\valV (sS es) (Xv z)=gg)
 | [],z=> .inr ⟨λ_ h=>hE h @C,rfl⟩
 | e::es,z=>by
   by_cases h:((e.m.log2:Nat):Int)=z
   ·exact !E ⟨e,mu ..,h,nh (by show(Xv _:Key)=_;rw[h])⟩
   ·have G:valV (sS @V) (Xv z)=valV (sS es) (Xv z):=nj (by show ¬(Xv _:Key)=_;intro q;exact h (as7 q));rcases wB es z with ⟨x,hx,Y,L⟩ | ⟨h1,h2⟩
    ·exact !E ⟨x,ov _ hx,Y,by rw[G];exact L⟩
    ·refine !I ⟨λx hx=>?_,by rw[G];exact h2⟩;rcases x8.mp hx with rfl | hx
     ·exact h
     ·exact h1 x hx
theorem Gr {kvs:@ap} {k:Key} {v:V} (h:valV kvs k=gg):putK kvs k v=kvs++[(k,v)]:=by
 unfold putK;rw[rV,h];rfl
structure StA (H:Hp) (C p d f n:ee) (rows:C'):Prop where
 ho:∃dx,H p=aY (!aE [("by_top",.ref d),("free_places",.ref f),("null_masks",.ref n)])
 he:∃es:eP En,H d=aY (.dK (sS es))/\(∀e∈es,H e.a=aY (!H [nat e.m,nat e.p]))/\M.Ech (es.map λe=>(e.m,e.p)) rows/\es.length=(M.fr rows).length
 hf:H f=aY (!a7 (M.fr rows))
 hn:∃nms,H n=aY (!A (nms.map nat))/\M.Nul nms rows
 ne:f≠n
theorem StA.same {H H2:Hp} {C p d f n:ee} {G:C'} (x:StA H C p d f n G) (s:@ao):StA H2 C p d f n G where
 ho:=let ⟨dx,h⟩:=x.ho;⟨dx,s _ _ h⟩
 he:=let ⟨es,h,t,g,l⟩:=x.he;⟨es,s _ _ h,λe he=>s _ _ (t e he),g,l⟩
 hf:=s _ _ x.hf
 hn:=let ⟨nms,h,g⟩:=x.hn;⟨nms,s _ _ h,g⟩
 ne:=x.ne
theorem StA.null {H H2:Hp} {C p d f n:ee} {G:C'} (x:StA H C p d f n G) {r q:Nat} (hq:@cg) (e:r^^^M.sm G q=0) {nms:C'} (hn:M.Nul nms G) (hl:H n=aY (!A (nms.map nat)))
  (u:Upd H H2 n (!A (nms.map nat++[nat (q^^^2 ^ G.length)]))):StA H2 C p d f n @ah:=by
 obtain⟨dx,ho⟩:=x.ho;obtain⟨es,hd,ht,g,l⟩:=x.he;obtain⟨hs,g2⟩:=g.null hq e;refine⟨⟨dx,u.oth _ _ (cy ho hl @C) ho⟩,⟨es,u.oth _ _ (cy hd hl @C) hd,λe he=>u.oth _ _ (cy (ht e he) hl @C) (ht e he),g2,by rw[M.fr_in hs];exact l⟩,?_,⟨nms++[q^^^2 ^ G.length],?_,hn.snoc hq e hs⟩,x.ne⟩
 ·rw[M.fr_in hs];exact u.oth _ _ x.ne x.hf
 ·rw[eF];exact u.at'
theorem StA.more {H H2 δ γ:Hp} {C p d f n t:ee} {G:C'} (x:StA H C p d f n G) {r q:Nat} (hq:@cg) (e:r^^^M.sm G q≠0) (hn:∀y,M.Span G y->y≠0->y.log2≠(@bi).log2) (hf:M.Frs G q)
  (u:Upd H H2 f (!A ((M.fr G).map nat++[nat G.length]))) (s:Same H2 δ) (ht:δ t=aY (!H [nat @bi,nat (q^^^2 ^ G.length)])) {es:eP En} (hd:H d=aY (.dK (sS es))) (Y:∀e∈es,H e.a=aY (!H [nat e.m,nat e.p])) (g:M.Ech (es.map λe=>(e.m,e.p)) G) (l:es.length=(M.fr G).length)
  (β:Upd δ γ d (.dK (putK (sS es) (Xv (((@bi).log2:Nat):Int)) @ab))):StA γ C p d f n @ah:=by
 obtain⟨dx,ho⟩:=x.ho;obtain⟨nms,Z,π⟩:=x.hn;have α:∀e∈es.map (λe=>(e.m,e.p)),e.1.log2≠(@bi).log2:=λe he=>hn e.1 (g.span he) (g.nz e he);obtain⟨hs,g2⟩:=g.more hq e α hf;have L:=s _ _ (u.oth _ _ (cy hd x.hf @C) hd)
 have ε:valV (sS es) (Xv (((@bi).log2:Nat):Int))=none:=by
  rcases wB es (((@bi).log2:Nat):Int) with ⟨z,hz,ζ,_⟩ | ⟨_,h⟩
  ·exact hE (Int.ofNat_inj.mp ζ) (α (z.m,z.p) (!an ⟨z,hz,rfl⟩))
  ·exact h
 have go:∀(b:ee) (ob:HO),H b=aY ob->b≠f->b≠d->γ b=aY ob:=λb ob h h1 h2=>β.oth _ _ h2 (s _ _ (u.oth _ _ h1 h));refine⟨⟨dx,go _ _ ho (cy ho x.hf @C) (cy ho hd @C)⟩,⟨es++[⟨t,r^^^M.sm G q,q^^^2 ^ G.length⟩],?_,λe he=>?_,?_,?_⟩,?_,⟨nms,go _ _ Z (wh x.ne) (cy Z hd @C),π.keep hs⟩,x.ne⟩
 ·rw[β.at',Gr ε];unfold sS;rw[eF];rfl
 ·rcases gs.mp he with he | he
  ·exact go _ _ (Y e he) (cy (Y e he) x.hf @C) (cy (Y e he) hd @C)
  ·rw[eR] at he;subst he;exact β.oth _ _ (cy ht L @C) ht
 ·rw[eF];exact g2
 ·rw[M.fr_out hs,fy,fy,l];rfl
 ·rw[M.fr_out hs,eF];exact β.oth _ _ (λz=>by rw[z] at x;have:=x.hf;rw[hd] at this;cases this) (s _ _ u.at')
def Tp (C:ee):Sp:=λvs H Q _=>∃p d f n G x,vs=[.ref p,nat x]/\StA H C p d f n G/\
 ∀t H2 q,H t=gg->Same H H2->H2 t=aY (!H [nat (x^^^M.sm G q),nat q])->q < 2 ^ G.length->(x^^^M.sm G q≠0->∀y,M.Span G y->y≠0->y.log2≠(x^^^M.sm G q).log2)->M.Frs G q->Q @ab H2
def Tq (C:ee):Sp:=λvs H Q _=>∃p d f n G r,vs=[.ref p,nat G.length,nat r]/\StA H C p d f n G/\G.length<=1000/\
 ∀H2,(∀b o,b≠d->b≠f->b≠n->H b=aY o->H2 b=aY o)->StA H2 C p d f n @ah->Q .non H2
def QV (C:ee):Sp:=λvs H Q _=>∃x dx r G,vs=[.ref x,.ref r]/\H r=aY (!A (G.map nat))/\G.length<=1000/\H x=aY @b1/\
 ∀H2 d f n,(∀b o,b≠x->H b=aY o->H2 b=aY o)->StA H2 C x d f n G->Q .non H2
def Rf:Sp:=λvs H Q _=>∃r G,vs=[.ref r]/\H r=aY (!A (G.map nat))/\G.length<=1000/\∀D H2,H D=gg->Same H H2->H2 D=aY (!a7 (M.fr G))->Q @W H2
theorem az {α:Type} {f:α->V} {ws:eP α} {i:Nat} {x:V} (h:(ws.map f)[i]? =aY x):∃k,ws[i]? =aY k/\x=f k:=by
 rw[hB] at h;cases e:ws[i]? with
 | none=>rw[e] at h;cases h
 | some k=>rw[e] at h;exact⟨k,rfl,(qA h).symm⟩
theorem take_succ {α:Type} {ws:eP α} {i:Nat} {w:α} (h:ws[i]? =aY w):ws.take @H=ws.take i++[w]:=by rw[ab6,h];rfl
theorem Gb {α:Type} {ws:eP α} {i:Nat} {w:α} (h:ws[i]? =aY w):(ws.take i).length=i:=by
 rw[qF];have:=(!K h).1;omega
theorem yf (ns:C'):(ns.map nat).all pD=true:=by simp[pD]
theorem Kk {K:b'} {H:Hp} {Q:VK} {neg:Xb} {p q:ee} {ns:C'} (e:SqL K H p (ns.map nat)) (G:SqL K H q (ns.map nat)) (h:Q (.bl (!neg)) H):rEqL K neg @P (!j q) H Q:=by
 refine⟨p,q,_,_,rfl,rfl,e,G,yf ns,yf ns,?_⟩;rw[Mg (yf ns)];cases neg<;>exact h
theorem GJ {A:W6} {k:Nat} (G:Room k A):A.units < cLine:=by have:=G.un;omega
def PL:Sp:=λvs H Q _=>∃c k,vs=[.int c,.int k]/\0<=k/\k < 100000/\∀r:Nat,r < 2147483587->Q (nat r) H
def Gf (K:b'):Sp:=λvs H Q _=>∃(a:ee) (ns:P'),vs=[.ref a]/\SqL K H a @as/\ns.length<=63/\∀H',Q (.bl true) H'
theorem MF {H:Hp} {Q:VK} {E:XK} {c k:Int} (h0:0<=k) (h1:k < 100000) (q:∀r:Nat,r < 2147483587->Q (nat r) H):PL [.int c,.int k] H Q E:=⟨c,k,rfl,h0,h1,q⟩
structure Prs (H:Hp) (ws:C') (D:ee) (ps:eP (ee×Nat)):Prop where
 l:H D=aY @d3
 t:∀q∈ps,H q.1=aY (!H [nat q.2,nat (M.sm ws q.2)])
 b:∀q∈ps,q.2 < 2 ^ ws.length
end Sx
namespace M
theorem pQ:∀(l:C') (j:Nat),sm l @aW=l.getD j 0
 | [],j=>by simp[sm]
 | r::l,0=>by
   show(if (2 ^ 0).testBit 0 then r else 0)^^^sm l (2 ^ 0 / 2)=r;rw[show(2 ^ 0:Nat) / 2=0 from rfl,sm_zero];simp
 | r::l,j + 1=>by
   show(if (@ce).testBit 0 then r else 0)^^^sm l (2 ^ (j + 1) / 2)=l.getD j 0;have L:@ce / 2=2 ^ j:=by rw[ZL];omega
   have G:(@ce).testBit 0=false:=by rw[ri];simp
   rw[L,G,pQ l j];simp
theorem nu {P:C'->Prop} (h0:P []) (hs:∀l w,P l->P (l++[w])):∀l,P l:=by
 intro l;rw[<-an0 l];generalize l.reverse=k
 induction k with
 | nil=>exact h0
 | cons a k ih=>rw[Zz];exact hs _ _ ih
theorem pl_next (i m:Nat):pl @H m=pl i m++(if m.testBit i then [i] else []):=by
 unfold pl;rw[Y7,Xp];congr 1;by_cases h:m.testBit i=true
 ·rw[lx h];simp[h]
 ·rw[kf h];simp[h]
theorem pl_le (i m:Nat):(pl i m).length<=i:=by
 have:=Y3 m.testBit (qB i);rw[W1] at this;exact this
theorem pl_lt {w m n:Nat} (h:m < 2 ^ n):∀x∈pl w m,x < n:=by
 intro x G;have hb:=(Xs.mp G).2;refine Nat.lt_of_not_le λhn=>?_;rw[u7 (!a6 h hn)] at hb;cases hb
noncomputable def xs (G ps:C'):Nat:=ps.foldl (λa k=>a^^^G.getD k 0) 0
end M
namespace Sx
open PySem L2
theorem RU (l:C'):l.map nat=(l.map λ(k:Nat)=>(k:Int)).map V.int:=by rw[tu];rfl
theorem FM (m:Nat):m < 2 ^ xo (m:Int):=by
 by_cases h:m=0
 ·subst h;decide
 ·rw[qh h];exact Yt
theorem FO {m w:Nat} (hm:@bR):xo (m:Int)<=w:=by
 by_cases h:m=0
 ·subst h;rw[DN];exact Xy _
 ·rw[qh h];exact(ad0 h).mpr hm
def Ra:Sp:=λvs H Q _=>∃m:Nat,vs=[nat m]/\m < 2 ^ 1000/\∀D H2,H D=gg->Same H H2->H2 D=aY (!a7 (!aR m))->Q @W H2
end Sx
namespace M
noncomputable abbrev od (m:Nat):Bool:=pb 1000 m
theorem od_xor (a b:Nat):od (a^^^b)=(od a^^od b):=P3 1000 a b
theorem and_xor (m a b:Nat):m&&&(a^^^b)=(m&&&a)^^^(m&&&b):=by
 apply iv;intro i;simp only[Yi,w7];cases m.testBit i<;>simp
theorem tQ (m a b:Nat):(a^^^b)&&&m=(a&&&m)^^^(b&&&m):=by
 apply iv;intro i;simp only[Yi,w7];cases m.testBit i<;>simp
theorem AG:∀w:Nat,pb w 0=false
 | 0=>rfl
 | w + 1=>by show((0:Nat).testBit w^^pb w 0)=false;rw[AG w];simp
theorem pb_pow {w t:Nat} (h:t < w):pb w (2 ^ t)=true:=by
 rw[pb_up (w:=t + 1) (WS @D @A) h];show((2 ^ t).testBit t^^pb t (2 ^ t))=true
 have e:pb t (2 ^ t)=false:=by
  rw[<-KQ,Nat.mod_self,AG]
 rw[e,X0];rfl
theorem RG (t y:Nat):2 ^ t&&&y=if y.testBit t then 2 ^ t else 0:=by
 apply iv;intro i;rw[Yi,ri];by_cases h:t=i
 ·subst h;cases y.testBit t<;>simp
 ·cases y.testBit t<;>simp[h,ri]
theorem od_pow {t:Nat} (h:t < 1000) (y:Nat):od (2 ^ t&&&y)=y.testBit t:=by
 rw[RG];cases y.testBit t with
 | true=>rw[lx rfl];exact pb_pow h
 | false=>rw[kf hH];exact AG 1000
theorem od_zero:od 0=false:=AG 1000
theorem P8 {y k:Nat} (h:y < 2 ^ k):y.testBit k=false:=u7 h
theorem JQ {y t k:Nat} (h:y≠0) (e:y.log2=t) (l:t < k):y < 2 ^ k:=gA (by rw[<-e];exact Yt) (hL @D l)
structure Bar (rows:C') (b m:Nat):Prop where
 ev:∀y,Span rows y->od (m&&&y)=false
 bit:m.testBit b=true
 low:∀k,k < b->m.testBit k=false
 oth:∀k,k≠b->(∀y,Span rows y->y≠0->y.log2≠k)->m.testBit k=false
 lt:∀W,(∀r∈rows,r < 2 ^ W)->b < W->m < 2 ^ W
structure BarI (es:A') (ts:C') (b m:Nat):Prop where
 ev:∀e∈es,e.1.log2∈ts->od (m&&&e.1)=false
 bit:m.testBit b=true
 low:∀k,k < b->m.testBit k=false
 oth:∀k,k≠b->(∀e∈es,e.1.log2≠k)->m.testBit k=false
 lt:∀W,(∀e∈es,e.1 < 2 ^ W)->b < W->m < 2 ^ W
theorem BarI.zero (es:A') (b:Nat):BarI es [] b (2 ^ b) where
 ev:=λ_ _ h=>hE h @C
 bit:=X0
 low:=λk h=>by rw[ri];simp;omega
 oth:=λk h _=>by rw[ri];simp;omega
 lt:=λW _ h=>WS @D h
theorem OI {m y b:Nat} (h:∀k,k < b->m.testBit k=false) (hy:y < 2 ^ b):m&&&y=0:=by
 apply iv;intro i;rw[Yi,WO];by_cases hi:i < b
 ·rw[h i hi];rfl
 ·rw[u7 (!a6 hy @A)];simp
theorem F7 {es:A'} (nd:(@cz).Nodup) {e f:@b0} (he:e∈es) (hf:f∈es) (h:e.1.log2=f.1.log2):e=f:=by
 obtain⟨i,hi,rfl⟩:=WW.mp he;obtain⟨j,G,rfl⟩:=WW.mp hf
 have γ:∀i j (hi:i < es.length) (G:j < es.length),i < j->es[i].1.log2≠es[j].1.log2:=λi j hi G L=>by
  have:=ai4.mp nd i j (by rw[a'];exact hi) (by rw[a'];exact G) L;rw[ac8,ac8] at this;exact this
 rcases af4 i j with h1 | h1 | h1
 ·exact hE h (γ i j hi G h1)
 ·subst h1;rfl
 ·exact hE h.symm (γ j i G hi h1)
theorem BarI.keep {es:A'} {ts:C'} {b m:Nat} (I:BarI es ts b m) {e:@b0} (nd:(@cz).Nodup) (he:e∈es) (h:od (m&&&e.1)=false):BarI es (ts++[e.1.log2]) b m where
 ev:=λf hf hm=>by
  rcases gs.mp hm with hm | hm
  ·exact I.ev f hf hm
  ·rw[eR] at hm;rw[F7 nd hf he hm];exact h
 bit:=I.bit
 low:=I.low
 oth:=I.oth
 lt:=I.lt
theorem BarI.flip {es:A'} {ts:C'} {b m:Nat} (I:BarI es ts b m) {e:@b0} (nd:(@cz).Nodup) (nz:∀e∈es,e.1≠0) (he:e∈es) (h:od (m&&&e.1)=true) (up:∀t∈ts,t < e.1.log2) (hb:e.1.log2≠b) (ξ:e.1.log2 < 1000):BarI es (ts++[e.1.log2]) b (m^^^2 ^ e.1.log2):=by
 have Y:b < e.1.log2:=by
  refine Nat.lt_of_le_of_ne (ag4 λG=>?_) (wh hb);rw[OI I.low (JQ (nz e he) rfl G),od_zero] at h;cases h
 have φ:=nz e he;refine⟨λf hf hm=>?_,?_,λk hk=>?_,λk hk hn=>?_,λW L ζ=>?_⟩
 ·rw[tQ,od_xor,od_pow ξ];rcases gs.mp hm with hm | hm
  ·rw[I.ev f hf hm,P8 (JQ (nz f hf) rfl (up _ hm))];rfl
  ·rw[eR] at hm;rw[F7 nd hf he hm,h,qi φ];rfl
 ·rw[w7,I.bit,ri];simp;omega
 ·rw[w7,I.low k hk,ri];simp;omega
 ·rw[w7,I.oth k hk hn,ri];have:=hn e he;simp;omega
 ·exact xor_lt_pow (I.lt W L ζ) (Xe (as0 φ) (L e he))
theorem Ech.even_all {es:A'} {G:C'} (g:Ech es G) {m:Nat} (h:∀e∈es,od (m&&&e.1)=false):∀y,Span G y->od (m&&&y)=false:=by
 intro y
 induction y using as8 with
 | ind y ih=>
   intro Y;by_cases L:y=0
   ·subst L;rw[Yh,od_zero]
   ·obtain⟨e,he,el⟩:=g.all y Y L;have φ:=g.nz e he;have hl:=xor_less L φ el.symm;have h1:=ih _ hl (span_xor Y (g.span he));have h2:=h e he;have Z:od (m&&&(y^^^e.1))=(od (m&&&y)^^od (m&&&e.1)):=by rw[and_xor,od_xor]
    rw[h1,h2] at Z;simpa using Z.symm
theorem BarI.done {es:A'} {G:C'} (g:Ech es G) {ts:C'} {b m:Nat} (I:BarI es ts b m) (all:∀e∈es,e.1.log2∈ts):Bar G b m where
 ev:=g.even_all λe he=>I.ev e he (all e he)
 bit:=I.bit
 low:=I.low
 oth:=λk hk h=>I.oth k hk λe he=>h e.1 (g.span he) (g.nz e he)
 lt:=λW L hb=>I.lt W (λe he=>span_lt L (g.span he)) hb
theorem Bar.odd {G:C'} {b m x q:Nat} (B:Bar G b m) (h0:x^^^sm G q≠0) (hb:(x^^^sm G q).log2=b) (ξ:b < 1000):od (m&&&x)=true:=by
 have Y:m&&&x=(m&&&(x^^^sm G q))^^^(m&&&sm G q):=by rw[<-and_xor,cx]
 rw[Y,od_xor,B.ev _ (sm_span G q)]
 have L:m&&&(x^^^sm G q)=2 ^ b:=by
  apply iv;intro i;rw[Yi,ri];rcases af4 i b with h | h | h
  ·rw[B.low i h];simp;omega
  ·subst h;rw[B.bit,<-hb,qi h0];simp
  ·rw[P8 (JQ h0 hb h)];simp;omega
 rw[L];show(pb 1000 (2 ^ b)^^false)=true;rw[pb_pow ξ];rfl
theorem G9:∀G:C',∃ks,Sums ks G/\ks.length=2 ^ (fr G).length:=by
 refine nu ⟨[0],Sums.zero,rfl⟩ λG r ih=>?_;obtain⟨ks,S,e⟩:=ih;by_cases h:Span G r
 ·exact⟨ks,S.keep h,by rw[fr_in h];exact e⟩
 ·refine⟨_,S.step h,?_⟩;rw[fr_out h,fy,fy,a',e,u9,ZL];omega
theorem Ku {G:C'} {t:Nat} (h:∀r∈G,r < 2 ^ t):(fr G).length<=t:=by
 obtain⟨ks,S,e⟩:=G9 G;have:=S.few h;rw[e] at this;exact(Nat.pow_le_pow_iff_right @D).mp this
theorem RL (w m:Nat):pb (w + 1) m=(m.testBit 0^^pb w (m / 2)):=by
 rw[af9,wg 1 w m,W7];congr 1;show(m.testBit 0^^false)=_;simp
theorem sum_uniq {G:C'} {p q:Nat} (ε:Frs G p) (hq:Frs G q) (e:sm G p=sm G q):p=q:=by
 refine Classical.byContradiction fun ν=>?_;have hf:=ε.xor hq;have hz:sm G (p^^^q)=0:=by rw[sm_xor,e,Yo]
 have γ:p^^^q≠0:=λz=>ν (by have:=oe (·^^^q) z;simpa[cx] using this);generalize p^^^q=z at hf hz γ;obtain⟨hi,hn⟩:=hf z.log2 (qi γ);apply hn;have δ:z=(z^^^2 ^ z.log2)^^^2 ^ z.log2:=(cx _ _).symm
 have α:z^^^2 ^ z.log2 < 2 ^ z.log2:=by
  have:=F4 γ (show 2 ^ z.log2≠0 from Xw @aK) (by rw[Nat.log2_two_pow]);exact this
 generalize ζ:z^^^2 ^ z.log2=y at δ α;generalize z.log2=t at δ α hi
 have L:G=G.take t++(G.getD t 0::G.drop (t + 1)):=by
  rw[dt,eH hi];show G=G.take t++(G[t]::G.drop (t + 1));rw[<-List.drop_eq_getElem_cons hi,YM]
 have β:∀(as bs:C') (s:Nat),s < 2 ^ as.length->sm (as++bs) s=sm as s:=by
  intro as bs
  induction as with
  | nil=>
    intro s hs;have φ:s=0:=by have:s < 1:=hs;omega
    rw[φ,sm_zero,sm_zero]
  | cons a as ih=>
    intro s hs;show(if s.testBit 0 then a else 0)^^^sm (as++bs) (s / 2)=(if s.testBit 0 then a else 0)^^^sm as (s / 2);rw[ih (s / 2) (by rw[W3,ZL] at hs;omega)]
 have Z:(G.take t).length=t:=by rw[qF];omega
 have h1:sm G y=sm (G.take t) y:=by
  conv=>lhs;rw[L]
  exact β _ _ y (by rw[Z];exact α)
 have h2:sm G (2 ^ t)=G.getD t 0:=by
  have Y:G=(G.take t++[G.getD t 0])++G.drop (t + 1):=by rw[Yj];exact L
  conv=>lhs;rw[Y]
  rw[β _ _ (2 ^ t) (by rw[fy,Z,u9];exact WS @D @A)];have:=Ke (G.take t) (G.getD t 0);rw[Z] at this;exact this
 rw[δ,sm_xor,h1,h2] at hz
 have:G.getD t 0=sm (G.take t) y:=by
  have:=oe (sm (G.take t) y^^^·) hz;simp only[<-Xx,Yo,Yn,Xo] at this;exact this
 rw[this];exact sm_span _ _
theorem pP {l:C'} {m:Nat} (h:m∈l):Span l m:=by
 obtain⟨j,G,rfl⟩:=WW.mp h;have:=sm_span l @aW;rw[pQ,dt,eH G] at this;exact this
end M
namespace Sx
open PySem L2
noncomputable def cell (ns:P') (k:Int):Int:=if k < ns.length then ns.getD k.toNat 0 else 41 * k + 3
def Gg (K:b'):Sp:=λvs H Q _=>∃(p:ee) (ns:P') (k:Int),vs=[.ref p,.int k]/\SqL K H p @as/\0<=k/\Q (.int (cell ns k)) H
theorem pL {K:b'} {H:Hp} {Q:VK} {E:XK} {p:ee} {ns:P'} {k:Int} (e:SqL K H p @as) (h0:0<=k) (q:Q (.int (cell ns k)) H):Gg K [.ref p,.int k] H Q E:=⟨p,ns,k,rfl,e,h0,q⟩
def Q8:Sp:=λvs H Q _=>∃m:Nat,vs=[nat m]/\m < 2 ^ 1000/\Q (.bl (!M.od m)) H
theorem Mf (n h:Nat):WU ((n:Int) / 2 ^ ((h:Int).toNat)) (Y0 (n:Int) (1 * 2 ^ ((h:Int).toNat) - 1))=(((n>>>h)^^^(n&&&(2 ^ h - 1)):Nat):Int):=by
 rw[n',Int.one_mul,AF];have L:(n:Int) / ((2 ^ h:Nat):Int)=((n>>>h:Nat):Int):=by rw[W7];norm_cast
 have G:((2 ^ h:Nat):Int) - 1=((2 ^ h - 1:Nat):Int):=by have:=px h;omega
 rw[L,G,fz,fw]
theorem LV (wd:Nat):((wd:Int) + 1) / 2=(((wd + 1) / 2:Nat):Int):=by omega
theorem Oy {n:Nat} (h:n < 2):decide (nat n=V.int 0)= !M.od n:=by
 have:n=0∨n=1:=by omega
 rcases this with rfl | rfl
 ·rw[M.od_zero];decide
 ·rw[show M.od 1=true from M.pb_pow (t:=0) @D];decide
def VN (G:C') (b:Nat):Prop:=∀y,M.Span G y->y≠0->y.log2≠b
def Tt (C:ee):Sp:=λvs H Q _=>∃(p d f n:ee) (G:C') (b:Nat),vs=[.ref p,nat b]/\StA H C p d f n G/\b < 1000/\(∀r∈G,r < 2 ^ 1000)/\(M.fr G).length < 64/\VN G b/\
 ∀m H2,Same H H2->M.Bar G b m->Q (nat m) H2
structure Acr (rows:C') (wd:Nat) (ms:C'):Prop where
 len:ms.length + (M.fr rows).length=wd
 inj:M.Inj ms
 lt:∀m∈ms,m < 2 ^ wd
 ev:∀m∈ms,∀y,M.Span rows y->M.od (m&&&y)=false
 all:∀z,z < 2 ^ wd->(∀y,M.Span rows y->M.od (z&&&y)=false)->M.Span ms z
theorem OO (es:eP En):(sS es).map (·.1)=(es.map λe=>((e.m.log2:Nat):Int)).map Sum.inl:=by unfold sS;rw[tu,tu];rfl
theorem El {es:eP En} {ns:P'} (α:ns.Perm (es.map λe=>((e.m.log2:Nat):Int))) (hw:ns.Pairwise (·<=·)) (nd:(es.map λe=>e.m.log2).Nodup):
  ∃ts:C',ns=ts.map (λ(k:Nat)=>(k:Int))/\ts.Pairwise (· < ·)/\(∀t,t∈ts↔∃e∈es,e.m.log2=t):=by
 have hn:∀x∈ns,((x.toNat:Nat):Int)=x:=λx Y=>by
  obtain⟨e,_,rfl⟩:=hC.mp (α.mem_iff.mp Y);omega
 have β:ns=(ns.map ac5).map (λ(k:Nat)=>(k:Int)):=by
  rw[tu];exact(ac1 ns).symm.trans (WZ λx Y=>(hn x Y).symm)
 have G:(ns.map ac5).Perm (es.map λe=>e.m.log2):=by
  have:=α.map ac5;rw[tu] at this;exact this
 refine⟨ns.map ac5,β,?_,λt=>?_⟩
 ·have L:(ns.map ac5).Nodup:=G.nodup_iff.mpr nd
  have Z:(ns.map ac5).Pairwise (·<=·):=by
   rw[ZA];exact hw.imp λh=>by omega
  exact List.Pairwise.imp (R:=λa b=>a<=b/\a≠b) (λh=>by omega) (List.Pairwise.and Z L)
 ·rw[G.mem_iff,hC]
end Sx
namespace M
noncomputable def cm (a b:Nat):Nat:=if b=0 then 0 else (if b % 2=1 then a else 0)^^^2 * cm a (b / 2)
termination_by b
decreasing_by omega
def Dv (d x:Nat):Prop:=∃q,cm q d=x
structure Rm (d x r:Nat):Prop where
 lt:r < 2 ^ d.log2
 dv:Dv d (x^^^r)
end M
namespace Sx
open PySem L2
noncomputable def dg (m:Nat):Int:=(xo (m:Int):Int) - 1
theorem Ri (a p:Nat):(a:Int) * 2 ^ ((p:Int).toNat)=((a * 2 ^ p:Nat):Int):=by rw[n'];push_cast;rfl
noncomputable def tm (a:Nat) (ps:C'):Nat:=ps.foldl (λz k=>z^^^a * 2 ^ k) 0
end Sx
namespace M
structure Ord (d e:Nat):Prop where
 pos:1<=e
 one:Rm d (2 ^ e) 1
 least:∀j,1<=j->j < e->¬Rm d @aW 1
 le:e<=2 ^ d.log2
end M
namespace Sx
open PySem L2
noncomputable def JM (k:X9):Bool:=subB k "int"&& !subB k "bool"
noncomputable def qx (x:V) (w:Int):Bool:=match x with
 | .int i=>decide (0<=i)&&decide (((xo i:Nat):Int)<=w)
 | _=>false
def vZ (K:b'):Sp:=λvs H Q _=>∃x k,vs=[x]/\nN K H x k/\Q (.bl (JM k)) H
def Ep (K:b'):Sp:=λvs H Q _=>∃x k w,vs=[x,.int w]/\nN K H x k/\Q (.bl (qx x w)) H
theorem dR {K:b'} {H:Hp} {Q:VK} {E:XK} {x:V} {k:X9} (hk:nN K H x k) (q:Q (.bl (JM k)) H):vZ K [x] H Q E:=⟨x,k,rfl,hk,q⟩
theorem gS {K:b'} {H:Hp} {Q:VK} {E:XK} {x:V} {k:X9} {i:Int} (hk:nN K H x k) (q:Q (.bl (qx x i)) H):Ep K [x,.int i] H Q E:=⟨x,k,i,rfl,hk,q⟩
theorem jq {c m:Int} (h:0 < m):∃k:Nat,c % m=(k:Int)/\(k:Int) < m:=by
 obtain⟨k,hk⟩:=Xu (zt c (Int.ne_of_gt h));exact⟨k,hk,by rw[<-hk];exact w5 c h⟩
theorem TH {H:Hp} {Q:VK} {l:ee} {k:Int} {xs:eP V} (e:@bK) (h0: -(2 ^ 63)<=k) (h1:k < 2 ^ 63) (hz:xs.length * k.toNat<=ic) (h:∀p H2,H p=gg->Same H H2->H2 p=aY (.lst (lA k.toNat xs).flatten)->Q @P H2):rRep @aC (.int k) H Q:=
 ⟨l,k,xs,rfl,rfl,e,h0,h1,hz,jH h⟩
end Sx
namespace M
noncomputable def bn (b:Xb):Nat:=if b then 1 else 0
noncomputable def pk (s:Nat->Xb) (t:Nat):Nat->Nat
 | 0=>0
 | L + 1=>pk s t L^^^(if s (t + L) then 2 ^ L else 0)
theorem pk_lt (s:Nat->Xb) (t:Nat):∀L,pk s t L < 2 ^ L
 | 0=>Nat.one_pos
 | L + 1=>by
   have ih:=pk_lt s t L;refine xor_lt_pow (!a6 ih @A) ?_;split
   ·exact WS @D @A
   ·exact px _
theorem pk_bit (s:Nat->Xb) (t:Nat):∀L p,(pk s t L).testBit p=(decide (p < L)&&s (t + p))
 | 0,p=>by simp[pk]
 | L + 1,p=>by
   rw[pk,w7,pk_bit s t L p];rcases af4 p L with h | h | h
   ·have e:(if s (t + L)=true then 2 ^ L else 0:Nat).testBit p=false:=by
     cases s (t + L)<;>simp[ri];omega
    rw[e];simp[h,show p < L + 1 by omega]
   ·subst h;cases hs:s (t + p)<;>simp[X0]
   ·have e:(if s (t + L)=true then 2 ^ L else 0:Nat).testBit p=false:=by
     cases s (t + L)<;>simp[ri];omega
    rw[e];simp[show ¬p < L by omega,show ¬p < L + 1 by omega]
theorem Gs {s u:Nat->Xb} {t v:Nat}:∀{L:Nat},(∀p,p < L->s (t + p)=u (v + p))->pk s t L=pk u v L
 | 0,_=>rfl
 | L + 1,h=>by rw[pk,pk,Gs λp G=>h p @A,h L @A]
noncomputable def lf (G:Nat):Nat->(Nat->Xb)->Nat->Xb
 | 0,_,_=>false
 | L + 1,s,t=>lf G L s t^^(G.testBit L&&s (t + L))
noncomputable def tr (as:C') (x:Nat):Nat:=pk (λk=>od (as.getD k 0&&&x)) 0 as.length
noncomputable def stt (as:C') (x:Nat):Nat->Nat
 | 0=>x
 | t + 1=>tr as (stt as x t)
noncomputable def ans (as:C') (o x t:Nat):Bool:=od (o&&&stt as x t)
noncomputable def lm (L G:Nat):C':=(qB (L - 1)).map (λp=>2 ^ (p + 1))++(if 0 < L then [G] else [])
end M
namespace Sx
open PySem L2
noncomputable abbrev Pr3:=ee×Nat×Nat
noncomputable def refs (ps:@R):eP V:=ps.map λq=>V.ref q.1
def Prt (H:Hp) (ps:@R):Prop:=∀q∈ps,H q.1=aY (!H [nat q.2.1,nat q.2.2])
theorem Prt.same {H H2:Hp} {ps:@R} (x:Prt H ps) (s:@ao):Prt H2 ps:=λq h=>s _ _ (x q h)
structure MaA (H:Hp) (C p:ee) (m:Nat) (nx os:@R):Prop where
 ho:∃dx tn to,H p=aY (!aE [("inputs",nat m),("nexts",.ref tn),("outs",.ref to)])/\H tn=aY (!H (refs nx))/\H to=aY (!H (refs os))
 hn:Prt H nx
 hs:Prt H os
theorem MaA.same {H H2:Hp} {C p:ee} {m:Nat} {nx os:@R} (x:MaA H C p m nx os) (s:@ao):MaA H2 C p m nx os:=
 ⟨let ⟨dx,G,to,a,b,c⟩:=x.ho;⟨dx,G,to,s _ _ a,s _ _ b,s _ _ c⟩,x.hn.same s,x.hs.same s⟩
noncomputable def sq (bs:eP Xb):Nat->Bool:=λi=>bs.getD i false
def J4:Sp:=λvs H Q _=>∃(r:ee) (ps:C'),vs=[.ref r]/\H r=aY (!A (ps.map nat))/\(∀p∈ps,p < 1000)/\Q (nat (M.xm ps)) H
def NS:Sp:=λvs H Q _=>∃(t:ee) (x y n m:Nat),vs=[.ref t,nat n,nat m]/\H t=aY (!H [nat x,nat y])/\x < 2 ^ n/\y < 2 ^ m/\Q (.bl true) H
structure Tab (H:Hp) (n o:ee) (m:Nat) (nx os:@R):Prop where
 m6:m<=6
 n:H n=aY (!A (refs nx))
 o:H o=aY (!A (refs os))
 pn:Prt H nx
 po:Prt H os
 ln:nx.length<=120
 lo:os.length<=6
 bn:∀q∈nx++os,q.2.1 < 2 ^ nx.length/\q.2.2 < 2 ^ m
def Q9:Sp:=λvs H Q _=>∃(n o:ee) (m:Nat) (nx os:@R),vs=[nat m,.ref n,.ref o]/\Tab H n o m nx os/\∀H2,Same H H2->Q .non H2
def Q5 (C:ee):Sp:=λvs H Q _=>∃(x dx n o:ee) (m:Nat) (nx os:@R),vs=[.ref x,nat m,.ref n,.ref o]/\H x=aY @b1/\Tab H n o m nx os/\∀H2,(∀b ob,b≠x->H b=aY ob->H2 b=aY ob)->MaA H2 C x m nx os->Q .non H2
def JY (C:ee):Sp:=λvs H Q _=>∃(p:ee) (m:Nat) (nx os:@R),vs=[.ref p]/\MaA H C p m nx os/\Q (nat nx.length) H
structure Lfsr (nx os:@R) (L G:Nat):Prop where
 nx:nx.map (λq=>q.2.1)=M.lm L G
 os:∃t,os=[(t,(if 0 < L then 1 else 0),0)]
theorem cV {a n:Nat} (h:a < 2 ^ n):qx (nat a) (n:Int)=true:=by
 have:=FO h;show(decide ((0:Int)<=(a:Int))&&decide (((xo (a:Int):Nat):Int)<=(n:Int)))=true;rw[gB @A,gB @A];rfl
theorem QL {ps:C'} {i k:Nat} (h:ps[i]? =aY k):M.xm (ps.take @H)=M.xm (ps.take i)^^^2 ^ k:=by rw[take_succ h];unfold M.xm;rw[XT];rfl
theorem JC {w m:Nat} (h:@bR):M.xm (M.pl w m)=m:=M.xm_ext h λk=>rfl
noncomputable abbrev ms (nx:@R):C':=nx.map λq=>q.2.1
end Sx
namespace M
noncomputable def tr2 (ps:A') (x r:Nat):Nat:=pk (λk=>od ((ps.getD k (0,0)).1&&&x)^^od ((ps.getD k (0,0)).2&&&r)) 0 ps.length
theorem tr2_bit (ps:A') (x r k:Nat):(!av x r).testBit k=(decide (k < ps.length)&&(od ((ps.getD k (0,0)).1&&&x)^^od ((ps.getD k (0,0)).2&&&r))):=by unfold tr2;rw[pk_bit,Y5]
theorem tr2_lt (ps:A') (x r:Nat):tr2 ps x r < 2 ^ ps.length:=pk_lt _ _ _
theorem tr2_snoc (ps:A') (p:@b0) (x r:Nat):tr2 (ps++[p]) x r=tr2 ps x r^^^(if (od (p.1&&&x)^^od (p.2&&&r)) then 2 ^ ps.length else 0):=by
 unfold tr2;rw[fy,u9,pk,Y5];have L:(ps++[p]).getD ps.length (0,0)=p:=by rw[dt,lB @U,aa1];rfl
 rw[L]
 have G:pk (λk=>od (((ps++[p]).getD k (0,0)).1&&&x)^^od (((ps++[p]).getD k (0,0)).2&&&r)) 0 ps.length=pk (λk=>od ((ps.getD k (0,0)).1&&&x)^^od ((ps.getD k (0,0)).2&&&r)) 0 ps.length:=Gs λk hk=>by
  rw[Y5,dt,dt,la hk]
 rw[G]
theorem oK (ps:A') (x y r s:Nat):tr2 ps @aT (r^^^s)=tr2 ps x r^^^tr2 ps y s:=by
 apply iv;intro i;rw[w7,tr2_bit,tr2_bit,tr2_bit,and_xor,od_xor,and_xor,od_xor];cases decide (i < ps.length)<;>cases od ((ps.getD i (0,0)).1&&&x)<;>cases od ((ps.getD i (0,0)).1&&&y)<;>cases od ((ps.getD i (0,0)).2&&&r)<;>cases od ((ps.getD i (0,0)).2&&&s)<;>rfl
theorem rW (ps:A'):tr2 ps 0 0=0:=by
 apply iv;intro i;rw[tr2_bit,Yh,Yh,od_zero];simp
noncomputable def wst (ps:A'):Nat->C'->Nat
 | x,[]=>x
 | x,r::rs=>wst ps (!av x r) rs
noncomputable def wan (ps os:A'):Nat->C'->C'
 | _,[]=>[]
 | x,r::rs=>tr2 os x r::wan ps os (!av x r) rs
theorem wst_snoc (ps:A') (r:Nat):∀(rs:C') (x:Nat),wst ps x @bd=tr2 ps (wst ps x rs) r
 | [],_=>rfl
 | _::rs,_=>wst_snoc ps r rs _
theorem wan_snoc (ps os:A') (r:Nat):∀(rs:C') (x:Nat),wan ps os x @bd=wan ps os x rs++[tr2 os (wst ps x rs) r]
 | [],_=>rfl
 | _::rs,_=>oe (_::·) (wan_snoc ps os r rs _)
theorem wan_len (ps os:A'):∀(rs:C') (x:Nat),(wan ps os x rs).length=rs.length
 | [],_=>rfl
 | _::rs,_=>oe (· + 1) (wan_len ps os rs _)
theorem wst_lt {ps:A'}:∀{rs:C'} {x:Nat},x < 2 ^ ps.length->wst ps x rs < 2 ^ ps.length
 | [],_,h=>h
 | r::rs,x,_=>wst_lt (rs:=rs) (tr2_lt ps x r)
theorem Ek (ps os:A'):∀(rs qs:C') (x:Nat),wan ps os x (rs++qs)=wan ps os x rs++wan ps os (wst ps x rs) qs
 | [],_,_=>rfl
 | _::rs,qs,_=>oe (_::·) (Ek ps os rs qs _)
theorem xm_snoc (qs:C') (k:Nat):xm (qs++[k])=xm qs^^^2 ^ k:=by unfold xm;rw[XT];rfl
theorem rev_ind {α:Type} {P:eP α->Prop} (h0:P []) (h1:∀l x,P l->P (l++[x])) (l:eP α):P l:=by
 have:∀l:eP α,P l.reverse:=λl=>by
  induction l with
  | nil=>exact h0
  | cons x l ih=>rw[Zz];exact h1 _ _ ih
 have:=this l.reverse;rwa [an0] at this
theorem K1 (s x r:Nat) (ps:A') (h:ps.length<=1000):od (s&&&tr2 ps x r)=(od (sm (ps.map (·.1)) s&&&x)^^od (sm (ps.map (·.2)) s&&&r)):=by
 induction ps using rev_ind with
 | h0=>show od (s&&&0)=(od (0&&&x)^^od (0&&&r));rw[Yh,Yg,Yg,od_zero];rfl
 | h1 ps p ih=>
   rw[fy,u9] at h;have ih:=ih @A;rw[tr2_snoc,and_xor,od_xor,ih,eF,eF,Yw,Yw,iU,iU,a',a'];generalize hb:(od (p.1&&&x)^^od (p.2&&&r))=b
   have L:od (s&&&(if b=true then 2 ^ ps.length else 0))=(b&&s.testBit ps.length):=by
    cases b with
    | true=>rw[lx rfl,X8,od_pow @A];simp
    | false=>rw[kf hH,Yh,od_zero];simp
   rw[L];have G:∀u v t:Nat,od ((u^^^v)&&&t)=(od (u&&&t)^^od (v&&&t)):=λu v t=>by rw[X8,and_xor,od_xor,X8,X8 t v]
   rw[G,G];cases s.testBit ps.length with
   | true=>rw[lx rfl,lx rfl,<-hb];cases od (sm (ps.map (·.1)) s&&&x)<;>cases od (sm (ps.map (·.2)) s&&&r)<;>cases od (p.1&&&x)<;>cases od (p.2&&&r)<;>rfl
   | false=>rw[kf hH,kf hH,Yg,Yg,od_zero];cases b<;>simp
noncomputable def pulse (i T:Nat):C':=(qB T).map λt=>if t=0 then 2 ^ i else 0
theorem pulse_len (i T:Nat):(pulse i T).length=T:=by unfold pulse;rw[a',W1]
theorem pulse_eq (i T:Nat):(2 ^ i::lA T 0).take T=pulse i T:=by
 unfold pulse;apply ar3
 ·rw[qF,W3,Xg,a',W1];omega
 ·intro j h1 h2;rw[ac8,List.getElem_range,ZC];cases j with
  | zero=>rfl
  | succ j=>rw[List.getElem_cons_succ,al4];rfl
theorem pulse_lt {i m:Nat} (h:i < m) (T:Nat):∀r∈pulse i T,r < 2 ^ m:=λr G=>by
 obtain⟨t,_,rfl⟩:=hC.mp G;show(if t=0 then 2 ^ i else 0) < 2 ^ m;split
 ·exact WS @D h
 ·exact px _
theorem Rg {G:C'} {i r:Nat} (s:Nat) (h:G[i]? =aY r):sm (G.take @H) s=sm @b8 s^^^(if s.testBit i then r else 0):=by
 have hi:=(!K h).1;have e:G.take @H=G.take i++[r]:=by rw[aq2,h];rfl
 rw[e,iU,qF,ah1 @A]
theorem sm_places (G:C') (s:Nat) (h:s < 2 ^ G.length) (w:Nat) (hw:G.length<=w):(pl w s).foldl (λa p=>a^^^G.getD p 0) 0=sm G s:=by
 rw[pl_up h hw]
 have γ:∀k,k<=G.length->(pl k s).foldl (λa p=>a^^^G.getD p 0) 0=sm (G.take k) s:=by
  intro k
  induction k with
  | zero=>intro _;rfl
  | succ k ih=>
    intro hk;have L:G[k]? =aY (G.getD k 0):=by rw[dt,eH @A];rfl
    have Y:pl @aR s=pl k s++(if s.testBit k then [k] else []):=by
     unfold pl;rw[Y7,Xp];congr 1;cases hb:s.testBit k<;>simp[hb]
    rw[Y,XT,ih @A,Rg s L];cases s.testBit k<;>simp
 have:=γ G.length @U;rwa [ix] at this
end M
namespace Sx
open PySem L2
structure MaG (m:Nat) (nx os:@R):Prop where
 m6:m<=6
 ln:nx.length<=120
 lo:os.length<=6
 bn:∀q∈nx++os,q.2.1 < 2 ^ nx.length/\q.2.2 < 2 ^ m
theorem Tab.same {H H2:Hp} {n o:ee} {m:Nat} {nx os:@R} (t:Tab H n o m nx os) (s:@ao):Tab H2 n o m nx os:=⟨t.m6,s.get t.n,s.get t.o,t.pn.same s,t.po.same s,t.ln,t.lo,t.bn⟩
noncomputable abbrev prs (nx:@R):A':=nx.map (·.2)
theorem aL (nx:@R):(@N).length=nx.length:=a' ..
theorem KH {nx:@R} {i:Nat} {q:Pr3} (h:nx[i]? =aY q):(@N)[i]? =aY q.2:=by rw[hB,h];rfl
theorem iE (nx:@R):(refs nx).length=nx.length:=a' ..
theorem iY {x n:Nat} (h:x < 2 ^ n) (hn:n<=1000):x < 2 ^ 1000:=gA h (hL @D hn)
theorem MaG.b1 {m:Nat} {nx os:@R} (g:MaG m nx os):∀q∈nx,q.2.1 < 2 ^ 1000/\q.2.2 < 2 ^ 1000:=λq h=>have:=g.ln;have:=g.m6;have b:=g.bn q (hG _ h);⟨iY b.1 @A,iY b.2 @A⟩
theorem MaG.b2 {m:Nat} {nx os:@R} (g:MaG m nx os):∀q∈os,q.2.1 < 2 ^ 1000/\q.2.2 < 2 ^ 1000:=λq h=>have:=g.ln;have:=g.m6;have b:=g.bn q (hJ _ h);⟨iY b.1 @A,iY b.2 @A⟩
theorem RF {H H2:Hp} {a:ee} {u:HO} (h:Rd H a u) (s:@ao):Rd H2 a u:=h.imp (s _ _) λ⟨o,e⟩=>⟨o,s _ _ e⟩
theorem LH {K:b'} {H H2:Hp} {x:V} {k:X9} (h:nN K H x k) (s:@ao):nN K H2 x k:=by
 cases x with
 | ref p=>exact Or.imp (λ⟨a,xs,e⟩=>⟨a,xs,Same.seq s e⟩) (Or.imp (λ⟨a,xs,e⟩=>⟨a,xs,Same.tup s e⟩) λ⟨a,xs,e⟩=>⟨a,xs,RF e s⟩) h
 | _=>exact h
def M8 (K:b') (H:Hp) (xs:eP V):Prop:=∀x∈xs,∃k,nN K H x k
theorem M8.nats (K:b') (H:Hp) (rs:C'):M8 K H (rs.map nat):=λx G=>by
 obtain⟨r,_,rfl⟩:=hC.mp G;exact⟨"int",rfl⟩
theorem wk {x:V} {n:Nat} (h:qx x (n:Int)=true):∃a:Nat,x=nat a/\a < 2 ^ n:=by
 cases x with
 | int i=>
   have h:(decide ((0:Int)<=i)&&decide (((xo i:Nat):Int)<=(n:Int)))=true:=h;simp only[WV,Xc] at h;obtain⟨a,rfl⟩:=Xu h.1;exact⟨a,rfl,!a6 (FM a) @A⟩
 | _=>cases h
noncomputable def idxB (x:V) (m:Nat):Bool:=match x with
 | .int i=>decide (0<=i)&&decide (i < (m:Int))
 | _=>false
theorem JB (x y:Xb):(!decide (V.bl (!x)=V.bl (!y)))=(x^^y):=by cases x<;>cases y<;>rfl
theorem NF {ps:@R} {i:Nat} {q:Pr3} (x y:Nat) (h:ps[i]? =aY q):M.tr2 (prs (ps.take @H)) x y=M.tr2 (prs (ps.take i)) x y^^^(if (M.od (q.2.1&&&x)^^M.od (q.2.2&&&y)) then 2 ^ i else 0):=by
 have hl:(prs (ps.take i)).length=i:=by rw[aL];exact Gb h
 rw[take_succ h];unfold prs at hl ⊢;rw[eF,Yw,M.tr2_snoc,hl]
theorem GS (xs:eP V) (y:Nat) (hy:y<=xs.length):cutV xs gg (aY (y:Int))=xs.take y:=by
 unfold cutV;rw[HT.sIx_nat,HT.sIx_none,ah1 hy,ai8,at1]
theorem gM {a b:Nat} (h:nat a=nat b):a=b:=by
 have h:(a:Int)=(b:Int):=V.int.inj h;omega
def N3:Sp:=λvs H Q _=>∃(t:ee) (a b x r:Nat),vs=[.ref t,nat x,nat r]/\H t=aY (!H [nat a,nat b])/\a < 2 ^ 1000/\b < 2 ^ 1000/\Q (.bl (M.od (a&&&x)^^M.od (b&&&r))) H
def Q0 (K:b'):Sp:=λvs H Q _=>∃(r:ee) (ps:@R) (x y:Nat),vs=[.ref r,nat x,nat y]/\SqT K H r (refs ps)/\Prt H ps/\ps.length<=1000/\(∀q∈ps,q.2.1 < 2 ^ 1000/\q.2.2 < 2 ^ 1000)/\∀H2,Same H H2->Q (nat (M.tr2 (prs ps) x y)) H2
def Ts (K:b') (C B:ee):Sp:=λvs H Q E=>∃(p:ee) (m:Nat) (nx os:@R) (x:V) (k:X9),vs=[.ref p,x]/\MaA H C p m nx os/\nN K H x k/\(qx x nx.length=true->Q .non H)/\(qx x nx.length=false->E (!j B) gg H)
def NW (K:b') (C B:ee):Sp:=λvs H Q E=>∃(p:ee) (m:Nat) (nx os:@R) (x y:V) (kx G:X9),vs=[.ref p,x,y]/\MaA H C p m nx os/\MaG m nx os/\nN K H x kx/\nN K H y G/\
 (∀a b:Nat,x=nat a->y=nat b->a < 2 ^ nx.length->b < 2 ^ m->∀(t:ee) (H2:Hp),Same H H2->H2 t=aY (!H [nat (M.tr2 @X a b),nat (M.tr2 @N a b)])->Q @ab H2)/\
 (qx x nx.length=false∨qx y m=false->E (!j B) gg H)
structure VQ (K:b') (H:Hp) (C p rr:ee) (m:Nat) (nx os:@R) (x:V) (xs:eP V):Prop where
 ma:MaA H C p m nx os
 g:MaG m nx os
 kx:∃k,nN K H x k
 sq:SqL K H rr xs
 ks:M8 K H xs
 ln:xs.length<=1000
def Good (m:Nat) (nx:@R) (x:V) (xs:eP V) (a:Nat) (rs:C'):Prop:=x=nat a/\xs=rs.map nat/\a < 2 ^ nx.length/\∀r∈rs,r < 2 ^ m
def Bad (m:Nat) (nx:@R) (x:V) (xs:eP V):Prop:=qx x nx.length=false∨∃y∈xs,qx y m=false
def NJ (K:b') (C B:ee):Sp:=λvs H Q E=>∃(p Z:ee) (m:Nat) (nx os:@R) (x:V) (xs:eP V),vs=[.ref p,.ref Z,x]/\VQ K H C p Z m nx os x xs/\
 (∀a rs,Good m nx x xs a rs->∀(t D:ee) (H2:Hp),H D=gg->Same H H2->H2 t=aY (!H [.ref D,nat (M.wst @N a rs)])->H2 D=aY (!a7 (M.wan @N @X a rs))->Q @ab H2)/\
 (Bad m nx x xs->∀H2,Same H H2->E (!j B) gg H2)
def Ti (K:b') (C B:ee):Sp:=λvs H Q E=>∃(p Z:ee) (m:Nat) (nx os:@R) (x:V) (xs:eP V),vs=[.ref p,.ref Z,x]/\VQ K H C p Z m nx os x xs/\
 (∀a rs,Good m nx x xs a rs->∀(D:ee) (H2:Hp),H D=gg->Same H H2->H2 D=aY (!a7 (M.wan @N @X a rs))->Q @W H2)/\
 (Bad m nx x xs->∀H2,Same H H2->E (!j B) gg H2)
def J0 (K:b') (C B:ee):Sp:=λvs H Q E=>∃(p:ee) (m:Nat) (nx os:@R) (x:V) (k:X9) (T:Nat),vs=[.ref p,x,nat T]/\MaA H C p m nx os/\MaG m nx os/\nN K H x k/\T<=900/\
 (∀i,x=nat i->i < m->∀(D:ee) (H2:Hp),H D=gg->Same H H2->H2 D=aY (!a7 (!bN @N @X 0 i T))->Q @W H2)/\
 (idxB x m=false->E (!j B) gg H)
def NX (K:b') (C B:ee):Sp:=λvs H Q E=>∃(p:ee) (m:Nat) (nx os:@R) (x:V) (k:X9),vs=[.ref p,x]/\MaA H C p m nx os/\MaG m nx os/\nN K H x k/\
 (∀a,x=nat a->a < 2 ^ nx.length->∀(t:ee) (H2:Hp),Same H H2->H2 t=aY (!H [nat (M.sm (nx.map λq=>q.2.1) a),nat (M.sm (nx.map λq=>q.2.2) a)])->Q @ab H2)/\
 (qx x nx.length=false->E (!j B) gg H)
def Hh (C:ee):Sp:=λvs H Q _=>∃(p:ee) (m:Nat) (nx os:@R),vs=[.ref p]/\MaA H C p m nx os/\Q (nat os.length) H
structure TabT (H:Hp) (t n o:ee) (m:Nat) (nx os:@R):Prop where
 t:H t=aY (!H [nat m,.ref n,.ref o])
 tab:Tab H n o m nx os
def J9:Sp:=λvs H Q _=>∃(c:Int) (st n w:Nat) (dg:Xb),vs=[.int c,nat st,nat n,nat w,.bl dg]/\st<=900/\n<=64/\w<=16/\
 ∀(D:ee) (H2:Hp) (ms:C'),H D=gg->Same H H2->H2 D=aY (!A (ms.map nat))->ms.length=n->(∀x∈ms,x < 2 ^ w)->Q @W H2
theorem Bn {H H2:Hp} {D:ee} (s:@ao) (f:H2 D=gg):H D=none:=by
 cases G:H D with
 | none=>rfl
 | some v=>have:=s _ _ G;rw[f] at this;cases this
theorem EB (m k:Nat):(m:Int) / 2 ^ ((k:Int).toNat)=((m>>>k:Nat):Int):=by rw[n',AF,W7];norm_cast
theorem DO (m i:Nat):Y0 ((m:Int) / 2 ^ ((i:Int).toNat)) 1=if m.testBit i then 1 else 0:=by
 have:=GZ m i;rwa [show(0:Int) + (i:Int)=(i:Int) from Yr _] at this
theorem wo (xs:eP V) (k:Nat) (h:k<=xs.length):cutV xs (aY (k:Int)) gg=xs.drop k:=by
 unfold cutV;rw[HT.sIx_nat,HT.sIx_none,ah1 h];exact XM (by rw[ZU];exact mc _)
end Sx
namespace M
noncomputable def pkw (w:Nat):C'->Nat
 | []=>0
 | p::ps=>p^^^(pkw w ps <<< w)
theorem DT {w p r P R:Nat} (L:p < 2 ^ w) (G:r < 2 ^ w):(p^^^(P <<< w))&&&(r^^^(R <<< w))=(p&&&r)^^^((P&&&R) <<< w):=by
 apply iv;intro i;simp only[w7,Yi,XJ];by_cases hi:w<=i
 ·rw[u7 (!a6 L hi),u7 (!a6 G hi)];simp[hi]
 ·simp[hi]
theorem UM {x w:Nat} (h:x < 2 ^ (1000 - w)) (hw:w<=1000):od (x <<< w)=od x:=by
 show pb 1000 (x <<< w)=pb 1000 x;have e:=wg w (1000 - w) (x <<< w);rw[show w + (1000 - w)=1000 by omega] at e;rw[e,pb_up h @A]
 have G:pb w (x <<< w)=false:=by
  rw[<-KQ,ar9,Nat.mul_mod_left]
  have:∀n,pb n 0=false:=λn=>by
   induction n with
   | zero=>rfl
   | succ n ih=>rw[RL,Nat.zero_div,ih];simp
  exact this w
 rw[G,Nat.shiftLeft_shiftRight];simp
noncomputable def bkI (A:C') (s:Nat):Nat->Nat
 | 0=>s
 | i + 1=>sm A (bkI A s i)
theorem MJ (A:C') (s:Nat):∀i,bkI A (sm A s) i=bkI A s @H
 | 0=>rfl
 | i + 1=>oe (sm A) (MJ A s i)
theorem JJ (ps:A'):∀(rs qs:C') (x y:Nat),rs.length=qs.length->wst ps @aT (ak8 (·^^^·) rs qs)=wst ps x rs^^^wst ps y qs
 | [],[],_,_,_=>rfl
 | r::rs,q::qs,x,y,h=>by
   show wst ps (!av @aT (r^^^q)) (ak8 (·^^^·) rs qs)=wst ps (!av x r) rs^^^wst ps (!av y q) qs;rw[oK,JJ ps rs qs _ _ (by simpa using h)]
end M
namespace Sx
open PySem L2
noncomputable abbrev nA (nx:@R):C':=nx.map λq=>q.2.1
noncomputable abbrev nB (nx:@R):C':=nx.map λq=>q.2.2
def J7:Sp:=λvs H Q _=>∃(c:Int) (n w:Nat),vs=[.int c,nat n,nat w]/\n<=64/\w<=16/\∀(D:ee) (H2:Hp) (ms:C'),H D=gg->Same H H2->H2 D=aY (!A (ms.map nat))->ms.length=n->(∀x∈ms,x < 2 ^ w)->Q @W H2
theorem B7 {K:b'} {H:Hp} {α:Type} (f:α->V) (g:α->Dt) (r:∀x,Rep K H (f x) (g x)) (xs:eP α):∀(i:Nat) x d,(xs.map f)[i]? =aY x->(xs.map g)[i]? =aY d->Rep K H x d:=by
 intro i x d h1 h2;rw[hB] at h1 h2;cases e:xs[i]? with
 | none=>rw[e] at h1;cases h1
 | some y=>rw[e] at h1 h2;cases h1;cases h2;exact r y
theorem TF {K:b'} {te:TE} {σ:St} {H:Hp} {Q:VK} (h:te σ H λx H1=>∃a xs,x= .ref a/\SqL K H1 a xs/\∀l,H1 l=gg->Q @aC (!aB H1 l xs.reverse)):tRev K te σ H Q:=h
noncomputable def low (c:Nat):Bool:=decide (97<=c)&&decide (c<=122)
noncomputable def fig (c:Nat):Bool:=decide (48<=c)&&decide (c<=57)
noncomputable def nm (l:C'):Bool:=match l with
 | []=>false
 | c::r=>decide ((c::r).length<=6)&&low c&&(c::r).all λc=>low c||fig c
noncomputable def UV (x:V):Bool:=match x with
 | .str z=>nm z.cps.toList
 | _=>false
def Nm (z:kv):Prop:=nm z.cps.toList=true
def J3 (K:b'):Sp:=λvs H Q _=>∃x k,vs=[x]/\nN K H x k/\(∀z,x= .str z->z.length<=1000)/\∀H',Same H H'->Q (.bl (UV x)) H'
theorem memL (c:Nat):decide (c∈("abcdefghijklmnopqrstuvwxyz":kv).cps.toList)=low c:=by
 have e:("abcdefghijklmnopqrstuvwxyz":kv).cps.toList=ag3 97 26:=by decide +kernel
 rw[e];unfold low;rw[Yc,WV,Xc,Xc,Xc,ae3];constructor
 ·rintro⟨i,h,rfl⟩;omega
 ·rintro⟨h1,h2⟩;exact⟨c - 97,@A,@A⟩
theorem memN (c:Nat):decide (c∈("abcdefghijklmnopqrstuvwxyz0123456789":kv).cps.toList)=(low c||fig c):=by
 have e:("abcdefghijklmnopqrstuvwxyz0123456789":kv).cps.toList=ag3 97 26++ag3 48 10:=by decide +kernel
 rw[e];unfold low fig;rw[Yc,Bool.or_eq_true,WV,WV,Xc,Xc,Xc,Xc,Xc,gs,ae3,ae3];constructor
 ·rintro(⟨i,h,rfl⟩ | ⟨i,h,rfl⟩)
  ·left;omega
  ·right;omega
 ·rintro(⟨h1,h2⟩ | ⟨h1,h2⟩)
  ·exact !E ⟨c - 97,by omega,by omega⟩
  ·exact !I ⟨c - 48,by omega,by omega⟩
theorem p9 (z:kv):z.cps.toList.length=z.length:=by simp[Str.length]
theorem Em {z:kv}:z=""↔z.cps.toList=[]:=by
 constructor
 ·rintro rfl;decide +kernel
 ·intro h;cases z with | mk c=>cases c with | mk l=>have h:l=[]:=h;subst h;decide +kernel
theorem Nm.len {z:kv} (h:Nm z):z.length<=6:=by
 have h:nm z.cps.toList=true:=h;have l:=p9 z;cases e:z.cps.toList with
 | nil=>rw[e] at l;rw[<-l];decide
 | cons c r=>
   rw[e] at h l;unfold nm at h;rw[WV,WV] at h;have:=y2 h.1.1;omega
theorem c_nm {K:b'} {H:Hp} {Q:VK} {E:XK} {z:kv} (h:Nm z) (q:∀H',Same H H'->Q (.bl true) H'):J3 K [.str z] H Q E:=⟨_,"str",rfl,rfl,λG e=>by cases e;have:=h.len;omega,λH' s=>by show Q (.bl (nm z.cps.toList)) H';rw[show nm z.cps.toList=true from h];exact q H' s⟩
def N6 (K:b'):Sp:=λvs H Q _=>∃x C dx nm,vs=[.ref x,nm]/\Cls K C/\cQ K C "name"/\H x=aY @b1/\∀H2,Upd H H2 x (!aE [("name",nm)])->Q .non H2
def N5 (C:ee):Sp:=λvs H Q _=>∃x dx nm k,vs=[.ref x,nm,k]/\H x=aY @b1/\∀H2,Upd H H2 x (!aE [("name",nm),("number",k)])->Q .non H2
def N4 (C:ee):Sp:=λvs H Q _=>∃x dx nm w k,vs=[.ref x,nm,w,k]/\H x=aY @b1/\∀H2,Upd H H2 x (!aE [("name",nm),("wire",w),("number",k)])->Q .non H2
def Re (C:ee):Sp:=λvs H Q _=>∃p dx nm k G row st,vs=[.ref p,G,.int row,.int st]/\H p=aY (!aE [("name",nm),("number",.int k)])/\0<=k/\Q (.int (Y0 (row / 2 ^ k.toNat) 1)) H
def Rb (C:ee):Sp:=λvs H Q _=>∃p dx nm w k G row st,vs=[.ref p,G,.int row,.int st]/\H p=aY (!aE [("name",nm),("wire",w),("number",.int k)])/\0<=k/\Q (.int (Y0 (st / 2 ^ k.toNat) 1)) H
def Rc (K:b') (C:ee):Sp:=λvs H Q _=>∃(p dx:ee) (nm:V) (ι d:ee) (ws:B') (kvs:@ap) (f:kv->Int) (row st:Int),vs=[.ref p,.ref d,.int row,.int st]/\H p=aY (!aE [("name",nm),("wires",.ref ι)])/\SqT K H ι @bT/\
 H d=aY @aA/\(∀w∈ws,valV kvs (xY w)=aY (.int (f w)))/\Q (.int ((ws.map f).foldl WU 0)) H
def Oa (C:ee):Sp:=λvs H Q _=>∃p dx nm k G,vs=[.ref p,G]/\H p=aY (!aE [("name",nm),("number",.int k)])/\0<=k/\k<=1000/\∀t H2,Same H H2->H2 t=aY (!H [.int 0,.int (1 * 2 ^ k.toNat)])->Q @ab H2
def N8 (C:ee):Sp:=λvs H Q _=>∃p dx nm w k G,vs=[.ref p,G]/\H p=aY (!aE [("name",nm),("wire",w),("number",.int k)])/\0<=k/\k<=1000/\∀t H2,Same H H2->H2 t=aY (!H [.int (1 * 2 ^ k.toNat),.int 0])->Q @ab H2
def N9 (K:b') (C:ee):Sp:=λvs H Q _=>∃(p dx:ee) (nm:V) (ι d:ee) (ws:B') (kvs:@ap) (f g:kv->Int),vs=[.ref p,.ref d]/\H p=aY (!aE [("name",nm),("wires",.ref ι)])/\SqT K H ι @bT/\
 H d=aY @aA/\(∀w∈ws,∃t,valV kvs (xY w)=aY @ab/\SqT K H t [.int (f w),.int (g w)])/\∀t H2,Same H H2->H2 t=aY (!H [.int ((ws.map f).foldl WU 0),.int ((ws.map g).foldl WU 0)])->Q @ab H2
theorem ye {ws:B'} {f:kv->Int} {i:Nat} {w:kv} (h:ws[i]? =aY w):((ws.take @H).map f).foldl WU 0=WU (((ws.take i).map f).foldl WU 0) (f w):=by
 rw[ab6,h,eF,XT];rfl
structure Nt where
 ins:B'
 sums:eP (kv×eP kv)
 sts:eP (kv×kv)
 outs:B'
noncomputable def Nt.names (N:Nt):B':=N.ins++N.sums.map (·.1)++N.sts.map (·.1)
structure Gn (N:Nt):Prop where
 li:N.ins.length<=6
 ls:N.sums.length<=40
 lt:N.sts.length<=16
 lo:N.outs.length<=6
 lw:∀r∈N.sums,r.2.length<=24
 nm:∀z∈N.names,Nm z
 nd:N.names.Nodup
 ws:∀r∈N.sums,∀z∈r.2,z∈N.names
 ts:∀r∈N.sts,r.2∈N.names
 os:∀z∈N.outs,z∈N.names
 rk:∃rank:kv->Nat,∀r∈N.sums,∀z∈r.2,z∈N.sums.map (·.1)->rank z < rank r.1
structure Topo (sums:@aY) (od:B'):Prop where
 perm:od.Perm (sums.map (·.1))
 need:∀(i:Nat) z,od[i]? =aY z->∀ws,(z,ws)∈sums->∀y∈ws,y∈sums.map (·.1)->y∈od.take i
noncomputable abbrev Rw:=ee×ee×kv×eP kv
noncomputable abbrev Qs:=ee×kv×kv
structure Hnd (H:Hp) (i s t o:ee) (rs:eP Rw) (qs:eP Qs) (N:Nt):Prop where
 i:H i=aY (!A @co)
 s:H s=aY (!A @bH)
 sr:∀r∈rs,H r.1=aY @bF/\H r.2.1=aY (!A @bq)
 es:rs.map (·.2.2)=N.sums
 t:H t=aY (!A @cl)
 tr:∀q∈qs,H q.1=aY @cF
 et:qs.map (·.2)=N.sts
 o:H o=aY (!A (!ba V.str))
theorem Hnd.same {H H2:Hp} {i s t o:ee} {rs:eP Rw} {qs:eP Qs} {N:Nt} (x:Hnd H i s t o rs qs N) (h:@ao):Hnd H2 i s t o rs qs N:=⟨h.get x.i,h.get x.s,λr m=>⟨h.get (x.sr r m).1,h.get (x.sr r m).2⟩,x.es,h.get x.t,λq m=>h.get (x.tr q m),x.et,h.get x.o⟩
structure Kpt (H:Hp) (i s t o:ee) (rs:eP Rw) (qs:eP Qs) (N:Nt):Prop where
 i:H i=aY (!H @co)
 s:H s=aY (!H @bH)
 sr:∀r∈rs,H r.1=aY @bF/\H r.2.1=aY (!H @bq)
 es:rs.map (·.2.2)=N.sums
 t:H t=aY (!H @cl)
 tr:∀q∈qs,H q.1=aY @cF
 et:qs.map (·.2)=N.sts
 o:H o=aY (!H (!ba V.str))
theorem Kpt.same {H H2:Hp} {i s t o:ee} {rs:eP Rw} {qs:eP Qs} {N:Nt} (x:Kpt H i s t o rs qs N) (h:@ao):Kpt H2 i s t o rs qs N:=⟨h.get x.i,h.get x.s,λr m=>⟨h.get (x.sr r m).1,h.get (x.sr r m).2⟩,x.es,h.get x.t,λq m=>h.get (x.tr q m),x.et,h.get x.o⟩
def Kc:Sp:=λvs H Q _=>∃(l:ee) (zs:B'),vs=[.ref l]/\H l=aY (!A @aP)/\zs.length<=1000/\zs.Nodup/\(∀z∈zs,Nm z)/\∀H2,Same H H2->Q .non H2
def Knw (H:Hp) (d:ee) (zs:B'):Prop:=∃kvs:eP (Key×V),H d=aY @aA/\kvs.map (·.1)=zs.map xY
theorem Knw.same {H H2:Hp} {d:ee} {zs:B'} (x:Knw H d zs) (h:@ao):Knw H2 d zs:=let ⟨k,e,f⟩:=x;⟨k,h.get e,f⟩
def Oc:Sp:=λvs H Q _=>∃(z:kv) (d:ee) (zs:B'),vs=[.str z,.ref d]/\Knw H d zs/\z∈zs/\Nm z/\∀H2,Same H H2->Q .non H2
def Kb:Sp:=λvs H Q _=>∃(i s t o d:ee) (rs:eP Rw) (qs:eP Qs) (N:Nt),vs=[.ref s,.ref t,.ref o,.ref d]/\Kpt H i s t o rs qs N/\Gn N/\Knw H d N.names/\∀H2,Same H H2->Q .non H2
theorem vY {kvs:@ap} {zs:B'} (e:kvs.map (·.1)=zs.map xY) (z:kv):(valV kvs (xY z)).isSome=decide (z∈zs):=by
 cases h:valV kvs (xY z) with
 | none=>
   have:=Nz h;rw[e] at this;rw[f' λm=>this (!an ⟨z,m,rfl⟩)];rfl
 | some v=>
   have:=QP h;rw[e] at this;obtain⟨y,G,ey⟩:=hC.mp this;cases ey;rw[gB G];rfl
theorem ES {kvs:@ap} {zs:B'} (e:kvs.map (·.1)=zs.map xY) {z:kv} (h:z∉zs) (v:V):putK kvs (xY z) v=kvs++[(xY z,v)]:=by
 refine Gr ?_;rw[<-Option.not_isSome_iff_eq_none,vY e z,f' h];exact hH
inductive Wob (H:Hp) (CI CS CT:ee) (N:Nt) (z:kv) (w:ee):Prop where
 | i (k:Nat) (dx:ee) (hk:N.ins[k]? =aY z) (e:H w=aY (.ins CI dx [("name",.str z),("number",nat k)])):Wob H CI CS CT N z w
 | s (ws:B') (dx tw:ee) (hk:(z,ws)∈N.sums) (e:H w=aY (.ins CS dx [("name",.str z),("wires",.ref tw)])) (et:H tw=aY (!H @bT)):Wob H CI CS CT N z w
 | t (k:Nat) (y:kv) (dx:ee) (hk:N.sts[k]? =aY (z,y)) (e:H w=aY (.ins CT dx [("name",.str z),("wire",.str y),("number",nat k)])):Wob H CI CS CT N z w
theorem Wob.same {H H2:Hp} {Y L G:ee} {N:Nt} {z:kv} {w:ee} (x:Wob H Y L G N z w) (h:@ao):Wob H2 Y L G N z w:=by
 cases x with
 | i k dx hk e=>exact .i k dx hk (h.get e)
 | s ws dx ι hk e et=>exact .s ws dx ι hk (h.get e) (h.get et)
 | t k y dx hk e=>exact .t k y dx hk (h.get e)
theorem Wob.name {H:Hp} {Y L G:ee} {N:Nt} {z:kv} {w:ee} (x:Wob H Y L G N z w):∃C dx fs,H w=aY (!aE (("name",.str z)::fs))/\(C=Y∨C=L∨C=G):=by
 cases x with
 | i k dx hk e=>exact⟨_,_,_,e,@am⟩
 | s ws dx ι hk e et=>exact⟨_,_,_,e,!I @am⟩
 | t k y dx hk e=>exact⟨_,_,_,e,!I (!I rfl)⟩
structure WiA (H:Hp) (CI CS CT d:ee) (N:Nt) (ws:Tn):Prop where
 d:H d=aY (.dK (ws.map λq=>(xY q.1,V.ref q.2)))
 nm:ws.map (·.1)=N.names
 ob:∀q∈ws,Wob H CI CS CT N q.1 q.2
theorem WiA.same {H H2:Hp} {Y L G d:ee} {N:Nt} {ws:Tn} (x:WiA H Y L G d N ws) (h:@ao):WiA H2 Y L G d N ws:=⟨h.get x.d,x.nm,λq m=>(x.ob q m).same h⟩
theorem WiA.knw {H:Hp} {Y L G d:ee} {N:Nt} {ws:Tn} (x:WiA H Y L G d N ws):Knw H d N.names:=⟨_,x.d,by rw[tu,<-x.nm,tu];rfl⟩
def Hd (Y L G:ee):Sp:=λvs H Q _=>∃(i s t o:ee) (rs:eP Rw) (qs:eP Qs) (N:Nt),vs=[.ref i,.ref s,.ref t]/\Kpt H i s t o rs qs N/\Gn N/\∀(d:ee) (H2:Hp) (ws:Tn),H d=gg->Same H H2->WiA H2 Y L G d N ws->Q @b5 H2
noncomputable def iS (zs:B') (ws:B'):Bool:=ws.any λw=>decide (w∈zs)
def NK:Sp:=λvs H Q _=>∃(r:Rw) (d:ee) (zs:B'),vs=[.ref r.1,.ref d]/\H r.1=aY @bF/\H r.2.1=aY (!H @bq)/\r.2.2.2.length<=24/\Knw H d zs/\∀H2,Same H H2->Q (.bl (iS zs r.2.2.2)) H2
def Hi:Sp:=λvs H Q _=>∃(s:ee) (rs:eP Rw) (N:Nt),vs=[.ref s]/\H s=aY (!H @bH)/\(∀r∈rs,H r.1=aY @bF/\H r.2.1=aY (!H @bq))/\rs.map (·.2.2)=N.sums/\Gn N/\∀(D:ee) (H2:Hp) (od:B'),H D=gg->Same H H2->H2 D=aY (!A (od.map V.str))->Topo N.sums od->Q @W H2
theorem jZ {H:Hp} {Q:VK} {l b:ee} {xs zs:eP V} (L:@bK) (G:H b=aY (!A zs)) (hl:@cV) (h:∀H2,Upd H H2 l (!A (xs++zs))->Q .non H2):ER @aC [.ref b] H Q:=⟨l,b,xs,zs,rfl,rfl,L,G,hl,h _ Upd.of⟩
theorem Wob.keep {H H2:Hp} {Z Y L:ee} {N:Nt} {z:kv} {w D:ee} {xs:eP V} (x:Wob H Z Y L N z w) (G:H D=aY @aF) (h:∀b o,b≠D->H b=aY o->H2 b=aY o):Wob H2 Z Y L N z w:=by
 cases x with
 | i k dx hk e=>exact .i k dx hk (h _ _ (cy e G (λz=>by cases z)) e)
 | s ws dx ι hk e et=>exact .s ws dx ι hk (h _ _ (cy e G (λz=>by cases z)) e) (h _ _ (cy et G (λz=>by cases z)) et)
 | t k y dx hk e=>exact .t k y dx hk (h _ _ (cy e G (λz=>by cases z)) e)
structure WL (H0 H:Hp) (CI CS CT:ee) (N:Nt) (D:ee) (ys:eP V) (zs:B') (ws:Tn):Prop where
 ey:ys=ws.map λq=>V.ref q.2
 nm:ws.map (·.1)=zs
 ob:∀q∈ws,Wob H CI CS CT N q.1 q.2
 same:Same H0 H
 d:H D=aY @Y
def Ka (K:b') (C:ee):Sp:=λvs H Q _=>∃x dx nm ι ws,vs=[.ref x,nm,.ref ι]/\H ι=aY (!H ws)/\H x=aY @b1/\
 ∀H2,Upd H H2 x (!aE [("name",nm),("wires",.ref ι)])->Q .non H2
theorem WL.put {τ H L:Hp} {γ α Z:ee} {N:Nt} {D:ee} {ys:eP V} {zs:B'} {ws:Tn} (c:WL τ H γ α Z N D ys zs ws) (ζ:τ D=gg) (s:!bg L) {z:kv} {x:ee} (δ:Wob L γ α Z N z x) (β:zs.length<=900) {G:B'} (η:G=zs++[z]):
  L D=aY @Y/\ys.length < ic/\∃ws,WL τ (!X L (ys++[.ref x])) γ α Z N D (ys++[.ref x]) G ws:=by
 have Y:=s.get c.d;have k:∀b o,b≠D->L b=aY o->upd L D (!A (ys++[.ref x])) b=aY o:=λb o n e=>by rw[aD n];exact e
 have lw:ys.length=zs.length:=by rw[c.ey,<-c.nm,a',a']
 refine⟨Y,aK @A,ws++[(z,x)],by rw[eF,c.ey];rfl,by rw[eF,c.nm,η];rfl,λq ε=>?_,λb o e=>?_,aw⟩
 ·rcases gs.mp ε with h | h
  ·exact((c.ob q h).same s).keep Y k
  ·rw[eR] at h;subst h;exact δ.keep Y k
 ·exact k _ _ (!L ζ) (s.get (!b2 e))
theorem WL.join {τ H H2 δ:Hp} {β α Z:ee} {N:Nt} {D θ:ee} {ys G:eP V} {zs L:B'} {ws Y:Tn} (c:WL τ H β α Z N D ys zs ws) (ζ:WL H H2 β α Z N θ G L Y) (η:τ D=gg) (u:Upd H2 δ D (!A (ys++G))):
  WL τ δ β α Z N D (ys++G) (zs++L) (ws++Y):=by
 have γ:=ζ.same.get c.d;refine⟨by rw[eF,c.ey,ζ.ey],by rw[eF,c.nm,ζ.nm],λq ε=>?_,λb o e=>u.oth _ _ (!L η) (ζ.same.get (!b2 e)),u.at'⟩;rcases gs.mp ε with h | h
 ·exact((c.ob q h).same ζ.same).keep γ u.oth
 ·exact(ζ.ob q h).keep γ u.oth
structure Otp (sums:@aY) (od:B') (lf:@aY):Prop where
 perm:(od++lf.map (·.1)).Perm (sums.map (·.1))
 sub:∀r∈lf,r∈sums
 need:∀(i:Nat) z,od[i]? =aY z->∀ws,(z,ws)∈sums->∀y∈ws,y∈sums.map (·.1)->y∈od.take i
theorem Otp.start (sums:@aY):Otp sums [] sums:=⟨List.Perm.refl _,λ_ h=>h,λi z h=>by simp at h⟩
theorem Otp.done {sums:@aY} {od:B'} (o:Otp sums od []):Topo sums od:=⟨by have:=o.perm;rwa [af6,XI] at this,o.need⟩
theorem KU {sums:@aY} (nd:(sums.map (·.1)).Nodup) {z:kv} {ws G:B'} (h:(z,ws)∈sums) (h':(z,G)∈sums):ws=G:=by
 induction sums with
 | nil=>cases h
 | cons r l ih=>
   rw[W',Zd] at nd;rcases x8.mp h with e | h
   ·rcases x8.mp h' with L | h'
    ·rw[<-e] at L;exact(Prod.mk.inj L).2.symm
    ·exact hE (!an ⟨_,h',rfl⟩) (by rw[<-e] at nd;exact nd.1)
   ·rcases x8.mp h' with L | h'
    ·exact hE (!an ⟨_,h,rfl⟩) (by rw[<-L] at nd;exact nd.1)
    ·exact ih nd.2 h h'
theorem Otp.step {sums:@aY} (nd:(sums.map (·.1)).Nodup) {od:B'} {lf:@aY} (o:Otp sums od lf):
  Otp sums (od++(lf.filter λr=> !iS (lf.map (·.1)) r.2).map (·.1)) (lf.filter λr=>iS (lf.map (·.1)) r.2):=by
 refine⟨?_,λr h=>o.sub r (Xs.mp h).1,λi z hz ws hw y L hs=>?_⟩
 ·refine ZS ?_ o.perm;rw[Yj,<-eF];refine ZZ _ (List.Perm.map _ ?_);refine ZS ab2 ?_;exact ak4 _ _
 ·by_cases hi:i < od.length
  ·rw[la hi] at hz;rw[Zi (Y6 hi)];exact o.need i z hz ws hw y L hs
  ·rw[lB @A] at hz;have hm:=eO hz;obtain⟨r,Y,rfl⟩:=hC.mp hm;obtain⟨G,ν⟩:=Xs.mp Y;have e:ws=r.2:=KU nd hw (o.sub r G);subst e
   have hn:y∉lf.map (·.1):=λm=>by
    have:iS (lf.map (·.1)) r.2=true:=YH.mpr ⟨y,L,gB m⟩;rw[this] at ν;cases ν
   have:=(o.perm.mem_iff (a:=y)).mpr hs;rcases gs.mp this with h | h
   ·rw[ar0,gs];left;rw[XM @A];exact h
   ·exact hE h hn
theorem zR {α:Type} (f:α->Nat):∀l:eP α,l≠[]->∃a∈l,∀b∈l,f a<=f b
 | [],h=>hE rfl h
 | [a],_=>⟨a,@bY,λb h=>by rw[eR.mp h];exact mc _⟩
 | a::b::l,_=>by
   obtain⟨c,G,h⟩:=zR f (b::l) @C;by_cases η:f a<=f c
   ·exact⟨a,mu ..,λd hd=>(x8.mp hd).elim (λe=>by rw[e];exact mc _) λe=>XX η (h d e)⟩
   ·exact⟨c,ov _ G,λd hd=>(x8.mp hd).elim (λe=>by rw[e];omega) λe=>h d e⟩
theorem Otp.ready {N:Nt} (g:Gn N) {od:B'} {lf:@aY} (o:Otp N.sums od lf) (h:lf≠[]):0 < (lf.filter λr=> !iS (lf.map (·.1)) r.2).length:=by
 obtain⟨G,α⟩:=g.rk;obtain⟨r,hm,hl⟩:=zR (λr:kv×eP kv=>G r.1) lf h;refine al3 (Xs.mpr ⟨hm,?_⟩);cases hw:iS (lf.map (·.1)) r.2 with
 | false=>rfl
 | true=>
   obtain⟨y,Z,ξ⟩:=YH.mp hw;obtain⟨Y,L,rfl⟩:=hC.mp (y2 ξ);have h1:=α r (o.sub r hm) _ Z (!an ⟨Y,o.sub Y L,rfl⟩);have h2:=hl Y L;omega
theorem FE {α:Type} (p:α->Xb):∀l:eP α,0 < (l.filter λx=> !p x).length->(l.filter p).length < l.length:=λl h=>by
 have:=(ak4 p l).length_eq;rw[fy] at this;omega
theorem Gn.nds {N:Nt} (g:Gn N):(N.sums.map (·.1)).Nodup:=by
 have:=g.nd;unfold Nt.names at this;rw[WY,WY] at this;exact this.1.2.1
structure NetA (H:Hp) (C CI CS CT p:ee) (N:Nt) (od:B'):Prop where
 ho:∃(dx i s t o d tq:ee) (rs:eP Rw) (qs:eP Qs) (ws:Tn),H p=aY (!aE [("ins",.ref i),("sums",.ref s),("kept_stores",.ref t),("outs",.ref o),("by_name",.ref d),("sum_order",.ref tq)])/\Kpt H i s t o rs qs N/\WiA H CI CS CT d N ws/\H tq=aY (!H (od.map V.str))
 g:Gn N
 tp:Topo N.sums od
theorem NetA.same {H H2:Hp} {C Y L G p:ee} {N:Nt} {od:B'} (x:NetA H C Y L G p N od) (h:@ao):NetA H2 C Y L G p N od:=
 ⟨let ⟨dx,i,s,t,o,d,Z,rs,qs,ws,a,b,c,e⟩:=x.ho;⟨dx,i,s,t,o,d,Z,rs,qs,ws,h.get a,b.same h,c.same h,h.get e⟩,x.g,x.tp⟩
def To (C Y L G:ee):Sp:=λvs H Q _=>∃(x dx i s t o:ee) (rs:eP Rw) (qs:eP Qs) (N:Nt),vs=[.ref x,.ref i,.ref s,.ref t,.ref o]/\H x=aY @b1/\Hnd H i s t o rs qs N/\Gn N/\
 ∀(H2:Hp) (od:B'),(∀b ob,b≠x->H b=aY ob->H2 b=aY ob)->NetA H2 C Y L G x N od->Q .non H2
def Kx (x:ee) (H H2:Hp):Prop:=∀b ob,b≠x->H b=aY ob->H2 b=aY ob
theorem Kx.trans {x:ee} {H H2 G:Hp} (a:Kx x H H2) (b:Kx x H2 G):Kx x H G:=λc o n e=>b c o n (a c o n e)
theorem Kx.same {x:ee} {H H2:Hp} (s:@ao):Kx x H H2:=λ_ _ _ e=>s.get e
theorem Kx.upd {x:ee} {H H2:Hp} {o:HO} (u:Upd H H2 x o):Kx x H H2:=u.oth
theorem Kx.tup {x:ee} {H H2:Hp} (k:Kx x H H2) {C dx:ee} {fs:@az} (hx:H x=aY @ak) {b:ee} {xs:eP V} (e:H b=aY @aG):H2 b=aY @aG:=k b _ (cy e hx λz=>by cases z) e
theorem Kx.lst {x:ee} {H H2:Hp} (k:Kx x H H2) {C dx:ee} {fs:@az} (hx:H x=aY @ak) {b:ee} {xs:eP V} (e:H b=aY @aF):H2 b=aY @aF:=k b _ (cy e hx λz=>by cases z) e
def RwK (H:Hp) (rs:eP Rw):Prop:=∀r∈rs,H r.1=aY @bF/\H r.2.1=aY (!H @bq)
def QsK (H:Hp) (qs:eP Qs):Prop:=∀q∈qs,H q.1=aY @cF
theorem RwK.same {H H2:Hp} {rs:eP Rw} (h:RwK H rs) (s:@ao):RwK H2 rs:=λr m=>⟨s.get (h r m).1,s.get (h r m).2⟩
theorem QsK.same {H H2:Hp} {qs:eP Qs} (h:QsK H qs) (s:@ao):QsK H2 qs:=λq m=>s.get (h q m)
theorem Kx.rw{x:ee} {H H2:Hp} (k:Kx x H H2) {C dx:ee} {fs:@az} (hx:H x=aY @ak) {rs:eP Rw} (h:RwK H rs):RwK H2 rs:=λr m=>⟨k.tup hx (h r m).1,k.tup hx (h r m).2⟩
theorem Kx.qs {x:ee} {H H2:Hp} (k:Kx x H H2) {C dx:ee} {fs:@az} (hx:H x=aY @ak) {qs:eP Qs} (h:QsK H qs):QsK H2 qs:=λq m=>k.tup hx (h q m)
theorem RwK.updL {H H2:Hp} {rs:eP Rw} (h:RwK H rs) {D:ee} {xs:eP V} (G:H D=aY @aF) (k:∀b o,b≠D->H b=aY o->H2 b=aY o):RwK H2 rs:=λr m=>⟨k _ _ (cy (h r m).1 G λz=>by cases z) (h r m).1,k _ _ (cy (h r m).2 G λz=>by cases z) (h r m).2⟩
theorem QsK.updL {H H2:Hp} {qs:eP Qs} (h:QsK H qs) {D:ee} {xs:eP V} (G:H D=aY @aF) (k:∀b o,b≠D->H b=aY o->H2 b=aY o):QsK H2 qs:=λq m=>k _ _ (cy (h q m) G λz=>by cases z) (h q m)
theorem Kx.kpt {x:ee} {H H2:Hp} (k:Kx x H H2) {C dx:ee} {fs:@az} (hx:H x=aY @ak) {i s t o:ee} {rs:eP Rw} {qs:eP Qs} {N:Nt} (h:Kpt H i s t o rs qs N):Kpt H2 i s t o rs qs N:=
 ⟨k.tup hx h.i,k.tup hx h.s,λr m=>⟨k.tup hx (h.sr r m).1,k.tup hx (h.sr r m).2⟩,h.es,k.tup hx h.t,λq m=>k.tup hx (h.tr q m),h.et,k.tup hx h.o⟩
theorem Kx.wia {x:ee} {H H2:Hp} (k:Kx x H H2) {α Z Y d:ee} {N:Nt} {ws:Tn} (h:WiA H α Z Y d N ws) (hd:d≠x) (hw:∀q∈ws,q.2≠x) {C dx:ee} {fs:@az} (hx:H x=aY @ak):WiA H2 α Z Y d N ws:=
 ⟨k _ _ hd h.d,h.nm,λq m=>by
  cases h.ob q m with
  | i L υ hk e=>exact .i L υ hk (k _ _ (hw q m) e)
  | s G υ ι hk e et=>exact .s G υ ι hk (k _ _ (hw q m) e) (k.tup hx et)
  | t L y υ hk e=>exact .t L y υ hk (k _ _ (hw q m) e)⟩
noncomputable def xb (f:R') (ws:B'):Bool:=ws.foldl (λa w=>a^^f w) false
theorem ml (f:R') (ws:B') (w:kv):xb f (ws++[w])=(xb f ws^^f w):=by unfold xb;rw[XT];rfl
theorem vX {f g:R'}:∀{ws:B'},(∀w∈ws,f w=g w)->xb f ws=xb g ws:=by
 intro ws
 induction ws using M.rev_ind with
 | h0=>intro _;rfl
 | h1 l x ih=>intro h;rw[ml,ml,ih λw hw=>h w (hG _ hw),h x (hJ _ @bY)]
theorem S3 (f g:R'):∀ws:B',xb (λz=>f z^^g z) ws=(xb f ws^^xb g ws):=by
 intro ws
 induction ws using M.rev_ind with
 | h0=>rfl
 | h1 l x ih=>rw[ml,ml,ml,ih];cases xb f l<;>cases xb g l<;>cases f x<;>cases g x<;>rfl
structure Val (N:Nt) (row st:Nat) (f:R'):Prop where
 i:∀(k:Nat) z,N.ins[k]? =aY z->f z=row.testBit k
 t:∀(k:Nat) z y,N.sts[k]? =aY (z,y)->f z=st.testBit k
 s:∀z ws,(z,ws)∈N.sums->f z=xb f ws
theorem Val.uniq {N:Nt} (g:Gn N) {od:B'} (tp:!bG od) {r s:Nat} {f α:R'} (a:Val N r s f) (b:Val N r s α):∀z∈N.names,f z=α z:=by
 have Y:∀z∈N.ins,f z=α z:=λz h=>by
  obtain⟨k,hk⟩:=WX.mp h;rw[a.i k z hk,b.i k z hk]
 have ρ:∀z∈N.sts.map (·.1),f z=α z:=λz h=>by
  obtain⟨q,δ,rfl⟩:=hC.mp h;obtain⟨k,hk⟩:=WX.mp δ;rw[a.t k q.1 q.2 hk,b.t k q.1 q.2 hk]
 have Z:∀n (k:Nat) z,k < n->od[k]? =aY z->f z=α z:=by
  intro n
  induction n with
  | zero=>intro k z h;omega
  | succ n ih=>
    intro k z hk hz;obtain⟨row,L,e⟩:=hC.mp (tp.perm.mem_iff.mp (eO hz));have e:row.1=z:=e;subst e;rw[a.s row.1 row.2 L,b.s row.1 row.2 L];refine vX λw hw=>?_;have G:=g.ws row L w hw;unfold Nt.names at G;rcases gs.mp G with h | h
    ·rcases gs.mp h with h | h
     ·exact Y w h
     ·have:=tp.need k row.1 hz row.2 L w hw h;obtain⟨j,γ⟩:=WX.mp this
      have β:j < k:=by
       have:=(!K γ).1;rw[qF] at this;omega
      rw[XN β] at γ;exact ih j w @A γ
    ·exact ρ w h
 intro z hz;unfold Nt.names at hz;rcases gs.mp hz with h | h
 ·rcases gs.mp h with h | h
  ·exact Y z h
  ·obtain⟨k,hk⟩:=WX.mp (tp.perm.mem_iff.mpr h);exact Z @aR k z (Xq k) hk
 ·exact ρ z h
noncomputable def mat (f:R') (ws:B'):Nat:=M.pk (λk=>f (!bv k)) 0 ws.length
theorem AZ (f:R') (ws:B') (k:Nat):(mat f ws).testBit k=(decide (k < ws.length)&&f (!bv k)):=by unfold mat;rw[M.pk_bit,Y5]
theorem U0 (f:R') (ws:B'):mat f ws < 2 ^ ws.length:=M.pk_lt _ _ _
theorem Cz {f g:R'} {ws:B'} (h:∀w∈ws,f w=g w):mat f ws=mat g ws:=by
 apply iv;intro k;rw[AZ,AZ];by_cases hk:k < ws.length
 ·have:ws.getD k ""∈ws:=by rw[dt,eH hk];exact Xm hk
  rw[h _ this]
 ·rw[f' hk];rfl
noncomputable def fv (N:Nt) (row st:Nat):R':=al7 (Val N row st)
noncomputable def nan (N:Nt) (row st:Nat):Nat:=mat (fv N row st) N.outs
noncomputable def nst (N:Nt) (row st:Nat):Nat:=mat (fv N row st) (N.sts.map (·.2))
theorem O0 {N:Nt} (g:Gn N) {od:B'} (tp:!bG od) {r s:Nat} {f:R'} (a:Val N r s f):∀z∈N.names,f z=fv N r s z:=a.uniq g tp (ah2 ⟨f,a⟩)
theorem Qa {N:Nt} (g:Gn N) {od:B'} (tp:!bG od) {r s:Nat} {f:R'} (a:Val N r s f):mat f N.outs=nan N r s:=Cz λw h=>O0 g tp a w (g.os w h)
theorem P7 {N:Nt} (g:Gn N) {od:B'} (tp:!bG od) {r s:Nat} {f:R'} (a:Val N r s f):mat f (N.sts.map (·.2))=nst N r s:=Cz λw h=>O0 g tp a w (by obtain⟨q,G,rfl⟩:=hC.mp h;exact g.ts q G)
noncomputable def rst (N:Nt):Nat->C'->Nat
 | st,[]=>st
 | st,r::rs=>rst N (nst N r st) rs
noncomputable def ran (N:Nt):Nat->C'->C'
 | _,[]=>[]
 | st,r::rs=>nan N r st::ran N (nst N r st) rs
theorem Gj (N:Nt) (r:Nat):∀(rs:C') (st:Nat),rst N st @bd=nst N r (rst N st rs)
 | [],_=>rfl
 | q::rs,st=>Gj N r rs (nst N q st)
theorem Gp (N:Nt) (r:Nat):∀(rs:C') (st:Nat),ran N st @bd=ran N st rs++[nan N r (rst N st rs)]
 | [],_=>rfl
 | q::rs,st=>by show nan N q st::ran N (nst N q st) @bd=_;rw[Gp N r rs];rfl
theorem Kw (N:Nt):∀(rs:C') (st:Nat),(ran N st rs).length=rs.length
 | [],_=>rfl
 | q::rs,st=>by show(ran N (nst N q st) rs).length + 1=_;rw[Kw N rs];rfl
def WG (N:Nt):Prop:=∀r s,∃f,Val N r s f
noncomputable def need (N:Nt) (od:B'):B':=N.ins++N.sts.map (·.1)++od
structure Pre (N:Nt) (row st:Nat) (pre:B') (f:R'):Prop where
 i:∀(k:Nat) z,N.ins[k]? =aY z->z∈pre->f z=row.testBit k
 t:∀(k:Nat) z y,N.sts[k]? =aY (z,y)->z∈pre->f z=st.testBit k
 s:∀z ws,(z,ws)∈N.sums->z∈pre->f z=xb f ws/\∀w∈ws,w∈pre
structure Bt (N:Nt) (row st:Nat) (pre:B') (f:R') (z:kv) (v:Xb):Prop where
 i:∀k:Nat,N.ins[k]? =aY z->v=row.testBit k
 t:∀(k:Nat) y,N.sts[k]? =aY (z,y)->v=st.testBit k
 s:∀ws,(z,ws)∈N.sums->v=xb f ws/\∀w∈ws,w∈pre
theorem Pre.nil (N:Nt) (row st:Nat) (f:R'):Pre N row st [] f:=⟨λ_ _ _ h=>hE h @C,λ_ _ _ _ h=>hE h @C,λ_ _ _ h=>hE h @C⟩
theorem Pre.step {N:Nt} {row st:Nat} {pre:B'} {f:R'} (p:Pre N row st pre f) {z:kv} {v:Xb} (hz:z∉pre) (b:Bt N row st pre f z v):Pre N row st (pre++[z]) (λy=>if y=z then v else f y):=by
 have G:∀y,y∈pre->(if y=z then v else f y)=f y:=λy L=>kf (λ(e:y=z)=>hz (e ▸ L));have Y:∀ws:B',(∀w∈ws,w∈pre)->xb (λy=>if y=z then v else f y) ws=xb f ws:=λws h=>vX λw hw=>G w (h w hw);refine⟨λk y hk L=>?_,λk y x hk L=>?_,λy ws hs L=>?_⟩
 ·rcases gs.mp L with h | h
  ·rw[G y h];exact p.i k y hk h
  ·rw[eR] at h;subst h;rw[lx rfl];exact b.i k hk
 ·rcases gs.mp L with h | h
  ·rw[G y h];exact p.t k y x hk h
  ·rw[eR] at h;subst h;rw[lx rfl];exact b.t k x hk
 ·rcases gs.mp L with h | h
  ·obtain⟨e,hw⟩:=p.s y ws hs h;rw[G y h,Y ws hw];exact⟨e,λw m=>hG _ (hw w m)⟩
  ·rw[eR] at h;subst h;obtain⟨e,hw⟩:=b.s ws hs;rw[lx rfl,Y ws hw];exact⟨e,λw m=>hG _ (hw w m)⟩
section
variable {N:Nt} (g:Gn N)
include g
theorem nM:N.ins.Nodup/\(N.sums.map (·.1)).Nodup/\(N.sts.map (·.1)).Nodup/\(∀z∈N.ins,z∉N.sums.map (·.1))/\(∀z∈N.ins,z∉N.sts.map (·.1))/\∀z∈N.sums.map (·.1),z∉N.sts.map (·.1):=by
 have h:=g.nd;unfold Nt.names at h;rw[WY,WY] at h;obtain⟨⟨a,b,c⟩,d,e⟩:=h;exact⟨a,b,d,λz h1 h2=>c z h1 z h2 rfl,λz h1 h2=>e z (hG _ h1) z h2 rfl,λz h1 h2=>e z (hJ _ h1) z h2 rfl⟩
theorem VA {row st:Nat} {pre:B'} {f:R'} {k:Nat} {z:kv} (h:N.ins[k]? =aY z):Bt N row st pre f z (row.testBit k):=by
 obtain⟨a,b,c,d,e,_⟩:=nM g;have hm:=eO h;refine⟨λj G=>?_,λj y G=>?_,λws hs=>?_⟩
 ·have:k=j:=(ae6 (!K h).1 a).mp (h.trans G.symm);rw[this]
 ·exact hE (!an ⟨_,eO G,rfl⟩) (e z hm)
 ·exact hE (!an ⟨_,hs,rfl⟩) (d z hm)
theorem Vz {row st:Nat} {pre:B'} {f:R'} {k:Nat} {z y:kv} (h:N.sts[k]? =aY (z,y)):Bt N row st pre f z (st.testBit k):=by
 obtain⟨a,b,c,d,e,L⟩:=nM g;have hm:z∈N.sts.map (·.1):=hC.mpr ⟨_,eO h,rfl⟩;refine⟨λj G=>?_,λj x G=>?_,λws hs=>?_⟩
 ·exact hE hm (e z (eO G))
 ·have h1:(N.sts.map (·.1))[k]? =aY z:=by rw[hB,h];rfl
  have h2:(N.sts.map (·.1))[j]? =aY z:=by rw[hB,G];rfl
  have:k=j:=(ae6 (!K h1).1 c).mp (h1.trans h2.symm);rw[this]
 ·exact hE hm (L z (!an ⟨_,hs,rfl⟩))
theorem Qz {row st:Nat} {pre:B'} {f:R'} {z:kv} {ws:B'} (h:(z,ws)∈N.sums) (hw:∀w∈ws,w∈pre):Bt N row st pre f z (xb f ws):=by
 obtain⟨a,b,c,d,e,Y⟩:=nM g;have hm:z∈N.sums.map (·.1):=hC.mpr ⟨_,h,rfl⟩;refine⟨λj G=>?_,λj x G=>?_,λL hs=>?_⟩
 ·exact hE hm (d z (eO G))
 ·exact hE (!an ⟨_,eO G,rfl⟩) (Y z hm)
 ·have:=KU b h hs;subst this;exact⟨rfl,hw⟩
variable {od:B'} (tp:Topo N.sums od)
include tp
theorem lV (z:kv):z∈need N od↔z∈N.names:=by
 unfold need Nt.names;rw[gs,gs,gs,gs,tp.perm.mem_iff];constructor
 ·rintro((h | h) | h)
  ·exact !E (!E h)
  ·exact !I h
  ·exact !E (!I h)
 ·rintro((h | h) | h)
  ·exact !E (!E h)
  ·exact !I h
  ·exact !E (!I h)
theorem RT:(@a1).Nodup:=by
 obtain⟨a,b,c,d,e,Y⟩:=nM g;unfold need;rw[WY,WY];refine⟨⟨a,c,λx L y G z=>e x L (z ▸ G)⟩,tp.perm.nodup_iff.mpr b,λx L y G z=>?_⟩;have G:=tp.perm.mem_iff.mp G;subst z;rcases gs.mp L with h | h
 ·exact d x h G
 ·exact Y x G h
theorem AX:(@a1).length<=62:=by
 have:=tp.perm.length_eq;have h1:=g.li;have h2:=g.ls;have G:=g.lt;unfold need;rw[a'] at this;rw[fy,fy,a'];omega
theorem E7 {i:Nat} {z:kv} (h:(@a1)[i]? =aY z):∀ws,(z,ws)∈N.sums->∀w∈ws,w∈(@a1).take i:=by
 intro ws hs w hw;obtain⟨a,b,c,d,e,Y⟩:=nM g;have hm:z∈N.sums.map (·.1):=hC.mpr ⟨_,hs,rfl⟩;unfold need at h ⊢
 have hi:(N.ins++N.sts.map (·.1)).length<=i:=by
  refine ag4 λL=>?_;rw[la L] at h;rcases gs.mp (eO h) with h | h
  ·exact d z h hm
  ·exact Y z hm h
 rw[lB hi] at h;rw[ar0,gs,XM hi];have G:=g.ws _ hs w hw;unfold Nt.names at G;rcases gs.mp G with h' | h'
 ·rcases gs.mp h' with h' | h'
  ·exact !E (hG _ h')
  ·exact !I (tp.need _ z h ws hs w hw h')
 ·exact !E (hJ _ h')
theorem Sw {row st i:Nat} {f:R'} {z:kv} (h:(@a1)[i]? =aY z):∃v,Bt N row st (!aJ (@a1)) f z v:=by
 have hm:=(lV g tp z).mp (eO h);unfold Nt.names at hm;rcases gs.mp hm with h' | h'
 ·rcases gs.mp h' with h' | h'
  ·obtain⟨k,hk⟩:=WX.mp h';exact⟨_,VA g hk⟩
  ·obtain⟨r,G,rfl⟩:=hC.mp h';exact⟨_,Qz g (ws:=r.2) G (E7 g tp h r.2 G)⟩
 ·obtain⟨r,G,rfl⟩:=hC.mp h';obtain⟨k,hk⟩:=WX.mp G;exact⟨_,Vz g (y:=r.2) hk⟩
theorem xp {i:Nat} {z:kv} (h:(@a1)[i]? =aY z):z∉(@a1).take i:=λm=>by
 have nd:=RT g tp;rw[<-YM i @a1,WY] at nd;exact nd.2.2 z m z (eO (i:=0) (by rw[Zk,Nat.add_zero];exact h)) rfl
theorem KJ {row st:Nat} {f:R'} (p:Pre N row st @a1 f):Val N row st f:=by
 have G:∀z,z∈N.names->z∈need N od:=λz=>(lV g tp z).mpr;refine⟨λk z h=>p.i k z h (G z ?_),λk z y h=>p.t k z y h (G z ?_),λz ws h=>(p.s z ws h (G z ?_)).1⟩
 ·exact hG _ (hG _ (eO h))
 ·exact hJ _ (!an ⟨_,eO h,rfl⟩)
 ·exact hG _ (hJ _ (!an ⟨_,h,rfl⟩))
theorem Nx:WG N:=λrow st=>by
 have γ:∀n,n<=(@a1).length->∃f,Pre N row st ((@a1).take n) f:=by
  intro n
  induction n with
  | zero=>intro _;exact⟨λ_=>false,Pre.nil ..⟩
  | succ n ih=>
    intro hn;obtain⟨f,hf⟩:=ih @A;obtain⟨z,hz⟩:∃z,(@a1)[n]? =aY z:=⟨_,eH @A⟩;obtain⟨v,G⟩:=Sw (row:=row) (st:=st) (f:=f) g tp hz;have:=hf.step (xp g tp hz) G;rw[<-take_succ hz] at this;exact⟨_,this⟩
 obtain⟨f,hf⟩:=γ _ @U;rw[ix] at hf;exact⟨f,KJ g tp hf⟩
end
noncomputable abbrev NP:=Hp->ee->Nt->B'->Prop
def Hj (G:NP):Sp:=λvs H Q _=>∃(p:ee) (N:Nt) (od:B'),vs=[.ref p]/\G H p N od/\∀(D:ee) (H2:Hp),H D=gg->Same H H2->H2 D=aY (!A @co)->Q @W H2
def QY (G:NP):Sp:=λvs H Q _=>∃(p:ee) (N:Nt) (od:B'),vs=[.ref p]/\G H p N od/\∀(D:ee) (H2:Hp),H D=gg->Same H H2->H2 D=aY (!A (!ba V.str))->Q @W H2
def JZ (G:NP):Sp:=λvs H Q _=>∃(p:ee) (N:Nt) (od:B'),vs=[.ref p]/\G H p N od/\∀(D:ee) (H2:Hp) (qs:eP Qs),H D=gg->Same H H2->H2 D=aY (!A @cl)->QsK H2 qs->qs.map (·.2)=N.sts->Q @W H2
def Q4 (G:NP):Sp:=λvs H Q _=>∃(p:ee) (N:Nt) (od:B'),vs=[.ref p]/\G H p N od/\∀(D:ee) (H2:Hp),H D=gg->Same H H2->H2 D=aY (!b7 (@a1))->Q @W H2
def JW (G:NP) (Z Y L:ee):Sp:=λvs H Q _=>∃(p:ee) (N:Nt) (od:B') (z:kv),vs=[.ref p,.str z]/\G H p N od/\z∈N.names/\∀(w:ee) (H2:Hp),Same H H2->Wob H2 Z Y L N z w->Q (!j w) H2
noncomputable def bitK (f:R') (zs:B'):eP (Key×V):=zs.map λz=>(xY z,nat (M.bn (f z)))
def NL (G:NP):Sp:=λvs H Q _=>∃(p:ee) (N:Nt) (od:B') (row st:Nat),vs=[.ref p,nat row,nat st]/\G H p N od/\∀(d:ee) (H2:Hp) (f:R'),H d=gg->Same H H2->H2 d=aY (.dK (bitK f @a1))->Val N row st f->Q @b5 H2
def J5:Sp:=λvs H Q _=>∃(l d:ee) (ws zs:B') (f:R'),vs=[.ref l,.ref d]/\H l=aY (!A @bT)/\H d=aY (.dK (bitK f zs))/\ws.length<=100/\(∀w∈ws,w∈zs)/\∀H2,Same H H2->Q (nat (mat f ws)) H2
theorem Ak (f:R') {z:kv}:∀{zs:B'},z∈zs->valV (bitK f zs) (xY z)=aY (nat (M.bn (f z)))
 | [],h=>by cases h
 | y::zs,h=>by
   unfold bitK;rw[W'];by_cases e:y=z
   ·subst e;exact nh rfl
   ·rw[nj λh2=>e (Zy h2)];exact Ak f ((x8.mp h).resolve_left λh2=>e h2.symm)
theorem ML (f:R') (zs:B'):(bitK f zs).map (·.1)=zs.map Sum.inr:=by unfold bitK;rw[tu];rfl
theorem S1 (a b:Xb):WU ((M.bn a:Nat):Int) ((M.bn b:Nat):Int)=((M.bn (a^^b):Nat):Int):=by cases a<;>cases b<;>decide
theorem Sn (f:R'):∀ws:B',(ws.map λw=>((M.bn (f w):Nat):Int)).foldl WU 0=((M.bn (xb f ws):Nat):Int):=by
 intro ws
 induction ws using M.rev_ind with
 | h0=>rfl
 | h1 l x ih=>rw[eF,XT,ih,ml];exact S1 _ _
theorem UZ (f:R') (ws:B'):M.xm ((qB ws.length).filter λk=>f (!bv k))=mat f ws:=by
 have e:(qB ws.length).filter (λk=>f (!bv k))=M.pl ws.length (mat f ws):=by
  unfold M.pl;refine aq3 λk hk=>?_;rw[AZ,gB (W9.mp hk)];rfl
 rw[e,JC (U0 f ws)]
structure RunA (NA:NP) (H:Hp) (C p l n:ee) (N:Nt) (od:B') (st:Nat) (as:C'):Prop where
 ho:∃(dx d:ee),H p=aY (!aE [("net",.ref n),("held",nat st),("bits",.ref d),("given",.ref l)])
 hl:H l=aY (!A (as.map nat))
 na:NA H n N od
def K2 (p l:ee) (H H2:Hp):Prop:=∀b ob,b≠p->b≠l->H b=aY ob->H2 b=aY ob
def Hf (G:NP) (C:ee):Sp:=λvs H Q _=>∃(x dx n:ee) (N:Nt) (od:B'),vs=[.ref x,.ref n]/\H x=aY @b1/\G H n N od/\∀(H2:Hp) (l:ee),Kx x H H2->H l=gg->RunA G H2 C x l n N od 0 []->Q .non H2
def NO (G:NP) (C:ee):Sp:=λvs H Q _=>∃(p l n:ee) (N:Nt) (od:B') (st row:Nat) (as:C'),vs=[.ref p,nat row]/\RunA G H C p l n N od st as/\row < 2 ^ N.ins.length/\as.length<=900/\∀(H2:Hp),K2 p l H H2->RunA G H2 C p l n N od (nst N row st) (as++[nan N row st])->Q (nat (nan N row st)) H2
def NR (G:NP) (C:ee):Sp:=λvs H Q _=>∃(p l n:ee) (N:Nt) (od:B') (st:Nat) (as:C'),vs=[.ref p]/\RunA G H C p l n N od st as/\∀(D:ee) (H2:Hp),H D=gg->Same H H2->H2 D=aY (!A (as.map nat))->Q @W H2
def Kd (G:NP):Sp:=λvs H Q _=>∃(n r:ee) (N:Nt) (od:B') (rs:C'),vs=[.ref n,.ref r]/\G H n N od/\H r=aY (!A (rs.map nat))/\rs.length<=900/\(∀x∈rs,x < 2 ^ N.ins.length)/\∀(D:ee) (H2:Hp),H D=gg->Same H H2->H2 D=aY (!a7 (ran N 0 rs))->Q @W H2
theorem NetA.keep {H H2:Hp} {C β α Z n:ee} {N:Nt} {od:B'} (x:NetA H C β α Z n N od) {p η dx:ee} {fs:@az} (G:H p=aY (.ins η dx fs)) (hf:(∀(v:V) (r:eP (kv×V)),fs≠(("name":kv),v)::r)/\∀(v:V) (r:@az),fs≠(("ins":kv),v)::r) (k:Kx p H H2):NetA H2 C β α Z n N od:=by
 obtain⟨υ,i,s,t,o,d,γ,rs,qs,ws,a,b,c,e⟩:=x.ho
 have Y:∀q∈ws,q.2≠p:=λq δ z=>by
  obtain⟨θ,ζ,ε,L,_⟩:=(c.ob q δ).name;rw[z,G] at L;injection L with L
  injection L with _ _ L
  exact hf.1 _ _ L
 have hn:n≠p:=λz=>by
  rw[z,G] at a;injection a with a
  injection a with _ _ a
  exact hf.2 _ _ a
 exact⟨⟨υ,i,s,t,o,d,γ,rs,qs,ws,k _ _ hn a,k.kpt G b,k.wia c (cy c.d G λz=>by cases z) Y G,k.tup G e⟩,x.g,x.tp⟩
theorem NetA.updL {H H2:Hp} {C Z Y L n:ee} {N:Nt} {od:B'} (x:NetA H C Z Y L n N od) {l:ee} {xs:eP V} (hl:@bK) (k:Kx l H H2):NetA H2 C Z Y L n N od:=by
 obtain⟨υ,i,s,t,o,d,α,rs,qs,ws,a,b,c,e⟩:=x.ho;have G:∀{b:ee} {ys:eP V},H b=aY (!H ys)->H2 b=aY (!H ys):=λe=>k _ _ (cy e hl λz=>by cases z) e;refine⟨⟨υ,i,s,t,o,d,α,rs,qs,ws,k _ _ (cy a hl λz=>by cases z) a,⟨G b.i,G b.s,λr m=>⟨G (b.sr r m).1,G (b.sr r m).2⟩,b.es,G b.t,λq m=>G (b.tr q m),b.et,G b.o⟩,⟨k _ _ (cy c.d hl λz=>by cases z) c.d,c.nm,λq m=>(c.ob q m).keep hl k⟩,G e⟩,x.g,x.tp⟩
noncomputable def mixV (c k:Int):Int:=(@cu % 2147483647 * (@cu % 2147483647) % 2147483629) * (@cu % 2147483647 * (@cu % 2147483647) % 2147483629 + 48271 * k + 7) % 2147483587
theorem RY (c k:Int):0<=mixV c k:=zt _ @D
theorem RZ (c k:Int):mixV c k < 2147483587:=w5 _ @D
def Eo:Sp:=λvs H Q _=>∃(c k:Int),vs=[.int c,.int k]/\0<=k/\k < 100000/\Q (.int (!aV k)) H
noncomputable def JL:Str:=("cut x x0 x1 fresh new zero none nil tmp c c0 cut0 cut1 gnd off in out sum store":kv)++(" i0 i1 s0 s1 n0 n1 o0 o1 net wire a b z y0 t0 w w0 k dead open":kv)
noncomputable def W40:B':=Yd JL " "
theorem BG:W40.length=40:=by decide +kernel
theorem VL:W40.Nodup:=by decide +kernel
theorem VJ:∀z∈W40,nm z.cps.toList=true:=by decide +kernel
noncomputable def dval (l:C'):Nat:=l.foldl (λa c=>10 * a + (c - 48)) 0
noncomputable def tx (n:Nat):Str:=(toString (n:Int):X9)
noncomputable def txB (n:Nat):Bool:=decide ((dval (tx n).cps.toList=n/\(tx n).cps.toList.all fig=true)/\(tx n).cps.toList.length<=4)
noncomputable def txR (k:Nat):Bool:=(qB 250).all λi=>txB (250 * k + i)
theorem txk:∀k,k < 10->txR k=true
 | 0,_=>by decide +kernel
 | 1,_=>by decide +kernel
 | 2,_=>by decide +kernel
 | 3,_=>by decide +kernel
 | 4,_=>by decide +kernel
 | 5,_=>by decide +kernel
 | 6,_=>by decide +kernel
 | 7,_=>by decide +kernel
 | 8,_=>by decide +kernel
 | 9,_=>by decide +kernel
 | k + 10,h=>hE h @A
theorem wC:∀n:Fin 2500,(dval (tx n.1).cps.toList=n.1/\(tx n.1).cps.toList.all fig=true)/\(tx n.1).cps.toList.length<=4:=λn=>by
 have h:=Xn.mp (txk (n.1 / 250) @A) (n.1 % 250) (W9.mpr @A);rw[ZV] at h;exact y2 h
noncomputable def nmf (c k:Int):Str:=if mixV c 402 % 2=0 then W40.getD (@bg % 40).toNat "" else (⟨#[97 + (@bs).toNat]⟩:kv)++tx ((@aO).toNat + 37 * k.toNat)
theorem mH (x y:kv):(x++y).cps.toList=x.cps.toList++y.cps.toList:=by
 show(x.cps++y.cps).toList=_;rw[Array.toList_append]
theorem US (c:Int) {k:Int} (h0:0<=k) (h1:k < 40):Nm (nmf c k):=by
 unfold nmf;by_cases h:mixV c 402 % 2=0
 ·rw[lx h]
  have hi:(@bg % 40).toNat < W40.length:=by
   rw[BG];have:=w5 @bg (show(0:Int) < 40 by decide);have:=zt @bg (show(40:Int)≠0 by decide);omega
  rw[dt,eH hi];exact VJ _ (Xm hi)
 ·rw[kf h]
  have hb:(@aO).toNat + 37 * k.toNat < 2500:=by
   have:=w5 @bv (show(0:Int) < 1000 by decide);have:=zt @bv (show(1000:Int)≠0 by decide);omega
  obtain⟨⟨_,h2⟩,L⟩:=wC ⟨_,hb⟩
  have hd:low (97 + (@bs).toNat)=true:=by
   have:=w5 (!aV 400) (show(0:Int) < 26 by decide);have:=zt (!aV 400) (show(26:Int)≠0 by decide);unfold low;rw[gB @A,gB @A];rfl
  show nm _=true;rw[mH];show nm ((97 + (@bs).toNat)::(tx ((@aO).toNat + 37 * k.toNat)).cps.toList)=true;generalize hl:(tx ((@aO).toNat + 37 * k.toNat)).cps.toList=l at h2 L;generalize 97 + (@bs).toNat=d at hd;show(decide ((d::l).length<=6)&&low d&&(d::l).all λc=>low c||fig c)=true;rw[hd,aa2,hd]
  have ξ:l.all (λc=>low c||fig c)=true:=by
   rw[Xn] at h2 ⊢;intro x G;rw[h2 x G,al0]
  rw[ξ,W3,gB @A];rfl
theorem RS (c:Int) {j k:Int} (γ:0<=j) (β:j < 40) (k0:0<=k) (k1:k < 40) (e:nmf c j=nmf c k):j=k:=by
 unfold nmf at e;by_cases h:mixV c 402 % 2=0
 ·rw[lx h,lx h] at e;have δ:=w5 (j + mixV c 403) (show(0:Int) < 40 by decide);have ξ:=zt (j + mixV c 403) (show(40:Int)≠0 by decide);have hk:=w5 @bg (show(0:Int) < 40 by decide);have α:=zt @bg (show(40:Int)≠0 by decide);have L:((j + mixV c 403) % 40).toNat < W40.length:=by rw[BG];omega
  have lk:(@bg % 40).toNat < W40.length:=by rw[BG];omega
  rw[dt,dt,eH L,eH lk] at e;have G:W40[((j + mixV c 403) % 40).toNat]? =W40[(@bg % 40).toNat]? :=by rw[eH L,eH lk];exact oe aY e
  have:=(ae6 L VL).mp G;omega
 ·rw[kf h,kf h] at e;have hm:=w5 @bv (show(0:Int) < 1000 by decide);have Z:=zt @bv (show(1000:Int)≠0 by decide);have ι:(@aO).toNat + 37 * j.toNat < 2500:=by omega
  have θ:(@aO).toNat + 37 * k.toNat < 2500:=by omega
  have G:=oe (λz:kv=>z.cps.toList) e;simp only[mH] at G;have Y:=List.append_cancel_left G;have ο:=oe dval Y;rw[(wC ⟨_,ι⟩).1.1,(wC ⟨_,θ⟩).1.1] at ο;have ο:(@aO).toNat + 37 * j.toNat=(@aO).toNat + 37 * k.toNat:=ο;omega
def zM:Sp:=λvs H Q _=>∃(c k:Int),vs=[.int c,.int k]/\0<=k/\k < 40/\∀H2,Same H H2->Q (.str (nmf c k)) H2
def J6:Sp:=λvs H Q _=>∃(c:Int) (st:Int) (l:ee) (zs:B') (dg:Xb),vs=[.int c,.int st,.ref l,.bl dg]/\0<=st/\st<=900/\H l=aY (!A @aP)/\zs.length<=50/\∀(D:ee) (H2:Hp) (ws:B'),H D=gg->Same H H2->H2 D=aY (!A @bT)->ws.length<=4->(∀w∈ws,w∈zs)->Q @W H2
theorem zQ (i:Int) (h0:0<=i) (h1:i < 26):atI ("abcdefghijklmnopqrstuvwxyz":kv).cps.toList i=aY (97 + i.toNat):=by
 have e:("abcdefghijklmnopqrstuvwxyz":kv).cps.toList=ag3 97 26:=by decide +kernel
 obtain⟨j,rfl⟩:=Xu h0;rw[e];refine dB ?_;rw[List.getElem?_range' @A];show aY (97 + 1 * j)=aY (97 + (j:Int).toNat);rw[ah9,n']
def RwL (H:Hp) (rs:eP Rw):Prop:=∀r∈rs,H r.1=aY @bF/\H r.2.1=aY (!A @bq)
theorem RwL.same {H H2:Hp} {rs:eP Rw} (h:RwL H rs) (s:@ao):RwL H2 rs:=λr m=>⟨s.get (h r m).1,s.get (h r m).2⟩
noncomputable def nms (c:Int) (a n:Nat):B':=(qB n).map λk=>nmf c ((a + k:Nat):Int)
theorem fO (c:Int) (a n:Nat):(nms c a n).length=n:=by unfold nms;rw[a',W1]
theorem sI (c:Int) (a n:Nat):nms c a (n + 1)=nms c a n++[nmf c ((a + n:Nat):Int)]:=by unfold nms;rw[Y7,eF];rfl
theorem kO {c:Int} {a n:Nat} {z:kv} (h:z∈nms c a n):∃k,k < n/\z=nmf c ((a + k:Nat):Int):=by
 obtain⟨k,hk,rfl⟩:=hC.mp h;exact⟨k,W9.mp hk,rfl⟩
theorem UR {c:Int} {a n k:Nat} (h:k < n):nmf c ((a + k:Nat):Int)∈nms c a n:=hC.mpr ⟨k,W9.mpr h,rfl⟩
theorem AV (c:Int) {j k:Nat} (G:j < 40) (k1:k < 40) (e:nmf c (j:Int)=nmf c (k:Int)):j=k:=by
 have:=RS c @A @A @A @A e;omega
structure Mk (c:Int) (ni nt:Nat) (rows:@aY):Prop where
 nm:rows.map (·.1)=nms c 22 rows.length
 ws:∀(k:Nat) r,rows[k]? =aY r->r.2.length<=4/\∀w∈r.2,w∈nms c 0 ni++nms c 6 nt++nms c 22 k
theorem Mk.nil (c:Int) (L G:Nat):Mk c L G []:=⟨rfl,λk r h=>by simp at h⟩
theorem Mk.put {c:Int} {Y L:Nat} {G:@aY} (m:Mk c Y L G) {ws:B'} (l:ws.length<=4) (h:∀w∈ws,w∈nms c 0 Y++nms c 6 L++nms c 22 G.length):Mk c Y L (G++[(nmf c ((22 + G.length:Nat):Int),ws)]):=by
 refine⟨by rw[eF,m.nm,fy,u9,sI];rfl,λk r hk=>?_⟩;by_cases Z:k < G.length
 ·rw[la Z] at hk;exact m.ws k r hk
 ·rw[lB @A] at hk
  have:k - G.length=0:=by
   have:=(@bn).1;rw[u9] at this;omega
  rw[this] at hk;cases hk;rw[show k=G.length by omega];exact⟨l,h⟩
noncomputable def xf (f:@bt) (ws:B'):Nat:=ws.foldl (λa w=>a^^^f w) 0
theorem jF (f:@bt) (ws:B') (w:kv):xf f (ws++[w])=xf f ws^^^f w:=by unfold xf;rw[XT];rfl
theorem Pp (f:@bt) (j:Nat):∀ws:B',(xf f ws).testBit j=xb (λw=>(f w).testBit j) ws:=by
 intro ws
 induction ws using M.rev_ind with
 | h0=>show(0:Nat).testBit j=false;exact WO j
 | h1 l x ih=>rw[jF,ml,w7,ih]
theorem UL (f:@bt) (y:Nat):∀ws:B',M.od (xf f ws&&&y)=xb (λw=>M.od (f w&&&y)) ws:=by
 intro ws
 induction ws using M.rev_ind with
 | h0=>show M.od (0&&&y)=false;rw[Yg];exact M.od_zero
 | h1 l x ih=>rw[jF,ml,X8,M.and_xor,M.od_xor,X8 y,X8 y,ih]
theorem Mc (f:@bt):∀ws:B',(ws.map λw=>((f w:Nat):Int)).foldl WU 0=((xf f ws:Nat):Int):=by
 intro ws
 induction ws using M.rev_ind with
 | h0=>rfl
 | h1 l x ih=>rw[jF,eF,XT,ih];exact fw _ _
structure Hng (N:Nt) (p:@aU):Prop where
 i:∀(k:Nat) z,N.ins[k]? =aY z->p z=(0,2 ^ k)
 t:∀(k:Nat) z y,N.sts[k]? =aY (z,y)->p z=(2 ^ k,0)
 s:∀z ws,(z,ws)∈N.sums->p z=(xf (λw=>(p w).1) ws,xf (λw=>(p w).2) ws)
noncomputable def hvl (p:@aU) (row st:Nat):R':=λz=>M.od ((p z).1&&&st)^^M.od ((p z).2&&&row)
theorem Hng.val {N:Nt} (g:Gn N) {p:@aU} (h:Hng N p) (row st:Nat):Val N row st (hvl p row st):=by
 refine⟨λk z hk=>?_,λk z y hk=>?_,λz ws hz=>?_⟩
 ·have:=(@bn).1;have:=g.li;unfold hvl;rw[h.i k z hk,Yg,M.od_zero,M.od_pow @A];exact Z1 _
 ·have:=(@bn).1;have:=g.lt;unfold hvl;rw[h.t k z y hk,Yg,M.od_zero,M.od_pow @A];exact Ym _
 ·unfold hvl;rw[h.s z ws hz,UL,UL];exact(S3 _ _ ws).symm
noncomputable def hgp (N:Nt) (z:kv):Nat×Nat:=(M.pk (λk=>fv N 0 (2 ^ k) z) 0 N.sts.length,M.pk (λk=>fv N (2 ^ k) 0 z) 0 N.ins.length)
theorem CV (N:Nt) (z:kv):(hgp N z).1 < 2 ^ N.sts.length:=M.pk_lt _ _ _
theorem LS (N:Nt) (z:kv):(hgp N z).2 < 2 ^ N.ins.length:=M.pk_lt _ _ _
theorem Pr (b:Xb) (f:R'):∀ws:B',xb (λw=>b&&f w) ws=(b&&xb f ws):=by
 intro ws
 induction ws using M.rev_ind with
 | h0=>show false=(b&&false);rw[XH]
 | h1 l x ih=>rw[ml,ml,ih];cases b<;>simp
theorem x4 {N:Nt} (g:Gn N) {od:B'} (tp:!bG od):Hng N (hgp N):=by
 have v:∀r s,Val N r s (fv N r s):=λr s=>ah2 (Nx g tp r s);refine⟨λk z hk=>?_,λk z y hk=>?_,λz ws hz=>?_⟩
 ·have hl:=(@bn).1;refine ae2 @bD @bD
  ·show(M.pk _ 0 _).testBit j=(0:Nat).testBit j;rw[M.pk_bit,Y5,(v 0 @aW).i k z hk,WO,WO,XH]
  ·show(M.pk _ 0 _).testBit j=(2 ^ k:Nat).testBit j;rw[M.pk_bit,Y5,(v @aW 0).i k z hk,ri,ri];by_cases e:k=j
   ·subst e;rw[gB hl,gB rfl];rfl
   ·rw[show decide (k=j)=false from f' e,show decide (j=k)=false from f' (λh=>e h.symm),XH]
 ·have hl:=(@bn).1;refine ae2 @bD @bD
  ·show(M.pk _ 0 _).testBit j=(2 ^ k:Nat).testBit j;rw[M.pk_bit,Y5,(v 0 @aW).t k z y hk,ri,ri];by_cases e:k=j
   ·subst e;rw[gB hl,gB rfl];rfl
   ·rw[show decide (k=j)=false from f' e,show decide (j=k)=false from f' (λh=>e h.symm),XH]
  ·show(M.pk _ 0 _).testBit j=(0:Nat).testBit j;rw[M.pk_bit,Y5,(v @aW 0).t k z y hk,WO,WO,XH]
 ·refine ae2 @bD @bD
  ·show(M.pk _ 0 _).testBit j=(xf _ ws).testBit j;rw[M.pk_bit,Y5,(v 0 @aW).s z ws hz,Pp,<-Pr];exact vX λw _=>by show _=(M.pk _ 0 _).testBit j;rw[M.pk_bit,Y5]
  ·show(M.pk _ 0 _).testBit j=(xf _ ws).testBit j;rw[M.pk_bit,Y5,(v @aW 0).s z ws hz,Pp,<-Pr];exact vX λw _=>by show _=(M.pk _ 0 _).testBit j;rw[M.pk_bit,Y5]
theorem K3 {x j:Nat} (h:j < 1000):M.od (x&&&2 ^ j)=x.testBit j:=by rw[X8];exact M.od_pow h x
theorem GK {N:Nt} (g:Gn N) {od:B'} (tp:!bG od) {p:@aU} (h:Hng N p) {z:kv} (hz:z∈N.names) (b1:(p z).1 < 2 ^ N.sts.length) (b2:(p z).2 < 2 ^ N.ins.length):hgp N z=p z:=by
 have li:=g.li;have lt:=g.lt;refine ae2 @bD @bD
 ·show(M.pk _ 0 _).testBit j=(p z).1.testBit j;rw[M.pk_bit,Y5];by_cases G:j < N.sts.length
  ·rw[<-O0 g tp (h.val g 0 @aW) z hz,gB G];unfold hvl;rw[Yh,M.od_zero,K3 @A];simp
  ·rw[f' G,u7 (!a6 b1 @A)];rfl
 ·show(M.pk _ 0 _).testBit j=(p z).2.testBit j;rw[M.pk_bit,Y5];by_cases G:j < N.ins.length
  ·rw[<-O0 g tp (h.val g @aW 0) z hz,gB G];unfold hvl;rw[Yh,M.od_zero,K3 @A];simp
  ·rw[f' G,u7 (!a6 b2 @A)];rfl
theorem Qc (p:@aU) (row st:Nat) (ws:B'):mat (hvl p row st) ws=M.tr2 (ws.map p) st row:=by
 apply iv;intro k;rw[AZ,M.tr2_bit,a'];by_cases hk:k < ws.length
 ·have G:(ws.map p).getD k (0,0)=p (!bv k):=by rw[dt,hB,dt,eH hk];rfl
  rw[G];unfold hvl;exact Eq.refl _
 ·rw[f' hk,WT,WT]
section
variable {N:Nt} (g:Gn N) {od:B'} (tp:Topo N.sums od) {p:kv->Nat×Nat} (h:Hng N p)
include g tp h
theorem UU (row st:Nat):nan N row st=M.tr2 (!ba p) st row:=by rw[<-Qa g tp (h.val g row st),Qc]
theorem UP (row st:Nat):nst N row st=M.tr2 ((N.sts.map (·.2)).map p) st row:=by rw[<-P7 g tp (h.val g row st),Qc]
theorem Kv:∀(rs:C') (st:Nat),ran N st rs=M.wan ((N.sts.map (·.2)).map p) (!ba p) st rs
 | [],_=>rfl
 | r::rs,st=>by show nan N r st::ran N (nst N r st) rs=M.tr2 _ st r::M.wan _ _ (M.tr2 _ st r) rs;rw[Kv rs,UP g tp h,UU g tp h]
end
structure Hgd (H:Hp) (d:ee) (N:Nt) (zs:B') (hs:Tn):Prop where
 d:H d=aY (.dK (hs.map λq=>(xY q.1,V.ref q.2)))
 nm:hs.map (·.1)=zs
 ob:∀q∈hs,H q.2=aY (!bP (hgp N q.1) (hgp N q.1))
theorem Hgd.same {H H2:Hp} {d:ee} {N:Nt} {zs:B'} {hs:Tn} (x:Hgd H d N zs hs) (s:@ao):Hgd H2 d N zs hs:=⟨s.get x.d,x.nm,λq m=>s.get (x.ob q m)⟩
theorem Ny {hs:Tn} {z:kv}:z∈hs.map (·.1)->∃t,(z,t)∈hs/\valV (hs.map λq=>((xY q.1:Key),V.ref q.2)) (xY z)=aY @ab:=by
 induction hs with
 | nil=>intro h;cases h
 | cons q hs ih=>
   intro h;by_cases e:q.1=z
   ·subst e;exact⟨q.2,mu,by show valV ((xY q.1,V.ref q.2)::_) (xY q.1)=_;exact nh rfl⟩
   ·have h':z∈hs.map (·.1):=by
     rw[W',x8] at h;exact h.resolve_left λG=>e G.symm
    obtain⟨t,m,v⟩:=ih h';refine⟨t,ov _ m,?_⟩;show valV ((xY q.1,V.ref q.2)::_) (xY z)=_;rw[nj λG=>e (Zy G)];exact v
theorem Hgd.val {H:Hp} {d:ee} {N:Nt} {zs:B'} {hs:Tn} (x:Hgd H d N zs hs) {z:kv} (h:z∈zs):∃t,valV (hs.map λq=>((xY q.1:Key),V.ref q.2)) (xY z)=aY @ab/\H t=aY (!bP (hgp N z) (hgp N z)):=by
 obtain⟨t,m,v⟩:=Ny (hs:=hs) (z:=z) (by rw[x.nm];exact h);exact⟨t,v,x.ob _ m⟩
def N7 (G:NP):Sp:=λvs H Q _=>∃(p:ee) (N:Nt) (od:B'),vs=[.ref p]/\G H p N od/\∀(d:ee) (H2:Hp) (hs:Tn),H d=gg->Same H H2->Hgd H2 d N @a1 hs->Q @b5 H2
def NM (G:NP) (C:ee):Sp:=λvs H Q _=>∃(p:ee) (N:Nt) (od:B'),vs=[.ref p]/\G H p N od/\∀(x:ee) (H2:Hp) (nx os:@R),H x=gg->Same H H2->MaA H2 C x N.ins.length nx os->MaG N.ins.length nx os->prs nx=(N.sts.map (·.2)).map (hgp N)->prs os=N.outs.map (hgp N)->Q (!j x) H2
noncomputable def nmb (l:kv) (n:Nat):B':=(qB n).map λk=>l++tx k
theorem bR (l:kv) (n:Nat):(nmb l n).length=n:=by unfold nmb;rw[a',W1]
theorem Oz (l:kv) (n:Nat):nmb l (n + 1)=nmb l n++[l++tx n]:=by unfold nmb;rw[Y7,eF];rfl
theorem AW {l:kv} {n k:Nat} (h:k < n):(nmb l n)[k]? =aY (l++tx k):=by unfold nmb;rw[hB,Xf h];rfl
theorem P9 {l:kv} {n k:Nat} (h:k < n):l++tx k∈nmb l n:=eO (AW h)
theorem Cy {l:kv} {n k:Nat} {z:kv} (h:(nmb l n)[k]? =aY z):k < n/\z=l++tx k:=by
 have hk:=(!K h).1;rw[bR] at hk;rw[AW hk] at h;exact⟨hk,(qA h).symm⟩
theorem uq {l:kv} {n:Nat} {z:kv} (h:z∈nmb l n):∃k,k < n/\z=l++tx k:=by
 obtain⟨k,hk⟩:=WX.mp h;exact⟨k,Cy hk⟩
theorem DF:("s":kv).cps.toList=[115]:=by decide +kernel
theorem DI:("i":kv).cps.toList=[105]:=by decide +kernel
theorem DH:("n":kv).cps.toList=[110]:=by decide +kernel
theorem DG:("o":kv).cps.toList=[111]:=by decide +kernel
theorem tS {k:Nat} (h:k < 2500):dval (tx k).cps.toList=k:=(wC ⟨k,h⟩).1.1
theorem KW {l L:kv} {c d j k:Nat} (h1:@cK) (h2:L.cps.toList=[d]) (Y:j < 2500) (hk:k < 2500) (e:l++tx j=L++tx k):c=d/\j=k:=by
 have G:=oe (λz:kv=>z.cps.toList) e;simp only[mH] at G;rw[h1,h2,XR,XR] at G;injection G with a b
 have:=oe dval b;rw[tS Y,tS hk] at this;exact⟨a,this⟩
theorem Gw {l:kv} {c k:Nat} (h1:@cK) (hc:low c=true) (hk:k < 2500):Nm (l++tx k):=by
 obtain⟨⟨_,h2⟩,L⟩:=wC ⟨k,hk⟩;show nm _=true;rw[mH,h1,XR];generalize hl:(tx k).cps.toList=l at h2 L;show(decide ((c::l).length<=6)&&low c&&(c::l).all λc=>low c||fig c)=true;rw[hc,aa2,hc]
 have ξ:l.all (λc=>low c||fig c)=true:=by
  rw[Xn] at h2 ⊢;intro x G;rw[h2 x G,al0]
 rw[ξ,W3,gB @A];rfl
theorem GB {l:kv} {c n:Nat} (h1:@cK) (hn:n<=2500):(nmb l n).Nodup:=by
 unfold nmb;rw[List.nodup_iff_pairwise_ne,ZA];refine Zl (λ{a b} ha hb G e=>?_) (al2 (n:=n));have:=(KW h1 h1 (by have:=W9.mp ha;omega) (by have:=W9.mp hb;omega) e).2;omega
theorem mC {l L:kv} {c d n ι:Nat} (h1:@cK) (h2:L.cps.toList=[d]) (θ:c≠d) (hn:n<=2500) (Y:ι<=2500) {z:kv} (hz:z∈nmb l n):z∉nmb L ι:=λG=>by
 obtain⟨j,Z,rfl⟩:=uq hz;obtain⟨k,hk,e⟩:=uq G;exact θ (KW h1 h2 @A @A e).1
noncomputable def wr2 (q:@b0):B':=(!aR q.1).map (λk=>("s":kv)++tx k)++(!aR q.2).map (λk=>("i":kv)++tx k)
noncomputable def jR (m:Nat) (ps os:A'):Nt:=⟨nmb "i" m,Ys @cU ((ps++os).map wr2),Ys (nmb "s" ps.length) (nmb "n" ps.length),nmb "o" os.length⟩
structure Sml (m:Nat) (ps os:A'):Prop where
 m6:m<=6
 lp:ps.length<=16
 lo:os.length<=6
 bn:∀q∈ps++os,q.1 < 2 ^ ps.length/\q.2 < 2 ^ m
section
variable {m:Nat} {ps os:A'} (b:Sml m ps os)
include b
theorem JK {q:@b0} (hq:q∈ps++os) {z:kv} (h:z∈wr2 q):z∈nmb "s" ps.length∨z∈nmb "i" m:=by
 have hb:=b.bn q hq;rcases gs.mp h with h | h
 ·obtain⟨k,hk,rfl⟩:=hC.mp h;exact !E (P9 (M.pl_lt hb.1 k hk))
 ·obtain⟨k,hk,rfl⟩:=hC.mp h;exact !I (P9 (M.pl_lt hb.2 k hk))
theorem GE:(jR m ps os).sums.map (·.1)=nmb "n" ps.length++nmb "o" os.length:=by
 show(Ys _ _).map Z'=_;rw[ac7];rw[fy,bR,bR,a',fy];exact mc _
theorem GD:(jR m ps os).sts.map (·.1)=nmb "s" ps.length:=by
 show(Ys _ _).map Z'=_;rw[ac7];rw[bR,bR];exact mc _
theorem GC:(jR m ps os).sts.map (·.2)=nmb "n" ps.length:=by
 show(Ys _ _).map am4=_;rw[ar2];rw[bR,bR];exact mc _
theorem kP:(jR m ps os).names=nmb "i" m++@cU++nmb "s" ps.length:=by
 unfold Nt.names;rw[GE b,GD b];rfl
theorem xq {z:kv} {ws:B'} (h:(z,ws)∈(jR m ps os).sums):∃q∈ps++os,ws=wr2 q:=by
 have:=(aa9 (show(z,ws)∈Ys _ _ from h)).2;obtain⟨q,G,e⟩:=hC.mp this;exact⟨q,G,e.symm⟩
theorem uu:Gn (jR m ps os) where
 li:=by show(nmb "i" m).length<=6;rw[bR];exact b.m6
 ls:=by
  show(Ys _ _).length<=40;have:=b.lp;have:=b.lo;rw[Ze,fy,bR,bR,a',fy];omega
 lt:=by
  show(Ys _ _).length<=16;have:=b.lp;rw[Ze,bR,bR];omega
 lo:=by show(nmb "o" os.length).length<=6;rw[bR];exact b.lo
 lw:=λr L=>by
  obtain⟨q,Z,e⟩:=xq b (z:=r.1) (ws:=r.2) L;rw[e];unfold wr2;have hb:=b.bn q Z;have β:M.pl 1000 q.1=M.pl ps.length q.1:=M.pl_up hb.1 (by have:=b.lp;omega);have α:M.pl 1000 q.2=M.pl m q.2:=M.pl_up hb.2 (by have:=b.m6;omega);rw[fy,a',a',β,α];have:=M.pl_le ps.length q.1;have:=M.pl_le m q.2;have:=b.lp;have:=b.m6;omega
 nm:=λz hz=>by
  have:=b.lp;have:=b.lo;have:=b.m6;rw[kP b] at hz;rcases gs.mp hz with h | h
  ·rcases gs.mp h with h | h
   ·obtain⟨k,hk,rfl⟩:=uq h;exact Gw DI @D @A
   ·rcases gs.mp h with h | h
    ·obtain⟨k,hk,rfl⟩:=uq h;exact Gw DH @D @A
    ·obtain⟨k,hk,rfl⟩:=uq h;exact Gw DG @D @A
  ·obtain⟨k,hk,rfl⟩:=uq h;exact Gw DF @D @A
 nd:=by
  have:=b.lp;have:=b.lo;have:=b.m6;rw[kP b,WY,WY,WY];refine⟨⟨GB DI @A,⟨GB DH @A,GB DG @A,λx Y y G e=>mC DH DG @D @A @A Y (e ▸ G)⟩,λx Y y G e=>?_⟩,GB DF @A,λx Y y G e=>?_⟩
  ·subst e;rcases gs.mp G with h | h
   ·exact mC DI DH @D @A @A Y h
   ·exact mC DI DG @D @A @A Y h
  ·subst e;rcases gs.mp Y with h | h
   ·exact mC DI DF @D @A @A h G
   ·rcases gs.mp h with h | h
    ·exact mC DH DF @D @A @A h G
    ·exact mC DG DF @D @A @A h G
 ws:=λr L z hz=>by
  obtain⟨q,Z,e⟩:=xq b (z:=r.1) (ws:=r.2) L;rw[e] at hz;rw[kP b];rcases JK b Z hz with h | h
  ·exact hJ _ h
  ·exact hG _ (hG _ h)
 ts:=λr L=>by
  have:r.2∈(jR m ps os).sts.map (·.2):=hC.mpr ⟨r,L,rfl⟩;rw[GC b] at this;rw[kP b];exact hG _ (hJ _ (hG _ this))
 os:=λz hz=>by
  rw[kP b];exact hG _ (hJ _ (hJ _ hz))
 rk:=⟨λ_=>0,λr L z hz hs=>by
  have:=b.lp;have:=b.lo;have:=b.m6;obtain⟨q,Z,e⟩:=xq b (z:=r.1) (ws:=r.2) L;rw[e] at hz;rw[GE b] at hs;rcases JK b Z hz with h | h
  ·rcases gs.mp hs with h' | h'
   ·exact hE h' (mC DF DH @D @A @A h)
   ·exact hE h' (mC DF DG @D @A @A h)
  ·rcases gs.mp hs with h' | h'
   ·exact hE h' (mC DI DH @D @A @A h)
   ·exact hE h' (mC DI DG @D @A @A h)⟩
end
noncomputable def dec (ps os:A') (z:kv):Nat×Nat:=match z.cps.toList with
 | []=>(0,0)
 | c::r=>if c=105 then (0,2 ^ dval r) else if c=115 then (2 ^ dval r,0) else if c=110 then ps.getD (dval r) (0,0) else os.getD (dval r) (0,0)
theorem Su (ps os:A') {k:Nat} (h:k < 2500):dec ps os (("i":kv)++tx k)=(0,2 ^ k):=by
 unfold dec;rw[mH,DI,XR];dsimp only;rw[lx rfl,tS h]
theorem Ss (ps os:A') {k:Nat} (h:k < 2500):dec ps os (("s":kv)++tx k)=(2 ^ k,0):=by
 unfold dec;rw[mH,DF,XR];dsimp only;rw[kf @D,lx rfl,tS h]
theorem Vu (ps os:A') {k:Nat} (h:k < 2500):dec ps os (("n":kv)++tx k)=ps.getD k (0,0):=by
 unfold dec;rw[mH,DH,XR];dsimp only;rw[kf @D,kf @D,lx rfl,tS h]
theorem Vt (ps os:A') {k:Nat} (h:k < 2500):dec ps os (("o":kv)++tx k)=os.getD k (0,0):=by
 unfold dec;rw[mH,DG,XR];dsimp only;rw[kf @D,kf @D,kf @D,tS h]
theorem Pq (f:@bt) (a c:B'):xf f (a++c)=xf f a^^^xf f c:=by
 induction c using M.rev_ind with
 | h0=>rw[XI];exact(Xo _).symm
 | h1 l x ih=>rw[<-Yj,jF,jF,ih,Xx]
theorem Po (f:@bt):∀(ws:B'),(∀w∈ws,f w=0)->xf f ws=0:=by
 intro ws
 induction ws using M.rev_ind with
 | h0=>intro _;rfl
 | h1 l x ih=>intro h;rw[jF,ih λw hw=>h w (hG _ hw),h x (hJ _ @bY)];rfl
theorem Pn (f:@bt) (nm:Nat->kv):∀(l:C'),(∀k∈l,f (nm k)=2 ^ k)->xf f (l.map nm)=M.xm l:=by
 intro l
 induction l using M.rev_ind with
 | h0=>intro _;rfl
 | h1 l x ih=>intro h;rw[eF,Yw,jF,M.xm_snoc,ih λw hw=>h w (hG _ hw),h x (hJ _ @bY)]
theorem Sr (ps os:A') {q:@b0} (h1:q.1 < 2 ^ 1000) (h2:q.2 < 2 ^ 1000):(xf (λw=>(dec ps os w).1) (wr2 q),xf (λw=>(dec ps os w).2) (wr2 q))=q:=by
 have hl:∀{x k:Nat},k∈M.pl 1000 x->k < 2500:=λ{x k} h=>by
  have:=W9.mp (Xs.mp h).1;omega
 unfold wr2;rw[Pq,Pq];refine ae2 ?_ ?_
 ·show _^^^_=q.1;rw[Pn _ _ _ (λk hk=>by rw[Ss _ _ (hl hk)]),Po _ _ (λw hw=>by obtain⟨k,hk,rfl⟩:=hC.mp hw;rw[Su _ _ (hl hk)]),JC h1,Xo]
 ·show _^^^_=q.2;rw[Po _ (Zc _ (!aR q.1)) (λw hw=>by obtain⟨k,hk,rfl⟩:=hC.mp hw;rw[Ss _ _ (hl hk)]),Pn _ _ _ (λk hk=>by rw[Su _ _ (hl hk)]),JC h2,Yn]
section
variable {m:Nat} {ps os:A'} (b:Sml m ps os)
include b
theorem Lh:Hng (jR m ps os) (dec ps os) where
 i:=λk z h=>by
  have:=b.m6;obtain⟨hk,rfl⟩:=Cy (show(nmb "i" m)[k]? =aY z from h);exact Su _ _ @A
 t:=λk z y h=>by
  have:=b.lp;have h':=(XY (l₁:=nmb "s" ps.length) (l₂:=nmb "n" ps.length)).mp h;obtain⟨hk,e⟩:=Cy h'.1;have e:z=_:=e;rw[e];exact Ss _ _ @A
 s:=λz ws h=>by
  have:=b.lp;have:=b.lo;have:=b.m6;obtain⟨k,hk⟩:=WX.mp h;have h':=(XY (l₁:=nmb "n" ps.length++nmb "o" os.length) (l₂:=(ps++os).map wr2)).mp hk;obtain⟨h1,h2⟩:=h';have h1:(@cU)[k]? =aY z:=h1;have h2:((ps++os).map wr2)[k]? =aY ws:=h2;rw[hB] at h2;obtain⟨q,G,rfl⟩:=Yf.mp h2;have hb:=b.bn q (eO G);rw[Sr ps os (!a6 hb.1 @A) (!a6 hb.2 @A)];by_cases L:k < ps.length
  ·rw[la (by rw[bR];exact L)] at h1;obtain⟨_,rfl⟩:=Cy h1;rw[Vu _ _ @A,dt];rw[la L] at G;rw[G];rfl
  ·rw[lB (by rw[bR];omega),bR] at h1;obtain⟨_,rfl⟩:=Cy h1;rw[Vt _ _ @A,dt];rw[lB @A] at G;rw[G];rfl
theorem OB:(jR m ps os).sts.length=ps.length:=by
 have:=oe w3 (GD b);rw[a',bR] at this;exact this
theorem Qq:((jR m ps os).sts.map (·.2)).map (dec ps os)=ps:=by
 rw[GC b];have:=b.lp;apply Z7;intro k;rw[hB];by_cases hk:k < ps.length
 ·rw[AW hk,ao4,Vu _ _ @A,dt,eH hk];rfl
 ·rw[Xh (by rw[bR];omega),Xh @A];rfl
theorem Qp:(jR m ps os).outs.map (dec ps os)=os:=by
 show(nmb "o" os.length).map _=os;have:=b.lo;apply Z7;intro k;rw[hB];by_cases hk:k < os.length
 ·rw[AW hk,ao4,Vt _ _ @A,dt,eH hk];rfl
 ·rw[Xh (by rw[bR];omega),Xh @A];rfl
theorem Lg {od:B'} (tp:Topo (jR m ps os).sums od):((jR m ps os).sts.map (·.2)).map (hgp (jR m ps os))=ps/\(jR m ps os).outs.map (hgp (jR m ps os))=os:=by
 have g:=uu b;have hn:=Lh b
 have bd:∀q∈ps++os,q.1 < 2 ^ (jR m ps os).sts.length/\q.2 < 2 ^ (jR m ps os).ins.length:=λq G=>by
  rw[OB b,show(jR m ps os).ins.length=m from bR _ _];exact b.bn q G
 constructor
 ·refine Eq.trans (WZ λz hz=>?_) (Qq b);have hm:dec ps os z∈ps:=by have:=hC.mpr ⟨z,hz,(rfl:dec ps os z=_)⟩;rw[Qq b] at this;exact this
  have hb:=bd _ (hG _ hm);obtain⟨q,G,rfl⟩:=hC.mp hz;exact GK g tp hn (g.ts q G) hb.1 hb.2
 ·refine Eq.trans (WZ λz hz=>?_) (Qp b);have hm:dec ps os z∈os:=by have:=hC.mpr ⟨z,hz,(rfl:dec ps os z=_)⟩;rw[Qp b] at this;exact this
  have hb:=bd _ (hJ _ hm);exact GK g tp hn (g.os z hz) hb.1 hb.2
end
theorem MG {k:Nat} (hk:k<=1000):((k:Int)).natAbs.log2 < 1920:=by
 rw[ae1];rcases aq0 k with z | z
 ·rw[z];decide
 ·exact(ad0 @A).mpr (gA (show k < 2 ^ 14 by omega) (hL @D @D))
theorem GX {l:kv} {k:Nat} (hl:l.length<=10) (hk:k<=1000):l.length + (tx k).length<=sizeLine:=by
 have G:=YU (MG hk);rw[lj];show l.length + (toString (k:Int):kv).length<=_;omega
def Q1:Sp:=λvs H Q _=>∃(l:kv) (n:Nat),vs=[.str l,nat n]/\l.length<=10/\n<=1000/\∀(D:ee) (H2:Hp),H D=gg->Same H H2->H2 D=aY (!b7 (nmb l n))->Q @W H2
def Q2:Sp:=λvs H Q _=>∃(z:kv) (t:ee) (x y:Nat),vs=[.str z,.ref t]/\H t=aY (!H [nat x,nat y])/\x < 2 ^ 1000/\y < 2 ^ 1000/\∀(tt D:ee) (H2:Hp),H D=gg->Same H H2->H2 tt=aY (!H [.str z,.ref D])->H2 D=aY (!b7 (wr2 (x,y)))->Q (!j tt) H2
def NV (G:NP) (C:ee):Sp:=λvs H Q _=>∃(p:ee) (m:Nat) (nx os:@R),vs=[.ref p]/\MaA H C p m nx os/\Sml m @N @X/\∀(n:ee) (H2:Hp) (od:B'),H n=gg->Same H H2->G H2 n (jR m @N @X) od->Q (!j n) H2
end Sx
namespace M
noncomputable def stj (ps:A'):C'->Nat->C'
 | S,0=>S
 | S,j + 1=>(stj ps S j).map λx=>tr2 ps x 0
noncomputable def sg0 (ps:A') (m:Nat):C':=(qB m).map λw=>tr2 ps 0 @aD
noncomputable def rch (ps:A') (m:Nat):Nat->C'
 | 0=>[]
 | T + 1=>stj ps @au T++rch ps m T
theorem stj_len (ps:A') (S:C'):∀j,(stj ps S j).length=S.length
 | 0=>rfl
 | j + 1=>by show((stj ps S j).map _).length=_;rw[a',stj_len ps S j]
theorem sg0_len (ps:A') (m:Nat):(@au).length=m:=by unfold sg0;rw[a',W1]
theorem rch_len (ps:A') (m:Nat):∀T,(rch ps m T).length=T * m
 | 0=>by show 0=0 * m;rw[ai7]
 | T + 1=>by show(stj ps @au T++rch ps m T).length=_;rw[fy,stj_len,sg0_len,rch_len ps m T,am3,ah9,af9]
theorem stj_lt (ps:A') (m:Nat):∀j,∀x∈stj ps (sg0 ps m) j,x < 2 ^ ps.length
 | 0,x,h=>by obtain⟨w,_,rfl⟩:=hC.mp h;exact !b9 _ _
 | j + 1,x,h=>by obtain⟨y,_,rfl⟩:=hC.mp h;exact !b9 _ _
theorem rch_lt (ps:A') (m:Nat):∀T,∀x∈rch ps m T,x < 2 ^ ps.length
 | 0,x,h=>hE h (by simp[rch])
 | T + 1,x,h=>(gs.mp h).elim (stj_lt ps m T x) (rch_lt ps m T x)
theorem Ga (ps:A'):∀(G:C') (F:Nat),tr2 ps (sm G F) 0=sm (G.map λx=>tr2 ps x 0) F
 | [],F=>rW ps
 | r::G,F=>by
   show tr2 ps ((if F.testBit 0 then r else 0)^^^sm G (F / 2)) 0=(if F.testBit 0 then tr2 ps r 0 else 0)^^^sm (G.map λx=>tr2 ps x 0) (F / 2);have e:=oK ps (if F.testBit 0 then r else 0) (sm G (F / 2)) 0 0;rw[Yo] at e;rw[e,Ga ps G];cases F.testBit 0<;>simp[rW]
theorem tT (ps:A') (r:Nat):∀m,r < 2 ^ m->tr2 ps 0 r=sm @au r
 | 0,h=>by have:r=0:=by have:r < 1:=h;omega
           rw[this,rW];rfl
 | m + 1,h=>by
   have es:sg0 ps (m + 1)=sg0 ps m++[tr2 ps 0 (2 ^ m)]:=by unfold sg0;rw[Y7,eF];rfl
   rw[es,iU,sg0_len];by_cases hb:r.testBit m=true
   ·have G:r^^^2 ^ m < 2 ^ m:=by
     apply YN;intro i hi;rw[w7,ri];by_cases e:m=i
     ·subst e;rw[hb];simp
     ·rw[u7 (!a6 h @A)];simp[e]
    have ih:=tT ps (r^^^2 ^ m) m G
    have Y:sm @au r=sm @au (r^^^2 ^ m):=by
     have:sm @au (2 ^ m)=0:=by
      have h1:=iU @au 0 (2 ^ m);have h2:=Ke @au 0;rw[sg0_len] at h2;rw[h2] at h1;simpa using h1.symm
     rw[sm_xor,this,Xo]
    rw[lx hb,Y,<-ih];have L:=oK ps 0 0 (r^^^2 ^ m) (2 ^ m);rw[Yo,cx] at L;exact L
   ·have G:r < 2 ^ m:=by
     apply YN;intro i hi;by_cases e:i=m
     ·subst e;simpa using hb
     ·exact u7 (!a6 h @A)
    rw[kf hb,Xo,tT ps r m G]
theorem PM:∀(as bs:C') (s:Nat),sm (as++bs) s=sm as s^^^sm bs (s>>>as.length)
 | [],bs,s=>by show sm bs s=0^^^sm bs (s>>>0);rw[Yn,ap1]
 | a::as,bs,s=>by
   show(if s.testBit 0 then a else 0)^^^sm (as++bs) (s / 2)=(if s.testBit 0 then a else 0)^^^sm as (s / 2)^^^sm bs (s>>>(as.length + 1));rw[PM as bs (s / 2),Xx,Nat.shiftRight_succ_inside]
theorem Kf:∀(as:C') (P:Nat),sm as (P <<< as.length)=0
 | [],_=>rfl
 | a::as,P=>by
   show(if (@cs).testBit 0 then a else 0)^^^sm as (@cs / 2)=0;have L:(@cs).testBit 0=false:=by rw[XJ];simp
   have G:@cs / 2=P <<< as.length:=by rw[Nat.shiftLeft_succ];omega
   rw[L,G,Kf as P];simp
theorem p4 {w r P:Nat} (h:r < 2 ^ w):(r^^^(P <<< w))>>>w=P:=by
 apply iv;intro i;rw[Xt,w7,XJ,u7 (!a6 h @A)];simp
noncomputable def zs (ps:A') (x:Nat):Nat->Nat
 | 0=>x
 | n + 1=>tr2 ps (zs ps x n) 0
theorem Pu (ps:A') (x:Nat):∀n,wst ps x (lA n 0)=zs ps x n
 | 0=>rfl
 | n + 1=>by rw[Ye,wst_snoc,Pu ps x n];rfl
theorem PF (ps:A') (S:C') (F:Nat):∀n,sm (stj ps S n) F=zs ps (sm S F) n
 | 0=>rfl
 | n + 1=>by show sm ((stj ps S n).map λx=>tr2 ps x 0) F=tr2 ps (zs ps (sm S F) n) 0;rw[<-Ga,PF ps S F n]
theorem JI (ps:A') (x:Nat) (rs:C'):wst ps x rs=zs ps x rs.length^^^wst ps 0 rs:=by
 have e:=JJ ps (lA rs.length 0) rs x 0 (by rw[Xg])
 have G:ak8 (·^^^·) (lA rs.length 0) rs=rs:=by
  apply ar3
  ·rw[List.length_zipWith,Xg,ac3]
  ·intro i h1 h2;rw[List.getElem_zipWith,al4,Yn]
 rw[G,Xo,Pu] at e;exact e
theorem we (ps:A') (m:Nat):∀rs:C',(∀r∈rs,r < 2 ^ m)->wst ps 0 rs=sm (rch ps m rs.length) (pkw m rs)
 | [],_=>rfl
 | r::rs,h=>by
   have ih:=we ps m rs λx L=>h x (ov _ L);have G:=h r (mu ..);show wst ps (!av 0 r) rs=sm (stj ps @au rs.length++rch ps m rs.length) (r^^^(pkw m rs <<< m));have hl:(stj ps @au rs.length).length=m:=by rw[stj_len,sg0_len]
   rw[JI,ih,PM,hl,p4 G,sm_xor];have φ:=Kf (stj ps @au rs.length) (pkw m rs);rw[hl] at φ;rw[φ,Xo,PF,<-tT ps r m G]
noncomputable def upk (w q T:Nat):C':=(qB T).map λt=>(q>>>(t * w))&&&(2 ^ w - 1)
theorem JP (w q T:Nat):(upk w q T).length=T:=by unfold upk;rw[a',W1]
theorem JO (w q T:Nat):∀r∈upk w q T,r < 2 ^ w:=λr G=>by
 obtain⟨t,_,rfl⟩:=hC.mp G;have:=px w;exact Xe as1 @A
theorem NB (w q T:Nat):upk w q (T + 1)=(q&&&(2 ^ w - 1))::upk w (q>>>w) T:=by
 unfold upk;rw[al1,W',tu,ai7,ap1];congr 1;apply WZ;intro t _;show(q>>>((t + 1) * w))&&&_=(q>>>w>>>(t * w))&&&_;rw[<-Nat.shiftRight_add,am3,ah9,af9]
theorem ET (w:Nat):∀(T q:Nat),q < 2 ^ (T * w)->pkw w (upk w q T)=q
 | 0,q,h=>by rw[ai7] at h;have:q=0:=by have:q < 1:=h;omega
             rw[this];rfl
 | T + 1,q,h=>by
   rw[NB];show(q&&&(2 ^ w - 1))^^^(pkw w (upk w (q>>>w) T) <<< w)=q;rw[ET w T (q>>>w) (by rw[W7,am9 @aK,<-ah8];rw[am3,ah9] at h;exact h)];apply iv;intro i;rw[w7,Yi,XJ,Xt,ah5];by_cases hi:i < w
   ·simp[hi,show ¬w<=i by omega]
   ·simp[hi,show w<=i by omega,show w + (i - w)=i by omega]
theorem RQ (ps:A') (hl:ps.length<=1000) (y:Nat):∀(j s:Nat),od (s&&&zs ps y j)=od (bkI (ps.map (·.1)) s j&&&y)
 | 0,_=>rfl
 | j + 1,s=>by
   show od (s&&&tr2 ps (zs ps y j) 0)=_;rw[K1 s _ 0 ps hl,Yh,od_zero,Ym,RQ ps hl y j,MJ]
theorem JT (ps:A') (m w:Nat) (hw:w < m):∀j,zs ps (!av 0 @aD) j∈stj ps @au j
 | 0=>hC.mpr ⟨w,W9.mpr hw,rfl⟩
 | j + 1=>hC.mpr ⟨_,JT ps m w hw j,rfl⟩
theorem Kt (ps:A') (m:Nat) {j:Nat} {x:Nat} (h:x∈stj ps @au j):∀{T},j < T->x∈rch ps m T
 | T + 1,G=>by
   by_cases e:j=T
   ·subst e;exact hG _ h
   ·exact hJ _ (Kt ps m h @A)
structure Kern (R ms:C'):Prop where
 inj:Inj ms
 lt:∀m∈ms,m < 2 ^ R.length
 ev:∀m∈ms,sm R m=0
 all:∀z,z < 2 ^ R.length->sm R z=0->Span ms z
structure Lft (left rows:C'):Prop where
 nz:∀x∈left,x≠0
 pw:left.Pairwise λa b=>b.testBit a.log2=false
 sp:∀x,Span left x↔Span rows x
 len:left.length=(fr rows).length
noncomputable def bm (G:C') (b:Nat):Nat:=al7 (Bar G b)
structure Fst (ms:C') (p:Nat):Prop where
 lt:p < ms.length
 out:∀k,k < p->¬Span (ms.take k) (ms.getD k 0)
 in_:Span (ms.take p) (ms.getD p 0)
theorem Qh {ms:C'}:∀j,j<=ms.length->(∀k,k < j->¬Span (ms.take k) (ms.getD k 0))->(fr (ms.take j)).length=j
 | 0,_,_=>by have:=fr_len (ms.take 0);simpa using this
 | j + 1,G,h=>by
   have e:ms.take (j + 1)=ms.take j++[ms.getD j 0]:=by
    rw[ab6,eH @A,dt,eH @A];rfl
   rw[e,fr_out (h j (Xq j)),fy,Qh j @A (λk hk=>h k @A)];rfl
theorem FK {ms:C'} {n j:Nat} (hb:∀x∈ms,x < 2 ^ n) (L:j<=ms.length) (h:∀k,k < j->¬Span (ms.take k) (ms.getD k 0)):j<=n:=by
 rw[<-Qh j L h];exact Ku λr G=>hb r (an2 G)
noncomputable def zl (ps:A') (d n:Nat):C':=(qB (n + 1)).map (zs ps d)
theorem JA (ps:A') (d n:Nat):(zl ps d n).length=n + 1:=by unfold zl;rw[a',W1]
theorem F3 {ps:A'} {d n k:Nat} (h:k<=n):(zl ps d n)[k]? =aY (zs ps d k):=by
 unfold zl;rw[hB,Xf @A];rfl
theorem QH {ps:A'} {d n k:Nat} (h:k<=n):(zl ps d n).getD k 0=zs ps d k:=by rw[dt,F3 h];rfl
theorem Eh {ps:A'} {d:Nat} (h:d < 2 ^ ps.length):∀k,zs ps d k < 2 ^ ps.length
 | 0=>h
 | k + 1=>tr2_lt _ _ _
theorem VR {ps:A'} {d n:Nat} (h:d < 2 ^ ps.length):∀x∈zl ps d n,x < 2 ^ ps.length:=λx G=>by
 obtain⟨k,_,rfl⟩:=hC.mp G;exact Eh h k
theorem EA {G:C'}:∀(rs:C'),(∀x∈rs,Span G x)->∀F,Span G (sm rs F)
 | [],_,_=>span_zero G
 | r::rs,h,F=>by
   show Span G ((if F.testBit 0 then r else 0)^^^sm rs (F / 2));refine span_xor ?_ (EA rs (λx L=>h x (ov _ L)) (F / 2));split
   ·exact h r mu
   ·exact span_zero G
theorem QF {ps:A'} {d n p:Nat} (F:Fst (zl ps d n) p):∀t,Span ((zl ps d n).take p) (zs ps d t):=by
 have β:p<=n:=by have:=F.lt;rw[JA] at this;omega
 have L:=F.in_;rw[QH β] at L;have ν:∀k,k < p->Span ((zl ps d n).take p) (zs ps d k):=λk hk=>pP (eO (i:=k) (by rw[XN hk];exact F3 @A));intro t
 induction t with
 | zero=>
   by_cases δ:p=0
   ·subst δ;exact L
   ·exact ν 0 @A
 | succ t ih=>
   obtain⟨G,_,γ⟩:=iT ih;show Span _ (!av (zs ps d t) 0);rw[<-γ,Ga];refine EA _ (λx α=>?_) G;obtain⟨y,Z,rfl⟩:=hC.mp α;obtain⟨k,hk⟩:=an4 Z
   have Y:k < p:=by
    have:=(@bn).1;rw[qF] at this;omega
   rw[XN Y,F3 @A] at hk;cases hk;show Span _ (zs ps d @aR);by_cases h1:k + 1 < p
   ·exact ν _ h1
   ·have:k + 1=p:=by omega
    rw[this];exact L
theorem QG (ps:A') (d:Nat):∀i,zs ps (!av d 0) i=zs ps d @H
 | 0=>rfl
 | i + 1=>by show tr2 ps (zs ps (!av d 0) i) 0=_;rw[QG ps d i];rfl
theorem wan_take (ps os:A'):∀(rs:C') (a k:Nat),wan ps os a (!aW k)=(wan ps os a rs).take k
 | [],_,k=>by simp[wan]
 | r::rs,a,0=>rfl
 | r::rs,a,k + 1=>by
   show tr2 os a r::wan ps os (!av a r) (!aW k)=_;rw[wan_take ps os rs];rfl
noncomputable def act (ps:A') (x Q:Nat):Nat:=if Q=0 then 0 else (if Q % 2=1 then x else 0)^^^act ps (!av x 0) (Q / 2)
termination_by Q
decreasing_by omega
structure Lst (ps:A') (x P:Nat):Prop where
 nz:P≠0
 dv:∀Q,act ps x Q=0↔Dv P Q
structure Rng (ps:A') (x l n:Nat):Prop where
 pos:1<=n
 back:zs ps x (l + n)=zs ps x l
 least:∀e,1<=e->e < n->zs ps x (l + e)≠zs ps x l
 early:1<=l->zs ps x (l - 1 + n)≠zs ps x (l - 1)
noncomputable def bl (A:C') (s n:Nat):C':=(qB (n + 1)).map (bkI A s)
theorem MI (A:C') (s n:Nat):(bl A s n).length=n + 1:=by unfold bl;rw[a',W1]
theorem GY {A:C'} {s n k:Nat} (h:k<=n):(bl A s n)[k]? =aY (bkI A s k):=by
 unfold bl;rw[hB,Xf @A];rfl
theorem Sy {A:C'} {s n k:Nat} (h:k<=n):(bl A s n).getD k 0=bkI A s k:=by rw[dt,GY h];rfl
theorem bkI_lt {A:C'} {s w:Nat} (G:∀x∈A,x < 2 ^ w) (h:s < 2 ^ w):∀k,bkI A s k < 2 ^ w
 | 0=>h
 | k + 1=>sm_lt _ G
theorem WA {A:C'} {s n w:Nat} (L:∀x∈A,x < 2 ^ w) (h:s < 2 ^ w):∀x∈bl A s n,x < 2 ^ w:=λx G=>by
 obtain⟨k,_,rfl⟩:=hC.mp G;exact bkI_lt L h k
theorem Oe (A:C'):∀(G:C') (F:Nat),sm A (sm G F)=sm (G.map (sm A)) F
 | [],_=>sm_zero A
 | r::G,F=>by
   show sm A ((if F.testBit 0 then r else 0)^^^sm G (F / 2))=(if F.testBit 0 then sm A r else 0)^^^sm (G.map (sm A)) (F / 2);rw[sm_xor,Oe A G];cases F.testBit 0<;>simp[sm_zero]
theorem SA {A:C'} {s n p:Nat} (F:Fst (bl A s n) p):∀t,Span ((bl A s n).take p) (bkI A s t):=by
 have β:p<=n:=by have:=F.lt;rw[MI] at this;omega
 have L:=F.in_;rw[Sy β] at L;have ν:∀k,k < p->Span ((bl A s n).take p) (bkI A s k):=λk hk=>pP (eO (i:=k) (by rw[XN hk];exact GY @A));intro t
 induction t with
 | zero=>
   by_cases δ:p=0
   ·subst δ;exact L
   ·exact ν 0 @A
 | succ t ih=>
   obtain⟨G,_,γ⟩:=iT ih;show Span _ (sm A (bkI A s t));rw[<-γ,Oe];refine EA _ (λx α=>?_) G;obtain⟨y,Z,rfl⟩:=hC.mp α;obtain⟨k,hk⟩:=an4 Z
   have Y:k < p:=by
    have:=(@bn).1;rw[qF] at this;omega
   rw[XN Y,GY @A] at hk;cases hk;show Span _ (bkI A s @aR);by_cases h1:k + 1 < p
   ·exact ν _ h1
   ·have:k + 1=p:=by omega
    rw[this];exact L
end M
namespace Sx
open PySem L2
structure Sgl (H:Hp) (D:ee) (ds:M') (ps os:A') (n m:Nat):Prop where
 d:H D=aY (!A (ds.map V.ref))
 len:ds.length=m
 at':∀(w:Nat) (d:ee),ds[w]? =aY d->H d=aY (!a7 (!bN ps os 0 w n))
noncomputable def strD (z:kv):Dt:= .str z
theorem Ol {K:b'} {H:Hp} {D:ee} {zs:B'} (e:H D=aY (!A @aP)):Rep K H @W (!A (zs.map strD)):= .lst (!ad e) (by rw[a',a']) (B7 V.str strD (λz=> .str z) zs)
structure TldA (H:Hp) (t D1 D2 D3 D4:ee) (rs:eP Rw) (qs:eP Qs) (N:Nt):Prop where
 t:H t=aY (!H [.ref D1,.ref D2,.ref D3,.ref D4])
 i:H D1=aY (!A @co)
 s:H D2=aY (!A @bH)
 sr:RwK H rs
 es:rs.map (·.2.2)=N.sums
 st:H D3=aY (!A (qs.map λr=>V.ref r.1))
 tr:QsK H qs
 et:qs.map (·.2)=N.sts
 o:H D4=aY (!A (!ba V.str))
theorem TldA.same {H H2:Hp} {t Z Y G L:ee} {rs:eP Rw} {qs:eP Qs} {N:Nt} (x:TldA H t Z Y G L rs qs N) (s:@ao):TldA H2 t Z Y G L rs qs N:=⟨s.get x.t,s.get x.i,s.get x.s,x.sr.same s,x.es,s.get x.st,λq m=>s.get (x.tr q m),x.et,s.get x.o⟩
theorem GP:∀l:B',Bu (l.map strD)=0
 | []=>rfl
 | z::l=>by rw[W',Bu,GP l];rfl
def NT (α:NP):Sp:=λvs H Q _=>∃(p:ee) (N:Nt) (od:B'),vs=[.ref p]/\α H p N od/\∀(t Z Y G L:ee) (H2:Hp) (rs:eP Rw) (qs:eP Qs),H Z=gg->H Y=gg->H G=gg->H L=gg->H t=gg->Same H H2->TldA H2 t Z Y G L rs qs N->Q @ab H2
def QU (G:NP):Sp:=λvs H Q _=>∃(p:ee) (N:Nt) (od:B'),vs=[.ref p]/\G H p N od/\∀(D:ee) (H2:Hp) (rs:eP Rw),H D=gg->Same H H2->H2 D=aY (!A @bH)->RwK H2 rs->rs.map (·.2.2)=N.sums->Q @W H2
structure Sumd (rows:C') (x q:Nat):Prop where
 lt:q < 2 ^ rows.length
 sm:M.sm rows q=x
 fr:M.Frs rows q
theorem Sumd.uniq {G:C'} {x p q:Nat} (a:Sumd G x p) (b:Sumd G x q):p=q:=M.sum_uniq a.fr b.fr (by rw[a.sm,b.sm])
structure Bard (rows:C') (x m:Nat):Prop where
 ns:¬M.Span rows x
 bar:∃y,M.Span rows y/\x^^^y≠0/\VN rows (@aT).log2/\M.Bar rows (@aT).log2 m
 ev:∀y,M.Span rows y->M.od (m&&&y)=false
 odd:M.od (m&&&x)=true
 lt:∀W,(∀r∈rows,r < 2 ^ W)->x < 2 ^ W->m < 2 ^ W
def He:Sp:=λvs H Q _=>∃(r:ee) (G:C') (x:Nat),vs=[.ref r,nat x]/\H r=aY (!A (G.map nat))/\G.length<=1000/\(∀r∈G,r < 2 ^ 1000)/\x < 2 ^ 1000/\(M.Span G x∨(M.fr G).length < 64)/\
 (∀(t D:ee) (H2:Hp) (q:Nat),H D=gg->Same H H2->H2 t=aY (!H [.str "sum",.ref D])->H2 D=aY (!a7 (!aR q))->Sumd G x q->Q @ab H2)/\
 (∀(t:ee) (H2:Hp) (m:Nat),Same H H2->H2 t=aY (!H [.str "no",nat m])->Bard G x m->Q @ab H2)
def JX:Sp:=λvs H Q _=>∃(q wd T:Nat),vs=[nat q,nat wd,nat T]/\wd<=1000/\T<=1000/\∀(D:ee) (H2:Hp),H D=gg->Same H H2->H2 D=aY (!a7 (M.upk wd q T))->Q @W H2
def NQ (C:ee):Sp:=λvs H Q _=>∃(p:ee) (m:Nat) (nx os:@R) (T:Nat),vs=[.ref p,nat T]/\MaA H C p m nx os/\MaG m nx os/\T<=100/\∀(D:ee) (H2:Hp),H D=gg->Same H H2->H2 D=aY (!a7 (M.rch @N m T))->Q @W H2
def J2 (C:ee):Sp:=λvs H Q _=>∃(p D:ee) (m:Nat) (nx os:@R) (q T:Nat),vs=[.ref p,.ref D,nat T]/\MaA H C p m nx os/\MaG m nx os/\H D=aY (!a7 (!aR q))/\q < 2 ^ 1000/\T<=1000/\∀(G:ee) (H2:Hp),H G=gg->Same H H2->H2 G=aY (!a7 (M.upk m q T))->Q (!j G) H2
end Sx
namespace L2
open PySem
theorem w9 {X:Cx} {K:b'} (h:X.K=K):!aK X .NotIn (rIn K true):=by subst h;exact Cj
end L2
namespace Sx
open PySem L2
noncomputable def J (c:Nat):eP C'->C'
 | []=>[]
 | [x]=>x
 | x::y::r=>x++c::J c (y::r)
theorem Qv {c:Nat}:∀{x y a b:C'},c∉x->c∉y->x++c::a=y++c::b->x=y/\a=b
 | [],[],a,b,_,_,h=>⟨rfl,(ab1 h).2⟩
 | [],d::y,a,b,_,hy,h=>hE (by rw[(ab1 h).1];exact mu) hy
 | d::x,[],a,b,hx,_,h=>hE (by rw[<-(ab1 h).1];exact mu) hx
 | d::x,e::y,a,b,hx,hy,h=>by
   obtain⟨h1,h2⟩:=ab1 h;obtain⟨G,ι⟩:=Qv (λz=>hx (ov _ z)) (λz=>hy (ov _ z)) h2;exact⟨by rw[h1,G],ι⟩
theorem VP {c:Nat}:∀(ws vs:eP C'),ws≠[]->vs≠[]->(∀w∈ws,c∉w)->(∀w∈vs,c∉w)->J c ws=J c vs->ws=vs
 | [],_,h,_,_,_,_=>hE rfl h
 | _,[],_,h,_,_,_=>hE rfl h
 | [x],[y],_,_,_,_,h=>by rw[show x=y from h]
 | [x],y::z::r,_,_,hx,_,h=>hE (by rw[show x=y++c::J c (z::r) from h];simp) (hx x mu)
 | x::y::r,[z],_,_,_,hz,h=>hE (by rw[show z=x++c::J c (y::r) from h.symm];simp) (hz z mu)
 | x::y::r,x'::η::r',_,_,hx,hz,h=>by
   obtain⟨h1,h2⟩:=Qv (hx x mu) (hz x' mu) (show x++c::J c (y::r)=x'++c::J c (η::r') from h);rw[h1,VP (y::r) (η::r') @C @C (λw hw=>hx w (ov _ hw)) (λw hw=>hz w (ov _ hw)) h2]
theorem uY (c:Nat):∀ws:B',(Zj ⟨#[c]⟩ ws).cps.toList=J c (ws.map (·.cps.toList))
 | []=>rfl
 | [x]=>rfl
 | x::y::r=>by
   have ih:=uY c (y::r);show(x.cps++#[c]++(Zj ⟨#[c]⟩ (y::r)).cps).toList=x.cps.toList++c::J c ((y::r).map (·.cps.toList));rw[<-ih];simp
theorem zL {c:Nat} {ws:B'} (h:ws≠[]) (hf:∀w∈ws,c∉w.cps.toList):Yd (Zj ⟨#[c]⟩ ws) ⟨#[c]⟩=ws:=by
 have α:=StrLaws.join_split (Zj ⟨#[c]⟩ ws) ⟨#[c]⟩;have Z:=StrLaws.split_free (Zj ⟨#[c]⟩ ws) c;have L:=PyProof.Rows.split_pos (Zj ⟨#[c]⟩ ws) ⟨#[c]⟩;generalize Yd (Zj ⟨#[c]⟩ ws) ⟨#[c]⟩=vs at α Z L ⊢;have Y:=uY c vs;rw[α,uY c ws] at Y;have ο:=VP (c:=c) _ _ (by simpa using h) (by intro z;rw[List.map_eq_nil_iff] at z;subst z;simp at L) (λw hw=>by obtain⟨v,G,rfl⟩:=hC.mp hw;exact hf v G) (λw hw=>by obtain⟨v,G,rfl⟩:=hC.mp hw;exact Z v G) Y;have inj:∀x y:kv,x.cps.toList=y.cps.toList->x=y:=λ⟨⟨a⟩⟩ ⟨⟨b⟩⟩ h=>by cases(show a=b from h);rfl
 exact(List.map_inj_right inj).mp ο.symm
theorem F8 (y:kv) (l:B'):an5 y l=Zj y l:=StrLaws.glued_eq_join _ _
theorem Ao:(Yq " ")=⟨#[32]⟩:=by decide +kernel
theorem Ex:(Yq "\n")=⟨#[10]⟩:=by decide +kernel
theorem P5 {X:Cx} {K:b'} (h:X.K=K):!aK X .In (rIn K false):=by subst h;exact KS
def Wd (z:kv):Prop:=(32:Nat)∉z.cps.toList/\(10:Nat)∉z.cps.toList
theorem Nm.wd {z:kv} (h:Nm z):Wd z:=by
 have h:nm z.cps.toList=true:=h
 have γ:∀c:Nat,(low c||fig c)=false->c∉z.cps.toList:=λc G m=>by
  cases e:z.cps.toList with
  | nil=>rw[e] at m;cases m
  | cons d r=>
    rw[e] at h m;unfold nm at h;rw[WV,Xn] at h;have:=h.2 c m;rw[G] at this;cases this
 exact⟨γ 32 @D,γ 10 @D⟩
theorem VZ:Wd "in":=by unfold Wd;decide +kernel
theorem S5:Wd "out":=by unfold Wd;decide +kernel
theorem S4:Wd "sum":=by unfold Wd;decide +kernel
theorem Nw:Wd "store":=by unfold Wd;decide +kernel
theorem S6:Wd "=":=by unfold Wd;decide +kernel
inductive Fm:B'->Prop where
 | i (z:kv) (h:Nm z):Fm ["in",z]
 | o (z:kv) (h:Nm z):Fm ["out",z]
 | s (z:kv) (ws:B') (h:Nm z) (hw:∀w∈ws,Nm w) (l:ws.length<=24):Fm ("sum"::z::"="::ws)
 | t (z y:kv) (h:Nm z) (hy:Nm y):Fm ["store",z,"=",y]
theorem Fm.wd {r:B'} (f:Fm r):∀w∈r,Wd w:=by
 cases f with
 | i z h=>intro w hw;simp at hw;rcases hw with rfl | rfl<;>first | exact VZ | exact h.wd
 | o z h=>intro w hw;simp at hw;rcases hw with rfl | rfl<;>first | exact S5 | exact h.wd
 | s z ws h G l=>
   intro w hw;simp at hw;rcases hw with rfl | rfl | rfl | hw<;>first | exact S4 | exact h.wd | exact S6 | exact(G w hw).wd
 | t z y h L=>intro w hw;simp at hw;rcases hw with rfl | rfl | rfl | rfl<;>first | exact Nw | exact h.wd | exact S6 | exact L.wd
theorem Fm.ne {r:B'} (f:Fm r):r≠[]:=by cases f<;>simp
theorem lenS:("in":kv).length=2/\("out":kv).length=3/\("sum":kv).length=3/\("store":kv).length=5/\("=":kv).length=1/\("":kv).length=0:=by decide +kernel
theorem Fm.len {r:B'} (f:Fm r):r.length<=27/\∀w∈r,w.length<=6:=by
 obtain⟨α,Z,π,ρ,Y,_⟩:=lenS;cases f with
 | i z h=>exact⟨@C,λw hw=>by simp at hw;rcases hw with rfl | rfl<;>first | exact h.len | omega⟩
 | o z h=>exact⟨@C,λw hw=>by simp at hw;rcases hw with rfl | rfl<;>first | exact h.len | omega⟩
 | s z ws h G l=>
   refine⟨by simp only[W3];omega,λw hw=>?_⟩;simp at hw;rcases hw with rfl | rfl | rfl | hw<;>first | exact h.len | exact(G w hw).len | omega
 | t z y h L=>exact⟨@C,λw hw=>by simp at hw;rcases hw with rfl | rfl | rfl | rfl<;>first | exact h.len | exact L.len | omega⟩
noncomputable def rowT (r:B'):Str:=Zj ⟨#[32]⟩ r
noncomputable def txtR (G:eP B'):Str:=Zj ⟨#[10]⟩ (G.map rowT)
theorem VO {c d:Nat} (θ:c≠d):∀{ws:eP C'},(∀w∈ws,d∉w)->d∉J c ws
 | [],_=>by simp[J]
 | [x],h=>h x mu
 | x::y::r,h=>by
   show d∉x++c::J c (y::r);intro m;rcases gs.mp m with m | m
   ·exact h x mu m
   ·rcases x8.mp m with m | m
    ·exact θ m.symm
    ·exact VO θ (ws:=y::r) (λw hw=>h w (ov _ hw)) m
theorem Kq {r:B'} (h:∀w∈r,Wd w):(10:Nat)∉(rowT r).cps.toList:=by
 unfold rowT;rw[uY];exact VO @D λw hw=>by obtain⟨v,G,rfl⟩:=hC.mp hw;exact(h v G).2
theorem Hw {r:B'} (h:∀w∈r,Wd w) (ne:r≠[]):Yd (rowT r) ⟨#[32]⟩=r:=zL ne λw hw=>(h w hw).1
theorem G4 {G:eP B'} (h:∀r∈G,∀w∈r,Wd w) (ne:G≠[]):Yd (txtR G) ⟨#[10]⟩=G.map rowT:=zL (by simpa using ne) λw hw=>by obtain⟨r,L,rfl⟩:=hC.mp hw;exact Kq (h r L)
theorem SN (c:Nat) {n:Nat}:∀{ws:eP C'},(∀w∈ws,w.length<=n)->(J c ws).length<=ws.length * (n + 1)
 | [],_=>Xy _
 | [x],h=>by have:=h x mu;show x.length<=1 * (n + 1);omega
 | x::y::r,h=>by
   have h1:=h x mu;have h2:=SN c (n:=n) (ws:=y::r) λw hw=>h w (ov _ hw);show(x++c::J c (y::r)).length<=_;rw[fy,W3,W3,ac2];omega
theorem Az {r:B'} (h:∀w∈r,w.length<=6):(rowT r).length<=r.length * 7:=by
 rw[<-p9];unfold rowT;rw[uY];have:=SN 32 (n:=6) (ws:=r.map (·.cps.toList)) λw hw=>by obtain⟨v,G,rfl⟩:=hC.mp hw;rw[p9];exact h v G
 rw[a'] at this;exact this
theorem NC {G:eP B'} (h:∀r∈G,Fm r):(txtR G).length<=G.length * 190:=by
 rw[<-p9];unfold txtR;rw[uY]
 have:=SN 10 (n:=189) (ws:=(G.map rowT).map (·.cps.toList)) λw hw=>by
  obtain⟨v,L,rfl⟩:=hC.mp hw;obtain⟨r,Y,rfl⟩:=hC.mp L;rw[p9];have a:=(h r Y).len;have b:=Az a.2;have:r.length * 7<=27 * 7:=ab9 7 a.1;omega
 rw[a',a'] at this;exact this
theorem NH {z:kv} (h:z=""):z.cps.toList=[]:=Em.mp h
theorem J_ne (c:Nat):∀{ws:eP C'},(∃w∈ws,w≠[])->J c ws≠[]
 | [],⟨w,h,_⟩=>by cases h
 | [x],⟨w,h,n⟩=>by rw[eR.mp h] at n;exact n
 | x::y::r,_=>by show x++c::J c (y::r)≠[];simp
theorem RE {r:B'} (f:Fm r):(rowT r).cps.toList≠[]:=by
 unfold rowT;rw[uY];refine J_ne 32 ?_;cases f with
 | i z h=>exact⟨("in":kv).cps.toList,@C,@L⟩
 | o z h=>exact⟨("out":kv).cps.toList,@C,@L⟩
 | s z ws h G l=>exact⟨("sum":kv).cps.toList,@C,@L⟩
 | t z y h L=>exact⟨("store":kv).cps.toList,@C,@L⟩
theorem QQ {G:eP B'} (h:∀r∈G,Fm r) (ne:G≠[]):txtR G≠"":=λe=>by
 have:=NH e;unfold txtR at this;rw[uY] at this;refine J_ne 10 ?_ this;cases G with
 | nil=>exact hE rfl ne
 | cons r l=>exact⟨(rowT r).cps.toList,@C,RE (h r mu)⟩
noncomputable def kd (k:kv) (r:B'):Bool:=decide (r.getD 0 ""=k)
noncomputable def insR (G:eP B'):B':=(G.filter (kd "in")).map λr=>r.getD 1 ""
noncomputable def sumR (G:eP B'):eP (kv×eP kv):=(G.filter (kd "sum")).map λr=>(r.getD 1 "",r.drop 3)
noncomputable def stoR (G:eP B'):eP (kv×kv):=(G.filter (kd "store")).map λr=>(r.getD 1 "",r.getD 3 "")
noncomputable def outR (G:eP B'):B':=(G.filter (kd "out")).map λr=>r.getD 1 ""
noncomputable def netR (G:eP B'):Nt:=⟨insR G,sumR G,stoR G,outR G⟩
noncomputable def uf (N:Nt):eP B':=N.ins.map (λz=>[("in":kv),z])++N.sums.map (λr=>("sum":kv)::r.1::("=":kv)::r.2)++N.sts.map (λr=>[("store":kv),r.1,("=":kv),r.2])++N.outs.map (λz=>[("out":kv),z])
noncomputable def txtN (N:Nt):Str:=txtR (uf N)
theorem w_ne:("in":kv)≠"sum"/\("in":kv)≠"store"/\("in":kv)≠"out"/\("sum":kv)≠"in"/\("sum":kv)≠"store"/\("sum":kv)≠"out"/\("store":kv)≠"in"/\("store":kv)≠"sum"/\("store":kv)≠"out"/\("out":kv)≠"in"/\("out":kv)≠"sum"/\("out":kv)≠"store":=by decide +kernel
theorem wm {α:Type} (f:α->B') {k:kv} (h:∀x,kd k (f x)=true) (l:eP α):(l.map f).filter (kd k)=l.map f:=by
 rw[List.filter_eq_self];intro r G;obtain⟨x,_,rfl⟩:=hC.mp G;exact h x
theorem fg {α:Type} (f:α->B') {k:kv} (h:∀x,kd k (f x)=false) (l:eP α):(l.map f).filter (kd k)=[]:=by
 rw[Z3];intro r G;obtain⟨x,_,rfl⟩:=hC.mp G;rw[h x];exact hH
theorem kd_t {k:kv} {r:B'}:kd k (k::r)=true:=gB rfl
theorem kd_f {k j:kv} {r:B'} (h:j≠k):kd k (j::r)=false:=f' h
theorem Ia (N:Nt):netR (uf N)=N:=by
 obtain⟨n1,δ,Y,γ,β,ο,Z,ξ,ν,α,L,G⟩:=w_ne;cases N with
 | mk a b c d=>
 unfold netR insR sumR stoR outR uf;simp only[Xp];rw[wm _ (λ_=>kd_t),fg _ (λ_=>kd_f γ),fg _ (λ_=>kd_f Z),fg _ (λ_=>kd_f α)];rw[fg (λz=>[("in":kv),z]) (λ_=>kd_f n1),wm _ (λ_=>kd_t),fg _ (λ_=>kd_f ξ),fg _ (λ_=>kd_f L)];rw[fg (λz=>[("in":kv),z]) (λ_=>kd_f δ),fg _ (λ_=>kd_f β),wm _ (λ_=>kd_t),fg _ (λ_=>kd_f G)];rw[fg (λz=>[("in":kv),z]) (λ_=>kd_f Y),fg _ (λ_=>kd_f ο),fg _ (λ_=>kd_f ν),wm _ (λ_=>kd_t)];simp;exact⟨ac1 a,ac1 b,ac1 c,ac1 d⟩
theorem Gk {N:Nt} (g:Gn N):∀r∈uf N,Fm r:=by
 intro r Y;have ρ:∀z∈N.ins,z∈N.names:=λz h=>by unfold Nt.names;exact hG _ (hG _ h)
 have L:∀q∈N.sums,q.1∈N.names:=λq h=>by unfold Nt.names;exact hG _ (hJ _ (!an ⟨q,h,rfl⟩))
 have π:∀q∈N.sts,q.1∈N.names:=λq h=>by unfold Nt.names;exact hJ _ (!an ⟨q,h,rfl⟩)
 unfold uf at Y;rcases gs.mp Y with h | h
 ·rcases gs.mp h with h | h
  ·rcases gs.mp h with h | h
   ·obtain⟨z,hz,rfl⟩:=hC.mp h;exact .i z (g.nm z (ρ z hz))
   ·obtain⟨q,G,rfl⟩:=hC.mp h;exact .s q.1 q.2 (g.nm _ (L q G)) (λw hw=>g.nm w (g.ws q G w hw)) (g.lw q G)
  ·obtain⟨q,G,rfl⟩:=hC.mp h;exact .t q.1 q.2 (g.nm _ (π q G)) (g.nm _ (g.ts q G))
 ·obtain⟨z,hz,rfl⟩:=hC.mp h;exact .o z (g.nm z (g.os z hz))
theorem B2 {N:Nt} (g:Gn N):(uf N).length<=68:=by
 have:=g.li;have:=g.ls;have:=g.lt;have:=g.lo;unfold uf;simp only[fy,a'];omega
def Lrw (τ H:Hp) (D:ee) (ys:eP V) (G:eP B'):Prop:=∃ds:M',ys=ds.map V.ref/\ds.length=G.length/\(∀d∈ds,d≠D)/\(∀d∈ds,τ d=gg)/\∀(j:Nat) (d:ee) (r:B'),ds[j]? =aY d->G[j]? =aY r->H d=aY (!A @bP)
theorem Lrw.nil {τ H:Hp} {D:ee}:Lrw τ H D [] []:=⟨[],rfl,rfl,λ_ h=>(by cases h),λ_ h=>(by cases h),λj d r h=>(by simp at h)⟩
theorem Lrw.len {τ H:Hp} {D:ee} {ys:eP V} {G:eP B'} (x:Lrw τ H D ys G):ys.length=G.length:=by obtain⟨ds,rfl,l,_⟩:=x;rw[a',l]
theorem Lrw.base {Y τ H:Hp} {D:ee} {ys:eP V} {G:eP B'} (x:Lrw τ H D ys G) (s:Same Y τ):Lrw Y H D ys G:=by obtain⟨ds,e,l,n,f,h⟩:=x;exact⟨ds,e,l,n,λd hd=>s.free (f d hd),h⟩
theorem Lrw.put {τ H β:Hp} {D L:ee} {ys:eP V} {G:eP B'} {r:B'} (x:Lrw τ H D ys G) (ε:τ L=gg) (e:H D=aY @Y) (f:H L=gg) (s:!bg β) (Y:β L=aY (!A @bP)):Lrw τ (!X β (ys++[.ref L])) D (ys++[.ref L]) @ah:=by
 obtain⟨ds,rfl,ld,nd,fd,hd⟩:=x;have α:L≠D:=λz=>by rw[z,e] at f;cases f
 have k3:∀b ob,b≠D->β b=aY ob->upd β D (!A (ds.map V.ref++[.ref L])) b=aY ob:=λb ob n e=>by rw[aD n];exact e
 refine⟨ds++[L],by rw[eF];rfl,by rw[fy,fy,ld];rfl,λd ζ=>?_,λd ζ=>?_,λj d r' Z ξ=>?_⟩
 ·rcases gs.mp ζ with h | h
  ·exact nd d h
  ·rw[eR.mp h];exact α
 ·rcases gs.mp ζ with h | h
  ·exact fd d h
  ·rw[eR.mp h];exact ε
 ·by_cases γ:j < ds.length
  ·rw[la γ] at Z;rw[la @A] at ξ;exact k3 _ _ (nd d (eO Z)) (s.get (hd j d r' Z ξ))
  ·have hl:=(!K Z).1;rw[fy,u9] at hl;rw[lB @A,show j - ds.length=0 by omega] at Z;rw[lB @A,show j - G.length=0 by omega] at ξ;cases Z;cases ξ;exact k3 _ _ α Y
theorem Lrw.join {τ H H2 θ:Hp} {D ο:ee} {ys α:eP V} {Y G:eP B'} (x:Lrw τ H D ys Y) (e:H D=aY @Y) (ν:Same τ H) (s:@ao) (x2:Lrw H H2 ο α G) (u:Upd H2 θ D (!A (ys++α))):Lrw τ θ D (ys++α) (Y++G):=by
 obtain⟨ds,rfl,ld,nd,fd,hd⟩:=x;obtain⟨γ,rfl,δ,ι,Z,L⟩:=x2;have η:∀d∈γ,d≠D:=λd ζ z=>by have:=Z d ζ;rw[z,e] at this;cases this
 refine⟨ds++γ,by rw[eF],by rw[fy,fy,ld,δ],λd ζ=>(gs.mp ζ).elim (nd d) (η d),λd ζ=>(gs.mp ζ).elim (fd d) (λh=>ν.free (Z d h)),λj d r β ξ=>?_⟩;by_cases ε:j < ds.length
 ·rw[la ε] at β;rw[la @A] at ξ;exact u.oth _ _ (nd d (eO β)) (s.get (hd j d r β ξ))
 ·rw[lB @A] at β;rw[lB @A,<-ld] at ξ;exact u.oth _ _ (η d (eO β)) (L _ d r β ξ)
def QW (G:NP):Sp:=λvs H Q _=>∃(p:ee) (N:Nt) (od:B'),vs=[.ref p]/\G H p N od/\∀H2,Same H H2->Q (.str (txtN N)) H2
def Q7:Sp:=λvs H Q _=>∃(l:ee) (r:B'),vs=[.ref l]/\H l=aY (!A @bP)/\Fm r/\∀H2,Same H H2->Q (.bl true) H2
def Hc:Sp:=λvs H Q _=>∃(z:kv),vs=[.str z]/\z.length<=100000/\∀(D:ee) (H2:Hp),H D=gg->Same H H2->H2 D=aY (!b7 (Yd z ⟨#[32]⟩))->Q @W H2
def J1:Sp:=λvs H Q _=>∃(z:kv),vs=[.str z]/\z.length<=100000/\∀(D:ee) (H2:Hp),H D=gg->Same H H2->H2 D=aY (!A ((if z="" then [] else Yd z ⟨#[10]⟩).map V.str))->Q @W H2
def QX (L:NP):Sp:=λvs H Q _=>∃(G:eP B'),vs=[.str (txtR G)]/\(∀r∈G,Fm r)/\G.length<=100/\Gn (netR G)/\∀(n:ee) (H2:Hp) (od:B'),H n=gg->Same H H2->L H2 n (netR G) od->Q (!j n) H2
noncomputable def TupV (K:b') (H:Hp) (y:V):vr (eP V)->Prop
 | some xs=>∃r,y= .ref r/\SqT K H r xs/\M8 K H xs
 | none=>∃k,nN K H y k/\k≠"tuple"
noncomputable def Wn (n m:Nat):vr (eP V)->Xb
 | some [x,y]=>qx x n&&qx y m
 | _=>false
noncomputable abbrev It2:=V×vr (eP V)
noncomputable def LstV (K:b') (H:Hp) (y:V):vr (eP It2)->Prop
 | some zs=>∃r,y= .ref r/\H r=aY (!A (zs.map (·.1)))/\∀z∈zs,TupV K H z.1 z.2
 | none=>∃k,nN K H y k/\k≠"list"
noncomputable def tabB (x:V) (L G:vr (eP It2)):Bool:=match x,L,G with
 | .int i,aY zs,aY ws=>decide (0<=i)&&decide (i<=6)&&decide (zs.length<=120)&&decide (ws.length<=6)&&(zs++ws).all λz=>Wn zs.length i.toNat z.2
 | _,_,_=>false
end Sx
namespace L2
open PySem
end L2
namespace Sx
open PySem L2
structure BadT (K:b') (H:Hp) (x y z:V):Prop where
 ex:∃k on oo,nN K H x k/\LstV K H y on/\LstV K H z oo/\tabB x on oo=false
end Sx
namespace L2
open PySem
end L2
namespace Sx
open PySem L2
noncomputable def cps (p q k:Nat):C':=if k + 1 < p then [k + 1] else M.pl 1000 q
structure ChS (H:Hp) (S:ee) (p q:Nat) (rs:M'):Prop where
 at_:H S=aY (!A (rs.map V.ref))
 len:rs.length=p
 get:∀(k:Nat) (r:ee),rs[k]? =aY r->H r=aY (!a7 (cps p q k))
structure ChT (H:Hp) (D S:ee) (ms:C') (p q:Nat):Prop where
 fs:M.Fst ms p
 sd:Sumd (ms.take p) (ms.getD p 0) q
 d:H D=aY (!a7 (ms.take p))
 s:∃rs,ChS H S p q rs
structure LA (K:b') (H:Hp) (t n o rr:ee) (m:Nat) (nx os:@R) (rs:C') (a b:Nat):Prop where
 tt:TabT H t n o m nx os
 sq:SqL K H rr (rs.map nat)
 lr:rs.length=20
 br:∀r∈rs,r < 2 ^ m
 ln:nx.length<=16
 ha:a < 2 ^ nx.length
 hb:b < 2 ^ nx.length
structure ApA (H:Hp) (f:ee) (nx os:@R) (d k ans:Nat):Prop where
 f:H f=aY (!H [.str "apart",nat k,nat ans.log2])
 hk:k < nx.length
 an:ans=M.tr2 @X (M.zs @N d k) 0
 ne:ans≠0
 qu:∀j,j < k->M.tr2 @X (M.zs @N d j) 0=0
structure ApL (H:Hp) (f D S:ee) (nx os:@R) (d p q:Nat):Prop where
 f:H f=aY (!H [.str "alike",.ref D,.ref S])
 ct:ChT H D S (M.zl @N d nx.length) p q
 qu:∀j,j < p->M.tr2 @X (M.zs @N d j) 0=0
structure CmA (H:Hp) (t D:ee) (m:Nat) (nx:@R) (st T q mk:Nat):Prop where
 f:H t=aY (!H [.str "come",.ref D,nat mk])
 d:H D=aY (!a7 (M.upk m q T))
 hT:T<=nx.length
 no:∀j,j < T->¬M.Span (M.rch @N m j) st
 sd:Sumd (M.rch @N m T) st q
 br:(T=0/\mk=0)∨∃T',T=T' + 1/\Bard (M.rch @N m T') st mk
structure CmN (H:Hp) (t D S:ee) (m:Nat) (nx:@R) (st mk p q:Nat):Prop where
 f:H t=aY (!H [.str "never",.ref D,.ref S])
 no:∀j,j<=nx.length->¬M.Span (M.rch @N m j) st
 bd:Bard (M.rch @N m nx.length) st mk
 ct:ChT H D S (M.bl (nA nx) mk nx.length) p q
structure LN (K:b') (H:Hp) (n:ee) (m:Nat) (nx os:@R) (st:Nat):Prop where
 sq:SqL K H n (refs nx)
 pt:Prt H nx
 g:MaG m nx os
 ln:nx.length<=16
 hs:st < 2 ^ nx.length
theorem Lj {c:Int} {L Z:Nat} {G sums:@aY} {sts:eP (kv×kv)} {outs:B'} (m:Mk c L Z G) (h1:L<=3) (h2:Z<=12) (h3:G.length<=12) (ο:sums.Perm G) (hs:sts.map (·.1)=nms c 6 Z) (ι:outs.length<=6)
  (ht:∀q∈sts,q.2∈nms c 0 L++nms c 6 Z++nms c 22 G.length) (ho:∀z∈outs,z∈nms c 0 L++nms c 6 Z++nms c 22 G.length):Gn ⟨nms c 0 L,sums,sts,outs⟩:=by
 have pn:(sums.map (·.1)).Perm (!bu c 22):=by rw[<-m.nm];exact ο.map _
 have γ:∀z,z∈nms c 0 L++nms c 6 Z++nms c 22 G.length->z∈Nt.names ⟨nms c 0 L,sums,sts,outs⟩:=λz hz=>by
  unfold Nt.names;show z∈nms c 0 L++sums.map (·.1)++sts.map (·.1);rw[hs];rcases gs.mp hz with h | h
  ·rcases gs.mp h with h | h
   ·exact hG _ (hG _ h)
   ·exact hJ _ h
  ·exact hG _ (hJ _ (pn.mem_iff.mpr h))
 have ψ:sts.length=Z:=by have:=oe w3 hs;rw[a',fO] at this;exact this
 have η:∀r∈sums,∃k,G[k]? =aY r:=λr β=>WX.mp (ο.mem_iff.mp β)
 have ν:∀z∈Nt.names ⟨nms c 0 L,sums,sts,outs⟩,∃k:Nat,k < 40/\z=nmf c (k:Int):=λz hz=>by
  unfold Nt.names at hz;have hz:z∈nms c 0 L++sums.map (·.1)++sts.map (·.1):=hz;rw[hs] at hz;rcases gs.mp hz with h | h
  ·rcases gs.mp h with h | h
   ·obtain⟨k,hk,e⟩:=kO h;exact⟨_,@A,e⟩
   ·obtain⟨k,hk,e⟩:=kO (!bL h);exact⟨_,@A,e⟩
  ·obtain⟨k,hk,e⟩:=kO h;exact⟨_,@A,e⟩
 have α:∀(a n:Nat),a + n<=40->(nms c a n).Nodup:=λa n h=>by
  unfold nms;refine ZA.mpr (Zl (λ{i j} hi ε a0=>?_) al2);intro e;have:=AV c (show a + i < 40 by have:=W9.mp hi;omega) (show a + j < 40 by have:=W9.mp ε;omega) e;omega
 have Y:∀{a n b k:Nat},a + n<=40->b + k<=40->a + n<=b->∀x∈nms c a n,∀y∈nms c b k,x≠y:=λh1 h2 h3 x θ y ζ e=>by
  obtain⟨i,hi,rfl⟩:=kO θ;obtain⟨j,ε,rfl⟩:=kO ζ;have:=AV c @A @A e;omega
 refine⟨by show(nms c 0 L).length<=6;rw[fO];omega,by show sums.length<=40;rw[ο.length_eq];omega,by show sts.length<=16;omega,ι,λr β=>?_,λz hz=>?_,?_,λr β z hz=>?_,λr β=>γ _ (ht r β),λz hz=>γ _ (ho z hz),?_⟩
 ·obtain⟨k,hk⟩:=η r β;have:=(m.ws k r hk).1;omega
 ·obtain⟨k,hk,rfl⟩:=ν z hz;exact US c @A @A
 ·unfold Nt.names;show(nms c 0 L++sums.map (·.1)++sts.map (·.1)).Nodup;rw[hs,WY,WY];refine⟨⟨α _ _ @A,pn.nodup_iff.mpr (α _ _ @A),λx θ y ζ=>Y @A @A @A x θ y (!bL ζ)⟩,α _ _ @A,λx θ y ζ=>?_⟩;rcases gs.mp θ with h | h
  ·exact Y @A @A @A x h y ζ
  ·exactλe=>Y (a:=6) (n:=Z) (b:=22) (k:=G.length) @A @A @A y ζ x (!bL h) e.symm
 ·obtain⟨k,hk⟩:=η r β;have π:=(@bn).1;refine γ z ?_;rcases gs.mp ((m.ws k r hk).2 z hz) with h | h
  ·exact hG _ h
  ·obtain⟨j,ε,rfl⟩:=kO h;exact hJ _ (UR @A)
 ·refine⟨λz=>(!bu c 22).idxOf z,λr β z hz δ=>?_⟩;obtain⟨k,hk⟩:=η r β;have π:=(@bn).1;have er:(!bu c 22)[k]? =aY r.1:=by rw[<-m.nm,hB,hk];rfl
  have nd:=α 22 G.length @A
  have φ:∀(j:Nat) y,(!bu c 22)[j]? =aY y->(!bu c 22).idxOf y=j:=λj y ε=>by
   obtain⟨τ,υ⟩:=bx.mp ε;rw[<-υ];exact nd.idxOf_getElem j τ
  obtain⟨j,ε,χ⟩:=kO (!bL δ)
  have ρ:j < k:=by
   rcases gs.mp ((m.ws k r hk).2 z hz) with h | h
   ·exfalso;rcases gs.mp h with h | h
    ·exact Y (a:=0) (n:=L) (b:=22) (k:=G.length) @A @A @A z h z (!bL δ) rfl
    ·exact Y (a:=6) (n:=Z) (b:=22) (k:=G.length) @A @A @A z h z (!bL δ) rfl
   ·obtain⟨ω,ξ,e'⟩:=kO h;have:=AV c (show 22 + j < 40 by omega) (show 22 + ω < 40 by omega) (χ.symm.trans e');omega
  have ez:(!bu c 22)[j]? =aY z:=by unfold nms;rw[hB,Xf ε,χ];rfl
  show(!bu c 22).idxOf z < (!bu c 22).idxOf r.1;rw[φ j z ez,φ k r.1 er];exact ρ
inductive Scl:V->X9->Prop where
 | str (z:kv) (l:z.length<=1000):Scl @aj "str"
 | int (i:Int):Scl (.int i) "int"
 | bl (b:Xb):Scl (.bl b) "bool"
 | non:Scl .non "NoneType"
def JV (G:NP):Sp:=λvs H Q _=>∃(p:ee) (N:Nt) (od:B'),vs=[.ref p]/\G H p N od/\∀(D:ee) (H2:Hp),H D=gg->Same H H2->H2 D=aY (!A @aS)->Q @W H2
def Nmc (c:Int) (N:Nt):Prop:=∀z∈N.names,∃k:Nat,k < 40/\z=nmf c (k:Int)
noncomputable def sbw (w f z:kv):Str:=if z=w then f else z
noncomputable def cutN (N:Nt) (w f:kv):Nt:=⟨N.ins,N.sums.map (λr=>(r.1,r.2.map (sbw w f)))++[(f,[])],!bK (q.1,sbw w f q.2),!ba (sbw w f)⟩
theorem tF (N:Nt) (w f:kv):(@ag).names.Perm (N.names++[f]):=by
 unfold Nt.names cutN;rw[eF,tu,tu];show(N.ins++(N.sums.map (·.1)++[f])++N.sts.map (·.1)).Perm (N.ins++N.sums.map (·.1)++N.sts.map (·.1)++[f]);rw[<-Yj,Yj (N.ins++N.sums.map (·.1)),Yj (N.ins++N.sums.map (·.1))];exact ZZ _ ab2
theorem B0 {N:Nt} {w f z:kv} (h:z∈N.names):sbw w f z∈(@ag).names:=by
 rw[(tF N w f).mem_iff];unfold sbw;split
 ·exact hJ _ mu
 ·exact hG _ h
theorem GU {N:Nt} (g:Gn N) {w f:kv} (hl:N.sums.length<=39) (hf:Nm f) (hn:f∉N.names):Gn @ag where
 li:=g.li
 ls:=by
  show(N.sums.map _++[(f,[])]).length<=40;rw[fy,a',u9];omega
 lt:=by show(N.sts.map _).length<=16;rw[a'];exact g.lt
 lo:=by show(!ba _).length<=6;rw[a'];exact g.lo
 lw:=λr α=>by
  rcases gs.mp α with h | h
  ·obtain⟨G,Z,rfl⟩:=hC.mp h;show(G.2.map _).length<=24;rw[a'];exact g.lw G Z
  ·rw[eR.mp h];exact Xy _
 nm:=λz hz=>by
  rcases gs.mp ((tF N w f).mem_iff.mp hz) with h | h
  ·exact g.nm z h
  ·rw[eR.mp h];exact hf
 nd:=by
  refine(tF N w f).nodup_iff.mpr (WY.mpr ⟨g.nd,by simp,λx γ y β e=>?_⟩);rw[eR] at β;rw[e,β] at γ;exact hn γ
 ws:=λr α z hz=>by
  rcases gs.mp α with h | h
  ·obtain⟨G,Z,rfl⟩:=hC.mp h;obtain⟨Y,θ,rfl⟩:=hC.mp hz;exact B0 (g.ws G Z Y θ)
  ·rw[eR.mp h] at hz;cases hz
 ts:=λr α=>by
  obtain⟨G,Z,rfl⟩:=hC.mp α;exact B0 (g.ts G Z)
 os:=λz hz=>by
  obtain⟨Y,θ,rfl⟩:=hC.mp hz;exact B0 (g.os Y θ)
 rk:=by
  obtain⟨L,hk⟩:=g.rk;refine⟨λz=>if z=f then 0 else L z + 1,λr α z hz hs=>?_⟩;rcases gs.mp α with h | h
  ·obtain⟨G,Z,rfl⟩:=hC.mp h;obtain⟨Y,θ,rfl⟩:=hC.mp hz;have h1:G.1≠f:=λe=>hn (by rw[<-e];unfold Nt.names;exact hG _ (hJ _ (!an ⟨G,Z,rfl⟩)));show(if sbw w f Y=f then 0 else L (sbw w f Y) + 1) < (if G.1=f then 0 else L G.1 + 1);rw[kf h1];split
   ·omega
   ·rename_i ν
    have φ:sbw w f Y=Y:=by
     unfold sbw at ν ⊢;split
     ·rename_i hw;rw[lx hw] at ν;exact hE rfl ν
     ·rfl
    rw[φ] at hs ⊢;have hs:Y∈(N.sums.map (λr:kv×eP kv=>(r.1,r.2.map (sbw w f)))++[(f,[])]).map (λr:kv×eP kv=>r.1):=hs;rw[eF,tu] at hs;rcases gs.mp hs with h2 | h2
    ·have:=hk G Z Y θ h2;omega
    ·rw[φ] at ν;exact hE (eR.mp h2) ν
  ·rw[eR.mp h] at hz;cases hz
end Sx
namespace M
noncomputable def fR (G:C'):C':=(fr G).map λi=>G.getD i 0
theorem fr_lt {G:C'}:∀i∈fr G,i < G.length:=by
 intro i hi;unfold fr at hi;exact W9.mp (Xs.mp hi).1
theorem yi (G:C') (r:Nat):(fr G).map (λi=>(@ah).getD i 0)=fR G:=by
 unfold fR;refine WZ λi hi=>?_;rw[dt,dt,la (fr_lt i hi)]
theorem Vh {G:C'} {r:Nat} (h:Span G r):fR @ah=fR G:=by
 rw[<-yi G r];unfold fR;rw[fr_in h]
theorem Qk {G:C'} {r:Nat} (h:¬Span G r):fR @ah=fR G++[r]:=by
 rw[<-yi G r];unfold fR;rw[fr_out h,eF];congr 1;simp
theorem Bp:∀(G:C') (x:Nat),Span (fR G) x↔Span G x:=by
 refine @cM
 ·intro x;exact aq5
 ·intro x;by_cases h:Span l w
  ·rw[Vh h,ih,gO];exact⟨.inl,λz=>z.elim id λz=>by have:=span_xor z h;rwa [cx] at this⟩
  ·rw[Qk h,gO,gO,ih,ih]
theorem Inj.out {ws:C'} {w:Nat} (I:Inj ws) (h:¬Span ws w):Inj (ws++[w]):=by
 intro p L e;rw[iU] at e;by_cases hb:p.testBit ws.length=true
 ·rw[lx hb] at e;exfalso;apply h
  have:sm ws p=w:=by
   have:=oe (·^^^w) e;simpa[Xx] using this
  rw[<-this];exact sm_span _ _
 ·rw[kf hb,Xo] at e;refine I p ?_ e;rw[fy,u9] at L;refine YN p λi hi=>?_;by_cases G:i=ws.length
  ·rw[G];simpa using hb
  ·exact u7 (!a6 L @A)
theorem Me:∀G:C',Inj (fR G):=by
 refine nu Inj.nil λl w ih=>?_;by_cases h:Span l w
 ·rw[Vh h];exact ih
 ·rw[Qk h];exact ih.out λz=>h ((Bp l w).mp z)
theorem Inj.out' {ws:C'} {w:Nat} (I:Inj (ws++[w])):Inj ws/\¬Span ws w:=by
 refine⟨λp G e=>I p (by rw[fy,u9,ZL];omega) (by rw[ke G];exact e),λh=>?_⟩;obtain⟨p,G,e⟩:=iT h;have:=I (p^^^2 ^ ws.length) (by rw[fy];exact Fh G) (by rw[Ez G,e,Yo]);exact(xI G).1 this
theorem OP:∀ws:C',Inj ws->(fr ws).length=ws.length:=by
 refine nu (λ_=>rfl) λl w ih h=>?_;have:=h.out';rw[fr_out this.2,fy,fy,ih this.1];rfl
theorem xX {ws:C'} {t:Nat} (I:Inj ws) (h:∀x∈ws,x < 2 ^ t):ws.length<=t:=by
 rw[<-OP ws I];exact Ku h
noncomputable def ow (x:Nat) (L:C'):Nat:=pk (λk=>od (x&&&L.getD k 0)) 0 L.length
theorem ow_bit (x:Nat) (L:C') (k:Nat):(ow x L).testBit k=(decide (k < L.length)&&od (x&&&L.getD k 0)):=by unfold ow;rw[pk_bit,Y5]
theorem ow_lt (x:Nat) (L:C'):ow x L < 2 ^ L.length:=pk_lt _ _ _
theorem Gv (x y:Nat) (L:C'):ow @aT L=ow x L^^^ow y L:=iv λk=>by
 rw[w7,ow_bit,ow_bit,ow_bit,tQ,od_xor];cases decide (k < L.length)<;>simp
theorem AH (L:C'):ow 0 L=0:=iv λk=>by
 rw[ow_bit,Yg,od_zero,WO,XH]
theorem AI (L:C'):∀(G:C') (F:Nat),ow (sm G F) L=sm (G.map (ow · L)) F:=by
 refine @cM
 ·intro F;rw[sm,af6,sm,AH]
 ·intro F;rw[eF,Yw,iU,iU,Gv,ih,a'];by_cases h:F.testBit l.length=true
  ·rw[lx h,lx h]
  ·rw[kf h,kf h,AH]
theorem mL {x:Nat} {L:C'}:ow x L=0↔∀y∈L,od (x&&&y)=false:=by
 constructor
 ·intro h y G;obtain⟨k,hk,e⟩:=WW.mp G;have:=oe (Nat.testBit · k) h;rw[ow_bit,WO,gB hk,XF,dt,eH hk] at this;rw[<-e];exact this
 ·intro h;refine iv λk=>?_;rw[ow_bit,WO];by_cases hk:k < L.length
  ·rw[dt,eH hk,al9,h _ (Xm hk),XH]
  ·rw[f' hk,WT]
theorem sV {x:Nat}:∀(L:C'),(∀y∈L,od (x&&&y)=false)->∀z,Span L z->od (x&&&z)=false:=by
 refine @cM
 ·intro _ z hz;rw[show z=0 from hz,Yh,od_zero]
 ·intro h z hz;have h1:=ih λy G=>h y (hG _ G);rcases(gO l w z).mp hz with hz | hz
  ·exact h1 z hz
  ·have h2:=h1 _ hz;rw[and_xor,od_xor,h w @C,Ym] at h2;exact h2
theorem Wr (p x:Nat):∀(L:C'),L.length<=1000->od (p&&&ow x L)=od (sm L p&&&x):=by
 refine @cM
 ·intro _;rw[show ow x []=0 from rfl,Yh,sm,Yg]
 ·intro hl;rw[fy,u9] at hl
  have e:ow x (l++[w])=ow x l^^^(if od (x&&&w)=true then 2 ^ l.length else 0):=iv λk=>by
   rw[w7,ow_bit,ow_bit,fy,u9];by_cases hk:k < l.length
   ·rw[dt,dt,la hk,gB hk,gB (show k < l.length + 1 by omega)]
    have:(if od (x&&&w)=true then 2 ^ l.length else 0).testBit k=false:=by
     split
     ·rw[ri];exact @bf
     ·exact WO k
    rw[this,Ym]
   ·by_cases Y:k=l.length
    ·subst Y;rw[f' hk,gB (Xq _),WT,Z1,XF];rw[dt,lB @U,aa1];show od (x&&&w)=_;by_cases hw:od (x&&&w)=true
     ·rw[lx hw,X0,hw]
     ·rw[kf hw,WO];simpa using hw
    ·rw[f' hk,f' (show ¬k < l.length + 1 by omega),WT,WT,Z1];split
     ·rw[ri];exact(@bf).symm
     ·exact(WO k).symm
  rw[e,and_xor,od_xor,ih @A,iU,tQ,od_xor];congr 1;by_cases hw:od (x&&&w)=true
  ·rw[lx hw,X8,od_pow @A];by_cases G:p.testBit l.length=true
   ·rw[lx G,G,X8,hw]
   ·rw[kf G,Yg,od_zero];simpa using G
  ·rw[kf hw,Yh,od_zero];by_cases G:p.testBit l.length=true
   ·rw[lx G,X8];simpa using hw
   ·rw[kf G,Yg,od_zero]
theorem zU {ms:C'} {n:Nat} (hb:∀x∈ms,x < 2 ^ n) (hl:n < ms.length):∃p,p<=n/\Fst ms p:=by
 have γ:∀j,(∃p,p < j/\Fst ms p)∨∀k,k < j->k < ms.length->¬Span (ms.take k) (ms.getD k 0):=λj=>by
  induction j with
  | zero=>exact .inr λk hk=>hE hk (YF k)
  | succ j ih=>
    rcases ih with ⟨p,L,F⟩ | h
    ·exact !E ⟨p,by omega,F⟩
    ·by_cases Y:j < ms.length
     ·by_cases hs:Span (ms.take j) (ms.getD j 0)
      ·exact !E ⟨j,by omega,Y,λk hk=>h k hk @A,hs⟩
      ·exact .inr λk hk G=>by
        by_cases e:k=j
        ·rw[e];exact hs
        ·exact h k @A G
     ·exact .inr λk hk G=>h k @A G
 rcases γ (n + 1) with ⟨p,L,F⟩ | h
 ·exact⟨p,@A,F⟩
 ·have:=FK hb (j:=n + 1) @A λk hk=>h k hk @A;omega
theorem rX:∀{as:C'} {bs:C'},(∀x∈as,Span bs x)->∀z,Span as z->Span bs z:=λ{as bs} h z hz=>by
 obtain⟨p,_,e⟩:=iT hz;rw[<-e];exact EA as h p
theorem SX {ps:A'} {d:Nat} (hd:d < 2 ^ ps.length) {S:C'} (h:∀k,k < ps.length->Span S (zs ps d k)) (t:Nat):Span S (zs ps d t):=by
 obtain⟨p,Y,F⟩:=zU (VR (n:=ps.length) hd) (by rw[JA];omega);refine rX (λx G=>?_) _ (QF F t);obtain⟨k,hk,e⟩:=WW.mp G;rw[qF] at hk;have L:k < p:=by omega
 rw[ZC] at e;have:=F3 (ps:=ps) (d:=d) (n:=ps.length) (k:=k) @A;rw[eH (by rw[JA];omega)] at this;rw[<-e,qA this];exact h k @A
theorem VB {A:C'} {s n:Nat} (Y:∀x∈A,x < 2 ^ n) (hs:s < 2 ^ n) {S:C'} (h:∀k,k < n->Span S (bkI A s k)) (t:Nat):Span S (bkI A s t):=by
 obtain⟨p,Z,F⟩:=zU (WA (n:=n) Y hs) (by rw[MI];omega);refine rX (λx G=>?_) _ (SA F t);obtain⟨k,hk,e⟩:=WW.mp G;rw[qF] at hk;have L:k < p:=by omega
 rw[ZC] at e;have:=GY (A:=A) (s:=s) (n:=n) (k:=k) @A;rw[eH (by rw[MI];omega)] at this;rw[<-e,qA this];exact h k @A
theorem PJ (ps:A') (m w:Nat) (hw:w < m):∀j,(stj ps @au j)[w]? =aY (zs ps (!av 0 @aD) j)
 | 0=>by
   show(@au)[w]? =_;unfold sg0;rw[hB,Xf hw];rfl
 | j + 1=>by
   show((stj ps @au j).map λx=>tr2 ps x 0)[w]? =_;rw[hB,PJ ps m w hw j];rfl
theorem Tg (ps:A') (m j:Nat) {x:Nat} (h:x∈stj ps @au j):∃w,w < m/\x=zs ps (!av 0 @aD) j:=by
 obtain⟨w,hw,e⟩:=WW.mp h;have hm:w < m:=by rw[stj_len,sg0_len] at hw;exact hw
 have:=PJ ps m w hm j;rw[eH hw,e] at this;exact⟨w,hm,qA this⟩
theorem Ks (ps:A') (m:Nat):∀{T x:Nat},x∈rch ps m T->∃w j,w < m/\j < T/\x=zs ps (!av 0 @aD) j
 | 0,x,h=>hE h (by unfold rch;simp)
 | T + 1,x,h=>by
   unfold rch at h;rcases gs.mp h with h | h
   ·obtain⟨w,hw,e⟩:=Tg ps m T h;exact⟨w,T,hw,@A,e⟩
   ·obtain⟨w,j,hw,G,e⟩:=Ks ps m h;exact⟨w,j,hw,@A,e⟩
theorem EM {ps:A'} {m w:Nat} (hw:w < m) (t:Nat):Span (!aC ps m) (zs ps (!av 0 @aD) t):=
 SX (tr2_lt ps 0 @aD) (λk hk=>pP (Kt ps m (JT ps m w hw k) hk)) t
theorem AB {ps:A'} {m x r:Nat} (hx:Span (!aC ps m) x) (L:r < 2 ^ m):Span (!aC ps m) (!av x r):=by
 have e:=oK ps x 0 0 r;rw[Xo,Yn] at e;rw[e];refine span_xor ?_ ?_
 ·obtain⟨F,_,υ⟩:=iT hx;rw[<-υ,Ga];refine EA _ (λy G=>?_) F;obtain⟨z,hz,rfl⟩:=hC.mp G;obtain⟨w,j,hw,Y,rfl⟩:=Ks ps m hz;exact EM hw (j + 1)
 ·rw[tT ps r m L];refine EA _ (λy G=>?_) r;unfold sg0 at G;obtain⟨w,hw,rfl⟩:=hC.mp G;exact EM (W9.mp hw) 0
noncomputable def lk1 (A os:C') (t:Nat):C':=os.map λs=>bkI A s t
noncomputable def lkm (A os:C'):Nat->C'
 | 0=>[]
 | T + 1=>lkm A os T++lk1 A os T
theorem lk1_len (A os:C') (t:Nat):(lk1 A os t).length=os.length:=by unfold lk1;rw[a']
theorem lkm_len (A os:C'):∀T,(lkm A os T).length=T * os.length
 | 0=>by unfold lkm;simp
 | T + 1=>by unfold lkm;rw[fy,lk1_len,lkm_len A os T,ac2]
theorem Lp {A os:C'} {s t:Nat} (hs:s∈os):∀{T},t < T->bkI A s t∈lkm A os T
 | 0,h=>hE h (YF t)
 | T + 1,h=>by
   unfold lkm;by_cases e:t=T
   ·rw[e];exact hJ _ (!an ⟨s,hs,rfl⟩)
   ·exact hG _ (Lp hs @A)
theorem lkm_of {A os:C'}:∀{T x:Nat},x∈lkm A os T->∃s t,s∈os/\t < T/\x=bkI A s t
 | 0,x,h=>hE h (by unfold lkm;simp)
 | T + 1,x,h=>by
   unfold lkm at h;rcases gs.mp h with h | h
   ·obtain⟨s,t,hs,ht,e⟩:=lkm_of h;exact⟨s,t,hs,@A,e⟩
   ·obtain⟨s,hs,e⟩:=hC.mp h;exact⟨s,T,hs,@A,e.symm⟩
theorem Lq {A os:C'} {o s:Nat} (ho:os[o]? =aY s):∀{T t:Nat},t < T->(lkm A os T)[t * os.length + o]? =aY (bkI A s t)
 | 0,t,h=>hE h (YF t)
 | T + 1,t,h=>by
   have hl:=(!K ho).1;unfold lkm;by_cases e:t=T
   ·rw[e,lB (by rw[lkm_len];omega),lkm_len,Nat.add_sub_cancel_left];unfold lk1;rw[hB,ho];rfl
   ·have hm:t * os.length + os.length<=T * os.length:=by
     have:=ab9 os.length (show t + 1<=T by omega);rw[ac2] at this;exact this
    rw[la (by rw[lkm_len];omega)];exact Lq ho @A
theorem bkI_succ (A:C') (s t:Nat):sm A (bkI A s t)=bkI A s (t + 1):=by
 induction t generalizing s with
 | zero=>rfl
 | succ t ih=>first | rfl | (rw[<-MJ,ih];rfl)
theorem Fj {A os:C'} {n s:Nat} (G:∀x∈A,x < 2 ^ n) (ho:∀s∈os,s < 2 ^ n) (hs:s∈os) (t:Nat):Span (lkm A os n) (bkI A s t):=
 VB G (ho s hs) (λk hk=>pP (Lp hs hk)) t
theorem OJ {A os:C'} {n x:Nat} (G:∀x∈A,x < 2 ^ n) (ho:∀s∈os,s < 2 ^ n) (hx:x∈lkm A os n):Span (lkm A os n) (sm A x):=by
 obtain⟨s,t,hs,ht,rfl⟩:=lkm_of hx;rw[bkI_succ];exact Fj G ho hs (t + 1)
section
variable (ps os:A') (m:Nat)
noncomputable def msk:C':=lkm (ps.map (·.1)) (os.map (·.1)) ps.length
noncomputable def ldp:C':=fr ((!aC ps m).map (ow · @an))
noncomputable def lst_:C':=(ldp ps os m).map λi=>(!aC ps m).getD i 0
noncomputable def lkp:C':=fr ((@an).map (ow · @av))
noncomputable def lkL:C':=(lkp ps os m).map λi=>(@an).getD i 0
noncomputable def sen:C':=(@ar).map (ow · @av)
end
theorem Vg (X:C') (f:Nat->Nat):fR (X.map f)=((fr (X.map f)).map λi=>X.getD i 0).map f:=by
 unfold fR;rw[tu];refine WZ λi hi=>?_;have h:=fr_lt i hi;rw[a'] at h;show(X.map f).getD i 0=f (X.getD i 0);rw[dt,hB,eH h,dt,eH h];rfl
theorem getD_mem {X:C'} {i:Nat} (h:i < X.length):X.getD i 0∈X:=by
 rw[dt,eH h];exact Xm h
section
variable {ps os:A'} {m:Nat}
theorem Ql:fR ((!aC ps m).map (ow · @an))=(@av).map (ow · @an):=Vg _ _
theorem Qj:fR ((@an).map (ow · @av))=sen ps os m:=Vg _ _
theorem Rk:Inj (sen ps os m):=by rw[<-Qj];exact Me _
theorem ldp_lt:∀i∈ldp ps os m,i < (!aC ps m).length:=λi hi=>by have:=fr_lt i hi;rwa [a'] at this
theorem lkp_lt:∀i∈lkp ps os m,i < (@an).length:=λi hi=>by have:=fr_lt i hi;rwa [a'] at this
theorem Qe:∀x∈lkL ps os m,x∈msk ps os:=λx G=>by
 obtain⟨i,hi,rfl⟩:=hC.mp G;exact getD_mem (lkp_lt i hi)
theorem lst_in:∀x∈lst_ ps os m,x∈rch ps m ps.length:=λx G=>by
 obtain⟨i,hi,rfl⟩:=hC.mp G;exact getD_mem (ldp_lt i hi)
theorem mF:(@ar).length=(lkp ps os m).length:=a' ..
theorem sen_len:(sen ps os m).length=(lkp ps os m).length:=by unfold sen;rw[a',mF]
theorem lst_len:(@av).length=(ldp ps os m).length:=a' ..
theorem Hb {x:Nat} (h:Span (!aC ps m) x):∃y,Span @av y/\ow x @an=ow y @an:=by
 obtain⟨F,_,e⟩:=iT h;have hs:Span ((!aC ps m).map (ow · @an)) (ow x @an):=by rw[<-e,AI];exact sm_span _ _
 rw[<-Bp,Ql] at hs;obtain⟨P,_,G⟩:=iT hs;exact⟨sm @av P,sm_span _ _,by rw[AI,G]⟩
theorem IL {d x:Nat} (hd:Span @an d) (h:∀s∈lst_ ps os m,od (d&&&s)=false) (hx:Span (!aC ps m) x):od (d&&&x)=false:=by
 obtain⟨y,L,e⟩:=Hb (os:=os) hx;have h1:=sV _ h y L;have h2:ow @aT @an=0:=by rw[Gv,e,Yo]
 have G:=sV _ (mL.mp h2) d hd;rw[X8,and_xor,od_xor,h1,Ym] at G;exact G
theorem span_sen {d:Nat} (hd:Span @an d):Span (sen ps os m) (ow d @av):=by
 obtain⟨F,_,e⟩:=iT hd;rw[<-Qj,Bp,<-e,AI];exact sm_span _ _
theorem PP (p:Nat):sm (sen ps os m) p=ow (sm @ar p) @av:=by unfold sen;rw[AI]
theorem A6 {d x p:Nat} (hl:(@ar).length<=1000) (hd:Span @an d) (L:sm (sen ps os m) p=ow d @av) (hx:Span (!aC ps m) x):od (p&&&ow x @ar)=od (d&&&x):=by
 rw[Wr p x _ hl];have hs:Span @an (sm @ar p^^^d):=span_xor (EA _ (λy G=>pP (Qe y G)) p) hd;have Y:ow (sm @ar p^^^d) @av=0:=by rw[Gv,<-PP,L,Yo]
 have:=IL hs (mL.mp Y) hx;rw[tQ,od_xor] at this;revert this;cases od (sm @ar p&&&x)<;>cases od (d&&&x)<;>simp
theorem Ay:Inj ((@av).map (ow · @ar)):=by
 intro F L e;rw[a'] at L;rw[<-AI] at e;have Z:=mL.mp e
 have G:ow (sm @av F) @an=0:=by
  rw[mL];intro mk φ;have hs:=span_sen (m:=m) (pP φ);obtain⟨P,_,Y⟩:=iT hs;rw[PP] at Y;have α:ow (sm @ar P^^^mk) @av=0:=by rw[Gv,Y,Yo]
  have h1:=sV _ (mL.mp α) _ (sm_span @av F);have h2:=sV _ Z _ (sm_span @ar P);rw[tQ,od_xor,X8 _ (sm @av F),h2,Z1] at h1;rw[X8];exact h1
 have hI:=Me ((!aC ps m).map (ow · @an));rw[Ql] at hI;exact hI F (by rw[a'];exact L) (by rw[<-AI];exact G)
theorem Lm:(lkp ps os m).length=(ldp ps os m).length:=by
 have h1:=xX (Rk (ps:=ps) (os:=os) (m:=m)) (t:=(@av).length) (λx G=>by
  obtain⟨y,_,rfl⟩:=hC.mp G;exact ow_lt _ _)
 have h2:=xX (Ay (ps:=ps) (os:=os) (m:=m)) (t:=(@ar).length) (λx G=>by
  obtain⟨y,_,rfl⟩:=hC.mp G;exact ow_lt _ _)
 rw[sen_len,lst_len] at h1;rw[a',lst_len,mF] at h2;omega
theorem many_le:(lkp ps os m).length<=ps.length:=by
 have h:=xX (ws:=lst_ ps os m) (t:=ps.length) (λF L e=>?_) (λx G=>rch_lt ps m _ x (lst_in x G))
 ·rw[Lm,<-lst_len];exact h
 ·refine Ay (ps:=ps) (os:=os) (m:=m) F (by rw[a'];exact L) ?_;rw[<-AI,e,AH]
structure Lsr (ps os:A') (m:Nat) (nx' os':A'):Prop where
 ln:nx'.length=(lkp ps os m).length
 lo:os'.length=os.length
 n1:∀(j:Nat) (q:@b0),nx'[j]? =aY q->q.1 < 2 ^ (lkp ps os m).length/\sm (sen ps os m) q.1=ow (sm (ps.map (·.1)) ((@ar).getD j 0)) @av/\q.2=sm (ps.map (·.2)) ((@ar).getD j 0)
 o1:∀(j:Nat) (q:@b0),os'[j]? =aY q->q.1 < 2 ^ (lkp ps os m).length/\sm (sen ps os m) q.1=ow (os.getD j (0,0)).1 @av/\q.2=(os.getD j (0,0)).2
structure Fit (ps os:A') (m:Nat):Prop where
 ln:ps.length<=120
 bn:∀q∈ps++os,q.1 < 2 ^ ps.length
theorem Fit.A (f:Fit ps os m):∀x∈ps.map (·.1),x < 2 ^ ps.length:=λx G=>by
 obtain⟨q,L,rfl⟩:=hC.mp G;exact f.bn q (hG _ L)
theorem Fit.O (f:Fit ps os m):∀x∈os.map (·.1),x < 2 ^ ps.length:=λx G=>by
 obtain⟨q,L,rfl⟩:=hC.mp G;exact f.bn q (hJ _ L)
theorem Fit.back (f:Fit ps os m) {x:Nat} (h:x∈msk ps os):Span @an (sm (ps.map (·.1)) x):=OJ f.A f.O h
theorem Fit.out (f:Fit ps os m) {x:Nat} (h:x∈os.map (·.1)):Span @an x:=Fj f.A f.O h 0
theorem getD_at' {α:Type} {X:eP α} {i:Nat} {d:α} (h:i < X.length):X[i]? =aY (X.getD i d):=by
 rw[dt,eH h];rfl
theorem Lsr.next {G os':A'} (a:Lsr ps os m G os') (f:Fit ps os m) {x r:Nat} (hx:Span (!aC ps m) x):tr2 G (ow x @ar) r=ow (!av x r) @ar:=iv λj=>by
 have hn:=many_le (ps:=ps) (os:=os) (m:=m);have Z:=f.ln;rw[tr2_bit,ow_bit,a.ln,mF];by_cases L:j < (lkp ps os m).length
 ·rw[gB L,XF,XF];have Y:=a.n1 j _ (getD_at' (d:=(0,0)) (by rw[a.ln];exact L));have hm:(@ar).getD j 0∈msk ps os:=Qe _ (getD_mem (by rw[mF];exact L));rw[A6 (by rw[mF];omega) (f.back hm) Y.2.1 hx,Y.2.2,X8 (!av x r),K1 _ _ _ _ @A]
 ·rw[f' L,WT,WT]
theorem Lsr.says {L os':A'} (a:Lsr ps os m L os') (f:Fit ps os m) {x r:Nat} (hx:Span (!aC ps m) x):tr2 os' (ow x @ar) r=tr2 os x r:=iv λj=>by
 have hn:=many_le (ps:=ps) (os:=os) (m:=m);have Z:=f.ln;rw[tr2_bit,tr2_bit,a.lo];by_cases G:j < os.length
 ·rw[gB G,XF,XF];have Y:=a.o1 j _ (getD_at' (d:=(0,0)) (by rw[a.lo];exact G));have hm:(os.getD j (0,0)).1∈os.map (·.1):=hC.mpr ⟨_,eO (getD_at' G),rfl⟩;rw[A6 (by rw[mF];omega) (f.out hm) Y.2.1 hx,Y.2.2]
 ·rw[f' G,WT,WT]
theorem Lsr.walk {G os':A'} (a:Lsr ps os m G os') (f:Fit ps os m):∀(rs:C') (x:Nat),(∀r∈rs,r < 2 ^ m)->Span (!aC ps m) x->wan G os' (ow x @ar) rs=wan ps os x rs
 | [],x,_,_=>rfl
 | r::rs,x,h,hx=>by
   show tr2 os' _ r::wan G os' (tr2 G _ r) rs=tr2 os x r::wan ps os (!av x r) rs;rw[a.says f hx,a.next f hx,a.walk f rs _ (λy L=>h y (ov _ L)) (AB hx (h r mu))]
theorem Lsr.alike {G os':A'} (a:Lsr ps os m G os') (f:Fit ps os m) {rs:C'} (h:∀r∈rs,r < 2 ^ m):wan G os' 0 rs=wan ps os 0 rs:=by
 have:=a.walk f rs 0 h (span_zero _);rwa [AH] at this
theorem RW {x i t o:Nat} (hl:ps.length<=1000) (ho:o < os.length) (ht:t < ps.length) (hi:i=t * os.length + o):od (x&&&(@an).getD i 0)=(tr2 os (zs ps x t) 0).testBit o:=by
 have G:(os.map (·.1))[o]? =aY (os.getD o (0,0)).1:=by rw[hB,getD_at' (d:=(0,0)) ho];rfl
 have:=Lq (A:=ps.map (·.1)) G ht;rw[a'] at this;unfold msk;rw[hi,dt,this,al9,tr2_bit,gB ho,XF,Yh,od_zero,Ym,RQ ps hl,X8]
end
end M
namespace Sx
open PySem L2
theorem RM {x:Nat} {L:C'} {i v:Nat} (h:L[i]? =aY v):M.ow x (L.take @H)=M.ow x (L.take i)^^^(if M.od (x&&&v)=true then 2 ^ i else 0):=by
 have hi:=(!K h).1;have hl:(L.take i).length=i:=by rw[qF];omega
 rw[take_succ h];refine iv λk=>?_;rw[w7,M.ow_bit,M.ow_bit,fy,u9,hl];by_cases hk:k < i
 ·rw[dt,dt,la (by rw[hl];exact hk),gB hk,gB (show k < i + 1 by omega)]
  have:(if M.od (x&&&v)=true then 2 ^ i else 0).testBit k=false:=by
   split
   ·rw[ri];exact @bf
   ·exact WO k
  rw[this,Ym]
 ·by_cases G:k=i
  ·subst G;rw[f' hk,gB (Xq _),WT,Z1,XF];rw[dt,lB @A,hl,aa1];show M.od (x&&&v)=_;by_cases hw:M.od (x&&&v)=true
   ·rw[lx hw,X0,hw]
   ·rw[kf hw,WO];simpa using hw
  ·rw[f' hk,f' (show ¬k < i + 1 by omega),WT,WT,Z1];split
   ·rw[ri];exact(@bf).symm
   ·exact(WO k).symm
theorem Ux {w k:Nat} (h:k < w):M.pl w (2 ^ k)=[k]:=by
 induction w with
 | zero=>omega
 | succ w ih=>
   rw[M.pl_next];by_cases hk:k=w
   ·subst hk;rw[X0,lx rfl]
    have:M.pl k (2 ^ k)=[]:=by
     unfold M.pl;refine Z3.mpr λx G=>?_;have:=W9.mp G;simp[ri];omega
    rw[this];rfl
   ·rw[ih @A,ri,f' hk];rfl
def NY (C:ee):Sp:=λvs H Q _=>∃(p:ee) (m:Nat) (nx os:@R),vs=[.ref p]/\MaA H C p m nx os/\MaG m nx os/\nx.length<=60/\∀(D:ee) (H2:Hp),H D=gg->Same H H2->H2 D=aY (!a7 (M.msk @N @X))->Q @W H2
def QZ:Sp:=λvs H Q _=>∃(r x:Nat) (L:C'),vs=[nat x,.ref r]/\H r=aY (!A (L.map nat))/\L.length<=1000/\x < 2 ^ 1000/\∀H2,Same H H2->Q (nat (M.ow x L)) H2
def Th:Sp:=λvs H Q _=>∃(t Y L:ee) (a b:Nat) (S Z:C'),vs=[.ref t,.ref Y,.ref L]/\H t=aY (!H [nat a,nat b])/\H Y=aY (!A (S.map nat))/\H L=aY (!A (Z.map nat))/\S.length<=1000/\Z.length<=1000/\(∀z∈Z,z < 2 ^ 1000)/\a < 2 ^ 1000/\M.Span Z (M.ow a S)/\∀(G:ee) (H2:Hp) (q:Nat),H G=gg->Same H H2->H2 G=aY (!H [nat q,nat b])->Sumd Z (M.ow a S) q->Q (!j G) H2
def Cp (G:eP Pr3->Prop) (H1:Hp) (D:ee) (i:Nat) (ys:eP V) (H:Hp):Prop:=∃qs:eP Pr3,ys=refs qs/\qs.length=i/\G qs/\Prt H qs/\Same H1 H/\H D=aY @Y
theorem Qw {β:eP Pr3->Prop} {H1 H G:Hp} {D t:ee} {i x y:Nat} {qs:@R} (δ:H1 D=gg) (Z:qs.length=i) (pt:Prt H qs) (s:Same H1 H) (α:H D=aY (!A (refs qs))) (L:!bg G) (et:G t=aY (!H [nat x,nat y])) (hi:i < 1000) (pv:β (qs++[(t,x,y)])):G D=aY (!A (refs qs))/\(refs qs).length < ic/\Cp β H1 D @H (refs qs++[.ref t]) (!X G (refs qs++[.ref t])):=by
 refine⟨L.get α,by rw[iE,Z];exact aK @A,qs++[(t,x,y)],by unfold refs;rw[eF];rfl,by rw[fy,Z];rfl,pv,λq γ=>?_,λb ob e=>?_,aw⟩
 ·have Y:G q.1=aY (!H [nat q.2.1,nat q.2.2]):=by
   rcases gs.mp γ with h | h
   ·exact L.get (pt q h)
   ·rw[eR.mp h];exact et
  have n:q.1≠D:=λz=>by rw[z,L.get α] at Y;cases Y
  rw[aD n];exact Y
 ·rw[aD (!L δ)];exact L.get (s.get e)
def Co (ob:Nat->HO) (H1:Hp) (D:ee) (i:Nat) (ys:eP V) (H:Hp):Prop:=∃ds:M',ys=ds.map V.ref/\ds.length=i/\(∀(j:Nat) (d:ee),ds[j]? =aY d->H d=aY (ob j))/\(∀d∈ds,H1 d=gg/\d≠D)/\Same H1 H/\H D=aY @Y
theorem rS {ob:Nat->HO} {H1:Hp} {D:ee} (G:H1 D=gg):Co ob H1 D 0 [] (!X H1 []):=⟨[],rfl,rfl,λj d h=>(by simp at h),λ_ h=>(by cases h),bo G,aw⟩
theorem MC {G:eP Pr3->Prop} {H1:Hp} {D:ee} (L:H1 D=gg) (h:G []):Cp G H1 D 0 [] (!X H1 []):=⟨[],rfl,rfl,h,λ_ h=>(by cases h),bo L,aw⟩
theorem yu {ob:Nat->HO} {H1 H G:Hp} {D t:ee} {i:Nat} {ys:eP V} (β:H1 D=gg) (c:Co ob H1 D i ys H) (L:!bg G) (ft:H t=gg) (et:G t=aY (ob i)) (hi:i < 1000):G D=aY @Y/\ys.length < ic/\Co ob H1 D @H (ys++[.ref t]) (!X G (ys++[.ref t])):=by
 obtain⟨ds,rfl,ld,ha,hf,s,α⟩:=c;have Z:t≠D:=λz=>by rw[z,α] at ft;cases ft
 refine⟨L.get α,by rw[a',ld];exact aK @A,ds++[t],by rw[eF];rfl,by rw[fy,ld];rfl,λj d h=>?_,λd hd=>?_,λb o e=>?_,aw⟩
 ·by_cases Y:j < ds.length
  ·rw[la Y] at h;rw[aD (hf d (eO h)).2];exact L.get (ha j d h)
  ·rw[lB @A] at h
   have hz:j - ds.length=0:=by
    cases e:j - ds.length with
    | zero=>rfl
    | succ m=>rw[e] at h;simp at h
   rw[hz] at h;have h:d=t:=(qA h).symm;have Y:j=i:=by omega
   rw[h,aD Z,Y];exact et
 ·rcases gs.mp hd with h | h
  ·exact hf d h
  ·rw[eR.mp h];exact⟨s.free ft,Z⟩
 ·rw[aD (!L β)];exact L.get (s.get e)
structure Lrl (H:Hp) (Dr Dl:ee) (ds es:M') (m:Nat) (nx os:@R):Prop where
 r:H Dr=aY (!A (ds.map V.ref))
 l:H Dl=aY (!A (es.map V.ref))
 dl:ds.length=(M.ldp @N @X m).length
 el:es.length=(M.lkp @N @X m).length
 da:∀(j:Nat) (d k:Nat),ds[j]? =aY d->(M.ldp @N @X m)[j]? =aY k->H d=aY (!a7 (M.upk m (2 ^ k) nx.length))
 ea:∀(j:Nat) (e k:Nat),es[j]? =aY e->(M.lkp @N @X m)[j]? =aY k->H e=aY (!H [nat (k / os.length),nat (k % os.length)])
def N1 (C:ee):Sp:=λvs H Q _=>∃(p:ee) (m:Nat) (nx os:@R),vs=[.ref p]/\MaA H C p m nx os/\MaG m nx os/\nx.length<=60/\∀(t x γ Y:ee) (ds es:M') (H2:Hp) (L G:@R),Same H H2->H2 t=aY (!H [.ref x,.ref γ,.ref Y])->MaA H2 C x m L G->MaG m L G->M.Lsr @N @X m (prs L) @b3->Lrl H2 γ Y ds es m nx os->H γ=gg->H Y=gg->γ≠Y->(∀d∈ds,H d=gg/\d≠γ/\d≠Y)->Q @ab H2
noncomputable def less (H:Hp) (R:ee->Prop):Hp:=λb=>@ite _ (R b) (XS _) gg (H b)
structure Hnd2 (H:Hp) (i s t o:ee) (rs:eP Rw) (qs:eP Qs) (N:Nt):Prop where
 i:H i=aY (!A @co)
 s:H s=aY (!A @bH)
 sr:∀r∈rs,H r.1=aY @bF/\(H r.2.1=aY (!A @bq)∨H r.2.1=aY (!H @bq))
 es:rs.map (·.2.2)=N.sums
 t:H t=aY (!A @cl)
 tr:∀q∈qs,H q.1=aY @cF
 et:qs.map (·.2)=N.sts
 o:H o=aY (!A (!ba V.str))
theorem Hnd2.same {H H2:Hp} {i s t o:ee} {rs:eP Rw} {qs:eP Qs} {N:Nt} (x:Hnd2 H i s t o rs qs N) (h:@ao):Hnd2 H2 i s t o rs qs N:=⟨h.get x.i,h.get x.s,λr m=>⟨h.get (x.sr r m).1,(x.sr r m).2.imp h.get h.get⟩,x.es,h.get x.t,λq m=>h.get (x.tr q m),x.et,h.get x.o⟩
theorem Kx.hnd2 {x:ee} {H H2:Hp} (k:Kx x H H2) {C dx:ee} {fs:@az} (hx:H x=aY @ak) {i s t o:ee} {rs:eP Rw} {qs:eP Qs} {N:Nt} (h:Hnd2 H i s t o rs qs N):Hnd2 H2 i s t o rs qs N:=
 ⟨k.lst hx h.i,k.lst hx h.s,λr m=>⟨k.tup hx (h.sr r m).1,(h.sr r m).2.imp (k.lst hx) (k.tup hx)⟩,h.es,k.lst hx h.t,λq m=>k.tup hx (h.tr q m),h.et,k.lst hx h.o⟩
def Hk:Sp:=λvs H Q _=>∃(i s t o:ee) (rs:eP Rw) (qs:eP Qs) (N:Nt),vs=[.ref i,.ref s,.ref t,.ref o]/\Hnd2 H i s t o rs qs N/\Gn N/\∀H2,Same H H2->Q .non H2
def Q3 (C Y L G:ee):Sp:=λvs H Q _=>∃(x dx i s t o:ee) (rs:eP Rw) (qs:eP Qs) (N:Nt),vs=[.ref x,.ref i,.ref s,.ref t,.ref o]/\H x=aY @b1/\Hnd2 H i s t o rs qs N/\Gn N/\∀(H2:Hp) (od:B'),Kx x H H2->NetA H2 C Y L G x N od->Q .non H2
inductive Thg (H:Hp):V->X9->Prop where
 | sc {v:V} {k:X9} (s:Scl v k):Thg H v k
 | nil {p:ee} (e:H p=aY (!A [])):Thg H @P "list"
inductive Cpy (H H2:Hp):V->V->Prop where
 | sc {v:V} {k:X9} (s:Scl v k):Cpy H H2 v v
 | nil {p p2:ee} (e:H p=aY (!A [])) (e2:H2 p2=aY (!A [])):Cpy H H2 @P (!j p2)
def NZ (K:b'):Sp:=λvs H Q _=>∃(p:ee) (ns:P') (st mo:Nat),vs=[.ref p,nat st,nat mo]/\SqL K H p @as/\st<=900/\mo<=12/\∀(t i s u o:ee) (H2:Hp) (rs:eP Rw) (qs:eP Qs) (N:Nt),Same H H2->H2 t=aY (!H [.ref i,.ref s,.ref u,.ref o])->Hnd H2 i s u o rs qs N->Gn N->N.ins.length<=3->N.sums.length<=mo->Nmc (cell ns (st:Int)) N->Q @ab H2
theorem RX {c:Int} {L Y:Nat} {G sums:@aY} {sts:eP (kv×kv)} {outs:B'} (m:Mk c L Y G) (h1:L<=3) (h2:Y<=12) (α:G.length<=12) (Z:sums.Perm G) (hs:sts.map (·.1)=nms c 6 Y) (ι:outs.length<=6)
  (ht:∀q∈sts,q.2∈nms c 0 L++nms c 6 Y++nms c 22 G.length) (ho:∀z∈outs,z∈nms c 0 L++nms c 6 Y++nms c 22 G.length):Nmc c ⟨nms c 0 L,sums,sts,outs⟩:=by
 have pn:(sums.map (·.1)).Perm (!bu c 22):=by rw[<-m.nm];exact Z.map _
 intro z hz;unfold Nt.names at hz;have hz:z∈nms c 0 L++sums.map (·.1)++sts.map (·.1):=hz;rw[hs] at hz;rcases gs.mp hz with h | h
 ·rcases gs.mp h with h | h
  ·obtain⟨k,hk,e⟩:=kO h;exact⟨_,@A,e⟩
  ·obtain⟨k,hk,e⟩:=kO (!bL h);exact⟨_,@A,e⟩
 ·obtain⟨k,hk,e⟩:=kO h;exact⟨_,@A,e⟩
def RwLs (H:Hp) (rs:eP Rw):Prop:=∀r∈rs,H r.1=aY @bF/\H r.2.1=aY (!A @bq)
theorem xZ {z:kv} {l:B'}:(inV (V.str z) (l.map V.str))=true↔z∈l:=by
 unfold inV;rw[YH];constructor
 ·rintro⟨x,L,e⟩;obtain⟨y,G,rfl⟩:=hC.mp L;have:y=z:=by simpa[eqV] using e
  rw[<-this];exact G
 ·intro h;exact⟨_,!an ⟨z,h,rfl⟩,by simp[eqV]⟩
inductive Thg2 (H:Hp):V->X9->Prop where
 | sc {v:V} {k:X9} (s:Scl v k):Thg2 H v k
 | nil {p:ee} (e:H p=aY (!A [])):Thg2 H @P "list"
 | one {p:ee} {z:kv} (l:z.length<=1000) (e:H p=aY (!H [.str z])):Thg2 H @P "tuple"
inductive Cpy2 (H H2:Hp):V->V->Prop where
 | sc {v:V} {k:X9} (s:Scl v k):Cpy2 H H2 v v
 | nil {p p2:ee} (e:H p=aY (!A [])) (e2:H2 p2=aY (!A [])):Cpy2 H H2 @P (!j p2)
 | one {p p2:ee} {z:kv} (e:H p=aY (!H [.str z])) (e2:H2 p2=aY (!H [.str z])):Cpy2 H H2 @P (!j p2)
def Hg:Sp:=λvs H Q _=>∃(l:ee) (zs:B') (w f:kv),vs=[.ref l,.str w,.str f]/\(H l=aY (!A @aP)∨H l=aY (!H @aP))/\zs.length<=1000/\∀(D:ee) (H2:Hp),H D=gg->Same H H2->H2 D=aY (!b7 (zs.map (sbw w f)))->Q @W H2
end Sx
namespace M
noncomputable def jn (p1 p2:A'):A':=p1++p2.map λq=>(q.1 <<< p1.length,q.2)
theorem jn_len (p1 p2:A'):(jn p1 p2).length=p1.length + p2.length:=by unfold jn;rw[fy,a']
noncomputable def lo (n x:Nat):Nat:=x&&&(2 ^ n - 1)
theorem Qd (n x k:Nat):(lo n x).testBit k=(decide (k < n)&&x.testBit k):=by
 unfold lo;rw[Yi,ah5,Bool.and_comm]
theorem lo_lt (n x:Nat):lo n x < 2 ^ n:=by
 unfold lo;rw[Zb];exact mod_lt _ (px n)
theorem U1 (n x y:Nat):lo n @aT=lo n x^^^lo n y:=by unfold lo;rw[tQ]
theorem Vd (n x y:Nat):@aT>>>n=x>>>n^^^y>>>n:=iv λk=>by
 rw[Xt,w7,w7,Xt,Xt]
theorem spl (n x:Nat):lo n x^^^((x>>>n) <<< n)=x:=iv λk=>by
 rw[w7,Qd,XJ,Xt];by_cases h:k < n
 ·rw[gB h,f' @A];simp
 ·rw[f' h,gB (by omega:k≥n),show n + (k - n)=k by omega];simp
theorem R4 {n a b:Nat} (h:a < 2 ^ n):lo n (a^^^(b <<< n))=a:=iv λk=>by
 rw[Qd,w7,XJ];by_cases hk:k < n
 ·rw[gB hk,f' (by omega:¬k≥n)];simp
 ·rw[f' hk,u7 (!a6 h @A)];rfl
theorem hi_lt {n m x:Nat} (h:x < 2 ^ (n + m)):x>>>n < 2 ^ m:=by
 rw[W7,am9 (px n),ai9,<-ah8];exact h
structure Jo (p1 p2:A'):Prop where
 a1:∀q∈p1,q.1 < 2 ^ p1.length
 a2:∀q∈p2,q.1 < 2 ^ p2.length
 l:p1.length + p2.length<=500
theorem Jo.tr {p1 p2:A'} (j:Jo p1 p2) {a b r:Nat} (ha:a < 2 ^ p1.length) (hb:b < 2 ^ p2.length):tr2 (jn p1 p2) @c3 r=tr2 p1 a r^^^(tr2 p2 b r <<< p1.length):=iv λk=>by
 have hl:=j.l;rw[tr2_bit,jn_len,w7,XJ,tr2_bit,tr2_bit];by_cases h1:k < p1.length
 ·have e:(jn p1 p2).getD k (0,0)=p1.getD k (0,0):=by
   unfold jn;rw[dt,dt,la h1]
  have hm:p1.getD k (0,0)∈p1:=by
   rw[dt,eH h1];exact Xm h1
  have L:=j.a1 _ hm
  have ea:(p1.getD k (0,0)).1&&&@c3=(p1.getD k (0,0)).1&&&a:=by
   have:=DT (p:=(p1.getD k (0,0)).1) (r:=a) (P:=0) (R:=b) L ha;rw[ad9,Xo,Yg,ad9,Xo] at this;exact this
  rw[e,ea,gB h1,gB (show k < p1.length + p2.length by omega),f' (show ¬k≥p1.length by omega)];simp
 ·by_cases h2:k < p1.length + p2.length
  ·have G:k - p1.length < p2.length:=by omega
   have e:(jn p1 p2).getD k (0,0)=((p2.getD @bL (0,0)).1 <<< p1.length,(p2.getD @bL (0,0)).2):=by
    unfold jn;rw[dt,lB @A,hB,dt,eH G];rfl
   have hm:p2.getD @bL (0,0)∈p2:=by
    rw[dt,eH G];exact Xm G
   have L:=j.a2 _ hm
   have ea:od (((p2.getD @bL (0,0)).1 <<< p1.length)&&&@c3)=od ((p2.getD @bL (0,0)).1&&&b):=by
    have:=DT (p:=0) (r:=a) (P:=(p2.getD @bL (0,0)).1) (R:=b) @aK ha;rw[Yn,Yg,Yn] at this;rw[this];refine UM (Xe ZW (!a6 L @A)) @A
   rw[e];show(decide (k < p1.length + p2.length)&&(od (((p2.getD @bL (0,0)).1 <<< p1.length)&&&@c3)^^od ((p2.getD @bL (0,0)).2&&&r)))=_;rw[ea,gB h2,f' h1,gB (show k≥p1.length by omega),gB G];simp
  ·rw[f' h2,f' h1,f' (show ¬k - p1.length < p2.length by omega)];simp
section
variable {p1 p2 o1 o2:A'} {m:Nat}
theorem Jo.tr' (j:Jo p1 p2) {x r:Nat} (hx:x < 2 ^ @ci):tr2 (jn p1 p2) x r=tr2 p1 (!b8 x) r^^^(tr2 p2 (x>>>p1.length) r <<< p1.length):=by
 have:=j.tr (r:=r) (lo_lt p1.length x) (hi_lt hx);rwa [spl] at this
theorem Jo.zs (j:Jo p1 p2) {a b:Nat} (ha:a < 2 ^ p1.length) (hb:b < 2 ^ p2.length):∀t,M.zs (jn p1 p2) @c3 t=M.zs p1 a t^^^(M.zs p2 b t <<< p1.length)
 | 0=>rfl
 | t + 1=>by
   show tr2 _ (M.zs _ _ t) 0=_;rw[j.zs ha hb t,j.tr (Eh ha t) (Eh hb t)];rfl
theorem Jo.wst (j:Jo p1 p2):∀(rs:C') {a b:Nat},a < 2 ^ p1.length->b < 2 ^ p2.length->M.wst (jn p1 p2) @c3 rs=M.wst p1 a rs^^^(M.wst p2 b rs <<< p1.length)
 | [],_,_,_,_=>rfl
 | r::rs,a,b,ha,hb=>by
   show M.wst _ (tr2 _ _ r) rs=_;rw[j.tr ha hb,j.wst rs (!b9 _ _) (!b9 _ _)];rfl
theorem wx (n:Nat):(0:Nat)^^^(0 <<< n)=0:=by rw[ad9];rfl
noncomputable def sgl (p o:A') (w:Nat):Nat->Nat
 | 0=>tr2 o 0 @aD
 | t + 1=>tr2 o (zs p (tr2 p 0 @aD) t) 0
theorem BM (p o:A'):∀(T x t:Nat),t < T->(wan p o x (lA T 0)).getD t 0=tr2 o (zs p x t) 0
 | 0,_,_,h=>hE h @A
 | T + 1,x,t,h=>by
   rw[Y8];show(tr2 o x 0::wan p o (tr2 p x 0) (lA T 0)).getD t 0=_
   match t with
   | 0=>rfl
   | t + 1=>
     show(wan p o (tr2 p x 0) (lA T 0)).getD t 0=_;rw[BM p o T _ t @A,QG]
theorem wan_sgl (p o:A') (w T:Nat):∀t,t<=T->(wan p o 0 (2 ^ w::lA T 0)).getD t 0=sgl p o w t
 | 0,_=>rfl
 | t + 1,h=>by
   show(wan p o (tr2 p 0 @aD) (lA T 0)).getD t 0=_;rw[BM p o T _ t @A];rfl
theorem pulse_sgl (p o:A') (w:Nat) {T t:Nat} (h:t < T):(wan p o 0 (pulse w T)).getD t 0=sgl p o w t:=by
 rw[<-pulse_eq,wan_take,dt,List.getElem?_take,lx h,<-dt,wan_sgl p o w T t @A]
def Al (p1 o1 p2 o2:A') (m T:Nat):Prop:=∀t,t < T->∀w,w < m->sgl p1 o1 w t=sgl p2 o2 w t
theorem Al.step (j:Jo p1 p2) {T:Nat} (al:Al p1 o1 p2 o2 m T) {i x r:Nat} (hi:i < T) (hx:Span (rch (jn p1 p2) m i) x) (Z:r < 2 ^ m):tr2 o1 (!b8 x) r=tr2 o2 (x>>>p1.length) r:=by
 have χ:∀y,Span (rch (jn p1 p2) m i) y->tr2 o1 (!b8 y) 0=tr2 o2 (y>>>p1.length) 0:=λy G=>by
  obtain⟨F,_,rfl⟩:=iT G
  have gen:∀(L:C'),(∀z∈L,tr2 o1 (!b8 z) 0=tr2 o2 (z>>>p1.length) 0)->∀F,tr2 o1 (!b8 (sm L F)) 0=tr2 o2 (sm L F>>>p1.length) 0:=by
   intro L φ F;refine rev_ind (P:=λL=>(∀z∈L,tr2 o1 (!b8 z) 0=tr2 o2 (z>>>p1.length) 0)->tr2 o1 (!b8 (sm L F)) 0=tr2 o2 (sm L F>>>p1.length) 0) ?_ ?_ L φ
   ·intro _;show tr2 o1 (!b8 0) 0=tr2 o2 (0>>>p1.length) 0;have β:lo p1.length 0=0:=by unfold lo;rw[Yg]
    rw[β,Nat.zero_shiftRight,rW,rW]
   ·intro L z ih h;have i1:=ih λy G=>h y (hG _ G);have i2:=h z (hJ _ mu);rw[iU];split
    ·rw[U1,Vd];have a1:=oK o1 (!b8 (sm L F)) (!b8 z) 0 0;have a2:=oK o2 (sm L F>>>p1.length) (z>>>p1.length) 0 0;rw[Yo] at a1 a2;rw[a1,a2,i1,i2]
    ·rw[Xo];exact i1
  refine gen _ (λz hz=>?_) F;obtain⟨w,k,hw,hk,rfl⟩:=Ks _ _ hz
  have γ:tr2 (jn p1 p2) 0 @aD=tr2 p1 0 @aD^^^(tr2 p2 0 @aD <<< p1.length):=by
   have:=j.tr (a:=0) (b:=0) (r:=2 ^ w) @aK @aK;rwa [wx] at this
  rw[γ,j.zs (!b9 _ _) (!b9 _ _),R4 (Eh (!b9 _ _) _),p4 (Eh (!b9 _ _) _)];exact al @aR @A w hw
 have α:=oK o1 (!b8 x) 0 0 r;have Y:=oK o2 (x>>>p1.length) 0 0 r;rw[Xo,Yn] at α Y;rw[α,Y,χ x hx,tT o1 r m Z,tT o2 r m Z];congr 1
 have:sg0 o1 m=sg0 o2 m:=by
  unfold sg0;exact WZ λw hw=>al 0 @A w (W9.mp hw)
 rw[this]
theorem Ue (ps:A') {rs:C'} (h:∀r∈rs,r < 2 ^ m):Span (rch ps m rs.length) (wst ps 0 rs):=by
 rw[we ps m rs h];exact sm_span _ _
theorem Al.runs (j:Jo p1 p2) {T:Nat} (al:Al p1 o1 p2 o2 m T) {rs:C'} (h:∀r∈rs,r < 2 ^ m) (hl:rs.length<=T):wan p1 o1 0 rs=wan p2 o2 0 rs:=by
 revert h hl;refine rev_ind (P:=λrs=>(∀r∈rs,r < 2 ^ m)->rs.length<=T->wan p1 o1 0 rs=wan p2 o2 0 rs) @bE ?_ rs;intro rs r ih h hl;have h1:∀r∈rs,r < 2 ^ m:=λr G=>h r (hG _ G);have h2:=h r (hJ _ mu);rw[fy,u9] at hl;rw[wan_snoc,wan_snoc,ih h1 @A];have hw:=j.wst rs (a:=0) (b:=0) @aK @aK;rw[wx] at hw;have hs:=al.step j (i:=rs.length) (r:=r) @A (Ue (jn p1 p2) h1) h2;rw[hw,R4 (wst_lt @aK),p4 (wst_lt @aK)] at hs;rw[hs]
theorem Al.all (j:Jo p1 p2) (al:Al p1 o1 p2 o2 m @cD) {x r:Nat} (hx:Span (rch (jn p1 p2) m @ci) x) (G:r < 2 ^ m):tr2 o1 (!b8 x) r=tr2 o2 (x>>>p1.length) r:=al.step j (i:=p1.length + p2.length) @A hx G
theorem Al.ever (j:Jo p1 p2) (al:Al p1 o1 p2 o2 m @cD) (T:Nat):Al p1 o1 p2 o2 m T:=λt _ w hw=>by
 match t with
 | 0=>exact al 0 @A w hw
 | t + 1=>
   have hs:=EM (ps:=jn p1 p2) hw t;rw[jn_len] at hs;have:=al.all j hs (px m)
   have φ:tr2 (jn p1 p2) 0 @aD=tr2 p1 0 @aD^^^(tr2 p2 0 @aD <<< p1.length):=by
    have:=j.tr (a:=0) (b:=0) (r:=2 ^ w) @aK @aK;rwa [wx] at this
   rw[φ,j.zs (!b9 _ _) (!b9 _ _),R4 (Eh (!b9 _ _) _),p4 (Eh (!b9 _ _) _)] at this;exact this
end
noncomputable def rcf (ps:A') (m:Nat):Nat->C'
 | 0=>[]
 | T + 1=>rcf ps m T++stj ps @au T
theorem rcf_len (ps:A') (m:Nat):∀T,(rcf ps m T).length=T * m
 | 0=>by show 0=0 * m;omega
 | T + 1=>by
   show(rcf ps m T++stj ps @au T).length=_;rw[fy,rcf_len ps m T,stj_len,sg0_len,ac2]
theorem EN (ps:A') (m:Nat) (x:Nat):∀T,x∈rcf ps m T↔x∈rch ps m T
 | 0=>aq5
 | T + 1=>by
   show x∈rcf ps m T++stj ps @au T↔x∈stj ps @au T++rch ps m T;rw[gs,gs,EN ps m x T,or_comm]
theorem mem_span:∀{L:C'} {x:Nat},x∈L->Span L x:=λ{L x} h=>by
 obtain⟨i,hi⟩:=WX.mp h;have:=sm_span L (2 ^ i);rwa [pQ,dt,hi] at this
theorem Om (ps:A') (m T x:Nat):Span (rcf ps m T) x↔Span (rch ps m T) x:=
 ⟨rX (λy G=>mem_span ((EN ps m y T).mp G)) x,rX (λy G=>mem_span ((EN ps m y T).mpr G)) x⟩
noncomputable def prs2 (p1 p2:A') (m:Nat):C':=fR (rcf (jn p1 p2) m @ci)
theorem Cf (p1 p2:A') (m x:Nat):Span (prs2 p1 p2 m) x↔Span (rch (jn p1 p2) m @ci) x:=by
 unfold prs2;rw[Bp,Om]
theorem prs2_next {p1 p2:A'} {m x r:Nat} (hx:Span (prs2 p1 p2 m) x) (G:r < 2 ^ m):Span (prs2 p1 p2 m) (tr2 (jn p1 p2) x r):=by
 rw[Cf] at hx ⊢;have:=AB (ps:=jn p1 p2) (m:=m) (x:=x) (r:=r) (by rw[jn_len];exact hx) G;rwa [jn_len] at this
theorem prs2_lt {p1 p2:A'} {m x:Nat} (hx:x∈prs2 p1 p2 m):x < 2 ^ @ci:=by
 have h:=(Cf p1 p2 m x).mp (mem_span hx);rw[<-jn_len];exact span_lt (rch_lt _ _ _) h
theorem prs2_few (p1 p2:A') (m:Nat):(prs2 p1 p2 m).length<=p1.length + p2.length:=xX (Me _) λx G=>prs2_lt G
end M
namespace Sx
open PySem L2
structure TwoA (H:Hp) (C p1 p2:ee) (m:Nat) (nx1 os1 nx2 os2:@R):Prop where
 a1:MaA H C p1 m nx1 os1
 g1:MaG m nx1 os1
 a2:MaA H C p2 m nx2 os2
 g2:MaG m nx2 os2
 lo:os1.length=os2.length
 l:nx1.length + nx2.length<=60
theorem TwoA.same {H H2:Hp} {C p1 p2:ee} {m:Nat} {Z L Y G:@R} (x:TwoA H C p1 p2 m Z L Y G) (s:@ao):TwoA H2 C p1 p2 m Z L Y G:=⟨x.a1.same s,x.g1,x.a2.same s,x.g2,x.lo,x.l⟩
theorem TwoA.jo {H:Hp} {C p1 p2:ee} {m:Nat} {Y Z L G:@R} (x:TwoA H C p1 p2 m Y Z L G):M.Jo (prs Y) (prs L) where
 a1:=λq β=>by
  obtain⟨r,α,rfl⟩:=hC.mp β;rw[aL];exact(x.g1.bn r (hG _ α)).1
 a2:=λq β=>by
  obtain⟨r,α,rfl⟩:=hC.mp β;rw[aL];exact(x.g2.bn r (hG _ α)).1
 l:=by rw[aL,aL];have:=x.l;omega
noncomputable abbrev jnp (L G:@R):A':=M.jn (prs L) @b3
theorem LK (L G:@R):(jnp L G).length=L.length + G.length:=by rw[M.jn_len,aL,aL]
def NU (C:ee):Sp:=λvs H Q _=>∃(p1 p2:ee) (m:Nat) (Y Z L G:@R) (x r:Nat),vs=[.ref p1,.ref p2,nat x,nat r]/\TwoA H C p1 p2 m Y Z L G/\x < 2 ^ (Y.length + L.length)/\r < 2 ^ m/\∀H2,Same H H2->Q (nat (M.tr2 (jnp Y L) x r)) H2
structure Fun2 (p1 o1 p2 o2:A') (m w t:Nat):Prop where
 hw:w < m
 ht:t<=p1.length + p2.length
 al:M.Al p1 o1 p2 o2 m t
 al':∀w',w' < w->M.sgl p1 o1 w' t=M.sgl p2 o2 w' t
 un:M.sgl p1 o1 w t≠M.sgl p2 o2 w t
theorem Fun2.not {p1 o1 p2 o2:A'} {m w t:Nat} (a:Fun2 p1 o1 p2 o2 m w t) (b:M.Al p1 o1 p2 o2 m @cD):False:=a.un (b t (by have:=a.ht;omega) w a.hw)
def Q6 (C:ee):Sp:=λvs H Q _=>∃(p1 p2:ee) (m:Nat) (Y Z L G:@R),vs=[.ref p1,.ref p2]/\TwoA H C p1 p2 m Y Z L G/\
 (M.Al (prs Y) (prs Z) (prs L) @b3 m (Y.length + L.length + 1)->∀H2,Same H H2->Q .non H2)/\
 (∀w t,Fun2 (prs Y) (prs Z) (prs L) @b3 m w t->∀(tt:ee) (H2:Hp),Same H H2->H2 tt=aY (!H [.str "apart",nat w,nat t])->Q (!j tt) H2)
def Tj (C:ee):Sp:=λvs H Q _=>∃(p1 p2:ee) (m:Nat) (Y Z L G:@R),vs=[.ref p1,.ref p2]/\TwoA H C p1 p2 m Y Z L G/\∀(D:ee) (H2:Hp),H D=gg->Same H H2->H2 D=aY (!a7 (M.prs2 (prs Y) (prs L) m))->Q @W H2
noncomputable def sfq (G:C') (x:Nat):Nat:=@dite _ (∃q,Sumd G x q) (XS _) (λh=>h.choose) λ_=>0
theorem PN {G:C'} {x q:Nat} (h:Sumd G x q):q=sfq G x:=by
 unfold sfq;rw[dif_pos ⟨q,h⟩];exact h.uniq (Classical.choose_spec (⟨q,h⟩:∃q,Sumd G x q))
structure AlkA (H:Hp) (t Ds Db Du:ee) (ts bs us:M') (m:Nat) (p1 p2:A'):Prop where
 t:H t=aY (!H [.str "alike",.ref Ds,.ref Db,.ref Du])
 s:H Ds=aY (!A (ts.map V.ref))
 ls:ts.length=(M.prs2 p1 p2 m).length
 sa:∀(j:Nat) a,ts[j]? =aY a->H a=aY (!H [nat (M.lo p1.length ((M.prs2 p1 p2 m).getD j 0)),nat ((M.prs2 p1 p2 m).getD j 0>>>p1.length)])
 b:H Db=aY (!A (bs.map V.ref))
 lb:bs.length=m
 ba:∀(j:Nat) a,bs[j]? =aY a->H a=aY (!a7 (!aR (sfq (M.prs2 p1 p2 m) (M.tr2 (M.jn p1 p2) 0 @aW))))
 u:H Du=aY (!A (us.map V.ref))
 lu:us.length=(M.prs2 p1 p2 m).length
 ua:∀(j:Nat) a,us[j]? =aY a->H a=aY (!a7 (!aR (sfq (M.prs2 p1 p2 m) (M.tr2 (M.jn p1 p2) ((M.prs2 p1 p2 m).getD j 0) 0))))
theorem AlkA.same {H H2:Hp} {t G ο L:ee} {ts bs us:M'} {m:Nat} {p1 p2:A'} (x:AlkA H t G ο L ts bs us m p1 p2) (s:@ao):AlkA H2 t G ο L ts bs us m p1 p2:=⟨s.get x.t,s.get x.s,x.ls,λj a h=>s.get (x.sa j a h),s.get x.b,x.lb,λj a h=>s.get (x.ba j a h),s.get x.u,x.lu,λj a h=>s.get (x.ua j a h)⟩
def Tr (C:ee):Sp:=λvs H Q _=>∃(p1 p2:ee) (m:Nat) (Z α Y G:@R),vs=[.ref p1,.ref p2]/\TwoA H C p1 p2 m Z α Y G/\
 (M.Al (prs Z) @bw (prs Y) @b3 m (Z.length + Y.length + 1)->∀(t β ο L:ee) (ts bs us:M') (H2:Hp),Same H H2->AlkA H2 t β ο L ts bs us m (prs Z) (prs Y)->Q @ab H2)/\
 (∀w t,Fun2 (prs Z) @bw (prs Y) @b3 m w t->∀(tt:ee) (H2:Hp),Same H H2->H2 tt=aY (!H [.str "apart",nat w,nat t])->Q (!j tt) H2)
theorem KI {p1 p2:A'} {m x r q:Nat} (hx:x=0∨x∈M.prs2 p1 p2 m) (G:r < 2 ^ m):M.Span (M.prs2 p1 p2 m) (M.tr2 (M.jn p1 p2) x r):=by
 refine M.prs2_next ?_ G;rcases hx with rfl | h
 ·exact M.span_zero _
 ·exact M.mem_span h
noncomputable def cz (w:kv) (q:@aU) (x:kv):Nat×Nat:=if x=w then (0,0) else q x
structure CutP (N:Nt) (w:kv) (q:@aU):Prop where
 i:∀(k:Nat) z,N.ins[k]? =aY z->q z=(0,2 ^ k)
 t:∀(k:Nat) z y,N.sts[k]? =aY (z,y)->q z=(2 ^ k,0)
 s:∀z ws,(z,ws)∈N.sums->q z=(xf (λx=>(cz w q x).1) ws,xf (λx=>(cz w q x).2) ws)
theorem zI (f:@bt) (g:kv->kv):∀ws:B',xf f (ws.map g)=xf (λx=>f (g x)) ws:=by
 intro ws
 induction ws using M.rev_ind with
 | h0=>rfl
 | h1 l x ih=>rw[eF,jF,show[x].map g=[g x] from rfl,jF,ih]
theorem pO {f g:@bt}:∀{ws:B'},(∀x∈ws,f x=g x)->xf f ws=xf g ws:=by
 intro ws
 induction ws using M.rev_ind with
 | h0=>intro _;rfl
 | h1 l x ih=>intro h;rw[jF,jF,ih λy G=>h y (hG _ G),h x (hJ _ @bY)]
theorem Gd {N:Nt} {z:kv} {ws:B'} (h:(z,ws)∈N.sums):z∈N.names:=by
 unfold Nt.names;exact hG _ (hJ _ (!an ⟨_,h,rfl⟩))
theorem LQ {N:Nt} {z:kv} {k:Nat} (h:N.ins[k]? =aY z):z∈N.names:=by
 unfold Nt.names;exact hG _ (hG _ (eO h))
theorem JU {N:Nt} {z y:kv} {k:Nat} (h:N.sts[k]? =aY (z,y)):z∈N.names:=by
 unfold Nt.names;exact hJ _ (!an ⟨_,eO h,rfl⟩)
theorem OR {N:Nt} {w f:kv} {p:@aU} (h:Hng @ag p):p f=(0,0):=h.s f [] (hJ _ mu)
theorem PQ {N:Nt} {w f:kv} {p:@aU} (h:Hng @ag p) (x:kv):p (sbw w f x)=cz w p x:=by
 unfold sbw cz;split
 ·exact OR h
 ·rfl
theorem Hng.cut {N:Nt} {w f:kv} {p:@aU} (h:Hng @ag p):CutP N w p where
 i:=h.i
 t:=λk z y hk=>h.t k z (sbw w f y) (by
  show(!bK (q.1,sbw w f q.2))[k]? =_;rw[hB,hk];rfl)
 s:=λz ws hz=>by
  rw[h.s z (ws.map (sbw w f)) (hG _ (!an ⟨(z,ws),hz,rfl⟩)),zI,zI];rw[pO (f:=λx=>(p (sbw w f x)).1) (g:=λx=>(cz w p x).1) λx _=>by rw[PQ h],pO (f:=λx=>(p (sbw w f x)).2) (g:=λx=>(cz w p x).2) λx _=>by rw[PQ h]]
noncomputable def ext (f:kv) (q:@aU) (z:kv):Nat×Nat:=if z=f then (0,0) else q z
theorem CutP.hng {N:Nt} {w f:kv} {q:@aU} (c:CutP N w q) (g:Gn N) (hf:f∉N.names):Hng @ag (ext f q):=by
 have ne:∀{z},z∈N.names->ext f q z=q z:=λ{z} hz=>by
  unfold ext;rw[kf λe=>hf (by rw[<-e];exact hz)]
 have es:∀{x},x∈N.names->ext f q (sbw w f x)=cz w q x:=λ{x} G=>by
  unfold sbw cz;split
  ·unfold ext;rw[lx rfl]
  ·exact ne G
 refine⟨λk z hk=>?_,λk z y hk=>?_,λz ws hz=>?_⟩
 ·rw[ne (LQ hk)];exact c.i k z hk
 ·have hk:(!bK (q.1,sbw w f q.2))[k]? =aY (z,y):=hk;rw[hB] at hk;cases e:N.sts[k]? with
  | none=>rw[e] at hk;cases hk
  | some r=>
    rw[e] at hk;have hk:=qA hk;have h1:r.1=z:=oe Z' hk;rw[<-h1,ne (JU (y:=r.2) e)];exact c.t k r.1 r.2 e
 ·rcases gs.mp hz with h | h
  ·obtain⟨r,L,e⟩:=hC.mp h;have h1:r.1=z:=oe Z' e;have h2:r.2.map (sbw w f)=ws:=oe am4 e;rw[<-h1,<-h2,ne (Gd (ws:=r.2) L),c.s r.1 r.2 L,zI,zI];rw[pO (f:=λx=>(cz w q x).1) (g:=λx=>(ext f q (sbw w f x)).1) λx G=>by rw[es (g.ws r L x G)],pO (f:=λx=>(cz w q x).2) (g:=λx=>(ext f q (sbw w f x)).2) λx G=>by rw[es (g.ws r L x G)]]
  ·rw[eR] at h;cases h;unfold ext;rw[lx rfl];rfl
theorem CutP.tab {N:Nt} {w f:kv} {q:@aU} (c:CutP N w q) (g:Gn N) (hf:f∉N.names) (g2:Gn @ag) {od:B'} (tp:Topo (@ag).sums od) (b:∀z∈N.names,(q z).1 < 2 ^ N.sts.length/\(q z).2 < 2 ^ N.ins.length):
  ((@ag).sts.map (·.2)).map (hgp @ag)=(N.sts.map (·.2)).map (cz w q)/\(@ag).outs.map (hgp @ag)=N.outs.map (cz w q):=by
 have Y:=c.hng (f:=f) g hf;have lst:(@ag).sts.length=N.sts.length:=a' ..
 have γ:∀x∈N.names,hgp @ag (sbw w f x)=cz w q x:=λx G=>by
  have e:ext f q (sbw w f x)=cz w q x:=by
   unfold sbw cz;split
   ·unfold ext;rw[lx rfl]
   ·unfold ext;rw[kf λe=>hf (by rw[<-e];exact G)]
  have hb:(cz w q x).1 < 2 ^ N.sts.length/\(cz w q x).2 < 2 ^ N.ins.length:=by
   unfold cz;split
   ·exact⟨px _,px _⟩
   ·exact b x G
  rw[GK g2 tp Y (B0 G) (by rw[e,lst];exact hb.1) (by rw[e];exact hb.2),e]
 constructor
 ·show((!bK (q.1,sbw w f q.2)).map (·.2)).map _=_;rw[tu,tu,tu];exact WZ λr L=>γ r.2 (g.ts r L)
 ·show(!ba (sbw w f)).map _=_;rw[tu];exact WZ λr L=>γ r (g.os r L)
theorem Pa {N:Nt} {w f:kv} (g:Gn N) (hf:f∉N.names) (g2:Gn @ag) {od:B'} (tp:Topo (@ag).sums od):∃q:kv->Nat×Nat,CutP N w q/\∀z∈N.names,(q z).1 < 2 ^ N.sts.length/\(q z).2 < 2 ^ N.ins.length:=by
 refine⟨hgp @ag,(x4 g2 tp).cut,λz hz=>⟨?_,LS @ag z⟩⟩;have:=CV @ag z;rwa [show(@ag).sts.length=N.sts.length from a' ..] at this
noncomputable def frn (k:Nat):Str:=("c":kv)++tx k
theorem Sm (k:Nat):(frn k).cps.toList=99::(tx k).cps.toList:=by unfold frn;rw[mH];rfl
theorem Vf:∀k:Fin 64,nm (frn k.1).cps.toList=true:=by decide +kernel
theorem Sl {j k:Nat} (L:j < 64) (hk:k < 64) (e:frn j=frn k):j=k:=by
 have G:=oe (λz:kv=>z.cps.toList) e;simp only[Sm] at G;injection G with _ G
 have ο:=oe dval G;rw[(wC ⟨j,by omega⟩).1.1,(wC ⟨k,by omega⟩).1.1] at ο;exact ο
noncomputable def frns (n:Nat):B':=(qB n).map frn
theorem GN (n:Nat):(frns n).length=n:=by unfold frns;rw[a',W1]
theorem L9 (n:Nat):frns (n + 1)=frns n++[frn n]:=by unfold frns;rw[Y7,eF];rfl
theorem Sk {n:Nat} (h:n<=64):(frns n).Nodup:=by
 refine ZA.mpr (Zl (λ{a b} ha hb ne e=>ne ?_) ar1);exact Sl (by have:=W9.mp ha;omega) (by have:=W9.mp hb;omega) e
theorem Cw:∀(l G:B'),l.Nodup->(∀x∈l,x∈G)->l.length<=G.length
 | [],_,_,_=>Xy _
 | x::l,G,nd,h=>by
   have Y:=h x mu;rw[Zd] at nd
   have:=Cw l (G.erase x) nd.2 λy L=>by
    refine(List.mem_erase_of_ne λe=>nd.1 (by rw[<-e];exact L)).mpr (h y (ov _ L))
   rw[aj8 Y] at this;have Z:0 < G.length:=al3 Y;rw[W3];omega
theorem Ma {n:Nat} (G:B') (h:n + 1<=64) (hl:G.length<=n):((frns (n + 1)).filter λz=> !decide (z∈G))≠[]:=λe=>by
 have:∀x∈frns (n + 1),x∈G:=λx L=>by
  have:=Z3.mp e x L;simpa using this
 have:=Cw _ _ (Sk h) this;rw[GN] at this;omega
def Ob (G:NP):Sp:=λvs H Q _=>∃(p:ee) (N:Nt) (od:B'),vs=[.ref p]/\G H p N od/\∀(z:kv) (H2:Hp),Nm z->z∉N.names->Same H H2->Q @aj H2
noncomputable def tbN (N:Nt):A'×eP @b0:=((N.sts.map (·.2)).map (hgp N),N.outs.map (hgp N))
noncomputable def cqp (N:Nt) (w:kv):kv->Nat×Nat:=@dite _ (∃q,CutP N w q/\∀z∈N.names,(q z).1 < 2 ^ N.sts.length/\(q z).2 < 2 ^ N.ins.length) (XS _) (λh=>h.choose) λ_ _=>(0,0)
noncomputable def tbC (N:Nt) (w:kv):A'×eP @b0:=((N.sts.map (·.2)).map (cz w (cqp N w)),N.outs.map (cz w (cqp N w)))
theorem Py {N:Nt} {w f:kv} (g:Gn N) (hf:f∉N.names) (g2:Gn @ag) {od:B'} (tp:Topo (@ag).sums od):tbN @ag=tbC N w:=by
 have α:=Pa g hf g2 tp
 have G:CutP N w (cqp N w)/\∀z∈N.names,((cqp N w) z).1 < 2 ^ N.sts.length/\((cqp N w) z).2 < 2 ^ N.ins.length:=by
  unfold cqp;rw[dif_pos α];exact α.choose_spec
 obtain⟨Y,L⟩:=G.1.tab g hf g2 tp G.2;unfold tbN tbC;rw[Y,L]
def Od (G:NP):Sp:=λvs H Q _=>∃(p:ee) (N:Nt) (od:B') (w z:kv),vs=[.ref p,.str w,.str z]/\G H p N od/\w∈N.names/\Nm z/\z∉N.names/\N.sums.length<=39/\∀(n:ee) (H2:Hp) (α:B'),H n=gg->Same H H2->G H2 n (!aY w z) α->Q (!j n) H2
noncomputable def sts (N:Nt) (rs:C'):C':=(qB (rs.length + 1)).map λk=>rst N 0 (!aW k)
end Sx
namespace M
section
variable {ps os:A'} {m:Nat}
noncomputable def chs (ps os:A') (m a i:Nat):Nat:=sm (!aJ ((ldp ps os m).map (2 ^ ·))) a
theorem Qx (a i:Nat):chs ps os m a i < 2 ^ (ps.length * m):=by
 unfold chs;refine sm_lt a λx G=>?_;obtain⟨k,hk,rfl⟩:=hC.mp (an2 G);have:=ldp_lt (ps:=ps) (os:=os) (m:=m) k hk;rw[rch_len] at this;exact WS @D this
theorem MD (a:Nat):wst ps 0 (upk m (chs ps os m a (ldp ps os m).length) ps.length)=sm @av a:=by
 rw[we ps m _ (JO m _ _),JP,ET m _ _ (Qx a _)];unfold chs;rw[XM (by rw[a'];exact mc _),Oe];congr 1;unfold lst_;rw[tu];refine WZ λk hk=>?_;exact pQ ..
theorem Tv {x j k:Nat} (hl:ps.length<=1000) (h:(lkp ps os m)[j]? =aY k):(ow x @ar).testBit j=(tr2 os (zs ps x (k / os.length)) 0).testBit (k % os.length):=by
 have G:=(!K h).1;have hk:=lkp_lt (ps:=ps) (os:=os) (m:=m) k (eO h);have hm:(@an).length=ps.length * os.length:=by unfold msk;rw[lkm_len,a']
 rw[hm] at hk;have ho:0 < os.length:=ap9 λz=>by rw[z,Nat.mul_zero] at hk;exact YF _ hk
 have hd:(@ar).getD j 0=(@an).getD k 0:=by
  unfold lkL;rw[dt,hB,h];rfl
 rw[ow_bit,mF,gB G,XF,hd];exact RW hl (mod_lt _ ho) (ac0 (by rw[ai9];exact hk)) (Nat.div_add_mod' k os.length).symm
end
theorem wy (ps os:A'):∀(T x t:Nat),t < T->(wan ps os x (lA T 0))[t]? =aY (tr2 os (zs ps x t) 0)
 | 0,x,t,h=>hE h (YF _)
 | T + 1,x,0,h=>rfl
 | T + 1,x,t + 1,h=>by
   rw[Y8];show(wan ps os (!av x 0) (lA T 0))[t]? =_;rw[wy ps os T _ t @A,QG]
section
variable {ps os ps' os':A'} {m:Nat}
theorem S7 (f:Fit ps os m) {x:Nat} (hx:Span (!aC ps m) x) (h:ow x @ar=0) (t:Nat):tr2 os (zs ps x t) 0=0:=iv λo=>by
 have hn:=many_le (ps:=ps) (os:=os) (m:=m);have G:=f.ln;rw[WO,tr2_bit];by_cases ho:o < os.length
 ·have hm:(os.getD o (0,0)).1∈os.map (·.1):=hC.mpr ⟨_,eO (getD_at' ho),rfl⟩;have hd:Span @an (bkI (ps.map (·.1)) (os.getD o (0,0)).1 t):=Fj f.A f.O hm t;obtain⟨p,_,L⟩:=iT (span_sen (m:=m) hd);have:=A6 (by rw[mF];omega) hd L hx;rw[h,Yh,od_zero] at this;rw[gB ho,XF,Yh,od_zero,Ym,RQ ps @A,<-this]
 ·rw[f' ho,WT]
theorem BN:∀(rs:C') (x:Nat),(∀r∈rs,r < 2 ^ m)->Span (!aC ps m) x->Span (!aC ps m) (wst ps x rs)
 | [],_,_,G=>G
 | r::rs,x,h,G=>BN rs (!av x r) (λy L=>h y (ov _ L)) (AB G (h r mu))
theorem zP (f:Fit ps os m) (α:Fit ps' os' m) (al:∀rs,(∀r∈rs,r < 2 ^ m)->wan ps os 0 rs=wan ps' os' 0 rs):(lkp ps os m).length<=(lkp ps' os' m).length:=by
 have δ:=f.ln
 have γ:=xX (ws:=(ldp ps os m).map λk=>ow (sm (!aC ps' m) (2 ^ k)) (lkL ps' os' m)) (t:=(lkL ps' os' m).length) (λF β e=>?_) (λx ε=>by
  obtain⟨y,_,rfl⟩:=hC.mp ε;exact ow_lt _ _)
 ·rw[a',mF] at γ;rw[Lm];exact γ
 ·rw[a'] at β;have θ:((ldp ps os m).map λk=>ow (sm (!aC ps' m) (2 ^ k)) (lkL ps' os' m))=(((ldp ps os m).map (2 ^ ·)).map (sm (!aC ps' m))).map (ow · (lkL ps' os' m)):=by rw[tu,tu];rfl
  rw[θ,<-AI,<-Oe] at e
  have L:sm ((ldp ps os m).map (2 ^ ·)) F=chs ps os m F (ldp ps os m).length:=by
   unfold chs;rw[XM (by rw[a'];exact mc _)]
  rw[L] at e
  have hw:wst ps' 0 (upk m (!c9 (ldp ps os m)) ps.length)=sm (!aC ps' m) (!c9 (ldp ps os m)):=by
   rw[we ps' m _ (JO m _ _),JP,ET m _ _ (Qx F _)]
  rw[<-hw] at e;have G:=MD (ps:=ps) (os:=os) (m:=m) F;have Y:=JO m (!c9 (ldp ps os m)) ps.length;generalize upk m (!c9 (ldp ps os m)) ps.length=R at e hw G Y;have η:=S7 α (BN R 0 Y (span_zero _)) e
  have ψ:∀t,tr2 os (zs ps (sm @av F) t) 0=0:=λt=>by
   have ha:=al (R++lA (t + 1) 0) λr ζ=>by
    rcases gs.mp ζ with h | h
    ·exact Y r h
    ·rw[List.eq_of_mem_replicate h];exact px _
   rw[Ek,Ek] at ha;have hb:=(List.append_inj ha (by rw[wan_len,wan_len])).2;have L:=oe (·[t]?) hb;simp only[wy _ _ _ _ _ (Xq t),Option.some.injEq] at L;rw[<-G,L,η]
  refine Ay (ps:=ps) (os:=os) (m:=m) F (by rw[a',lst_len];exact β) ?_;rw[<-AI];refine @bD;rw[WO];by_cases Z:j < (lkp ps os m).length
  ·rw[Tv @A (eH Z),ψ,WO]
  ·rw[ow_bit,mF,f' Z,WT]
theorem many_one (f:Fit ps os m) (α:Fit ps' os' m) (al:∀rs,(∀r∈rs,r < 2 ^ m)->wan ps os 0 rs=wan ps' os' 0 rs):(lkp ps os m).length=(lkp ps' os' m).length:=Nat.le_antisymm (zP f α al) (zP α f λrs h=>(al rs h).symm)
end
end M
namespace Sx
open PySem L2
def BV (G:NP):Sp:=λvs H Q _=>∃(p:ee) (N:Nt) (od:B') (w:kv),vs=[.ref p,.str w]/\G H p N od/\w∈N.names/\N.sums.length<=39/\
 (M.Al (@a0).1 (@a0).2 (tbC N w).1 (tbC N w).2 N.ins.length (N.sts.length + N.sts.length + 1)->∀(t Y ο L:ee) (ts bs us:M') (H2:Hp),Same H H2->AlkA H2 t Y ο L ts bs us N.ins.length (@a0).1 (tbC N w).1->Q @ab H2)/\
 (∀θ t',Fun2 (@a0).1 (@a0).2 (tbC N w).1 (tbC N w).2 N.ins.length θ t'->∀(tt:ee) (H2:Hp),Same H H2->H2 tt=aY @cR->Q (!j tt) H2)
theorem tx90:∀n:Fin 1000,(tx (n.1 + 3330)).cps.toList.length=4/\(tx (n.1 + 3330)).cps.toList.all fig=true:=by decide +kernel
noncomputable def nm9 (c:Int):Str:=(⟨#[97 + (@bs).toNat]⟩:kv)++tx ((@aO).toNat + 3330)
theorem UT (c:Int):Nm (nm9 c):=by
 have hd:low (97 + (@bs).toNat)=true:=by
  have:=w5 (!aV 400) (show(0:Int) < 26 by decide);have:=zt (!aV 400) (show(26:Int)≠0 by decide);unfold low;rw[gB @A,gB @A];rfl
 have hb:(@aO).toNat < 1000:=by
  have:=w5 @bv (show(0:Int) < 1000 by decide);have:=zt @bv (show(1000:Int)≠0 by decide);omega
 obtain⟨G,h2⟩:=tx90 ⟨_,hb⟩;show nm _=true;unfold nm9;rw[mH];show nm ((97 + (@bs).toNat)::(tx ((@aO).toNat + 3330)).cps.toList)=true;have G:(tx ((@aO).toNat + 3330)).cps.toList.length=4:=G;have h2:(tx ((@aO).toNat + 3330)).cps.toList.all fig=true:=h2;generalize (tx ((@aO).toNat + 3330)).cps.toList=l at h2 G;generalize 97 + (@bs).toNat=d at hd;show(decide ((d::l).length<=6)&&low d&&(d::l).all λc=>low c||fig c)=true;rw[hd,aa2,hd]
 have ξ:l.all (λc=>low c||fig c)=true:=by
  rw[Xn] at h2 ⊢;intro x L;rw[h2 x L,al0]
 rw[ξ,W3,gB @A];rfl
noncomputable def x1 (L:@R):Nat:=L.foldl (λa g=>a^^^g.2.1) 0
noncomputable def x2 (L:@R):Nat:=L.foldl (λa g=>a^^^g.2.2) 0
structure Nts (NA:NP) (H:Hp) (p1 p2:ee) (N N2:Nt) (od od2:B'):Prop where
 a1:NA H p1 N od
 a2:NA H p2 N2 od2
 li:N2.ins.length=N.ins.length
 lt:N2.sts.length=N.sts.length
theorem qI {N:Nt} (g:Gn N):(∀q∈(tbN N).1,q.1 < 2 ^ (@a0).1.length)/\(@a0).1.length=N.sts.length:=by
 have l:(@a0).1.length=N.sts.length:=by unfold tbN;rw[a',a']
 refine⟨λq G=>?_,l⟩;rw[l];obtain⟨z,hz,rfl⟩:=hC.mp G;exact CV N z
theorem Ta {N G:Nt} (g:Gn N) (g2:Gn G):M.Jo (@a0).1 (tbN G).1:=⟨(qI g).1,(qI g2).1,by rw[(qI g).2,(qI g2).2];have:=g.lt;have:=g2.lt;omega⟩
theorem Ca {N:Nt} (g:Gn N) {od:B'} (tp:!bG od) (rs:C') (st:Nat):ran N st rs=M.wan (@a0).1 (@a0).2 st rs:=Kv g tp (x4 g tp) rs st
def J8:Sp:=λvs H Q _=>∃(c:Int),vs=[.int c,.int 90]/\∀H2,Same H H2->Q (.str (nm9 c)) H2
noncomputable def jS (N:Nt) (w f:kv):Nt:=⟨N.ins,N.sums.map (λr=>(r.1,r.2.map (sbw w f)))++[(f,[w])],!bK (q.1,sbw w f q.2),!ba (sbw w f)⟩
theorem ux (N:Nt) (w f:kv):(jS N w f).names=(@ag).names:=by
 unfold Nt.names jS cutN;rw[eF,eF];rfl
theorem R1 (N:Nt) (w f:kv):(jS N w f).sums.map (·.1)=(@ag).sums.map (·.1):=by
 unfold jS cutN;rw[eF,eF];rfl
theorem Ll {N:Nt} (g:Gn N) {w f:kv} (hl:N.sums.length<=39) (hf:Nm f) (hn:f∉N.names) (hw:w∈N.names):Gn (jS N w f):=by
 have c:=GU g (w:=w) hl hf hn;refine⟨c.li,?_,c.lt,c.lo,λr δ=>?_,?_,?_,λr δ z hz=>?_,?_,?_,?_⟩
 ·show(N.sums.map _++[(f,[w])]).length<=40;rw[fy,a',u9];omega
 ·rcases gs.mp δ with h | h
  ·exact c.lw r (hG _ h)
  ·rw[eR.mp h];show 1<=24;decide
 ·rw[ux];exact c.nm
 ·rw[ux];exact c.nd
 ·rw[ux];rcases gs.mp δ with h | h
  ·exact c.ws r (hG _ h) z hz
  ·rw[eR.mp h] at hz;rw[eR.mp hz,(tF N w f).mem_iff];exact hG _ hw
 ·rw[ux];exact c.ts
 ·rw[ux];exact c.os
 ·obtain⟨G,hk⟩:=g.rk;have η:f∉N.sums.map (·.1):=λh=>hn (by unfold Nt.names;exact hG _ (hJ _ h));have γ:w≠f:=λe=>hn (by rw[<-e];exact hw);refine⟨λz=>if z=f then (if w∈N.sums.map (·.1) then 2 * G w + 3 else 0) else 2 * G z + 2,λr δ z hz hs=>?_⟩
  have α:z∈N.sums.map (·.1)∨z=f:=by
   rw[R1] at hs;unfold cutN at hs;rw[eF,tu] at hs;rcases gs.mp hs with h | h
   ·exact !E h
   ·exact !I (eR.mp h)
  rcases gs.mp δ with h | h
  ·obtain⟨Y,ε,rfl⟩:=hC.mp h;obtain⟨L,θ,rfl⟩:=hC.mp hz;have ζ:Y.1∈N.sums.map (·.1):=hC.mpr ⟨Y,ε,rfl⟩;have ω:Y.1≠f:=λe=>η (by rw[<-e];exact ζ);show(if sbw w f L=f then (if w∈N.sums.map (·.1) then 2 * G w + 3 else 0) else 2 * G (sbw w f L) + 2) < (if Y.1=f then (if w∈N.sums.map (·.1) then 2 * G w + 3 else 0) else 2 * G Y.1 + 2);rw[kf ω];by_cases e:L=w
   ·have ι:sbw w f L=f:=by unfold sbw;rw[lx e]
    rw[lx ι];by_cases Z:w∈N.sums.map (·.1)
    ·rw[lx Z];have:=hk Y ε L θ (by rw[e];exact Z);rw[e] at this;omega
    ·rw[kf Z];omega
   ·have ι:sbw w f L=L:=by unfold sbw;rw[kf e]
    rw[ι] at α ⊢;have β:L≠f:=λq=>hn (by rw[<-q];exact g.ws Y ε L θ);rw[kf β];rcases α with q | q
    ·have:=hk Y ε L θ q;omega
    ·exact hE q β
  ·rw[eR] at h;subst h;have hz:z=w:=eR.mp hz;subst hz;rcases α with q | q
   ·show(if z=f then _ else _) < (if f=f then _ else _);rw[kf γ,lx rfl,lx q];omega
   ·exact hE q γ
noncomputable def xtw (f:kv) (q:@aU) (v:@b0) (z:kv):Nat×Nat:=if z=f then v else q z
theorem OG {N:Nt} {w f:kv} (g:Gn N) {q:@aU} (c:Hng N q) (hf:f∉N.names) (hw:w∈N.names):Hng (jS N w f) (xtw f q (q w)):=by
 have ne:∀{z},z∈N.names->xtw f q (q w) z=q z:=λ{z} hz=>by
  unfold xtw;rw[kf λe=>hf (by rw[<-e];exact hz)]
 have es:∀{x},x∈N.names->xtw f q (q w) (sbw w f x)=q x:=λ{x} G=>by
  unfold sbw;split
  ·rename_i e;rw[e];unfold xtw;rw[lx rfl]
  ·exact ne G
 refine⟨λk z hk=>?_,λk z y hk=>?_,λz ws hz=>?_⟩
 ·rw[ne (LQ hk)];exact c.i k z hk
 ·have hk:(!bK (q.1,sbw w f q.2))[k]? =aY (z,y):=hk;rw[hB] at hk;cases e:N.sts[k]? with
  | none=>rw[e] at hk;cases hk
  | some r=>
    rw[e] at hk;have hk:=qA hk;have h1:r.1=z:=oe Z' hk;rw[<-h1,ne (JU (y:=r.2) e)];exact c.t k r.1 r.2 e
 ·rcases gs.mp hz with h | h
  ·obtain⟨r,L,e⟩:=hC.mp h;have h1:r.1=z:=oe Z' e;have h2:r.2.map (sbw w f)=ws:=oe am4 e;rw[<-h1,<-h2,ne (Gd (ws:=r.2) L),c.s r.1 r.2 L,zI,zI];rw[pO (f:=λx=>(q x).1) (g:=λx=>(xtw f q (q w) (sbw w f x)).1) λx G=>by rw[es (g.ws r L x G)],pO (f:=λx=>(q x).2) (g:=λx=>(xtw f q (q w) (sbw w f x)).2) λx G=>by rw[es (g.ws r L x G)]]
  ·rw[eR] at h;cases h;have Y:xtw f q (q w) f=q w:=by unfold xtw;rw[lx rfl]
   rw[Y]
   have G:∀h:kv->Nat,xf h [w]=h w:=λh=>by
    have:=jF h [] w;rw[as2] at this;rw[this];show 0^^^h w=h w;rw[Yn]
   rw[G,G,ne hw]
theorem OF {N:Nt} {w f:kv} (g:Gn N) (hf:f∉N.names) (hw:w∈N.names) {od:B'} (tp:!bG od) (g2:Gn (jS N w f)) {α:B'} (G:Topo (jS N w f).sums α):tbN (jS N w f)=tbN N:=by
 have Z:=OG g (x4 g tp) hf hw;have lst:(jS N w f).sts.length=N.sts.length:=a' ..
 have γ:∀x∈N.names,hgp (jS N w f) (sbw w f x)=hgp N x:=λx Y=>by
  have e:xtw f (hgp N) (hgp N w) (sbw w f x)=hgp N x:=by
   unfold sbw;split
   ·rename_i e;rw[e];unfold xtw;rw[lx rfl]
   ·unfold xtw;rw[kf λe=>hf (by rw[<-e];exact Y)]
  have hm:sbw w f x∈(jS N w f).names:=by rw[ux];exact B0 Y
  rw[GK g2 G Z hm (by rw[e,lst];exact CV N x) (by rw[e];exact LS N x),e]
 unfold tbN;refine ae2 ?_ ?_
 ·show((!bK (q.1,sbw w f q.2)).map (·.2)).map _=_;rw[tu,tu,tu];exact WZ λr L=>γ r.2 (g.ts r L)
 ·show(!ba (sbw w f)).map _=_;rw[tu];exact WZ λr L=>γ r (g.os r L)
theorem Hnd.two {H:Hp} {i s t o:ee} {rs:eP Rw} {qs:eP Qs} {N:Nt} (x:Hnd H i s t o rs qs N):Hnd2 H i s t o rs qs N:=⟨x.i,x.s,λr m=>⟨(x.sr r m).1,.inl (x.sr r m).2⟩,x.es,x.t,x.tr,x.et,x.o⟩
theorem Lk {N:Nt} {w f:kv} (hf:f∉N.names):(@ag).sums.map (λr=>(r.1,if r.1=f then [w] else r.2))=(jS N w f).sums:=by
 unfold cutN jS;rw[eF,tu]
 have L:N.sums.map ((λr:kv×eP kv=>(r.1,if r.1=f then [w] else r.2)) ∘ λr=>(r.1,r.2.map (sbw w f)))=N.sums.map (λr=>(r.1,r.2.map (sbw w f))):=WZ λr G=>by
  have ν:r.1≠f:=λe=>hf (by rw[<-e];unfold Nt.names;exact hG _ (hJ _ (!an ⟨r,G,rfl⟩)));show(r.1,if r.1=f then [w] else r.2.map (sbw w f))=_;rw[kf ν]
 rw[L];show _++[(f,if f=f then [w] else [])]=_;rw[lx rfl]
def N0 (G:NP):Sp:=λvs H Q _=>∃(p:ee) (N:Nt) (od:B') (w f:kv),vs=[.ref p,.str w,.str f]/\G H p @ag od/\Gn N/\w∈N.names/\f∉N.names/\Nm f/\N.sums.length<=39/\
 ∀(n:ee) (H2:Hp) (α:B'),H n=gg->Same H H2->G H2 n (jS N w f) α->Q (!j n) H2
theorem SD {p1 o1 p2 o2:A'} {m:Nat} (j:M.Jo p1 p2) (al:M.Al p1 o1 p2 o2 m @cD) (rs:C') (h:∀r∈rs,r < 2 ^ m):M.wan p1 o1 0 rs=M.wan p2 o2 0 rs:=
 (al.ever j rs.length).runs j h @U
theorem An {N:Nt} (g:Gn N):M.Fit (@a0).1 (@a0).2 N.ins.length:=by
 have l:=(qI g).2;refine⟨by rw[l];have:=g.lt;omega,λq G=>?_⟩;rcases gs.mp G with h | h
 ·exact(qI g).1 q h
 ·unfold tbN at h;obtain⟨z,_,rfl⟩:=hC.mp h;rw[l];exact CV N z
noncomputable def leN (N:Nt):Nat:=(M.lkp (@a0).1 (@a0).2 N.ins.length).length
def Ew (G:NP):Sp:=λvs H Q _=>∃(p D:ee) (N:Nt) (od:B') (χ:P'),vs=[.ref p,.ref D]/\G H p N od/\H D=aY (!A (χ.map V.int))/\χ.length<=100/\∀H2,Same H H2->Q (nat (leN N)) H2
def Er (L:NP):Sp:=λvs H Q _=>∃(t p1 p2:ee) (N G:Nt) (od α:B') (θ t':Nat),vs=[.ref t,.ref p1,.ref p2]/\H t=aY @cR/\Nts L H p1 p2 N G od α/\Fun2 (@a0).1 (@a0).2 (tbN G).1 (tbN G).2 N.ins.length θ t'/\∀H2,Same H H2->Q (.bl true) H2
def FndX (H:Hp) (t:ee) (N:Nt) (w:kv):Prop:=(∃(G ο L:ee) (ts bs us:M'),M.Al (@a0).1 (@a0).2 (tbC N w).1 (tbC N w).2 N.ins.length (N.sts.length + N.sts.length + 1)/\AlkA H t G ο L ts bs us N.ins.length (@a0).1 (tbC N w).1)∨(∃θ t':Nat,Fun2 (@a0).1 (@a0).2 (tbC N w).1 (tbC N w).2 N.ins.length θ t'/\H t=aY @cR)
theorem Pg {Y:NP} {H:Hp} {Q:VK} {E:XK} {p:ee} {N:Nt} {od:B'} {w:kv} (na:Y H p N od) (hw:w∈N.names) (hm:N.sums.length<=39) (γ:∀(t:ee) (H2:Hp),Same H H2->FndX H2 t N w->Q @ab H2):BV Y [.ref p,.str w] H Q E:=
 ⟨p,N,od,w,rfl,na,hw,hm,λal t β ο L ts bs us H2 G α=>γ t H2 G (!E ⟨β,ο,L,ts,bs,us,al,α⟩),fun θ t' Z tt H2 G e=>γ tt H2 G (!I ⟨θ,t',Z,e⟩)⟩
theorem R6 {N:Nt} {w f:kv} (e:tbN (jS N w f)=tbN N):leN (jS N w f)=leN N:=by unfold leN;rw[e];rfl
theorem U2 {N N2:Nt} (g:Gn N) (g2:Gn N2) (li:N2.ins.length=N.ins.length) (al:M.Al (@a0).1 (@a0).2 (tbN N2).1 (tbN N2).2 N.ins.length (N.sts.length + N2.sts.length + 1)):leN N2=leN N:=by
 unfold leN;rw[li];have G:=An g2;rw[li] at G;rw[<-(qI g).2,<-(qI g2).2] at al;exact(M.many_one (An g) G (SD (Ta g g2) al)).symm
theorem SE (p o:A') (m T:Nat):M.Al p o p o m T:=λ_ _ _ _=>rfl
def Et (G:NP):Sp:=λvs H Q _=>∃(p D:ee) (N:Nt) (od:B') (w f:kv) (χ:P'),vs=[.ref p,.str w,.str f,.ref D]/\G H p N od/\w∈N.names/\Nm f/\f∉N.names/\N.sums.length<=39/\H D=aY (!A (χ.map V.int))/\χ.length<=100/\∀H2,Same H H2->Q (.bl true) H2
structure Kn (N:Nt) (od:B') (t i:Nat) (ks:B'):Prop where
 nd:ks.Nodup
 sub:∀z∈ks,z∈N.names
 io:∀z∈N.ins,z∈ks
 so:∀z∈N.sts.map (·.1),z∈ks
 odk:∀j,j < t->∀z,od[j]? =aY z->z∈ks
 cur:∀j,j < i->∀r,N.sums[j]? =aY r->od[t]? =aY r.1->r.1∈ks
theorem Li {N:Nt} (g:Gn N):N.names.length<=62:=by
 unfold Nt.names;rw[fy,fy,a',a'];have:=g.li;have:=g.ls;have:=g.lt;omega
end Sx
namespace My
open PySem L2 Sx
local macro_rules | `(tactic| walk_at "o") =>`(tactic| first | exact Zp rfl | exact Z6 rfl)
local macro_rules | `(tactic| walk_at "s") =>`(tactic| exact ⟨rfl,rfl,rfl,by decide +kernel,rfl,by decide +kernel,by decide +kernel⟩)
local macro_rules | `(tactic| walk_at "n") =>`(tactic| (intro vs H Q E h;repeat (first | (obtain ⟨e,_⟩:=h;subst e;rfl) | (obtain ⟨_,h⟩:=h))))
local macro_rules | `(tactic| walk_at "l2side") =>`(tactic| first | assumption | rfl | omega | decide | ((try dsimp only [CDiv,WI,CPow,CMul]);first | omega | decide | (refine (⟨?_,?_⟩)<;>first | omega | decide) | (refine (⟨?_,?_,?_⟩)<;>first | omega | decide) | (left;refine (⟨?_,?_⟩)<;>first | omega | decide) | (right;refine (⟨?_,?_⟩)<;>first | omega | decide)))
local macro_rules | `(tactic| walk_at "l2len") =>`(tactic| ((with_reducible show _ + _≤ic);first | assumption | (rw [lj];omega) | omega))
local macro_rules | `(tactic| walk_at "l2at") =>`(tactic| first | assumption | exact aw | (refine' Same.get (by assumption) ?h;(case h=>walk_at "l2at")))
local macro_rules | `(tactic| walk_at "l2hp") =>`(tactic| first | walk_at "l2at")
local macro_rules | `(tactic| walk_at "l2hp") =>`(tactic| first | (refine' Same.tup (by assumption) ?h;(case h=>walk_at "l2hp")) | (refine' Rep.same (by assumption) ?h;(case h=>walk_at "l2hp")))
local macro_rules | `(tactic| walk_at "l2hp") =>`(tactic| first | assumption | (refine' SqL.of ?h;(case h=>walk_at "l2at")) | (refine' SqT.of ?h;(case h=>walk_at "l2at")) | (refine' Same.seq (by assumption) ?h;(case h=>walk_at "l2hp")))
local macro_rules | `(tactic| walk_at "l2kind") =>`(tactic| first | assumption | exact rfl | (refine' Zp ⟨rfl,_,?e⟩;(case e=>walk_at "l2hp")) | (refine' Z6 (Zp ⟨rfl,_,?e⟩);(case e=>walk_at "l2hp")) | (refine' Z6 (Z6 ⟨rfl,_,Zp ?e⟩);(case e=>walk_at "l2hp")))
local macro_rules | `(tactic| walk_at "l2step") =>`(tactic| first | ((with_reducible refine' s_go ?e ?_);(case e=>assumption)))
local macro_rules | `(tactic| walk_at "l2step") =>`(tactic| first | (with_reducible refine(⟨_,rfl,?_⟩)) | (with_reducible refine(⟨rfl,?_⟩)) | ((with_reducible refine' (⟨⟨_,?e⟩,?_⟩));(case e=>walk_at "l2hp")))
local macro_rules | `(tactic| walk_at "l2step") =>`(tactic| first | (with_reducible refine(⟨_,_,rfl,rfl,?_⟩);(with_reducible refine(⟨?l,?_⟩));(case l=>walk_at "l2len")) | (with_reducible refine(⟨_,_,rfl,rfl,?_⟩)) | (with_reducible refine Zp ⟨_,rfl,?_⟩) | (with_reducible refine Z6 ⟨_,rfl,?_⟩))
local macro_rules | `(tactic| walk_at "l2step") =>`(tactic| first | (with_reducible refine T8 ?_) | ((with_reducible refine' oV ?e ?_);(case e=>first | rfl | decide | assumption)) | ((with_reducible refine' jv ?e ?_);(case e=>first | rfl | decide | assumption)) | ((with_reducible refine' Oi ?a ?b ?_);(case a=>omega);(case b=>omega)))
local macro_rules | `(tactic| walk_at "l2step") =>`(tactic| first | (with_reducible refine Ry ?_) | (with_reducible refine s_intB ?_) | (with_reducible refine s_inS ?_) | ((with_reducible refine' s_addS ?e ?_);(case e=>walk_at "l2side")))
local macro_rules | `(tactic| walk_at "l2step") =>`(tactic| first | (with_reducible refine T4 ?_) | (with_reducible refine Wj ?_) | (with_reducible refine V7 ?_) | (with_reducible refine TB ?_))
local macro_rules | `(tactic| walk_at "l2step") =>`(tactic| first | ((with_reducible refine' TV ?e ?_);(case e=>walk_at "l2hp")) | ((with_reducible refine' TR ?e ?_);(case e=>walk_at "l2hp")) | ((with_reducible refine' TU ?e ?_);(case e=>walk_at "l2side")) | ((with_reducible refine' Wi ?e ?m ?_);(case e=>walk_at "l2kind");(case m=>decide)))
local macro_rules | `(tactic| walk_at "l2step") =>`(tactic| first | ((with_reducible refine' Wh ?e ?a ?_);(case e=>walk_at "l2hp");(case a=>first | assumption | rfl)) | ((with_reducible refine' Wg ?e ?a ?_);(case e=>walk_at "l2hp");(case a=>first | assumption | rfl)) | ((with_reducible refine' s_ty ?e ?_);(case e=>first | exact rfl | (refine' Zp ⟨rfl,_,?f⟩;(case f=>walk_at "l2hp")) | (refine' Z6 (Z6 (Zp ⟨rfl,Zp ⟨_,?f⟩⟩));(case f=>walk_at "l2hp")))) | (with_reducible refine T9 ?_))
local macro_rules | `(tactic| walk_at "l2step") =>`(tactic| first | ((with_reducible refine' TL ?l ?_);(case l=>exact Lr (am8 rfl))) | ((with_reducible refine' TK ?l ?_);(case l=>exact Lr (am8 rfl))) | ((with_reducible refine' Wa ?e ?_);(case e=>walk_at "l2hp")) | ((with_reducible refine' s_slS ?e ?_);(case e=>walk_at "l2side")))
local macro_rules | `(tactic| walk_at "l2step") =>`(tactic| first | (with_reducible refine T1 ?_) | ((with_reducible refine' TZ ?e ?l ?_);(case e=>walk_at "l2hp");(case l=>rfl)) | (with_reducible refine V9 ?_) | (with_reducible refine Wf ?_))
local macro_rules | `(tactic| walk_at "l2step") =>`(tactic| first | ((with_reducible refine' Wb ?e ?_);(case e=>rfl)) | (with_reducible refine s_leS ?_) | ((with_reducible refine' Rv ?e ?_);(case e=>repeat constructor)) | (with_reducible refine Rx ?_))
local macro_rules | `(tactic| walk_at "l2step") =>`(tactic| first | (with_reducible refine Wc ?_) | ((with_reducible refine' s_rI ?e ?_);(case e=>walk_at "l2side")) | (with_reducible refine s_rU ?_) | ((with_reducible refine' We ?e ?_);(case e=>rfl)))
local macro_rules | `(tactic| walk_at "l2step") =>`(tactic| first | ((with_reducible refine TC ?_);intro _ _) | (with_reducible refine TJ ?_) | ((with_reducible refine' V8 ?e ?_);(case e=>repeat constructor)) | (with_reducible refine RC ?_))
local macro_rules | `(tactic| walk_at "l2") =>`(tactic| repeat walk_at "l2step")
local macro_rules | `(tactic| walk_at "l2step") =>`(tactic| first | ((with_reducible refine' Tw ?e ?_);(case e=>walk_at "l2hp")))
local macro_rules | `(tactic| walk_at "l2step") =>`(tactic| first | ((with_reducible refine' Rq ?e ?_);(case e=>walk_at "l2hp")) | ((with_reducible refine' Rp ?e ?_);(case e=>walk_at "l2hp")) | ((with_reducible refine' Tz ?e ?_);(case e=>walk_at "l2hp")))
local macro_rules | `(tactic| walk_at "l2step") =>`(tactic| first | (with_reducible refine TM ?_) | (with_reducible refine T2 ?_) | (with_reducible refine T7 ?_) | (with_reducible refine Ru ?_))
local macro_rules | `(tactic| walk_at "l2step") =>`(tactic| first | (with_reducible refine Og ?_) | (with_reducible refine Wk ?_) | (with_reducible refine TN ?_) | (with_reducible refine Oh ?_))
local macro_rules | `(tactic| walk_at "l2step") =>`(tactic| first | (with_reducible refine Wl ?_) | (with_reducible refine T3 ?_) | (with_reducible refine s_disp1I ?_) | ((with_reducible refine' Rr ?e ?_);(case e=>walk_at "l2at")))
local macro_rules | `(tactic| walk_at "l2step") =>`(tactic| first | (with_reducible refine Ro ?_) | (with_reducible refine s_try0 ?_) | (with_reducible refine s_callX ?_))
noncomputable def top (i:Nat):Stmt:=PySem.Challenge.pw_sumwires_k96_whole_a_cut_wire_mended.main.body.getD i (.Pass ⟨0,0,0,0⟩)
noncomputable abbrev ub:Stmt:=top 18
theorem EG:!C ["thing"] ["thing"] ub:=by walk_at "s"
noncomputable abbrev wZ:Stmt:=top 19
theorem Ht:!C ["thing","width"] ["thing","width"] wZ:=by walk_at "s"
noncomputable abbrev r9:Stmt:=top 20
theorem Hs:!C ["thing"] ["thing"] r9:=by walk_at "s"
noncomputable abbrev Kj:Stmt:=top 21
theorem wH:!C ["number","width","half"] ["number"] Kj:=by walk_at "s"
noncomputable abbrev se:Stmt:=top 22
theorem Hu:!C ["mask"] ["mask"] se:=by walk_at "s"
noncomputable abbrev wW:Stmt:=top 23
theorem pS:!C ["places","mask","place"] ["places"] wW:=by walk_at "s"
noncomputable abbrev t8:Stmt:=top 24
theorem EC:!C ["row"] ["row"] t8:=by walk_at "s"
noncomputable abbrev pU:Stmt:=top 25
theorem ED:!C ["whole","width","count"] ["whole","width","count"] pU:=by walk_at "s"
noncomputable abbrev jJ:Stmt:=bJ (top 27) 0
theorem iV:!C ["self","rows","place","row"] ["self","rows"] jJ:=by walk_at "s"
noncomputable abbrev kE:Stmt:=bJ (top 27) 1
theorem eU:!C ["self","mask","places","found"] ["self","mask"] kE:=by walk_at "s"
noncomputable abbrev rz:Stmt:=bJ (top 27) 2
theorem oS:!C ["self","place","row","found","places"] ["self","place","row"] rz:=by walk_at "s"
noncomputable abbrev kF:Stmt:=bJ (top 27) 3
theorem gX:!C ["self","bit","mask","top"] ["self","bit"] kF:=by walk_at "s"
noncomputable abbrev Ko:Stmt:=top 28
theorem Rl:!C ["rows"] ["rows"] Ko:=by walk_at "s"
noncomputable abbrev wQ:Stmt:=top 29
theorem tV:!C ["rows","wish","steps","found"] ["rows","wish"] wQ:=by walk_at "s"
noncomputable abbrev rj:Stmt:=top 31
theorem oP:!C ["one","other","pair","row","width","low"] ["one","other","pair","row"] rj:=by walk_at "s"
noncomputable abbrev gQ:Stmt:=top 32
theorem de:!C ["one","other","turns","inputs","ones","others","turn","which"] @c2 gQ:=by walk_at "s"
noncomputable abbrev dY:Stmt:=top 33
theorem eQ:!C ["one","other","pairs","told","turn"] @c2 dY:=by walk_at "s"
noncomputable abbrev ki:Stmt:=top 34
theorem g5:!C ["one","other","apart","pairs","begins","sums","width","states"] @c2 ki:=by walk_at "s"
noncomputable abbrev kB:Stmt:=bJ (top 36) 0
theorem vo:!C @c8 @c8 kB:=by walk_at "s"
noncomputable abbrev iX:Stmt:=bJ (top 37) 0
theorem rZ:!C ["self","name","number"] ["self","name","number"] iX:=by walk_at "s"
noncomputable abbrev o6:Stmt:=bJ (top 37) 2
theorem Av:!C @bS @bS o6:=by walk_at "s"
noncomputable abbrev nI:Stmt:=bJ (top 37) 3
theorem yN:!C @bN @bN nI:=by walk_at "s"
noncomputable abbrev iC:Stmt:=bJ (top 38) 0
theorem rf:!C ["self","name","wires"] ["self","name","wires"] iC:=by walk_at "s"
noncomputable abbrev nG:Stmt:=bJ (top 38) 3
theorem jm:!C ["self","known","row","state","total","wire"] @bS nG:=by walk_at "s"
noncomputable abbrev mq:Stmt:=bJ (top 38) 4
theorem dh:!C ["self","known","store_mask","input_mask","wire","pair"] @bN mq:=by walk_at "s"
noncomputable abbrev gL:Stmt:=bJ (top 39) 0
theorem oR:!C @cQ @cQ gL:=by walk_at "s"
noncomputable abbrev kC:Stmt:=bJ (top 39) 2
theorem vp:!C @bS @bS kC:=by walk_at "s"
noncomputable abbrev jI:Stmt:=bJ (top 39) 3
theorem tW:!C @bN @bN jI:=by walk_at "s"
noncomputable abbrev j5:Stmt:=top 46
theorem yK:!C @cZ @cZ j5:=by walk_at "s"
noncomputable abbrev nE:Stmt:=top 47
theorem mn:!C ["names","known","name"] ["names"] nE:=by walk_at "s"
noncomputable abbrev oW:Stmt:=top 48
theorem Au:!C ["wire","known"] ["wire","known"] oW:=by walk_at "s"
noncomputable abbrev nC:Stmt:=top 49
theorem gP:!C ["sums","stores","outs","known","row","wire"] ["sums","stores","outs","known"] nC:=by walk_at "s"
noncomputable abbrev di:Stmt:=top 50
theorem nZ:!C ["ins","sums","stores","wires"] ["ins","sums","stores"] di:=by walk_at "s"
noncomputable abbrev Aw:Stmt:=top 51
theorem Of:!C ["row","waiting"] ["row","waiting"] Aw:=by walk_at "s"
noncomputable abbrev oU:Stmt:=top 53
theorem kg:!C ["sums","names","left","waiting","ready"] ["sums"] oU:=by walk_at "s"
noncomputable abbrev dJ:Stmt:=bJ (top 54) 0
theorem wN:!C @cy @cy dJ:=by walk_at "s"
noncomputable abbrev my:Stmt:=bJ (top 54) 1
theorem wM:!C @aa @aa my:=by walk_at "s"
noncomputable abbrev mx:Stmt:=bJ (top 54) 2
theorem wL:!C @aa @aa mx:=by walk_at "s"
noncomputable abbrev jL:Stmt:=bJ (top 54) 3
theorem tY:!C @aa @aa jL:=by walk_at "s"
noncomputable abbrev kG:Stmt:=bJ (top 54) 4
theorem vq:!C @aa @aa kG:=by walk_at "s"
noncomputable abbrev ue:Stmt:=bJ (top 54) 5
theorem EI:!C @aa @aa ue:=by walk_at "s"
noncomputable abbrev jK:Stmt:=bJ (top 54) 6
theorem tX:!C @aa @aa jK:=by walk_at "s"
noncomputable abbrev nH:Stmt:=bJ (top 54) 7
theorem yL:!C @c8 @c8 nH:=by walk_at "s"
noncomputable abbrev d9:Stmt:=bJ (top 54) 9
theorem qt:!C @aa @aa d9:=by walk_at "s"
noncomputable abbrev wX:Stmt:=top 59
theorem Hr:!C @d0 @d0 wX:=by walk_at "s"
noncomputable abbrev j2:Stmt:=top 60
theorem yJ:!C ["inputs","nexts","outs"] ["inputs","nexts","outs"] j2:=by walk_at "s"
noncomputable abbrev Ax:Stmt:=top 61
theorem Kh:!C ["pair","state","row"] ["pair","state","row"] Ax:=by walk_at "s"
noncomputable abbrev lP:Stmt:=top 62
theorem Aq:!C ["pairs","state","row"] ["pairs","state","row"] lP:=by walk_at "s"
noncomputable abbrev iD:Stmt:=bJ (top 63) 0
theorem rg:!C @cO @cO iD:=by walk_at "s"
noncomputable abbrev jN:Stmt:=bJ (top 63) 1
theorem tZ:!C @aa @aa jN:=by walk_at "s"
noncomputable abbrev iW:Stmt:=bJ (top 63) 2
theorem rY:!C @aa @aa iW:=by walk_at "s"
noncomputable abbrev fL:Stmt:=bJ (top 63) 4
theorem oE:!C ["self","state"] ["self","state"] fL:=by walk_at "s"
noncomputable abbrev mz:Stmt:=bJ (top 63) 5
theorem wO:!C ["self","state","row"] ["self","state","row"] mz:=by walk_at "s"
noncomputable abbrev jM:Stmt:=bJ (top 63) 6
theorem dW:!C ["self","rows","state","answers","row","done"] @ck jM:=by walk_at "s"
noncomputable abbrev gw:Stmt:=bJ (top 63) 7
theorem yM:!C @ck @ck gw:=by walk_at "s"
noncomputable abbrev jO:Stmt:=bJ (top 63) 9
theorem mJ:!C ["self","which","turns","rows"] ["self","which","turns"] jO:=by walk_at "s"
noncomputable abbrev mB:Stmt:=bJ (top 63) 10
theorem dX:!C ["self","mask","store_mask","input_mask","place"] ["self","mask"] mB:=by walk_at "s"
noncomputable abbrev EK:Stmt:=top 65
theorem Ar:!C ["net","pairs","name"] ["net"] EK:=by walk_at "s"
noncomputable abbrev mK:Stmt:=top 66
theorem nv:!C ["net","pairs","nexts","outs"] ["net"] mK:=by walk_at "s"
noncomputable abbrev pW:Stmt:=top 67
theorem EF:!C ["letter","count"] ["letter","count"] pW:=by walk_at "s"
noncomputable abbrev ku:Stmt:=top 68
theorem uT:!C ["name","pair","stores"] ["name","pair"] ku:=by walk_at "s"
noncomputable abbrev wc:Stmt:=top 69
theorem mI:!C ["machine","next_names","out_names","pairs","sums","stores"] ["machine"] wc:=by walk_at "s"
noncomputable abbrev r6:Stmt:=top 71
theorem Ho:!C ["wires","wire","fresh"] ["wires","wire","fresh"] r6:=by walk_at "s"
noncomputable abbrev s_cut:Stmt:=top 72
theorem Ki:!C ["net","wire","fresh","sums","stores"] ["net","wire","fresh"] s_cut:=by walk_at "s"
noncomputable abbrev kA:Stmt:=top 73
theorem oQ:!C ["net","known","names"] ["net"] kA:=by walk_at "s"
noncomputable abbrev rn:Stmt:=top 74
theorem BX:!C ["net","wire"] ["net","wire"] rn:=by walk_at "s"
noncomputable abbrev wV:Stmt:=top 76
theorem pR:!C ["machine","turns","states","told","turn"] ["machine","turns"] wV:=by walk_at "s"
noncomputable abbrev wU:Stmt:=top 77
theorem Hn:!C @cX @cX wU:=by walk_at "s"
noncomputable abbrev ju:Stmt:=top 79
theorem iz:!C ["machine","masks","told","turn"] ["machine"] ju:=by walk_at "s"
noncomputable abbrev pV:Stmt:=top 80
theorem EE:!C ["mask","others"] ["mask","others"] pV:=by walk_at "s"
noncomputable abbrev kr:Stmt:=top 81
theorem vn:!C ["pair","states","seen"] ["pair","states","seen"] kr:=by walk_at "s"
noncomputable abbrev kz:Stmt:=top 82
theorem jl:!C ["machine","leads","masks","led","states","looks","seen","nexts","outs","rows"] ["machine"] kz:=by walk_at "s"
noncomputable abbrev pX:Stmt:=top 84
theorem EH:!C ["words"] ["words"] pX:=by walk_at "s"
noncomputable abbrev wR:Stmt:=top 85
theorem Hm:!C ["text"] ["text"] wR:=by walk_at "s"
noncomputable abbrev ie:Stmt:=top 86
theorem fK:!C ["text","rows","number","words","ins","sums","stores","outs"] ["text"] ie:=by walk_at "s"
noncomputable abbrev ib:Stmt:=top 87
theorem wF:!C ["net","rows"] ["net"] ib:=by walk_at "s"
noncomputable abbrev rh:Stmt:=top 89
theorem oO:!C ["net","row","state","bits","name"] ["net","row","state"] rh:=by walk_at "s"
noncomputable abbrev r8:Stmt:=top 90
theorem Hq:!C ["wires","bits"] ["wires","bits"] r8:=by walk_at "s"
noncomputable abbrev mw:Stmt:=bJ (top 91) 0
theorem wK:!C ["self","net"] ["self","net"] mw:=by walk_at "s"
noncomputable abbrev pZ:Stmt:=bJ (top 91) 1
theorem wI:!C ["self","row","answer"] ["self","row"] pZ:=by walk_at "s"
noncomputable abbrev mr:Stmt:=bJ (top 91) 4
theorem wJ:!C @aa @aa mr:=by walk_at "s"
noncomputable abbrev oY:Stmt:=top 92
theorem ny:!C ["net","rows","going","row"] ["net","rows"] oY:=by walk_at "s"
noncomputable abbrev rq:Stmt:=top 94
theorem BZ:!C ["_law_script","_law_k"] ["_law_script","_law_k"] rq:=by walk_at "s"
noncomputable abbrev ud:Stmt:=top 95
theorem qZ:!C ["_law_cell_here","_law_k","_law_number"] @cj ud:=by walk_at "s"
noncomputable abbrev o5:Stmt:=top 96
theorem iA:!C ["_law_cell_here","_law_start","_law_many","_law_width","_law_digits","_law_found","_law_left","_law_k"] @d5 o5:=by walk_at "s"
noncomputable abbrev rp:Stmt:=top 97
theorem d7:!C ["_law_cell_here","_law_k","_law_letters","_law_some"] @cj rp:=by walk_at "s"
noncomputable abbrev lQ:Stmt:=top 98
theorem gv:!C ["_law_cell_here","_law_start","_law_names","_law_digits","_law_left","_law_found","_law_k","_law_many"] @d8 lQ:=by walk_at "s"
noncomputable abbrev kj:Stmt:=top 99
theorem bI:!C ["_law_script","_law_start","_law_most","_law_cell_here","_law_sizes","_law_ins","_law_stores","_law_known","_law_sums","_law_k","_law_wires_here","_law_at","_law_ends","_law_name_here","_law_outs"] ["_law_script","_law_start","_law_most"] kj:=by walk_at "s"
noncomputable abbrev ro:Stmt:=top 100
theorem BY:!C @cP @cP ro:=by walk_at "s"
noncomputable abbrev nF:Stmt:=top 101
theorem cD:!C ["_law_net_two","_law_wire","_law_fresh","_law_ins","_law_sums","_law_stores","_law_outs","_law_rows_here","_law_name_here","_law_wires_here"] ["_law_net_two","_law_wire","_law_fresh"] nF:=by walk_at "s"
noncomputable abbrev iB:Stmt:=top 102
theorem df:!C ["_law_net_one","_law_cells","_law_other","_law_net_two","_law_cell_here","_law_rows_here"] ["_law_net_one","_law_cells"] iB:=by walk_at "s"
noncomputable abbrev oZ:Stmt:=top 103
theorem jY:!C ["_law_found","_law_net_one","_law_net_two","_law_rows_here","_law_one","_law_other"] ["_law_found","_law_net_one","_law_net_two"] oZ:=by walk_at "s"
noncomputable abbrev o4:Stmt:=top 104
theorem dD:!C ["_law_net_one","_law_wire","_law_fresh","_law_cells","_law_net_two","_law_net_three","_law_found","_law_cell_here","_law_rows_here","_law_many","_law_less"] @d9 o4:=by walk_at "s"
noncomputable abbrev Hv:Stmt:=top 105
theorem wG:!C ["_law_script","_law_lists","_law_net_one","_law_names","_law_cells","_law_cell_here","_law_fresh"] ["_law_script"] Hv:=by walk_at "s"
noncomputable abbrev FR (K:b') (x q:kv) (st:YY) (f:ee):Prop:=∃(α:i') (od:Q') (kV Y Z:i') (an:Q') (G ct:i') (L:K'),K.lookup f=aY ⟨α,od,.func (Xz x q (jh st) (gf st) @aJ .none kV Y Z an G ct),L⟩/\Yx K G q=true/\XA K @a7=true
theorem FR.mk {K:b'} {x q:kv} {st:YY} {f:ee} {α:i'} {od:Q'} {kV Y Z:i'} {an:Q'} {G ct:i'} {L:K'} (h1:K.lookup f=aY ⟨α,od,.func (Xz x q (jh st) (gf st) (ag st) .none kV Y Z an G ct),L⟩) (h2:Yx K G q=true) (β:XA K @a7=true):FR K x q st f:=⟨_,_,_,_,_,_,_,_,_,h1,h2,β⟩
structure FT (K:b') (x q:kv) (st:YY) (f:ee) (d:hF) (ps:B'):Prop where
 F:Fun K x q st f d
 b:rT K d ps []
theorem FR.ok {K:b'} {x q:kv} {st:YY} {f:ee} {ps:B'} (h:FR K x q st f) (g:∀(kV G Z:i') (an:Q') (L ct:i') (us:E'),us.length=ps.length->bindArgs (Xz x q (jh st) (gf st) @aJ .none kV G Z an L ct) ⟨us,[]⟩=pure (ps.zip us)):∃d,FT K x q st f d ps:=by
 obtain⟨_,_,_,_,_,_,_,_,_,h1,h2,Y⟩:=h;have F:=Qg (st:=st) h1 h2 Y;exact⟨_,F,F.binds g⟩
theorem aj {X:Cx} {CX:CXT} {k j:Nat} {f:ee} {fd:hF} {ps:B'} {sp:Sp} {E:XK} {x n q:kv} {st:YY} {p pos:Pos} {e:W5} {es:eP W5} {t:TA} (F:FnOk X.prog X.w X.K X.mg X.base CX k f fd ps sp) (Y:Room j X.A) (hm:X.mg x=aY @a7) (U:FT X.K n q st f fd ps)
  (ha:PA X @V t) (Z:tL CX X E:=by exact bC) (α:k<=j:=by decide) (β:Gl X x:=by rfl) (L:(x == ("__debug__":kv))=false:=by decide) (he:pT @V X.env=(false,eval e X.env)::pT es X.env:=by rfl) (G:(!aD pos es).any (·.1)=false:=by rfl):
  PE X (!aG x p @V [] pos) (JS sp [] E t):=RJ F (Y.mono α) β hm U.1.2 U.2 .nil Z ha L he G
noncomputable abbrev NI (K:b') (x:kv) (f:ee):Prop:=ar7 K W8 x=aY (aY @a7)
noncomputable abbrev NN (K:b') (x:kv):Prop:=ar7 K W8 x=aY gg
noncomputable abbrev FI (K:b') (c:ee) (x:kv) (f:ee):Prop:=zx K (!j c) x=aY (aY @a7)
noncomputable abbrev FN (K:b') (c:ee) (x:kv):Prop:=zx K (!j c) x=aY gg
theorem bln0 {l:eP Xr} (h:l.length=0):l=[]:=ag7 h
theorem bln1 {l:eP Xr} (h:l.length=1):∃a,l=[a]:=List.length_eq_one_iff.mp h
theorem bln2 {l:eP Xr} (h:l.length=2):∃a b,l=[a,b]:=by cases l with | nil=>cases h | cons a l=>obtain ⟨b,z⟩:=bln1 (Zh h);exact ⟨a,b,z ▸ rfl⟩
theorem bln3 {l:eP Xr} (h:l.length=3):∃a b c,l=[a,b,c]:=by cases l with | nil=>cases h | cons a l=>obtain ⟨b,c,z⟩:=bln2 (Zh h);exact ⟨a,b,c,z ▸ rfl⟩
theorem bln4 {l:eP Xr} (h:l.length=4):∃a b c d,l=[a,b,c,d]:=by cases l with | nil=>cases h | cons a l=>obtain ⟨b,c,d,z⟩:=bln3 (Zh h);exact ⟨a,b,c,d,z ▸ rfl⟩
theorem bln5 {l:eP Xr} (h:l.length=5):∃a b c d e,l=[a,b,c,d,e]:=by cases l with | nil=>cases h | cons a l=>obtain ⟨b,c,d,e,z⟩:=bln4 (Zh h);exact ⟨a,b,c,d,e,z ▸ rfl⟩
theorem bln6 {l:eP Xr} (h:l.length=6):∃a b c d e f,l=[a,b,c,d,e,f]:=by cases l with | nil=>cases h | cons a l=>obtain ⟨b,c,d,e,f,z⟩:=bln5 (Zh h);exact ⟨a,b,c,d,e,f,z ▸ rfl⟩
theorem bln7 {l:eP Xr} (h:l.length=7):∃a b c d e f g,l=[a,b,c,d,e,f,g]:=by cases l with | nil=>cases h | cons a l=>obtain ⟨b,c,d,e,f,g,z⟩:=bln6 (Zh h);exact ⟨a,b,c,d,e,f,g,z ▸ rfl⟩
local macro_rules | `(tactic| walk_at "b") =>`(tactic| first | (refine fun _ _ _ _ _ _ us hl=>?_;obtain ⟨_,hz⟩:=bln1 hl;subst hz;rfl) | (refine fun _ _ _ _ _ _ us hl=>?_;obtain ⟨_,_,hz⟩:=bln2 hl;subst hz;rfl) | (refine fun _ _ _ _ _ _ us hl=>?_;obtain ⟨_,_,_,hz⟩:=bln3 hl;subst hz;rfl) | (refine fun _ _ _ _ _ _ us hl=>?_;obtain ⟨_,_,_,_,hz⟩:=bln4 hl;subst hz;rfl) | (refine fun _ _ _ _ _ _ us hl=>?_;obtain ⟨_,_,_,_,_,hz⟩:=bln5 hl;subst hz;rfl) | (refine fun _ _ _ _ _ _ us hl=>?_;obtain ⟨_,_,_,_,_,_,hz⟩:=bln6 hl;subst hz;rfl) | (refine fun _ _ _ _ _ _ us hl=>?_;obtain ⟨_,_,_,_,_,_,_,hz⟩:=bln7 hl;subst hz;rfl))
abbrev n10:B':=["row"]
abbrev n11:B':=["words"]
abbrev n12:B':=["machine","leads","masks","led","states","looks","seen","nexts","outs","rows"]
abbrev n13:B':=["row","waiting"]
abbrev n14:B':=["net","rows"]
abbrev n15:B':=["text","rows","number","words","ins","sums","stores","outs"]
abbrev n16:B':=["ins","sums","stores","wires"]
abbrev n17:B':=["self","ins","sums","stores","outs"]
abbrev n18:B':=["row","wire","fresh"]
abbrev n19:B':=["place","machine"]
abbrev n20:B':=["_law_k","_law_cell_here"]
abbrev n21:B':=["place","pair","state","row"]
abbrev n22:B':=["one","other","pairs","told","turn"]
abbrev n23:B':=["one","other","apart","pairs","begins","sums","width","states"]
abbrev n24:B':=["place","other","mask"]
abbrev n25:B':=["_law_script","_law_start","_law_most","_law_cell_here","_law_sizes","_law_ins","_law_stores","_law_known","_law_sums","_law_k","_law_wires_here","_law_at","_law_ends","_law_name_here","_law_outs"]
abbrev n26:B':=["one","other","turns","inputs","ones","others","turn","which"]
abbrev n27:B':=["_law_k","_law_names","_law_cell_here","_law_start"]
set_option genInjectivity false in
set_option genSizeOf false in
structure Ad where
 gF:ee
 qf:hF
 jy:ee
 yn:hF
 lE:ee
 Dz:hF
 yg:ee
 Qt:hF
 lF:ee
 DC:hF
 ly:ee
 Dp:hF
 i6:ee
 zV:hF
 i7:ee
 zW:hF
 bW:ee
 ou:hF
 cn:ee
 pI:hF
 eL:ee
 yt:hF
 cq:ee
 pJ:hF
 yh:ee
 Qu:hF
 kW:ee
 De:hF
 g9:ee
 yl:hF
 dQ:ee
 qO:hF
 dw:ee
 pG:hF
 je:ee
 z9:hF
 cO:ee
 d4:hF
 bN:ee
 mW:hF
 dG:ee
 vi:hF
 cZ:ee
 tE:hF
 bF:ee
 md:hF
 cW:ee
 tz:hF
 cF:ee
 qP:hF
 bp:ee
 jV:hF
 ck:ee
 pH:hF
 bU:ee
 oq:hF
 eI:ee
 sY:hF
 eJ:ee
 sZ:hF
 fV:ee
 vc:hF
 eE:ee
 sW:hF
 dq:ee
 pE:hF
 rM:ee
 Mt:hF
 lh:ee
 Dj:hF
 cf:ee
 mG:hF
 cJ:ee
 qU:hF
 cI:ee
 qT:hF
 b4:ee
 oy:hF
 cu:ee
 pK:hF
 gH:ee
 Ae:hF
 b0:ee
 ox:hF
 cX:ee
 tD:hF
 bz:ee
 lG:hF
 lD:ee
 Dy:hF
 eG:ee
 sX:hF
 nQ:ee
 GR:hF
 fT:ee
 va:hF
 bG:ee
 me:hF
 b7:ee
 oA:hF
 bM:ee
 mV:hF
 bh:ee
 jz:hF
 cK:ee
 qV:hF
 b5:ee
 oz:hF
 cL:ee
 nS:hF
 nR:i'
 b8:ee
 oB:hF
 cM:ee
 qW:hF
 rP:ee
 Mz:hF
 i8:ee
 zX:hF
 jc:ee
 z7:hF
 hU:ee
 ym:hF
 nP:ee
 GQ:hF
 lg:ee
 Dh:hF
 FF:ee
 Vx:hF
 hV:ee
 yo:hF
 hX:ee
 yp:hF
 rN:ee
 Mw:hF
 kZ:ee
 Dg:hF
 fU:ee
 vb:hF
 jb:ee
 z6:hF
 du:ee
 pF:hF
 rO:ee
 Mx:hF
 jd:ee
 z8:hF
 kX:ee
 Df:hF
 ja:ee
 zZ:hF
 i9:ee
 zY:hF
 g8:ee
 yk:hF
 lC:ee
 Dx:hF
 cH:ee
 qS:hF
 gG:ee
 Ac:hF
 cG:ee
 qR:hF
 fW:ee
 vd:hF
 h7:ee
 yr:hF
 jg:ee
 Ab:hF
 gc:ee
 vh:hF
 gb:ee
 rQ:hF
 fX:ee
 ve:hF
 jf:ee
 Aa:hF
 hZ:ee
 yq:hF
 eK:ee
 tj:hF
 cj:ee
 l9:hF
 fY:ee
 vf:hF
 fZ:ee
 vg:hF
 IJ:ee
 Vw:hF
 bO:ee
 tH:ee
 bj:ee
 aX:ee
 aC:ee
 cP:ee
 av:ee
 gT:ee
 uS:ee
 yx:ee
 fh:ee
 km:ee
 wD:Tok
 mm:Tok
 nq:Tok
 tU:Tok
 gK:Tok
 jG:Tok
 fB:Tok
 iy:Tok
 qY:Tok
 oN:Tok
 oM:Tok
open PySem.W in
structure Tx (K:Frag) (mg:F') (a:Ad):Prop where
 ko:FT K "is_whole" "is_whole" ub a.gF a.qf ["thing"]
 uO:mg "is_whole"=aY (!j a.gF)
 jC:FT K "is_mask" "is_mask" wZ a.jy a.yn ["thing","width"]
 pC:mg "is_mask"=aY (!j a.jy)
 iN:FT K "is_name" "is_name" r9 a.lE a.Dz ["thing"]
 mU:mg "is_name"=aY (!j a.lE)
 yD:FT K "even" "even" Kj a.yg a.Qt ["number"]
 GM:mg "even"=aY (!j a.yg)
 lH:FT K "bits_of" "bits_of" se a.lF a.DC ["mask"]
 sT:mg "bits_of"=aY (!j a.lF)
 jB:FT K "mask_of" "mask_of" wW a.ly a.Dp ["places"]
 pB:mg "mask_of"=aY (!j a.ly)
 qj:FT K "words_of" "words_of" t8 a.i6 a.zV ["row"]
 IC:mg "words_of"=aY (!j a.i6)
 ql:FT K "unpacked" "unpacked" pU a.i7 a.zW ["whole","width","count"]
 ID:mg "unpacked"=aY (!j a.i7)
 fj:FT K "__init__" "Steps.__init__" jJ a.bW a.ou ["self","rows"]
 d6:FT K "lowered" "Steps.lowered" kE a.cn a.pI ["self","mask"]
 lL:FT K "lay" "Steps.lay" rz a.eL a.yt ["self","place","row"]
 gq:FT K "barring" "Steps.barring" kF a.cq a.pJ ["self","bit"]
 Aj:FT K "base" "base" Ko a.yh a.Qu ["rows"]
 L1:mg "base"=aY (!j a.yh)
 mY:FT K "sum_for" "sum_for" wQ a.kW a.De ["rows","wish"]
 x6:mg "sum_for"=aY (!j a.kW)
 h8:FT K "next_pair" "next_pair" rj a.g9 a.yl ["one","other","pair","row"]
 nO:mg "next_pair"=aY (!j a.g9)
 jr:FT K "first_unlike" "first_unlike" gQ a.dQ a.qO ["one","other"]
 zB:mg "first_unlike"=aY (!j a.dQ)
 iM:FT K "pairs_come_to" "pairs_come_to" dY a.dw a.pG ["one","other"]
 ya:mg "pairs_come_to"=aY (!j a.dw)
 m8:FT K "compared" "compared" ki a.je a.z9 ["one","other"]
 zT:mg "compared"=aY (!j a.je)
 dy:FT K "__init__" "Wire.__init__" kB a.cO a.d4 ["self","name"]
 gJ:FT K "__init__" "InWire.__init__" iX a.bN a.mW ["self","name","number"]
 jE:FT K "bit" "InWire.bit" o6 a.dG a.vi ["self","known","row","state"]
 iQ:FT K "hang" "InWire.hang" nI a.cZ a.tE ["self","known"]
 fJ:FT K "__init__" "SumWire.__init__" iC a.bF a.md ["self","name","wires"]
 iO:FT K "bit" "SumWire.bit" nG a.cW a.tz ["self","known","row","state"]
 gU:FT K "hang" "SumWire.hang" mq a.cF a.qP ["self","known"]
 dU:FT K "__init__" "StoreWire.__init__" gL a.bp a.jV ["self","name","wire","number"]
 gj:FT K "bit" "StoreWire.bit" kC a.ck a.pH ["self","known","row","state"]
 fi:FT K "hang" "StoreWire.hang" jI a.bU a.oq ["self","known"]
 ka:FT K "check_sizes" "check_sizes" j5 a.eI a.sY ["ins","sums","stores","outs"]
 Bj:mg "check_sizes"=aY (!j a.eI)
 kb:FT K "check_names" "check_names" nE a.eJ a.sZ ["names"]
 Bk:mg "check_names"=aY (!j a.eJ)
 gi:FT K "check_wire" "check_wire" oW a.fV a.vc ["wire","known"]
 l6:mg "check_wire"=aY (!j a.fV)
 j8:FT K "check_wires" "check_wires" nC a.eE a.sW ["sums","stores","outs","known"]
 Bh:mg "check_wires"=aY (!j a.eE)
 iL:FT K "wires_by_name" "wires_by_name" di a.dq a.pE ["ins","sums","stores"]
 x5:mg "wires_by_name"=aY (!j a.dq)
 yC:FT K "waits" "waits" Aw a.rM a.Mt ["row","waiting"]
 LW:mg "waits"=aY (!j a.rM)
 tO:FT K "ordered" "ordered" oU a.lh a.Dj ["sums"]
 LZ:mg "ordered"=aY (!j a.lh)
 c9:FT K "__init__" "Net.__init__" dJ a.cf a.mG ["self","ins","sums","stores","outs"]
 bT:FT K "in_names" "Net.in_names" my a.cJ a.qU ["self"]
 dS:FT K "sum_rows" "Net.sum_rows" mx a.cI a.qT ["self"]
 b9:FT K "store_rows" "Net.store_rows" jL a.b4 a.oy ["self"]
 cw:FT K "out_wires" "Net.out_wires" kG a.cu a.pK ["self"]
 nc:FT K "told" "Net.told" ue a.gH a.Ae ["self"]
 cT:FT K "wire_names" "Net.wire_names" jK a.b0 a.ox ["self"]
 cv:FT K "wire_of" "Net.wire_of" nH a.cX a.tD ["self","name"]
 cC:FT K "names_by_need" "Net.names_by_need" d9 a.bz a.lG ["self"]
 tP:FT K "is_pair" "is_pair" wX a.lD a.Dy ["thing","stores","inputs"]
 L0:mg "is_pair"=aY (!j a.lD)
 j9:FT K "check_table" "check_table" j2 a.eG a.sX ["inputs","nexts","outs"]
 Bi:mg "check_table"=aY (!j a.eG)
 wu:FT K "is_odd" "is_odd" Ax a.nQ a.GR ["pair","state","row"]
 OY:mg "is_odd"=aY (!j a.nQ)
 jA:FT K "odd_places" "odd_places" lP a.fT a.va ["pairs","state","row"]
 uZ:mg "odd_places"=aY (!j a.fT)
 dI:FT K "__init__" "Machine.__init__" iD a.bG a.me ["self","inputs","nexts","outs"]
 aV:FT K "stores" "Machine.stores" jN a.b7 a.oA ["self"]
 cb:FT K "outputs" "Machine.outputs" iW a.bM a.mV ["self"]
 bK:FT K "check_state" "Machine.check_state" fL a.bh a.jz ["self","state"]
 cN:FT K "step" "Machine.step" mz a.cK a.qV ["self","state","row"]
 fk:FT K "walked" "Machine.walked" jM a.b5 a.oz ["self","rows","state"]
 iP:FunD K "run" "Machine.run" gw a.cL a.nS a.nR
 nY:rT K a.nS ["self","rows","state"] [a.nR]
 Am:RelV (.int 0) a.nR
 dC:FT K "single" "Machine.single" jO a.b8 a.oB ["self","which","turns"]
 fA:FT K "back" "Machine.back" mB a.cM a.qW ["self","mask"]
 BJ:FT K "hangs" "hangs" EK a.rP a.Mz ["net"]
 Sh:mg "hangs"=aY (!j a.rP)
 ir:FT K "table_of" "table_of" mK a.i8 a.zX ["net"]
 mT:mg "table_of"=aY (!j a.i8)
 jk:FT K "numbered" "numbered" pW a.jc a.z7 ["letter","count"]
 qd:mg "numbered"=aY (!j a.jc)
 nU:FT K "named_sum" "named_sum" ku a.hU a.ym ["name","pair"]
 Fx:mg "named_sum"=aY (!j a.hU)
 wt:FT K "net_of" "net_of" wc a.nP a.GQ ["machine"]
 OX:mg "net_of"=aY (!j a.nP)
 mZ:FT K "put_for" "put_for" r6 a.lg a.Dh ["wires","wire","fresh"]
 x9:mg "put_for"=aY (!j a.lg)
 M9:FT K "cut" "cut" s_cut a.FF a.Vx ["net","wire","fresh"]
 Ve:mg "cut"=aY (!j a.FF)
 nV:FT K "free_name" "free_name" kA a.hV a.yo ["net"]
 Fy:mg "free_name"=aY (!j a.hV)
 nW:FT K "cut_shown" "cut_shown" rn a.hX a.yp ["net","wire"]
 Fz:mg "cut_shown"=aY (!j a.hX)
 BH:FT K "reach" "reach" wV a.rN a.Mw ["machine","turns"]
 Sf:mg "reach"=aY (!j a.rN)
 tN:FT K "rows_at" "rows_at" wU a.kZ a.Dg ["machine","places","turns"]
 LY:mg "rows_at"=aY (!j a.kZ)
 mf:FT K "look_masks" "look_masks" ju a.fU a.vb ["machine"]
 CY:mg "look_masks"=aY (!j a.fU)
 ji:FT K "odd_with" "odd_with" pV a.jb a.z6 ["mask","others"]
 qc:mg "odd_with"=aY (!j a.jb)
 gh:FT K "told_by_looks" "told_by_looks" kr a.du a.pF ["pair","states","seen"]
 pA:mg "told_by_looks"=aY (!j a.du)
 BI:FT K "least" "least" kz a.rO a.Mx ["machine"]
 Sg:mg "least"=aY (!j a.rO)
 qp:FT K "has_form" "has_form" pX a.jd a.z8 ["words"]
 IG:mg "has_form"=aY (!j a.jd)
 tM:FT K "rows_of" "rows_of" wR a.kX a.Df ["text"]
 LX:mg "rows_of"=aY (!j a.kX)
 qo:FT K "read_net" "read_net" ie a.ja a.zZ ["text"]
 IF:mg "read_net"=aY (!j a.ja)
 qm:FT K "show_net" "show_net" ib a.i9 a.zY ["net"]
 IE:mg "show_net"=aY (!j a.i9)
 nT:FT K "turn_bits" "turn_bits" rh a.g8 a.yk ["net","row","state"]
 Fw:mg "turn_bits"=aY (!j a.g8)
 pM:FT K "mask_at" "mask_at" r8 a.lC a.Dx ["wires","bits"]
 CW:mg "mask_at"=aY (!j a.lC)
 jt:FT K "__init__" "Run.__init__" mw a.cH a.qS ["self","net"]
 m9:FT K "step" "Run.step" pZ a.gG a.Ac ["self","row"]
 gW:FT K "answered" "Run.answered" mr a.cG a.qR ["self"]
 dH:FT K "answers_of" "answers_of" oY a.fW a.vd ["net","rows"]
 ip:mg "answers_of"=aY (!j a.fW)
 lK:FT K "_law_cell" "_law_cell" rq a.h7 a.yr ["_law_script","_law_k"]
 yc:mg "_law_cell"=aY (!j a.h7)
 bD:FT K "_law_mix" "_law_mix" ud a.jg a.Ab ["_law_cell_here","_law_k"]
 bQ:mg "_law_mix"=aY (!j a.jg)
 mj:FT K "_law_masks" "_law_masks" o5 a.gc a.vh ["_law_cell_here","_law_start","_law_many","_law_width","_law_digits"]
 C1:mg "_law_masks"=aY (!j a.gc)
 eN:FT K "_law_name" "_law_name" rp a.gb a.rQ ["_law_cell_here","_law_k"]
 kT:mg "_law_name"=aY (!j a.gb)
 mh:FT K "_law_wires" "_law_wires" lQ a.fX a.ve ["_law_cell_here","_law_start","_law_names","_law_digits"]
 CZ:mg "_law_wires"=aY (!j a.fX)
 qr:FT K "_law_net" "_law_net" kj a.jf a.Aa ["_law_script","_law_start","_law_most"]
 IH:mg "_law_net"=aY (!j a.jf)
 lI:FT K "_law_rows" "_law_rows" ro a.hZ a.yq ["_law_cell_here","_law_many","_law_width"]
 yb:mg "_law_rows"=aY (!j a.hZ)
 kc:FT K "_law_mended" "_law_mended" nF a.eK a.tj ["_law_net_two","_law_wire","_law_fresh"]
 Bl:mg "_law_mended"=aY (!j a.eK)
 cR:FT K "_law_least_right" "_law_least_right" iB a.cj a.l9 ["_law_net_one","_law_cells"]
 iK:mg "_law_least_right"=aY (!j a.cj)
 jD:FT K "_law_shows" "_law_shows" oZ a.fY a.vf ["_law_found","_law_net_one","_law_net_two"]
 u0:mg "_law_shows"=aY (!j a.fY)
 mi:FT K "_law_right" "_law_right" o4 a.fZ a.vg ["_law_net_one","_law_wire","_law_fresh","_law_cells"]
 C0:mg "_law_right"=aY (!j a.fZ)
 Pm:Fun K "law" "law" Hv a.IJ a.Vw
 L5:mg "Steps"=aY (!j a.bO)
 h9:Cls K a.bO
 M5:Mk K a.bO a.bW
 pj:Meth K a.bO "lowered" a.cn
 Fc:Meth K a.bO "lay" a.eL
 xt:Meth K a.bO "barring" a.cq
 fo:cQ K a.bO "by_top"
 g7:cQ K a.bO "free_places"
 lW:cQ K a.bO "null_masks"
 L3:mg "Wire"=aY (!j a.tH)
 OZ:mg "InWire"=aY (!j a.bj)
 nX:Cls K a.bj
 Pl:Mk K a.bj a.bN
 CA:Meth K a.bj "bit" a.dG
 A3:Meth K a.bj "hang" a.cZ
 sL:cQ K a.bj "name"
 kR:cQ K a.bj "number"
 L4:mg "SumWire"=aY (!j a.aX)
 lM:Cls K a.aX
 M4:Mk K a.aX a.bF
 A1:Meth K a.aX "bit" a.cW
 y9:Meth K a.aX "hang" a.cF
 qL:cQ K a.aX "name"
 kQ:cQ K a.aX "wires"
 FA:mg "StoreWire"=aY (!j a.aC)
 gu:Cls K a.aC
 F2:Mk K a.aC a.bp
 xr:Meth K a.aC "bit" a.ck
 vE:Meth K a.aC "hang" a.bU
 oj:cQ K a.aC "name"
 iI:cQ K a.aC "number"
 vD:cQ K a.aC "wire"
 L6:mg "Net"=aY (!j a.cP)
 cA:Cls K a.cP
 M6:Mk K a.cP a.cf
 dO:Meth K a.cP "in_names" a.cJ
 mE:Meth K a.cP "sum_rows" a.cI
 ff:Meth K a.cP "store_rows" a.b4
 fQ:Meth K a.cP "out_wires" a.cu
 Ih:Meth K a.cP "told" a.gH
 jT:Meth K a.cP "wire_names" a.b0
 eh:Meth K a.cP "wire_of" a.cX
 kS:Meth K a.cP "names_by_need" a.bz
 iJ:cQ K a.cP "by_name"
 sJ:cQ K a.cP "ins"
 d3:cQ K a.cP "kept_stores"
 uw:cQ K a.cP "outs"
 ph:cQ K a.cP "sum_order"
 mQ:cQ K a.cP "sums"
 C3:mg "Machine"=aY (!j a.av)
 ax:Cls K a.av
 Ef:Mk K a.av a.bG
 bw:Meth K a.av "stores" a.b7
 gD:Meth K a.av "outputs" a.bM
 fS:Meth K a.av "check_state" a.bh
 gR:Meth K a.av "step" a.cK
 vF:Meth K a.av "walked" a.b5
 A2:Meth K a.av "run" a.cL
 om:Meth K a.av "single" a.b8
 qM:Meth K a.av "back" a.cM
 bu:cQ K a.av "inputs"
 dn:cQ K a.av "nexts"
 fq:cQ K a.av "outs"
 Wx:mg "Run"=aY (!j a.gT)
 pN:Cls K a.gT
 WH:Mk K a.gT a.cH
 Ig:Meth K a.gT "step" a.gG
 za:Meth K a.gT "answered" a.cG
 p7:cQ K a.gT "bits"
 rG:cQ K a.gT "given"
 uv:cQ K a.gT "held"
 pe:cQ K a.gT "net"
 d4:QE K a.tH "__init__" a.cO
 yd:mg "BadMask"=aY (!j a.fh)
 kq:excIn K a.fh [.type "ValueError",.type "Exception",.type "BaseException",.type "object"] "ValueError.__new__"=true
 qe:mg "BadTable"=aY (!j a.km)
 ia:excIn K a.km [.type "ValueError",.type "Exception",.type "BaseException",.type "object"] "ValueError.__new__"=true
 L7:mg "LETTERS"=aY (.str "abcdefghijklmnopqrstuvwxyz" a.wD)
 zC:mg "LONGEST_NAME"=aY (.int 6 a.mm)
 Bm:mg "MOST_INPUTS"=aY (.int 6 a.nq)
 II:mg "MOST_INS"=aY (.int 6 a.tU)
 qD:mg "MOST_OUTS_machines"=aY (.int 6 a.gK)
 vV:mg "MOST_OUTS_nets"=aY (.int 6 a.jG)
 oH:mg "MOST_STORES_machines"=aY (.int 120 a.fB)
 sU:mg "MOST_STORES_nets"=aY (.int 16 a.iy)
 FC:mg "MOST_SUMS"=aY (.int 40 a.qY)
 C4:mg "MOST_WIRES"=aY (.int 24 a.oN)
 C2:mg "NAME_SIGNS"=aY (.str "abcdefghijklmnopqrstuvwxyz0123456789" a.oM)
 RV:mg "all"=gg
 UY:mg "any"=gg
 UX:mg "bool"=gg
 Qb:mg "dict"=gg
 OD:mg "divmod"=gg
 fP:mg "enumerate"=gg
 Wt:mg "int"=gg
 il:mg "isinstance"=gg
 gN:mg "len"=gg
 iH:mg "list"=gg
 eg:mg "range"=gg
 Ib:mg "reversed"=gg
 OC:mg "sorted"=gg
 E8:mg "str"=gg
 mD:mg "tuple"=gg
 UW:mg "zip"=gg
section
variable {P:ry} {w:z5} {K:b'} {mg:F'} {base:WN} {a:Ad}
section
theorem rD (T:@I):!G 1 a.gF a.qf ["thing"] (vZ K):=by
 refine T.ko.1.okA EG λL A outer s H vs Q E Y h=>?_;obtain⟨x,k,rfl,hk,q⟩:=h;refine⟨_,(!ag (si (aP @cb @F T.il Xi (!aS 0 (uh (v:= .ty "int") @F T.Wt PyProof.Rows.boot_int rfl))) (uV (UC (aP @cb @F T.il Xi (!aS 0 (uh (v:= .ty "bool") @F T.UX PyProof.Rows.boot_bool rfl))))))),@aH⟩;lia;unfold JM at q;cases G:subB k "int"
 ·rw[G] at q;lia;exact q
 ·rw[G] at q;lia;exact q
local macro_rules | `(tactic| walk_at "l2step") =>`(tactic| ((with_reducible refine' dR ?e ?_);(case e=>walk_at "l2kind")))
theorem p5 (T:@I):!G 2 a.jy a.yn ["thing","width"] (Ep K):=by
 have G:FnOk P w K mg base CX0 1 a.gF a.qf ["thing"] (vZ K):=rD T;refine T.jC.1.okA Ht λZ A outer s H vs Q E Y h=>?_;obtain⟨x,k,wd,rfl,hk,q⟩:=h;refine⟨_,(!ag (si (aj G Y T.uO T.ko @a6) (si (i0 UI @G ah @be) (uV (i0 Wq (rC (K:=K) rfl XB X6 X5 rH @G) @K @be))))),!b1 ?_⟩;lia;cases x with
 | int i=>
   have hk:k="int":=hk;subst hk;lia;have q:Q (.bl (decide (0<=i)&&decide (((xo i:Nat):Int)<=wd))) H:=q;cases L:decide (0<=i)
   ·rw[L] at q;lia;exact q
   ·rw[L] at q;lia;exact q
 | bl b=>have hk:k="bool":=hk;subst hk;lia;exact q
 | non=>have hk:k="NoneType":=hk;subst hk;lia;exact q
 | str z=>have hk:k="str":=hk;subst hk;lia;exact q
 | ref p=>
   rcases hk with ⟨rfl,_⟩ | ⟨rfl,_⟩ | ⟨rfl,_⟩<;>lia<;>exact q
 | _=>exact X4 hk
local macro_rules | `(tactic| walk_at "l2step") =>`(tactic| ((with_reducible refine' gS ?e ?_);(case e=>walk_at "l2kind")))
theorem AL (T:@I):!G 1 a.yg a.Qt ["number"] Q8:=by
 refine T.yD.1.okA wH fun η A outer s H vs Q E θ h=>?_;obtain⟨m,rfl,hm,q⟩:=h
 refine⟨_,((af (!b3 wH.nd rfl (rC (K:=K) rfl XB X6 X5 rH @G))
  (af (AD qa (!O vt @K ah) (af (!ap wH.nd (!ab AJ c7 @K ah ah))
  (af (aA (i:=0) wH.nd rfl @E (!ab oa w8 @G @Q (ay o8 @G (!ab su ig ah @Q ah))))
  (ai (!b3 wH.nd rfl @Q)))))
  (!Y (i0 lN @G ah @be))))),!bW rfl⟩
 lia;refine⟨fun μ σ' H'=>∃n hf,σ'=[aY (nat n),aY (nat μ),hf]/\H'=H/\n < 2 ^ μ/\μ<=1000/\M.od n=M.od m,⟨xo (m:Int),m,gg,rfl,rfl,FM m,FO hm,rfl⟩,?_⟩;rintro μ σ' H' ⟨n,hf,rfl,rfl,hn,hw,γ⟩;lia;refine iteB (λZ=>?_) (λZ=>?_)
 ·have Z:=y2 Z;have β:(μ + 1) / 2 < μ:=by omega
  refine⟨λG H2=>∃L hf,G=[aY (nat L),aY (nat @ca),hf]/\H2=H'/\L < 2 ^ @ca/\M.od L=M.od m,λG H2 ⟨L,δ,ζ,ε,Y,ο⟩=>⟨(μ + 1) / 2,β,L,δ,ζ,ε,Y,@A,ο⟩,?_⟩;lia;refine⟨(n>>>@ca)^^^(n&&&(2 ^ @ca - 1)),aY (nat @ca),?_,rfl,M.fold_lt μ _ n hn @A,?_⟩
  ·rw[LV,Mf]
  ·rw[<-γ];have f:=M.pb_fold μ @ca n @A hn @A;show M.pb 1000 _=M.pb 1000 _;rw[M.pb_up (M.fold_lt μ _ n hn @A) @A,f,<-M.pb_up hn hw]
 ·have Z:=of_decide_eq_false Z;have α:n < 2:=gA hn (hL @D (show μ<=1 by omega));lia;rw[show decide (V.int (n:Int)=V.int 0)= !M.od n from Oy α,γ];exact q
theorem vy (T:@I):!G 2 a.cq a.pJ ["self","bit"] (Tt a.bO):=by
 refine T.gq.1.okA gX λa3 A outer s H vs Q E τ h=>?_;obtain⟨p,d,f,n,ρ,b,rfl,st,hb,θ,a0,ν,q⟩:=h;have ψ:=rL τ;obtain⟨dx,ho⟩:=st.ho;obtain⟨es,hd,ht,g,l⟩:=st.he;have nd:(es.map λe=>e.m.log2).Nodup:=by have:=g.nd;rw[tu] at this;exact this
 refine⟨_,((af (!ap gX.nd (ay ig ah @K))
  (af (dF qa rfl (!W (aP (IY rfl) @F T.OC PyProof.Rows.boot_sorted @aB)) (aq (i:=3) gX.nd rfl @E) (ai (!al (!aM (!aI (AL T) τ T.GM T.yD (ay o8 @Q (!a1 (o7 ψ @Z @T @bE))))) (!ap gX.nd (ay oa @Q (ay ig ah @T))))))
  (!Y @Q)))),!bO rfl⟩
 lia;refine !aq ho T.h9 T.fo;lia;refine Rn hd (OO es) (by unfold sS;rw[a'];omega) λL ns H1 f1 α φ ω hw=>?_;obtain⟨ts,rfl,up,mem⟩:=El ω hw nd;rw[<-RU] at φ;lia;rw[shl1];refine gE (xs:=ts.map nat) (λi σ H'=>∃(m:Nat) (v:vr V),σ=[aY @P,aY (nat b),aY (nat m),v]/\H'=H1/\M.BarI (es.map λe=>(e.m,e.p)) (ts.take i) b m) ⟨2 ^ b,gg,rfl,rfl,M.BarI.zero _ b⟩ (λi σ H' _ ⟨_,_,_,e,_⟩=>by rw[e];exact SqL.of φ) ?_ ?_
 ·rintro i y σ H' χ ⟨m,v,rfl,rfl,I⟩;obtain⟨t,Y,rfl⟩:=az χ;obtain⟨hi,π⟩:=bx.mp Y;rcases wB es (t:Int) with ⟨e,he,β,ev⟩ | ⟨ξ,_⟩
  ·have β:e.m.log2=t:=by omega
   subst β;have G:(e.m,e.p)∈es.map (λe=>(e.m,e.p)):=hC.mpr ⟨e,he,rfl⟩;have ζ:e.m < 2 ^ 1000:=M.span_lt θ (g.span G);have η:e.m.log2 < 1000:=M.log2_under (g.nz _ G) ζ;have ι:=α.get (ht e he)
   have δ:∀t∈ts.take i,t < e.m.log2:=λt hm=>by
    obtain⟨j,hj,υ⟩:=WW.mp hm;rw[qF] at hj;rw[ZC] at υ;have:=ai4.mp up j i @A hi @A;rw[υ,π] at this;exact this
   have γ:e.m.log2≠b:=ν e.m (g.span G) (g.nz _ G);have ε:=g.nd;lia;refine !aq (α.get ho) T.h9 T.fo;lia;refine Km (α.get hd) ev ?_;lia;rw[fz];refine⟨m&&&e.m,rfl,Xe as1 ζ,?_⟩;cases Z:M.od (m&&&e.m) with
   | true=>
     lia;refine⟨m^^^2 ^ e.m.log2,aY (nat e.m.log2),by rw[shl1,fw],rfl,?_⟩;rw[take_succ Y];exact I.flip (e:=(e.m,e.p)) ε g.nz G Z δ γ η
   | false=>
     lia;rw[take_succ Y];exact I.keep (e:=(e.m,e.p)) ε G Z
  ·obtain⟨e,he,β⟩:=(mem t).mp (eO Y);exact hE (by rw[β]) (ξ e he)
 ·rintro σ H' ⟨m,v,rfl,rfl,I⟩;rw[a',ix] at I;lia;refine q m H' α (I.done g λe he=>?_);obtain⟨e',ο,rfl⟩:=hC.mp he;exact(mem _).mpr ⟨e',ο,rfl⟩
theorem p6 (T:@I):!G 1 a.lF a.DC ["mask"] Ra:=by
 refine T.lH.1.okA Hu λL A outer s H vs Q E Y h=>?_;obtain⟨m,rfl,hm,q⟩:=h;have hb:=FO hm;refine⟨_,(!ag (bL (osc:=ag se) (ON:=["mask"]) (N:=["place","mask"]) (n:=1) (fx:=[0]) rfl rfl rfl @L (!aN (!N (rC (K:=K) rfl XB X6 X5 rH @G))) @O (!be (aq (i:=0) (show hM (["place","mask"]:B') from by decide +kernel) rfl @E) (!O lN (!ab o8 w8 @K @G ah) ah) @G))),@aH⟩;lia;intro D G;refine !bJ (!bZ (M.pl i m)) (!a3 G) @bh
 ·lia;rw[GZ];by_cases ht:m.testBit i=true
  ·rw[lx ht];lia;refine Cs.put G c.same c.at' c.len @A ?_;rw[c.pv,M.pl_next,lx ht,eF,Yr];rfl
  ·rw[kf ht];lia;refine Cs.skip c.same c.at' c.len ?_;rw[c.pv,M.pl_next,kf ht,XI]
 ·have e:=c.pv;rw[n'] at e;refine q D H' G c.same ?_;rw[c.at',e,M.pl_up (FM m) hb]
theorem mM (T:@I):!G 1 a.ly a.Dp ["places"] J4:=by
 refine T.jB.1.okA pS λY A outer s H vs Q E Z h=>?_;obtain⟨r,ps,rfl,L,hl,q⟩:=h
 refine⟨_,((af (!b3 pS.nd rfl ah)
  (af (dF qa rfl (!W @G) (aq (i:=2) pS.nd rfl @E) (ai (!b3 pS.nd rfl (ay oa @K (ay ig ah @Q)))))
  (!Y @K)))),!bW rfl⟩
 lia;refine gE (xs:=ps.map nat) (λi σ H'=>∃v,σ=[aY (!j r),aY (nat (M.xm (ps.take i))),v]/\H'=H) ⟨gg,rfl,rfl⟩ (λi σ H' _ ⟨_,_,e⟩=>by rw[e];exact SqL.of L) ?_ ?_
 ·rintro i y σ H' G ⟨v,rfl,rfl⟩;obtain⟨k,hk,rfl⟩:=az G;have:=hl k (eO hk);lia;refine⟨aY (nat k),?_,rfl⟩;rw[shl1,fw,QL hk]
 ·rintro σ H' ⟨v,rfl,rfl⟩;rw[a',ix];lia;exact q
end
theorem kl (T:@I):!G 1 a.lE a.Dz ["thing"] (J3 K):=by
 refine T.iN.1.okA Hs fun α A outer s H vs Q E β h=>?_;obtain⟨x,k,rfl,hk,hz,q⟩:=h;have L:=q H (Same.refl H)
 refine⟨_,((af (!aX (!bo (!aM (aP @cb @F T.il Xi (!aS 0 (uh (v:= .ty "str") @F T.E8 XC rfl)))) (rA (!O lN @G bE) (qJ (!O vt (!a5 @a6) (!c2 T.zC @ba))))) yP bg)
  (!Y (si (i0 Cm (!c0 LL @G ah) (kK (v:= .str "abcdefghijklmnopqrstuvwxyz") @F T.L7 @ba) @F) (uV (aP (yw (K:=K) rfl rfl) @F T.RV ZN (!N (bL (osc:=ag r9) (ON:=["thing"]) (N:=["sign"]) (n:=1) (fx:=[]) rfl rfl rfl @L (UA @G) @O (!U (aq (i:=0) (show hM (["sign"]:B') from by decide +kernel) rfl @E) (i0 Cm @G (kK (v:= .str "abcdefghijklmnopqrstuvwxyz0123456789") @F T.C2 @ba) @F)))))))))),@aH⟩
 lia;cases x with
 | int i=>have hk:k="int":=hk;subst hk;lia;exact L
 | bl b=>have hk:k="bool":=hk;subst hk;lia;exact L
 | non=>have hk:k="NoneType":=hk;subst hk;lia;exact L
 | ref p=>rcases hk with ⟨rfl,_⟩ | ⟨rfl,_⟩ | ⟨rfl,_⟩<;>lia<;>exact L
 | str z=>
   have hk:k="str":=hk;subst hk;have hz:=hz z rfl;have hs:z.length<=sizeLine:=Y6 (aK hz);have q:∀H',Same H H'->Q (.bl (nm z.cps.toList)) H':=q;have L:=q H (Same.refl H);lia;by_cases h1:z=""
   ·rw[Em.mp h1] at L;refine oV (by rw[gB];rw[h1]) ?_;lia;exact L
   ·refine jv (by rw[f'];exactλz=>h1 (V.str.inj z)) ?_;lia
    obtain⟨c,r,G⟩:∃c r,z.cps.toList=c::r:=by
     cases hl:z.cps.toList with
     | nil=>exact hE (Em.mpr hl) h1
     | cons c r=>exact⟨c,r,rfl⟩
    have Y:=p9 z;rw[G] at L Y;have q:∀H',Same H H'->Q (.bl (decide ((c::r).length<=6)&&low c&&(c::r).all λc=>low c||fig c)) H':=λH' s=>by have:=q H' s;rw[G] at this;exact this
    by_cases h2:(6:Int) < z.length
    ·refine oV (gB h2) ?_;lia;have:=q H (Same.refl H);rw[f' (show ¬(c::r).length<=6 by omega)] at this;exact this
    ·refine jv (f' h2) ?_;rw[gB (show(c::r).length<=6 by omega)] at q;lia;refine Rt hs (c:=c) (by rw[G];exact dB (j:=0) rfl) ?_;lia;rw[am5,memL];cases Z:low c
     ·rw[Z] at q;lia;exact q H (Same.refl H)
     ·rw[Z] at q;lia;intro D f;refine Pc (Cs (!bQ ((!aJ (c::r)).map λc=>low c||fig c)) H D) (!a3 f) (λi d ys H' hd ⟨e,s,at',len⟩=>?_) (λys H' ⟨e,s,at',len⟩=>?_)
      ·have hi:i < z.cps.size:=(Y1.mp hd).1;have ζ:(c::r)[i]? =aY d:=by rw[<-G];simpa using hd
       lia;rw[am5,memN];refine Cs.put f s at' len (by have:z.cps.size=z.length:=rfl;omega) ?_;rw[e,ab6,ζ,eF,eF];rfl
      ·have hsz:z.cps.size=(c::r).length:=Y.symm;rw[hsz,ix] at e;refine Gh (!ad (by rw[at',e])) ?_;have:=q H' s;rw[au7];exact this
 | _=>exact X4 hk
theorem jQ (T:@I):!G 1 a.cO a.d4 @c8 (N6 K):=by
 refine T.dy.1.okA vo λY A outer s H vs Q E Z h=>?_;obtain⟨x,C,dx,nm,rfl,L,hn,G,q⟩:=h;refine⟨_,((ai (!au @K))),!b1 ?_⟩;lia;exact dj G L hn @D rfl q
theorem sD (T:@I):!G 2 a.bN a.mW ["self","name","number"] (N5 a.bj):=by
 refine T.gJ.1.okA rZ λZ A outer s H vs Q E Y h=>?_;obtain⟨x,dx,nm,k,rfl,L,q⟩:=h
 refine⟨_,((af (bH (w4 @F T.L3 T.d4 (jQ T) (Y.mono @D) T.dy.2 .nil bC (!a9 0 1)))
  (ai (!au @Q)))),@b4⟩
 lia;refine⟨x,_,dx,nm,rfl,T.nX,T.sL,L,λH2 u=>?_⟩;lia;exact dj u.at' T.nX T.kR (by show 1 < 1000;decide) rfl fun α G=>q α (u.trans G)
theorem o9 (T:@I):!G 2 a.bp a.jV @cQ (N4 a.aC):=by
 refine T.dU.1.okA oR fun α A outer s H vs Q E Z h=>?_;obtain⟨x,dx,nm,wr,k,rfl,Y,q⟩:=h
 refine⟨_,((af (bH (w4 @F T.L3 T.d4 (jQ T) (Z.mono @D) T.dy.2 .nil bC (!a9 0 1)))
  (af (!au @Q)
  (ai (!au @T))))),!bT rfl⟩
 lia;refine⟨x,_,dx,nm,rfl,T.gu,T.oj,Y,λH2 u=>?_⟩;lia;refine dj u.at' T.gu T.vD (by show 1 < 1000;decide) rfl fun γ G=>?_;lia;exact dj G.at' T.gu T.iI (by show 2 < 1000;decide) rfl fun β L=>q β ((u.trans G).trans L)
theorem rE (T:@I):!G 2 a.bF a.md ["self","name","wires"] (Ka K a.aX):=by
 refine T.fJ.1.okA rf fun α A outer s H vs Q E Z h=>?_;obtain⟨x,dx,nm,ι,ws,rfl,hw,G,q⟩:=h;have ν:ι≠x:=cy hw G λz=>by cases z
 refine⟨_,((af (bH (w4 @F T.L3 T.d4 (jQ T) (Z.mono @D) T.dy.2 .nil bC (!a9 0 1)))
  (ai (!au (!bw rfl @F T.mD WQ @a5))))),@b4⟩
 lia;refine⟨x,_,dx,nm,rfl,T.lM,T.qL,G,λH2 u=>?_⟩;have L:=u.oth _ _ ν hw;lia;exact dj u.at' T.lM T.kQ (by show 1 < 1000;decide) rfl fun β Y=>q β (u.trans Y)
theorem AR (T:@I):!G 1 a.dG a.vi @bS (Re a.bj):=by
 refine T.jE.1.okA Av λL A outer s H vs Q E Z h=>?_;obtain⟨p,dx,nm,k,Y,row,st,rfl,G,α,q⟩:=h;refine⟨_,(!ag (!ab o8 w8 @Q @Z ah)),!bT rfl⟩;lia;refine !aq G T.nX T.kR;lia;exact q
theorem vx (T:@I):!G 1 a.ck a.pH @bS (Rb a.aC):=by
 refine T.gj.1.okA vp λL A outer s H vs Q E Z h=>?_;obtain⟨p,dx,nm,wr,k,Y,row,st,rfl,G,α,q⟩:=h;refine⟨_,(!ag (!ab o8 w8 @T @Z ah)),!bT rfl⟩;lia;refine !aq G T.gu T.iI;lia;exact q
theorem yW (T:@I):!G 1 a.cW a.tz @bS (Rc K a.aX):=by
 refine T.iO.1.okA jm fun α A outer s H vs Q E Y h=>?_;obtain⟨p,dx,nm,ι,d,ws,kvs,f,row,st,rfl,Z,ht,hd,hf,q⟩:=h;have L:=rL Y
 refine⟨_,((af (!bi jm.nd rfl ah)
  (af (dF qa rfl (!bk @Z) (aq (i:=5) jm.nd rfl @E) (ai (!bi jm.nd rfl (ay oa @aq (o7 L @K @aE @bE)))))
  (!Y @aq)))),!ch rfl⟩
 lia;refine !aq Z T.lM T.kQ;lia;refine uP (λi σ H2=>∃v,σ=[aY @P,aY @b5,aY (.int row),aY (.int st),aY (.int (((ws.take i).map f).foldl WU 0)),v]/\H2=H) ⟨gg,rfl,rfl⟩ (λi σ H2 _ ⟨v,_,e⟩=>by rw[e];exact ht) ?_ ?_
 ·rintro i x σ H2 G ⟨v,rfl,rfl⟩;obtain⟨z,hz,rfl⟩:=az G;lia;refine uc hd (hf z (eO hz)) ?_;lia;exact⟨_,by rw[ye hz],rfl⟩
 ·rintro σ H2 ⟨v,rfl,rfl⟩;lia;rw[a',ix];exact q
theorem yY (T:@I):!G 1 a.cZ a.tE @bN (Oa a.bj):=by
 refine T.iQ.1.okA yN λL A outer s H vs Q E Z h=>?_;obtain⟨p,dx,nm,k,Y,rfl,G,α,h1,q⟩:=h;refine⟨_,((!aT (!Z ah (ay ig ah @Z)))),!b1 ?_⟩;lia;refine !aq G T.nX T.kR;lia;exactλt H2 _ s e=>q t H2 s e
theorem uk (T:@I):!G 1 a.bU a.oq @bN (N8 a.aC):=by
 refine T.fi.1.okA tW λL A outer s H vs Q E Z h=>?_;obtain⟨p,dx,nm,wr,k,Y,rfl,G,α,h1,q⟩:=h;refine⟨_,((!aT (!Z (ay ig ah @Z) ah))),!b1 ?_⟩;lia;refine !aq G T.gu T.iI;lia;exactλt H2 _ s e=>q t H2 s e
theorem xg (T:@I):!G 1 a.cF a.qP @bN (N9 K a.aX):=by
 refine T.gU.1.okA dh fun γ A outer s H vs Q E α h=>?_;obtain⟨p,dx,nm,ι,d,ws,kvs,f,g,rfl,β,ht,hd,hf,q⟩:=h;have Z:=rL α
 refine⟨_,((af (!ap dh.nd ah)
  (af (!am dh.nd ah)
  (af (dF qa rfl (!bk @Z) (!bn dh.nd rfl) (af (!bm dh.nd @E (o7 Z @K @aq @bE))
  (af (!ap dh.nd (ay oa @Q (!a1 @aE)))
  (ai (!am dh.nd (ay oa @T (!a1 @aE)))))))
  (!aT (!a9 2 3)))))),au (σ':=[aY _,aY _,gg,gg,gg,gg]) rfl ?_⟩
 lia;refine !aq β T.lM T.kQ;lia;refine uP (λi σ H2=>∃v G,σ=[aY @P,aY @b5,aY (.int (((ws.take i).map f).foldl WU 0)),aY (.int (((ws.take i).map g).foldl WU 0)),v,G]/\H2=H) ⟨gg,gg,rfl,rfl⟩ (λi σ H2 _ ⟨v,G,_,e⟩=>by rw[e];exact ht) ?_ ?_
 ·rintro i x σ H2 Y ⟨v,G,rfl,rfl⟩;obtain⟨z,hz,rfl⟩:=az Y;obtain⟨t,L,η⟩:=hf z (eO hz);lia;refine uc hd L ?_;lia;exact⟨_,_,by rw[ye hz,ye hz],rfl⟩
 ·rintro σ H2 ⟨v,G,rfl,rfl⟩;lia;rw[a',ix];exactλt δ _ s e=>q t δ s e
section
local macro_rules | `(tactic| walk_at "l2step") =>`(tactic| first | ((with_reducible refine' dR ?e ?_);(case e=>walk_at "l2kind")) | ((with_reducible refine' gS ?e ?_);(case e=>walk_at "l2kind")) | (with_reducible refine cE ?_) | (with_reducible refine dZ ?_))
theorem yT (T:@I):!G 1 a.eI a.sY @cZ Hk:=by
 refine T.ka.1.okA yK fun γ A outer s H vs Q E δ h=>?_;obtain⟨i,s,t,o,rs,qs,N,rfl,hn,g,q⟩:=h;have hi:=hn.i;have hs:=hn.s;have ht:=hn.t;have ho:=hn.o;have li:=g.li;have ls:=g.ls;have lt:=g.lt;have lo:=g.lo;have Y:rs.length=N.sums.length:=by rw[<-hn.es,a']
 have Z:qs.length=N.sts.length:=by rw[<-hn.et,a']
 refine⟨_,((af (!al (!O vt (!a5 @a6) (!c2 T.II @ba)) iF)
  (af (!al (!O vt (!a5 @al) (kK (v:= .int 40) @F T.FC @ba)) iF)
  (af (!al (!O vt (!a5 @a5) (kK (v:= .int 16) @F T.sU @ba)) iF)
  (af (!al (!O vt (!a5 (!ah 3)) (!c2 T.vV @ba)) iF)
  (ai (!al (fM (aP (DM (K:=K) rfl rfl) @F T.UY ag6 (!N (bL (osc:=ag j5) (ON:=["ins","sums","stores","outs"]) (N:=n10) (n:=1) (fx:=[]) rfl rfl rfl @L @bm @O (!bp rfl @E (i0 vt (!a5 (!N @a8)) (kK (v:= .int 24) @F T.C4 @ba) @be)))))) iF))))))),!bT rfl⟩
 lia;rw[a'];refine jv @bf ?_;lia;rw[a'];refine jv @bf ?_;lia;rw[a'];refine jv @bf ?_;lia;rw[a'];refine jv @bf ?_;lia;intro D L;refine aI (xs:=rs.map λr=>V.ref r.1) (!bH (!bQ (lA i false))) (!a3 L) (!b0 hs) (λi x ys H' β c=>?_) @bh
 ·obtain⟨r,G,rfl⟩:=az β;have hi:=(!K G).1;have hm:=eO G;have ε:=c.same.get (hn.sr r hm).1;have hw:=g.lw r.2.2 (by rw[<-hn.es];exact hC.mpr ⟨r,hm,rfl⟩);rcases(hn.sr r hm).2 with ew | ew
  ·have ew:=c.same.get ew;lia;rw[a',f' (show ¬(24:Int) < (r.2.2.2.length:Int) by omega)];refine Cs.put L c.same c.at' c.len @A ?_;rw[c.pv,Ye,eF];rfl
  ·have ew:=c.same.get ew;lia;rw[a',f' (show ¬(24:Int) < (r.2.2.2.length:Int) by omega)];refine Cs.put L c.same c.at' c.len @A ?_;rw[c.pv,Ye,eF];rfl
 ·have α:=c.at';rw[c.pv] at α;lia;refine PV (!ad α) ?_;lia;refine jv @C ?_;lia;exact q H' c.same
theorem yU (T:@I):!G 2 a.eJ a.sZ ["names"] Kc:=by
 refine T.kb.1.okA mn fun θ A outer s H vs Q E γ h=>?_;obtain⟨l,zs,rfl,hl,ln,nd,hn,q⟩:=h;have β:=rL γ
 refine⟨_,((af (!b3 mn.nd rfl sh)
  (ai (dF qa rfl (!W @G) (aq (i:=2) mn.nd rfl @E) (af (!al (!aM (aj (kl T) γ T.mU T.iN @a5)) iF)
  (af (!al (KF (KP β @Q @K)) iF)
  (ai (AE β @K @Q yP rfl)))))))),!bW rfl⟩
 lia;intro D H1 ε α η;have hl1:=α.get hl;lia;refine gE (xs:=zs.map V.str) (λi σ H'=>∃v,σ=[aY @aC,aY @W,v]/\Same H H'/\∃kvs:eP (Key×V),H' D=aY @aA/\kvs.map (·.1)=(zs.take i).map xY) ⟨gg,rfl,α,[],η,rfl⟩ (λi σ H' _ ⟨_,_,s',_⟩=>SqL.of (!Q hl)) ?_ ?_
 ·rintro i y σ H' δ ⟨v,rfl,s',kvs,ζ,ρ⟩;obtain⟨z,hz,rfl⟩:=az δ;have hi:=(@aX).1
  have G:z∉zs.take i:=λm=>by
   have h2:=nd;rw[<-YM i zs,WY] at h2;exact h2.2.2 z m z (eO (i:=0) (by rw[Zk,Nat.add_zero];exact hz)) rfl
  have lk:kvs.length<=1000:=by have:=oe w3 ρ;rw[a',a',qF] at this;omega
  lia;refine c_nm (hn z (eO hz)) λH2 Z=>?_;have L:=Z.get ζ;lia;refine PU L ?_;rw[vY ρ z,f' G];lia;refine rm L (aK lk) fun ι Y=>?_;rw[ES ρ G] at Y;lia;refine⟨λb o e=>Y.oth _ _ (!L ε) (Z.get @ad),_,Y.at',?_⟩;rw[eF,ρ,take_succ hz,eF];rfl
 ·rintro σ H' ⟨v,rfl,s',_⟩;lia;exact q H' s'
theorem j7 (T:@I):!G 2 a.fV a.vc ["wire","known"] Oc:=by
 refine T.gi.1.okA Au fun β A outer s H vs Q E Y h=>?_;obtain⟨z,d,zs,rfl,⟨kvs,α,ρ⟩,hz,hn,q⟩:=h;have Z:=rL Y;refine⟨_,((ai (!al (!bo (!aM (aj (kl T) Y T.mU T.iN @a6)) (qJ (KF (KO Z @G @K)))) iF))),!b1 ?_⟩;lia;refine c_nm hn λH2 L=>?_;have G:=L.get α;lia;refine RB G ?_;rw[vY ρ z,gB hz];lia;exact q H2 L
theorem yR (T:@I):!G 3 a.eE a.sW ["sums","stores","outs","known"] Kb:=by
 refine T.j8.1.okA gP fun π A outer s H vs Q E ι h=>?_;obtain⟨i,s,t,o,d,rs,qs,N,rfl,kp,g,η,q⟩:=h;have hs:=kp.s;have ht:=kp.t;have ho:=kp.o
 refine⟨_,((af (dF qa rfl (!bk @G) (!bn gP.nd rfl) (ai (dF qa rfl (!bk (!a1 @aq)) (aq (i:=5) gP.nd rfl @E) (ai (bH (!ax (j7 T) ι T.l6 T.gi 5 3))))))
  (af (dF qa rfl (!bk @K) (!bn gP.nd rfl) (ai (bH (aj (j7 T) ι T.l6 T.gi (aa (!a1 @aq) (!ah 3))))))
  (ai (dF qa rfl (!bk @Q) (aq (i:=5) gP.nd rfl @E) (ai (bH (!ax (j7 T) ι T.l6 T.gi 5 3)))))))),!ch rfl⟩
 lia;refine uP (xs:=rs.map λr=>V.ref r.1) (λi σ H'=>∃α Z,σ=[aY (!j s),aY @ab,aY (!j o),aY @b5,α,Z]/\Same H H') @cC (λi σ H' _ ⟨_,_,_,s'⟩=>SqT.of (!Q hs)) ?_ ?_
 ·rintro i y σ H' γ ⟨α,Z,rfl,s'⟩;obtain⟨r,δ,rfl⟩:=az γ;have hm:=eO δ;have ο:=s'.get (kp.sr r hm).1;have ξ:=s'.get (kp.sr r hm).2;have ε:r.2.2∈N.sums:=by rw[<-kp.es];exact !an ⟨r,hm,rfl⟩
  lia;refine uP (xs:=r.2.2.2.map V.str) (λj σ H2=>∃v,σ=[aY (!j s),aY @ab,aY (!j o),aY @b5,aY (!j r.1),v]/\Same H' H2) ⟨_,rfl,Same.refl _⟩ (λj σ H2 _ ⟨_,_,L⟩=>SqT.of (L.get ξ)) ?_ ?_
  ·rintro j y σ H2 γ ⟨v,rfl,L⟩;obtain⟨z,hz,rfl⟩:=az γ;have G:=g.ws r.2.2 ε z (eO hz);lia;refine⟨z,d,N.names,rfl,(η.same s').same L,G,g.nm z G,fun ζ Y=>?_⟩;lia;exact L.trans Y
  ·rintro σ H2 ⟨v,rfl,L⟩;lia;exact⟨_,_,rfl,!bb L⟩
 ·rintro σ H' ⟨α,Z,rfl,s'⟩;have θ:=s'.get ht;lia;refine uP (xs:=qs.map λr=>V.ref r.1) (λi σ H2=>∃α,σ=[aY (!j s),aY @ab,aY (!j o),aY @b5,α,Z]/\Same H' H2) ⟨_,rfl,Same.refl _⟩ (λi σ H2 _ ⟨_,_,L⟩=>SqT.of (L.get θ)) ?_ ?_
  ·rintro i y σ H2 γ ⟨α,rfl,L⟩;obtain⟨r,δ,rfl⟩:=az γ;have hm:=eO δ;have ο:=L.get (!Q (kp.tr r hm));have ε:r.2∈N.sts:=by rw[<-kp.et];exact !an ⟨r,hm,rfl⟩
   have G:=g.ts r.2 ε;lia;refine⟨r.2.2,d,N.names,rfl,(η.same s').same L,G,g.nm _ G,fun ζ Y=>?_⟩;lia;exact L.trans Y
  ·rintro σ H2 ⟨α,rfl,L⟩;have β:=s'.trans L;have τ:=β.get ho;lia;refine uP (xs:=N.outs.map V.str) (λi σ ζ=>∃Z,σ=[aY (!j s),aY @ab,aY (!j o),aY @b5,α,Z]/\Same H2 ζ) ⟨_,rfl,Same.refl _⟩ (λi σ ζ _ ⟨_,_,Y⟩=>SqT.of (Y.get τ)) ?_ ?_
   ·rintro i y σ ζ γ ⟨Z,rfl,Y⟩;obtain⟨z,hz,rfl⟩:=az γ;have G:=g.os z (eO hz);lia;refine⟨z,d,N.names,rfl,(η.same β).same Y,G,g.nm z G,fun ρ ν=>?_⟩;lia;exact Y.trans ν
   ·rintro σ ζ ⟨Z,rfl,Y⟩;lia;exact q _ (β.trans Y)
theorem Gx (T:@I):!G 1 a.rM a.Mt ["row","waiting"] NK:=by
 refine T.yC.1.okA Of fun δ A outer s H vs Q E Z h=>?_;obtain⟨r,d,zs,rfl,ε,β,lw,⟨kvs,γ,ρ⟩,q⟩:=h;have Y:=rL Z;refine⟨_,(!ag (aP (DM (K:=K) rfl rfl) @F T.UY ag6 (!N (bL (osc:=ag Aw) (ON:=n13) (N:=["wire","waiting"]) (n:=1) (fx:=[1]) rfl rfl rfl @L (!bk @a8) @O (!U (aq (i:=0) (show hM (["wire","waiting"]:B') from by decide +kernel) rfl @E) (UE (KP Y @G @K))))))),!b1 ?_⟩;lia;intro D G;refine qg (xs:=r.2.2.2.map V.str) (!bH (!bQ ((r.2.2.2.take i).map λw=>decide (w∈zs)))) (!a3 G) (!c7 β) (λi x ys H' L c=>?_) @bh
 ·obtain⟨z,hz,rfl⟩:=az L;have hi:=(@aX).1;lia;refine PU (!b2 γ) ?_;rw[vY ρ z];refine Cs.put G c.same c.at' c.len @A ?_;rw[c.pv,take_succ hz,eF,eF];rfl
 ·have α:=c.at';rw[c.pv,a',ix] at α;lia;refine PV (!ad α) ?_;have θ:(r.2.2.2.map λw=>decide (w∈zs)).any id=iS zs r.2.2.2:=by rw[List.any_map];rfl
  lia;rw[θ];exact q H' c.same
theorem vv (T:@I):!G 4 a.dq a.pE ["ins","sums","stores"] (Hd a.bj a.aX a.aC):=by
 refine T.iL.1.okA nZ λg0 A outer s H vs Q E hr h=>?_;obtain⟨i,s,t,o,rs,qs,N,rfl,kp,g,q⟩:=h;have hi:=kp.i;have hs:=kp.s;have ht:=kp.t;have li:=g.li;have ls:=g.ls;have lt:=g.lt;have f8:rs.length=N.sums.length:=by rw[<-kp.es,a']
 have f9:qs.length=N.sts.length:=by rw[<-kp.et,a']
 refine⟨_,((af (bP (osc:=ag di) (ON:=n16) (N:=["number","name"]) (n:=2) (fx:=[]) (i:=3) nZ.nd rfl rfl rfl rfl rfl rfl @L (p3 (K:=K) rfl @F T.fP @G) (zS (gZ @O (gZ @O uM))) (!U (!bR rfl rfl (aq (i:=0) (show hM (["number","name"]:B') from by decide +kernel) rfl @E) (cc (aq (i:=1) (show hM (["number","name"]:B') from by decide +kernel) rfl @E) kJ)) (iZ T.Pl (sD T) @a4 @F T.OZ T.gJ.2 .nil bC (!a9 1 0))))
  (af (!aL rfl qq X3 X2 jx @T (!N (bL (osc:=ag di) (ON:=n16) (N:=n10) (n:=1) (fx:=[]) rfl rfl rfl @L (!bk @K) @O (!bp rfl @E (iZ T.M4 (rE T) @a4 @F T.L4 T.fJ.2 .nil bC (!Z @a8 @a8))))))
  (af (!aL rfl qq X3 X2 jx @T (!N (bL (osc:=ag di) (ON:=n16) (N:=["number","row"]) (n:=2) (fx:=[]) rfl rfl rfl @L (p3 (K:=K) rfl @F T.fP @Q) (zS (gZ @O (gZ @O uM))) (!U (!bR rfl rfl (aq (i:=0) (show hM (["number","row"]:B') from by decide +kernel) rfl @E) (cc (aq (i:=1) (show hM (["number","row"]:B') from by decide +kernel) rfl @E) kJ)) (iZ T.F2 (o9 T) @a4 @F T.FA T.dU.2 .nil bC (aa (!a1 @K) (aa (!a1 @K) @a6)))))))
  (!Y (bc (Ai rfl) @F T.Qb ag1 (!N (bL (osc:=ag di) (ON:=n16) (N:=["wire"]) (n:=1) (fx:=[]) rfl rfl rfl @L (!W @T) @O (!U (aq (i:=0) (show hM (["wire"]:B') from by decide +kernel) rfl @E) (c6 (aa @Z @a6))))))))))),au (σ':=[aY _,aY _,aY _,gg]) rfl ?_⟩
 lia;refine !I ⟨⟨_,SqT.of hi⟩,?_⟩;intro D hD;refine uQ (xs:=N.ins.map V.str) (λi ys H'=>∃ws,WL H H' a.bj a.aX a.aC N D ys (N.ins.take i) ws) ⟨[],rfl,rfl,λ_ h=>hE h @C,bo hD,aw⟩ (λi ys H' _ ⟨ws,c⟩=>SqT.of (!b2 hi)) (λi x ys H' pz H2 hx ⟨ws,c⟩ fp s2 e2=>?_) (λys H' ⟨ws,c⟩=>?_)
 ·obtain⟨z,hz,rfl⟩:=az hx;have a3:=(@aX).1;have lw:ws.length=i:=by have:=oe w3 c.nm;rw[a',qF] at this;omega
  lia;intro x dx H3 ψ s3 Y;refine⟨x,dx,@aj,nat i,rfl,Y,λH4 u4=>⟨rfl,?_⟩⟩;have ξ:Same H2 H4:=λb o e=>u4.oth _ _ (!L ψ) (s3.get e);exact c.put hD (s2.trans ξ) (.i i dx hz u4.at') (by rw[qF];omega) (take_succ hz)
 ·rw[a',ix] at c;have b3:=c.same.get hs;have e9:=c.same.get ht;have c1:=c.d;lia;intro D2 a5;refine qg (xs:=rs.map λr=>V.ref r.1) (λi ys H2=>∃ws,WL H' H2 a.bj a.aX a.aC N D2 ys ((!aW i).map (·.2.2.1)) ws) ⟨[],rfl,rfl,λ_ h=>hE h @C,bo a5,aw⟩ (λi ys H2 _ ⟨ws,ζ⟩=>SqT.of (ζ.same.get b3)) (λi x β H2 hx ⟨a6,ζ⟩=>?_) (fun β H2 ⟨a6,ζ⟩=>?_)
  ·obtain⟨r,G,rfl⟩:=az hx;have a3:=(!K G).1;have hm:=eO G;have a7:=c.same.trans ζ.same;have er:=a7.get (kp.sr r hm).1;have ew:=a7.get (kp.sr r hm).2;lia;intro x dx H3 ψ s3 Y;refine⟨x,dx,.str r.2.2.1,r.2.1,_,rfl,s3.get ew,Y,λH4 u4=>⟨rfl,?_⟩⟩;have ξ:Same H2 H4:=λb o e=>u4.oth _ _ (!L ψ) (s3.get e);exact ζ.put a5 ξ (.s r.2.2.2 dx r.2.1 (by rw[<-kp.es];exact hC.mpr ⟨r,hm,rfl⟩) u4.at' (ξ.get ew)) (by rw[a',qF];omega) (by rw[take_succ G,eF];rfl)
  ·rw[a',ix] at ζ;have φ:=ζ.same.get c1;have e0:=ζ.d;have a8:ys.length=N.ins.length:=by rw[c.ey,<-c.nm,a',a']
   have τ:β.length=rs.length:=by rw[ζ.ey,a',<-a' (f:=(·.1)),ζ.nm,a']
   lia;refine jZ φ e0 (by rw[lj];omega) λH3 u3=>?_;have ι:=c.join ζ hD u3;have c0:=ι.d;have ω:=ι.same.get ht;have f2:(ys++β).length=N.ins.length + rs.length:=by rw[fy,a8,τ]
   clear c ζ φ e0 b3 e9 c1 a8 τ a5;generalize ys++β=ys3 at *
   lia;refine !I ⟨⟨_,SqT.of ω⟩,?_⟩;intro L a4;refine uQ (xs:=qs.map λq=>V.ref q.1) (λi ys H'=>∃ws,WL H3 H' a.bj a.aX a.aC N L ys ((qs.take i).map (·.2.1)) ws) ⟨[],rfl,rfl,λ_ h=>hE h @C,bo a4,aw⟩ (λi ys H' _ ⟨ws,c⟩=>SqT.of (!b2 ω)) (λi x ys H4 pz H5 hx ⟨ws,c⟩ fp s5 χ=>?_) (λe1 H4 ⟨e4,c4⟩=>?_)
   ·obtain⟨r,G,rfl⟩:=az hx;have a3:=(!K G).1;have hm:=eO G;have er:=s5.get (!b2 (ι.same.get (kp.tr r hm)));lia;intro x dx H6 γ s6 π;refine⟨x,dx,.str r.2.1,.str r.2.2,nat i,rfl,π,λH7 ν=>⟨rfl,?_⟩⟩;have θ:Same H5 H7:=λb o e=>ν.oth _ _ (!L γ) (!aQ e);exact c.put a4 (s5.trans θ) (.t i r.2.2 dx (by rw[<-kp.et,hB,G];rfl) ν.at') (by rw[a',qF];omega) (by rw[take_succ G,eF];rfl)
   ·rw[a',ix] at c4;have υ:=c4.same.get c0;have d2:=c4.d;have f1:e1.length=qs.length:=by rw[c4.ey,a',<-a' (f:=(·.1)),c4.nm,a']
    lia;refine jZ υ d2 (by rw[lj];omega) λH5 u5=>?_;have α:=ι.join c4 hD u5;have δ:=α.d;have f0:=α.ey
    have d1:N.ins++rs.map (·.2.2.1)++qs.map (·.2.1)=N.names:=by
     unfold Nt.names;rw[<-kp.es,<-kp.et,tu,tu];rfl
    rw[d1] at α;clear ι c4 υ d2 c0 ω a4;rw[f0] at δ;generalize ws++a6++e4=wl at *
    have f5:wl.length<=100:=by rw[<-a' (f:=(·.1)),α.nm,<-d1,fy,fy,a',a'];omega
    lia;intro ο b6;refine aI (xs:=wl.map λq=>V.ref q.2) (λi ys H'=>∃ps:eP (ee×Key×V),ys=ps.map (λq=>V.ref q.1)/\ps.map (·.2)=(wl.take i).map (λq=>((xY q.1:Key),V.ref q.2))/\(∀q∈ps,H' q.1=aY (!H [kV q.2.1,q.2.2]))/\Same H5 H'/\H' ο=aY @Y) ⟨[],rfl,rfl,λ_ h=>hE h @C,bo b6,aw⟩ (λi ys H' _ ⟨_,_,_,_,s',_⟩=>SqL.of (!Q δ)) ?_ ?_
    ·rintro i y ys H' hy ⟨ps,rfl,Z,hq,s',eD⟩;obtain⟨q0,a0,rfl⟩:=az hy;have a3:=(!K a0).1;have f4:ps.length=i:=by have:=oe w3 Z;rw[a',a',qF] at this;omega
     have wb:=(α.ob q0 (eO a0)).same s'
     have fld:∀{Q:VK},Q (.str q0.1) H'->SO K (Yq "name") Q (!ak q0.2) H':=λh=>by
      cases wb with
      | i k dx hk e=>exact aJ e T.nX T.sL rfl h
      | s ws dx tw hk e et=>exact aJ e T.lM T.qL rfl h
      | t k y dx hk e=>exact aJ e T.gu T.oj rfl h
     lia;refine fld ?_;lia;intro tt H6 γ s6 π;have e8:tt≠ο:=λz=>by rw[z,eD] at γ;cases γ
     refine⟨!aQ eD,by rw[a'];exact aK @A,ps++[(tt,xY q0.1,.ref q0.2)],by rw[eF];rfl,by rw[eF,Z,take_succ a0,eF];rfl,fun ε η=>?_,λb o e=>?_,aw⟩
     ·rcases gs.mp η with h | h
      ·have e:=hq ε h;rw[aD (cy e eD λz=>by cases z)];exact !aQ e
      ·rw[eR] at h;subst h;rw[aD e8];exact π
     ·rw[aD (!L b6)];exact !aQ @ad
    ·rintro ys H6 ⟨ps,rfl,Z,hq,s',eD⟩;rw[a',ix] at Z
     have ρ:ps.map (λq=>q.2.1)=N.names.map Sum.inr:=by
      have:=oe (Zc (·.1)) Z;rw[tu,tu] at this;rw[<-α.nm,tu];exact this
     lia;refine Kl eD hq (by rw[ρ];exact aa8 _ (λx y h z=>h (Zy z)) g.nd) λd H7 f7 s7 e7=>?_;have θ:=s'.trans s7;rw[Z] at e7;exact q d H7 wl ((α.same.trans s').free f7) (α.same.trans θ) ⟨e7,α.nm,fun ε η=>(α.ob ε η).same θ⟩
theorem HU (T:@I):!G 2 a.lh a.Dj ["sums"] Hi:=by
 refine T.tO.1.okA kg λg0 A outer s H vs Q E θ h=>?_;obtain⟨s,rs,N,rfl,hs,c3,b3,g,q⟩:=h;have f6:rs.length=N.sums.length:=by rw[<-b3,a']
 have ls:=g.ls
 refine⟨_,((af (!b3 kg.nd rfl @ay)
  (af (!ap kg.nd (!b5 rfl @F T.iH qE @a6))
  (af (AD qa (!O vt (!a5 @a5) ah) (af (!am kg.nd (bc (Ai rfl) @F T.Qb ag1 @a5))
  (af (bP (osc:=ag oU) (ON:=["sums","names","left","waiting","ready"]) (N:=n13) (n:=1) (fx:=[3]) (i:=4) kg.nd rfl rfl rfl rfl rfl rfl @L (!W @Q) @O (!be (aq (i:=0) (show hM (n13:B') from by decide +kernel) rfl @E) (!aM (!ax (Gx T) θ T.LW T.yC 0 1)) @a8))
  (af (!al (!O lN (!a5 (!ah 4)) ah) iF)
  (af (!aL rfl qq X3 X2 jx @K (!ah 4))
  (ai (bP (osc:=ag oU) (ON:=["sums","names","left","waiting","ready"]) (N:=n13) (n:=1) (fx:=[3]) (i:=2) kg.nd rfl rfl rfl rfl rfl rfl @L (!W @Q) @O (!be (aq (i:=0) (show hM (n13:B') from by decide +kernel) rfl @E) (fM (!ax (Gx T) θ T.LW T.yC 0 1)) @G))))))))
  (!Y @K))))),au (σ':=[aY _,gg,gg,gg,gg]) rfl ?_⟩
 lia;intro ψ H1 f1 s1 e1;have f9:=s1.get hs;lia;intro γ H2 f2 s2 e2;lia;have nd:=g.nds;refine⟨fun μ σ' H'=>∃(od:B') (lf:eP Rw) (γ:ee) (v3 v4:vr V),σ'=[aY (!j s),aY (!j ψ),aY (!j γ),v3,v4]/\Same H H'/\H' ψ=aY (!A (od.map V.str))/\H' γ=aY (!A (lf.map λr=>V.ref r.1))/\γ≠ψ/\(∀r∈lf,r∈rs)/\Otp N.sums od (!af (·.2.2))/\μ=lf.length,⟨rs.length,[],rs,γ,gg,gg,rfl,s1.trans s2,s2.get e1,e2,λz=>(by rw[z,e1] at f2;cases f2),λ_ h=>h,by rw[b3];exact Otp.start _,rfl⟩,?_⟩;rintro μ σ' H3 ⟨od,lf,γ,v3,v4,rfl,s3,en,el,c4,sub,ot,rfl⟩;lia;rw[a'];by_cases h0:lf=[]
 ·subst h0;refine jv (f' @C) ?_;lia;exact q ψ H3 od f1 s3 en ot.done
 ·have f3:0 < lf.length:=Z8.mpr h0;refine oV (gB @A) ?_;have ζ:=ot.perm.nodup_iff.mpr nd;rw[WY] at ζ;have c5:(!af (·.2.2.1)).Nodup:=by have:=ζ.2.1;rw[tu] at this;exact this
  have f7:od.length + lf.length=N.sums.length:=by have:=ot.perm.length_eq;rw[fy,a',a',a'] at this;exact this
  have ω:=ot.ready g (by simpa using h0);have ν:(!af (·.2.2)).map (·.1)=lf.map (·.2.2.1):=by rw[tu];rfl
  rw[ν] at ω;have Y:∀r∈lf,∀{H'},Same H H'->H' r.1=aY @bF/\H' r.2.1=aY (!H @bq):=λr θ H' s'=>⟨s'.get (c3 r (sub r θ)).1,s'.get (c3 r (sub r θ)).2⟩;have ρ:∀r∈lf,r.2.2.2.length<=24:=λr θ=>g.lw r.2.2 (by rw[<-b3];exact hC.mpr ⟨r,sub r θ,rfl⟩);refine⟨fun σ' H'=>∃(od:B') (π:eP Rw) (γ:ee) (v3 v4:vr V),σ'=[aY (!j s),aY (!j ψ),aY (!j γ),v3,v4]/\Same H H'/\H' ψ=aY (!A (od.map V.str))/\H' γ=aY (!A (π.map λr=>V.ref r.1))/\γ≠ψ/\(∀r∈π,r∈rs)/\Otp N.sums od (π.map (·.2.2))/\π.length < lf.length,fun σ' H' ⟨od,π,γ,v3,v4,a1,a2,a3,a4,a5,a6,G,a8⟩=>⟨π.length,a8,od,π,γ,v3,v4,a1,a2,a3,a4,a5,a6,G,rfl⟩,?_⟩;lia;refine Kl (ps:=lf.map λr=>(r.1,xY r.2.2.1,V.ref r.2.1)) (by rw[tu];exact el) (fun ε η=>?_) ?_ λd H4 f4 s4 e4=>?_
  ·obtain⟨r,L,rfl⟩:=hC.mp η;exact(Y r L s3).1
  ·rw[tu];have:=aa8 (xY:kv->Key) (S:=λa b=>a≠b) (λx y h z=>h (Zy z)) c5;rw[tu] at this;exact this
  have kn:Knw H4 d (!af (·.2.2.1)):=⟨_,e4,by rw[tu,tu,tu];rfl⟩;have φ:=s4.get el;have υ:=s4.get en;have c1:=s3.trans s4;lia;intro D5 δ;refine aI (xs:=lf.map λr=>V.ref r.1) (λi ys H'=>ys=(((lf.take i).filter λr=> !iS (!af (·.2.2.1)) r.2.2.2).map (·.2.2.1)).map V.str/\Same H4 H'/\H' D5=aY @Y) ⟨rfl,bo δ,aw⟩ (λi ys H' _ ⟨_,s',_⟩=>SqL.of (!Q φ)) (λi x ys H' hx ⟨ey,s',e'⟩=>?_) (λys H5 ⟨ey,s5,χ⟩=>?_)
  ·obtain⟨r,L,rfl⟩:=az hx;have hm:=eO L;have e3:=(!K L).1;have Z:=Y r hm (c1.trans s');have α:=Z.1;have fs:(lf.take @H).filter (λr=> !iS (!af (·.2.2.1)) r.2.2.2)=(lf.take i).filter (λr=> !iS (!af (·.2.2.1)) r.2.2.2)++(if (!iS (!af (·.2.2.1)) r.2.2.2)=true then [r] else []):=by rw[take_succ L,Xp,YG];rfl
   lia;refine⟨r,d,!af (·.2.2.1),rfl,Z.1,Z.2,ρ r hm,kn.same s',λH6 s6=>?_⟩;have f5:=s6.get α;cases hw:iS (!af (·.2.2.1)) r.2.2.2 with
   | true=>
     lia;refine⟨?_,!bb s6,!aQ e'⟩;rw[fs,hw,ey];simp
   | false=>
     lia;refine⟨!aQ e',?_,?_,λb o e=>?_,aw⟩
     ·rw[ey,a',a'];have:=Y3 (λr:Rw=> !iS (!af (·.2.2.1)) r.2.2.2) (lf.take i);rw[qF] at this;exact aK @A
     ·rw[fs,hw,ey];simp
     ·rw[aD (!L δ)];exact !aQ @ad
  ·rw[a',ix] at ey;have fm:((!af (·.2.2)).filter λr=> !iS (!af (·.2.2.1)) r.2)=(lf.filter λr=> !iS (!af (·.2.2.1)) r.2.2.2).map (·.2.2):=by rw[as4];rfl
   have e6:((!af (·.2.2)).filter λr=>iS (!af (·.2.2.1)) r.2)=(lf.filter λr=>iS (!af (·.2.2.1)) r.2.2.2).map (·.2.2):=by rw[as4];rfl
   rw[fm,a'] at ω;have d2:ys.length=(lf.filter λr=> !iS (!af (·.2.2.1)) r.2.2.2).length:=by rw[ey,a',a']
   have f8:=Y3 (λr:Rw=> !iS (!af (·.2.2.1)) r.2.2.2) lf;have a0:=FE (λr:Rw=>iS (!af (·.2.2.1)) r.2.2.2) lf ω;have ο:=ot.step nd;rw[ν,fm,e6,tu] at ο;have f0:=s5.get φ;have e8:=s5.get υ;lia;refine jv (f' λz=>by have:=V.int.inj z;omega) ?_;lia;refine jZ e8 χ (by rw[a',d2,lj];omega) λH6 u6=>?_;have ξ:∀b o,b≠ψ->H4 b=aY o->H6 b=aY o:=λb o n e=>u6.oth _ _ n (s5.get e);have c0:Same H H6:=λb o e=>ξ b o (!L f1) (c1.get e);have e9:=u6.oth _ _ c4 f0;have b6:=u6.at';rw[ey,<-eF] at b6
   have e0:Knw H6 d (!af (·.2.2.1)):=by
    obtain⟨kvs,ed,ek⟩:=kn;exact⟨kvs,ξ _ _ (cy ed υ λz=>by cases z) ed,ek⟩
   lia;intro D7 ι;refine aI (xs:=lf.map λr=>V.ref r.1) (λi ys H'=>ys=((lf.take i).filter λr=>iS (!af (·.2.2.1)) r.2.2.2).map @bO/\Same H6 H'/\H' D7=aY @Y) ⟨rfl,bo ι,aw⟩ (λi ys H' _ ⟨_,s',_⟩=>SqL.of (!Q e9)) (λi x ys H' hx ⟨ey,s',e'⟩=>?_) (λys H7 ⟨τ,s7,e7⟩=>?_)
   ·obtain⟨r,L,rfl⟩:=az hx;have hm:=eO L;have e3:=(!K L).1;have Z:=Y r hm (c0.trans s');have fs:(lf.take @H).filter (λr=>iS (!af (·.2.2.1)) r.2.2.2)=(lf.take i).filter (λr=>iS (!af (·.2.2.1)) r.2.2.2)++(if iS (!af (·.2.2.1)) r.2.2.2=true then [r] else []):=by rw[take_succ L,Xp,YG];rfl
    lia;refine⟨r,d,!af (·.2.2.1),rfl,Z.1,Z.2,ρ r hm,e0.same s',fun β s8=>?_⟩;cases hw:iS (!af (·.2.2.1)) r.2.2.2 with
    | false=>
      lia;refine⟨?_,!bb s8,s8.get e'⟩;rw[fs,hw,ey];simp
    | true=>
      lia;refine⟨s8.get e',?_,?_,λb o e=>?_,aw⟩
      ·rw[ey,a'];have:=Y3 (λr:Rw=>iS (!af (·.2.2.1)) r.2.2.2) (lf.take i);rw[qF] at this;exact aK @A
      ·rw[fs,hw,ey];simp
      ·rw[aD (!L ι)];exact s8.get @ad
   ·rw[a',ix] at τ;rw[τ] at e7;lia;have c2:∀r∈lf.filter (λr=>iS (!af (·.2.2.1)) r.2.2.2),r∈rs:=λr θ=>sub r (Xs.mp θ).1;have d1:D7≠ψ:=λz=>(by rw[z,b6] at ι;cases ι);exact⟨_,_,D7,_,_,rfl,c0.trans s7,s7.get b6,e7,d1,c2,ο,a0⟩
theorem oi (T:@I):!G 5 a.cf a.mG @cy (Q3 a.cP a.bj a.aX a.aC):=by
 refine T.c9.1.okA wN λs3 A outer s H vs Q E hr h=>?_;obtain⟨x,dx,i,s,t,o,rs,qs,N,rfl,hx,hn,g,q⟩:=h;have li:=g.li;have ls:=g.ls;have lt:=g.lt;have lo:=g.lo;have r0:rs.length=N.sums.length:=by rw[<-hn.es,a']
 have r1:qs.length=N.sts.length:=by rw[<-hn.et,a']
 refine⟨_,((af (bH (aj (yT T) hr T.Bj T.ka (!ar 1 2 (!a9 3 4))))
  (af (bH (!aI (yU T) hr T.Bk T.kb (!ab jw jw (!b5 rfl @F T.iH qE @al) (!c4 rfl rfl rfl @L @Q @O (!bp rfl @E @a8)) (!c4 rfl rfl rfl @L @T @O (!bp rfl @E @a8)))))
  (af (!au (!bw rfl @F T.mD WQ @al))
  (af (!au (!bw rfl @F T.mD WQ (!N (!c4 rfl rfl rfl @L @Q @O (!bp rfl @E (c6 (!Z @a8 (!bw rfl @F T.mD WQ (!N @a8)))))))))
  (af (!au (!bw rfl @F T.mD WQ (!N (!c4 rfl rfl rfl @L @T @O (!bp rfl @E (c6 (!Z @a8 @a8)))))))
  (af (!au (!bw rfl @F T.mD WQ (!ah 4)))
  (af (!au (aj (vv T) hr T.x5 T.iL (aa @Z (!Z @Z @Z))))
  (af (bH (aj (yR T) hr T.Bh T.j8 (aa @Z (aa @Z (!Z @Z @Z)))))
  (ai (!au (!bw rfl @F T.mD WQ (!N (aj (HU T) hr T.LZ T.tO @aB)))))))))))))),au (σ':=[aY _,aY _,aY _,aY _,aY _]) rfl ?_⟩
 lia;refine⟨i,s,t,o,rs,qs,N,rfl,hn,g,λH1 s1=>?_⟩;have d1:=hn.same s1;have q2:=d1.i;have n2:=d1.s;have m5:=d1.t;lia;intro D2 H2 f2 s2 e2;have n0:=s2.get n2;lia;intro D3 l5;refine aI (xs:=rs.map λr=>V.ref r.1) (λi ys H'=>Cs (!aO ((!aW i).map (·.2.2.1))) H2 D3 i ys H') (!a3 l5) (!b0 n0) (λi x ys H' hx c=>?_) @cp
 ·obtain⟨r,θ,rfl⟩:=az hx;have l4:=(!K θ).1;have er:=c.same.get (s2.get (d1.sr r (eO θ)).1);lia;refine Cs.put l5 c.same c.at' c.len @A ?_;rw[c.pv,take_succ θ,eF,eF];rfl
 ·have e3:=c.at';rw[c.pv,a',ix] at e3;have k8:=c.same;clear c;refine oX (k8.get e2) e3 (by rw[a',a',a',lj];omega) λD4 H4 f4 s4 e4=>?_;have a4:=s2.trans (k8.trans s4);have m4:=a4.get m5;lia;intro D5 δ;refine aI (xs:=qs.map λr=>V.ref r.1) (!ca (!aO ((qs.take i).map (·.2.1)))) (!a3 δ) (!b0 m4) (λi x ys H' hx c=>?_) @c7
  ·obtain⟨r,θ,rfl⟩:=az hx;have l4:=(!K θ).1;have er:=c.same.get (a4.get (d1.tr r (eO θ)));lia;refine Cs.put δ c.same c.at' c.len @A ?_;rw[c.pv,take_succ θ,eF,eF];rfl
  ·have e5:=c.at';rw[c.pv,a',ix] at e5;have k7:=c.same;clear c
   have n7:N.ins++rs.map (·.2.2.1)++qs.map (·.2.1)=N.names:=by
    unfold Nt.names;rw[<-hn.es,<-hn.et,tu,tu];rfl
   have r3:N.names.length<=100:=by rw[<-n7,fy,fy,a',a'];omega
   refine oX (k7.get e4) e5 (by rw[fy,a',a',a',a',a',lj];omega) λD6 H6 f6 s6 e6=>?_;rw[<-eF,<-eF,n7] at e6;have a5:=a4.trans (k7.trans s6);lia;refine⟨D6,N.names,rfl,e6,@A,g.nd,g.nm,λH7 s7=>?_⟩;have g3:=s1.trans (a5.trans s7);have l3:=hn.same g3;have α:=g3.get hx;clear e6 e5 e4 e3 e2 a5 a4 n0 m4 q2 n2 m5 d1 l5 δ f2 f4 f6 s1 s2 k8 s4 k7 s6 s7;have q1:=l3.i;lia;intro ti H8 f8 s8 e8;lia;refine dj (s8.get α) T.cA T.sJ (by show 0 < 1000;decide) rfl λH9 ξ=>?_;have l2:=s8.get α;have f5:=(!ae ξ).hnd2 l2 (l3.same s8);have e9:=(!ae ξ).tup l2 e8;have ψ:=ξ.at';have k9:Kx x H H9:=(Kx.same (g3.trans s8)).trans (!ae ξ);have m7:=f5.s;clear ξ l2 s8 e8 f8 q1 α l3 g3;lia;intro g0 c5;refine aI (xs:=rs.map λr=>V.ref r.1) (λi ys H'=>∃φ:eP Rw,ys=φ.map @bO/\φ.map (·.2.2)=(!aW i).map (·.2.2)/\RwK H' φ/\Same H9 H'/\H' g0=aY @Y) ⟨[],rfl,rfl,λ_ h=>hE h @C,bo c5,aw⟩ (λi ys H' _ ⟨_,_,_,_,s',_⟩=>SqL.of (!Q m7)) ?_ ?_
   ·rintro i y ys H' hy ⟨φ,rfl,c2,hk,s',eD⟩;obtain⟨r,θ,rfl⟩:=az hy;have l4:=(!K θ).1;have hm:=eO θ;have er:=s'.get (f5.sr r hm).1;have n5:φ.length=i:=by have:=oe w3 c2;rw[a',a',qF] at this;omega
    rcases(f5.sr r hm).2 with ew | ew
    ·have ew:=s'.get ew;lia;intro tw q9 ρ a0 ω;lia;intro tr h0 f9 b6 d2;have υ:tr≠g0:=λz=>(by rw[z,a0.get eD] at f9;cases f9);have l1:tw≠g0:=λz=>(by rw[z,eD] at ρ;cases ρ);have ζ:=b6.get (a0.get eD);refine⟨ζ,by rw[a'];exact aK @A,φ++[(tr,tw,r.2.2)],by rw[eF];rfl,by rw[eF,c2,take_succ θ,eF];rfl,λr2 h2=>?_,λb ob e=>?_,aw⟩
     ·rcases gs.mp h2 with h2 | h2
      ·exact((hk.same a0).same b6).updL ζ (λb ob n e=>by rw[aD n];exact e) r2 h2
      ·rw[eR] at h2;subst h2;exact⟨by rw[aD υ];exact d2,by rw[aD l1];exact b6.get ω⟩
     ·rw[aD (!L c5)];exact b6.get (a0.get @ad)
    ·have ew:=s'.get ew;lia;intro tr h0 f9 b6 d2;have a0:Same H' H':=Same.refl _;have υ:tr≠g0:=λz=>(by rw[z,a0.get eD] at f9;cases f9);have l1:r.2.1≠g0:=λz=>(by rw[z,eD] at ew;cases ew);have ζ:=b6.get (a0.get eD);refine⟨ζ,by rw[a'];exact aK @A,φ++[(tr,r.2.1,r.2.2)],by rw[eF];rfl,by rw[eF,c2,take_succ θ,eF];rfl,λr2 h2=>?_,λb ob e=>?_,aw⟩
     ·rcases gs.mp h2 with h2 | h2
      ·exact((hk.same a0).same b6).updL ζ (λb ob n e=>by rw[aD n];exact e) r2 h2
      ·rw[eR] at h2;subst h2;exact⟨by rw[aD υ];exact d2,by rw[aD l1];exact b6.get ew⟩
     ·rw[aD (!L c5)];exact b6.get (a0.get @ad)
   ·rintro ys t4 ⟨φ,rfl,c2,hk,β,Y⟩;rw[a',ix,hn.es] at c2;lia;intro ts q9 ρ a0 ω;have c0:=β.trans a0;have a8:=c0.get ψ;lia;refine dj a8 T.cA T.mQ (by show 1 < 1000;decide) rfl λh0 τ=>?_;have c4:=(!ae τ).hnd2 a8 (f5.same c0);have k6:=(!ae τ).tup a8 (c0.get e9);have d2:=(!ae τ).tup a8 ω;have G:=(!ae τ).rw a8 (hk.same a0);have i4:=τ.at';have m1:Kx x H h0:=k9.trans ((Kx.same c0).trans (!ae τ));have L:=c4.t;clear τ a8 c0 β a0 ω ρ hk Y c5 f5 m7 ψ e9 k9;lia;intro o0 f7;refine aI (xs:=qs.map λr=>V.ref r.1) (λi ys H'=>∃ο:eP Qs,ys=ο.map @bO/\ο.map (·.2)=(qs.take i).map (·.2)/\QsK H' ο/\Same h0 H'/\H' o0=aY @Y) ⟨[],rfl,rfl,λ_ h=>hE h @C,bo f7,aw⟩ (λi ys H' _ ⟨_,_,_,_,s',_⟩=>SqL.of (!Q L)) ?_ ?_
    ·rintro i y ys H' hy ⟨ο,rfl,f3,hk,s',eD⟩;obtain⟨r,θ,rfl⟩:=az hy;have l4:=(!K θ).1;have er:=s'.get (c4.tr r (eO θ));have n5:ο.length=i:=by have:=oe w3 f3;rw[a',a',qF] at this;omega
     lia;intro tr q8 ν a4 g4;have υ:tr≠o0:=λz=>(by rw[z,eD] at ν;cases ν);have k4:=a4.get eD;refine⟨k4,by rw[a'];exact aK @A,ο++[(tr,r.2)],by rw[eF];rfl,by rw[eF,f3,take_succ θ,eF];rfl,λr2 h2=>?_,λb ob e=>?_,aw⟩
     ·rcases gs.mp h2 with h2 | h2
      ·exact(hk.same a4).updL k4 (λb ob n e=>by rw[aD n];exact e) r2 h2
      ·rw[eR] at h2;subst h2;rw[aD υ];exact g4
     ·rw[aD (!L f7)];exact a4.get @ad
    ·rintro ys t3 ⟨ο,rfl,f3,n3,l7,n8⟩;rw[a',ix,hn.et] at f3;lia;intro tk q8 ν a4 g4;have π:=l7.trans a4;have a3:=π.get i4;lia;refine dj a3 T.cA T.d3 (by show 2 < 1000;decide) rfl λq7 ι=>?_;have j0:=(!ae ι).hnd2 a3 (c4.same π);have j4:=(!ae ι).tup a3 (π.get k6);have j3:=(!ae ι).tup a3 (π.get d2);have h4:=(!ae ι).rw a3 (G.same π);have j1:=(!ae ι).tup a3 g4;have h5:=(!ae ι).qs a3 (n3.same a4);have i3:=ι.at';have m0:Kx x H q7:=m1.trans ((Kx.same π).trans (!ae ι));have n4:=j0.o;clear ι a3 π l7 a4 g4 ν n3 n8 f7 c4 L i4 d2 k6 m1 G;lia;intro to t2 ε a5 n9;have f1:=a5.get i3;lia;refine dj f1 T.cA T.uw (by show 3 < 1000;decide) rfl fun γ Z=>?_;have f0:Kpt γ ti ts tk to φ ο N:=(!ae Z).kpt f1 ⟨a5.get j4,a5.get j3,h4.same a5,c2,a5.get j1,h5.same a5,f3,n9⟩;have c1:=Z.at';have l8:Kx x H γ:=m0.trans ((Kx.same a5).trans (!ae Z));clear Z f1 a5 n9 ε i3 m0 j4 j3 h4 j1 h5 n4 j0;lia;refine !aP c1 T.sJ;lia;refine !aP c1 T.mQ;lia;refine !aP c1 T.d3;lia;refine⟨ti,ts,tk,to,φ,ο,N,rfl,f0,g,λdb η ws q3 χ wi=>?_⟩;have a7:=χ.get c1;lia;refine dj a7 T.cA T.iJ (by show 4 < 1000;decide) rfl λq6 e1=>?_;have n6:db≠x:=cy wi.d a7 λz=>by cases z
     have m3:∀q∈ws,q.2≠x:=λq hq z=>by
      obtain⟨C,s0,fs,e,_⟩:=(wi.ob q hq).name;rw[z,a7] at e;injection e with e
      injection e with _ _ e
      injection e with e _
      injection e with e _
      exact hE e @D
     have h3:=(!ae e1).wia wi n6 m3 a7;have e7:=(!ae e1).kpt a7 (f0.same χ);have a6:=e1.at';have q0:Kx x H q6:=l8.trans ((Kx.same χ).trans (!ae e1));clear e1 wi f0 c1 a7 χ l8 q3;lia;refine !aP a6 T.mQ;lia;refine !aP a6 T.d3;lia;refine !aP a6 T.uw;lia;refine !aP a6 T.iJ;lia;refine⟨ti,ts,tk,to,db,φ,ο,N,rfl,e7,g,h3.knw,λt1 l0=>?_⟩;have m2:=l0.get a6;have h6:=e7.same l0;lia;refine !aP m2 T.mQ;lia;refine⟨ts,φ,N,rfl,h6.s,h6.sr,c2,g,λDo s9 od r5 p0 r7 tp=>?_⟩;lia;intro tq s5 r4 o3 q4;have b3:=l0.trans (p0.trans o3);have c3:=b3.get a6;lia;refine dj c3 T.cA T.ph (by show 5 < 1000;decide) rfl λq5 e0=>?_;lia;exact q q5 od (q0.trans ((Kx.same b3).trans (!ae e0))) ⟨⟨dx,ti,ts,tk,to,db,tq,φ,ο,ws,e0.at',(!ae e0).kpt c3 (e7.same b3),(!ae e0).wia (h3.same b3) n6 m3 c3,(!ae e0).tup c3 q4⟩,g,tp⟩
theorem iG (T:@I):!G 5 a.cf a.mG @cy (To a.cP a.bj a.aX a.aC):=
 (oi T).imp λ_ _ _ _ ⟨x,dx,i,s,t,o,rs,qs,N,e,G,hn,g,q⟩=>⟨x,dx,i,s,t,o,rs,qs,N,e,G,hn.two,g,q⟩
noncomputable abbrev NAof (a:Ad):NP:=λH p N od=>NetA H a.cP a.bj a.aX a.aC p N od
theorem dm (T:@I):!G 1 a.cJ a.qU @aa (Hj @ai):=by
 refine T.bT.1.okA wM λL A outer s H vs Q E α h=>?_;obtain⟨p,N,od,rfl,na,q⟩:=h;obtain⟨dx,i,s,t,o,d,Z,rs,qs,ws,G,kp,Y,eq⟩:=na.ho;have hi:=kp.i;refine⟨_,(!ag (!b5 rfl @F T.iH qE @aB)),@aH⟩;lia;refine !aP G T.sJ;lia;exact q
theorem eW (T:@I):!G 1 a.cu a.pK @aa (QY @ai):=by
 refine T.cw.1.okA vq λL A outer s H vs Q E α h=>?_;obtain⟨p,N,od,rfl,na,q⟩:=h;obtain⟨dx,i,s,t,o,d,Z,rs,qs,ws,G,kp,Y,eq⟩:=na.ho;have ho:=kp.o;refine⟨_,(!ag (!b5 rfl @F T.iH qE @aB)),@aH⟩;lia;refine !aP G T.uw;lia;exact q
theorem d0 (T:@I):!G 1 a.b4 a.oy @aa (JZ @ai):=by
 refine T.b9.1.okA tY fun α A outer s H vs Q E δ h=>?_;obtain⟨p,N,od,rfl,na,q⟩:=h;obtain⟨dx,i,s,t,o,d,γ,rs,qs,ws,L,kp,β,eq⟩:=na.ho;have ht:=kp.t;refine⟨_,(!ag (!b5 rfl @F T.iH qE @aB)),@aH⟩;lia;refine !aP L T.d3;lia;intro D H2 Y G Z;exact q D H2 qs Y G Z (fun ε m=>G.get (kp.tr ε m)) kp.et
theorem dM (T:@I):!G 3 a.cX a.tD @c8 (JW @ai a.bj a.aX a.aC):=by
 refine T.cv.1.okA yL fun η A outer s H vs Q E α h=>?_;obtain⟨p,N,od,z,rfl,na,hz,q⟩:=h;have δ:=rL α;obtain⟨dx,i,s,t,o,d,θ,rs,qs,ws,β,kp,L,eq⟩:=na.ho;have g:=na.g
 refine⟨_,((af (bH (!aa (j7 T) α T.l6 T.gi 1 @Z))
  (!Y (o7 δ @Z @K @bE)))),!b1 ?_⟩
 lia;refine !aP β T.iJ;lia;refine⟨z,d,N.names,rfl,L.knw,hz,g.nm z hz,λH2 Y=>?_⟩;have G:=L.same Y;lia;refine !aP (Y.get β) T.iJ;lia
 have γ:∀ws:Tn,z∈ws.map (·.1)->∃q∈ws,q.1=z/\valV (ws.map λq=>((xY q.1:Key),V.ref q.2)) (xY z)=aY (!j q.2):=by
  intro ws
  induction ws with
  | nil=>intro h;cases h
  | cons q l ih=>
    intro h;by_cases e:q.1=z
    ·exact⟨q,mu ..,e,nh (oe xY e)⟩
    ·rw[W'] at h;obtain⟨ε,m,ζ,v⟩:=ih ((x8.mp h).resolve_left λh2=>e h2.symm);refine⟨ε,ov _ m,ζ,?_⟩;rw[W',nj λh2=>e (Zy h2)];exact v
 obtain⟨ε,m,e,v⟩:=γ ws (by rw[L.nm];exact hz);refine uc G.d v ?_;have Z:=G.ob ε m;rw[e] at Z;lia;exact q ε.2 H2 Y Z
theorem jU (T:@I):!G 1 a.bz a.lG @aa (Q4 @ai):=by
 refine T.cC.1.okA qt λa0 A outer s H vs Q E hr h=>?_;obtain⟨p,N,od,rfl,na,q⟩:=h;obtain⟨dx,i,s,t,o,d,tq,rs,qs,ws,θ,kp,wi,eq⟩:=na.ho;have g:=na.g;have ρ:=AX g na.tp;have hi:=kp.i;have ht:=kp.t;have τ:qs.length=N.sts.length:=by rw[<-kp.et,a']
 have δ:=ρ;unfold need at δ;rw[fy,fy,a'] at δ;refine⟨_,(!ag (!ab jw jw (!b5 rfl @F T.iH qE @aB) (bL (osc:=ag d9) (ON:=["self"]) (N:=n10) (n:=1) (fx:=[]) rfl rfl rfl @L (!bk @Z) @O (!bp rfl @E @a8)) (!b5 rfl @F T.iH qE @aB))),@aH⟩;lia;refine !aP θ T.sJ;lia;intro D2 H2 f2 ζ e2;have η:=ζ.get ht;lia;refine !aP (ζ.get θ) T.d3;lia;intro D3 ε;refine qg (xs:=qs.map λr=>V.ref r.1) (λi ys H'=>Cs (!aO ((qs.take i).map (·.2.1))) H2 D3 i ys H') (!a3 ε) (!c7 η) (λi x ys H' υ c=>?_) @cp
 ·obtain⟨r,Z,rfl⟩:=az υ;have φ:=(!K Z).1;have er:=c.same.get (ζ.get (kp.tr r (eO Z)));lia;refine Cs.put ε c.same c.at' c.len @A ?_;rw[c.pv,take_succ Z,eF,eF];rfl
 ·have Y:=c.at';rw[c.pv,a',ix] at Y;have α:=c.same;clear c;refine oX (α.get e2) Y (by rw[a',a',a',lj];omega) λL H4 f4 ξ ο=>?_;have G:=ζ.trans (α.trans ξ);have ψ:=G.get eq;lia;refine !aP (G.get θ) T.ph;lia;intro D5 H5 f5 ι χ;refine oX (ι.get ο) χ (by rw[fy,a',a',a',a',lj];omega) λD6 H6 γ ν π=>?_;have ω:N.ins++qs.map (·.2.1)++od=need N od:=by unfold need;rw[<-kp.et,tu];rfl
  rw[<-eF,<-eF,ω] at π;have β:=G.trans ι;exact q D6 H6 (β.free γ) (β.trans ν) π
theorem i5 (T:@I):!G 1 a.b0 a.ox @aa (JV @ai):=by
 refine T.cT.1.okA tX fun β A outer s H vs Q E δ h=>?_;obtain⟨p,N,od,rfl,na,q⟩:=h;obtain⟨dx,i,s,t,o,d,γ,rs,qs,ws,Y,kp,G,eq⟩:=na.ho;have hd:=G.d;refine⟨_,(!ag (bc (IZ rfl) @F T.iH qE @aB)),@aH⟩;lia;refine !aP Y T.iJ;lia;intro D H2 Z L α;refine q D H2 Z L ?_;rw[α,<-G.nm];unfold CO;rw[tu,tu];rfl
theorem kM (T:@I):!G 1 a.cI a.qT @aa (QU @ai):=by
 refine T.dS.1.okA wL fun α A outer s H vs Q E δ h=>?_;obtain⟨p,N,od,rfl,na,q⟩:=h;obtain⟨dx,i,s,t,o,d,γ,rs,qs,ws,L,kp,β,eq⟩:=na.ho;have hs:=kp.s;refine⟨_,(!ag (!b5 rfl @F T.iH qE @aB)),@aH⟩;lia;refine !aP L T.mQ;lia;intro D H2 Y G Z;exact q D H2 rs Y G Z (RwK.same kp.sr G) kp.es
theorem E4 (T:@I):!G 2 a.gH a.Ae @aa (NT @ai):=by
 refine T.nc.1.okA EI λa0 A outer s H vs Q E δ h=>?_;obtain⟨p,N,od,rfl,na,q⟩:=h;obtain⟨dx,i,s,t,o,d,tq,rs,qs,ws,ζ,kp,wi,eq⟩:=na.ho;refine⟨_,((!aT (aa (!az T.dO (dm T) @c1 T.bT.2) (aa (!az T.mE (kM T) @c1 T.dS.2) (!Z (!az T.ff (d0 T) @c1 T.b9.2) (!az T.fQ (eW T) @c1 T.cw.2)))))),@aH⟩;lia;refine !M ζ;lia;refine⟨p,N,od,rfl,na,λD1 H1 ω γ e1=>?_⟩;lia;refine !M (γ.get ζ);lia;refine⟨p,N,od,rfl,!ao γ,λD2 H2 η φ π e2 rk es=>?_⟩;have α:=γ.trans π;lia;refine !M (α.get ζ);lia;refine⟨p,N,od,rfl,!ao α,λD3 H3 θ ψ ξ Y ο et=>?_⟩;have G:=α.trans ξ;lia;refine !M (G.get ζ);lia;refine⟨p,N,od,rfl,!ao G,λL H4 υ ν e4=>?_⟩;lia;intro ρ H5 τ ι χ;have Z:=ν.trans ι;have β:=ξ.trans Z;exact q ρ D1 D2 D3 L H5 η θ ω (γ.free φ) (α.free ψ) (G.free υ) (G.free (ν.free τ)) (G.trans Z) ⟨χ,β.get (π.get e1),β.get e2,rk.same β,es,Z.get Y,fun ε m=>Z.get (ο ε m),et,ι.get e4⟩
theorem EX (T:@I):!G 2 a.i9 a.zY ["net"] (QW @ai):=by
 refine T.qm.1.okA wF λk8 A outer s H vs Q E hr h=>?_;obtain⟨p,N,od,rfl,na,q⟩:=h;obtain⟨dx,i,s,t,o,d,tq,rs,qs,ws,hp,kp,wi,eq⟩:=na.ho;have g:=na.g;have li:=g.li;have ls:=g.ls;have lt:=g.lt;have lo:=g.lo;have fm:=Gk g;have k6:=B2 g
 refine⟨_,((af (bP (osc:=ag ib) (ON:=n14) (N:=["name"]) (n:=1) (fx:=[]) (i:=1) wF.nd rfl rfl rfl rfl rfl rfl @L (!W (!az T.dO (dm T) @a4 T.bT.2)) @O (!U (aq (i:=0) (show hM (["name"]:B') from by decide +kernel) rfl @E) (cU (aa bE @a6))))
  (af (!aL rfl qq X3 X2 jx @K (!N (bL (osc:=ag ib) (ON:=n14) (N:=n10) (n:=1) (fx:=[]) rfl rfl rfl @L (!W (!az T.mE (kM T) @a4 T.dS.2)) @O (!bp rfl @E (ay jw (cU (aa bE (!Z @a8 bE))) (!b5 rfl @F T.iH qE (!N @a8)))))))
  (af (!aL rfl qq X3 X2 jx @K (!N (bL (osc:=ag ib) (ON:=n14) (N:=n10) (n:=1) (fx:=[]) rfl rfl rfl @L (!W (!az T.ff (d0 T) @a4 T.b9.2)) @O (!bp rfl @E (cU (aa bE (aa @a8 (!Z bE @a8))))))))
  (af (!aL rfl qq X3 X2 jx @K (!N (bL (osc:=ag ib) (ON:=n14) (N:=["wire"]) (n:=1) (fx:=[]) rfl rfl rfl @L (!W (!az T.fQ (eW T) @a4 T.cw.2)) @O (!U (aq (i:=0) (show hM (["wire"]:B') from by decide +kernel) rfl @E) (cU (aa bE @a6))))))
  (!Y (eV (K:=K) rfl XZ aj7 aj6 (GF (K:=K) rfl) bE (!N (bL (osc:=ag ib) (ON:=n14) (N:=n11) (n:=1) (fx:=[]) rfl rfl rfl @L @bm @O (!U (aq (i:=0) (show hM (n11:B') from by decide +kernel) rfl @E) (eV (K:=K) rfl XZ aj7 aj6 (GF (K:=K) rfl) bE @a6))))))))))),au (σ':=[aY _,gg]) rfl ?_⟩
 lia;refine !M hp;lia;refine⟨p,N,od,rfl,na,λD1 H1 f1 s1 e1=>?_⟩;lia;intro D2 ξ;refine aI (xs:=N.ins.map V.str) (λi ys H'=>Same H1 H'/\H' D2=aY @Y/\Lrw H1 H' D2 ys ((N.ins.take i).map λz=>[("in":kv),z])) ⟨bo ξ,aw,Lrw.nil⟩ (λi ys H' _ ⟨s',_⟩=>SqL.of (!Q e1)) ?_ ?_
 ·rintro i y ys H' φ ⟨s',υ,lr⟩;obtain⟨z,hz,rfl⟩:=az φ;have a3:=(@aX).1;lia;intro D3 H3 f3 s3 e3;have α:=lr.len;rw[a',qF] at α;refine⟨s3.get υ,aK @A,λb ob e=>?_,aw,?_⟩
  ·rw[aD (!L ξ)];exact s3.get @ad
  ·rw[take_succ hz,eF];exact lr.put (s'.free f3) υ f3 s3 e3
 ·rintro ys H2 ⟨s2,e2,ζ⟩;rw[a',ix] at ζ;have d2:=s1.trans s2;have l2:=ζ.len;rw[a'] at l2;lia;refine !M (d2.get hp);lia;refine⟨p,N,od,rfl,!ao d2,λD3 H3 f0 f3 s3 e3 rk es=>?_⟩;have i3:f0.length=N.sums.length:=by rw[<-es,a']
  lia;intro L g3;refine aI (xs:=f0.map λr=>V.ref r.1) (λi ys H'=>Same H3 H'/\H' L=aY @Y/\Lrw H3 H' L ys ((N.sums.take i).map λr=>("sum":kv)::r.1::("=":kv)::r.2)) ⟨bo g3,aw,Lrw.nil⟩ (λi ys H' _ ⟨s',_⟩=>SqL.of (!Q e3)) ?_ ?_
  ·rintro i y ys H' φ ⟨s',υ,lr⟩;obtain⟨r,Z,rfl⟩:=az φ;have a3:=(!K Z).1;obtain⟨k4,j3⟩:=rk r (eO Z);have b6:=s'.get k4;have a0:N.sums[i]? =aY r.2.2:=by rw[<-es,hB,Z];rfl
   have k7:=g.lw _ (eO a0);lia;intro D5 H5 f5 s5 e5;have j4:=s5.get b6;have j1:=s5.get (!Q j3);lia;intro D6 H6 f6 s6 π;refine oX (!aQ e5) π (by rw[a',lj];simp;omega) λD7 H7 f7 s7 e7=>?_;have η:=s5.trans (s6.trans s7);have α:=lr.len;rw[a',qF] at α;have g4:H' D7=none:=s5.free (s6.free f7);refine⟨η.get υ,aK @A,λb ob e=>?_,aw,?_⟩
   ·rw[aD (!L g3)];exact η.get @ad
   ·rw[take_succ a0,eF];exact lr.put (s'.free g4) υ g4 η e7
  ·rintro c3 H4 ⟨s4,e4,γ⟩;rw[a',i3,ix] at γ;have l4:=γ.len;rw[a'] at l4;have c0:=s3.trans s4;have a5:Lrw H2 H4 L c3 _:=γ.base s3;lia;refine jZ (c0.get e2) e4 (by rw[lj];omega) λH5 u5=>?_;have ι:=ζ.join e2 s2 c0 a5 u5;have c1:Same H1 H5:=λb ob e=>u5.oth _ _ (!L ξ) (c0.get (s2.get e));have ψ:=s1.trans c1;have l5:=ι.len;clear ζ γ a5 e4 e3 rk es f3;have e5:=u5.at';lia;refine !M (ψ.get hp);lia;refine⟨p,N,od,rfl,!ao ψ,λD6 H6 f2 f6 s6 π ο et=>?_⟩;have i4:f2.length=N.sts.length:=by rw[<-et,a']
   lia;intro D7 g0;refine aI (xs:=f2.map λr=>V.ref r.1) (λi ys H'=>Same H6 H'/\H' D7=aY @Y/\Lrw H6 H' D7 ys ((N.sts.take i).map λr=>[("store":kv),r.1,("=":kv),r.2])) ⟨bo g0,aw,Lrw.nil⟩ (λi ys H' _ ⟨s',_⟩=>SqL.of (!Q π)) ?_ ?_
   ·rintro i y ys H' φ ⟨s',υ,lr⟩;obtain⟨r,Z,rfl⟩:=az φ;have a3:=(!K Z).1;have b6:=s'.get (ο r (eO Z));have a0:N.sts[i]? =aY r.2:=by rw[<-et,hB,Z];rfl
    lia;intro D8 H8 f8 s8 e8;have α:=lr.len;rw[a',qF] at α;refine⟨s8.get υ,aK @A,λb ob e=>?_,aw,?_⟩
    ·rw[aD (!L g0)];exact s8.get @ad
    ·rw[take_succ a0,eF];exact lr.put (s'.free f8) υ f8 s8 e8
   ·rintro h5 H7 ⟨s7,e7,ε⟩;rw[a',i4,ix] at ε;have l7:=ε.len;rw[a'] at l7;have η:=s6.trans s7;simp only[fy,a'] at l5;lia;refine jZ (η.get e5) e7 (by rw[lj];simp only[fy];omega) λH8 u8=>?_;have θ:=ι.join e5 c1 η (ε.base s6) u8;have χ:Same H1 H8:=λb ob e=>u8.oth _ _ (!L ξ) (η.get (c1.get e));have d1:=s1.trans χ;have l8:=θ.len;clear ι ε e7 π ο et f6 e5;have e8:=u8.at';lia;refine !M (d1.get hp);lia;refine⟨p,N,od,rfl,!ao d1,λD9 H9 f9 s9 e9=>?_⟩;lia;intro h4 a8;refine aI (xs:=N.outs.map V.str) (λi ys H'=>Same H9 H'/\H' h4=aY @Y/\Lrw H9 H' h4 ys ((N.outs.take i).map λz=>[("out":kv),z])) ⟨bo a8,aw,Lrw.nil⟩ (λi ys H' _ ⟨s',_⟩=>SqL.of (!Q e9)) ?_ ?_
    ·rintro i y ys H' φ ⟨s',υ,lr⟩;obtain⟨z,hz,rfl⟩:=az φ;have a3:=(@aX).1;lia;intro l1 a4 ρ c2 ω;have α:=lr.len;rw[a',qF] at α;refine⟨c2.get υ,aK @A,λb ob e=>?_,aw,?_⟩
     ·rw[aD (!L a8)];exact c2.get @ad
     ·rw[take_succ hz,eF];exact lr.put (s'.free ρ) υ ρ c2 ω
    ·rintro c4 l0 ⟨h6,h3,ν⟩;rw[a',ix] at ν;have j0:=ν.len;rw[a'] at j0;have G:=s9.trans h6;simp only[fy,a'] at l8;lia;refine jZ (G.get e8) h3 (by rw[lj];simp only[fy];omega) λa4 δ=>?_;have a6:Lrw H1 a4 D2 _ (uf N):=θ.join e8 χ G (ν.base s9) δ;have c5:Same H1 a4:=λb ob e=>δ.oth _ _ (!L ξ) (G.get (χ.get e));have e0:=s1.trans c5;have ω:=δ.at';clear θ ν h3 e9 f9 e8 δ;generalize ys++c3++h5++c4=Y at a6 ω;obtain⟨ds,rfl,ld,_,_,hd⟩:=a6;lia;intro τ a7;refine !bY (λi ys H'=>Cs (!aO ((!aJ (uf N)).map rowT)) a4 τ i ys H') (!a3 a7) (!b0 ω) (λi y ys H' φ c=>?_) (λys k9 c=>?_)
     ·obtain⟨d,f4,rfl⟩:=az φ;have a3:=(!K f4).1;obtain⟨r,Z⟩:∃r,(uf N)[i]? =aY r:=⟨_,eH @A⟩;have hm:=eO Z;have er:=c.same.get (hd i d r f4 Z);have b1:=(fm r hm).len
      have β:∀(l:B'),(∀w∈l,w.length<=6)->(l.map (·.length)).sum<=l.length * 6:=λl=>by
       induction l with
       | nil=>intro _;simp
       | cons x l ih=>intro h;have:=ih λw hw=>h w (ov _ hw);have:=h x mu;simp only[W',au0,W3];omega
      have hs:=β r b1.2;lia;refine PR (!ad er) (by rw[Ao];show _ + r.length * 1<=_;omega) ?_;rw[F8,Ao];refine Cs.put a7 c.same c.at' c.len @A ?_;rw[c.pv,take_succ Z,eF,eF];rfl
     ·have h0:=c.at';rw[c.pv,a',ld,ix] at h0
      have β:∀(l:eP B'),(∀r∈l,Fm r)->((l.map rowT).map (·.length)).sum<=l.length * 189:=λl=>by
       induction l with
       | nil=>intro _;simp
       | cons x l ih=>
         intro h;have:=ih λw hw=>h w (ov _ hw);have b1:=(h x mu).len;have b2:=Az b1.2;have b3:x.length * 7<=27 * 7:=ab9 7 b1.1;simp only[W',au0,W3];omega
      have hs:=β (uf N) fm;lia;refine PR (!ad h0) (by rw[Ex,a'];show _ + (uf N).length * 1<=_;omega) ?_;rw[F8,Ex];exact q _ (e0.trans c.same)
section
local macro_rules | `(tactic| walk_at "l2step") =>`(tactic| first | (with_reducible refine TY ?_))
theorem uj (T:@I):!G 1 a.lg a.Dh ["wires","wire","fresh"] Hg:=by
 refine T.mZ.1.okA Ho fun α A outer s H vs Q E β h=>?_;obtain⟨l,zs,θ,f,rfl,hl,ln,q⟩:=h
 have L:∀{D:ee} {i:Nat} {z:kv} {ys:eP V} {H':Hp} (G:H D=gg),zs[i]? =aY z->Cs (!aO ((zs.take i).map (sbw θ f))) H D i ys H'->H' D=aY @Y/\ys.length < ic/\Cs (!aO ((zs.take i).map (sbw θ f))) H D @H (ys++[.str (sbw θ f z)]) (!X H' (ys++[.str (sbw θ f z)])):=λ{D i z ys H'} G hz c=>by
  have hi:=(@aX).1;refine Cs.put G c.same c.at' c.len @A ?_;rw[c.pv,take_succ hz,eF,eF];rfl
 refine⟨_,(!ag (bL (osc:=ag r6) (ON:=["wires","wire","fresh"]) (N:=["other","wire","fresh"]) (n:=1) (fx:=[1,2]) rfl rfl rfl @L (RH (K:=K) rfl @G) @O (!U (aq (i:=0) (show hM (["other","wire","fresh"]:B') from by decide +kernel) rfl @E) (Gu (!O lN @G @K) @Q @G)))),@b4⟩;lia;rcases hl with hl | hl
 ·refine !E ⟨⟨_,SqL.of hl⟩,λD G=>?_⟩;refine aI (xs:=zs.map V.str) (!bH (!aO ((zs.take i).map (sbw θ f)))) (!a3 G) (!b0 hl) (λi v ys H' Z c=>?_) @bh
  ·obtain⟨z,hz,rfl⟩:=az Z;have t':=L G hz c;lia;unfold sbw at t';by_cases π:z=θ
   ·rw[lx π] at t';refine oV (gB (by rw[π])) ?_;lia;exact t'
   ·rw[kf π] at t';refine jv (f' λe=>π @bQ) ?_;lia;exact t'
  ·have Y:=c.at';rw[c.pv,a',ix] at Y;exact q D H' G c.same Y
 ·refine !I ⟨⟨_,SqT.of hl⟩,λD G=>?_⟩;refine qg (xs:=zs.map V.str) (!bH (!aO ((zs.take i).map (sbw θ f)))) (!a3 G) (!c7 hl) (λi v ys H' Z c=>?_) @bh
  ·obtain⟨z,hz,rfl⟩:=az Z;have t':=L G hz c;lia;unfold sbw at t';by_cases π:z=θ
   ·rw[lx π] at t';refine oV (gB (by rw[π])) ?_;lia;exact t'
   ·rw[kf π] at t';refine jv (f' λe=>π @bQ) ?_;lia;exact t'
  ·have Y:=c.at';rw[c.pv,a',ix] at Y;exact q D H' G c.same Y
theorem P6 (T:@I):!G 7 a.FF a.Vx ["net","wire","fresh"] (Od @ai):=by
 refine T.M9.1.okA Ki λm2 A outer s H vs Q E hr h=>?_;obtain⟨p,N,od,w1,z,rfl,na,hw,nz,hz,hm,q⟩:=h;have hu:=rL hr;obtain⟨dx,i,s,t,o,d,tq,rs,qs,ws,hp,kp,wi,eq⟩:=na.ho;have g:=na.g;have li:=g.li;have ls:=g.ls;have lt:=g.lt;have lo:=g.lo;have lz:=nz.len;have hn:UV @aj=true:=nz
 refine⟨_,((af (bH (fE @G T.cA T.eh (dM T) @a4 T.cv.2 .nil bC @al))
  (af (!al (!aM (aj (kl T) hr T.mU T.iN @a5)) iF)
  (af (!al (aQ (P5 (K:=K) rfl) @Q (!az T.jT (i5 T) @a4 T.cT.2) @F) iF)
  (af (bP (osc:=ag s_cut) (ON:=["net","wire","fresh","sums","stores"]) (N:=n18) (n:=1) (fx:=[1,2]) (i:=3) Ki.nd rfl rfl rfl rfl rfl rfl @L (!W (!az T.mE (kM T) @a4 T.dS.2)) @O (!U (aq (i:=0) (show hM (n18:B') from by decide +kernel) rfl @E) (c6 (!Z @a8 (aj (uj T) hr T.x9 T.mZ (aa @a8 (!a9 1 2)))))))
  (af (!aL rfl qq z0 y' fc @T (!N (c6 (!aS 2 @ay))))
  (af (bP (osc:=ag s_cut) (ON:=["net","wire","fresh","sums","stores"]) (N:=n18) (n:=1) (fx:=[1,2]) (i:=4) Ki.nd rfl rfl rfl rfl rfl rfl @L (!W (!az T.ff (d0 T) @a4 T.b9.2)) @O (!U (aq (i:=0) (show hM (n18:B') from by decide +kernel) rfl @E) (c6 (!Z @a8 (!a2 (aj (uj T) hr T.x9 T.mZ (aa (cU (!N @a8)) (!a9 1 2))) ah)))))
  (!Y (iZ T.M6 (iG T) @a4 @F T.L6 T.c9.2 .nil bC (aa (!az T.dO (dm T) @a4 T.bT.2) (!ar 3 4 (!N (aj (uj T) hr T.x9 T.mZ (aa (!az T.fQ (eW T) @a4 T.cw.2) (!a9 1 2))))))))))))))),!ce rfl⟩
 lia;refine !M hp;lia;refine⟨p,N,od,w1,rfl,na,hw,λwa H1 s1 wb=>?_⟩;clear wb;lia;refine⟨@aj,"str",rfl,rfl,λy e=>by cases e;omega,λH2 s2=>?_⟩;have c5:=s1.trans s2;rw[hn];lia;refine !M (c5.get hp);lia;refine⟨p,N,od,rfl,!ao c5,λDn H3 ψ s3 e3=>?_⟩;have c4:=c5.trans s3;lia;refine⟨Dn,_,rfl,!E (!ad e3),rfl,by rw[Xn];intro x hx;obtain⟨y,_,rfl⟩:=hC.mp hx;rfl,?_⟩;refine⟨_,rfl,?_⟩
 have f8:(if false=true then !inV (V.str z) @aS else inV (V.str z) @aS)=false:=by
  rw[<-ag0];exactλh=>hz (xZ.mp h)
 dsimp only;rw[kf (by rw[f8];decide)];clear f8;lia;refine !M (c4.get hp);lia;refine⟨p,N,od,rfl,!ao c4,λD4 H4 η f4 s4 e4 ν d1=>?_⟩;have i3:=c4.trans s4;have l5:η.length=N.sums.length:=by rw[<-d1,a']
 lia;intro D5 δ;refine aI (xs:=η.map λr=>V.ref r.1) (λi ys H'=>∃φ:eP Rw,ys=φ.map @bO/\φ.map (·.2.2)=(η.take i).map (λr=>(r.2.2.1,r.2.2.2.map (sbw w1 z)))/\RwLs H' φ/\(∀r∈φ,r.2.1≠D5)/\Same H4 H'/\H' D5=aY @Y) ⟨[],rfl,rfl,λ_ h=>hE h @C,λ_ h=>hE h @C,bo δ,aw⟩ (λi ys H' _ ⟨_,_,_,_,_,s',_⟩=>SqL.of (!Q e4)) ?_ ?_
 ·rintro j y ys H' hy ⟨φ,rfl,ι,rl,rd,s',eD⟩;obtain⟨r,χ,rfl⟩:=az hy;have j3:=(!K χ).1;have hm:=eO χ;have er:=s'.get (ν r hm).1;have ew:=s'.get (ν r hm).2;have l8:=g.lw r.2.2 (by rw[<-d1];exact hC.mpr ⟨r,hm,rfl⟩);have f2:φ.length=j:=by have:=oe w3 ι;rw[a',a',qF] at this;omega
  lia;refine⟨r.2.1,r.2.2.2,w1,z,rfl,!I ew,@A,λB1 H6 γ s6 e6=>?_⟩;lia;intro tr H7 f7 s7 e7;have nB:B1≠D5:=λzz=>by rw[zz,eD] at γ;cases γ
  have Z:=s7.get (!aQ eD);refine⟨Z,by rw[a'];exact aK @A,φ++[(tr,B1,r.2.2.1,r.2.2.2.map (sbw w1 z))],by rw[eF];rfl,by rw[eF,ι,take_succ χ,eF];rfl,λr2 h2=>?_,λr2 h2=>?_,λb ob e=>?_,aw⟩
  ·rcases gs.mp h2 with h | h
   ·have t1:=s7.get (s6.get (rl r2 h).1);have t2:=s7.get (s6.get (rl r2 h).2);exact⟨by rw[aD (cy t1 Z λz=>by cases z)];exact t1,by rw[aD (rd r2 h)];exact t2⟩
   ·rw[eR] at h;subst h;exact⟨by rw[aD (cy e7 Z λz=>by cases z)];exact e7,by rw[aD nB];exact s7.get e6⟩
  ·rcases gs.mp h2 with h | h
   ·exact rd r2 h
   ·rw[eR] at h;subst h;exact nB
  ·rw[aD (!L δ)];exact s7.get (!aQ @ad)
 rintro ys H5 ⟨φ,rfl,ι,rl,rd,e0,eD⟩;rw[a',ix] at ι;have l4:φ.length=η.length:=by have:=oe w3 ι;rw[a',a'] at this;exact this
 lia;intro B6 H6 γ s6 e6;lia;intro t7 H7 f7 s7 e7;have a4:=s6.trans s7;have Z:=a4.get eD;have nB:B6≠D5:=λzz=>by rw[zz,eD] at γ;cases γ
 lia;refine gY Z (by rw[a'];exact aK @A) λH8 u8=>?_;have h5:Same H4 H8:=λb ob e=>u8.oth _ _ (!L δ) (a4.get (e0.get e));have c3:=i3.trans h5;obtain⟨υ,a3⟩:∃υ:eP Rw,υ=φ++[(t7,B6,z,[])]:=⟨_,rfl⟩;have e8:H8 D5=aY (!A (υ.map λr=>V.ref r.1)):=by rw[u8.at',a3,eF];rfl
 have e2:RwLs H8 υ:=λr e5=>by
  rw[a3] at e5;rcases gs.mp e5 with h | h
  ·have t1:=a4.get (rl r h).1;exact⟨u8.oth _ _ (cy t1 Z λz=>by cases z) t1,u8.oth _ _ (rd r h) (a4.get (rl r h).2)⟩
  ·rw[eR] at h;subst h;exact⟨u8.oth _ _ (cy e7 Z λz=>by cases z) e7,u8.oth _ _ nB (s7.get e6)⟩
 have k4:υ.map (·.2.2)=(!aY w1 z).sums:=by
  unfold cutN;rw[a3,eF,ι,<-d1,tu];rfl
 clear u8 e7 e6 γ f7 Z eD rl rd a4 s6 s7 e0 nB e4 ν ι a3;lia;refine !M (c3.get hp);lia;refine⟨p,N,od,rfl,!ao c3,λD9 H9 ξ f9 s9 e9 L g4=>?_⟩;have h6:=c3.trans s9;have l7:ξ.length=N.sts.length:=by rw[<-g4,a']
 lia;intro A7 g0;refine aI (xs:=ξ.map λr=>V.ref r.1) (λi ys H'=>∃ο:eP Qs,ys=ο.map @bO/\ο.map (·.2)=(ξ.take i).map (λr=>(r.2.1,sbw w1 z r.2.2))/\QsK H' ο/\Same H9 H'/\H' A7=aY @Y) ⟨[],rfl,rfl,λ_ h=>hE h @C,bo g0,aw⟩ (λi ys H' _ ⟨_,_,_,_,s',_⟩=>SqL.of (!Q e9)) ?_ ?_
 ·rintro j y ys H' hy ⟨ο,rfl,b6,j4,s',eD⟩;obtain⟨r,χ,rfl⟩:=az hy;have j3:=(!K χ).1;have hm:=eO χ;have er:=s'.get (L r hm);have f2:ο.length=j:=by have:=oe w3 b6;rw[a',a',qF] at this;omega
  lia;intro B8 l2 m1 β k8;lia;refine⟨B8,[r.2.2],w1,z,rfl,!E k8,by show 1<=1000;omega,λB9 Y ρ a7 c0=>?_⟩;have c0:Y B9=aY (!A [.str (sbw w1 z r.2.2)]):=c0;lia;intro tr l1 π a6 d2;have θ:=β.trans (a7.trans a6);have ζ:=θ.get eD;have i4:tr≠A7:=λzz=>(by rw[zz,a7.get (β.get eD)] at π;cases π);refine⟨ζ,by rw[a'];exact aK @A,ο++[(tr,r.2.1,sbw w1 z r.2.2)],by rw[eF];rfl,by rw[eF,b6,take_succ χ,eF];rfl,λr2 h2=>?_,λb ob e=>?_,aw⟩
  ·rcases gs.mp h2 with h2 | h2
   ·have f0:=θ.get (j4 r2 h2);rw[aD (cy f0 ζ λz=>by cases z)];exact f0
   ·rw[eR] at h2;subst h2;rw[aD i4];exact d2
  ·rw[aD (!L g0)];exact θ.get @ad
 rintro ys l2 ⟨ο,rfl,b6,f5,β,h0⟩;rw[a',ix] at b6;have b3:=h6.trans β;have G:=s9.trans β;lia;refine !M (b3.get hp);lia;refine⟨p,N,od,rfl,!ao b3,λh4 Y ρ a7 c0=>?_⟩;have a8:=b3.trans a7;lia;refine !M (a8.get hp);lia;refine⟨p,N,od,rfl,!ao a8,fun τ l1 π a6 d2=>?_⟩;have e1:=a8.trans a6;lia;refine⟨τ,N.outs,w1,z,rfl,!E d2,@A,λh3 m3 m0 c1 k7=>?_⟩;have a0:=e1.trans c1;have c2:=a7.trans (a6.trans c1);lia;intro x dx l0 g3 a5 k6;have l3:=a0.trans a5;have ω:=c2.trans a5;have f1:Hnd l0 h4 D5 A7 h3 υ ο (!aY w1 z):=⟨a5.get (c1.get (a6.get c0)),ω.get (G.get e8),λr m=>⟨ω.get (G.get (e2 r m).1),ω.get (G.get (e2 r m).2)⟩,k4,ω.get h0,fun ε m=>ω.get (f5 ε m),by unfold cutN;rw[b6,<-g4,tu];rfl,a5.get k7⟩;refine⟨x,dx,h4,D5,A7,h3,υ,ο,!aY w1 z,rfl,k6,f1,GU g hm nz hz,λk9 α j1 j0=>⟨rfl,?_⟩⟩;exact q x k9 α (a0.free g3) (λb ob e=>j1 _ _ (ao (a0.get e) g3) (a5.get (a0.get e))) j0
end
theorem HV (T:@I):!G 3 a.lD a.Dy @d0 NS:=by
 have G:FnOk P w K mg base CX0 2 a.jy a.yn ["thing","width"] (Ep K):=p5 T;refine T.tP.1.okA Hr fun α A outer s H vs Q E L h=>?_;obtain⟨t,x,y,n,m,rfl,ht,Z,Y,q⟩:=h
 refine⟨_,((af (!aX (!bo (!aM (aP @cb @F T.il Xi (!aS 0 (uh (v:= .ty "tuple") @F T.mD WQ rfl)))) (qJ (!O yQ (!a5 @a6) ah))) yP bg)
  (!Y (si (aj G L T.pC T.jC (aa @a8 @al)) (uV (aj G L T.pC T.jC (aa @a8 @a5))))))),@b4⟩
 lia;refine oV (cV Z) ?_;lia;rw[cV Y];exact q
theorem yS (T:@I):!G 4 a.eG a.sX ["inputs","nexts","outs"] Q9:=by
 have L:FnOk P w K mg base CX0 1 a.gF a.qf ["thing"] (vZ K):=rD T;refine T.j9.1.okA yJ fun θ A outer s H vs Q E β h=>?_;obtain⟨n,o,m,nx,os,rfl,t,q⟩:=h
 refine⟨_,((af (!al (!bo (!aM (aj L β T.uO T.ko @a6)) (rA (!O Ck @G ah) (qJ (!O vt @G (!c2 T.Bm @ba))))) (nJ Xa T.ia thr0 rfl @F T.qe @bp))
  (af (!al (!bo (!aM (aP @cb @F T.il Xi (!aS 1 (uh (v:= .ty "list") @F T.iH qE rfl)))) (qJ (!O vt (!a5 @al) (kK (v:= .int 120) @F T.oH @ba)))) (nJ Xa T.ia thr0 rfl @F T.qe @bp))
  (af (!al (!bo (!aM (aP @cb @F T.il Xi (!aS 2 (uh (v:= .ty "list") @F T.iH qE rfl)))) (qJ (!O vt (!a5 @a5) (!c2 T.qD @ba)))) (nJ Xa T.ia thr0 rfl @F T.qe @bp))
  (ai (!al (!aM (aP (yw (K:=K) rfl rfl) @F T.RV ZN (!N (bL (osc:=ag j2) (ON:=["inputs","nexts","outs"]) (N:=["pair","nexts","inputs"]) (n:=1) (fx:=[1,0]) rfl rfl rfl @L (!W (ay jw @K @Q)) @O (!U (aq (i:=0) (show hM (["pair","nexts","inputs"]:B') from by decide +kernel) rfl @E) (aj (HV T) β T.L0 T.tP (!bj 0 (aa (!a5 @al) @a5)))))))) (nJ Xa T.ia thr0 rfl @F T.qe @bp))))))),@b4⟩
 lia;have m6:=t.m6;have ln:=t.ln;have lo:=t.lo;have hn:=t.n;have ho:=t.o;have ζ:(refs nx).length=nx.length:=a' ..
 have ν:(refs os).length=os.length:=a' ..
 refine jv @bf ?_;lia;refine jv @bf ?_;lia;refine jv @bf ?_;lia;refine oX hn ho (by rw[lj];omega) λp H2 ι Z η=>?_;lia;intro D δ;refine aI (xs:=refs nx++refs os) (λi ys H'=>Cs (!bQ (lA i true)) H2 D i ys H') (!a3 δ) (!b0 η) (λi x ys H' Y c=>?_) @bh
 ·have Y:(refs @bo)[i]? =aY x:=by unfold refs at Y ⊢;rw[eF];exact Y
  obtain⟨G,γ,rfl⟩:=az Y;have hm:=eO γ;have hi:=(!K γ).1;rw[fy] at hi;have hb:=t.bn G hm;have ht:H G.1=aY (!H [nat G.2.1,nat G.2.2]):=(gs.mp hm).elim (t.pn G) (t.po G);have ε:=c.same.get (Z.get hn);lia;rw[ζ];refine⟨G.1,G.2.1,G.2.2,nx.length,m,rfl,!b2 (Z.get ht),hb.1,hb.2,?_⟩;refine Cs.put δ c.same c.at' c.len @A ?_;rw[c.pv,Ye,eF];rfl
 ·have α:=c.at';rw[c.pv] at α;lia;refine Gh (!ad α) ?_;lia;refine jv (by rw[List.all_replicate];simp) ?_;lia;exact q H' (Z.trans c.same)
theorem kN (T:@I):!G 5 a.bG a.me @cO (Q5 a.av):=by
 refine T.dI.1.okA rg λa0 A outer s H vs Q E τ h=>?_;obtain⟨x,dx,n,o,m,nx,os,rfl,β,t,q⟩:=h
 refine⟨_,((af (bH (aj (yS T) τ T.Bi T.j9 (!ar 1 2 (!ah 3))))
  (af (!au @K)
  (af (!au (!bw rfl @F T.mD WQ @a5))
  (ai (!au (!bw rfl @F T.mD WQ (!ah 3)))))))),!bT rfl⟩
 lia;refine⟨n,o,m,nx,os,rfl,t,λH1 δ=>?_⟩;have θ:=cy t.n β @C;have α:=cy t.o β @C;lia;refine dj (δ.get β) T.ax T.bu @D rfl λH2 ξ=>?_;have ω:=ξ.oth _ _ θ (δ.get t.n);have ι:=ξ.oth _ _ α (δ.get t.o);lia;intro ν H3 ψ η Y;have Z:ν≠x:=λz=>by rw[z,ξ.at'] at ψ;cases ψ
 lia;refine dj (η.get ξ.at') T.ax T.dn (by show 1 < 1000;decide) rfl λH4 L=>?_;have φ:=L.oth _ _ α (η.get ι);have ο:=L.oth _ _ Z Y;lia;intro to H5 π ζ χ;have ε:to≠x:=λz=>by rw[z,L.at'] at π;cases π
 lia;refine dj (ζ.get L.at') T.ax T.fq (by show 2 < 1000;decide) rfl fun ρ γ=>?_;have k:∀b ob,b≠x->H b=aY ob->ρ b=aY ob:=λb ob υ e=>γ.oth _ _ υ (ζ.get (L.oth _ _ υ (η.get (ξ.oth _ _ υ (δ.get e)))));lia;refine q ρ k ⟨⟨dx,ν,to,γ.at',γ.oth _ _ Z (ζ.get ο),γ.oth _ _ ε χ⟩,λG h=>k _ _ ?_ (t.pn G h),λG h=>k _ _ ?_ (t.po G h)⟩
 ·exact cy (t.pn G h) β @C
 ·exact cy (t.po G h) β @C
theorem bf (T:@I):!G 1 a.b7 a.oA @aa (JY a.av):=by
 refine T.aV.1.okA tZ λG A outer s H vs Q E Y h=>?_;obtain⟨p,m,nx,os,rfl,ma,q⟩:=h;obtain⟨dx,L,to,ho,hn,ξ⟩:=ma.ho;refine⟨_,(!ag (!a5 @aB)),@aH⟩;lia;refine !ay ho T.dn;lia;unfold refs;rw[a'];exact q
theorem KZ (T:@I):!G 2 a.nQ a.GR ["pair","state","row"] N3:=by
 refine T.wu.1.okA Kh λL A outer s H vs Q E G h=>?_;obtain⟨t,a1,b1,x,r,rfl,ht,ha,hb,q⟩:=h;refine⟨_,(!ag (i0 yQ (!aI (AL T) G T.GM T.yD (ay o8 @a8 @K)) (!aI (AL T) G T.GM T.yD (ay o8 @a8 @Q)) @be)),@b4⟩;lia;rw[fz];refine⟨a1&&&x,rfl,Xe ZW ha,?_⟩;lia;rw[fz];refine⟨b1&&&r,rfl,Xe ZW hb,?_⟩;lia;rw[JB];exact q
theorem sv (T:@I):!G 3 a.fT a.va ["pairs","state","row"] (Q0 K):=by
 refine T.jA.1.okA Aq fun θ A outer s H vs Q E δ h=>?_;obtain⟨r,ps,x,y,rfl,ε,pt,hl,hb,q⟩:=h;refine⟨_,(!ag (!aI (mM T) δ T.pB T.jB (bL (osc:=ag lP) (ON:=["pairs","state","row"]) (N:=n21) (n:=2) (fx:=[1,2]) rfl rfl rfl @L (p3 (K:=K) rfl @F T.fP @G) (zS (gZ @O (gZ @O uM))) (!be (!bR rfl rfl (aq (i:=0) (show hM (n21:B') from by decide +kernel) rfl @E) (cc (aq (i:=1) (show hM (n21:B') from by decide +kernel) rfl @E) kJ)) (fM (aj (KZ T) δ T.OY T.wu (!ar 1 2 (!ah 3)))) @G)))),@b4⟩;lia;refine !I ⟨⟨_,ε⟩,?_⟩;intro D ζ;refine uQ (xs:=refs ps) (!bH (λi ys=>∃qs:C',ys=qs.map nat/\(∀p∈qs,p < i)/\M.xm qs=M.tr2 (prs (ps.take i)) x y)) (Cs.zero ζ ⟨[],rfl,λ_ h=>hE h @C,rfl⟩) (λi ys H' _ c=>Same.tup c.same ε) (λi v ys H' p ν η c fp Y ι=>?_) @bh
 ·obtain⟨G,γ,rfl⟩:=az η;obtain⟨qs,ρ,Z,L⟩:=c.pv;have hm:=eO γ;have hi:=(!K γ).1;have ht:=Y.get (!b2 (pt G hm));have ts:=NF x y γ;lia;refine⟨G.1,G.2.1,G.2.2,x,y,rfl,ht,(hb G hm).1,(hb G hm).2,?_⟩;cases β:(M.od (G.2.1&&&x)^^M.od (G.2.2&&&y)) with
  | true=>
    rw[β,lx rfl] at ts;lia;refine !bf ζ Y (Y.get c.at') c.len @A ⟨qs++[i],?_,λk hk=>?_,?_⟩
    ·rw[ρ,eF];rfl
    ·rcases gs.mp hk with h | h
     ·have:=Z k h;omega
     ·rw[eR.mp h];omega
    ·rw[M.xm_snoc,L,ts]
  | false=>
    rw[β,kf hH,Xo] at ts;lia;refine Cs.skip (c.same.trans Y) (Y.get c.at') c.len ⟨qs,ρ,λk hk=>?_,?_⟩
    ·have:=Z k hk;omega
    ·rw[L,ts]
 ·obtain⟨qs,ρ,Z,L⟩:=c.pv;rw[iE] at Z L;have α:=c.at';rw[ρ] at α;lia;refine⟨D,qs,rfl,α,λk hk=>by have:=Z k hk;omega,?_⟩;rw[L,ix];exact q _ c.same
theorem fG (T:@I):FnOk P w K mg base (CX1 P w) 3 a.bh a.jz ["self","state"] (Ts K a.av a.fh):=by
 refine T.bK.1.okX oE @c9 (λZ A outer s H vs Q E Y h=>?_)
 ·obtain⟨p,m,nx,os,x,k,rfl,_⟩:=h;rfl
 ·obtain⟨p,m,nx,os,x,k,rfl,ma,hk,G,L⟩:=h;obtain⟨dx,α,to,ho,hn,ξ⟩:=ma.ho;refine⟨_,((ai (!al (!aM (!aa (p5 T) Y T.pC T.jC 1 (!a5 @aB))) (nJ Xa T.kq jW rfl @F T.yd @bp)))),!b1 ?_⟩;lia;refine !ay ho T.dn;lia;rw[iE];cases hm:qx x (nx.length:Int) with
  | false=>
    lia;exact⟨by rw[lj];decide,L hm⟩
  | true=>
    lia;exact G hm
theorem fN (T:@I):FnOk P w K mg base (CX1 P w) 4 a.cK a.qV ["self","state","row"] (NW K a.av a.fh):=by
 refine T.cN.1.okX wO @c9 (fun η A outer s H vs Q E Y h=>?_)
 ·obtain⟨p,m,nx,os,x,y,kx,ε,rfl,_⟩:=h;rfl
 ·obtain⟨p,m,nx,os,x,y,kx,ε,rfl,ma,g,ρ,ζ,δ,Z⟩:=h;obtain⟨dx,α,to,ho,hn,ξ⟩:=ma.ho;have ln:=g.ln;have lo:=g.lo
  refine⟨_,((af (bH (fH @G T.ax T.fS (fG T) (Y.mono @D) T.bK.2 .nil jW @al))
   (af (!al (!aM (!aa (p5 T) Y T.pC T.jC 2 @Z)) (nJ Xa T.kq jW rfl @F T.yd @bp))
   (!aT (!Z (aj (sv T) Y T.uZ T.jA (aa @Z (!a9 1 2))) (aj (sv T) Y T.uZ T.jA (aa @Z (!a9 1 2)))))))),@b4⟩
  lia;refine dE ho rfl ?_;lia;refine⟨p,m,nx,os,x,kx,rfl,ma,ρ,λhm=>?_,λhm=>Z (!E hm)⟩;lia;refine !ay ho T.bu;lia;cases G:qx y (m:Int) with
  | false=>
    lia;exact⟨by rw[lj];decide,Z (!I G)⟩
  | true=>
    obtain⟨a1,rfl,ha⟩:=wk hm;obtain⟨b1,rfl,hb⟩:=wk G;lia;refine !ay ho T.fq;lia;refine⟨to,os,a1,b1,rfl,SqT.of ξ,ma.hs,@A,g.b2,λH2 L=>?_⟩;lia;refine !ay (L.get ho) T.dn;lia;refine⟨α,nx,a1,b1,rfl,SqT.of (L.get hn),ma.hn.same L,@A,g.b1,fun ν γ=>?_⟩;lia;intro t θ ι β ο;exact δ a1 b1 rfl rfl ha hb t θ (L.trans (γ.trans β)) ο
theorem um (T:@I):FnOk P w K mg base (CX1 P w) 5 a.b5 a.oz @ck (NJ K a.av a.fh):=by
 refine T.fk.1.okX dW @c9 (λa5 A outer s H vs Q E φ h=>?_)
 ·obtain⟨p,Z,m,nx,os,x,xs,rfl,_⟩:=h;rfl
 ·obtain⟨p,Z,m,nx,os,x,xs,rfl,G,qQ,υ⟩:=h;obtain⟨dx,tn,to,ho,hn,ξ⟩:=G.ma.ho;obtain⟨kx,ρ⟩:=G.kx;have ln:=G.ln;have a4:=G.sq
  refine⟨_,((af (bH (fH @G T.ax T.fS (fG T) (φ.mono @D) T.bK.2 .nil jW @a5))
   (af (!am dW.nd @ay)
   (af (dF (w6 @cd) rfl @bm (!bn dW.nd rfl) (af (!bm dW.nd @E (fH @G T.ax T.gR (fN T) (φ.mono @D) T.cN.2 .nil jW (!a9 2 4)))
   (af (!aL rfl qq z0 y' fc @T (!N (!a1 @aE)))
   (ai (!ap dW.nd (!a1 @aE))))))
   (!aT (!a9 3 2)))))),au (σ':=[aY _,aY _,aY _,gg,gg,gg]) rfl ?_⟩
  lia;refine dE ho rfl ?_;lia;refine⟨p,m,nx,os,x,kx,rfl,G.ma,ρ,λhm=>?_,λhm=>υ (!E hm) H (Same.refl _)⟩;obtain⟨γ,rfl,ζ⟩:=wk hm;lia;intro D H1 χ ω e1;lia;refine gE (xs:=xs) (λi σ H'=>∃(rs:C') (v ι:vr V),σ=[aY @P,aY (!j Z),aY (nat (M.wst @N γ rs)),aY @W,v,ι]/\Same H H'/\H' D=aY (!a7 (M.wan @N @X γ rs))/\xs.take i=rs.map nat/\∀r∈rs,r < 2 ^ m) ⟨[],gg,gg,rfl,ω,e1,rfl,λ_ h=>hE h @C⟩ (λi σ H' _ ⟨_,_,_,_,e,_⟩=>Same.seq e G.sq) ?_ ?_
  ·rintro i y σ H' η ⟨rs,v,ι,rfl,L,π,et,Y⟩;obtain⟨ky,τ⟩:=G.ks y (eO η);have hi:=(!K η).1;have a3:rs.length=i:=by have:=oe w3 et;rw[qF,a'] at this;omega
   have δ:M.wst @N γ rs < 2 ^ nx.length:=by have:=M.wst_lt (ps:=prs nx) (rs:=rs) (x:=γ) (by rw[aL];exact ζ);rwa [aL] at this
   lia;refine dE (L.get ho) rfl ?_;lia;refine⟨p,m,nx,os,nat (M.wst @N γ rs),y,"int",ky,rfl,G.ma.same L,G.g,rfl,LH τ L,λa1 b1 ea eb ha hb t ψ α θ=>?_,fun ε=>?_⟩
   ·have ea:=gM ea;subst ea;subst eb;lia;refine gY (α.get π) (by rw[a',M.wan_len,lj];omega) λH8 ν=>?_;have β:=ν.oth _ _ (cy θ (α.get π) @C) θ;lia;refine⟨rs++[b1],?_⟩;rw[M.wst_snoc,M.wan_snoc,eF];refine⟨_,_,rfl,λb o e=>ν.oth _ _ (!L χ) (α.get (L.get e)),ν.at',?_,λr ο=>?_⟩
    ·rw[aq2,et,η,eF];rfl
    ·rcases gs.mp ο with h | h
     ·exact Y r h
     ·rw[eR.mp h];exact hb
   ·rcases ε with h | h
    ·rw[cV δ] at h;cases h
    ·exact υ (!I ⟨y,eO η,h⟩) H' L
  ·rintro σ H' ⟨rs,v,ι,rfl,L,π,et,Y⟩;rw[ix] at et;lia;intro t ψ f7 α θ;exact qQ γ rs ⟨rfl,et,ζ,Y⟩ t D ψ χ (L.trans α) θ (α.get π)
theorem yX (T:@I):FnOk P w K mg base (CX1 P w) 6 a.cL a.nS @ck (Ti K a.av a.fh):=by
 refine T.iP.okX yM @c9 (fun ε A outer s H vs Q E β h=>?_)
 ·obtain⟨p,Z,m,nx,os,x,xs,rfl,_⟩:=h;rfl
 ·obtain⟨p,Z,m,nx,os,x,xs,rfl,G,Y,α⟩:=h;obtain⟨dx,ζ,to,ho,hn,ξ⟩:=G.ma.ho;refine⟨_,(!ag (!a1 (fH @G T.ax T.vF (um T) (β.mono @D) T.fk.2 .nil jW (!a9 1 2)))),@b4⟩;lia;refine dE ho rfl ?_;lia;refine⟨p,Z,m,nx,os,x,xs,rfl,G,λa1 rs g t D H2 γ L et δ=>?_,α⟩;lia;exact Y a1 rs g D H2 γ L δ
theorem mP (T:@I):FnOk P w K mg base (CX1 P w) 7 a.b8 a.oB ["self","which","turns"] (J0 K a.av a.fh):=by
 refine T.dC.1.okX mJ @c9 (λa0 A outer s H vs Q E ι h=>?_)
 ·obtain⟨p,m,nx,os,x,k,ο,rfl,_⟩:=h;rfl
 ·obtain⟨p,m,nx,os,x,k,ο,rfl,ma,g,hk,hT,υ,Z⟩:=h;obtain⟨dx,tn,to,ho,hn,ξ⟩:=ma.ho;have m6:=g.m6
  refine⟨_,((af (!al (!bo (!aM (aj (rD T) ι T.uO T.ko @al)) (rA (!O Ck @K ah) (qJ (!O UI @K @Z)))) (nJ Xa T.kq jW rfl @F T.yd @bp))
   (af (!am mJ.nd (ay jw (cU (!N (ay ig ah @K))) (ay P4 (cU (!N ah)) @Q)))
   (!Y (fH (dvs:=[.int 0]) @G T.ax T.A2 (yX T) (ι.mono @D) T.nY (!bc T.Am) jW (!N (j6 @bC @T rB (kH @Q)))))))),au (σ':=[aY _,aY _,aY _,gg]) rfl ?_⟩
  lia;cases x with
  | int i=>
    have hk:k="int":=hk;subst hk;lia;by_cases ν:i < 0
    ·refine oV (gB ν) ?_;lia;exact⟨by rw[lj];decide,Z (by show(decide ((0:Int)<=i)&&decide (i < (m:Int)))=false;rw[f' @A];rfl)⟩
    ·refine jv (f' ν) ?_;lia;refine !ay ho T.bu;lia;by_cases h1:(m:Int)<=i
     ·refine oV (gB h1) ?_;lia;exact⟨by rw[lj];decide,Z (by show(decide ((0:Int)<=i)&&decide (i < (m:Int)))=false;rw[f' (show ¬i < (m:Int) by omega),XH])⟩
     ·refine jv (f' h1) ?_;obtain⟨j,rfl⟩:=Xu (show 0<=i by omega);lia;rw[shl1];intro D1 H1 f1 θ e1;lia;intro D2 H2 f2 β e2;lia;refine TH e2 @A @A (by rw[lj,n'];simp;omega) λD3 H3 ψ α Y=>?_;rw[n',ae7] at Y;refine oX (α.get (β.get e1)) Y (by rw[Xg,lj];simp;omega) λL H4 f4 η e4=>?_;have er:[nat @aW]++lA ο (V.int 0)=(2 ^ j::lA ο 0).map nat:=by rw[W',ap3];rfl
      rw[er] at e4;lia;refine dE (η.get (α.get (β.get (θ.get ho)))) rfl ?_;lia;intro D5 H5 f5 ρ χ;rw[GS _ ο (by rw[a',W3,Xg];omega),<-af7,M.pulse_eq] at χ;have G:=θ.trans (β.trans (α.trans (η.trans ρ)));lia;refine⟨p,D5,m,nx,os,nat 0,(M.pulse j ο).map nat,rfl,⟨ma.same G,g,⟨"int",rfl⟩,!ad χ,M8.nats _ _ _,by rw[a',M.pulse_len];omega⟩,λa1 rs ζ D H6 fD π eD=>?_,fun ε=>?_⟩
      ·obtain⟨ea,τ,_,_⟩:=ζ;have ea:=gM ea;subst ea
       have τ:rs=M.pulse j ο:=by
        have:=oe (Zc λv:V=>match v with | .int i=>i.toNat | _=>0) τ;rw[tu,tu] at this;exact(this.symm.trans (ac1 _)) ▸ (ac1 _).symm ▸ rfl
       subst τ
       have δ:H D=none:=by
        cases ω:H D with
        | none=>rfl
        | some v=>have:=G.get ω;rw[fD] at this;cases this
       exact υ j rfl @A D H6 δ (G.trans π) eD
      ·rcases ε with h | ⟨y,φ,h⟩
       ·rw[show qx (nat 0) (nx.length:Int)=true from cV @aK] at h;cases h
       ·obtain⟨r,γ,rfl⟩:=hC.mp φ;rw[cV (M.pulse_lt (show j < m by omega) ο r γ)] at h;cases h
  | bl b=>have hk:k="bool":=hk;subst hk;lia;exact⟨by rw[lj];decide,Z rfl⟩
  | non=>have hk:k="NoneType":=hk;subst hk;lia;exact⟨by rw[lj];decide,Z rfl⟩
  | str z=>have hk:k="str":=hk;subst hk;lia;exact⟨by rw[lj];decide,Z rfl⟩
  | ref p2=>
    rcases hk with ⟨rfl,_⟩ | ⟨rfl,_⟩ | ⟨rfl,_⟩<;>lia<;>exact⟨by rw[lj];decide,Z rfl⟩
  | _=>exact X4 hk
theorem pd (T:@I):FnOk P w K mg base (CX1 P w) 4 a.cM a.qW ["self","mask"] (NX K a.av a.fh):=by
 refine T.fA.1.okX dX @c9 (fun ω A outer s H vs Q E ζ h=>?_)
 ·obtain⟨p,m,nx,os,x,k,rfl,_⟩:=h;rfl
 ·obtain⟨p,m,nx,os,x,k,rfl,ma,g,hk,ε,ν⟩:=h;obtain⟨dx,tn,to,ho,hn,ξ⟩:=ma.ho;have ln:=g.ln
  refine⟨_,((af (bH (fH @G T.ax T.fS (fG T) (ζ.mono @D) T.bK.2 .nil jW @al))
   (af (!ap dX.nd ah)
   (af (!am dX.nd ah)
   (af (dF (w6 @cd) rfl (!W (aj (p6 T) ζ T.sT T.lH @al)) (!bn dX.nd rfl) (af (!ap dX.nd (ay oa @Q (!a1 (!ci @Z @aq))))
   (ai (!am dX.nd (ay oa @T (!a1 (!ci @Z @aq)))))))
   (!aT (!a9 2 3))))))),!cg rfl⟩
  lia;refine dE ho rfl ?_;lia;refine⟨p,m,nx,os,x,k,rfl,ma,hk,λhm=>?_,ν⟩;obtain⟨α,rfl,L⟩:=wk hm;lia;refine⟨α,rfl,iY L @A,λD H1 f1 β θ=>?_⟩;rw[M.pl_up L @A] at θ;generalize η:nx.map (λq=>q.2.1)=As at ε;generalize Y:nx.map (λq=>q.2.2)=Bs at ε;have π:As.length=nx.length:=by rw[<-η,a']
  have ο:Bs.length=nx.length:=by rw[<-Y,a']
  lia;refine gE (xs:=(M.pl nx.length α).map nat) (λi σ H'=>∃v,σ=[aY @P,aY (nat α),aY (nat ((!aJ (M.pl nx.length α)).foldl (λa p=>a^^^As.getD p 0) 0)),aY (nat ((!aJ (M.pl nx.length α)).foldl (λa p=>a^^^Bs.getD p 0) 0)),v]/\H'=H1) ⟨gg,rfl,rfl⟩ (λi σ H' _ ⟨_,_,e⟩=>by rw[e];exact SqL.of θ) ?_ ?_
  ·rintro i y σ H' ρ ⟨v,rfl,rfl⟩;obtain⟨k,δ,rfl⟩:=az ρ;have υ:k < nx.length:=W9.mp (Xs.mp (eO δ)).1;obtain⟨G,γ⟩:∃G,nx[k]? =aY G:=⟨_,eH υ⟩;have Z:atI (refs nx) (k:Int)=aY (!j G.1):=dB (by unfold refs;rw[hB,γ];rfl);have ht:=β.get (ma.hn G (eO γ));have τ:=β.get hn;have χ:As.getD k 0=G.2.1:=by rw[<-η,dt,hB,γ];rfl
   have φ:Bs.getD k 0=G.2.2:=by rw[<-Y,dt,hB,γ];rfl
   lia;refine !ay (β.get ho) T.dn;lia;refine !ay (β.get ho) T.dn;lia;refine⟨aY (nat k),?_,rfl⟩;rw[fw,fw,take_succ δ,XT,XT];show _=[_,_,aY (nat (_^^^As.getD k 0)),aY (nat (_^^^Bs.getD k 0)),_];rw[χ,φ]
  ·rintro σ H' ⟨v,rfl,rfl⟩;rw[a',ix,M.sm_places As α (by rw[π];exact L) nx.length @A,M.sm_places Bs α (by rw[ο];exact L) nx.length @A];lia;intro t H2 f2 ι ψ;exact ε α rfl L t H2 (β.trans ι) ψ
theorem fI (T:@I):!G 1 a.bM a.mV @aa (Hh a.av):=by
 refine T.cb.1.okA rY λG A outer s H vs Q E Y h=>?_;obtain⟨p,m,nx,os,rfl,ma,q⟩:=h;obtain⟨dx,L,to,ho,hn,ξ⟩:=ma.ho;refine⟨_,(!ag (!a5 @aB)),@aH⟩;lia;refine !ay ho T.fq;lia;unfold refs;rw[a'];exact q
theorem Ox (T:@I):!G 4 a.rP a.Mz ["net"] (N7 @ai):=by
 refine T.BJ.1.okA Ar λb6 A outer s H vs Q E ν h=>?_;obtain⟨p,N,od,rfl,na,q⟩:=h;have hu:=rL ν;obtain⟨dx,i,s,t,o,d,tq,rs,qs,ws,hp,kp,wi,eq⟩:=na.ho;have g:=na.g;have tp:=na.tp;have nl:=AX g tp;have hg:=x4 g tp
 refine⟨_,((af (!b3 Ar.nd rfl sh)
  (af (dF qa rfl (!W (!az T.kS (jU T) @aZ T.cC.2)) (aq (i:=2) Ar.nd rfl @E) (ai (AE hu @K @Q (PE.or (fE (fE @G T.cA T.eh (dM T) @aZ T.cv.2 .nil bC @a5) T.nX T.A3 (yY T) @aZ T.iQ.2 .nil bC @al) (PE.or (fE (fE @G T.cA T.eh (dM T) @aZ T.cv.2 .nil bC @a5) T.lM T.y9 (xg T) @aZ T.gU.2 .nil bC @al) (fE (fE @G T.cA T.eh (dM T) @aZ T.cv.2 .nil bC @a5) T.gu T.vE (uk T) @aZ T.fi.2 .nil bC @al))) rfl)))
  (!Y @K)))),!bW rfl⟩
 lia;intro ο H1 f1 ω e1;have a4:=ω.get hp;lia;refine !M a4;lia;refine⟨p,N,od,rfl,!ao ω,λD2 H2 f2 s2 e2=>?_⟩;have a0:=ω.trans s2;lia;refine gE (xs:=(@a1).map V.str) (λi σ H'=>∃v hs,σ=[aY @P,aY (!j ο),v]/\Same H H'/\H' D2=aY (!b7 (@a1))/\Hgd H' ο N (!aJ (@a1)) hs) ⟨gg,[],rfl,a0,e2,s2.get e1,rfl,λ_ h=>by cases h⟩ (λi σ H' _ ⟨_,_,_,_,e',_⟩=>SqL.of e') ?_ ?_
 ·rintro i y σ H' hy ⟨v,hs,rfl,s',eD,hd⟩;obtain⟨z,hz,rfl⟩:=az hy;have b3:=(@aX).1;have ε:=(lV g tp z).mp (eO hz);have χ:=s'.get hp;have φ:=na.same s';obtain⟨a8,a7,a6,x1,x2,x3⟩:=nM g;have G:=xp g tp hz
  have lk:(hs.map λq=>((xY q.1:Key),V.ref q.2)).length<=1000:=by
   have:=oe w3 hd.nm;rw[a',qF] at this;rw[a'];omega
  have fin:∀(t:ee) (α δ:Hp),Same H' α->α t=aY (!bP (hgp N z) (hgp N z))->Upd α δ ο (.dK (putK (hs.map λq=>((xY q.1:Key),V.ref q.2)) (xY z) @ab))->∃L,Same H δ/\δ D2=aY (!b7 (@a1))/\Hgd δ ο N ((@a1).take @H) L:=λt α δ Y et β=>by
   rw[ES (zs:=(@a1).take i) (by rw[tu,<-hd.nm,tu];rfl) G] at β;have π:=Y.get hd.d;refine⟨hs++[(z,t)],λbb o e=>β.oth _ _ (!L f1) (Y.get @ad),β.oth _ _ (cy (Y.get eD) π λz=>by cases z) (Y.get eD),by rw[eF];exact β.at',by rw[eF,hd.nm,take_succ hz];rfl,λq hq=>?_⟩;rcases gs.mp hq with h | h
   ·have e4:=Y.get (hd.ob q h);exact β.oth _ _ (cy e4 π λz=>by cases z) e4
   ·rw[eR.mp h];exact β.oth _ _ (cy et π λz=>by cases z) et
  lia;have θ:=ε;unfold Nt.names at θ;rcases gs.mp θ with h' | h'
  ·rcases gs.mp h' with h' | h'
   ·refine Zp ?_;lia;refine !M χ;lia;refine⟨p,N,od,z,rfl,φ,ε,λw H3 ζ ρ=>?_⟩;cases ρ with
    | i k υ hk e=>
      have a5:=(@bn).1;have:=g.li;lia;refine !M e;lia;refine⟨w,υ,@aj,(k:Int),!j ο,rfl,e,@A,@A,λt α Y et=>?_⟩;rw[shl1] at et;have η:α t=aY (!bP (hgp N z) (hgp N z)):=by rw[hg.i k z hk];exact et
      lia;refine rm (Y.get (ζ.get hd.d)) (aK lk) fun δ β=>?_;obtain⟨L,a1,a2,ψ⟩:=fin t α δ (ζ.trans Y) η β;lia;exact⟨_,L,rfl,a1,a2,ψ⟩
    | s γ υ ι hk e et=>exact hE @cJ (x1 z h')
    | t k y υ hk e=>exact hE @ct (x2 z h')
   ·refine Z6 (Zp ?_);lia;refine !M χ;lia;refine⟨p,N,od,z,rfl,φ,ε,λw H3 ζ ρ=>?_⟩;cases ρ with
    | i k υ hk e=>exact hE h' (x1 z (eO hk))
    | s γ υ ι hk e et=>
      have Z:=E7 g tp hz γ hk;have ξ:=hd.same ζ;lia;refine !M e;lia;refine⟨w,υ,@aj,ι,ο,γ,_,λy=>(((hgp N y).1:Nat):Int),λy=>(((hgp N y).2:Nat):Int),rfl,e,SqT.of et,ξ.d,λy hy=>(by obtain⟨t,t1,t2⟩:=ξ.val (Z y hy);exact⟨t,t1,SqT.of t2⟩),λt α Y τ=>?_⟩;rw[Mc,Mc] at τ;have η:α t=aY (!bP (hgp N z) (hgp N z)):=by rw[hg.s z γ hk];exact τ
      lia;refine rm (Y.get ξ.d) (aK lk) fun δ β=>?_;obtain⟨L,a1,a2,ψ⟩:=fin t α δ (ζ.trans Y) η β;lia;exact⟨_,L,rfl,a1,a2,ψ⟩
    | t k y υ hk e=>exact hE @ct (x3 z h')
  ·refine Z6 (Z6 ?_);lia;refine !M χ;lia;refine⟨p,N,od,z,rfl,φ,ε,λw H3 ζ ρ=>?_⟩;cases ρ with
   | i k υ hk e=>exact hE h' (x2 z (eO hk))
   | s γ υ ι hk e et=>exact hE h' (x3 z @cJ)
   | t k y υ hk e=>
     have a5:=(@bn).1;have:=g.lt;lia;refine !M e;lia;refine⟨w,υ,@aj,.str y,(k:Int),!j ο,rfl,e,@A,@A,λt α Y et=>?_⟩;rw[shl1] at et;have η:α t=aY (!bP (hgp N z) (hgp N z)):=by rw[hg.t k z y hk];exact et
     lia;refine rm (Y.get (ζ.get hd.d)) (aK lk) fun δ β=>?_;obtain⟨L,a1,a2,ψ⟩:=fin t α δ (ζ.trans Y) η β;lia;exact⟨_,L,rfl,a1,a2,ψ⟩
 ·rintro σ H' ⟨v,hs,rfl,s',eD,hd⟩;rw[a',ix] at hd;lia;exact q ο H' hs f1 s' hd
theorem kL (T:@I):!G 7 a.i8 a.zX ["net"] (NM @ai a.av):=by
 refine T.ir.1.okA nv λc2 A outer s H vs Q E υ h=>?_;obtain⟨p,N,od,rfl,na,q⟩:=h;have hu:=rL υ;obtain⟨dx,i,s,t,o,d,tq,rs,qs,ws,hp,kp,wi,eq⟩:=na.ho;have g:=na.g;have tp:=na.tp;have lt:=g.lt;have lo:=g.lo;have li:=g.li
 refine⟨_,((af (!b3 nv.nd rfl (aj (Ox T) υ T.Sh T.BJ @a6))
  (af (bP (osc:=ag mK) (ON:=["net","pairs","nexts","outs"]) (N:=["row","pairs"]) (n:=1) (fx:=[1]) (i:=2) nv.nd rfl rfl rfl rfl rfl rfl @L (!W (!az T.ff (d0 T) (υ.mono @D) T.b9.2)) @O (!U (aq (i:=0) (show hM (["row","pairs"]:B') from by decide +kernel) rfl @E) (o7 hu @K @a8 @bE)))
  (af (bP (osc:=ag mK) (ON:=["net","pairs","nexts","outs"]) (N:=["wire","pairs"]) (n:=1) (fx:=[1]) (i:=3) nv.nd rfl rfl rfl rfl rfl rfl @L (!W (!az T.fQ (eW T) (υ.mono @D) T.cw.2)) @O (!U (aq (i:=0) (show hM (["wire","pairs"]:B') from by decide +kernel) rfl @E) (o7 hu @K @G @bE)))
  (!Y (iZ T.Ef (kN T) (υ.mono @D) @F T.C3 T.dI.2 .nil bC (aa (!a5 (!N (!az T.dO (dm T) (υ.mono @D) T.bT.2))) (!a9 2 3)))))))),au (σ':=[aY _,gg,gg,gg]) rfl ?_⟩
 lia;refine⟨p,N,od,rfl,na,λDd H1 hs f1 s1 hd=>?_⟩;lia;refine !M (s1.get hp);lia;refine⟨p,N,od,rfl,!ao s1,λD2 H2 ν f2 s2 e2 ο et=>?_⟩;have a3:=s1.trans s2;have L:=hd.same s2;have lq:ν.length=N.sts.length:=by rw[<-et,a']
 have φ:∀{k:Nat} {r:Qs},ν[k]? =aY r->(N.sts.map (·.2))[k]? =aY r.2.2:=λ{k r} h=>by rw[<-et,hB,hB,h];rfl
 lia;intro D3 ω;refine aI (xs:=ν.map λr=>V.ref r.1) (λi ys H'=>∃nx:eP Pr3,ys=refs nx/\Same H2 H'/\H' D3=aY @Y/\Prt H2 nx/\prs nx=(!aJ (N.sts.map (·.2))).map (hgp N)) ⟨[],rfl,bo ω,aw,λ_ h=>(by cases h),rfl⟩ (λi ys H' _ ⟨_,_,s',_⟩=>SqL.of (!Q e2)) ?_ ?_
 ·rintro i y ys H' hy ⟨nx,rfl,s',e',pt,ep⟩;obtain⟨r,ξ,rfl⟩:=az hy;have a8:=(!K ξ).1;have er:=s'.get (ο r (eO ξ));have ρ:=φ ξ;have τ:r.2.2∈need N od:=(lV g tp _).mpr (by obtain⟨ε,η,e'⟩:=hC.mp (eO ρ);rw[<-e'];exact g.ts ε η);obtain⟨tt,v1,v2⟩:=L.val τ;have ln:nx.length=i:=by have:=oe w3 ep;rw[a',a',qF,a'] at this;omega
  lia;refine uc (!Q L.d) v1 ?_;lia;refine⟨e',by rw[iE];exact aK @A,nx++[(tt,hgp N r.2.2)],by unfold refs;rw[eF];rfl,λb ob e=>?_,aw,fun ε η=>?_,?_⟩
  ·rw[aD (!L ω)];exact @ad
  ·rcases gs.mp η with h | h
   ·exact pt ε h
   ·rw[eR.mp h];exact v2
  ·show Zc _ (nx++_)=_;rw[eF,show nx.map (·.2)=_ from ep,take_succ ρ,eF];rfl
 ·rintro ys H3 ⟨nx,rfl,s3,Y,pn,en⟩;rw[a',lq,XM (by rw[a'];exact mc _)] at en;have a6:=pn.same s3;have b3:=L.same s3;have ι:=a3.trans s3;clear e2 ο et φ pn f2;lia;refine !M (ι.get hp);lia;refine⟨p,N,od,rfl,!ao ι,λD4 H4 f4 s4 e4=>?_⟩;have G:=b3.same s4;lia;intro D5 δ;refine aI (xs:=N.outs.map V.str) (λi ys H'=>∃nx:eP Pr3,ys=refs nx/\Same H4 H'/\H' D5=aY @Y/\Prt H4 nx/\prs nx=(N.outs.take i).map (hgp N)) ⟨[],rfl,bo δ,aw,λ_ h=>(by cases h),rfl⟩ (λi ys H' _ ⟨_,_,s',_⟩=>SqL.of (!Q e4)) ?_ ?_
  ·rintro i y ys H' hy ⟨nx,rfl,s',e',pt,ep⟩;obtain⟨z,hz,rfl⟩:=az hy;have a8:=(@aX).1;have τ:z∈need N od:=(lV g tp _).mpr (g.os z (eO hz));obtain⟨tt,v1,v2⟩:=G.val τ;have ln:nx.length=i:=by have:=oe w3 ep;rw[a',a',qF] at this;omega
   lia;refine uc (!Q G.d) v1 ?_;lia;refine⟨e',by rw[iE];exact aK @A,nx++[(tt,hgp N z)],by unfold refs;rw[eF];rfl,λb ob e=>?_,aw,fun ε η=>?_,?_⟩
   ·rw[aD (!L δ)];exact @ad
   ·rcases gs.mp η with h | h
    ·exact pt ε h
    ·rw[eR.mp h];exact v2
   ·show Zc _ (nx++_)=_;rw[eF,show nx.map (·.2)=_ from ep,take_succ hz,eF];rfl
  ·rintro ys H5 ⟨os,rfl,s5,χ,po,eo⟩;rw[a',ix] at eo;have ζ:=s4.trans s5;have ψ:=ι.trans ζ;have a4:=po.same s5;have a5:=a6.same ζ;have b6:=ζ.get Y;have a7:nx.length=N.sts.length:=by have:=oe w3 en;rw[a',a',a'] at this;exact this
   have c1:os.length=N.outs.length:=by have:=oe w3 eo;rw[a',a'] at this;exact this
   have a0:∀q∈nx++os,q.2.1 < 2 ^ nx.length/\q.2.2 < 2 ^ N.ins.length:=fun ε η=>by
    have:∃z,ε.2=hgp N z:=by
     rcases gs.mp η with h | h
     ·have:ε.2∈prs nx:=hC.mpr ⟨ε,h,rfl⟩;rw[en] at this;obtain⟨z,_,e⟩:=hC.mp this;exact⟨z,e.symm⟩
     ·have:ε.2∈prs os:=hC.mpr ⟨ε,h,rfl⟩;rw[eo] at this;obtain⟨z,_,e⟩:=hC.mp this;exact⟨z,e.symm⟩
    obtain⟨z,e⟩:=this;rw[e,a7];exact⟨CV N z,LS N z⟩
   clear e4 f4;lia;refine !M (ψ.get hp);lia;refine⟨p,N,od,rfl,!ao ψ,λD6 H6 γ s6 π=>?_⟩;lia;rw[a'];intro x c0 H7 f7 s7 e7;have Z:=s6.trans s7;refine⟨x,c0,D3,D5,N.ins.length,nx,os,rfl,e7,⟨li,Z.get b6,Z.get χ,a5.same Z,a4.same Z,@A,@A,a0⟩,fun β α ma=>⟨rfl,?_⟩⟩;have θ:Same H6 β:=λb ob e=>α _ _ (!L f7) (s7.get e);exact q x β nx os (ψ.free (s6.free f7)) (ψ.trans (s6.trans θ)) ma ⟨li,by omega,by omega,a0⟩ en eo
end
theorem oh (T:@I):!G 1 a.cn a.pI ["self","mask"] (Tp a.bO):=by
 refine T.d6.1.okA eU λa0 A outer s H vs Q E χ h=>?_;obtain⟨p,d,f,n,G,x,rfl,st,q⟩:=h;have ν:=rL χ;obtain⟨dx,ho⟩:=st.ho;obtain⟨es,hd,ht,g,l⟩:=st.he
 refine⟨_,((af (!ap eU.nd ah)
  (af (AD qa (KF (KP ν (ay su (rC (K:=K) rfl XB X6 X5 rH @K) ah) @Z)) (af (!am eU.nd (o7 ν @Z (ay su (rC (K:=K) rfl XB X6 X5 rH @K) ah) @bE))
  (af (!b3 eU.nd rfl (ay oa @K (!a1 @T)))
  (ai (!ap eU.nd (ay oa @Q (!a1 @T)))))))
  (!aT (!a9 1 2))))),!bO rfl⟩
 lia;refine⟨fun μ σ' H'=>∃η v,σ'=[aY @P,aY (nat (x^^^M.sm G η)),aY (nat η),v]/\H'=H/\η < 2 ^ G.length/\μ=x^^^M.sm G η/\M.Frs G η,⟨x,0,gg,?_,rfl,px _,?_,M.Frs.zero _⟩,?_⟩
 ·rw[M.sm_zero,Xo];rfl
 ·rw[M.sm_zero,Xo]
 rintro μ σ' H' ⟨η,v,rfl,rfl,ξ,rfl,β⟩;lia;refine !aq ho T.h9 T.fo;refine T6 hd ?_;lia;generalize hm:x^^^M.sm G η=m;refine iteB (fun γ=>?_) (fun γ=>?_)
 ·rcases wB es ((xo (m:Int):Nat) - 1:Int) with ⟨e,he,ε,ev⟩ | ⟨_,θ⟩
  ·have L:m≠0:=λz=>by rw[z,DN] at ε;omega
   have hl2:m.log2=e.m.log2:=by rw[qh L] at ε;omega
   have Y:(e.m,e.p)∈es.map (λe=>(e.m,e.p)):=hC.mpr ⟨e,he,rfl⟩;have φ:=g.nz _ Y;refine⟨fun α H2=>∃Z v,α=[aY @P,aY (nat (x^^^M.sm G Z)),aY (nat Z),v]/\H2=H'/\Z < 2 ^ G.length/\x^^^M.sm G Z < m/\M.Frs G Z,fun α H2 ⟨Z,v,h1,h2,h3,ω,ψ⟩=>⟨_,ω,Z,v,h1,h2,h3,rfl,ψ⟩,?_⟩;lia;refine !aq ho T.h9 T.fo;lia;refine Km hd ev ?_;have ι:=ht e he;lia;refine⟨η^^^e.p,aY (!j e.a),?_,rfl,M.xor_lt_pow ξ (g.lt _ Y),?_,β.xor (g.sub _ Y)⟩
   ·rw[M.sm_xor,g.sm _ Y,<-Xx,hm,fw,fw]
   ·rw[M.sm_xor,g.sm _ Y,<-Xx,hm];exact M.xor_less L φ hl2
  ·rw[θ] at γ;cases γ
 ·lia;intro t H2 f2 ρ e2;subst hm;refine q t H2 η f2 ρ e2 ξ (fun τ y υ π hl2=>?_) β;rcases wB es ((xo ((x^^^M.sm G η:Nat):Int):Nat) - 1:Int) with ⟨e,he,ε,ev⟩ | ⟨h1,θ⟩
  ·rw[ev] at γ;cases γ
  ·obtain⟨e,he,ζ⟩:=g.all y υ π;obtain⟨ο,δ,rfl⟩:=hC.mp he;refine h1 ο δ ?_;have ζ:ο.m.log2=y.log2:=ζ;rw[qh τ,ζ,hl2];omega
theorem Cv (T:@I):!G 2 a.eL a.yt ["self","place","row"] (Tq a.bO):=by
 refine T.lL.1.okA oS λa0 A outer s H vs Q E ν h=>?_;obtain⟨p,d,f,n,G,r,rfl,st,hl,q⟩:=h;have χ:=rL ν;obtain⟨dx,ho⟩:=st.ho
 refine⟨_,((af (!am oS.nd (fE @G T.h9 T.pj (oh T) @aZ T.d6.2 .nil bC @a5))
  (af (!bi oS.nd rfl (ay oa (!a1 @T) (ay ig ah @K)))
  (ai (dz (!O lN (!a1 @T) ah) (ai (!aL rfl qq z0 y' fc @Z (!ah 4))) (af (!aL rfl qq z0 y' fc @Z @al)
  (ai (AE χ @Z (ay su (rC (K:=K) rfl XB X6 X5 rH (!a1 @T)) ah) (c6 (aa (!a1 @T) (!ah 4))) rfl)))))))),!ce rfl⟩
 lia;refine !M ho;lia;refine⟨p,d,f,n,G,r,rfl,st,λt H2 η f2 β υ ρ hn θ=>?_⟩;lia;rw[shl1,fw];have ξ:=β.get ho;have ω:=st.same β;have lf:=M.fr_len G;refine iteB (fun γ=>?_) (fun γ=>?_)
 ·have hz:r^^^M.sm G η=0:=by have:=V.int.inj (y2 γ);omega
  obtain⟨nms,Z,π⟩:=ω.hn;have ln:=π.len;lia;refine !aq ξ T.h9 T.lW;lia;refine gY Z (by rw[a'];exact aK @A) fun φ L=>?_;lia;exact q φ (λb o h1 h2 τ e=>L.oth _ _ τ (β.get e)) (ω.null ρ hz π Z L)
 ·have hz:r^^^M.sm G η≠0:=λz=>by rw[z] at γ;exact hE γ @D
  obtain⟨es,hd,ht,g,le⟩:=ω.he;have δ:=ω.hf;lia;refine !aq ξ T.h9 T.g7;lia;refine gY ω.hf (by rw[a'];exact aK @A) fun φ L=>?_;have Y:=L.oth _ _ (cy υ ω.hf @C) υ;have ζ:=L.oth _ _ (cy ξ ω.hf @C) ξ;have ι:=L.oth _ _ (cy hd ω.hf @C) hd;lia;intro t' H4 f4 α ο;lia;refine !aq (α.get ζ) T.h9 T.fo;lia;refine RA (α.get ι) (by unfold sS;rw[a'];exact aK @A) λH5 ε=>?_;lia;refine q H5 (λb o h1 h2 τ e=>ε.oth _ _ h1 (α.get (L.oth _ _ h2 (β.get e)))) (ω.more ρ hz (hn hz) θ L α ο hd ht g le ?_);have ψ:(((r^^^M.sm G η).log2 + 1:Nat):Int) - 1=(((r^^^M.sm G η).log2:Nat):Int):=by omega
  rw[qh hz,ψ] at ε;exact ε
theorem mO (T:@I):!G 3 a.bW a.ou ["self","rows"] (QV a.bO):=by
 refine T.fj.1.okA iV λa3 A outer s H vs Q E hr h=>?_;obtain⟨x,dx,r,G,rfl,hw,hl,ω,q⟩:=h;have hu:=rL hr;have rx:r≠x:=cy hw ω @C
 refine⟨_,((af (!au sh)
  (af (!au @ay)
  (af (!au @ay)
  (ai (dF qa rfl (KM (K:=K) rfl @F T.fP @K) (zN rfl (cc (aq (i:=2) iV.nd rfl @E) (cc (aq (i:=3) iV.nd rfl @E) kJ))) (ai (bH (fE @G T.h9 T.Fc (Cv T) @a4 T.lL.2 .nil bC (!a9 2 3)))))))))),!bO rfl⟩
 lia;intro d H1 f1 s1 e1;lia;have ψ:d≠x:=λz=>by rw[z,ω] at f1;cases f1
 refine dj (s1.get ω) T.h9 T.fo @D rfl λH2 ξ=>?_;lia;intro f H3 f3 τ e3;lia;have η:f≠x:=λz=>by rw[z,ξ.at'] at f3;cases f3
 refine dj (τ.get ξ.at') T.h9 T.g7 (by show 1 < 1000;decide) rfl λH4 ζ=>?_;lia;intro n H5 ν ι χ;lia;have φ:n≠x:=λz=>by rw[z,ζ.at'] at ν;cases ν
 refine dj (ι.get ζ.at') T.h9 T.lW (by show 2 < 1000;decide) rfl λH6 ε=>?_;have k1:∀b o,b≠x->H b=aY o->H2 b=aY o:=λb o υ e=>ξ.oth _ _ υ (s1.get e);have k2:∀b o,b≠x->H b=aY o->H4 b=aY o:=λb o υ e=>ζ.oth _ _ υ (τ.get (k1 b o υ e));have k3:∀b o,b≠x->H b=aY o->H6 b=aY o:=λb o υ e=>ε.oth _ _ υ (ι.get (k2 b o υ e));have nd:∀b o,H b=aY o->b≠d:=λb o e=>ao e f1;have nf:∀b o,b≠x->H b=aY o->b≠f:=λb o υ e=>ao (k1 b o υ e) f3;have γ:∀b o,b≠x->H b=aY o->b≠n:=λb o υ e=>ao (k2 b o υ e) ν;have ρ:=ζ.oth _ _ η e3;have fn:f≠n:=ao ρ ν;have Z:H6 d=aY (.dK (sS [])):=ε.oth _ _ ψ (ι.get (ζ.oth _ _ ψ (τ.get (ξ.oth _ _ ψ e1))));have δ:=k3 _ _ rx hw;lia;refine Bo (xs:=G.map nat) (λi σ H'=>∃v θ,σ=[aY (!j x),aY (!j r),v,θ]/\StA H' a.bO x d f n @b8/\∀b o,b≠x->H b=aY o->H' b=aY o) ?_ ?_ ?_ ?_
 ·refine⟨gg,gg,rfl,⟨⟨dx,ε.at'⟩,⟨[],Z,λ_ h=>hE h @C,M.Ech.nil,rfl⟩,ε.oth _ _ η (ι.get ρ),⟨[],ε.oth _ _ φ χ,M.Nul.nil⟩,fn⟩,k3⟩
 ·rintro i σ H' _ ⟨v,θ,_,_,k⟩;exact !ad (k _ _ rx hw)
 ·rintro i y σ H' p H7 hy ⟨v,θ,rfl,st,k⟩ fp π e7;obtain⟨β,L,rfl⟩:=az hy;obtain⟨a0,Y⟩:=(st.same π).ho;lia;refine !M Y;lia;have tl:=Gb L;refine⟨x,d,f,n,@b8,β,by rw[tl],st.same π,by rw[tl];have:=(!K L).1;omega,λH8 α ο=>?_⟩;lia;refine⟨_,_,rfl,by rw[take_succ L];exact ο,λb o υ e=>α b o (nd b o e) (nf b o υ e) (γ b o υ e) (π.get (k b o υ e))⟩
 ·rintro σ H' ⟨v,θ,rfl,st,k⟩;rw[a',ix] at st;lia;exact q H' d f n k st
theorem E1 (T:@I):!G 5 a.yh a.Qu ["rows"] Rf:=by
 refine T.Aj.1.okA Rl fun ε A outer s H vs Q E Z h=>?_;obtain⟨r,G,rfl,hw,hl,q⟩:=h;refine⟨_,(!ag (!b5 rfl @F T.iH qE (!N (aM (K:=K) rfl (iZ T.M5 (mO T) (Z.mono @D) @F T.L5 T.fj.2 .nil bC @a6) rfl)))),@aH⟩;lia;intro x dx H2 γ L δ;refine⟨x,dx,r,G,rfl,L.get hw,hl,δ,fun η d f n k st=>⟨rfl,?_⟩⟩;obtain⟨β,ho⟩:=st.ho;refine !aq ho T.h9 T.g7;have hf:=st.hf;lia;intro D ζ α Y ο;have hs:Same H η:=λb o e=>k b o (!L γ) (L.get e);exact q D ζ (hs.free α) (hs.trans Y) ο
theorem ui (T:@I):!G 5 a.kW a.De ["rows","wish"] He:=by
 refine T.mY.1.okA tV λa0 A outer s H vs Q E ν h=>?_;obtain⟨r,G,x,rfl,hw,hl,Z,τ,ω,δ,ε⟩:=h
 refine⟨_,((af (!ap tV.nd (iZ T.M5 (mO T) @aZ @F T.L5 T.fj.2 .nil bC @a6))
  (af (!am tV.nd (fE @Q T.h9 T.pj (oh T) @aZ T.d6.2 .nil bC @al))
  (af (dz (!O lN (!a1 @T) ah) (!aT (!Z bE (!aI (p6 T) ν T.sT T.lH (!a1 @T)))) bg)
  (!aT (!Z bE (fE @Q T.h9 T.xt (vy T) @aZ T.gq.2 .nil bC (!N (ay su (rC (K:=K) rfl XB X6 X5 rH (!a1 @T)) ah))))))))),!bO rfl⟩
 lia;intro p dx H2 f2 s2 e2;refine⟨p,dx,r,G,rfl,s2.get hw,hl,e2,λH3 d f n k st=>⟨rfl,?_⟩⟩;obtain⟨β,ho⟩:=st.ho;have hs:Same H H3:=λb o e=>k b o (!L f2) (s2.get e);lia;refine !M ho;lia;refine⟨p,d,f,n,G,x,rfl,st,λt H4 η f4 L ο hq hn ψ=>?_⟩;lia;refine iteB (fun ξ=>?_) (fun ξ=>?_)
 ·have hz:x^^^M.sm G η=0:=by have:=V.int.inj (y2 ξ);omega
  have φ:M.sm G η=x:=by
   have:=oe (x^^^·) hz;simp only[<-Xx,Yo,Yn,Xo] at this;exact this
  lia;refine⟨η,rfl,!a6 hq hl,λD H5 f5 ρ χ=>?_⟩;lia;intro t' H6 f6 ι π;exact δ t' D H6 η (Bn (hs.trans L) f5) (hs.trans (L.trans (ρ.trans ι))) π (ι.get χ) ⟨hq,φ,ψ⟩
 ·have hz:x^^^M.sm G η≠0:=λz=>by rw[z] at ξ;exact hE ξ @D
  have Y:x^^^M.sm G η < 2 ^ 1000:=M.xor_lt_pow τ (M.span_lt Z (M.sm_span G η));have ζ:=M.log2_under hz Y;have α:¬M.Span G x:=fun υ=>hn hz _ (M.span_xor υ (M.sm_span G η)) hz rfl;have θ:(M.fr G).length < 64:=ω.resolve_left α;have ez:(((x^^^M.sm G η).log2 + 1:Nat):Int) - 1=(((x^^^M.sm G η).log2:Nat):Int):=by omega
  lia;refine !M (L.get ho);lia;rw[qh hz,ez];refine⟨p,d,f,n,G,(x^^^M.sm G η).log2,rfl,st.same L,ζ,Z,θ,hn hz,λm H5 ρ B=>?_⟩;lia;intro t' H6 f6 ι π;refine ε t' H6 m (hs.trans (L.trans (ρ.trans ι))) π ⟨α,⟨M.sm G η,M.sm_span _ _,hz,hn hz,B⟩,B.ev,B.odd hz rfl ζ,λW hW γ=>B.lt W hW ?_⟩;exact M.log2_under hz (M.xor_lt_pow γ (M.span_lt hW (M.sm_span G η)))
section
local macro_rules | `(tactic| walk_at "l2step") =>`(tactic| first | ((with_reducible refine' dR ?e ?_);(case e=>walk_at "l2kind")) | ((with_reducible refine' gS ?e ?_);(case e=>walk_at "l2kind")) | (with_reducible refine cE ?_) | (with_reducible refine dZ ?_))
section
local macro_rules | `(tactic| walk_at "l2step") =>`(tactic| first | (with_reducible refine TQ ?_))
theorem lR (T:@I):!G 6 a.g9 a.yl ["one","other","pair","row"] (NU a.av):=by
 refine T.h8.1.okA oP λa7 A outer s H vs Q E θ h=>?_;obtain⟨p1,p2,m,L,β,Z,G,x,r,rfl,ι,ο,γ,q⟩:=h;obtain⟨ψ,χ,υ,δ,a5,a3⟩:=ι.a1.ho;obtain⟨a6,φ,τ,ξ,a4,a0⟩:=ι.a2.ho;have ν:=M.lo_lt L.length x;have ε:=M.hi_lt ο;have ll:=ι.l;have π:(1:Int) * 2 ^ ((L.length:Int).toNat) - 1=((2 ^ L.length - 1:Nat):Int):=by rw[shl1];have:=px L.length;omega
 have ρ:M.tr2 (jnp L Z) x r=M.tr2 (prs L) (M.lo L.length x) r^^^(M.tr2 (prs Z) (x>>>L.length) r * 2 ^ L.length):=by
  have:=ι.jo.tr' (x:=x) (r:=r) (by rw[aL,aL];exact ο);rw[aL,ar9] at this;exact this
 have cp:CPow ((M.tr2 (prs Z) (x>>>L.length) r:Nat):Int) (L.length:Int):=⟨@A,@A,by
  rw[ae1];refine !a6 (M.tr2_lt _ _ _) ?_;rw[aL];omega⟩
 refine⟨_,((af (!bi oP.nd rfl (!bd @G T.ax T.bw (bf T) (θ.mono @D)))
  (af (!bm oP.nd @E (ay o8 @Q (!ab su ig ah @aq ah)))
  (!Y (ay oa (!a1 (fH @G T.ax T.gR (fN T) (θ.mono @D) T.cN.2 .nil thr0 (!a9 5 3))) (ay ig (!a1 (fH @K T.ax T.gR (fN T) (θ.mono @D) T.cN.2 .nil thr0 (aa (ay w8 @Q @aq) (!ah 3)))) @aq)))))),!ch rfl⟩
 lia;refine !M δ;lia;refine⟨p1,m,L,β,rfl,ι.a1,?_⟩;lia;rw[π,fz];lia;refine dE δ rfl ?_;lia;refine⟨p1,m,L,β,nat (M.lo L.length x),nat r,"int","int",rfl,ι.a1,ι.g1,rfl,rfl,λa1 b1 ea α ha hb t2 H2 η e2=>?_,λbad=>?_⟩
 ·have ea:=gM ea;have α:=gM α;subst ea;subst α;lia;refine dE (η.get ξ) rfl ?_;lia;rw[EB];refine⟨p2,m,Z,G,nat (x>>>L.length),nat r,"int","int",rfl,ι.a2.same η,ι.g2,rfl,rfl,λa1 b1 ea α ha hb ζ H3 ω Y=>?_,λbad=>?_⟩
  ·have ea:=gM ea;have α:=gM α;subst ea;subst α;lia;rw[Ri,fw,<-ρ];exact q H3 (η.trans ω)
  ·rw[cV ε,cV γ] at bad;rcases bad with bad | bad<;>cases bad
 ·rw[cV ν,cV γ] at bad;rcases bad with bad | bad<;>cases bad
theorem xa (T:@I):!G 8 a.dQ a.qO @c2 (Q6 a.av):=by
 refine T.jr.1.okA de λf7 A outer s H vs Q E hr h=>?_;obtain⟨p1,p2,m,α,γ,β,G,rfl,π,q1,q2⟩:=h;obtain⟨f6,e4,e2,a4,e8,e6⟩:=π.a1.ho;obtain⟨f5,e3,e0,ξ,e7,e5⟩:=π.a2.ho;have ll:=π.l;have m6:=π.g1.m6;obtain⟨δ,ν⟩:∃δ,δ=α.length + β.length + 1:=⟨_,rfl⟩;have eT:(α.length:Int) + (β.length:Int) + 1=(δ:Int):=by omega
 refine⟨_,((af (!ap de.nd (!ab c7 c7 (!bd @G T.ax T.bw (bf T) @a4) (!bd @K T.ax T.bw (bf T) @a4) ah))
  (af (!am de.nd (Ci rfl @F @F T.iH T.eg @Z))
  (af (bP (osc:=ag gQ) (ON:=n26) (N:=["which","one","turns"]) (n:=1) (fx:=[0,2]) (i:=4) de.nd rfl rfl rfl rfl rfl rfl @L (!W @T) @O (!U (aq (i:=0) (show hM (["which","one","turns"]:B') from by decide +kernel) rfl @E) (fH @K T.ax T.om (mP T) @a4 T.dC.2 .nil thr0 (!a9 0 2))))
  (af (bP (osc:=ag gQ) (ON:=n26) (N:=["which","other","turns"]) (n:=1) (fx:=[1,2]) (i:=5) de.nd rfl rfl rfl rfl rfl rfl @L (!W @T) @O (!U (aq (i:=0) (show hM (["which","other","turns"]:B') from by decide +kernel) rfl @E) (fH @K T.ax T.om (mP T) @a4 T.dC.2 .nil thr0 (!a9 0 2))))
  (af (dF qa rfl (!aN @a5) (aq (i:=6) de.nd rfl @E) (ai (dF qa rfl (!W @T) (aq (i:=7) de.nd rfl @E) (ai (dz (!O yQ (!a2 (!a2 @aq (pv 7)) (pv 6)) (!a2 (!a2 @aE (pv 7)) (pv 6))) (!aT (aa bE (!a9 7 6))) bg)))))
  (!Y P2))))))),au (σ':=[aY _,aY _,gg,gg,gg,gg,gg,gg]) rfl ?_⟩
 lia;refine !M a4;lia;refine⟨p1,m,α,γ,rfl,π.a1,?_⟩;lia;refine !M ξ;lia;refine⟨p2,m,β,G,rfl,π.a2,?_⟩;lia;rw[eT];refine !ay a4 T.bu;lia;refine⟨m,rfl,@A,λD H1 f1 s1 e1=>?_⟩;have e1:H1 D=aY (!a7 (qB m)):=e1;lia;intro D1 a8;refine !bD (qB m) (λj ys H'=>Co (!bU (!bN @bw (prs γ) 0 j δ)) H1 D1 j ys H') (rS a8) (λj ys H' _ ⟨_,_,_,_,_,s',_⟩=>SqL.of (!Q e1)) (λj v ys HB hv c=>?_) (λys H2 c=>?_)
 ·obtain⟨ω,Y,rfl⟩:=az hv;have τ:=(!K Y).1;rw[W1] at τ;rw[Xf τ] at Y;cases Y;have c':=c;obtain⟨_,_,_,_,_,sB,_⟩:=c';have ε:=s1.trans sB;lia;refine dE (ε.get a4) rfl ?_;lia;refine⟨p1,m,α,γ,nat j,"int",δ,rfl,π.a1.same ε,π.g1,rfl,@A,λi υ hi Dn H9 f9 s9 e9=>?_,fun ο=>?_⟩
  ·have υ:=gM υ;subst υ;exact yu a8 c s9 f9 e9 @A
  ·unfold idxB at ο;simp at ο;omega
 obtain⟨θ,rfl,ζ,a1,c3,a0,b3⟩:=c;rw[a',W1] at ζ;have a3:=s1.trans a0;have b6:=a0.get e1;lia;intro D2 a7;refine !bD (qB m) (λj ys H'=>Co (!bU (!bN (prs β) @b3 0 j δ)) H2 D2 j ys H') (rS a7) (λj ys H' _ ⟨_,_,_,_,_,s',_⟩=>SqL.of (!Q b6)) (λj v ys HB hv c=>?_) @cp
 ·obtain⟨ω,Y,rfl⟩:=az hv;have τ:=(!K Y).1;rw[W1] at τ;rw[Xf τ] at Y;cases Y;have c':=c;obtain⟨_,_,_,_,_,sB,_⟩:=c';have ε:=a3.trans sB;lia;refine dE (ε.get ξ) rfl ?_;lia;refine⟨p2,m,β,G,nat j,"int",δ,rfl,π.a2.same ε,π.g2,rfl,@A,λi υ hi Dn H9 f9 s9 e9=>?_,fun ο=>?_⟩
  ·have υ:=gM υ;subst υ;exact yu a7 c s9 f9 e9 @A
  ·unfold idxB at ο;simp at ο;omega
 obtain⟨c0,rfl,c2,a2,η,ρ,c4⟩:=c;rw[a',W1] at c2;have c1:=a3.trans ρ;have c5:=ρ.get b6;have b3:=ρ.get b3;have a1:∀(j:Nat) d,θ[j]? =aY d->H3 d=aY (!a7 (!bN @bw (prs γ) 0 j δ)):=λj d h=>ρ.get (a1 j d h);clear b6 e1 s1 a0 a3 c3 η a8 a7 f1;lia;refine kU (λi σ H'=>∃v6 χ,σ=[aY (!j p1),aY (!j p2),aY (nat δ),aY @W,aY (!j D1),aY (!j D2),v6,χ]/\Same H3 H'/\M.Al @bw (prs γ) (prs β) @b3 m i) ⟨gg,gg,rfl,Same.refl _,λt h=>hE h @A⟩ ?_ ?_
 ·rintro i σ H' hi ⟨v6,χ,rfl,s',al⟩;have hi:i < δ:=by omega
  have υ:(0:Int) + (i:Int)=(i:Int):=Yr _;lia;rw[υ];refine gE (xs:=(qB m).map nat) (λj σ φ=>∃χ,σ=[aY (!j p1),aY (!j p2),aY (nat δ),aY @W,aY (!j D1),aY (!j D2),aY (nat i),χ]/\Same H3 φ/\∀ω,ω < j->M.sgl @bw (prs γ) ω i=M.sgl (prs β) @b3 ω i) ⟨χ,rfl,s',fun ω h=>hE h @A⟩ (λj σ φ _ ⟨_,_,Z,_⟩=>SqL.of (Z.get c5)) ?_ ?_
  ·rintro j y σ φ hy ⟨χ,rfl,Z,ι⟩;obtain⟨ω,Y,rfl⟩:=az hy;have τ:=(!K Y).1;rw[W1] at τ;rw[Xf τ] at Y;cases Y;have a6:=eH (l:=θ) (i:=j) @A;have a5:=eH (l:=c0) (i:=j) @A;generalize θ[j]=d1 at a6;generalize c0[j]=d2 at a5;have f4:=Z.get b3;have f3:=Z.get c4;have f2:=Z.get (a1 j d1 a6);have f0:=Z.get (a2 j d2 a5);have t1:atI (θ.map V.ref) (j:Int)=aY (!j d1):=dB (by rw[hB,a6];rfl);have t2:atI (c0.map V.ref) (j:Int)=aY (!j d2):=dB (by rw[hB,a5];rfl)
   have sg:∀(p o:A'),atI ((!bN p o 0 j δ).map nat) (i:Int)=aY (nat (M.sgl p o j i)):=λp o=>dB (by
    have hl:i < (!bN p o 0 j δ).length:=by rw[M.wan_len,M.pulse_len];exact hi
    rw[hB,eH hl,<-M.pulse_sgl p o j hi,dt,eH hl];rfl)
   have t3:=sg @bw (prs γ);have t4:=sg (prs β) @b3;lia;by_cases hs:M.sgl @bw (prs γ) j i=M.sgl (prs β) @b3 j i
   ·refine jv (by rw[hs];simp) ?_;lia;refine⟨Z,fun ψ h2=>?_⟩;by_cases L:ψ=j
    ·rw[L];exact hs
    ·exact ι ψ @A
   ·refine oV (by rw[ZQ,decide_eq_false_iff_not];intro e;exact hs (gM e)) ?_;lia;intro tt H9 f9 s9 e9;exact q2 j i ⟨τ,by rw[aL,aL];omega,al,ι,hs⟩ tt H9 (c1.trans (Z.trans s9)) e9
  ·rintro σ φ ⟨χ,rfl,Z,ι⟩;rw[a',W1] at ι;lia;refine⟨_,_,rfl,Z,λt ht ψ L=>?_⟩;by_cases h:t=i
   ·rw[h];exact ι ψ L
   ·exact al t @A ψ L
 ·rintro σ H' ⟨v6,χ,rfl,s',al⟩;rw[n',ν] at al;lia;exact q1 al H' (c1.trans s')
theorem vw (T:@I):!G 8 a.dw a.pG @c2 (Tj a.av):=by
 refine T.iM.1.okA eQ λe0 A outer s H vs Q E hr h=>?_;obtain⟨p1,p2,m,α,ρ,L,G,rfl,ι,q⟩:=h;obtain⟨ψ,c2,c0,a4,d1,c4⟩:=ι.a1.ho;obtain⟨d2,c1,b3,a6,c5,c3⟩:=ι.a2.ho;have ll:=ι.l;have m6:=ι.g1.m6;obtain⟨θ,ν⟩:∃θ,θ=α.length + L.length:=⟨_,rfl⟩;have eT:(α.length:Int) + (L.length:Int)=(θ:Int):=by omega
 have lJ:(@ax).length=θ:=by rw[LK,ν]
 have l0:=M.sg0_len @ax m
 refine⟨_,((af (bP (osc:=ag dY) (ON:=n22) (N:=["which","one","other"]) (n:=1) (fx:=[0,1]) (i:=2) eQ.nd rfl rfl rfl rfl rfl rfl @L (!aN @aB) @O (!U (aq (i:=0) (show hM (["which","one","other"]:B') from by decide +kernel) rfl @E) (aj (lR T) hr T.nO T.h8 (!ar 1 2 (!Z ah (ay ig ah @G))))))
  (af (!am eQ.nd @ay)
  (af (dF qa rfl (!aN (!N (ay c7 (!bd @G T.ax T.bw (bf T) @a4) (!bd @K T.ax T.bw (bf T) @a4)))) (!bn eQ.nd rfl) (af (!aL rfl qq X3 X2 jx @T @a5)
  (ai (bP (osc:=ag dY) (ON:=n22) (N:=["pair","one","other"]) (n:=1) (fx:=[0,1]) (i:=2) eQ.nd rfl rfl rfl rfl rfl rfl @L (!W @Q) @O (!U (aq (i:=0) (show hM (["pair","one","other"]:B') from by decide +kernel) rfl @E) (aj (lR T) hr T.nO T.h8 (!ar 1 2 (!aS 0 ah))))))))
  (!Y (bL (osc:=ag dY) (ON:=n22) (N:=["place","told"]) (n:=1) (fx:=[3]) rfl rfl rfl @L (!W (aj (E1 T) hr T.L1 T.Aj (!ah 3))) @O (!U (aq (i:=0) (show hM (["place","told"]:B') from by decide +kernel) rfl @E) (!a2 @K @G)))))))),!cg rfl⟩
 lia;refine !ay a4 T.bu;lia;rw[n'];intro D hD;refine !bJ (!bZ ((qB i).map λw=>M.tr2 @ax 0 @aD)) (!a3 hD) (λys H1 c=>?_)
 ·lia;rw[Yr,shl1];refine⟨p1,p2,m,α,ρ,L,G,0,2 ^ i,rfl,ι.same c.same,px _,WS @D hi,λH6 s6=>?_⟩;refine !bf hD s6 (!aQ c.at') c.len @A ?_;rw[c.pv,Y7,eF,eF];rfl
 have e1:=c.at';rw[c.pv] at e1;have e1:H1 D=aY (!a7 (!bt @ax @ax m 0)):=e1;have s1:=c.same;clear c;lia;intro ω H2 f2 s2 e2;have ζ:=s1.trans s2;lia;refine !M (ζ.get a4);lia;refine⟨p1,m,α,ρ,rfl,ι.a1.same ζ,?_⟩;lia;refine !M (ζ.get a6);lia;refine⟨p2,m,L,G,rfl,ι.a2.same ζ,?_⟩;lia;rw[eT];have ε:H ω=none:=s1.free f2;refine kU (λi σ H'=>∃(v:vr V) (Dm:ee),σ=[aY (!j p1),aY (!j p2),aY (!j Dm),aY (!j ω),v]/\Same H H'/\H' Dm=aY (!a7 (!bt @ax @ax m i))/\H' ω=aY (!a7 (M.rcf @ax m i))/\Dm≠ω) ⟨gg,D,rfl,ζ,s2.get e1,e2,λz=>by rw[<-z,e1] at f2;cases f2⟩ ?_ ?_
 ·rintro i σ H' hi ⟨v,Dm,rfl,s',em,et,υ⟩;have hi:i < θ:=by omega
  have lr:=M.rcf_len @ax m i;have a0:(!bt @ax @ax m i).length=m:=by rw[M.stj_len,l0]
  have b6:i * m<=60 * 6:=YX @A m6;lia;refine jZ et em (by rw[a',a',lr,a0];exact Y6 (aK @A)) υ.symm λH5 u5=>?_;have s5:=u5.same ε s';have a8:=u5.oth _ _ υ em;have η:=u5.at';rw[<-eF] at η;have η:H5 ω=aY (!a7 (M.rcf @ax m @H)):=η;lia;intro D5 δ;refine !bD (!bt @ax @ax m i) (λj ys H'=>Cs (!bE (((!bt @ax @ax m i).take j).map λx=>M.tr2 @ax x 0)) H5 D5 j ys H') (!a3 δ) (!bI a8) @cv (λys H6 c=>?_)
  ·obtain⟨y,φ,rfl⟩:=az hv;have hj:=(!K φ).1;have a3:=M.stj_lt @ax m i y (eO φ);rw[lJ,ν] at a3;lia;refine⟨p1,p2,m,α,ρ,L,G,y,0,rfl,ι.same (s5.trans c.same),a3,px _,λH7 χ=>?_⟩;refine !bf δ χ (χ.get c.at') c.len @A ?_;rw[c.pv,take_succ φ,eF,eF];rfl
  have π:=c.at';rw[c.pv,a',ix] at π;have s6:=c.same;clear c;lia;exact⟨_,D5,rfl,s5.trans s6,π,!aQ η,λz=>by rw[z,η] at δ;cases δ⟩
 ·rintro σ H' ⟨v,Dm,rfl,s',em,et,υ⟩;rw[n'] at et;have lr:=M.rcf_len @ax m θ;have b6:θ * m<=60 * 6:=YX @A m6;obtain⟨γ,ξ⟩:∃γ,γ=M.rcf @ax m θ:=⟨_,rfl⟩;rw[<-ξ] at et lr;lia;refine⟨ω,γ,rfl,et,@A,λB H7 f7 χ e7=>?_⟩;have a7:=χ.get et;lia;intro D8 τ;refine !bD (M.fr γ) (λj ys H'=>Cs (!bE (((M.fr γ).take j).map λi=>γ.getD i 0)) H7 D8 j ys H') (!a3 τ) (!bI e7) (λj v ys H8 hv c=>?_) (λys H8 c=>?_)
  ·obtain⟨y,φ,rfl⟩:=az hv;have hj:=(!K φ).1;have a5:=M.fr_lt y (eO φ);have ο:=c.same.get a7;have Z:atI (γ.map nat) (y:Int)=aY (nat (γ.getD y 0)):=dB (by rw[hB,dt,eH a5];rfl);have Y:=M.fr_len γ;lia;refine Cs.put τ c.same c.at' c.len @A ?_;rw[c.pv,take_succ φ,eF,eF];rfl
  have β:=c.at';rw[c.pv,a',ix] at β;refine q D8 H8 ((!bb χ).free τ) ((!bb χ).trans c.same) ?_;unfold M.prs2 M.fR;rw[aL,aL,<-ν,<-ξ];exact β
theorem xc (T:@I):!G 10 a.je a.z9 @c2 (Tr a.av):=by
 refine T.m8.1.okA g5 λj1 A outer s H vs Q E φ h=>?_;obtain⟨p1,p2,m,Z,β,α,ζ,rfl,ι,q1,q2⟩:=h;obtain⟨ψ,g3,f8,χ,h5,h3⟩:=ι.a1.ho;obtain⟨j0,g0,f5,ξ,h4,h0⟩:=ι.a2.ho;have ll:=ι.l;have e4:=ι.lo;have m6:=ι.g1.m6;obtain⟨Y,G⟩:∃Y,Y=M.prs2 (prs Z) @bw m:=⟨_,rfl⟩;have g4:Y.length<=60:=by rw[G];have:=M.prs2_few (prs Z) @bw m;rw[aL,aL] at this;omega
 have d2:∀x∈Y,x < 2 ^ (Z.length + α.length):=λx hx=>by
  rw[G] at hx;have:=M.prs2_lt hx;rwa [aL,aL] at this
 have ο:∀x∈Y,x < 2 ^ 1000:=λx hx=>gA (d2 x hx) (hL @D @A);have c0:∀x r,M.tr2 (jnp Z α) x r < 2 ^ 1000:=λx r=>gA (M.tr2_lt _ _ _) (hL @D (by rw[LK];omega))
 have υ:∀{x r:Nat},(x=0∨x∈Y)->r < 2 ^ m->M.Span Y (M.tr2 (jnp Z α) x r):=λhx e8=>by
  rw[G] at hx ⊢;exact KI (q:=0) hx e8
 have e6:(1:Int) * 2 ^ ((Z.length:Int).toNat) - 1=((2 ^ Z.length - 1:Nat):Int):=by rw[shl1];have:=px Z.length;omega
 refine⟨_,((af (!al (!bo (!O yQ @Z (aM (K:=K) rfl @K rfl)) (qJ (!O yQ (!bh @G T.ax T.gD (fI T) (φ.mono @D) T.cb.2) (!bh @K T.ax T.gD (fI T) (φ.mono @D) T.cb.2)))) iF)
  (af (!ap g5.nd (!ax (xa T) φ T.zB T.jr 0 1))
  (af (!aX (!O RN @Q P2) @Q bg)
  (af (!am g5.nd (!ax (vw T) φ T.ya T.iM 0 1))
  (af (bP (osc:=ag ki) (ON:=n23) (N:=["which","pairs","one","other"]) (n:=1) (fx:=[3,0,1]) (i:=4) g5.nd rfl rfl rfl rfl rfl rfl @L (!aN @aB) @O (!U (aq (i:=0) (show hM (["which","pairs","one","other"]:B') from by decide +kernel) rfl @E) (!a1 (!aa (ui T) φ T.x6 T.mY 1 (aj (lR T) φ T.nO T.h8 (!ar 2 3 (!Z ah (ay ig ah @G))))))))
  (af (bP (osc:=ag ki) (ON:=n23) (N:=["pair","pairs","one","other"]) (n:=1) (fx:=[3,0,1]) (i:=5) g5.nd rfl rfl rfl rfl rfl rfl @L (!W @T) @O (!U (aq (i:=0) (show hM (["pair","pairs","one","other"]:B') from by decide +kernel) rfl @E) (!a1 (!aa (ui T) φ T.x6 T.mY 1 (aj (lR T) φ T.nO T.h8 (!ar 2 3 (!aS 0 ah)))))))
  (af (aA (i:=6) g5.nd rfl @E (!bd @G T.ax T.bw (bf T) (φ.mono @D)))
  (af (bP (osc:=ag ki) (ON:=n23) (N:=["pair","width"]) (n:=1) (fx:=[6]) (i:=7) g5.nd rfl rfl rfl rfl rfl rfl @L (!W @T) @O (!U (aq (i:=0) (show hM (["pair","width"]:B') from by decide +kernel) rfl @E) (c6 (!Z (ay o8 @G (!ab su ig ah @K ah)) (ay w8 @G @K)))))
  (!aT (aa bE (!ar 7 4 (!ah 5))))))))))))),au (σ':=[aY _,aY _,gg,gg,gg,gg,gg,gg]) rfl ?_⟩
 lia;refine !ay χ T.bu;lia;refine !ay ξ T.bu;lia;dsimp only;rw[kf @C];lia;refine !M χ;lia;refine⟨p1,m,Z,β,rfl,ι.a1,?_⟩;lia;refine !M ξ;lia;refine⟨p2,m,α,ζ,rfl,ι.a2,?_⟩;lia;dsimp only;rw[kf (by rw[e4];simp)];lia;refine⟨p1,p2,m,Z,β,α,ζ,rfl,ι,λal H1 s1=>?_,fun θ t' fu tt H1 s1 e1=>?_⟩
 ·lia;refine⟨p1,p2,m,Z,β,α,ζ,rfl,ι.same s1,λD H2 f2 s2 e2=>?_⟩;rw[<-G] at e2;have a6:=s1.trans s2;lia;refine !ay (a6.get χ) T.bu;lia;rw[n'];intro D3 d1;refine !bJ (λj ys H'=>Co (!bU (!aR (sfq Y (M.tr2 (jnp Z α) 0 @aW)))) H2 D3 j ys H') (rS d1) @cp
  ·have c':=c;obtain⟨_,_,_,_,_,sB,_⟩:=c';have a4:=a6.trans sB;have b3:2 ^ i < 2 ^ m:=WS @D hi;lia;rw[Yr,shl1];refine⟨p1,p2,m,Z,β,α,ζ,0,2 ^ i,rfl,ι.same a4,px _,b3,λH6 ε=>?_⟩;lia;refine⟨D,Y,_,rfl,ε.get (sB.get e2),@A,ο,c0 _ _,!E (υ @am b3),λt7 D7 H7 η f7 s7 e7 b6 sd=>?_,λt7 H7 mk s7 e7 bd=>hE (υ @am b3) bd.ns⟩;lia;exact yu d1 c (ε.trans s7) (ε.free f7) (by rw[b6,PN sd]) @A
  obtain⟨bs,rfl,e5,e0,i4,c1,π⟩:=c;have a5:=a6.trans c1;have ν:=c1.get e2;lia;intro L c5;refine aI (xs:=Y.map nat) (λj ys H'=>Co (!bU (!aR (sfq Y (M.tr2 (jnp Z α) (!b4 j) 0)))) H3 L j ys H') (rS c5) (λj ys H' _ ⟨_,_,_,_,_,s',_⟩=>SqL.of (!Q ν)) (λj v ys H' hv c=>?_) (λys H4 c=>?_)
  ·obtain⟨y,hy,rfl⟩:=az hv;have hj:=(!K hy).1;have a7:=eO hy;have a8:Y.getD j 0=y:=by rw[dt,hy];rfl
   have c':=c;obtain⟨_,_,_,_,_,sB,_⟩:=c';have a4:=a5.trans sB;lia;refine⟨p1,p2,m,Z,β,α,ζ,y,0,rfl,ι.same a4,d2 y a7,px _,λH6 ε=>?_⟩;lia;refine⟨D,Y,_,rfl,ε.get (sB.get ν),@A,ο,c0 _ _,!E (υ (!I a7) @aK),λt7 D7 H7 η f7 s7 e7 b6 sd=>?_,λt7 H7 mk s7 e7 bd=>hE (υ (!I a7) @aK) bd.ns⟩;lia;exact yu c5 c (ε.trans s7) (ε.free f7) (by rw[b6,PN sd,a8]) @A
  obtain⟨us,rfl,c3,f4,h6,a3,f1⟩:=c;rw[a'] at c3;have c2:=a5.trans a3;have f3:=a3.get ν;lia;refine !M (c2.get χ);lia;refine⟨p1,m,Z,β,rfl,ι.a1.same c2,?_⟩;lia;intro D5 δ;refine aI (xs:=Y.map nat) (λj ys H'=>Co (λj=> .tup [nat (M.lo Z.length (!b4 j)),nat (Y.getD j 0>>>Z.length)]) H4 D5 j ys H') (rS δ) (λj ys H' _ ⟨_,_,_,_,_,s',_⟩=>SqL.of (!Q f3)) (λj v ys H' hv c=>?_) @c7
  ·obtain⟨y,hy,rfl⟩:=az hv;have hj:=(!K hy).1;have a8:Y.getD j 0=y:=by rw[dt,hy];rfl
   lia;rw[e6,fz,EB];intro t9 H9 f9 s9 e9;exact yu δ c s9 f9 (by rw[e9,a8];rfl) @A
  obtain⟨ts,rfl,c4,τ,i3,e3,f0⟩:=c;rw[a'] at c4;lia;intro tt H6 γ ε ρ;have ω:=e3.trans ε;have a0:=a3.trans ω;subst G;exact q1 al tt D5 D3 L ts bs us H6 (a5.trans a0) ⟨ρ,ε.get f0,c4,λj d h=>by rw[aL];exact ε.get (τ j d h),a0.get π,e5,λj d h=>a0.get (e0 j d h),ω.get f1,c3,λj d h=>ω.get (f4 j d h)⟩
 ·lia;exact q2 θ t' fu tt H1 s1 e1
end
theorem Ct (T:@I):!G 2 a.hV a.yo ["net"] (Ob @ai):=by
 refine T.nV.1.okA oQ fun υ A outer s H vs Q E π h=>?_;obtain⟨p,N,od,rfl,na,q⟩:=h;have g:=na.g;have ν:=Li g;obtain⟨_,_,_,_,_,_,_,_,_,_,ρ,_⟩:=na.ho
 refine⟨_,((af (!b3 oQ.nd rfl (!az T.jT (i5 T) (π.mono @D) T.cT.2))
  (af (bP (osc:=ag kA) (ON:=["net","known","names"]) (N:=["number"]) (n:=1) (fx:=[]) (i:=2) oQ.nd rfl rfl rfl rfl rfl rfl @L (!aN (!N (ay c7 (!a5 @al) ah))) @O (!U (aq (i:=0) (show hM (["number"]:B') from by decide +kernel) rfl @E) (ay ij bE (bc iq @F T.E8 XC @a6))))
  (!Y (!a2 (bL (osc:=ag kA) (ON:=["net","known","names"]) (N:=["name","known"]) (n:=1) (fx:=[1]) rfl rfl rfl @L (!W @Q) @O (!be (aq (i:=0) (show hM (["name","known"]:B') from by decide +kernel) rfl @E) (aQ (w9 (K:=K) rfl) @G @K @F) @G)) ah))))),!bW rfl⟩
 lia;refine !M ρ;lia;refine⟨p,N,od,rfl,na,λD H1 ω ι τ=>?_⟩;lia;rw[a',show((N.names.length:Int) + 1)=((N.names.length + 1:Nat):Int) by omega];lia;rw[n'];intro ψ γ;refine !bJ (λi ys H'=>Cs (!aO (frns i)) H1 ψ i ys H') (!a3 γ) (λys H2 c=>?_)
 ·lia;rw[Yr];refine⟨MG @A,"c",tx i,rfl,rfl,GX @L @A,?_⟩;refine Cs.put γ c.same c.at' c.len @A ?_;rw[c.pv,L9,eF];rfl
 have η:=c.at';rw[c.pv] at η;have ζ:=c.same;clear c;have ε:=ζ.get τ;lia;intro χ β;refine aI (xs:=(@ch).map V.str) (λi ys H'=>Cs (!aO (!c6 (!aJ (@ch)))) H2 χ i ys H') (!a3 β) (!b0 η) (λi v ys H' ο c=>?_) (λys φ c=>?_)
 ·obtain⟨z,hz,rfl⟩:=az ο;have hi:=(@aX).1;rw[GN] at hi;have δ:=c.same.get ε;lia;refine⟨D,_,rfl,!E (!ad δ),rfl,by rw[Xn];intro x ξ;obtain⟨y,_,rfl⟩:=hC.mp ξ;rfl,?_⟩;refine⟨_,rfl,?_⟩;by_cases G:z∈N.names
  ·have L:(if true=true then !inV (V.str z) @aS else inV (V.str z) @aS)=false:=by rw[lx rfl,xZ.mpr G];rfl
   dsimp only;rw[kf (by rw[L];decide)];refine Cs.skip c.same c.at' c.len ?_;have e:[z].filter (λz=> !decide (z∈N.names))=[]:=by rw[YG,gB G];rfl
   rw[c.pv,take_succ hz,Xp,e,XI]
  ·have L:(if true=true then !inV (V.str z) @aS else inV (V.str z) @aS)=true:=by
    rw[lx rfl,ZQ,<-ag0];exactλh=>G (xZ.mp h)
   dsimp only;rw[lx L];lia;refine Cs.put β c.same c.at' c.len @A ?_;have e:[z].filter (λz=> !decide (z∈N.names))=[z]:=by rw[YG,f' G];rfl
   rw[c.pv,take_succ hz,Xp,e,eF];rfl
 have Y:=c.at';rw[c.pv,a',ix] at Y;have θ:=c.same;clear c
 obtain⟨z,zs,α⟩:∃z zs,(!c6 (@ch))=z::zs:=by
  cases e:(!c6 (@ch)) with
  | nil=>exact hE e (Ma N.names @A @U)
  | cons z zs=>exact⟨z,zs,rfl⟩
 have hz:=Xs.mp (show z∈(!c6 (@ch)) by rw[α];exact mu);rw[α] at Y;have Z:atI ((z::zs).map V.str) 0=aY @aj:=dB (j:=0) rfl;lia;obtain⟨k,hk,rfl⟩:=hC.mp hz.1;exact q _ φ (Vf ⟨k,by have:=W9.mp hk;omega⟩) (by simpa using hz.2) (ι.trans (ζ.trans θ))
theorem Cu (T:@I):!G 11 a.hX a.yp ["net","wire"] (BV @ai):=by
 refine T.nW.1.okA BX λb6 A outer s H vs Q E ν h=>?_;obtain⟨p,N,od,θ,rfl,na,hw,hm,δ,υ⟩:=h;have g:=na.g;have li:=g.li;have ht:=g.lt;refine⟨_,(!ag (aj (xc T) ν T.zT T.m8 (!Z (aj (kL T) ν T.mT T.ir @a6) (!aI (kL T) ν T.mT T.ir (aj (P6 T) ν T.Ve T.M9 (!ar 0 1 (!N (aj (Ct T) ν T.Fy T.nV @a6)))))))),!b1 ?_⟩;lia;refine⟨p,N,od,rfl,na,λx1 H1 γ Z f1 s1 b3 a8 φ a3=>?_⟩;lia;refine⟨p,N,od,rfl,!ao s1,λz H2 nz hz s2=>?_⟩;have ι:=s1.trans s2;have l1:γ.length=N.sts.length:=by have:=oe w3 φ;rw[aL,a',a'] at this;exact this
 have lo1:Z.length=N.outs.length:=by have:=oe w3 a3;rw[aL,a'] at this;exact this
 lia;refine⟨p,N,od,θ,z,rfl,!ao ι,hw,nz,hz,hm,λn H3 α fn s3 ε=>?_⟩;have g2:=ε.g;have η:=ι.trans s3;have a6:=s2.trans s3;lia;refine⟨n,!aY θ z,α,rfl,ε,λx2 H4 β G f4 s4 ω a7 π a0=>?_⟩;have ξ:=Py g hz g2 ε.tp;have ζ:prs γ=(@a0).1:=φ;have a4:prs Z=(@a0).2:=a3;have ρ:prs β=(tbC N θ).1:=by rw[<-ξ];exact π
 have ο:prs G=(tbC N θ).2:=by rw[<-ξ];exact a0
 have Y:β.length=N.sts.length:=by have:=oe w3 π;rw[aL,a',a'] at this;rw[this];exact a' ..
 have τ:G.length=N.outs.length:=by have:=oe w3 a0;rw[aL,a'] at this;rw[this];exact a' ..
 lia;refine⟨x1,x2,N.ins.length,γ,Z,β,G,rfl,⟨b3.same (a6.trans s4),a8,ω,a7,@A,@A⟩,λal t Ds Db L ts bs us H5 s5 a5=>?_,fun ψ t2 fu tt H5 s5 χ=>?_⟩
 ·rw[ζ,a4,ρ,ο,l1,Y] at al;rw[ζ,ρ] at a5;exact δ al t Ds Db L ts bs us H5 (η.trans (s4.trans s5)) a5
 ·rw[ζ,a4,ρ,ο] at fu;exact υ ψ t2 fu tt H5 (η.trans (s4.trans s5)) χ
theorem Cn (T:@I):!G 4 a.g8 a.yk ["net","row","state"] (NL @ai):=by
 refine T.nT.1.okA oO λb6 A outer s H vs Q E η h=>?_;obtain⟨p,N,od,row,st,rfl,na,q⟩:=h;have hu:=rL η;obtain⟨dx,i,s,t,o,d,tq,rs,qs,ws,hp,kp,wi,eq⟩:=na.ho;have g:=na.g;have tp:=na.tp;have nl:=AX g tp
 refine⟨_,((af (!am oO.nd sh)
  (af (dF qa rfl (!W (!az T.kS (jU T) @bJ T.cC.2)) (!bn oO.nd rfl) (ai (AE hu @T @aq (PE.or (fE (fE @G T.cA T.eh (dM T) @bJ T.cv.2 .nil bC (!ah 4)) T.nX T.CA (AR T) @bJ T.jE.2 .nil bC (!ar 3 1 @a5)) (PE.or (fE (fE @G T.cA T.eh (dM T) @bJ T.cv.2 .nil bC (!ah 4)) T.lM T.A1 (yW T) @bJ T.iO.2 .nil bC (!ar 3 1 @a5)) (fE (fE @G T.cA T.eh (dM T) @bJ T.cv.2 .nil bC (!ah 4)) T.gu T.xr (vx T) @bJ T.gj.2 .nil bC (!ar 3 1 @a5)))) rfl)))
  (!Y @T)))),!ce rfl⟩
 lia;intro ο H1 f1 s1 e1;have a5:=s1.get hp;lia;refine !M a5;lia;refine⟨p,N,od,rfl,!ao s1,λD2 H2 f2 s2 e2=>?_⟩;have a0:=s1.trans s2;lia;refine gE (xs:=(@a1).map V.str) (λi σ H'=>∃v f,σ=[aY @P,aY (nat row),aY (nat st),aY (!j ο),v]/\Same H H'/\H' D2=aY (!b7 (@a1))/\H' ο=aY (.dK (bitK f (!aJ (@a1))))/\Pre N row st (!aJ (@a1)) f) ⟨gg,λ_=>false,rfl,a0,e2,s2.get e1,Pre.nil ..⟩ (λi σ H' _ ⟨_,_,_,_,e',_⟩=>SqL.of e') ?_ ?_
 ·rintro i y σ H' ξ ⟨v,f,rfl,s',eD,θ,pr⟩;obtain⟨z,hz,rfl⟩:=az ξ;have b3:=(@aX).1;have δ:=(lV g tp z).mp (eO hz);have χ:=s'.get hp;have φ:=na.same s';obtain⟨a8,a7,a6,x1,x2,x3⟩:=nM g;have G:=xp g tp hz
  have fin:∀(b:Xb) (H4 β:Hp),Same H' H4->Upd H4 β ο (.dK (putK (bitK f (!aJ (@a1))) (xY z) (nat (M.bn b))))->Bt N row st (!aJ (@a1)) f z b->∃α,Same H β/\β D2=aY (!b7 (@a1))/\β ο=aY (.dK (bitK α ((@a1).take @H)))/\Pre N row st ((@a1).take @H) α:=λb H4 β ω γ bt=>by
   have ρ:putK (bitK f (!aJ (@a1))) (xY z) (nat (M.bn b))=bitK (λy=>if y=z then b else f y) ((@a1).take @H):=by
    rw[ES (ML f _) G,take_succ hz];unfold bitK;rw[eF];congr 1
    ·exact WZ λy ξ=>by show(_,nat (M.bn (f y)))=(_,nat (M.bn (if y=z then b else f y)));rw[kf (λ(e:y=z)=>G (e ▸ ξ))]
    ·show[(_,nat (M.bn b))]=[(_,nat (M.bn (if z=z then b else f z)))];rw[lx rfl]
   rw[ρ] at γ;refine⟨_,λbb o e=>γ.oth _ _ (!L f1) (ω.get @ad),γ.oth _ _ (cy (ω.get eD) (ω.get θ) λz=>by cases z) (ω.get eD),γ.at',by rw[take_succ hz];exact pr.step G bt⟩
  have lk:(bitK f (!aJ (@a1))).length<=1000:=by unfold bitK;rw[a',qF];omega
  lia;have ζ:=δ;unfold Nt.names at ζ;rcases gs.mp ζ with h' | h'
  ·rcases gs.mp h' with h' | h'
   ·refine Zp ?_;lia;refine !M χ;lia;refine⟨p,N,od,z,rfl,φ,δ,λw ψ ε ν=>?_⟩;have L:=ε.get θ;cases ν with
    | i k υ hk e=>
      lia;refine !M e;lia;refine⟨w,υ,@aj,(k:Int),!j ο,(row:Int),(st:Int),rfl,e,@A,?_⟩;rw[DO,show(if row.testBit k=true then (1:Int) else 0)=((M.bn (row.testBit k):Nat):Int) by unfold M.bn;cases row.testBit k<;>rfl];lia;refine rm L (aK lk) fun β γ=>?_;obtain⟨α,a1,a2,τ,π⟩:=fin (row.testBit k) ψ β ε γ (VA g hk);lia;exact⟨_,α,rfl,a1,a2,τ,π⟩
    | s Y υ ι hk e et=>exact hE @cJ (x1 z h')
    | t k y υ hk e=>exact hE @ct (x2 z h')
   ·refine Z6 (Zp ?_);lia;refine !M χ;lia;refine⟨p,N,od,z,rfl,φ,δ,λw ψ ε ν=>?_⟩;have L:=ε.get θ;cases ν with
    | i k υ hk e=>exact hE h' (x1 z (eO hk))
    | s Y υ ι hk e et=>
      have Z:=E7 g tp hz Y hk;lia;refine !M e;lia;refine⟨w,υ,@aj,ι,ο,Y,_,λy=>((M.bn (f y):Nat):Int),(row:Int),(st:Int),rfl,e,SqT.of et,L,λy ξ=>Ak f (Z y ξ),?_⟩;rw[Sn];lia;refine rm L (aK lk) fun β γ=>?_;obtain⟨α,a1,a2,τ,π⟩:=fin (xb f Y) ψ β ε γ (Qz g hk Z);lia;exact⟨_,α,rfl,a1,a2,τ,π⟩
    | t k y υ hk e=>exact hE @ct (x3 z h')
  ·refine Z6 (Z6 ?_);lia;refine !M χ;lia;refine⟨p,N,od,z,rfl,φ,δ,λw ψ ε ν=>?_⟩;have L:=ε.get θ;cases ν with
   | i k υ hk e=>exact hE h' (x2 z (eO hk))
   | s Y υ ι hk e et=>exact hE h' (x3 z @cJ)
   | t k y υ hk e=>
     lia;refine !M e;lia;refine⟨w,υ,@aj,.str y,(k:Int),!j ο,(row:Int),(st:Int),rfl,e,@A,?_⟩;rw[DO,show(if st.testBit k=true then (1:Int) else 0)=((M.bn (st.testBit k):Nat):Int) by unfold M.bn;cases st.testBit k<;>rfl];lia;refine rm L (aK lk) fun β γ=>?_;obtain⟨α,a1,a2,τ,π⟩:=fin (st.testBit k) ψ β ε γ (Vz g hk);lia;exact⟨_,α,rfl,a1,a2,τ,π⟩
 ·rintro σ H' ⟨v,f,rfl,s',eD,θ,pr⟩;rw[a',ix] at θ pr;lia;exact q ο H' f f1 s' θ (KJ g tp pr)
theorem zO (T:@I):!G 2 a.lC a.Dx ["wires","bits"] J5:=by
 refine T.pM.1.okA Hq fun ε A outer s H vs Q E Z h=>?_;obtain⟨l,d,ws,zs,f,rfl,hl,hd,ln,sub,q⟩:=h;have γ:=rL Z;refine⟨_,(!ag (!aI (mM T) Z T.pB T.jB (bL (osc:=ag r8) (ON:=["wires","bits"]) (N:=["place","wire","bits"]) (n:=2) (fx:=[1]) rfl rfl rfl @L (p3 (K:=K) rfl @F T.fP @G) (zS (gZ @O (gZ @O uM))) (!be (!bR rfl rfl (aq (i:=0) (show hM (["place","wire","bits"]:B') from by decide +kernel) rfl @E) (cc (aq (i:=1) (show hM (["place","wire","bits"]:B') from by decide +kernel) rfl @E) kJ)) (!O lN (o7 γ @Q @K @bE) ah) @G)))),!b1 ?_⟩;lia;refine !E ⟨⟨_,SqL.of hl⟩,?_⟩;intro D α;refine Af (xs:=ws.map V.str) (λi ys H'=>ys=((qB i).filter λk=>f (!bv k)).map nat/\Same H H'/\H' D=aY @Y) ⟨rfl,bo α,aw⟩ (λi ys H' _ ⟨_,s',_⟩=>SqL.of (!Q hl)) (λi x ys H' ζ H2 β ⟨ey,s',Y⟩ fp L η=>?_) (λys H' ⟨ey,s',Y⟩=>?_)
 ·obtain⟨z,hz,rfl⟩:=az β;have δ:=(@aX).1;have χ:ws.getD i ""=z:=by rw[dt,hz];rfl
  have fs:(qB @H).filter (λk=>f (!bv k))=(qB i).filter (λk=>f (!bv k))++(if f z=true then [i] else []):=by rw[Y7,Xp,YG,χ];rfl
  have G:=L.get Y;lia;refine uc (L.get (!Q hd)) (Ak f (sub z (eO hz))) ?_;cases hf:f z with
  | true=>
    lia;refine⟨G,?_,?_,λb o e=>?_,aw⟩
    ·rw[ey,a'];have:=Y3 (λk=>f (!bv k)) (qB i);rw[W1] at this;exact aK @A
    ·rw[fs,hf,ey];simp
    ·rw[aD (!L α)];exact L.get @ad
  | false=>
    lia;refine⟨?_,!bb L,G⟩;rw[fs,hf,ey];simp
 ·rw[a'] at ey;rw[ey] at Y;lia;refine⟨D,_,rfl,Y,λk hk=>?_,?_⟩
  ·have:=W9.mp (Xs.mp hk).1;omega
  ·rw[UZ];exact q H' s'
theorem Uc:(∀(v:V) (r:eP (kv×V)),([]:eP (kv×V))≠(("name":kv),v)::r)/\∀(v:V) (r:@az),([]:eP (kv×V))≠(("ins":kv),v)::r:=⟨λ_ _ h=>(by cases h),λ_ _ h=>(by cases h)⟩
theorem Kp (x:V) (fs:@az):(∀(v:V) (r:eP (kv×V)),(("net":kv),x)::fs≠(("name":kv),v)::r)/\∀(v:V) (r:@az),(("net":kv),x)::fs≠(("ins":kv),v)::r:=
 ⟨λ_ _ h=>(by injection h with h _;injection h with h _;exact hE h @D),λ_ _ h=>(by injection h with h _;injection h with h _;exact hE h @D)⟩
theorem xi (T:@I):!G 1 a.cH a.qS ["self","net"] (Hf @ai a.gT):=by
 refine T.jt.1.okA wK fun θ A outer s H vs Q E ι h=>?_;obtain⟨x,dx,n,N,od,rfl,ζ,na,q⟩:=h
 refine⟨_,((af (!au @K)
  (af (!au ah)
  (af (!au sh)
  (ai (!au @ay)))))),!b1 ?_⟩
 lia;refine dj ζ T.pN T.pe (by show 0 < 1000;decide) rfl λH1 γ=>?_;lia;refine dj γ.at' T.pN T.uv (by show 1 < 1000;decide) rfl λH2 ξ=>?_;have τ:=γ.trans ξ;lia;intro d π ψ α Y;lia;refine dj (α.get τ.at') T.pN T.p7 (by show 2 < 1000;decide) rfl fun ο L=>?_;lia;intro l ν β δ χ;lia;refine dj (δ.get L.at') T.pN T.rG (by show 3 < 1000;decide) rfl fun η Z=>?_;lia;have ε:Kx x H η:=(!ae τ).trans ((Kx.same α).trans ((!ae L).trans ((Kx.same δ).trans (!ae Z))));have G:l≠x:=λz=>(by rw[z,L.at'] at β;cases β)
 have υ:H l=none:=by
  cases e:H l with
  | none=>rfl
  | some o=>
    have:=L.oth _ _ G (α.get (τ.oth _ _ G e));rw[β] at this;cases this
 exact q η l ε υ ⟨⟨dx,d,Z.at'⟩,Z.oth _ _ G χ,na.keep ζ Uc ε⟩
theorem xh (T:@I):!G 1 a.cG a.qR @aa (NR @ai a.gT):=by
 refine T.gW.1.okA wJ λL A outer s H vs Q E Y h=>?_;obtain⟨p,l,n,N,od,st,as,rfl,β,q⟩:=h;obtain⟨dx,d,G⟩:=β.ho;have hl:=β.hl;refine⟨_,(!ag (!b5 rfl @F T.iH qE @aB)),@aH⟩;lia;refine !aq G T.pN T.rG;lia;exact q
theorem E3 (T:@I):!G 5 a.gG a.Ac ["self","row"] (NO @ai a.gT):=by
 refine T.m9.1.okA wI λe9 A outer s H vs Q E τ h=>?_;obtain⟨p,l,n,N,od,st,row,as,rfl,ra,L,e3,q⟩:=h;obtain⟨dx,d,hp⟩:=ra.ho;have hl:=ra.hl;have na:=ra.na;have g:=na.g;have tp:=na.tp;have a3:l≠p:=cy hl hp λz=>by cases z
 obtain⟨e7,ni,ns,nt,no,nd,c5,d1,d2,c4,hn,_⟩:=na.ho
 refine⟨_,((af (!al (!aM (!aa (p5 T) τ T.pC T.jC 1 (!a5 (!N (!bh @Z T.cA T.dO (dm T) (τ.mono @D) T.bT.2))))) iF)
  (af (!au (aj (Cn T) τ T.Fw T.nT (aa @Z (!aS 1 @Z))))
  (af (!au (aj (zO T) τ T.CW T.pM (!Z (bL (osc:=ag pZ) (ON:=["self","row","answer"]) (N:=["store"]) (n:=1) (fx:=[]) rfl rfl rfl @L (!W (!bh @Z T.cA T.ff (d0 T) (τ.mono @D) T.b9.2)) @O (!U (aq (i:=0) (show hM (["store"]:B') from by decide +kernel) rfl @E) @a8)) @Z)))
  (af (!ap wI.nd (aj (zO T) τ T.CW T.pM (!Z (!bh @Z T.cA T.fQ (eW T) (τ.mono @D) T.cw.2) @Z)))
  (af (!aL rfl qq z0 y' fc @Z @a5)
  (!Y @Q))))))),au (σ':=[aY _,aY _,gg]) rfl ?_⟩
 lia;refine !aq hp T.pN T.pe;lia;refine !M hn;lia;refine⟨n,N,od,rfl,na,λD1 H1 f1 s1 e1=>?_⟩;have a8:=s1.get hp;lia;rw[a',cV L];lia;refine !aq a8 T.pN T.pe;lia;refine !aq a8 T.pN T.uv;lia;refine⟨n,N,od,row,st,rfl,!ao s1,fun ζ H2 f f2 s2 e2 vl=>?_⟩;have a4:=s1.trans s2;have a7:=a4.get hp;lia;refine dj a7 T.pN T.p7 (by show 4 < 1000;decide) rfl λH3 u3=>?_;have G:=u3.at';have k3:Kx p H H3:=(Kx.same a4).trans (!ae u3);have a6:=na.keep hp (Kp _ _) k3;have c2:=k3 _ _ a3 hl
 have β:n≠p:=λz=>by
  rw[z,hp] at hn;injection hn with hn
  injection hn with _ _ hn
  exact(Kp _ _).2 _ _ hn
 have γ:=k3 _ _ β hn;have ι:=u3.oth _ _ (cy e2 a7 λz=>by cases z) e2;lia;refine !aq G T.pN T.pe;lia;refine !M γ;lia;refine⟨n,N,od,rfl,a6,λD4 H4 qs f4 s4 e4 ο et=>?_⟩;have e0:qs.length<=16:=by have:=g.lt;rw[<-et,a'] at this;exact this
 lia;intro D5 δ;refine aI (xs:=qs.map λr=>V.ref r.1) (!ca (!aO ((qs.take i).map (·.2.2)))) (!a3 δ) (!b0 e4) (λi x ys H' hx c=>?_) @c7
 ·obtain⟨r,ρ,rfl⟩:=az hx;have e6:=(!K ρ).1;have er:=c.same.get (ο r (eO ρ));lia;refine Cs.put δ c.same c.at' c.len @A ?_;rw[c.pv,take_succ ρ,eF,eF];rfl
 ·have e5:=c.at';rw[c.pv,a',ix] at e5;have θ:=s4.trans c.same;clear c;have ψ:qs.map (·.2.2)=N.sts.map (·.2):=by rw[<-et,tu];rfl
  rw[ψ] at e5;have α:=θ.get G;lia;refine !aq α T.pN T.p7;lia;refine⟨D5,ζ,_,@a1,f,rfl,e5,θ.get ι,by rw[a',<-et,a'];omega,λw hw=>(lV g tp w).mpr (by obtain⟨ε,η,rfl⟩:=hC.mp hw;exact g.ts ε η),λH6 s6=>?_⟩;rw[P7 g tp vl];have ξ:=θ.trans s6;have Z:=ξ.get G;lia;refine dj Z T.pN T.uv (by show 4 < 1000;decide) rfl λH7 ν=>?_;have a0:=ν.at';have π:Kx p H3 H7:=(Kx.same ξ).trans (!ae ν);have χ:Kx p H H7:=k3.trans π;have a5:=na.keep hp (Kp _ _) χ;have c1:=χ _ _ a3 hl;have c0:=χ _ _ β hn;have ω:=π _ _ (cy ι G λz=>by cases z) ι;clear ν Z ξ s6 α e5 δ θ e4 ο et f4 s4 γ a6 c2 π ι G;lia;refine !aq a0 T.pN T.pe;lia;refine !M c0;lia;refine⟨n,N,od,rfl,a5,λD8 H8 f8 s8 e8=>?_⟩;have b6:=s8.get a0;lia;refine !aq b6 T.pN T.p7;lia;have lo:=g.lo;refine⟨D8,ζ,N.outs,@a1,f,rfl,e8,s8.get ω,@A,λw hw=>(lV g tp w).mpr (g.os w hw),λH9 s9=>?_⟩;rw[Qa g tp vl];have Y:=s8.trans s9;have φ:=Y.get a0;have b3:=Y.get c1;lia;refine !aq φ T.pN T.rG;lia;refine gY b3 (by rw[a',lj];omega) λc3 υ=>?_;lia;refine q c3 (λb ob n1 n2 e=>υ.oth _ _ n2 (Y.get (χ _ _ n1 e))) ⟨⟨dx,ζ,υ.oth _ _ a3.symm φ⟩,by rw[υ.at',eF];rfl,(a5.same Y).updL b3 υ.oth⟩
theorem gC (T:@I):!G 6 a.fW a.vd ["net","rows"] (Kd @ai):=by
 refine T.dH.1.okA ny fun τ A outer s H vs Q E δ h=>?_;obtain⟨n,r,N,od,rs,rfl,na,γ,ι,hb,q⟩:=h
 refine⟨_,((af (!ap ny.nd (iZ T.WH (xi T) @c1 @F T.Wx T.jt.2 .nil bC @a6))
  (af (dF qa rfl @bm (aq (i:=3) ny.nd rfl @E) (ai (bH (fE @Q T.pN T.Ig (E3 T) @c1 T.m9.2 .nil bC (!ah 3)))))
  (!Y (!bh @Q T.pN T.za (xh T) @c1 T.gW.2))))),!bO rfl⟩
 lia;intro x dx H1 ζ L ρ;refine⟨x,dx,n,N,od,rfl,ρ,!ao L,λH2 l k2 ο β=>⟨rfl,?_⟩⟩;have Z:Same H H2:=λb ob e=>k2 _ _ (!L ζ) (L.get e);have ε:H l=none:=L.free ο;lia;refine gE (xs:=rs.map nat) (λi σ H'=>∃v,σ=[aY (!j n),aY (!j r),aY (!j x),v]/\Same H H'/\RunA @ai H' a.gT x l n N od (rst N 0 (!aW i)) (ran N 0 (!aW i))) ⟨gg,rfl,Z,β⟩ (λi σ H' _ ⟨_,_,s',_⟩=>SqL.of (!Q γ)) ?_ ?_
 ·rintro i y σ H' ν ⟨v,rfl,s',G⟩;obtain⟨z,hz,rfl⟩:=az ν;have ξ:=(@aX).1;obtain⟨υ,d',ψ⟩:=G.ho;lia;refine !M ψ;lia;refine⟨x,l,n,N,od,_,z,_,rfl,G,hb z (eO hz),by rw[Kw,qF];omega,fun η k3 α=>?_⟩;lia;refine⟨λb ob e=>k3 _ _ (!L ζ) (!L ε) @ad,?_⟩;rw[take_succ hz,Gj,Gp];exact α
 ·rintro σ H' ⟨v,rfl,s',G⟩;rw[a',ix] at G;obtain⟨υ,d',ψ⟩:=G.ho;lia;refine !M ψ;lia;refine⟨x,l,n,N,od,_,_,rfl,G,λD η π θ Y=>?_⟩;exact q D η (s'.free π) (!bb θ) Y
section
local macro_rules | `(tactic| walk_at "l2step") =>`(tactic| first | (with_reducible refine TX ?_) | (with_reducible refine V6 ?_))
theorem nL (T:@I):!G 1 a.jc a.z7 ["letter","count"] Q1:=by
 refine T.jk.1.okA EF λL A outer s H vs Q E Y h=>?_;obtain⟨l,n,rfl,hl,hn,q⟩:=h;refine⟨_,(!ag (bL (osc:=ag pW) (ON:=["letter","count"]) (N:=["number","letter"]) (n:=1) (fx:=[0]) rfl rfl rfl @L (!aN @al) @O (!U (aq (i:=0) (show hM (["number","letter"]:B') from by decide +kernel) rfl @E) (ay ij @K (bc iq @F T.E8 XC @a6))))),!b1 ?_⟩;lia;rw[n'];intro D G;refine !bJ (!bH (!aO (nmb l i))) (!a3 G) @bh
 ·lia;rw[Yr];refine⟨MG @A,l,tx i,rfl,rfl,GX hl @A,?_⟩;refine Cs.put G c.same c.at' c.len @A ?_;rw[c.pv,Oz,eF];rfl
 ·have e:=c.at';rw[c.pv] at e;lia;exact q D H' G c.same e
theorem Cq (T:@I):!G 2 a.hU a.ym ["name","pair"] Q2:=by
 refine T.nU.1.okA uT λa0 A outer s H vs Q E η h=>?_;obtain⟨z,t,x,y,rfl,et,τ,ρ,q⟩:=h
 have pb:∀{m k i:Nat},(!aR m)[i]? =aY k->k < 1000/\i < 1000:=λ{m k i} h=>by
  have a1:=W9.mp (Xs.mp (eO h)).1;have a2:=(!K h).1;have a3:=M.pl_le 1000 m;omega
 have l1:=M.pl_le 1000 x;have Y:=M.pl_le 1000 y
 refine⟨_,((af (bP (osc:=ag ku) (ON:=["name","pair","stores"]) (N:=["place"]) (n:=1) (fx:=[]) (i:=2) uT.nd rfl rfl rfl rfl rfl rfl @L (!W (!aI (p6 T) η T.sT T.lH (!a1 @K))) @O (!U (aq (i:=0) (show hM (["place"]:B') from by decide +kernel) rfl @E) (ay ij bE (bc iq @F T.E8 XC @a6))))
  (!aT (!aS 0 (ay jw @Q (bL (osc:=ag ku) (ON:=["name","pair","stores"]) (N:=["place"]) (n:=1) (fx:=[]) rfl rfl rfl @L (!W (!aI (p6 T) η T.sT T.lH (!a1 @K))) @O (!U (aq (i:=0) (show hM (["place"]:B') from by decide +kernel) rfl @E) (ay ij bE (bc iq @F T.E8 XC @a6))))))))),au (σ':=[aY _,aY _,gg]) rfl ?_⟩
 lia;refine⟨x,rfl,τ,λD1 H1 f1 ξ ω=>?_⟩;lia;intro D2 β;refine !bD (!aR x) (λi ys H'=>Cs (!aO ((!aJ (!aR x)).map λk=>("s":kv)++tx k)) H1 D2 i ys H') (!a3 β) (!b0 ω) (λi v ys H' ε c=>?_) (λys H2 c=>?_)
 ·obtain⟨k,hk,rfl⟩:=az ε;have b1:=pb hk;lia;refine⟨MG @A,"s",tx k,rfl,rfl,GX @L @A,?_⟩;refine Cs.put β c.same c.at' c.len @A ?_;rw[c.pv,take_succ hk,eF,eF];rfl
 ·have θ:=c.at';rw[c.pv,a',ix] at θ;have δ:=c.same;have Z:=ξ.trans δ;clear c;lia;refine⟨y,rfl,ρ,λD3 H3 ψ ν φ=>?_⟩;lia;intro L α;refine !bD (!aR y) (λi ys H'=>Cs (!aO ((!aJ (!aR y)).map λk=>("i":kv)++tx k)) H3 L i ys H') (!a3 α) (!b0 φ) (λi v ys H' ε c=>?_) (λys H4 c=>?_)
  ·obtain⟨k,hk,rfl⟩:=az ε;have b1:=pb hk;lia;refine⟨MG @A,"i",tx k,rfl,rfl,GX @L @A,?_⟩;refine Cs.put α c.same c.at' c.len @A ?_;rw[c.pv,take_succ hk,eF,eF];rfl
  ·have ο:=c.at';rw[c.pv,a',ix] at ο;have G:=ν.trans c.same;clear c;refine oX (G.get θ) ο (by rw[a',a',a',a',lj];omega) λD5 H5 υ ι χ=>?_;rw[<-eF] at χ;lia;intro tt H6 γ ζ π;exact q tt D5 H6 ((Z.trans G).free υ) (Z.trans (G.trans (ι.trans ζ))) π (ζ.get χ)
theorem KY (T:@I):!G 7 a.nP a.GQ ["machine"] (NV @ai a.av):=by
 refine T.wt.1.okA mI λk9 A outer s H vs Q E hr h=>?_;obtain⟨p,m,nx,os,rfl,ma,sl,q⟩:=h;have lp:=sl.lp;have lo:=sl.lo;have m6:=sl.m6;rw[aL] at lp lo;obtain⟨dx,tn,to,hp,hn,ho⟩:=ma.ho;have pn:=ma.hn;have po:=ma.hs;have f7:("n":kv).length<=10:=by decide +kernel
 have f0:("o":kv).length<=10:=by decide +kernel
 have e0:("s":kv).length<=10:=by decide +kernel
 have g0:("i":kv).length<=10:=by decide +kernel
 refine⟨_,((af (!b3 mI.nd rfl (aj (nL T) hr T.qd T.jk (!Z bE (!bd @G T.ax T.bw (bf T) @a4))))
  (af (!ap mI.nd (aj (nL T) hr T.qd T.jk (!Z bE (!bh @G T.ax T.gD (fI T) @a4 T.cb.2))))
  (af (!am mI.nd (ay jw (!b5 rfl @F T.iH qE @aB) (!b5 rfl @F T.iH qE @aB)))
  (af (bP (osc:=ag wc) (ON:=["machine","next_names","out_names","pairs","sums","stores"]) (N:=["name","pair"]) (n:=2) (fx:=[]) (i:=4) mI.nd rfl rfl rfl rfl rfl rfl @L (Uy (K:=K) rfl @F T.UW (ay jw @K @Q) @T) (zS (gZ @O (gZ @O uM))) (!U (!bR rfl rfl (aq (i:=0) (show hM (["name","pair"]:B') from by decide +kernel) rfl @E) (cc (aq (i:=1) (show hM (["name","pair"]:B') from by decide +kernel) rfl @E) kJ)) (!ax (Cq T) hr T.Fx T.nU 0 1)))
  (af (!bm mI.nd @E (HN (K:=K) rfl rfl @F @F T.iH T.UW (aj (nL T) hr T.qd T.jk (!Z bE (!bd @G T.ax T.bw (bf T) @a4))) @K))
  (!Y (iZ T.M6 (iG T) @a4 @F T.L6 T.c9.2 .nil bC (aa (aj (nL T) hr T.qd T.jk (!Z bE @Z)) (!ar 4 5 @a5)))))))))),au (σ':=[aY _,gg,gg,gg,gg,gg]) rfl ?_⟩
 lia;refine !M hp;lia;refine⟨p,m,nx,os,rfl,ma,?_⟩;lia;refine⟨"n",nx.length,rfl,f7,@A,λD1 H1 f1 s1 e1=>?_⟩;lia;refine !M (s1.get hp);lia;refine⟨p,m,nx,os,rfl,ma.same s1,?_⟩;lia;refine⟨"o",os.length,rfl,f0,@A,λD2 H2 f2 s2 e2=>?_⟩;have δ:=s1.trans s2;have i3:=δ.get hn;have ξ:=δ.get ho;have c0:=δ.get hp;lia;refine !ay c0 T.dn;lia;intro D3 H3 f3 s3 e3;lia;refine !ay (s3.get c0) T.fq;have ω:=s3.get ξ;lia;intro L H4 f4 s4 ο;refine oX (s4.get e3) ο (by rw[iE,iE,lj];omega) λD5 H5 f5 s5 e5=>?_;have e5:H5 D5=aY (!A (refs @bo)):=by unfold refs;rw[eF];exact e5
 have a4:=s3.trans (s4.trans s5);have j4:=a4.get (s2.get e1);have j3:=a4.get e2;lia;refine oX j4 j3 (by rw[a',a',bR,bR,lj];omega) λD6 H6 γ s6 π=>?_;rw[<-eF] at π;have c4:=s6.get e5;have a3:=a4.trans s6;have a6:=δ.trans a3;have g3:Prt H6 @bo:=fun ε η=>(gs.mp η).elim (λh=>a6.get (pn ε h)) (λh=>a6.get (po ε h));have χ:(@cf).length=(@bo).length:=by rw[fy,fy,bR,bR]
 clear f3 s3 e3 ω f4 s4 ο f5 s5 e5 s6 ξ i3;lia;refine⟨D6,D5,_,_,rfl,rfl,!ad π,!ad c4,by rw[iE,a'];exact χ,?_⟩;intro D7 c2;refine Pb (xs:=(@cf).map V.str) (ys:=refs @bo) (by rw[iE,a'];exact χ) (λi zs H'=>∃rs:eP Rw,zs=rs.map @bO/\Same H6 H'/\H' D7=aY (!A zs)/\RwL H' rs/\(∀r∈rs,r.2.1≠D7)/\rs.map (·.2.2)=(Ys @cf ((prs @bo).map wr2)).take i) ⟨[],rfl,bo c2,aw,λ_ h=>(by cases h),λ_ h=>(by cases h),rfl⟩ (λi zs H' _ ⟨_,_,s',_⟩=>⟨SqL.of (!Q π),SqL.of (!Q c4)⟩) (λi u v zs H8 pz H9 h3 hv ⟨rs,ez,s8,e8,rl,rd,er⟩ fp s9 k8=>?_) (λzs H7 ⟨rs,ez,s7,e7,rl,rd,er⟩=>?_)
 ·obtain⟨z,hz,rfl⟩:=az h3;obtain⟨r,a7,rfl⟩:=az (f:=λq:Pr3=>V.ref q.1) hv;have i4:=(!K a7).1;rw[fy] at i4;have hm:=eO a7;have bq:=sl.bn r.2 (by rw[show prs nx++prs os=prs @bo from(eF ..).symm];exact hC.mpr ⟨r,hm,rfl⟩);rw[aL] at bq;have j0:=s9.get (s8.get (g3 r hm));lia;refine⟨z,r.1,r.2.1,r.2.2,rfl,j0,iY bq.1 @A,iY bq.2 @A,λtt DD a0 a8 β Y ζ=>?_⟩;have φ:=β.get (s9.get e8);have c1:DD≠D7:=λz=>by rw[z,s9.get e8] at a8;cases a8
  have k7:rs.length=i:=by
   have:=oe w3 er;rw[a',qF,Ze,a',aL,χ,fy] at this;omega
  have υ:∀b ob,b≠D7->a0 b=aY ob->upd a0 D7 (!A (zs++[.ref tt])) b=aY ob:=λb ob n e=>by rw[aD n];exact e
  refine⟨φ,by rw[ez,a'];exact aK @A,rs++[(tt,DD,z,wr2 r.2)],by rw[ez,eF];rfl,λb ob e=>υ _ _ (!L c2) (β.get (s9.get (s8.get e))),aw,λr' ν=>?_,λr' ν=>?_,?_⟩
  ·rcases gs.mp ν with h | h
   ·have t1:=β.get (s9.get (rl r' h).1);have t2:=β.get (s9.get (rl r' h).2);exact⟨υ _ _ (cy t1 φ λz=>by cases z) t1,υ _ _ (rd r' h) t2⟩
   ·rw[eR.mp h];exact⟨υ _ _ (cy Y φ λz=>by cases z) Y,υ _ _ c1 ζ⟩
  ·rcases gs.mp ν with h | h
   ·exact rd r' h
   ·rw[eR.mp h];exact c1
  ·have b6:(Ys @cf ((prs @bo).map wr2))[i]? =aY (z,wr2 r.2):=XY.mpr ⟨hz,by rw[hB,KH a7];rfl⟩;rw[eF,er,take_succ b6];rfl
 ·subst ez;have α:=a6.trans s7;have lz:(Ys @cf ((prs @bo).map wr2)).length=(@cf).length:=by rw[Ze,a',aL,χ];exact ac3 _
  rw[a',<-lz,ix] at er;have ψ:=s7.get (a3.get (s2.get e1));have j1:=s7.get (a3.get e2);lia;refine !M (α.get hp);lia;refine⟨p,m,nx,os,rfl,ma.same α,?_⟩;lia;refine⟨"s",nx.length,rfl,e0,@A,λD8 H8 f8 s8 e8=>?_⟩;lia;refine⟨D8,D1,_,_,rfl,rfl,!ad e8,!ad (s8.get ψ),by rw[a',a',bR,bR],λD9 ι H9 f9 s9 e9 g4 h4=>?_⟩;have b3:=s8.trans s9;have h5:=b3.get (α.get hp);lia;refine !ay h5 T.bu;lia;refine⟨"i",m,rfl,g0,@A,λd2 a0 a8 β k6=>?_⟩;have G:=b3.trans β;lia;intro x θ d1 c3 Z k4;have τ:=G.trans Z;have lq:ι.length=nx.length:=by rw[g4,a',bR]
  obtain⟨qs,ρ⟩:∃qs:eP Qs,qs=Ys ι (Ys (nmb "s" nx.length) (nmb "n" nx.length)):=⟨_,rfl⟩
  have q1:qs.map (λq=>V.ref q.1)=ι.map V.ref:=by
   rw[ρ,show(λq:Qs=>V.ref q.1)=V.ref ∘ Z' from rfl,<-tu,ac7];rw[Ze,bR,bR,ac3,lq];exact mc _
  have q2:qs.map (·.2)=Ys (nmb "s" nx.length) (nmb "n" nx.length):=by
   rw[ρ];show Zc am4 _=_;rw[ar2];rw[Ze,bR,bR,ac3,lq];exact mc _
  have q3:∀ε∈qs,H9 ε.1=aY (!H [.str ε.2.1,.str ε.2.2]):=fun ε η=>by
   obtain⟨j,hj⟩:=WX.mp η;rw[ρ] at hj;obtain⟨z1,z2⟩:=XY.mp hj;obtain⟨z3,z4⟩:=XY.mp z2;exact h4 j ε.1 _ _ z1 (by rw[hB,z3];rfl) (by rw[hB,z4];rfl)
  rw[<-q1] at e9;have h6:Hnd d1 d2 D7 D9 D2 rs qs (jR m @N @X):=⟨Z.get k6,τ.get e7,(rl.same τ),by rw[er];unfold jR;rw[aL,aL,show prs @bo=prs nx++prs os from eF ..],Z.get (β.get e9),fun ε η=>Z.get (β.get (q3 ε η)),by rw[q2];unfold jR;rw[aL],by show d1 D2=aY (!b7 (nmb "o" (@X).length));rw[aL];exact τ.get j1⟩;refine⟨x,θ,d2,D7,D9,D2,rs,qs,jR m @N @X,rfl,k4,h6,uu sl,λc5 od h0 na=>⟨rfl,?_⟩⟩;have a5:Same a0 c5:=λb ob e=>h0 _ _ (!L c3) (Z.get e);exact q x c5 od (α.free (G.free c3)) (α.trans (G.trans a5)) na
end
theorem EV (T:@I):!G 1 a.i6 a.zV ["row"] Hc:=by
 refine T.qj.1.okA EC λZ A outer s H vs Q E α h=>?_;obtain⟨z,rfl,hl,q⟩:=h;refine⟨_,(!ag (eV (K:=K) rfl XZ YW YV wj @G @bp)),@aH⟩;lia;refine EJ @L (by rw[lj];omega) λD H2 Y L G=>?_;rw[Ao] at G;exact q D H2 Y L G
theorem HR (T:@I):!G 1 a.kX a.Df ["text"] J1:=by
 refine T.tM.1.okA Hm λZ A outer s H vs Q E α h=>?_;obtain⟨z,rfl,hl,q⟩:=h;refine⟨_,(!ag (Gu (!O lN @G bE) @ay (eV (K:=K) rfl XZ YW YV wj @G @bp))),@aH⟩;lia;by_cases hz:z=""
 ·refine oV (gB (by rw[hz])) ?_;rw[lx hz] at q;lia;intro D H2 Y L G;exact q D H2 Y L G
 ·refine jv (f' λe=>hz @bQ) ?_;rw[kf hz] at q;lia;refine EJ @L (by rw[lj];omega) λD H2 Y L G=>?_;rw[Ex] at G;exact q D H2 Y L G
theorem EZ (T:@I):!G 2 a.jd a.z8 ["words"] Q7:=by
 refine T.qp.1.okA EH λa4 A outer s H vs Q E υ h=>?_;obtain⟨l,r,rfl,hl,fm,q⟩:=h;have ν:∀(z:kv) (xs:B'),atI ((z::xs).map V.str) 0=aY @aj:=λz xs=>dB (j:=0) rfl;have a1:∀(y z:kv) (xs:B'),atI ((y::z::xs).map V.str) 1=aY @aj:=λy z xs=>dB (j:=1) rfl;have a2:∀(x y z:kv) (xs:B'),atI ((x::y::z::xs).map V.str) 2=aY @aj:=λx y z xs=>dB (j:=2) rfl;have i1:inV (V.str "in") [V.str "in",V.str "out"]=true:=by decide +kernel
 have i2:inV (V.str "out") [V.str "in",V.str "out"]=true:=by decide +kernel
 have i3:inV (V.str "sum") [V.str "in",V.str "out"]=false:=by decide +kernel
 have i4:inV (V.str "store") [V.str "in",V.str "out"]=false:=by decide +kernel
 have j3:inV (V.str "sum") [V.str "sum",V.str "store"]=true:=by decide +kernel
 have j4:inV (V.str "store") [V.str "sum",V.str "store"]=true:=by decide +kernel
 have a3:("sum":kv)≠"store":=by decide +kernel
 refine⟨_,((af (!aX (aQ (P5 (K:=K) rfl) (!a2 @G ah) (c6 (!Z bE bE)) @F) (si (i0 lN (!a5 @a6) ah @be) (uV (!aI (kl T) υ T.mU T.iN (!a2 @G ah)))) bg)
  (af (!aX (!bo (aQ (w9 (K:=K) rfl) (!a2 @G ah) (c6 (!Z bE bE)) @F) (rA (!O Ck (!a5 @a6) ah) (qJ (!O yQ (!a2 @G ah) bE)))) yP bg)
  (af (!aX (PW.pt (Gq (!O lN (!a2 @G ah) bE) (AC (!O yQ (!a5 @a6) ah)))) yP bg)
  (!Y (si (!aI (kl T) υ T.mU T.iN (!a2 @G ah)) (uV (aP (yw (K:=K) rfl rfl) @F T.RV ZN (!N (bL (osc:=ag pX) (ON:=n11) (N:=["word"]) (n:=1) (fx:=[]) rfl rfl rfl @L (!W (j6 @bC @G (kH ah) rB)) @O (!U (aq (i:=0) (show hM (["word"]:B') from by decide +kernel) rfl @E) (aj (kl T) υ T.mU T.iN @a6)))))))))))),@aH⟩
 cases fm with
 | i z h=>
   have hz:=ν "in" [z];have β:=a1 "in" z [];lia;intro ε H1 g1 G γ;refine⟨ε,_,rfl,!I (SqT.of γ),rfl,rfl,?_⟩;rw[kf hH,i1];have hl1:=G.get hl;lia;exact c_nm h fun ι Z=>q ι (G.trans Z)
 | o z h=>
   have hz:=ν "out" [z];have β:=a1 "out" z [];lia;intro ε H1 g1 G γ;refine⟨ε,_,rfl,!I (SqT.of γ),rfl,rfl,?_⟩;rw[kf hH,i2];have hl1:=G.get hl;lia;exact c_nm h fun ι Z=>q ι (G.trans Z)
 | s z ws h hw φ=>
   have hz:=ν "sum" (z::"="::ws);have β:=a1 "sum" z ("="::ws);have π:=a2 "sum" z "=" ws;lia;intro ε H1 g1 G γ;refine⟨ε,_,rfl,!I (SqT.of γ),rfl,rfl,?_⟩;rw[kf hH,i3];have hl1:=G.get hl;lia;intro D2 H2 g2 η e2;refine⟨D2,_,rfl,!I (SqT.of e2),rfl,rfl,?_⟩;rw[lx rfl,j3];have hl2:=η.get hl1;lia;refine c_nm h fun ι Z=>?_;have ω:=Z.get hl2;lia;intro L H4 f4 ξ ο;rw[show cutV ((("sum":kv)::z::("=":kv)::ws).map V.str) (aY 3) gg=(ws).map V.str from(wo _ 3 @C).trans rfl] at ο;have α:=G.trans (η.trans (Z.trans ξ));lia;intro D5 δ;refine aI (xs:=(ws).map V.str) (!ca (!bQ (lA i true))) (!a3 δ) (!b0 ο) (λi x ys H' ρ c=>?_) @c7
   ·obtain⟨θ,Y,rfl⟩:=az ρ;have hi:=(!K Y).1;have ψ:=φ;lia;refine c_nm (hw θ (eO Y)) λH6 ζ=>?_;refine !bf δ ζ (ζ.get c.at') c.len @A ?_;rw[c.pv,Ye,eF];rfl
   ·have χ:=c.at';rw[c.pv] at χ;lia;refine Gh (!ad χ) ?_;rw[show(lA ((ws).map V.str).length true).all id=true from Xn.mpr λb hb=>(ad6.mp hb).2];exact q _ (α.trans c.same)
 | t z y h hy=>
   have τ:∀w∈[y],Nm w:=λw hw=>by rw[eR.mp hw];exact hy
   have hz:=ν "store" [z,"=",y];have β:=a1 "store" z ["=",y];have π:=a2 "store" z "=" [y];lia;intro ε H1 g1 G γ;refine⟨ε,_,rfl,!I (SqT.of γ),rfl,rfl,?_⟩;rw[kf hH,i4];have hl1:=G.get hl;lia;intro D2 H2 g2 η e2;refine⟨D2,_,rfl,!I (SqT.of e2),rfl,rfl,?_⟩;rw[lx rfl,j4];have hl2:=η.get hl1;lia;refine c_nm h fun ι Z=>?_;have ω:=Z.get hl2;lia;intro L H4 f4 ξ ο;rw[show cutV (([("store":kv),z,("=":kv),y]).map V.str) (aY 3) gg=([y]).map V.str from(wo _ 3 @C).trans rfl] at ο;have α:=G.trans (η.trans (Z.trans ξ));lia;intro D5 δ;refine aI (xs:=([y]).map V.str) (!ca (!bQ (lA i true))) (!a3 δ) (!b0 ο) (λi x ys H' ρ c=>?_) @c7
   ·obtain⟨θ,Y,rfl⟩:=az ρ;have hi:=(!K Y).1;have ψ:=(show([y]:B').length<=24 by simp);lia;refine c_nm (τ θ (eO Y)) λH6 ζ=>?_;refine !bf δ ζ (ζ.get c.at') c.len @A ?_;rw[c.pv,Ye,eF];rfl
   ·have χ:=c.at';rw[c.pv] at χ;lia;refine Gh (!ad χ) ?_;rw[show(lA (([y]).map V.str).length true).all id=true from Xn.mpr λb hb=>(ad6.mp hb).2];exact q _ (α.trans c.same)
theorem EY (T:@I):!G 7 a.ja a.zZ ["text"] (QX @ai):=by
 refine T.qo.1.okA fK λh6 A outer s H vs Q E hr h=>?_;obtain⟨G,rfl,fm,lr,g,q⟩:=h;have tl:=NC fm
 have υ:(if txtR G="" then [] else Yd (txtR G) ⟨#[10]⟩)=G.map rowT:=by
  by_cases e:G=[]
  ·subst e;rw[lx (show txtR []="" from rfl)];rfl
  ·rw[kf (QQ fm e),G4 (λr Z=>(fm r Z).wd) e]
 have rl:∀r∈G,(rowT r).length<=1000:=λr Z=>by
  have b1:=(fm r Z).len;have b2:=Az b1.2;omega
 have gd:∀(r:B') (k:Nat),k < r.length->atI @bP (k:Int)=aY (.str (r.getD k "")):=λr k hk=>dB (by rw[hB,eH hk,dt,eH hk];rfl);have fl:∀r∈G,2<=r.length:=λr Z=>by cases fm r Z<;>simp
 have f4:∀r∈G,kd "store" r=true->4<=r.length:=λr Z hk=>by
  obtain⟨n1,n2,n3,n4,n5,n6,n7,n8,n9,α,c3,c2⟩:=w_ne;cases fm r Z with
  | i z h=>exact hE (y2 hk) n2
  | o z h=>exact hE (y2 hk) c2
  | s z ws h hw δ=>exact hE (y2 hk) n5
  | t z y h ι=>simp
 have f3:∀r∈G,kd "sum" r=true->3<=r.length:=λr Z hk=>by
  obtain⟨n1,n2,n3,n4,n5,n6,n7,n8,n9,α,c3,c2⟩:=w_ne;cases fm r Z with
  | i z h=>exact hE (y2 hk) n1
  | o z h=>exact hE (y2 hk) c3
  | s z ws h hw δ=>simp
  | t z y h ι=>simp
 have fs:∀(k:kv) (i:Nat) (r:B'),G[i]? =aY r->(G.take @H).filter (kd k)=(@b8).filter (kd k)++(if kd k r=true then [r] else []):=λk i r h=>by
  rw[take_succ h,Xp,YG];rfl
 refine⟨_,((af (bP (osc:=ag ie) (ON:=n15) (N:=n10) (n:=1) (fx:=[]) (i:=1) fK.nd rfl rfl rfl rfl rfl rfl @L (!W (aj (HR T) hr T.LX T.tM @a6)) @O (!bp rfl @E (aj (EV T) hr T.IC T.qj @a6)))
  (af (dF qa rfl (KM (K:=K) rfl @F T.fP @K) (zN rfl (cc (aq (i:=2) fK.nd rfl @E) (cc (aq (i:=3) fK.nd rfl @E) kJ))) (ai (!al (!aM (aj (EZ T) hr T.IG T.qp (!ah 3))) iF)))
  (af (bP (osc:=ag ie) (ON:=n15) (N:=n11) (n:=1) (fx:=[]) (i:=4) fK.nd rfl rfl rfl rfl rfl rfl @L @bm @O (!be (aq (i:=0) (show hM (n11:B') from by decide +kernel) rfl @E) (!O lN (!a2 @G ah) bE) (!a2 @G ah)))
  (af (bP (osc:=ag ie) (ON:=n15) (N:=n11) (n:=1) (fx:=[]) (i:=5) fK.nd rfl rfl rfl rfl rfl rfl @L @bm @O (!be (aq (i:=0) (show hM (n11:B') from by decide +kernel) rfl @E) (!O lN (!a2 @G ah) bE) (c6 (!Z (!a2 @G ah) (j6 @bC @G (kH ah) rB)))))
  (af (bP (osc:=ag ie) (ON:=n15) (N:=n11) (n:=1) (fx:=[]) (i:=6) fK.nd rfl rfl rfl rfl rfl rfl @L @bm @O (!be (aq (i:=0) (show hM (n11:B') from by decide +kernel) rfl @E) (!O lN (!a2 @G ah) bE) (c6 (!Z (!a2 @G ah) (!a2 @G ah)))))
  (af (bP (osc:=ag ie) (ON:=n15) (N:=n11) (n:=1) (fx:=[]) (i:=7) fK.nd rfl rfl rfl rfl rfl rfl @L @bm @O (!be (aq (i:=0) (show hM (n11:B') from by decide +kernel) rfl @E) (!O lN (!a2 @G ah) bE) (!a2 @G ah)))
  (!Y (iZ T.M6 (iG T) @a4 @F T.L6 T.c9.2 .nil bC (!ar 4 5 (!a9 6 7))))))))))),au (σ':=[aY _,gg,gg,gg,gg,gg,gg,gg]) rfl ?_⟩
 lia;refine⟨txtR G,rfl,@A,λD1 H1 f1 s1 e1=>?_⟩;rw[υ] at e1;lia;intro D2 d2;refine aI (xs:=(G.map rowT).map V.str) (λi ys H'=>∃ds:M',ys=ds.map V.ref/\Same H1 H'/\H' D2=aY @Y/\ds.length=i/\(∀d∈ds,d≠D2)/\∀(j:Nat) (d:ee) (r:B'),ds[j]? =aY d->G[j]? =aY r->H' d=aY (!A @bP)) ⟨[],rfl,bo d2,aw,rfl,λ_ h=>(by cases h),λj d r h=>(by simp at h)⟩ (λi ys H' _ ⟨_,_,s',_⟩=>SqL.of (!Q e1)) ?_ ?_
 ·rintro i y ys H' ι ⟨ds,rfl,s',e',ld,nd,hd⟩;obtain⟨z,hz,rfl⟩:=az ι;rw[hB] at hz;obtain⟨r,Z,rfl⟩:=Yf.mp hz;have a4:=(!K Z).1;have hm:=eO Z;have h4:=rl r hm;lia;refine⟨rowT r,rfl,@A,λD3 H3 τ s3 Y=>?_⟩;rw[Hw (fm r hm).wd (fm r hm).ne] at Y;have d1:D3≠D2:=λz=>by rw[z,e'] at τ;cases τ
  have k3:∀b ob,b≠D2->H3 b=aY ob->upd H3 D2 (!A (ds.map V.ref++[.ref D3])) b=aY ob:=λb ob n e=>by rw[aD n];exact e
  refine⟨s3.get e',by rw[a'];exact aK @A,ds++[D3],by rw[eF];rfl,λb ob e=>k3 _ _ (!L d2) (s3.get @ad),aw,by rw[fy,ld];rfl,λd ζ=>?_,λj d r' hj ξ=>?_⟩
  ·rcases gs.mp ζ with h | h
   ·exact nd d h
   ·rw[eR.mp h];exact d1
  ·by_cases f9:j < ds.length
   ·rw[la f9] at hj;exact k3 _ _ (nd d (eO hj)) (s3.get (hd j d r' hj ξ))
   ·have hl:=(!K hj).1;rw[fy,u9] at hl;rw[lB @A,show j - ds.length=0 by omega] at hj;cases hj;rw[show j=i by omega,Z] at ξ;cases ξ;exact k3 _ _ d1 Y
 ·rintro ys H2 ⟨ds,rfl,s2,e2,ld,nd,hd⟩;rw[a',a'] at ld;have L:∀{j:Nat} {d:ee} {r:B'},ds[j]? =aY d->G[j]? =aY r->H2 d=aY (!A @bP):=λ{j d r}=>hd j d r
  have dr:∀{j:Nat} {d:ee},ds[j]? =aY d->∃r,G[j]? =aY r/\r∈G:=λ{j d} h=>by
   have hl:=(!K h).1;exact⟨_,eH @A,Xm _⟩
  have f0:=s1.trans s2;clear hd nd e1 s2 s1 f1;lia;refine Bo (xs:=ds.map V.ref) (λi σ H'=>∃v2 v3 v4 v5 v6 v7,σ=[aY (.str (txtR G)),aY (!j D2),v2,v3,v4,v5,v6,v7]/\Same H2 H') ⟨gg,gg,gg,gg,gg,gg,rfl,Same.refl _⟩ (λi σ H' _ ⟨_,_,_,_,_,_,_,s'⟩=>SqL.of (!Q e2)) ?_ ?_
  ·rintro i y σ H' pz H3 ι ⟨v2,v3,v4,v5,v6,v7,rfl,s'⟩ fp s3 Y;obtain⟨d,ζ,rfl⟩:=az ι;obtain⟨r,Z,hm⟩:=dr ζ;lia;refine⟨d,r,rfl,s3.get (!Q (L ζ Z)),fm r hm,λH4 s4=>?_⟩;lia;exact⟨_,_,_,_,_,_,rfl,!bb (s3.trans s4)⟩
  ·rintro σ H3 ⟨v2,v3,v4,v5,v6,v7,rfl,s3⟩;have h5:=s3.get e2;lia;intro Di c5;refine !bY (λi ys H'=>Cs (!aO (((@b8).filter (kd "in")).map λr=>r.getD 1 "")) H3 Di i ys H') (!a3 c5) (!b0 (s3.get e2)) (λi y ys H' ι c=>?_) (λys H4 c=>?_)
   ·obtain⟨d,ζ,rfl⟩:=az ι;obtain⟨r,Z,hm⟩:=dr ζ;have a4:=(!K Z).1;have er:=c.same.get (s3.get (L ζ Z));have b3:=fl r hm;have g0:=gd r 0 @A;have g1:=gd r 1 @A;lia;by_cases hk:r.getD 0 ""="in"
    ·refine oV (gB (by rw[hk])) ?_;lia;refine Cs.put c5 c.same c.at' c.len @A ?_;rw[c.pv,fs "in" i r Z,lx (show kd "in" r=true from gB hk),eF,eF];rfl
    ·refine jv (f' λe=>hk @bQ) ?_;refine Cs.skip c.same c.at' c.len ?_;rw[c.pv,fs "in" i r Z,kf (show ¬kd "in" r=true from λz=>hk (y2 z)),XI]
   ·have e0:=c.at';rw[c.pv,a',ld,ix] at e0;have e9:=c.same;clear c;have a8:=s3.trans e9;lia;intro Ds π;refine !bY (λi ys H'=>∃rs:eP Rw,ys=rs.map @bO/\Same H4 H'/\H' Ds=aY @Y/\rs.length<=i/\RwL H' rs/\(∀r∈rs,r.2.1≠Ds)/\rs.map (·.2.2)=((@b8).filter (kd "sum")).map λr=>(r.getD 1 "",r.drop 3)) ⟨[],rfl,bo π,aw,mc _,λ_ h=>(by cases h),λ_ h=>(by cases h),rfl⟩ (λi ys H' _ ⟨_,_,s',_⟩=>SqL.of (!Q (a8.get e2))) ?_ ?_
    ·rintro i y ys H' ι ⟨rs,ey,s',e',f2,rk,rd,ψ⟩;obtain⟨d,ζ,rfl⟩:=az ι;obtain⟨r,Z,hm⟩:=dr ζ;have a4:=(!K Z).1;have er:=s'.get (a8.get (L ζ Z));have b3:=fl r hm;have g0:=gd r 0 @A;have g1:=gd r 1 @A;lia;by_cases hk:r.getD 0 ""="sum"
     ·have χ:kd "sum" r=true:=gB hk;refine oV (gB (by rw[hk])) ?_;lia;intro Dw H5 f5 s5 e5;rw[show cutV @bP (aY 3) gg=(r.drop 3).map V.str from(wo @bP 3 (by rw[a'];exact f3 r hm χ)).trans (aj0 ..).symm] at e5;lia;intro tp H6 γ s6 e6;have a3:=s5.trans s6;have a0:=a3.get e';have c4:Dw≠Ds:=λz=>by rw[z,e'] at f5;cases f5
      have k6:∀b ob,b≠Ds->H6 b=aY ob->upd H6 Ds (!A (ys++[.ref tp])) b=aY ob:=λb ob n e=>by rw[aD n];exact e
      refine⟨a0,by rw[ey,a'];exact aK @A,rs++[(tp,Dw,r.getD 1 "",r.drop 3)],by rw[ey,eF];rfl,λb ob e=>k6 _ _ (!L π) (a3.get @ad),aw,by rw[fy,u9];omega,λr' ν=>?_,λr' ν=>?_,?_⟩
      ·rcases gs.mp ν with h | h
       ·have t1:=a3.get (rk r' h).1;exact⟨k6 _ _ (cy t1 a0 λz=>by cases z) t1,k6 _ _ (rd r' h) (a3.get (rk r' h).2)⟩
       ·rw[eR.mp h];exact⟨k6 _ _ (cy e6 a0 λz=>by cases z) e6,k6 _ _ c4 (!aQ e5)⟩
      ·rcases gs.mp ν with h | h
       ·exact rd r' h
       ·rw[eR.mp h];exact c4
      ·rw[eF,ψ,fs "sum" i r Z,lx χ,eF];rfl
     ·refine jv (f' λe=>hk @bQ) ?_;exact⟨rs,ey,s',e',@A,rk,rd,by rw[ψ,fs "sum" i r Z,kf (show ¬kd "sum" r=true from λz=>hk (y2 z)),XI]⟩
    ·rintro ys H5 ⟨rs,rfl,c0,h0,f2,rk,rd,ψ⟩;rw[a',ld,ix] at ψ;have a7:=a8.trans c0;lia;intro Dt ο;refine !bY (λi ys H'=>∃qs:eP Qs,ys=qs.map @bO/\Same H5 H'/\H' Dt=aY @Y/\qs.length<=i/\QsK H' qs/\qs.map (·.2)=((@b8).filter (kd "store")).map λr=>(r.getD 1 "",r.getD 3 "")) ⟨[],rfl,bo ο,aw,mc _,λ_ h=>(by cases h),rfl⟩ (λi ys H' _ ⟨_,_,s',_⟩=>SqL.of (!Q (a7.get e2))) ?_ ?_
     ·rintro i y ys H' ι ⟨qs,ey,s',e',f7,qk,eq0⟩;obtain⟨d,ζ,rfl⟩:=az ι;obtain⟨r,Z,hm⟩:=dr ζ;have a4:=(!K Z).1;have er:=s'.get (a7.get (L ζ Z));have b3:=fl r hm;have g0:=gd r 0 @A;have g1:=gd r 1 @A;lia;by_cases hk:r.getD 0 ""="store"
      ·have χ:kd "store" r=true:=gB hk;have g3:=gd r 3 (by have:=f4 r hm χ;omega);refine oV (gB (by rw[hk])) ?_;lia;intro tp H6 γ s6 e6;have a0:=s6.get e';refine⟨a0,by rw[ey,a'];exact aK @A,qs++[(tp,r.getD 1 "",r.getD 3 "")],by rw[ey,eF];rfl,λb ob e=>?_,aw,by rw[fy,u9];omega,fun ε η=>?_,?_⟩
       ·rw[aD (!L ο)];exact !aQ @ad
       ·have:H6 ε.1=aY (!H [.str ε.2.1,.str ε.2.2]):=by
         rcases gs.mp η with h | h
         ·exact !aQ (qk ε h)
         ·rw[eR.mp h];exact e6
        rw[aD (cy this a0 λz=>by cases z)];exact this
       ·rw[eF,eq0,fs "store" i r Z,lx χ,eF];rfl
      ·refine jv (f' λe=>hk @bQ) ?_;exact⟨qs,ey,s',e',@A,qk,by rw[eq0,fs "store" i r Z,kf (show ¬kd "store" r=true from λz=>hk (y2 z)),XI]⟩
     ·rintro ys H6 ⟨qs,rfl,ω,g4,f7,qk,eq0⟩;rw[a',ld,ix] at eq0;have a6:=a7.trans ω;lia;intro Do ρ;refine !bY (λi ys H'=>Cs (!aO (((@b8).filter (kd "out")).map λr=>r.getD 1 "")) H6 Do i ys H') (!a3 ρ) (!b0 (a6.get e2)) (λi y ys H' ι c=>?_) (λys H7 c=>?_)
      ·obtain⟨d,ζ,rfl⟩:=az ι;obtain⟨r,Z,hm⟩:=dr ζ;have a4:=(!K Z).1;have er:=c.same.get (a6.get (L ζ Z));have b3:=fl r hm;have g0:=gd r 0 @A;have g1:=gd r 1 @A;lia;by_cases hk:r.getD 0 ""="out"
       ·refine oV (gB (by rw[hk])) ?_;lia;refine Cs.put ρ c.same c.at' c.len @A ?_;rw[c.pv,fs "out" i r Z,lx (show kd "out" r=true from gB hk),eF,eF];rfl
       ·refine jv (f' λe=>hk @bQ) ?_;refine Cs.skip c.same c.at' c.len ?_;rw[c.pv,fs "out" i r Z,kf (show ¬kd "out" r=true from λz=>hk (y2 z)),XI]
      ·have φ:=c.at';rw[c.pv,a',ld,ix] at φ;have b6:=c.same;clear c;lia;intro x h3 H8 f8 s8 β;have θ:=b6.trans s8;have a5:=ω.trans θ;have e7:=c0.trans a5;refine⟨x,h3,Di,Ds,Dt,Do,rs,qs,netR G,rfl,β,⟨e7.get e0,a5.get h0,rk.same a5,ψ,θ.get g4,fun ε m=>θ.get (qk ε m),eq0,s8.get φ⟩,g,λH9 od k9 na=>⟨rfl,?_⟩⟩;have e4:Same H7 H9:=λb ob e=>k9 _ _ (!L f8) (s8.get e);have c1:=f0.trans (a6.trans b6);exact q x H9 od (c1.free f8) (c1.trans e4) na
theorem EW (T:@I):!G 1 a.i7 a.zW ["whole","width","count"] JX:=by
 refine T.ql.1.okA ED λY A outer s H vs Q E Z h=>?_;obtain⟨η,wd,ο,rfl,hw,hT,q⟩:=h;have L:=px wd;have π:(1:Int) * 2 ^ ((wd:Int).toNat) - 1=((2 ^ wd - 1:Nat):Int):=by rw[shl1];omega
 refine⟨_,(!ag (bL (osc:=ag pU) (ON:=["whole","width","count"]) (N:=["place","whole","width"]) (n:=1) (fx:=[0,1]) rfl rfl rfl @L (!aN @a5) @O (!U (aq (i:=0) (show hM (["place","whole","width"]:B') from by decide +kernel) rfl @E) (!ab o8 w8 @K (ay qK @G @Q) (!ab su ig ah @Q ah))))),@b4⟩;lia;intro D G;refine !bJ (!bZ ((qB i).map λt=>(η>>>(t * wd))&&&(2 ^ wd - 1))) (!a3 G) @bh
 ·have α:((0:Int) + (i:Int)) * (wd:Int)=((i * wd:Nat):Int):=by rw[Yr];push_cast;rfl
  lia;rw[α];lia;rw[EB,π,fz];refine Cs.put G c.same c.at' c.len @A ?_;rw[c.pv,Y7,eF,eF];rfl
 ·have α:=c.at';rw[c.pv,n'] at α;exact q D H' G c.same α
theorem Ov (T:@I):!G 5 a.rN a.Mw ["machine","turns"] (NQ a.av):=by
 refine T.BH.1.okA pR λa0 A outer s H vs Q E ρ h=>?_;obtain⟨p,m,nx,os,ο,rfl,ma,g,hT,q⟩:=h;obtain⟨dx,tn,to,ho,hn,ξ⟩:=ma.ho;have m6:=g.m6;have ln:=g.ln
 refine⟨_,((af (bP (osc:=ag wV) (ON:=["machine","turns","states","told","turn"]) (N:=["which","machine"]) (n:=1) (fx:=[0]) (i:=2) pR.nd rfl rfl rfl rfl rfl rfl @L (!aN @aB) @O (!U (aq (i:=0) (show hM (["which","machine"]:B') from by decide +kernel) rfl @E) (!a1 (fH @K T.ax T.gR (fN T) (ρ.mono @D) T.cN.2 .nil thr0 (!Z ah (ay ig ah @G))))))
  (af (!am pR.nd @ay)
  (af (dF qa rfl (!aN @al) (!bn pR.nd rfl) (af (!am pR.nd (ay jw @Q @T))
  (ai (bP (osc:=ag wV) (ON:=["machine","turns","states","told","turn"]) (N:=["state","machine"]) (n:=1) (fx:=[0]) (i:=2) pR.nd rfl rfl rfl rfl rfl rfl @L (!W @Q) @O (!U (aq (i:=0) (show hM (["state","machine"]:B') from by decide +kernel) rfl @E) (!a1 (fH @K T.ax T.gR (fN T) (ρ.mono @D) T.cN.2 .nil thr0 (!aS 0 ah))))))))
  (!Y @T))))),!cg rfl⟩
 lia;refine !ay ho T.bu;lia;intro D φ;refine !bJ (!bZ ((qB i).map λw=>M.tr2 @N 0 @aD)) (!a3 φ) (λys H1 c=>?_)
 ·have ζ:i < m:=by omega
  have ei:(0:Int) + (i:Int)=(i:Int):=Yr _;lia;refine dE (!b2 ho) rfl ?_;lia;rw[ei];lia;rw[shl1];refine⟨p,m,nx,os,nat 0,nat (2 ^ i),"int","int",rfl,ma.same c.same,g,rfl,rfl,λa1 b1 ea Y _ _ t6 H6 G π=>?_,λZ=>?_⟩
  ·have ea:=gM ea;have Y:=gM Y;subst ea Y;lia;refine !bf φ G (G.get c.at') c.len @A ?_;rw[c.pv,Y7,eF,eF];rfl
  ·rcases Z with h | h
   ·rw[cV @aK] at h;cases h
   ·rw[cV (WS @D ζ)] at h;cases h
 ·have ψ:=c.at';rw[c.pv,n'] at ψ;have ν:=c.same;lia;intro D0 H2 f2 ι e2;lia;refine kU (λi σ H'=>∃(v:vr V) (δ Dt:ee),σ=[aY @P,aY (nat ο),aY (!j δ),aY (!j Dt),v]/\Same H H'/\H' δ=aY (!a7 (!bt @N @N m i))/\H' Dt=aY (!a7 (M.rch @N m i))/\H Dt=gg) ⟨gg,D,D0,rfl,ν.trans ι,ι.get ψ,e2,Bn ν f2⟩ ?_ ?_
  ·rintro i σ H' hi ⟨v,δ,Dt,rfl,G,es,et,ft⟩;have ls:(!bt @N @N m i).length=m:=by rw[M.stj_len,M.sg0_len]
   have lr:=M.rch_len @N m i;have υ:i * m<=100 * 6:=YX @A m6;lia;refine oX es et (by rw[a',a',lj];omega) λD7 H7 f7 ε χ=>?_;rw[<-eF] at χ;have η:=ε.get es;lia;intro D8 τ;refine !bD (!bt @N @N m i) (λj ys H'=>Cs (!bE (((!bt @N @N m i).take j).map λx=>M.tr2 @N x 0)) H7 D8 j ys H') (!a3 τ) (!bI η) (λj x ys H' hx c=>?_) @bh
   ·obtain⟨θ,L,rfl⟩:=az hx;have hj:=(!K L).1;have γ:=M.stj_lt @N m i θ (eO L);rw[aL] at γ;have β:=G.trans (ε.trans c.same);lia;refine dE (β.get ho) rfl ?_;lia;refine⟨p,m,nx,os,nat θ,nat 0,"int","int",rfl,ma.same β,g,rfl,rfl,λa1 b1 ea Y _ _ t6 H6 ω π=>?_,λZ=>?_⟩
    ·have ea:=gM ea;have Y:=gM Y;subst ea Y;lia;refine !bf τ ω (ω.get c.at') c.len @A ?_;rw[c.pv,take_succ L,eF,eF];rfl
    ·rcases Z with h | h
     ·rw[cV γ] at h;cases h
     ·rw[cV @aK] at h;cases h
   ·have α:=c.at';rw[c.pv,a',ix] at α;exact⟨_,D8,D7,rfl,G.trans (ε.trans c.same),α,!b2 χ,Bn G f7⟩
  ·rintro σ H' ⟨v,δ,Dt,rfl,G,es,et,ft⟩;rw[n'] at et;lia;exact q Dt H' ft G et
theorem HS (T:@I):!G 2 a.kZ a.Dg @cX (J2 a.av):=by
 refine T.tN.1.okA Hn fun α A outer s H vs Q E G h=>?_;obtain⟨p,D,m,nx,os,η,ο,rfl,ma,g,Z,L,hT,q⟩:=h;obtain⟨dx,β,to,ho,hn,ξ⟩:=ma.ho;have m6:=g.m6;refine⟨_,(!ag (aj (EW T) G T.ID T.ql (aa (aj (mM T) G T.pB T.jB @al) (aa @Z @a5)))),@b4⟩;lia;refine⟨D,!aR η,rfl,Z,λx Y=>M.pl_lt L x Y,?_⟩;rw[JC L];lia;refine !ay ho T.bu;lia;exact⟨η,m,ο,rfl,@A,hT,q⟩
theorem AK (T:@I):!G 5 a.fU a.vb ["machine"] (NY a.av):=by
 refine T.mf.1.okA iz λa0 A outer s H vs Q E Z h=>?_;obtain⟨p,m,nx,os,rfl,ma,g,ω,q⟩:=h;obtain⟨dx,tn,to,ho,hn,φ⟩:=ma.ho;have lo:=g.lo;have ln:=g.ln
 have hA:∀x∈(prs nx).map (·.1),x < 2 ^ nx.length:=λx ζ=>by
  obtain⟨q,υ,rfl⟩:=hC.mp ζ;obtain⟨r,Z,rfl⟩:=hC.mp υ;exact(g.bn r (hG _ Z)).1
 have hO:∀x∈(prs os).map (·.1),x < 2 ^ nx.length:=λx ζ=>by
  obtain⟨q,υ,rfl⟩:=hC.mp ζ;obtain⟨r,Z,rfl⟩:=hC.mp υ;exact(g.bn r (hJ _ Z)).1
 have eA:(nx.map λq=>q.2.1)=(@N).map (·.1):=by rw[tu];rfl
 have lO:((@X).map (·.1)).length=os.length:=by rw[a',a']
 refine⟨_,((af (bP (osc:=ag ju) (ON:=["machine","masks","told","turn"]) (N:=["pair"]) (n:=1) (fx:=[]) (i:=1) iz.nd rfl rfl rfl rfl rfl rfl @L (!bk @Z) @O (!U (aq (i:=0) (show hM (["pair"]:B') from by decide +kernel) rfl @E) @a8))
  (af (!ap iz.nd @ay)
  (af (dF qa rfl (!aN (!N (!bd @G T.ax T.bw (bf T) (Z.mono @D)))) (aq (i:=3) iz.nd rfl @E) (af (!aL rfl qq X3 X2 jx @Q @al)
  (ai (bP (osc:=ag ju) (ON:=["machine","masks","told","turn"]) (N:=["mask","machine"]) (n:=1) (fx:=[0]) (i:=1) iz.nd rfl rfl rfl rfl rfl rfl @L @bm @O (!U (aq (i:=0) (show hM (["mask","machine"]:B') from by decide +kernel) rfl @E) (!a1 (fH @K T.ax T.qM (pd T) (Z.mono @D) T.fA.2 .nil thr0 @a6)))))))
  (!Y @Q))))),au (σ':=[aY _,gg,gg,gg]) rfl ?_⟩
 lia;refine !ay ho T.fq;lia;intro D hD;refine qg (xs:=refs os) (!bZ (!aJ ((@X).map (·.1)))) (!a3 hD) (!c7 φ) (λi v ys H' τ c=>?_) (λys H1 c=>?_)
 ·obtain⟨G,γ,rfl⟩:=az τ;have hi:=(!K γ).1;have ht:=c.same.get (ma.hs G (eO γ));lia;refine Cs.put hD c.same c.at' c.len @A ?_;rw[c.pv,take_succ (show((@X).map (·.1))[i]? =aY G.2.1 by rw[hB,hB,γ];rfl),eF];rfl
 ·have e1:=c.at';rw[c.pv,iE,show os.length=((@X).map (·.1)).length from lO.symm,ix] at e1;have β:=c.same;clear c;lia;intro ι H2 ο ν e2;lia;refine !M ((β.trans ν).get ho);lia;refine⟨p,m,nx,os,rfl,ma.same (β.trans ν),?_⟩;lia;refine kU (λi σ H'=>∃(v:vr V) (θ:ee),σ=[aY @P,aY (!j θ),aY (!j ι),v]/\Same H H'/\H' θ=aY (!a7 (M.lk1 ((@N).map (·.1)) ((@X).map (·.1)) i))/\H' ι=aY (!a7 (M.lkm ((@N).map (·.1)) ((@X).map (·.1)) i))/\θ≠ι) ⟨gg,D,rfl,β.trans ν,?_,e2,?_⟩ ?_ ?_
  ·rw[ν.get e1];unfold M.lk1;rw[show(λs=>M.bkI ((@N).map (·.1)) s 0)=id from rfl,ac1]
  ·exactλz=>by rw[<-z,e1] at ο;cases ο
  ·rintro i σ H' hi ⟨v,θ,rfl,s',ψ,et,nm⟩;have ll:=M.lkm_len ((@N).map (·.1)) ((@X).map (·.1)) i;have l1:=M.lk1_len ((@N).map (·.1)) ((@X).map (·.1)) i;have b6:i * ((@X).map (·.1)).length<=60 * 6:=YX @A @A;lia;refine jZ et ψ (by rw[a',a',ll,l1];exact Y6 (aK @A)) nm.symm λH5 ρ=>?_;have ε:H ι=none:=β.free ο;have s5:=ρ.same ε s';have χ:=ρ.oth _ _ nm ψ;have Y:=ρ.at';rw[<-eF] at Y
   have bm:∀x∈M.lk1 ((prs nx).map (·.1)) ((prs os).map (·.1)) i,x < 2 ^ nx.length:=λx ζ=>by
    obtain⟨y,L,rfl⟩:=hC.mp ζ;exact M.bkI_lt hA (hO y L) i
   lia;intro D5 δ;refine !bD (M.lk1 ((@N).map (·.1)) ((@X).map (·.1)) i) (λj ys H'=>Cs (!bE ((M.lk1 ((@N).map (·.1)) ((@X).map (·.1)) @H).take j)) H5 D5 j ys H') (!a3 δ) (!bI χ) (λj v ys H6 τ c=>?_) (λys H6 c=>?_)
   ·obtain⟨y,L,rfl⟩:=az τ;have hj:=(!K L).1;have ξ:=bm y (eO L);have α:=s5.trans c.same;lia;refine dE (α.get ho) rfl ?_;lia;refine⟨p,m,nx,os,nat y,"int",rfl,ma.same α,g,rfl,λa1 ea ha t7 H7 s7 e7=>?_,fun η=>?_⟩
    ·have ea:=gM ea;subst ea;lia;refine !bf δ s7 (s7.get c.at') c.len @A ?_;rw[c.pv,take_succ (show(M.lk1 ((@N).map (·.1)) ((@X).map (·.1)) @H)[j]? =aY (M.sm ((@N).map (·.1)) y) from ?_),eF,eA];rfl;unfold M.lk1 at L ⊢;rw[hB] at L ⊢;cases e:((@X).map (·.1))[j]? with
     | none=>rw[e] at L;cases L
     | some z=>rw[e] at L;rw[<-qA L,M.bkI_succ];rfl
    ·rw[cV ξ] at η;cases η
   ·have π:=c.at';rw[c.pv,a',l1,<-M.lk1_len ((@N).map (·.1)) ((@X).map (·.1)) @H,ix] at π;have s6:=c.same;clear c;lia;exact⟨_,D5,rfl,s5.trans s6,π,!aQ Y,λz=>by rw[z,Y] at δ;cases δ⟩
  ·rintro σ H' ⟨v,θ,rfl,s',ψ,et,nm⟩;lia;refine q ι H' (β.free ο) s' ?_;unfold M.msk;rw[aL];exact et
theorem nK (T:@I):!G 3 a.jb a.z6 ["mask","others"] QZ:=by
 refine T.ji.1.okA EE fun ι A outer s H vs Q E ε h=>?_;obtain⟨r,x,L,rfl,φ,ν,η,q⟩:=h;refine⟨_,(!ag (!aI (mM T) ε T.pB T.jB (bL (osc:=ag pV) (ON:=["mask","others"]) (N:=n24) (n:=2) (fx:=[0]) rfl rfl rfl @L (p3 (K:=K) rfl @F T.fP @K) (zS (gZ @O (gZ @O uM))) (!be (!bR rfl rfl (aq (i:=0) (show hM (n24:B') from by decide +kernel) rfl @E) (cc (aq (i:=1) (show hM (n24:B') from by decide +kernel) rfl @E) kJ)) (!aM (!aI (AL T) ε T.GM T.yD (ay o8 @Q @K))) @G)))),!b1 ?_⟩;lia;refine !E ⟨⟨_,SqL.of φ⟩,?_⟩;intro D ζ;refine Af (xs:=L.map nat) (!bH (λi ys=>∃qs:C',ys=qs.map nat/\(∀p∈qs,p < i)/\M.xm qs=M.ow x (L.take i))) (Cs.zero ζ ⟨[],rfl,λ_ h=>hE h @C,rfl⟩) (λi ys H' _ c=>Same.seq c.same (!ad φ)) (λi v ys H' p ο θ c fp δ ξ=>?_) @bh
 ·obtain⟨G,γ,rfl⟩:=az θ;obtain⟨qs,ρ,Z,Y⟩:=c.pv;have hi:=(!K γ).1;have ts:=RM (x:=x) γ;lia;rw[fz];refine⟨x&&&G,rfl,Xe ZW η,?_⟩;cases β:M.od (x&&&G) with
  | true=>
    rw[β,lx rfl] at ts;refine⟨false,rfl,?_⟩;dsimp only;rw[lx (show(!false)=true from rfl)];lia;refine !bf ζ δ (δ.get c.at') c.len @A ⟨qs++[i],?_,λk hk=>?_,?_⟩
    ·rw[ρ,eF];rfl
    ·rcases gs.mp hk with h | h
     ·have:=Z k h;omega
     ·rw[eR.mp h];omega
    ·rw[M.xm_snoc,Y,ts]
  | false=>
    rw[β,kf hH,Xo] at ts;refine⟨true,rfl,?_⟩;dsimp only;rw[kf @D];refine Cs.skip (c.same.trans δ) (δ.get c.at') c.len ⟨qs,ρ,λk hk=>?_,?_⟩
    ·have:=Z k hk;omega
    ·rw[Y,ts]
 ·obtain⟨qs,ρ,Z,Y⟩:=c.pv;rw[a'] at Z Y;have α:=c.at';rw[ρ] at α;lia;refine⟨D,qs,rfl,α,λk hk=>by have:=Z k hk;omega,?_⟩;rw[Y,ix];exact q _ c.same
theorem og (T:@I):!G 7 a.du a.pF ["pair","states","seen"] Th:=by
 refine T.gh.1.okA vn fun ρ A outer s H vs Q E α h=>?_;obtain⟨t,D1,ψ,x,b,S,Z,rfl,ht,h1,h2,δ,γ,ω,τ,sp,q⟩:=h;refine⟨_,((!aT (!Z (!aI (mM T) α T.pB T.jB (!a1 (!aa (ui T) α T.x6 T.mY 2 (aj (nK T) α T.qc T.ji (aa @a8 @al))))) @a8))),@b4⟩;lia;refine⟨D1,x,S,rfl,h1,δ,τ,λH3 Y=>?_⟩;lia;refine⟨ψ,Z,_,rfl,Y.get h2,γ,ω,!a6 (M.ow_lt _ _) δ,!E sp,fun θ L φ η f4 G π ο sd=>?_,fun θ φ mk G π bd=>hE sp bd.ns⟩;have ε:η < 2 ^ 1000:=gA sd.lt (hL @D γ);have β:=G.get (Y.get ht);lia;refine⟨L,!aR η,rfl,ο,λx ν=>M.pl_lt ε x ν,?_⟩;rw[JC ε];lia;intro ζ υ ξ ι χ;exact q ζ υ η (Y.free (G.free ξ)) (Y.trans (G.trans ι)) χ sd
theorem Ow (T:@I):!G 9 a.rO a.Mx ["machine"] (N1 a.av):=by
 refine T.BI.1.okA jl λu2 A outer s H vs Q E hr h=>?_;obtain⟨p,m,nx,os,rfl,ma,g,ω,q⟩:=h;obtain⟨dx,tn,to,ho,hn,q7⟩:=ma.ho;have lo:=g.lo;have m6:=g.m6
 refine⟨_,((af (!b3 jl.nd rfl (!aa (Ov T) hr T.Sf T.BH 0 (!bd @G T.ax T.bw (bf T) @a4)))
  (af (!ap jl.nd (aj (AK T) hr T.CY T.mf @a6))
  (af (!am jl.nd (!aI (E1 T) hr T.L1 T.Aj (bL (osc:=ag kz) (ON:=n12) (N:=["state","masks"]) (n:=1) (fx:=[2]) rfl rfl rfl @L @bm @O (!U (aq (i:=0) (show hM (["state","masks"]:B') from by decide +kernel) rfl @E) (!ax (nK T) hr T.qc T.ji 0 1)))))
  (af (!bi jl.nd rfl (bL (osc:=ag kz) (ON:=n12) (N:=["place","leads"]) (n:=1) (fx:=[1]) rfl rfl rfl @L (!W @T) @O (!U (aq (i:=0) (show hM (["place","leads"]:B') from by decide +kernel) rfl @E) (!a2 @K @G))))
  (af (!bm jl.nd @E (!aI (E1 T) hr T.L1 T.Aj (bL (osc:=ag kz) (ON:=n12) (N:=["mask","states"]) (n:=1) (fx:=[4]) rfl rfl rfl @L (!W @Q) @O (!U (aq (i:=0) (show hM (["mask","states"]:B') from by decide +kernel) rfl @E) (!ax (nK T) hr T.qc T.ji 0 1)))))
  (af (aA (i:=6) jl.nd rfl @E (bL (osc:=ag kz) (ON:=n12) (N:=["place","masks","states"]) (n:=1) (fx:=[2,4]) rfl rfl rfl @L (!W @aE) @O (!U (aq (i:=0) (show hM (["place","masks","states"]:B') from by decide +kernel) rfl @E) (aj (nK T) hr T.qc T.ji (aa (!a2 @K @G) @a5)))))
  (af (bP (osc:=ag kz) (ON:=n12) (N:=["place","machine","masks","states","seen"]) (n:=1) (fx:=[0,2,4,6]) (i:=7) jl.nd rfl rfl rfl rfl rfl rfl @L (!W @aE) @O (!U (aq (i:=0) (show hM (["place","machine","masks","states","seen"]:B') from by decide +kernel) rfl @E) (aj (og T) hr T.pA T.gh (aa (fH @K T.ax T.qM (pd T) @a4 T.fA.2 .nil thr0 (!N (!a2 @Q @G))) (!a9 3 4)))))
  (af (bP (osc:=ag kz) (ON:=n12) (N:=["pair","states","seen"]) (n:=1) (fx:=[4,6]) (i:=8) jl.nd rfl rfl rfl rfl rfl rfl @L (!bk @Z) @O (!U (aq (i:=0) (show hM (["pair","states","seen"]:B') from by decide +kernel) rfl @E) (aj (og T) hr T.pA T.gh (!ar 0 1 @a5))))
  (af (bP (osc:=ag kz) (ON:=n12) (N:=n19) (n:=1) (fx:=[0]) (i:=9) jl.nd rfl rfl rfl rfl rfl rfl @L (!W @T) @O (!U (aq (i:=0) (show hM (n19:B') from by decide +kernel) rfl @E) (aj (HS T) hr T.LY T.tN (!bj 1 (!Z (cU @a6) (!bd @K T.ax T.bw (bf T) @a4))))))
  (!aT (aa (iZ T.Ef (kN T) @a4 @F T.C3 T.dI.2 .nil bC (aa @Z (!a9 7 8))) (!aS 9 (bL (osc:=ag kz) (ON:=n12) (N:=n19) (n:=1) (fx:=[0]) rfl rfl rfl @L (!W @aE) @O (!U (aq (i:=0) (show hM (n19:B') from by decide +kernel) rfl @E) (aP Ja @F T.OD PyProof.Rows.boot_divmod (!aS 0 (!bh @K T.ax T.gD (fI T) @a4 T.cb.2)))))))))))))))))),au (σ':=[aY _,gg,gg,gg,gg,gg,gg,gg,gg,gg]) rfl ?_⟩
 lia;refine !M ho;lia;refine⟨p,m,nx,os,rfl,ma,?_⟩;lia;refine⟨p,m,nx,os,_,rfl,ma,g,@A,λDl H1 f1 s1 e1=>?_⟩;lia;refine⟨p,m,nx,os,rfl,ma.same s1,g,ω,λDm H2 f2 s2 e2=>?_⟩;have c2:=s2.get e1;have q2:=s1.trans s2
 have a0:M.Fit @N @X m:=⟨by rw[aL];omega,λq hq=>by
  rw[show prs nx++prs os=prs @bo from(eF ..).symm] at hq;obtain⟨r,hr,rfl⟩:=hC.mp hq;rw[aL];exact(g.bn r hr).1⟩
 obtain⟨X,eX⟩:∃X,X=M.rch @N m (@N).length:=⟨_,rfl⟩;obtain⟨Y,eY⟩:∃Y,Y=M.msk @N @X:=⟨_,rfl⟩;have lX:X.length=nx.length * m:=by rw[eX,M.rch_len,aL]
 have lY:Y.length=nx.length * os.length:=by rw[eY];unfold M.msk;rw[M.lkm_len,aL,a',aL]
 have t3:nx.length * m<=60 * 6:=YX ω m6;have t1:nx.length * os.length<=60 * 6:=YX ω lo;have pw:2 ^ nx.length<=2 ^ 1000:=hL @D @A;have bX:∀x∈X,x < 2 ^ nx.length:=λx hx=>by rw[eX] at hx;have:=M.rch_lt @N m _ x hx;rwa [aL] at this
 have bY:∀x∈Y,x < 2 ^ nx.length:=λx hx=>by
  rw[eY] at hx;obtain⟨s,t,hs,ht,rfl⟩:=M.lkm_of hx;have:=M.bkI_lt a0.A (a0.O s hs) t;rwa [aL] at this
 rw[<-aL nx,<-eX] at c2;rw[<-eY] at e2;have a7:=e2;clear e1;lia;intro D3 l1;refine aI (xs:=X.map nat) (λj ys H'=>Cs (!bE ((X.map (M.ow · Y)).take j)) H2 D3 j ys H') (!a3 l1) (!bI c2) @cv @cp
 ·obtain⟨y,ι,rfl⟩:=az hv;have hj:=(!K ι).1;have ξ:=bX y (eO ι);lia;refine⟨Dm,y,Y,rfl,!b2 e2,@A,gA ξ pw,λH7 s7=>?_⟩;refine !bf l1 s7 (s7.get c.at') c.len @A ?_;rw[c.pv,take_succ (show(X.map (M.ow · Y))[j]? =aY (M.ow y Y) by rw[hB,ι];rfl),eF];rfl
 have e3:=c.at';rw[c.pv,a',<-a' (as:=X) (f:=(M.ow · Y)),ix] at e3;have q1:=q2.trans c.same;have m7:=c.same.get c2;have m5:=c.same.get e2;clear c a7 c2 e2;lia;refine⟨D3,X.map (M.ow · Y),rfl,e3,by rw[a'];omega,λDd H4 f4 s4 ο=>?_⟩;obtain⟨θ,ν⟩:∃θ,θ=M.ldp @N @X m:=⟨_,rfl⟩;have ο:H4 Dd=aY (!A (θ.map nat)):=by rw[ο,ν,eX,eY];rfl
 have α:∀i∈θ,i < X.length:=λi hi=>by rw[ν] at hi;have:=M.ldp_lt i hi;rw[eX];exact this
 have s8:θ.length<=360:=by
  have:=M.fr_len (X.map (M.ow · Y));rw[ν];unfold M.ldp;rw[<-eX,<-eY];rw[a'] at this;omega
 have L:=s4.get m7;have m4:=s4.get m5;have q0:=q1.trans s4;clear m7 m5 e3;lia;intro D5 l0;refine aI (xs:=θ.map nat) (λj ys H'=>Cs (!bE ((θ.map λi=>X.getD i 0).take j)) H4 D5 j ys H') (!a3 l0) (!bI ο) @cv @c7
 ·obtain⟨y,ι,rfl⟩:=az hv;have hj:=(!K ι).1;have ξ:=α y (eO ι);have t7:=c.same.get L;have gx:atI (X.map nat) (y:Int)=aY (nat (X.getD y 0)):=dB (by rw[hB,M.getD_at' (d:=0) ξ];rfl);lia;refine Cs.put l0 c.same c.at' c.len @A ?_;rw[c.pv,take_succ (show(θ.map λi=>X.getD i 0)[j]? =aY (X.getD y 0) by rw[hB,ι];rfl),eF];rfl
 obtain⟨S,eS⟩:∃S,S=M.lst_ @N @X m:=⟨_,rfl⟩;have χ:=c.at';rw[c.pv,a',<-a' (as:=θ) (f:=λi=>X.getD i 0),ix] at χ;have χ:H5 D5=aY (!A (S.map nat)):=by rw[χ,eS,ν,eX];rfl
 have lS:S.length=θ.length:=by rw[eS,ν,M.lst_len]
 have bS:∀x∈S,x < 2 ^ nx.length:=λx hx=>by rw[eS] at hx;have:=M.lst_in x hx;rw[<-eX] at this;exact bX x this
 have ψ:=q0.trans c.same;have r2:=c.same.get L;have g4:=c.same.get m4;have m1:=c.same.get ο;clear c L m4 ο;lia;intro D6 k9;refine aI (xs:=Y.map nat) (λj ys H'=>Cs (!bE ((Y.map (M.ow · S)).take j)) H5 D6 j ys H') (!a3 k9) (!bI g4) @cv (λys H6 c=>?_)
 ·obtain⟨y,ι,rfl⟩:=az hv;have hj:=(!K ι).1;have ξ:=bY y (eO ι);lia;refine⟨D5,y,S,rfl,!b2 χ,@A,gA ξ pw,λH7 s7=>?_⟩;refine !bf k9 s7 (s7.get c.at') c.len @A ?_;rw[c.pv,take_succ (show(Y.map (M.ow · S))[j]? =aY (M.ow y S) by rw[hB,ι];rfl),eF];rfl
 have π:=c.at';rw[c.pv,a',<-a' (as:=Y) (f:=(M.ow · S)),ix] at π;have p0:=ψ.trans c.same;have m3:=c.same.get g4;have n2:=c.same.get χ;have m0:=c.same.get m1;clear c r2 g4 χ m1;lia;refine⟨D6,Y.map (M.ow · S),rfl,π,by rw[a'];omega,λDk H7 f7 s7 e7=>?_⟩;obtain⟨δ,ζ⟩:∃δ,δ=M.lkp @N @X m:=⟨_,rfl⟩;have e7:H7 Dk=aY (!A (δ.map nat)):=by rw[e7,ζ,eY,eS];rfl
 have a8:∀i∈δ,i < Y.length:=λi hi=>by rw[ζ] at hi;have:=M.lkp_lt i hi;rw[eY];exact this
 have s6:δ.length<=nx.length:=by rw[ζ,<-aL nx];exact M.many_le
 have g3:=s7.get m3;have h3:=s7.get n2;have l8:=s7.get m0;have o3:=p0.trans s7;clear m3 n2 m0 π;lia;intro D8 k8;refine aI (xs:=δ.map nat) (λj ys H'=>Cs (!bE ((δ.map λi=>M.ow (!b4 i) S).take j)) H7 D8 j ys H') (!a3 k8) (!bI e7) (λj v ys H8 hv c=>?_) (λys H8 c=>?_)
 ·obtain⟨y,ι,rfl⟩:=az hv;have hj:=(!K ι).1;have ξ:=a8 y (eO ι);have g0:=c.same.get g3;have gy:atI (Y.map nat) (y:Int)=aY (nat (!b4 y)):=dB (by rw[hB,M.getD_at' (d:=0) ξ];rfl);lia;refine⟨D5,!b4 y,S,rfl,!b2 h3,@A,gA (bY _ (M.getD_mem ξ)) pw,λH9 s9=>?_⟩;refine !bf k8 s9 (s9.get c.at') c.len @A ?_;rw[c.pv,take_succ (show(δ.map λi=>M.ow (!b4 i) S)[j]? =aY (M.ow (!b4 y) S) by rw[hB,ι];rfl),eF];rfl
 obtain⟨Z,eZ⟩:∃Z,Z=M.sen @N @X m:=⟨_,rfl⟩;have e8:=c.at';rw[c.pv,a',<-a' (as:=δ) (f:=λi=>M.ow (!b4 i) S),ix] at e8
 have e8:H8 D8=aY (!A (Z.map nat)):=by
  rw[e8,eZ,ζ,eY,eS];unfold M.sen M.lkL;rw[tu (l:=M.lkp _ _ _) (g:=λx=>M.ow x _)];rfl
 have lZ:Z.length=δ.length:=by rw[eZ,ζ,M.sen_len]
 have bZ:∀x∈Z,x < 2 ^ 1000:=λx hx=>by
  rw[eZ] at hx;obtain⟨y,_,rfl⟩:=hC.mp hx;exact !a6 (M.ow_lt _ _) (by rw[<-eS];omega)
 have h6:=o3.trans c.same;have g0:=c.same.get g3;have h0:=c.same.get h3;have l7:=c.same.get l8;have f9:=c.same.get e7;clear c g3 h3 l8 e7;have eA:(nx.map λq=>q.2.1)=(@N).map (·.1):=by rw[tu];rfl
 have eB:(nx.map λq=>q.2.2)=(@N).map (·.2):=by rw[tu];rfl
 have bA:∀y,M.sm ((@N).map (·.1)) y < 2 ^ nx.length:=λy=>by have:=M.sm_lt y a0.A;rwa [aL] at this
 have bB:∀y,M.sm ((@N).map (·.2)) y < 2 ^ m:=λy=>M.sm_lt y λx hx=>by
  obtain⟨q,hq,rfl⟩:=hC.mp hx;obtain⟨r,hr,rfl⟩:=hC.mp hq;exact(g.bn r (hG _ hr)).2
 lia;intro D9 k7;refine aI (xs:=δ.map nat) (λj ys H'=>Cp (λqs=>∀(j:Nat) (q:Pr3),qs[j]? =aY q->q.2.1 < 2 ^ δ.length/\M.sm Z q.2.1=M.ow (M.sm ((@N).map (·.1)) (!b4 (δ.getD j 0))) S/\q.2.2=M.sm ((@N).map (·.2)) (!b4 (δ.getD j 0))) H8 D9 j ys H') (MC k7 λj q h=>by simp at h) (λj ys H' _ ⟨_,_,_,_,_,s',_⟩=>SqL.of (!Q f9)) (λj v ys H9 hv c=>?_) (λys H9 c=>?_)
 ·obtain⟨y,ι,rfl⟩:=az hv;obtain⟨qs,rfl,lq,pv,pt,s9,r5⟩:=c;have hj:=(!K ι).1;have ξ:=a8 y (eO ι);have f0:=M.getD_mem ξ;have t6:=s9.get g0;have a3:=h6.trans s9;have gy:atI (Y.map nat) (y:Int)=aY (nat (!b4 y)):=dB (by rw[hB,M.getD_at' (d:=0) ξ];rfl);lia;refine dE (a3.get ho) rfl ?_;lia;refine⟨p,m,nx,os,nat (!b4 y),"int",rfl,ma.same a3,g,rfl,λa1 ea ha n9 u3 β n6=>?_,λn7=>?_⟩
  ·have ea:=gM ea;subst ea;rw[eA,eB] at n6;lia;refine⟨n9,D5,D8,_,_,S,Z,rfl,n6,β.get (s9.get h0),β.get (s9.get e8),@A,@A,bZ,gA (bA _) pw,?_,λc3 s5 η ρ c5 h4 sd=>?_⟩
   ·rw[eZ,eS];rw[eY] at f0;exact M.span_sen (a0.back (by rw[eY];exact f0))
   ·refine Qw k7 lq pt s9 r5 (β.trans c5) h4 @A λk q hk=>?_;by_cases f5:k < qs.length
    ·rw[la f5] at hk;exact pv k q hk
    ·rw[lB @A] at hk
     have hz:k - qs.length=0:=by
      cases e:k - qs.length with
      | zero=>rfl
      | succ m=>rw[e] at hk;simp at hk
     rw[hz] at hk;have hk:q=(c3,η,M.sm ((@N).map (·.2)) (!b4 y)):=(qA hk).symm;have f3:k=j:=by omega
     have ε:δ.getD k 0=y:=by rw[f3,dt,ι];rfl
     rw[hk,ε];exact⟨by have:=sd.lt;rwa [lZ] at this,sd.sm,rfl⟩
  ·rw[cV (bY _ f0)] at n7;cases n7
 obtain⟨c1,rfl,e0,j1,i4,s9,e9⟩:=c;rw[a'] at e0;have a3:=h6.trans s9;have n0:=s9.get h0;have m2:=s9.get e8;have l5:=s9.get l7;have l3:=s9.get f9;clear g0 h0 e8 l7 f9;lia;refine !ay (a3.get ho) T.fq;have q6:=a3.get q7;lia;intro DA k6;refine qg (xs:=refs os) (λj ys H'=>Cp (λqs=>∀(j:Nat) (q:Pr3),qs[j]? =aY q->q.2.1 < 2 ^ δ.length/\M.sm Z q.2.1=M.ow ((@X).getD j (0,0)).1 S/\q.2.2=((@X).getD j (0,0)).2) H9 DA j ys H') (MC k6 λj q h=>by simp at h) (λj ys H' _ ⟨_,_,_,_,_,s',_⟩=>SqT.of (!Q q6)) (λj v ys HA hv c=>?_) (λys HA c=>?_)
 ·obtain⟨G,γ,rfl⟩:=az hv;obtain⟨qs,rfl,lq,pv,pt,sA,r4⟩:=c;have hj:=(!K γ).1;have hm:=eO γ;have a4:=a3.trans sA;have k4:(@X)[j]? =aY G.2:=KH γ;lia;refine⟨G.1,D5,D8,G.2.1,G.2.2,S,Z,rfl,a4.get (ma.hs G hm),sA.get n0,sA.get m2,@A,@A,bZ,gA (g.bn G (hJ _ hm)).1 pw,?_,λc3 s5 η ρ c5 h4 sd=>?_⟩
  ·rw[eZ,eS];exact M.span_sen (a0.out (!an ⟨G.2,eO k4,rfl⟩))
  ·refine Qw k6 lq pt sA r4 c5 h4 @A λk q hk=>?_;by_cases f5:k < qs.length
   ·rw[la f5] at hk;exact pv k q hk
   ·rw[lB @A] at hk
    have hz:k - qs.length=0:=by
     cases e:k - qs.length with
     | zero=>rfl
     | succ m=>rw[e] at hk;simp at hk
    rw[hz] at hk;have hk:q=(c3,η,G.2.2):=(qA hk).symm;have f3:k=j:=by omega
    have ε:(@X).getD k (0,0)=G.2:=by rw[f3,dt,k4];rfl
    rw[hk,ε];exact⟨by have:=sd.lt;rwa [lZ] at this,sd.sm,rfl⟩
 obtain⟨c0,rfl,τ,j0,q3,sA,n4⟩:=c;rw[iE] at τ;have a4:=a3.trans sA;have l4:=sA.get l5;have l2:=sA.get l3;have n5:=sA.get e9;have i3:=i4.same sA;clear n0 m2 l5 l3 e9 i4;lia;intro DB f6;refine aI (xs:=θ.map nat) (λj ys H'=>Co (!bU (M.upk m (2 ^ θ.getD j 0) nx.length)) HA DB j ys H') (rS f6) (λj ys H' _ ⟨_,_,_,_,_,s',_⟩=>SqL.of (!Q l4)) (λj v ys HB hv c=>?_) (λys HB c=>?_)
 ·obtain⟨y,ι,rfl⟩:=az hv;have c':=c;obtain⟨qs,q9,lq,pa,pf,sB,u1⟩:=c';have hj:=(!K ι).1;have ξ:=α y (eO ι);have b6:=a4.trans sB;lia;intro Dq HC fC sC eC;have d2:=b6.trans sC;lia;refine !M (d2.get ho);lia;refine⟨p,m,nx,os,rfl,ma.same d2,?_⟩;lia;refine⟨p,Dq,m,nx,os,2 ^ y,_,rfl,ma.same d2,g,by rw[Ux (show y < 1000 by omega)];exact eC,WS @D @A,@A,λD2 s3 f8 c4 a7=>?_⟩;refine yu f6 c (sC.trans c4) (sC.free f8) ?_ @A;rw[a7];have ε:θ.getD j 0=y:=by rw[dt,ι];rfl
  rw[ε]
 obtain⟨ds,rfl,j4,n8,q8,sB,n3⟩:=c;rw[a'] at j4;have b6:=a4.trans sB
 have tabB:Tab HB D9 DA m c1 c0:=⟨m6,sB.get n5,sB.get n4,i3.same sB,q3.same sB,@A,@A,λq hq=>by
  rw[e0];rcases gs.mp hq with h | h
  ·obtain⟨j,hj,ej⟩:=WW.mp h;have:=j1 j q (by rw[eH hj,ej]);exact⟨this.1,by rw[this.2.2];exact bB _⟩
  ·obtain⟨j,hj,ej⟩:=WW.mp h;have:=j0 j q (by rw[eH hj,ej]);refine⟨this.1,?_⟩;rw[this.2.2,dt];cases e:(@X)[j]? with
   | none=>exact px m
   | some r=>
     obtain⟨r',q5,rfl⟩:=hC.mp (eO e);exact(g.bn r' (hJ _ q5)).2⟩
 have r1:=sB.get l2;clear l2 l4 n5 n4;lia;refine !ay (b6.get ho) T.bu;lia;intro x r7 HC fC sC eC;refine⟨x,r7,D9,DA,m,c1,c0,rfl,eC,tabB.same sC,λHD kD q4=>⟨rfl,?_⟩⟩;have a6:Same HB HD:=λb ob e=>kD _ _ (!L fC) (sC.get e);have r0:=a6.get r1;have d1:=b6.trans a6;lia;intro DE a5;refine aI (xs:=δ.map nat) (λj ys H'=>Co (λj=> .tup [nat (δ.getD j 0 / os.length),nat (δ.getD j 0 % os.length)]) HD DE j ys H') (rS a5) (λj ys H' _ ⟨_,_,_,_,_,s',_⟩=>SqL.of (!Q r0)) (λj v ys HE hv c=>?_) (λys HE c=>?_)
 ·obtain⟨y,ι,rfl⟩:=az hv;have c':=c;obtain⟨qs,q9,lq,pa,pf,sE,t9⟩:=c';have hj:=(!K ι).1;have ξ:=a8 y (eO ι);have b3:=d1.trans sE;have t4:0 < os.length:=ap9 λz=>by rw[lY,z,Nat.mul_zero] at ξ;omega
  lia;refine !M (b3.get ho);lia;refine⟨p,m,nx,os,rfl,ma.same b3,?_⟩;lia;refine T5 @A @A λt2 s3 f8 c4 a7=>?_;refine yu a5 c c4 f8 ?_ @A;have ε:δ.getD j 0=y:=by rw[dt,ι];rfl
  rw[a7,ε];rfl
 obtain⟨es,rfl,j3,s0,t5,sE,r3⟩:=c;rw[a'] at j3;have b3:=d1.trans sE;have o0:=a6.trans sE;lia;intro t HF fF sF υ;have h5:=o0.trans sF;have gl:∀(l:C') (j k:Nat),l[j]? =aY k->l.getD j 0=k:=λl j k h=>by rw[dt,h];rfl
 refine q t x DB DE ds es HF c1 c0 (b3.trans sF) υ ((q4.same sE).same sF) ⟨m6,by omega,by omega,tabB.bn⟩ ?_ ⟨h5.get n3,sF.get r3,by rw[j4,ν],by rw[j3,ζ],λj d k h1 h2=>?_,λj d k h1 h2=>?_⟩ (a4.free f6) (d1.free a5) ?_ λd hd=>?_
 ·refine⟨by rw[aL,e0,ζ],by rw[aL,aL,τ],λj q hq=>?_,λj q hq=>?_⟩
  ·rw[hB] at hq;cases e:c1[j]? with
   | none=>rw[e] at hq;cases hq
   | some r=>
     rw[e] at hq;have hq:=qA hq;have hj:=(!K e).1;have h:=j1 j r e
     have φ:(M.lkL @N @X m).getD j 0=Y.getD (δ.getD j 0) 0:=by
      unfold M.lkL;rw[<-eY,<-ζ,dt,hB,M.getD_at' (d:=0) (show j < δ.length by omega)];rfl
     rw[<-hq,φ,<-ζ,<-eZ,<-eS];exact h
  ·rw[hB] at hq;cases e:c0[j]? with
   | none=>rw[e] at hq;cases hq
   | some r=>
     rw[e] at hq;have hq:=qA hq;have h:=j0 j r e;rw[<-hq,<-ζ,<-eZ,<-eS];exact h
 ·rw[<-ν] at h2;rw[<-gl _ _ _ h2];exact h5.get (n8 j d h1)
 ·rw[<-ζ] at h2;rw[<-gl _ _ _ h2];exact sF.get (s0 j d h1)
 ·exactλz=>by rw[<-z,a6.get n3] at a5;cases a5
 ·have h:=q8 d hd;refine⟨a4.free h.1,h.2,λz=>?_⟩;obtain⟨j,hj,ej⟩:=WW.mp hd;have:=a6.get (n8 j d (by rw[eH hj,ej]));rw[z,a5] at this;cases this
end
section
theorem uX (T:@I):!G 1 a.h7 a.yr ["_law_script","_law_k"] (Gg K):=by
 refine T.lK.1.okA BZ λZ A outer s H vs Q E α h=>?_;obtain⟨p,ns,k,rfl,β,Y,q⟩:=h
 refine⟨_,((af (!aX (!O Ck @K (!a5 @a6)) (!a2 @G @K) bg)
  (!Y (!ab c7 qK ah @K ah)))),!b1 ?_⟩
 lia;rw[a'];unfold cell at q;refine ite2 (λG=>?_) (λG=>?_)
 ·have G:=y2 G
  have ha:atI @as k=aY (.int (ns.getD k.toNat 0)):=by
   obtain⟨j,rfl⟩:=Xu Y;have L:j < ns.length:=by omega
   exact dB (by rw[hB,eH L,dt,n',eH L];rfl)
  rw[lx G] at q;lia;exact q
 ·have G:¬k < ns.length:=λz=>G (gB z);rw[kf G] at q;lia;exact q
theorem ME {H:Hp} {Q:VK} {E:XK} {c k:Int} (h0:0<=k) (h1:k < 100000) (q:Q (.int (!aV k)) H):Eo [.int c,.int k] H Q E:=⟨c,k,rfl,h0,h1,q⟩
local macro_rules | `(tactic| walk_at "l2step") =>`(tactic| first | ((with_reducible refine' ME ?a ?b ?_);(case a=>walk_at "l2side");(case b=>walk_at "l2side")) | ((with_reducible refine' pL ?e ?a ?_);(case e=>walk_at "l2hp");(case a=>walk_at "l2side")))
theorem cS (T:@I):!G 1 a.jg a.Ab @cj Eo:=by
 refine T.bD.1.okA qZ λG A outer s H vs Q E L h=>?_;obtain⟨c,k,rfl,Y,h1,q⟩:=h
 refine⟨_,((af (!ap qZ.nd (!ab dA c7 (!ab c7 qK (ay dA @G ah) ah (ay qK ah @K)) ah ah))
  (af (!ap qZ.nd (!ab dA qK @Q @Q ah))
  (!Y (!ab dA qK @Q (!ab c7 c7 @Q (ay qK ah @K) ah) ah))))),au (σ':=[aY _,aY _,gg]) rfl ?_⟩
 lia;exact q
theorem lU (T:@I):!G 2 a.gb a.rQ @cj zM:=by
 refine T.eN.1.okA d7 fun ι A outer s H vs Q E Y h=>?_;obtain⟨c,k,rfl,ν,h1,q⟩:=h;have hk:decide (k < 40)=true:=gB h1
 refine⟨_,((af (!ap d7.nd bE)
  (af (!am d7.nd bE)
  (af (!am d7.nd (ay ij @T bE))
  (af (!aX (PW.pt (Gq (!O Ck @K ah) (AC (!O lN (ay dA (!aa (cS T) Y T.bQ T.bD 0 ah) ah) ah)))) (!a2 (eV (K:=K) rfl XZ YW YV wj @T @bp) (!ab dA c7 @K (!aa (cS T) Y T.bQ T.bD 0 ah) ah)) bg)
  (!Y (ay ij (!c0 LL @Q (ay dA (!aa (cS T) Y T.bQ T.bD 0 ah) ah)) (bc iq @F T.E8 XC (!N (!ab c7 dA (!aa (cS T) Y T.bQ T.bD 0 ah) ah (ay qK ah @K))))))))))),!bO rfl⟩
 lia;refine⟨@L,?_⟩;lia;generalize hw:((_:kv)++_)=words;have hw:words=JL:=hw.symm;by_cases h2:mixV c 402 % 2=0
 ·refine oV (gB (by rw[h2])) ?_;lia;refine EJ @L (by rw[hw];decide +kernel) λD H2 ξ γ α=>?_;have hm:=w5 @bg (show(0:Int) < 40 by decide);have L:=zt @bg (show(40:Int)≠0 by decide);rw[hw] at α
  have Z:atI (W40.map V.str) (@bg % 40)=aY (.str (nmf c k)):=by
   obtain⟨j,θ⟩:=Xu L;have δ:j < W40.length:=by rw[BG];omega
   unfold nmf;rw[lx h2,θ];refine dB ?_;rw[hB,dt,n',eH δ];rfl
  have α:H2 D=aY (!A (W40.map V.str)):=α;lia;exact q H2 γ
 ·refine jv (f' λz=>h2 (V.int.inj z)) ?_;have hm:=w5 (!aV 400) (show(0:Int) < 26 by decide);have L:=zt (!aV 400) (show(26:Int)≠0 by decide);have ζ:=w5 @bv (show(0:Int) < 1000 by decide);have η:=zt @bv (show(1000:Int)≠0 by decide);lia;refine Rt @L (zQ _ L hm) ?_;lia;have hn:(@cI).natAbs < 10 ^ 4:=by omega
  have G:(@cI).natAbs.log2 < 1920:=by
   rcases aq0 (@cI).natAbs with z | z
   ·rw[z];decide
   ·exact(ad0 @A).mpr (gA hn (XX (by decide:10 ^ 4<=2 ^ 14) (hL @D @D)))
  have β:=YU G;refine⟨G,?_⟩;lia;refine⟨by rw[lj];have:(⟨#[97 + (@bs).toNat]⟩:kv).length=1:=rfl;omega,?_⟩;have e:@cI=(((@aO).toNat + 37 * k.toNat:Nat):Int):=by omega
  have ε:=q H (Same.refl _);unfold nmf at ε;rw[kf h2] at ε;rw[e];exact ε
end
end
local macro_rules | `(tactic| walk_at "l2step") =>`(tactic| first | ((with_reducible refine' pL ?e ?a ?_);(case e=>walk_at "l2hp");(case a=>walk_at "l2side")) | ((with_reducible refine' MF ?a ?b ?_);(case a=>walk_at "l2side");(case b=>walk_at "l2side");(with_reducible intro _ _)))
section
variable {P:ry} {w:z5} {K:b'} {mg:F'} {base:WN} {a:Ad}
theorem OE (vs:eP V) (H:Hp) (Q:VK) (E:XK) (h:PL vs H Q E):Eo vs H Q E:=by
 obtain⟨c,k,rfl,L,h1,q⟩:=h;refine⟨c,k,rfl,L,h1,?_⟩;have G:=RY c k;have n1:=RZ c k;have:=q (!aV k).toNat @A;unfold nat at this;rwa [Int.toNat_of_nonneg G] at this
theorem AQ (T:@I):!G 2 a.gc a.vh @d5 J9:=by
 have ο:=(cS (P:=P) (w:=w) (base:=base) T).imp OE;refine T.mj.1.okA iA fun υ A outer s H vs Q E η h=>?_;obtain⟨c,st,n,wd,dg,rfl,ρ,hn,hw,q⟩:=h;have ι:n * wd<=1024:=XX (YX hn hw) @D;have L:(1:Int) * 2 ^ ((wd:Int).toNat)=((2 ^ wd:Nat):Int):=shl1 wd;have θ:=px wd;have δ:2 ^ wd<=2 ^ 16:=hL @D hw;have α:(n:Int) * (wd:Int) + 1=((n * wd + 1:Nat):Int):=by push_cast;rfl
 have G:(1:Int) * 2 ^ (((n * wd + 1:Nat):Int).toNat)=((2 ^ (n * wd + 1):Nat):Int):=shl1 _;have β:=px (n * wd + 1)
 refine⟨_,((af (!bm iA.nd @E @ay)
  (af (aA (i:=6) iA.nd rfl @E (!ab AJ dA @G (ay ig ah (!ab c7 qK @Q @T ah)) ah))
  (af (dF qa rfl (!aN @a5) (aq (i:=7) iA.nd rfl @E) (ai (dz (fM @aq) (af (!aL rfl qq z0 y' fc @aE (!N (ay dA (pv 6) (ay ig ah @T))))
  (ai (aA (i:=6) iA.nd rfl @E (ay AJ (pv 6) (ay ig ah @T))))) (ai (!aL rfl qq z0 y' fc @aE (!N (ay dA (!aa ο η T.bQ T.bD 0 (ay c7 @K (pv 7))) (ay ig ah @T))))))))
  (!Y @aE))))),au (σ':=[aY _,aY _,aY _,aY _,aY _,gg,gg,gg]) rfl ?_⟩
 lia;intro D H1 γ ε τ;lia;rw[α];lia;rw[G];lia;refine kU (λi σ H'=>∃(l:Int) (v:vr V) (ms:C'),σ=[aY (.int c),aY (nat st),aY (nat n),aY (nat wd),aY (.bl dg),aY @W,aY (.int l),v]/\Same H H'/\H' D=aY (!A (ms.map nat))/\ms.length=i/\∀x∈ms,x < 2 ^ wd) ⟨_,gg,[],rfl,ε,τ,rfl,λ_ h=>hE h @C⟩ ?_ ?_
 ·rintro i σ H' hi ⟨l,v,ms,rfl,Y,π,el,hb⟩;have ξ:i < n:=by omega
  clear G β α;cases dg with
  | true=>
    lia;rw[L];obtain⟨k,hk,χ⟩:=jq (c:=l) (m:=((2 ^ wd:Nat):Int)) @A;lia;rw[hk];refine gY π (by rw[a',lj];omega) fun φ ν=>?_;lia;rw[L];lia;refine⟨_,_,ms++[k],rfl,λb o e=>ν.oth _ _ (!L γ) (Y.get e),?_,by rw[fy,el];rfl,λx Z=>?_⟩
    ·rw[ν.at',eF];rfl
    ·rcases gs.mp Z with h | h
     ·exact hb x h
     ·rw[eR.mp h];omega
  | false=>
    lia;rename_i r ζ;rw[L];obtain⟨k,hk,χ⟩:=jq (c:=(r:Int)) (m:=((2 ^ wd:Nat):Int)) @A;lia;rw[hk];refine gY π (by rw[a',lj];omega) fun φ ν=>?_;lia;refine⟨_,_,ms++[k],rfl,λb o e=>ν.oth _ _ (!L γ) (Y.get e),?_,by rw[fy,el];rfl,λx Z=>?_⟩
    ·rw[ν.at',eF];rfl
    ·rcases gs.mp Z with h | h
     ·exact hb x h
     ·rw[eR.mp h];omega
 ·rintro σ H' ⟨l,v,ms,rfl,Y,π,el,hb⟩;lia;exact q D H' ms γ Y π @A hb
theorem uW (T:@I):!G 3 a.hZ a.yq @cP J7:=by
 refine T.lI.1.okA BY λL A outer s H vs Q E G h=>?_;obtain⟨c,n,wd,rfl,hn,hw,q⟩:=h;refine⟨_,(!ag (aj (AQ T) G T.C1 T.mj (!bj 0 (aa ah (!ar 1 2 (!N (i0 lN (ay dA @G ah) ah @be))))))),@b4⟩;lia;exact⟨c,500,n,wd,_,rfl,@D,hn,hw,q⟩
end
local macro_rules | `(tactic| walk_at "l2step") =>`(tactic| first | ((with_reducible refine' pL ?e ?a ?_);(case e=>walk_at "l2hp");(case a=>walk_at "l2side")) | ((with_reducible refine' MF ?a ?b ?_);(case a=>walk_at "l2side");(case b=>walk_at "l2side");(with_reducible intro _ _)))
section
variable {P:ry} {w:z5} {K:b'} {mg:F'} {base:WN} {a:Ad}
local macro_rules | `(tactic| walk_at "l2step") =>`(tactic| first | ((with_reducible refine' dR ?e ?_);(case e=>walk_at "l2kind")) | ((with_reducible refine' gS ?e ?_);(case e=>walk_at "l2kind")) | (with_reducible refine cE ?_) | (with_reducible refine dZ ?_))
theorem yV (T:@I):!G 7 a.eK a.tj ["_law_net_two","_law_wire","_law_fresh"] (N0 @ai):=by
 refine T.kc.1.okA cD λc1 A outer s H vs Q E hr h=>?_;obtain⟨p,N,od,δ,z,rfl,na,g,hw,hz,nz,hm,q⟩:=h;obtain⟨_,_,_,_,_,_,_,_,_,_,hp,_⟩:=na.ho;have g2:=na.g
 refine⟨_,((af (Uv (!az T.Ih (E4 T) @a4 T.nc.2) (zN rfl (cc (aq (i:=3) cD.nd rfl @E) (cc (!bn cD.nd rfl) (cc (aq (i:=5) cD.nd rfl @E) (cc (aq (i:=6) cD.nd rfl @E) kJ))))))
  (af (aA (i:=7) cD.nd rfl @E @ay)
  (af (dF qa rfl (!W @aq) (zN rfl (cc (aq (i:=8) cD.nd rfl @E) (cc (aq (i:=9) cD.nd rfl @E) kJ))) (af (!al (!O lN (pv 8) @Q) (aA (i:=9) cD.nd rfl @E (c6 @al)))
  (ai (!aL rfl qq z0 y' fc (pv 7) (!N (c6 (!a9 8 9)))))))
  (!Y (iZ T.M6 (oi T) @a4 @F T.L6 T.c9.2 .nil bC (!ar 3 7 (!a9 5 6)))))))),au (σ':=[aY _,aY _,aY _,gg,gg,gg,gg,gg,gg,gg]) rfl ?_⟩
 lia;refine !M hp;lia;refine⟨p,!aY δ z,od,rfl,na,λt1 D1 D2 D3 L H1 rs qs _ _ _ _ _ τ tl=>?_⟩;have et:=tl.t;have es:=tl.s;have b3:rs.length<=40:=by have:=g2.ls;rwa [<-tl.es,a'] at this
 lia;intro R H2 f2 s2 e2;have a8:=τ.trans s2;have c0:=s2.get es;lia;refine gE (xs:=rs.map λr=>V.ref r.1) (λi σ H'=>∃(φ:eP Rw) (v8 v9:vr V),σ=[aY @P,aY (.str δ),aY @aj,aY (!j D1),aY (!j D2),aY (!j D3),aY (!j L),aY (!j R),v8,v9]/\φ.map (·.2.2)=(!aW i).map (λr=>(r.2.2.1,if r.2.2.1=z then [δ] else r.2.2.2))/\RwK H' φ/\Same H1 H'/\H' R=aY (!A (φ.map λr=>V.ref r.1))) ⟨[],gg,gg,rfl,rfl,λ_ h=>hE h @C,s2,e2⟩ (λi σ H' _ ⟨_,_,_,_,_,_,s',_⟩=>SqL.of (!Q es)) ?_ ?_
 ·rintro j y σ H' hy ⟨φ,v8,v9,rfl,γ,hk,s',β⟩;obtain⟨r,θ,rfl⟩:=az hy;have b6:=(!K θ).1;have ξ:=eO θ;have er:=s'.get (tl.sr r ξ).1;have ew:=s'.get (tl.sr r ξ).2;have a7:φ.length=j:=by have:=oe w3 γ;rw[a',a',qF] at this;omega
  lia;by_cases χ:r.2.2.1=z;dsimp only
  ·rw[lx (gB (oe V.str χ))];lia;intro ι c2 ο η ω;lia;intro tr a6 π Z ν;have υ:tr≠R:=λz=>(by rw[z,η.get β] at π;cases π);have ρ:ι≠R:=λz=>(by rw[z,β] at ο;cases ο);have ζ:=Z.get (η.get β);lia;refine gY ζ (by rw[a'];exact aK @A) λa5 G=>?_;lia;refine⟨φ++[(tr,ι,r.2.2.1,[δ])],_,_,rfl,by rw[eF,γ,take_succ θ,eF];show _++[(r.2.2.1,[δ])]=_++[(r.2.2.1,if r.2.2.1=z then [δ] else r.2.2.2)];rw[lx χ],λr2 h2=>?_,λb ob e=>?_,by rw[G.at',eF];rfl⟩
   ·rcases gs.mp h2 with h2 | h2
    ·exact((hk.same η).same Z).updL ζ (λb ob n e=>G.oth _ _ n e) r2 h2
    ·rw[eR] at h2;subst h2;exact⟨G.oth _ _ υ ν,G.oth _ _ ρ (Z.get ω)⟩
   ·exact G.oth _ _ (!L f2) (Z.get (η.get @ad))
  dsimp only
  ·rw[kf (by rw[decide_eq_true_iff];exactλe=>χ @bQ)];lia;intro tr a6 π Z ν;have υ:tr≠R:=λz=>(by rw[z,β] at π;cases π);have ρ:r.2.1≠R:=λz=>(by rw[z,β] at ew;cases ew);have ζ:=Z.get β;lia;refine gY ζ (by rw[a'];exact aK @A) λa5 G=>?_;lia;refine⟨φ++[(tr,r.2.1,r.2.2.1,r.2.2.2)],_,_,rfl,by rw[eF,γ,take_succ θ,eF];show _++[(r.2.2.1,r.2.2.2)]=_++[(r.2.2.1,if r.2.2.1=z then [δ] else r.2.2.2)];rw[kf χ],λr2 h2=>?_,λb ob e=>?_,by rw[G.at',eF];rfl⟩
   ·rcases gs.mp h2 with h2 | h2
    ·exact(hk.same Z).updL ζ (λb ob n e=>G.oth _ _ n e) r2 h2
    ·rw[eR] at h2;subst h2;exact⟨G.oth _ _ υ ν,G.oth _ _ ρ (Z.get ew)⟩
   ·exact G.oth _ _ (!L f2) (Z.get @ad)
 ·rintro σ H' ⟨φ,v8,v9,rfl,γ,hk,s',β⟩;rw[a',ix] at γ
  have a4:φ.map (·.2.2)=(jS N δ z).sums:=by
   have e1:rs.map (λr=>(r.2.2.1,if r.2.2.1=z then [δ] else r.2.2.2))=(rs.map (·.2.2)).map (λr=>(r.1,if r.1=z then [δ] else r.2)):=by rw[tu];rfl
   rw[γ,e1,tl.es];exact Lk hz
  have ε:=tl.same s';lia;intro x dx H3 ψ s3 Y;refine⟨x,dx,D1,R,D3,L,φ,qs,jS N δ z,rfl,Y,Hnd2.same ⟨ε.i,β,λr m=>⟨(hk r m).1,.inr (hk r m).2⟩,a4,ε.st,ε.tr,ε.et,ε.o⟩ s3,Ll g hm nz hz hw,λH4 α k4 a3=>⟨rfl,?_⟩⟩;have a0:Same H H4:=λb ob e=>k4 _ _ (ao (!Q (τ.get e)) ψ) (s3.get (!Q (τ.get e)));exact q x H4 α ((τ.trans s').free ψ) a0 a3
end
local macro_rules | `(tactic| walk_at "l2step") =>`(tactic| first | ((with_reducible refine' pL ?e ?a ?_);(case e=>walk_at "l2hp");(case a=>walk_at "l2side")) | ((with_reducible refine' MF ?a ?b ?_);(case a=>walk_at "l2side");(case b=>walk_at "l2side");(with_reducible intro _ _)))
section
variable {P:ry} {w:z5} {K:b'} {mg:F'} {base:WN} {a:Ad}
local macro_rules | `(tactic| walk_at "l2step") =>`(tactic| first | ((with_reducible refine' dR ?e ?_);(case e=>walk_at "l2kind")) | ((with_reducible refine' gS ?e ?_);(case e=>walk_at "l2kind")) | (with_reducible refine cE ?_) | (with_reducible refine dZ ?_))
theorem Ua (n d:Nat):HT.sIx n d (aY (-1))=n - 1:=by
 have:=HT.clip_eq (-1) n d;rw[lx @D] at this;omega
theorem GT (ns:C'):cutV (ns.map nat) gg (aY (-1))=(ns.take (ns.length - 1)).map nat:=by
 unfold cutV;rw[Ua,HT.sIx_none,a',at1,ai8,af7]
theorem Ls {ns:C'} {t:Nat} (h:ns.length=t + 1):atI (ns.map nat) (-1)=aY (nat (ns.getD t 0)):=by
 have G:ns[t]? =aY (ns.getD t 0):=by rw[dt,eH @A];rfl
 have e:ns=ns.take t++[ns.getD t 0]:=by rw[<-take_succ G,XM @A]
 have L:ns.map nat=(ns.take t).map nat++[nat (ns.getD t 0)]:=by
  have:=oe (Zc nat) e;rwa [eF] at this
 rw[L];exact Ph _ _
theorem sy (T:@I):!G 11 a.fY a.vf ["_law_found","_law_net_one","_law_net_two"] (Er @ai):=by
 refine T.jD.1.okA jY λc1 A outer s H vs Q E hr h=>?_;obtain⟨t,p1,p2,N,δ,od,α,θ,t',rfl,ef,ε,υ,q⟩:=h;have a5:=GJ hr;have g1:=ε.a1.g;have g2:=ε.a2.g;have li:=g1.li;have b3:=g1.lt;have a8:=g2.lt;have jo:=Ta g1 g2;have hw:=υ.hw;have ht:=υ.ht;rw[(qI g1).2,(qI g2).2] at ht
 refine⟨_,((af (!am jY.nd (ay jw (cU (!N (ay ig ah @a8))) (ay P4 (cU (!N ah)) @a8)))
  (af (!bi jY.nd rfl (!ax (gC T) hr T.ip T.dH 1 3))
  (af (!bm jY.nd @E (!ax (gC T) hr T.ip T.dH 2 3))
  (!Y (si (i0 (RO (K:=K) rfl a5) (j6 @bC @aq rB (kH (KN BQ ah))) (j6 @bC @aE rB (kH (KN BQ ah))) @be) (uV (i0 yQ (!a2 @aq (KN BQ ah)) (!a2 @aE (KN BQ ah)) @be)))))))),au (σ':=[aY _,aY _,aY _,gg,gg,gg]) rfl ?_⟩
 lia;rw[shl1];intro B3 H3 ψ s3 Y;have a6:=s3.get ef;lia;intro B4 H4 f4 φ ο;have c0:=φ.get a6;lia;refine TH ο @A @A (by rw[lj,n'];simp;omega) λB5 H5 f5 s5 χ=>?_;rw[n',ae7] at χ;refine oX (s5.get (φ.get Y)) χ (by rw[Xg,lj];simp;omega) λB6 H6 γ s6 π=>?_;have er:[nat (2 ^ θ)]++lA t' (V.int 0)=(2 ^ θ::lA t' 0).map nat:=by rw[W',ap3];rfl
 rw[er] at π;obtain⟨rs,Z⟩:∃rs,rs=2 ^ θ::lA t' 0:=⟨_,rfl⟩;have ι:rs.length=t' + 1:=by rw[Z,W3,Xg]
 have τ:∀x∈rs,x < 2 ^ N.ins.length:=λx hx=>by
  rw[Z] at hx;rcases x8.mp hx with h | h
  ·rw[h];exact WS @D hw
  ·rw[(ad6.mp h).2];exact px _
 rw[<-Z] at π;have η:=s3.trans (φ.trans (s5.trans s6));lia;refine⟨p1,B6,N,od,rs,rfl,ε.a1.same η,π,@A,τ,λD7 H7 f7 s7 e7=>?_⟩;have ζ:=η.trans s7;lia;refine⟨p2,B6,δ,α,rs,rfl,ε.a2.same ζ,s7.get π,@A,by rw[ε.li];exact τ,λD8 H8 f8 s8 e8=>?_⟩;have a0:=ζ.trans s8;have ξ:=s8.get e7;rw[Ca g1 ε.a1.tp] at ξ;rw[Ca g2 ε.a2.tp] at e8;have k1:=M.wan_sgl (@a0).1 (@a0).2 θ t' t' @U;have k2:=M.wan_sgl (@br).1 (@br).2 θ t' t' @U
 have ν:(M.wan (@a0).1 (@a0).2 0 rs).take t'=(M.wan (@br).1 (@br).2 0 rs).take t':=by
  rw[<-M.wan_take,<-M.wan_take,Z,M.pulse_eq];exact υ.al.runs jo (M.pulse_lt hw t') (by rw[M.pulse_len];exact mc _)
 rw[<-Z] at k1 k2;have a4:=M.wan_len (@a0).1 (@a0).2 rs 0;have a3:=M.wan_len (@br).1 (@br).2 rs 0;generalize M.wan (@a0).1 (@a0).2 0 rs=a1 at *
 generalize M.wan (@br).1 (@br).2 0 rs=a2 at *
 have t1:atI (a1.map nat) (-1)=aY (nat (M.sgl (@a0).1 (@a0).2 θ t')):=by
  rw[<-k1];exact Ls @A
 have t2:atI (a2.map nat) (-1)=aY (nat (M.sgl (@br).1 (@br).2 θ t')):=by
  rw[<-k2];exact Ls @A
 lia;intro D9 H9 f9 s9 e9;rw[GT,a4,ι,aq1,ν] at e9;have L:=s9.get e8;lia;intro c2 a7 b6 β ρ;rw[GT,a3,ι,aq1] at ρ;refine Kk (!ad (β.get e9)) (!ad ρ) ?_;have G:=s9.trans β;have x7:=G.get ξ;have ω:=G.get e8;lia;rw[f' λe=>υ.un (gM e)];exact q a7 (a0.trans G)
theorem g6 (T:@I):!G 14 a.cj a.l9 ["_law_net_one","_law_cells"] (Ew @ai):=by
 refine T.cR.1.okA df λh5 A outer s H vs Q E ν h=>?_;obtain⟨n1,D,N,od,χ,rfl,na,eD,g3,q⟩:=h;have e9:=GJ ν;have g:=na.g;have tp:=na.tp;have li:=g.li
 refine⟨_,((af (!ap df.nd (!a1 (!aI (Ow T) ν T.Sg T.BI (aj (kL T) ν T.mT T.ir @a6))))
  (af (!am df.nd (!aI (EY T) ν T.IF T.qo (!aI (EX T) ν T.IE T.qm (aj (KY T) ν T.OX T.wt @a5))))
  (af (dF qa rfl @bm (!bn df.nd rfl) (af (!bm df.nd @E (aj (uW T) ν T.yb T.lI (!bj 4 (!Z ah (!a5 (!N (!az T.dO (dm T) @aZ T.bT.2)))))))
  (ai (!aX (!O (KR (K:=K) rfl e9) (!ax (gC T) ν T.ip T.dH 0 5) (!ax (gC T) ν T.ip T.dH 3 5)) (KN BQ ah) bg))))
  (!Y (!bd @Q T.ax T.bw (bf T) @aZ)))))),au (σ':=[aY _,aY _,gg,gg,gg,gg]) rfl ?_⟩
 lia;refine⟨n1,N,od,rfl,na,λxm H6 nx os f6 s6 ma gm en eo=>?_⟩;have e4:=na.same s6;have a7:prs nx=(@a0).1:=en;have a6:prs os=(@a0).2:=eo;have f9:nx.length=N.sts.length:=by have:=oe w3 en;rw[aL,a',a'] at this;exact this
 have e5:os.length=N.outs.length:=by have:=oe w3 eo;rw[aL,a'] at this;exact this
 have c4:M.Fit @N @X N.ins.length:=by rw[a7,a6];exact An g
 have f2:=M.many_le (ps:=prs nx) (os:=prs os) (m:=N.ins.length);rw[aL] at f2;have L:=g.lt;lia;refine⟨xm,N.ins.length,nx,os,rfl,ma,gm,@A,λtl x2 Dr Dl ds es H7 θ G s7 h3 ω Z a5 f7 _ _ _ _=>?_⟩;have e6:θ.length=(M.lkp @N @X N.ins.length).length:=by have:=a5.ln;rwa [aL] at this
 have e8:θ.length=leN N:=by unfold leN;rw[e6,a7,a6]
 have e7:G.length=os.length:=by have:=a5.lo;rwa [aL,aL] at this
 have υ:Sml N.ins.length (prs θ) @b3:=⟨@A,by rw[aL];omega,by rw[aL,e7,e5];exact g.lo,λq' η=>by
  rw[show prs θ++prs G=prs (θ++G) from(eF ..).symm] at η;obtain⟨r,f0,rfl⟩:=hC.mp η;rw[aL];exact Z.bn r f0⟩
 have c0:=s6.trans s7;have f5:=na.same c0;clear e4 ma;lia;refine⟨x2,N.ins.length,θ,G,rfl,ω,υ,λn2 H8 α f8 s8 c2=>?_⟩;obtain⟨N2,ξ⟩:∃N2,N2=jR N.ins.length (prs θ) @b3:=⟨_,rfl⟩;rw[<-ξ] at c2;have g2:Gn N2:=by rw[ξ];exact uu υ
 have c5:=Ia N2;have f4:=B2 g2;lia;refine⟨n2,N2,α,rfl,c2,λH9 s9=>?_⟩;lia;refine⟨uf N2,rfl,Gk g2,@A,by rw[c5];exact g2,λn3 f3 ε h0 β a4=>?_⟩;rw[c5] at a4;have ο:=s8.trans (s9.trans β);have c3:N2.ins.length=N.ins.length:=by rw[ξ];exact bR _ _
 have γ:(N2.sts.map (·.2)).map (hgp N2)=prs θ/\N2.outs.map (hgp N2)=prs G:=by
  have b3:=a4.tp;rw[ξ] at b3 ⊢;exact Lg υ b3
 have ι:=c0.trans ο;have δ:=ω.same ο;have Y:=ι.get eD;lia;refine gE (xs:=χ.map V.int) (λj σ H'=>∃(v4 v5:vr V),σ=[aY (!j n1),aY @W,aY (!j x2),aY (!j n3),v4,v5]/\Same f3 H') @cC (λj σ H' _ ⟨_,_,_,s'⟩=>SqL.of (!Q Y)) ?_ ?_
 ·rintro j y σ H' hy ⟨v4,v5,rfl,s'⟩;obtain⟨c,hc,rfl⟩:=az hy;have a3:=ι.trans s';obtain⟨_,_,_,_,_,_,_,_,_,_,hp,_⟩:=(!ao a3).ho;lia;refine !M hp;lia;refine⟨n1,N,od,rfl,!ao a3,fun ψ H1 f1 s1 e1=>?_⟩;have e3:=a3.trans s1;lia;rw[a'];refine⟨c,15,N.ins.length,rfl,@D,@A,λe2 i4 ms ρ a0 e0 g0 a8=>?_⟩;have c1:=e3.trans a0;have ζ:=a4.same (!bb (s1.trans a0));lia;refine⟨n1,e2,N,od,ms,rfl,!ao c1,e0,@A,a8,fun τ i3 π φ d2=>?_⟩;lia;refine⟨n3,e2,N2,ε,ms,rfl,ζ.same φ,φ.get e0,@A,by rw[c3];exact a8,λj0 h6 g4 b6 d1=>?_⟩;rw[Ca g tp,<-a7,<-a6] at d2;rw[Kv ζ.g ζ.tp (x4 ζ.g ζ.tp),γ.1,γ.2,a5.alike c4 a8] at d1;refine Kk (!ad (b6.get d2)) (!ad d1) ?_;lia;exact⟨_,_,rfl,!bb (s1.trans (a0.trans (φ.trans b6)))⟩
 ·rintro σ H' ⟨v4,v5,rfl,s'⟩;obtain⟨h4,tn,to,hm,_⟩:=(δ.same s').ho;lia;refine !M hm;lia;refine⟨x2,_,θ,G,rfl,δ.same s',?_⟩;rw[e8];exact q H' (ι.trans s')
end
local macro_rules | `(tactic| walk_at "l2step") =>`(tactic| first | ((with_reducible refine' pL ?e ?a ?_);(case e=>walk_at "l2hp");(case a=>walk_at "l2side")) | ((with_reducible refine' MF ?a ?b ?_);(case a=>walk_at "l2side");(case b=>walk_at "l2side");(with_reducible intro _ _)))
section
variable {P:ry} {w:z5} {K:b'} {mg:F'} {base:WN} {a:Ad}
local macro_rules | `(tactic| walk_at "l2step") =>`(tactic| first | ((with_reducible refine' dR ?e ?_);(case e=>walk_at "l2kind")) | ((with_reducible refine' gS ?e ?_);(case e=>walk_at "l2kind")) | (with_reducible refine cE ?_) | (with_reducible refine dZ ?_))
theorem AN (T:@I):!G 16 a.fZ a.vg @d9 (Et @ai):=by
 refine T.mi.1.okA dD λl0 A outer s H vs Q E η h=>?_;obtain⟨p,D,N,od,ζ,z,χ,rfl,na,hw,nz,hz,hm,eD,e8,q⟩:=h;have i4:=GJ η;have g:=na.g;have tp:=na.tp;have li:=g.li;have L:=g.lt
 refine⟨_,((af (!bi dD.nd rfl (aj (P6 T) η T.Ve T.M9 (!ar 0 1 @a5)))
  (af (!bm dD.nd @E (aj (yV T) η T.Bl T.kc (!ar 4 1 @a5)))
  (af (aA (i:=6) dD.nd rfl @E (!ax (Cu T) η T.Fz T.nW 0 1))
  (af (!aX (!O yQ (!a1 (aj (xc T) η T.zT T.m8 (!Z (aj (kL T) η T.mT T.ir @a6) (aj (kL T) η T.mT T.ir (!ah 5))))) bE) yP bg)
  (af (dF qa rfl (!W @T) (aq (i:=7) dD.nd rfl @E) (af (aA (i:=8) dD.nd rfl @E (aj (uW T) η T.yb T.lI (!bj 7 (!Z ah (!a5 (!N (!az T.dO (dm T) @bJ T.bT.2)))))))
  (ai (!aX (!O (KR (K:=K) rfl i4) (!ax (gC T) η T.ip T.dH 0 8) (!ax (gC T) η T.ip T.dH 5 8)) yP bg))))
  (af (aA (i:=9) dD.nd rfl @E (!ax (g6 T) η T.iK T.cR 0 3))
  (af (aA (i:=10) dD.nd rfl @E (!ax (g6 T) η T.iK T.cR 4 3))
  (af (!aX (!bo (!O Ck (pv 9) ah) (rA (!O Ck (pv 10) ah) (qJ (!O yQ (!ax (g6 T) η T.iK T.cR 5 3) (pv 9))))) yP bg)
  (af (!aX (!O lN (!a1 (pv 6)) bE) (si (aj (sy T) η T.u0 T.jD (!ar 6 0 (!ah 4))) (uV (aj (sy T) η T.u0 T.jD (!ar 6 5 (!ah 4))))) bg)
  (!Y (i0 lN (pv 10) (pv 9) @be)))))))))))),au (σ':=[aY _,aY _,aY _,aY _,gg,gg,gg,gg,gg,gg,gg]) rfl ?_⟩
 lia;refine⟨p,N,od,ζ,z,rfl,na,hw,nz,hz,hm,λn2 H1 α f1 s1 c3=>?_⟩;lia;refine⟨n2,N,α,ζ,z,rfl,c3,g,hw,hz,nz,hm,λY H2 ε f2 s2 c2=>?_⟩;have f6:=s1.trans s2;have g2:=c3.g;have g3:=c2.g;have tc:tbN (!aY ζ z)=tbC N ζ:=Py g hz g2 c3.tp;have tm:tbN (jS N ζ z)=tbN N:=OF g hz hw tp g3 c2.tp;lia;refine Pg (!ao f6) hw hm λtf H3 s3 fx=>?_;have e5:=f6.trans s3;have c4:=c3.same (s2.trans s3);have a8:=c2.same s3;lia;refine⟨p,N,od,rfl,!ao e5,λx1 H4 c1 c0 f4 s4 f8 ρ e9 f0=>?_⟩;have e1:prs c1=(@a0).1:=e9;have e2:prs c0=(@a0).2:=f0;have l1:c1.length=N.sts.length:=by have:=oe w3 e9;rw[aL,a',a'] at this;exact this
 have lo1:c0.length=N.outs.length:=by have:=oe w3 f0;rw[aL,a'] at this;exact this
 lia;refine⟨Y,jS N ζ z,ε,rfl,a8.same s4,λx2 H5 e6 G f5 s5 ω π g0 g4=>?_⟩;have e3:prs e6=(@a0).1:=by rw[<-tm];exact g0
 have ο:prs G=(@a0).2:=by rw[<-tm];exact g4
 have l2:e6.length=c1.length:=by have:=oe w3 (e3.trans e1.symm);rwa [aL,aL] at this
 have τ:G.length=c0.length:=by have:=oe w3 (ο.trans e2.symm);rwa [aL,aL] at this
 lia;refine⟨x1,x2,N.ins.length,c1,c0,e6,G,rfl,⟨f8.same s5,ρ,ω,π,@A,@A⟩,λal tt Ds Db Du ts bs us H6 s6 ak=>?_,fun θ t' fn=>(fn.not (by rw[e1,e2,e3,ο];exact SE _ _ _ _)).elim⟩;have k8:=ak.t;have ι:=s4.trans (s5.trans s6);have b6:=e5.trans ι
 have j0:FndX H6 tf N ζ:=by
  rcases fx with ⟨a1,a2,a3,a4,a5,Z,b1,b2⟩ | ⟨a1,a2,b1,b2⟩
  ·exact !E ⟨a1,a2,a3,a4,a5,Z,b1,b2.same ι⟩
  ·exact !I ⟨a1,a2,b1,ι.get b2⟩
 have b3:=c4.same ι;have a7:=a8.same ι;have a0:=na.same b6;have φ:=b6.get eD;clear fx ak f8 ω ρ π e9 f0 g0 g4 ι s4 s5 s6 c4 a8 s3 e5 f1 f2 f4 f5;lia;refine gE (xs:=χ.map V.int) (λj σ H'=>∃(v7 v8:vr V),σ=[aY @P,aY (.str ζ),aY @aj,aY @W,aY (!j n2),aY (!j Y),aY (!j tf),v7,v8,gg,gg]/\Same H6 H') @cC (λj σ H' _ ⟨_,_,_,s'⟩=>SqL.of (!Q φ)) ?_ ?_
 ·rintro j y σ H' hy ⟨v7,v8,rfl,s'⟩;obtain⟨c,hc,rfl⟩:=az hy;obtain⟨_,_,_,_,_,_,_,_,_,_,hp,_⟩:=(a0.same s').ho;lia;refine !M hp;lia;refine⟨p,N,od,rfl,a0.same s',fun ψ H7 f7 s7 e7=>?_⟩;lia;rw[a'];refine⟨c,15,N.ins.length,rfl,@D,@A,λi3 h6 ms k7 d1 h5 j4 δ=>?_⟩;have ξ:=s'.trans (s7.trans d1);lia;refine⟨p,i3,N,od,ms,rfl,a0.same ξ,h5,@A,δ,λm0 l5 k6 c5 h4=>?_⟩;lia;refine⟨Y,i3,jS N ζ z,ε,ms,rfl,a7.same (ξ.trans c5),c5.get h5,@A,δ,λl8 l4 k4 f3 h3=>?_⟩;rw[Ca g tp] at h4;rw[Ca g3 c2.tp,tm] at h3;refine Kk (!ad (f3.get h4)) (!ad h3) ?_;lia;exact⟨_,_,rfl,ξ.trans (c5.trans f3)⟩
 ·rintro σ H' ⟨v7,v8,rfl,s'⟩;lia;refine⟨p,D,N,od,χ,rfl,a0.same s',!Q φ,e8,λH7 s7=>?_⟩;have e0:=s'.trans s7;lia;refine⟨n2,D,!aY ζ z,α,χ,rfl,b3.same e0,e0.get φ,e8,λH8 s8=>?_⟩;have d2:=e0.trans s8;lia;refine⟨Y,D,jS N ζ z,ε,χ,rfl,a7.same d2,d2.get φ,e8,λH9 s9=>?_⟩;have ν:=d2.trans s9;rw[R6 tm];lia;dsimp only;rw[kf @C];rcases j0 with ⟨Es,Eb,Eu,j3,l3,j1,al',γ⟩ | ⟨θ,t',fu,ef⟩
  ·have k9:=ν.get γ.t;have ll:leN (!aY ζ z)=leN N:=U2 g g2 rfl (by rw[tc];rw[show(!aY ζ z).sts.length=N.sts.length from a' ..];exact al');rw[ll];lia;rw[gB rfl];exact q H9 (b6.trans ν)
  ·have h0:=ν.get ef;have lst:(!aY ζ z).sts.length=N.sts.length:=a' ..
   have f9:(jS N ζ z).sts.length=N.sts.length:=a' ..
   lia;refine⟨tf,p,n2,N,!aY ζ z,od,α,θ,t',rfl,h0,⟨a0.same ν,b3.same ν,rfl,lst⟩,by rw[tc];exact fu,λl7 β=>?_⟩;have υ:=ν.trans β;refine⟨true,rfl,?_⟩;rw[lx rfl];lia;refine⟨tf,Y,n2,jS N ζ z,!aY ζ z,ε,α,θ,t',rfl,β.get h0,⟨a7.same υ,b3.same υ,rfl,lst.trans f9.symm⟩,by rw[tc,tm];exact fu,λh6 d1=>?_⟩;exact q h6 (b6.trans (υ.trans d1))
end
section
variable {P:ry} {w:z5} {K:b'} {mg:F'} {base:WN} {a:Ad}
local macro_rules | `(tactic| walk_at "l2step") =>`(tactic| first | ((with_reducible refine' ME ?a ?b ?_);(case a=>walk_at "l2side");(case b=>walk_at "l2side")) | ((with_reducible refine' pL ?e ?a ?_);(case e=>walk_at "l2hp");(case a=>walk_at "l2side")))
theorem AA {K:b'} {H:Hp} {D:ee} {ws:B'} (h:H D=aY (!A @bT)):Rep K H @W (!A (ws.map Dt.str)):= .lst (!ad h) (by rw[a',a']) (B7 V.str Dt.str (λz=> .str z) ws)
theorem FH:∀ws:B',Bu (ws.map Dt.str)=0
 | []=>rfl
 | w::ws=>by rw[W',Bu,FH ws];rfl
theorem GO (ws:B'):eqD (!A (ws.map Dt.str)) (!A [])=decide (ws=[]):=by
 cases ws with
 | nil=>rfl
 | cons w l=>rw[f' @C];rfl
theorem AM (T:@I):!G 2 a.fX a.ve @d8 J6:=by
 refine T.mh.1.okA gv λa4 A outer s H vs Q E ρ h=>?_;obtain⟨c,st,l,zs,dg,rfl,a0,ω,hl,ll,q⟩:=h;have π:=EL ρ;have ζ:(((@aP).length:Nat):Int)=(zs.length:Int):=by rw[a']
 refine⟨_,((af (dz (fM @T) (af (!bi gv.nd rfl (ay dA @G (!ab UG c7 (!a5 @a5) ah ah)))
  (af (!bm gv.nd @E @ay)
  (af (dF qa rfl (!aN (!N ah)) (aq (i:=6) gv.nd rfl @E) (KG (!al (!O vt (ay dA @aq (ay c7 (!a5 @a5) ah)) ah) (!aL rfl qq z0 y' fc @aE (!N (!a2 @Q (!ab su dA @aq (ay c7 (!a5 @a5) ah) ah)))))
  (ai (!bi gv.nd rfl (ay AJ @aq (ay c7 (!a5 @a5) ah))))))
  (!Y @aE)))) bg)
  (af (aA (i:=7) gv.nd rfl @E (ay dA (!ax (cS T) ρ T.bQ T.bD 0 1) ah))
  (!Y (bL (osc:=ag lQ) (ON:=["_law_cell_here","_law_start","_law_names","_law_digits","_law_left","_law_found","_law_k","_law_many"]) (N:=n27) (n:=1) (fx:=[2,0,1]) rfl rfl rfl @L (!aN (!ah 7)) @O (!be (aq (i:=0) (show hM (n27:B') from by decide +kernel) rfl @E) (!O (EU (K:=K) rfl π) @K @ay) (!a2 @K (ay dA (!aa (cS T) ρ T.bQ T.bD 2 (!ab c7 c7 @T ah @G)) (!a5 @al))))))))),au (σ':=[aY _,aY _,aY _,aY _,gg,gg,gg,gg]) rfl ?_⟩
 have ι:(0:Int) < ((((@aP).length:Nat):Int) + 1) ^ (4:Int).toNat:=Int.pow_pos @A;have ν:(0:Int) < (((@aP).length:Nat):Int) + 1:=by omega
 lia;cases dg with
 | true=>
   lia;generalize c % ((((@aP).length:Nat):Int) + 1) ^ (4:Int).toNat=left;clear ι;intro D H1 ψ χ e1;have hl1:=χ.get hl;lia;refine kU (λi σ H'=>∃(v:vr V) (left:Int) (ws:B'),σ=[aY (V.int c),aY (V.int st),aY (!ak l),aY (V.bl true),aY (V.int left),aY (!ak D),v,gg]/\Same H H'/\H' D=aY (!A @bT)/\ws.length<=i/\∀w∈ws,w∈zs) ⟨gg,left,[],rfl,χ,e1,mc _,λ_ h=>hE h @C⟩ ?_ ?_
   ·rintro i σ H' hi ⟨v,left,ws,rfl,s',γ,lw,hw⟩;have ξ:=s'.get hl;have ε:i < 4:=hi;lia;refine L2.s_cut (fun σ H2=>∃L:B',σ=[aY (V.int c),aY (V.int st),aY (!ak l),aY (V.bl true),aY (V.int left),aY (!ak D),aY (V.int (0 + (i:Int))),gg]/\Same H H2/\H2 D=aY (!A (L.map V.str))/\L.length<=i + 1/\∀w∈L,w∈zs) ?_ ?_
    ·have r0:=zt left (Int.ne_of_gt ν);have α:=w5 left ν;lia;by_cases θ:0 < left % ((((@aP).length:Nat):Int) + 1)
     ·refine oV (gB θ) ?_;obtain⟨j,τ⟩:=Xu (show 0<=left % ((((@aP).length:Nat):Int) + 1) - 1 by omega);have G:j < zs.length:=by omega
      have Z:atI @aP (left % ((((@aP).length:Nat):Int) + 1) - 1)=aY (.str zs[j]):=by
       rw[τ];exact dB (by rw[hB,eH G];rfl)
      lia;refine gY γ (by rw[a',lj];omega) λH3 φ=>?_;lia;refine⟨ws++[zs[j]],rfl,λb o e=>φ.oth _ _ (!L ψ) @ad,by rw[φ.at',eF];rfl,by rw[fy];show _ + 1<=_;omega,λw Y=>?_⟩;rcases gs.mp Y with h | h
      ·exact hw w h
      ·rw[eR.mp h];exact Xm G
     ·refine jv (f' θ) ?_;lia;exact⟨ws,rfl,s',γ,@A,hw⟩
    ·rintro σ H2 ⟨L,rfl,η,β,δ,Y⟩;have hl2:=η.get hl;lia;exact⟨_,_,L,rfl,η,β,δ,Y⟩
   ·rintro σ H' ⟨v,left,ws,rfl,s',γ,lw,hw⟩;lia;exact q D H' ws ψ s' γ lw hw
 | false=>
   have m0:=zt (!aV st) (show(5:Int)≠0 by decide);have m1:=w5 (!aV st) (show(0:Int) < 5 by decide);lia;intro D υ;refine d5 (λi ys H'=>∃ws:B',ys=ws.map V.str/\Same H H'/\H' D=aY @Y/\ws.length<=i/\∀w∈ws,w∈zs) ⟨[],rfl,bo υ,aw,mc _,λ_ h=>hE h @C⟩ ?_ ?_
   ·rintro i ys H' hi ⟨ws,rfl,s',γ,lw,hw⟩;have ξ:=s'.get hl;lia;intro L2 H2 f2 η e2;have hl2:=η.get ξ;have β:=η.get γ;refine Rz (AA hl2) (AA (ws:=[]) e2) (by rw[depD,FH];decide) ?_;rw[show(Zc Dt.str [])=[] from rfl,GO];by_cases hz:zs=[]
    ·rw[gB hz];lia;exact⟨!bb η,β,@A,hw⟩
    ·rw[f' hz];have a3:0 < zs.length:=Z8.mpr hz;have ο:(0:Int) < (((@aP).length:Nat):Int):=by omega
     lia;obtain⟨j,τ,G⟩:=jq (c:=mixV c (st + 1 + (0 + (i:Int)))) ο;have G:j < zs.length:=by omega
     have Z:atI @aP (mixV c (st + 1 + (0 + (i:Int))) % (((@aP).length:Nat):Int))=aY (.str zs[j]):=by
      rw[τ];exact dB (by rw[hB,eH G];rfl)
     lia;refine⟨β,by rw[a'];exact aK @A,ws++[zs[j]],by rw[eF];rfl,λb o e=>?_,aw,by rw[fy];show _ + 1<=_;omega,λw Y=>?_⟩
     ·rw[aD (!L υ)];exact η.get @ad
     ·rcases gs.mp Y with h | h
      ·exact hw w h
      ·rw[eR.mp h];exact Xm G
   ·rintro ys H' ⟨ws,rfl,s',γ,lw,hw⟩;exact q D H' ws υ s' γ @A hw
end
section
variable {P:ry} {w:z5} {K:b'} {mg:F'} {base:WN} {a:Ad}
theorem By {H:Hp} {Q:VK} {E:XK} {c k:Int} (h0:0<=k) (h1:k < 40) (q:∀H2,Same H H2->Q (.str (nmf c k)) H2):zM [.int c,.int k] H Q E:=⟨c,k,rfl,h0,h1,q⟩
local macro_rules | `(tactic| walk_at "l2step") =>`(tactic| first | (with_reducible refine cE ?_) | ((with_reducible refine' ME ?a ?b ?_);(case a=>omega);(case b=>omega)) | ((with_reducible refine' pL ?e ?a ?_);(case e=>walk_at "l2hp");(case a=>walk_at "l2side")))
theorem E2 (T:@I):!G 3 a.jf a.Aa ["_law_script","_law_start","_law_most"] (NZ K):=by
 have gI:=@cS P w K mg base a T;refine T.qr.1.okA bI λt6 A outer s H vs Q E G h=>?_;obtain⟨p,ns,st,mo,rfl,hS,r4,r5,q⟩:=h;have o0:=EL G
 refine⟨_,((af (!am bI.nd (!ax (uX T) G T.yc T.lK 0 1))
  (af (!bi bI.nd rfl (cU (aa (ay dA (!aa gI G T.bQ T.bD 3 ah) ah) (!Z (ay dA (!aa gI G T.bQ T.bD 3 ah) (ay c7 @Q ah)) (ay dA (!aa gI G T.bQ T.bD 3 ah) (ay c7 @Q ah))))))
  (af (bP (osc:=ag kj) (ON:=n25) (N:=n20) (n:=1) (fx:=[3]) (i:=5) bI.nd rfl rfl rfl rfl rfl rfl @L (!aN (!N (!a2 @aq ah))) @O (!U (aq (i:=0) (show hM (n20:B') from by decide +kernel) rfl @E) (!ax (lU T) G T.kT T.eN 1 0)))
  (af (bP (osc:=ag kj) (ON:=n25) (N:=n20) (n:=1) (fx:=[3]) (i:=6) bI.nd rfl rfl rfl rfl rfl rfl @L (!aN (!N (!a2 @aq ah))) @O (!U (aq (i:=0) (show hM (n20:B') from by decide +kernel) rfl @E) (!aa (lU T) G T.kT T.eN 1 (ay c7 ah @G))))
  (af (aA (i:=7) bI.nd rfl @E (ay jw @aE (pv 6)))
  (af (aA (i:=8) bI.nd rfl @E @ay)
  (af (dF qa rfl (!aN (!N (!a2 @aq ah))) (aq (i:=9) bI.nd rfl @E) (af (aA (i:=10) bI.nd rfl @E (aj (AM T) G T.CZ T.mh (aa (!aa (uX T) G T.yc T.lK 0 (!ab c7 c7 @K ah (pv 9))) (aa ah (!aS 7 (i0 lN (ay dA @T ah) ah @be))))))
  (af (!aL rfl qq z0 y' fc (pv 8) (!N (c6 (aa (!aa (lU T) G T.kT T.eN 3 (ay c7 ah (pv 9))) (!ah 10)))))
  (ai (aA (i:=7) bI.nd rfl @E (ay jw (pv 7) (cU (!N (!aa (lU T) G T.kT T.eN 3 (ay c7 ah (pv 9)))))))))))
  (af (aA (i:=11) bI.nd rfl @E (ay dA (!aa gI G T.bQ T.bD 3 ah) (ay c7 (!a5 (!ah 8)) ah)))
  (af (aA (i:=8) bI.nd rfl @E (ay jw (j6 @bC (pv 8) (kH (pv 11)) rB) (HP @F @F T.iH T.Ib rfl (j6 @bC (pv 8) rB (kH (pv 11))))))
  (af (aA (i:=12) bI.nd rfl @E @ay)
  (af (dF qa rfl (p3 (K:=K) rfl @F T.fP (pv 6)) (zN rfl (cc (aq (i:=9) bI.nd rfl @E) (cc (aq (i:=13) bI.nd rfl @E) kJ))) (ai (!aL rfl qq z0 y' fc (pv 12) (!N (c6 (!aS 13 (!a2 (pv 7) (ay dA (!aa gI G T.bQ T.bD 3 (ay c7 ah (pv 9))) (!a5 (!ah 7))))))))))
  (af (aA (i:=14) bI.nd rfl @E @ay)
  (KG (!al (!O (EU (K:=K) rfl o0) (pv 7) @ay) (bP (osc:=ag kj) (ON:=n25) (N:=["_law_k","_law_known","_law_cell_here"]) (n:=1) (fx:=[7,3]) (i:=14) bI.nd rfl rfl rfl rfl rfl rfl @L (!aN (!N (ay dA (!aa gI G T.bQ T.bD 3 ah) ah))) @O (!U (aq (i:=0) (show hM (["_law_k","_law_known","_law_cell_here"]:B') from by decide +kernel) rfl @E) (!a2 @K (ay dA (!aa gI G T.bQ T.bD 2 (ay c7 ah @G)) (!a5 @al))))))
  (!aT (!ar 5 8 (!a9 12 14))))))))))))))))),au (σ':=[aY _,aY _,aY _,gg,gg,gg,gg,gg,gg,gg,gg,gg,gg,gg,gg]) rfl ?_⟩
 lia;generalize t2:cell ns ((st:Nat):Int)=c at *
 intro Z H1 f1 s1 e1;obtain⟨ni,k7,n8⟩:=jq (c:=mixV c 1) (m:=4) @D;obtain⟨nt,k6,n7⟩:=jq (c:=mixV c 2) (m:=(mo:Int) + 1) @A;obtain⟨nz,k4,ν⟩:=jq (c:=mixV c 3) (m:=(mo:Int) + 1) @A;rw[k7,k6,k4] at e1;have b6:ni<=3:=by omega
 have ι:nt<=12:=by omega
 have θ:nz<=12:=by omega
 have j4:nz<=mo:=by omega
 have l0:=Same.seq s1 hS;clear k7 k6 k4 n8 n7 ν;lia;intro D2 h5;refine d5 (λi ys H'=>Cs (!aO (nms c 0 i)) H1 D2 i ys H') (!a3 h5) (λi ys H' hi χ=>?_) (λys H2 χ=>?_)
 ·have t1:i < 3:=by omega
  lia;refine By @A @A λH3 s3=>?_;refine Cs.put h5 (χ.same.trans s3) (s3.get χ.at') χ.len @A ?_;rw[χ.pv,sI,eF,show(0:Int) + (i:Int)=((0 + i:Nat):Int) by push_cast;rfl];rfl
 ·have e2:=χ.at';rw[χ.pv,n'] at e2;have δ:=χ.same;clear χ;have a0:=δ.get e1;lia;intro D3 h4;refine d5 (λi ys H'=>Cs (!aO (nms c 6 i)) H2 D3 i ys H') (!a3 h4) (λi ys H' hi χ=>?_) (λys H3 χ=>?_)
  ·have o3:i < 12:=by omega
   lia;refine By @A @A λH4 s4=>?_;refine Cs.put h4 (χ.same.trans s4) (s4.get χ.at') χ.len @A ?_;rw[χ.pv,sI,eF,show(6:Int) + (0 + (i:Int))=((6 + i:Nat):Int) by push_cast;omega];rfl
  ·have e3:=χ.at';rw[χ.pv,n'] at e3;have c2:=χ.same;clear χ;lia;refine oX (c2.get e2) e3 (by rw[a',a',fO,fO,lj];omega) λD4 H4 f4 s4 ο=>?_;rw[<-eF] at ο;have c3:=δ.trans (c2.trans s4);have m7:=c3.get e1;have m4:=s4.get (c2.get e2);have Y:=s4.get e3;have h0:=Same.seq c3 l0;have d1:=s1.trans c3;clear a0 h5 h4 f1 f4 δ c2 s4 c3 e1 e2 e3 l0 s1;lia;intro D5 H5 f5 s5 e5;have q7:=s5.get m7;have ψ:=d1.trans s5;have q0:H D5=none:=d1.free f5;lia;refine kU (λi σ H'=>∃(π a8:vr V) (Dk:ee) (rs:eP Rw),σ=[aY (!ak p),aY (nat st),aY (nat mo),aY (V.int c),aY (!ak Z),aY (!ak D2),aY (!ak D3),aY (!ak Dk),aY (!ak D5),π,a8,gg,gg,gg,gg]/\Same H4 H'/\H' Dk=aY (!b7 (nms c 0 ni++nms c 6 nt++nms c 22 i))/\Dk≠D5/\H' D5=aY (!A @bH)/\RwL H' rs/\(∀r∈rs,r.2.1≠D5)/\Mk c ni nt (rs.map (·.2.2))/\rs.length=i) ⟨gg,gg,D4,[],rfl,s5,by rw[show nms c 22 0=[] from rfl,XI];exact s5.get ο,ao ο f5,e5,λ_ h=>hE h @C,λ_ h=>hE h @C,Mk.nil ..,rfl⟩ ?_ ?_
   ·rintro i σ H' hi ⟨π,a8,Dk,rs,rfl,s',ρ,nk,eD,rl,nr,mk,lr⟩;have o3:i < 12:=by omega
    have h3:=Same.seq s' h0;lia;refine⟨_,10,Dk,_,_,rfl,@D,@D,ρ,by rw[fy,fy,fO,fO,fO];omega,λDw H6 ws f6 s6 e6 l4 hw=>?_⟩;have φ:=s6.get eD;lia;refine By @A @A λH7 s7=>?_;lia;intro tr H8 f8 s8 β;have a3:=s7.trans s8;have e0:=a3.get φ;have α:=a3.get (!aQ ρ);have l2:=a3.get e6;lia;refine gY e0 (by rw[a',lj];omega) λH9 ξ=>?_;have nw:Dw≠D5:=(ao eD f6).symm;have a4:Same H4 H9:=λb o e=>ξ.oth _ _ (!L f5) (a3.get (!aQ @ad));have c0:=ξ.oth _ _ nk α;have l3:=ξ.oth _ _ (cy β e0 λz=>by cases z) β;have q3:=ξ.oth _ _ nw l2;have d2:RwL H9 rs:=λr G=>⟨ξ.oth _ _ (cy ((rl.same s6).same a3 r G).1 e0 λz=>by cases z) ((rl.same s6).same a3 r G).1,ξ.oth _ _ (nr r G) ((rl.same s6).same a3 r G).2⟩;have l7:=ξ.at';clear ξ β l2 α e0 a3 s7 s8 f8 φ e6 h3;lia;refine By @A @A λr2 c5=>?_;lia;intro n2 r1 q1 c4 ω;have b3:=c5.trans c4;refine oX (b3.get c0) ω (by rw[a',fy,fy,fO,fO,fO,lj];show _ + 1<=_;omega) λr3 i4 l1 δ a0=>?_;have L:=b3.trans δ;have ei:(22:Int) + (0 + (i:Int))=((22 + i:Nat):Int):=by push_cast;omega
    rw[ei] at a0 l3
    have τ:(nms c 0 ni++nms c 6 nt++nms c 22 i).map V.str++[V.str (nmf c ((22 + i:Nat):Int))]=(nms c 0 ni++nms c 6 nt++nms c 22 @H).map V.str:=by
     rw[sI,<-Yj,eF (l₂:=[_])];rfl
    rw[τ] at a0;lia;refine⟨_,_,r3,rs++[(tr,Dw,nmf c ((22 + i:Nat):Int),ws)],rfl,a4.trans L,a0,(ao (b3.get l7) l1).symm,by rw[L.get l7,eF];rfl,λr G=>?_,λr G=>?_,?_,by rw[fy,lr];rfl⟩
    ·rcases gs.mp G with h | h
     ·exact d2.same L r h
     ·rw[eR] at h;subst h;exact⟨L.get l3,L.get q3⟩
    ·rcases gs.mp G with h | h
     ·exact nr r h
     ·rw[eR] at h;subst h;exact nw
    ·have lm:(rs.map (·.2.2)).length=i:=by rw[a',lr]
     have:=mk.put (ws:=ws) l4 (by rw[lm];exact hw);rw[lm] at this;rw[eF];exact this
   ·rintro σ H' ⟨π,a8,Dk,rs,rfl,s',ρ,nk,eD,rl,nr,mk,lr⟩;rw[n'] at lr;rw[n'] at ρ;have f0:=s'.get m4;have m3:=s'.get Y;have h3:=Same.seq s' h0;have γ:=d1.trans s';obtain⟨j,hj,r7⟩:=jq (c:=mixV c 4) (m:=(((@bH).length:Nat):Int) + 1) @A;have j0:(@bH).length=rs.length:=a' ..
    have k9:j<=rs.length:=by omega
    clear m7 m4 Y ο e5 h0 d1 ψ s5 f5 q0 q7;lia;rw[hj];intro D6 H6 f6 s6 e6;rw[wo _ j (by rw[j0];exact k9),<-aj0] at e6;have φ:=s6.get eD;lia;refine TF ?_;lia;intro D7 H7 f7 s7 e7;rw[GS _ j (by rw[j0];exact k9),<-af7] at e7;refine⟨D7,_,rfl,!ad e7,λD8 f8=>?_⟩;rw[<-List.map_reverse];have s8:=bo (o:=HO.lst (!c5 (!aW j))) f8;have β:upd H7 D8 (HO.lst (!c5 (!aW j))) D8=aY (HO.lst (!c5 (!aW j))):=aw;generalize upd H7 D8 (HO.lst (!c5 (!aW j)))=H8 at s8 β ⊢;refine oX (s8.get (s7.get e6)) β (by rw[a',a',ao2,ZU,qF,lj];omega) λD9 H9 f9 s9 e9=>?_;rw[<-eF] at e9;have a4:=s6.trans (s7.trans (s8.trans s9));have q6:=a4.get f0;have l8:=a4.get m3;have c0:=a4.get ρ;have d2:=rl.same a4;have n3:=γ.trans a4
    have perm:(rs.drop j++(!aW j).reverse).Perm rs:=by
     refine ZS (ZZ _ (List.reverse_perm _)) ?_;refine ZS ab2 ?_;rw[YM]
    generalize j1:rs.drop j++(!aW j).reverse=rs' at e9 perm;have n5:RwL H9 rs':=λr G=>d2 r (perm.mem_iff.mp G);clear d2 rl s8 β e7 f7 f8 s7 e6 f6 s6 s9 f9 a4 f0 m3 eD φ nr nk s' γ h3 ρ j1;lia;intro f2 r2 q2 c5 q9;have m2:=c5.get l8;lia;refine !E ⟨⟨_,SqL.of m2⟩,?_⟩;have lk:(nms c 0 ni++nms c 6 nt++nms c 22 nz).length=ni + nt + nz:=by rw[fy,fy,fO,fO,fO]
    generalize υ:nms c 0 ni++nms c 6 nt++nms c 22 nz=kn at c0 lk;refine Bo (xs:=(nms c 6 nt).map V.str) (λi σ H'=>∃(π c1:vr V) (qs:eP Qs),σ=[aY (!ak p),aY (nat st),aY (nat mo),aY (V.int c),aY (!ak Z),aY (!ak D2),aY (!ak D3),aY (!ak Dk),aY (!ak D9),π,a8,aY (V.int j),aY (!ak f2),c1,gg]/\Same H9 H'/\H' f2=aY (!A @cl)/\QsK H' qs/\qs.map (·.2.1)=nms c 6 i/\∀q∈qs,q.2.2∈kn) ⟨_,gg,[],rfl,c5,q9,λ_ h=>hE h @C,rfl,λ_ h=>hE h @C⟩ (λi σ H' _ ⟨_,_,_,_,s',_⟩=>SqL.of (!Q l8)) ?_ ?_
    ·rintro i y σ H' pz H7 hy ⟨π,c1,qs,rfl,s',eq,qk,qn,qw⟩ fp s7 e7;obtain⟨z,hz,rfl⟩:=az hy;have k8:=(@aX).1;rw[fO] at k8
     have ez:z=nmf c ((6 + i:Nat):Int):=by
      unfold nms at hz;rw[hB,Xf k8] at hz;exact(qA hz).symm
     have lq:qs.length=i:=by have:=oe w3 qn;rw[a',fO] at this;exact this
     have t4:=s7.get (!Q c0);have ζ:(@bI).length=ni + nt + nz:=by rw[a',lk]
     have h6:=s7.get eq;lia;obtain⟨m,hm,a6⟩:=jq (c:=mixV c (50 + (i:Int))) (m:=(((@bI).length:Nat):Int)) @A;have a6:m < kn.length:=by rw[a'] at a6;omega
     have p0:atI @bI (mixV c (50 + (i:Int)) % (((@bI).length:Nat):Int))=aY (.str kn[m]):=by
      rw[hm];exact dB (by rw[hB,eH a6];rfl)
     lia;intro tq H8 f8 s8 β;lia;refine gY (s8.get h6) (by rw[a',lj];omega) λt9 ξ=>?_;lia;refine⟨_,_,qs++[(tq,z,kn[m])],rfl,λb o e=>ξ.oth _ _ (!L q2) (s8.get (s7.get @ad)),by rw[ξ.at',eF];rfl,?_,?_,fun ε η=>?_⟩
     ·intro ε η;rcases gs.mp η with h | h
      ·exact((qk.same s7).same s8).updL (s8.get h6) ξ.oth ε h
      ·rw[eR] at h;subst h;exact ξ.oth _ _ (cy β (s8.get h6) λz=>by cases z) β
     ·rw[eF,qn,sI,ez];rfl
     ·rcases gs.mp η with h | h
      ·exact qw ε h
      ·rw[eR] at h;subst h;exact Xm a6
    ·rintro σ H' ⟨π,c1,qs,rfl,s',eq,qk,qn,qw⟩;rw[a',fO] at qn;have q4:=s'.get c0;have f0:=s'.get q6;have q5:=s'.get e9;have n4:=n5.same s';lia;intro n2 r1 q1 c4 ω;lia;refine L2.s_cut (fun σ H2=>∃(Do:ee) (outs:B'),σ=[aY (!ak p),aY (nat st),aY (nat mo),aY (V.int c),aY (!ak Z),aY (!ak D2),aY (!ak D3),aY (!ak Dk),aY (!ak D9),π,a8,aY (V.int j),aY (!ak f2),c1,aY (!ak Do)]/\Same H' H2/\H2 Do=aY (!A (outs.map V.str))/\outs.length<=3/\∀z∈outs,z∈kn) ?_ ?_
     ·have l5:=c4.get q4;lia;intro t7 i4 l1 δ a0;have g3:=δ.get l5;refine Rz (AA g3) (AA (ws:=[]) a0) (by rw[depD,FH];decide) ?_;rw[show(Zc Dt.str [])=[] from rfl,GO];have f3:=c4.trans δ;have i3:=δ.get ω;by_cases hz:kn=[]
      ·rw[gB hz];lia;exact⟨n2,[],rfl,f3,i3,Xy _,λ_ h=>hE h @C⟩
      ·rw[f' hz];have m0:=zt (!aV 5) (show(4:Int)≠0 by decide);have m1:=w5 (!aV 5) (show(0:Int) < 4 by decide);have a7:1<=kn.length:=Z8.mpr hz;have ζ:(@bI).length=kn.length:=a' ..
       lia;intro n0 g0;refine d5 (λi ys H2=>∃ws:B',ys=ws.map V.str/\Same i4 H2/\H2 n0=aY @Y/\ws.length=i/\∀w∈ws,w∈kn) ⟨[],rfl,bo g0,aw,rfl,λ_ h=>hE h @C⟩ ?_ ?_
       ·rintro i ys H2 hi ⟨ws,rfl,s2,eD,lw,hw⟩;have t5:=s2.get g3;have s0:i < 4:=by omega
        lia;obtain⟨m,hm,a6⟩:=jq (c:=mixV c (80 + (0 + (i:Int)))) (m:=(((@bI).length:Nat):Int)) @A;have a6:m < kn.length:=by omega
        have p0:atI @bI (mixV c (80 + (0 + (i:Int))) % (((@bI).length:Nat):Int))=aY (.str kn[m]):=by
         rw[hm];exact dB (by rw[hB,eH a6];rfl)
        lia;refine⟨eD,by rw[a'];exact aK @A,ws++[kn[m]],by rw[eF];rfl,λb o e=>?_,aw,by rw[fy,lw];rfl,λw n9=>?_⟩
        ·rw[aD (!L g0)];exact s2.get e
        ·rcases gs.mp n9 with h | h
         ·exact hw w h
         ·rw[eR.mp h];exact Xm a6
       ·rintro ys H2 ⟨ws,rfl,s2,eD,lw,hw⟩;lia;exact⟨n0,ws,rfl,f3.trans s2,eD,@A,hw⟩
     ·rintro σ i4 ⟨Do,outs,rfl,δ,a0,lo,ho⟩;have m5:=δ.get f0;lia;intro tt r0 t3 g4 q8;have a5:=δ.trans g4;have a7:(rs.map (·.2.2)).length=nz:=by rw[a',lr]
      subst υ
      have aT:∀ε∈qs.map (·.2),ε.2∈nms c 0 ni++nms c 6 nt++nms c 22 (rs.map (·.2.2)).length:=fun ε η=>by
       obtain⟨n6,j3,rfl⟩:=hC.mp η;rw[a7];exact qw n6 j3
      have aO:∀z∈outs,z∈nms c 0 ni++nms c 6 nt++nms c 22 (rs.map (·.2.2)).length:=by rw[a7];exact ho
      have aN:(qs.map (·.2)).map (·.1)=nms c 6 nt:=by rw[tu];exact qn
      refine q tt D2 D9 f2 Do r0 rs' qs ⟨nms c 0 ni,rs'.map (·.2.2),qs.map (·.2),outs⟩ (n3.trans (!bb a5)) q8 ⟨g4.get m5,a5.get q5,λr G=>n4.same a5 r G,rfl,a5.get eq,fun ε η=>qk.same a5 ε η,rfl,g4.get a0⟩ (Lj mk b6 ι (by rw[a7];exact θ) (perm.map _) aN @A aT aO) (by show(nms c 0 ni).length<=3;rw[fO];exact b6) (by show(rs'.map (·.2.2)).length<=mo;rw[(perm.map _).length_eq,a7];exact j4) (RX mk b6 ι (by rw[a7];exact θ) (perm.map _) aN @A aT aO)
end
section
variable {P:ry} {w:z5} {K:b'} {mg:F'} {base:WN} {a:Ad}
local macro_rules | `(tactic| walk_at "l2step") =>`(tactic| first | ((with_reducible refine' dR ?e ?_);(case e=>walk_at "l2kind")) | ((with_reducible refine' gS ?e ?_);(case e=>walk_at "l2kind")) | (with_reducible refine cE ?_) | (with_reducible refine dZ ?_))
theorem AO (T:@I):!G 2 a.gb a.rQ @cj J8:=by
 refine T.eN.1.okA d7 fun γ A outer s H vs Q E L h=>?_;obtain⟨c,rfl,q⟩:=h
 refine⟨_,((af (!ap d7.nd bE)
  (af (!am d7.nd bE)
  (af (!am d7.nd (ay ij @T bE))
  (af (!aX (PW.pt (Gq (!O Ck @K ah) (AC (!O lN (ay dA (!aa (cS T) L T.bQ T.bD 0 ah) ah) ah)))) (!a2 (eV (K:=K) rfl XZ YW YV wj @T @bp) (!ab dA c7 @K (!aa (cS T) L T.bQ T.bD 0 ah) ah)) bg)
  (!Y (ay ij (!c0 LL @Q (ay dA (!aa (cS T) L T.bQ T.bD 0 ah) ah)) (bc iq @F T.E8 XC (!N (!ab c7 dA (!aa (cS T) L T.bQ T.bD 0 ah) ah (ay qK ah @K))))))))))),!bO rfl⟩
 lia;refine⟨@L,?_⟩;lia;generalize hw:((_:kv)++_)=words;have hm:=w5 (!aV 400) (show(0:Int) < 26 by decide);have Y:=zt (!aV 400) (show(26:Int)≠0 by decide);have α:=w5 @bv (show(0:Int) < 1000 by decide);have β:=zt @bv (show(1000:Int)≠0 by decide);refine⟨c,400,rfl,@D,@D,?_⟩;lia;refine Rt @L (zQ _ Y hm) ?_;lia;refine⟨c,401,rfl,@D,@D,?_⟩;lia;have hn:(@cW).natAbs < 10 ^ 4:=by omega
 have G:(@cW).natAbs.log2 < 1920:=by
  exact(ad0 @A).mpr (gA hn (XX (by decide:10 ^ 4<=2 ^ 14) (hL @D @D)))
 have Z:=YU G;refine⟨G,?_⟩;refine⟨_,_,rfl,rfl,by rw[lj];have:(⟨#[97 + (@bs).toNat]⟩:kv).length=1:=rfl;omega,?_⟩;have e:@cW=(((@aO).toNat + 3330:Nat):Int):=by omega
 have ε:=q H (Same.refl _);unfold nm9 at ε;rw[e];exact ε
end
local macro_rules | `(tactic| walk_at "l2step") =>`(tactic| first | ((with_reducible refine' pL ?e ?a ?_);(case e=>walk_at "l2hp");(case a=>walk_at "l2side")) | ((with_reducible refine' MF ?a ?b ?_);(case a=>walk_at "l2side");(case b=>walk_at "l2side");(with_reducible intro _ _)))
section
variable {P:ry} {w:z5} {K:b'} {mg:F'} {base:WN} {a:Ad}
local macro_rules | `(tactic| walk_at "l2step") =>`(tactic| first | ((with_reducible refine' dR ?e ?_);(case e=>walk_at "l2kind")) | ((with_reducible refine' gS ?e ?_);(case e=>walk_at "l2kind")) | (with_reducible refine cE ?_) | (with_reducible refine dZ ?_))
theorem O3 (ws:B'):eqD (!A (ws.map strD)) (!A [])=decide (ws=[]):=by
 cases ws with
 | nil=>rfl
 | cons w l=>rw[f' @C];rfl
theorem MB (ns:P') (a b:Nat):∃zs:P',cutV @as (aY (a:Int)) (aY (b:Int))=zs.map V.int/\zs.length<=b - a:=by
 have hl:(cutV @as (aY (a:Int)) (aY (b:Int))).length<=b - a:=by
  unfold cutV;rw[qF];have h1:=HT.sIx_nat (@as).length (@as).length b;have h2:=HT.sIx_nat (@as).length 0 a;rw[h1,h2];omega
 have:∃zs:P',cutV @as (aY (a:Int)) (aY (b:Int))=zs.map V.int:=by
  unfold cutV;rw[<-aj0,<-af7];exact⟨_,rfl⟩
 obtain⟨zs,e⟩:=this;rw[e,a'] at hl;exact⟨zs,e,hl⟩
theorem UK (T:@I):!G 18 a.IJ a.Vw ["_law_script"] (Gf K):=by
 refine T.Pm.okA wG λg3 A outer s H vs Q E hr h=>?_;obtain⟨p0,ns,rfl,hS,f1,q⟩:=h;have f8:=GJ hr;have e1:=EL hr
 refine⟨_,((af (!b3 wG.nd rfl (aj (E2 T) hr T.IH T.qr (!bj 0 (!Z ah ah))))
  (af (!ap wG.nd (iZ T.M6 (iG T) @a4 @F T.L6 T.c9.2 .nil bC (aa (!a1 @K) (aa (!a1 @K) (!Z (!a1 @K) (!a1 @K))))))
  (af (!am wG.nd (!bh @Q T.cA T.jT (i5 T) @a4 T.cT.2))
  (af (!bi wG.nd rfl (ay jw (j6 @bC @G (kH ah) (kH ah)) (cU (!Z ah ah))))
  (af (dF qa rfl (!W (ay jw (j6 @bC @G (kH ah) (kH ah)) (cU (!N ah)))) (aq (i:=5) wG.nd rfl @E) (af (aA (i:=6) wG.nd rfl @E (!aa (AO T) hr T.kT T.eN 5 ah))
  (ai (!al (PW.pt (Gq (!O (EU (K:=K) rfl e1) @T @ay) (AC (aQ (w9 (K:=K) rfl) (pv 6) @T @F)))) (!aX (!aM (aj (AN T) hr T.C0 T.mi (!bj 2 (aa (!a2 @T (ay dA @aE (!a5 (!ah 3)))) (!a9 6 4))))) yP bg)))))
  (!Y yP))))))),au (σ':=[aY _,gg,gg,gg,gg,gg,gg]) rfl ?_⟩
 lia;refine⟨p0,ns,0,6,rfl,hS,@D,@D,λt i s u o H1 rs qs N s1 et hn g f7 f6 f3=>?_⟩;have e4:=Same.seq s1 hS;lia;intro x dx H2 f2 s2 e2;refine⟨x,dx,i,s,u,o,rs,qs,N,rfl,e2,hn.same s2,g,λH3 od k3 na=>⟨rfl,?_⟩⟩;have d2:Same H1 H3:=λb ob e=>k3 _ _ (!L f2) (s2.get e);have ω:=Same.seq d2 e4;obtain⟨_,_,_,_,_,_,_,_,_,_,hp,_⟩:=na.ho;clear k3 e2 s2 f2 hn;lia;refine !M hp;lia;refine⟨x,N,od,rfl,na,λDn i3 g0 b3 c3=>?_⟩;have π:=na.same b3;have ρ:=Same.seq b3 ω;obtain⟨ys,a4,f5⟩:=MB ns 12 15;obtain⟨zs,a3,f4⟩:=MB ns 8 12;have a4:cutV @as (aY 12) (aY 15)=ys.map V.int:=a4;have a3:cutV @as (aY 8) (aY 12)=zs.map V.int:=a3;lia;rw[a4];intro La h6 f0 ν c2;lia;intro Lb h5 e9 a0 c1;lia;refine oX (a0.get c2) c1 (by rw[a'];exact Y6 (aK (by show ys.length + 2<=1000;omega))) λLc α e8 a8 τ=>?_;have τ:α Lc=aY (!A ((ys++[6,9]).map V.int)):=by rw[τ,eF];rfl
 have ψ:=(ν.trans a0).trans a8;have ο:=π.same ψ;have γ:=Same.seq ψ ρ;have υ:=ψ.get c3;clear π ρ ψ a8 a0 ν f0 e9 e8 c2 c1 c3;lia;rw[a3];intro Ld h4 e7 a7 Z;lia;intro Le h3 e6 φ c0;lia;refine oX (φ.get Z) c0 (by rw[a'];exact Y6 (aK (by show zs.length + 1<=1000;omega))) λLf c4 e5 a6 ι=>?_;have ι:c4 Lf=aY (!A ((zs++[3]).map V.int)):=by rw[ι,eF];rfl
 have χ:=a7.trans (φ.trans a6);have β:=ο.same χ;have ζ:=χ.get υ;have η:=χ.get τ;clear ο γ υ τ χ a7 φ a6 Z c0 e7 e6 e5;refine⟨Lf,rfl,⟨_,!ad ι⟩,?_⟩;refine gE (xs:=(zs++[3]).map V.int) (λj σ H'=>∃(v5 v6:vr V),σ=[aY (!j p0),aY @ab,aY (!j x),aY (!j Dn),aY (!j Lc),v5,v6]/\Same c4 H') @cC (λj σ H' _ ⟨_,_,_,s'⟩=>SqL.of (!Q ι)) ?_ ?_
 ·rintro j v σ H' hv ⟨v5,v6,rfl,s'⟩;obtain⟨c,hc,rfl⟩:=az hv;lia;refine⟨c,rfl,λh0 d1=>?_⟩;have ξ:=s'.trans d1;have ε:=ξ.get ζ;lia;intro Bx Hx fx sx ex;have G:=ξ.trans sx;have δ:=sx.get ε;refine Rz (Ol δ) (Rep.lst (ds:=[]) (!ad ex) rfl λi x d h=>by simp at h) (by unfold depD;rw[GP];decide) ?_;rw[O3];by_cases L:N.names=[]
  ·refine⟨false,by rw[gB L];rfl,?_⟩;dsimp only;rw[kf @D,kf @D];exact⟨_,_,rfl,G⟩
  refine⟨true,by rw[f' L];rfl,?_⟩;dsimp only;rw[lx rfl];lia;refine⟨Dn,_,rfl,!E (!ad δ),rfl,by rw[Xn];intro x hx;obtain⟨y,_,rfl⟩:=hC.mp hx;rfl,?_⟩;refine⟨_,rfl,?_⟩;by_cases hz:nm9 c∈N.names
  ·have a5:(if true=true then !inV (V.str (nm9 c)) @aS else inV (V.str (nm9 c)) @aS)=false:=by rw[lx rfl,xZ.mpr hz];rfl
   dsimp only;rw[kf (by rw[a5];decide)];exact⟨_,_,rfl,G⟩
  have a5:(if true=true then !inV (V.str (nm9 c)) @aS else inV (V.str (nm9 c)) @aS)=true:=by
   rw[lx rfl,ZQ,<-ag0];exactλh=>hz (xZ.mp h)
  dsimp only;rw[lx a5];have lp:0 < N.names.length:=Z8.mpr L;have e0:(0:Int) < (((@aS).length:Nat):Int):=by rw[a'];omega
  obtain⟨jj,e3,Y⟩:=jq (c:=c) (m:=(((@aS).length:Nat):Int)) e0;rw[a'] at Y;have Y:jj < N.names.length:=by omega
  obtain⟨θ,b6⟩:∃θ,N.names[jj]=θ:=⟨_,rfl⟩;have hw:θ∈N.names:=by rw[<-b6];exact Xm Y
  have f9:atI @aS (c % (((@aS).length:Nat):Int))=aY (.str θ):=by
   rw[e3];exact dB (by rw[hB,eH Y,b6];rfl)
  have ec:Hx Lc=aY (!A ((ys++[6,9]).map V.int)):=G.get η;lia;refine⟨x,Lc,N,od,θ,nm9 c,ys++[6,9],rfl,β.same G,hw,UT c,hz,@A,ec,by rw[fy];show ys.length + 2<=100;omega,λg4 c5=>?_⟩;lia;exact⟨_,_,rfl,G.trans c5⟩
 ·rintro σ H' ⟨v5,v6,rfl,s'⟩;lia;exact q _
end
open PySem.W in
theorem all_mk {l:ap4} {w:z5} {K:Frag} {h:WN} {mg:F'} {fa:ee} (X:K.In h) (G:h.Ns W8 mg) (hfa:mg "law"=aY (!j fa)){gF jy lE yg lF ly i6 i7 bW cn eL cq yh kW g9 dQ dw je cO bN dG cZ bF cW cF bp ck bU eI eJ fV eE dq rM lh cf cJ cI b4 cu gH b0 cX bz lD eG nQ fT bG b7 bM bh cK b5 tK:ee}{yH:i'}{yG:Q'}{yF:Nat}{yE:K'}{qN:Tok}{yZ zF:Q'}{yI:K'}{y3 zA zD yO qX zE:i'}{cL b8 cM rP i8 jc hU nP lg FF hV hX rN kZ fU jb du rO jd kX ja i9 g8 lC cH gG cG fW h7 jg gc gb fX jf hZ eK cj fY fZ:ee}{UN VD:Q'}{Tu:K'}{UO U5 Vv Uw Qy Vy:i'}{IJ bO:ee}(SJ:NI K "Steps" bO){tH:ee}(VH:NI K "Wire" tH){bj:ee}(Pk:NI K "InWire" bj){aX:ee}(MX:NI K "SumWire" aX){aC:ee}(F0:NI K "StoreWire" aC){cP:ee}(WE:NI K "Net" cP){av:ee}(MY:NI K "Machine" av){gT:ee}(WD:NI K "Run" gT)(Ji:NI K "is_whole" gF)(Iq:FR K "is_whole" "is_whole" ub gF)(MV:NI K "is_mask" jy)(LF:FR K "is_mask" "is_mask" wZ jy)(MU:NI K "is_name" lE)(LD:FR K "is_name" "is_name" r9 lE)(VF:NI K "even" yg)(U3:FR K "even" "even" Kj yg)(MW:NI K "bits_of" lF)(LG:FR K "bits_of" "bits_of" se lF)(MR:NI K "mask_of" ly)(Lz:FR K "mask_of" "mask_of" wW ly)(Jb:NI K "words_of" i6)(Ii:FR K "words_of" "words_of" t8 i6)(Jc:NI K "unpacked" i7)(Ij:FR K "unpacked" "unpacked" pU i7)(Ju:FI K bO "__init__" bW)(vP:FR K "__init__" "Steps.__init__" jJ bW)(JF:FI K bO "lowered" cn)(xS:FR K "lowered" "Steps.lowered" kE cn)(QO:FI K bO "lay" eL)(Fu:FR K "lay" "Steps.lay" rz eL)(JG:FI K bO "barring" cq)(xT:FR K "barring" "Steps.barring" kF cq)(VG:NI K "base" yh)(U4:FR K "base" "base" Ko yh)(MM:NI K "sum_for" kW)(Lu:FR K "sum_for" "sum_for" wQ kW)(FS:NI K "next_pair" g9)(Fl:FR K "next_pair" "next_pair" rj g9)(zG:NI K "first_unlike" dQ)(zk:FR K "first_unlike" "first_unlike" gQ dQ)(yB:NI K "pairs_come_to" dw)(xP:FR K "pairs_come_to" "pairs_come_to" dY dw)(Jk:NI K "compared" je)(Iu:FR K "compared" "compared" ki je)(JD:FI K tH "__init__" cO)(xQ:FR K "__init__" "Wire.__init__" kB cO)(G3:FI K bj "__init__" bN)(uL:FR K "__init__" "InWire.__init__" iX bN)(Pt:FI K bj "bit" dG)(CN:FR K "bit" "InWire.bit" o6 dG)(Nv:FI K bj "hang" cZ)(Bg:FR K "hang" "InWire.hang" nI cZ)(F5:FI K aX "__init__" bF)(sQ:FR K "__init__" "SumWire.__init__" iC bF)(Nq:FI K aX "bit" cW)(Bd:FR K "bit" "SumWire.bit" nG cW)(Nd:FI K aX "hang" cF)(zm:FR K "hang" "SumWire.hang" mq cF)(Eg:FI K aC "__init__" bp)(qC:FR K "__init__" "StoreWire.__init__" gL bp)(JE:FI K aC "bit" ck)(xR:FR K "bit" "StoreWire.bit" kC ck)(Jt:FI K aC "hang" bU)(vO:FR K "hang" "StoreWire.hang" jI bU)(BC:NI K "check_sizes" eI)(Ba:FR K "check_sizes" "check_sizes" j5 eI)(BD:NI K "check_names" eJ)(Bb:FR K "check_names" "check_names" nE eJ)(DW:NI K "check_wire" fV)(CG:FR K "check_wire" "check_wire" oW fV)(BA:NI K "check_wires" eE)(A8:FR K "check_wires" "check_wires" nC eE)(yz:NI K "wires_by_name" dq)(xN:FR K "wires_by_name" "wires_by_name" di dq)(SF:NI K "waits" rM)(R7:FR K "waits" "waits" Aw rM)(MQ:NI K "ordered" lh)(Ly:FR K "ordered" "ordered" oU lh)(Nj:FI K cP "__init__" cf)(zv:FR K "__init__" "Net.__init__" dJ cf)(Ni:FI K cP "in_names" cJ)(zu:FR K "in_names" "Net.in_names" my cJ)(Nh:FI K cP "sum_rows" cI)(zr:FR K "sum_rows" "Net.sum_rows" mx cI)(Jw:FI K cP "store_rows" b4)(vR:FR K "store_rows" "Net.store_rows" jL b4)(JH:FI K cP "out_wires" cu)(xU:FR K "out_wires" "Net.out_wires" kG cu)(SU:FI K cP "told" gH)(Iz:FR K "told" "Net.told" ue gH)(Jv:FI K cP "wire_names" b0)(vQ:FR K "wire_names" "Net.wire_names" jK b0)(Nr:FI K cP "wire_of" cX)(Be:FR K "wire_of" "Net.wire_of" nH cX)(Ej:FI K cP "names_by_need" bz)(rK:FR K "names_by_need" "Net.names_by_need" d9 bz)(MT:NI K "is_pair" lD)(LC:FR K "is_pair" "is_pair" wX lD)(BB:NI K "check_table" eG)(A9:FR K "check_table" "check_table" j2 eG)(Pj:NI K "is_odd" nQ)(OM:FR K "is_odd" "is_odd" Ax nQ)(DU:NI K "odd_places" fT)(CD:FR K "odd_places" "odd_places" lP fT)(F6:FI K av "__init__" bG)(sR:FR K "__init__" "Machine.__init__" iD bG)(Jy:FI K av "stores" b7)(vT:FR K "stores" "Machine.stores" jN b7)(G2:FI K av "outputs" bM)(uK:FR K "outputs" "Machine.outputs" iW bM)(BL:FI K av "check_state" bh)(pq:FR K "check_state" "Machine.check_state" fL bh)(Nk:FI K av "step" cK)(zw:FR K "step" "Machine.step" mz cK)(Jx:FI K av "walked" b5)(vS:FR K "walked" "Machine.walked" jM b5)(Nu:FI K av "run" cL)(Bf:K.lookup cL=aY ⟨y3,yZ,.func (fnOf "run" "Machine.run" (jh gw) (gf gw) (ag gw) (!j tK) zA zD yO zF qX zE),yI⟩)(zj:K.lookup tK=aY ⟨yH,yG,.seq #[.int 0 qN] yF,yE⟩)(Bz:codeIn K qX "Machine.run"=true)(sk:!br cL)(Jz:FI K av "single" b8)(vU:FR K "single" "Machine.single" jO b8)(Nl:FI K av "back" cM)(zy:FR K "back" "Machine.back" mB cM)(SI:NI K "hangs" rP)(Sa:FR K "hangs" "hangs" EK rP)(Jd:NI K "table_of" i8)(Ik:FR K "table_of" "table_of" mK i8)(Jh:NI K "numbered" jc)(Ip:FR K "numbered" "numbered" pW jc)(FU:NI K "named_sum" hU)(Fn:FR K "named_sum" "named_sum" ku hU)(Pi:NI K "net_of" nP)(OL:FR K "net_of" "net_of" wc nP)(MP:NI K "put_for" lg)(Lx:FR K "put_for" "put_for" r6 lg)(WC:NI K "cut" FF)(Wv:FR K "cut" "cut" s_cut FF)(FV:NI K "free_name" hV)(Fo:FR K "free_name" "free_name" kA hV)(FW:NI K "cut_shown" hX)(Fp:FR K "cut_shown" "cut_shown" rn hX)(SG:NI K "reach" rN)(R8:FR K "reach" "reach" wV rN)(MO:NI K "rows_at" kZ)(Lw:FR K "rows_at" "rows_at" wU kZ)(DV:NI K "look_masks" fU)(CF:FR K "look_masks" "look_masks" ju fU)(Jg:NI K "odd_with" jb)(Io:FR K "odd_with" "odd_with" pV jb)(yA:NI K "told_by_looks" du)(xO:FR K "told_by_looks" "told_by_looks" kr du)(SH:NI K "least" rO)(R9:FR K "least" "least" kz rO)(Jj:NI K "has_form" jd)(Ir:FR K "has_form" "has_form" pX jd)(MN:NI K "rows_of" kX)(Lv:FR K "rows_of" "rows_of" wR kX)(Jf:NI K "read_net" ja)(Im:FR K "read_net" "read_net" ie ja)(Je:NI K "show_net" i9)(Il:FR K "show_net" "show_net" ib i9)(FQ:NI K "turn_bits" g8)(Fk:FR K "turn_bits" "turn_bits" rh g8)(MS:NI K "mask_at" lC)(LB:FR K "mask_at" "mask_at" r8 lC)(Ng:FI K gT "__init__" cH)(zq:FR K "__init__" "Run.__init__" mw cH)(SS:FI K gT "step" gG)(Iy:FR K "step" "Run.step" pZ gG)(Nf:FI K gT "answered" cG)(zo:FR K "answered" "Run.answered" mr cG)(DX:NI K "answers_of" fW)(CH:FR K "answers_of" "answers_of" oY fW)(FZ:NI K "_law_cell" h7)(Ft:FR K "_law_cell" "_law_cell" rq h7)(Jm:NI K "_law_mix" jg)(Iw:FR K "_law_mix" "_law_mix" ud jg)(Ec:NI K "_law_masks" gc)(CM:FR K "_law_masks" "_law_masks" o5 gc)(FY:NI K "_law_name" gb)(Fs:FR K "_law_name" "_law_name" rp gb)(DY:NI K "_law_wires" fX)(CJ:FR K "_law_wires" "_law_wires" lQ fX)(Jl:NI K "_law_net" jf)(Iv:FR K "_law_net" "_law_net" kj jf)(FX:NI K "_law_rows" hZ)(Fq:FR K "_law_rows" "_law_rows" ro hZ)(BE:NI K "_law_mended" eK)(Bc:FR K "_law_mended" "_law_mended" nF eK)(tI:NI K "_law_least_right" cj)(sP:FR K "_law_least_right" "_law_least_right" iB cj)(DZ:NI K "_law_shows" fY)(CK:FR K "_law_shows" "_law_shows" oZ fY)(Ea:NI K "_law_right" fZ)(CL:FR K "_law_right" "_law_right" o4 fZ)(WB:NI K "law" IJ)(Wu:K.lookup IJ=aY ⟨UO,UN,.func (fnOf "law" "law" (jh Hv) (gf Hv) (ag Hv) .none U5 Vv Uw VD Qy Vy),Tu⟩)(Wz:codeIn K Qy "law"=true)(Wp:!br IJ)(Ot:plainGet K bO Zx=true)(Os:hasDictIn K bO=true)(Oq:plainOver K bO=true)(Oo:findIn K (!j bO) "__setattr__"=aY (aY @bu))(O8:makesIn K bO=true)(O7:FI K bO "__init__" bW)(O6:!a4 bW)(O5:!br bO)(vL:FI K bO "lowered" cn)(vH:!a4 cn)(CC:FI K bO "lay" eL)(CB:!a4 eL)(vM:FI K bO "barring" cq)(vI:!a4 cq)(y6:FN K bO "by_top")(rF:FN K bO "free_places")(sH:FN K bO "null_masks")(KD:plainGet K bj Zx=true)(KC:hasDictIn K bj=true)(KB:plainOver K bj=true)(KA:findIn K (!j bj) "__setattr__"=aY (aY @bu))(Ml:makesIn K bj=true)(Mj:FI K bj "__init__" bN)(Mi:!a4 bN)(Mh:!br bj)(A5:FI K bj "bit" dG)(A4:!a4 dG)(zi:FI K bj "hang" cZ)(ze:!a4 cZ)(AU:FN K bj "name")(xn:FN K bj "number")(HK:plainGet K aX Zx=true)(HI:hasDictIn K aX=true)(HG:plainOver K aX=true)(Hy:findIn K (!j aX) "__setattr__"=aY (aY @bu))(IU:makesIn K aX=true)(IS:FI K aX "__init__" bF)(IQ:!a4 bF)(IM:!br aX)(zf:FI K aX "bit" cW)(zb:!a4 cW)(xB:FI K aX "hang" cF)(xu:!a4 cF)(y4:FN K aX "name")(xj:FN K aX "wires")(Ce:plainGet K aC Zx=true)(Cd:hasDictIn K aC=true)(Cc:plainOver K aC=true)(Cb:findIn K (!j aC) "__setattr__"=aY (aY @bu))(Dc:makesIn K aC=true)(Da:FI K aC "__init__" bp)(C9:!a4 bp)(C8:!br aC)(vK:FI K aC "bit" ck)(vG:!a4 ck)(uE:FI K aC "hang" bU)(uy:!a4 bU)(vA:FN K aC "name")(sG:FN K aC "number")(vz:FN K aC "wire")(Ut:plainGet K cP Zx=true)(Ur:hasDictIn K cP=true)(Up:plainOver K cP=true)(Um:findIn K (!j cP) "__setattr__"=aY (aY @bu))(Vr:makesIn K cP=true)(Vp:FI K cP "__init__" cf)(Vn:!a4 cf)(Vl:!br cP)(xE:FI K cP "in_names" cJ)(xx:!a4 cJ)(xD:FI K cP "sum_rows" cI)(xw:!a4 cI)(uG:FI K cP "store_rows" b4)(uA:!a4 b4)(vN:FI K cP "out_wires" cu)(vJ:!a4 cu)(Fg:FI K cP "told" gH)(Fe:!a4 gH)(uF:FI K cP "wire_names" b0)(uz:!a4 b0)(zg:FI K cP "wire_of" cX)(zc:!a4 cX)(qz:FI K cP "names_by_need" bz)(qy:!a4 bz)(AS:FN K cP "by_name")(K5:FN K cP "ins")(uo:FN K cP "kept_stores")(HZ:FN K cP "outs")(xk:FN K cP "sum_order")(HY:FN K cP "sums")(HL:plainGet K av Zx=true)(HJ:hasDictIn K av=true)(HH:plainOver K av=true)(Hz:findIn K (!j av) "__setattr__"=aY (aY @bu))(IV:makesIn K av=true)(IT:FI K av "__init__" bG)(IR:!a4 bG)(IP:!br av)(uI:FI K av "stores" b7)(uC:!a4 b7)(sO:FI K av "outputs" bM)(sN:!a4 bM)(oG:FI K av "check_state" bh)(oF:!a4 bh)(xF:FI K av "step" cK)(xy:!a4 cK)(uH:FI K av "walked" b5)(uB:!a4 b5)(zh:FI K av "run" cL)(zd:!a4 cL)(uJ:FI K av "single" b8)(uD:!a4 b8)(xG:FI K av "back" cM)(xA:!a4 cM)(vB:FN K av "inputs")(xl:FN K av "nexts")(y8:FN K av "outs")(Us:plainGet K gT Zx=true)(Uq:hasDictIn K gT=true)(Uo:plainOver K gT=true)(Ul:findIn K (!j gT) "__setattr__"=aY (aY @bu))(Vq:makesIn K gT=true)(Vo:FI K gT "__init__" cH)(Vm:!a4 cH)(Vk:!br gT)(Ff:FI K gT "step" gG)(Fd:!a4 gG)(xC:FI K gT "answered" cG)(xv:!a4 cG)(HX:FN K gT "bits")(E5:FN K gT "given")(HW:FN K gT "held")(K4:FN K gT "net"){uS:ee}(SV:NI K "BadSizes" uS){yx:ee}(VI:NI K "TooMany" yx){fh:ee}(M0:NI K "BadMask" fh){km:ee}(Jp:NI K "BadTable" km)(kq:excIn K fh [.type "ValueError",.type "Exception",.type "BaseException",.type "object"] "ValueError.__new__"=true)(ia:excIn K km [.type "ValueError",.type "Exception",.type "BaseException",.type "object"] "ValueError.__new__"=true)(vm:specialIn K (!j tH) "__getattribute__"=aY (aY @d1))(vk:readsIn K tH @bV=true)(vj:findCls K (!j tH) @bV "__init__"=aY (.val (!j cO))){wD:Tok}(MZ:nsIn K W8 "LETTERS"=aY (aY (.str "abcdefghijklmnopqrstuvwxyz" wD))){mm:Tok}(zH:nsIn K W8 "LONGEST_NAME"=aY (aY (.int 6 mm))){nq:Tok}(BF:nsIn K W8 "MOST_INPUTS"=aY (aY (.int 6 nq))){tU:Tok}(Jn:nsIn K W8 "MOST_INS"=aY (aY (.int 6 tU))){gK:Tok}(qH:nsIn K W8 "MOST_OUTS_machines"=aY (aY (.int 6 gK))){jG:Tok}(vW:nsIn K W8 "MOST_OUTS_nets"=aY (aY (.int 6 jG))){fB:Tok}(oI:nsIn K W8 "MOST_STORES_machines"=aY (aY (.int 120 fB))){iy:Tok}(tJ:nsIn K W8 "MOST_STORES_nets"=aY (aY (.int 16 iy))){qY:Tok}(F1:nsIn K W8 "MOST_SUMS"=aY (aY (.int 40 qY))){oN:Tok}(Ee:nsIn K W8 "MOST_WIRES"=aY (aY (.int 24 oN))){oM:Tok}(Ed:nsIn K W8 "NAME_SIGNS"=aY (aY (.str "abcdefghijklmnopqrstuvwxyz0123456789" oM)))(VY:NN K "all")(VX:NN K "any")(S0:NN K "bool")(SZ:NN K "dict")(Np:NN K "divmod")(Ei:NN K "enumerate")(VW:NN K "int")(BK:NN K "isinstance")(VU:NN K "len")(SY:NN K "list")(QJ:NN K "range")(G1:NN K "reversed")(Nn:NN K "sorted")(VT:NN K "str")(QI:NN K "tuple")(VS:NN K "zip"):∃fd:hF,(∀(s:ik) (v:i'),BindsTo s fd ⟨[v],[]⟩ [("_law_script",v)])/\∀base:WN,K.In base->base.Ns W8 mg->FnOk l.prog w K mg base CX0 18 fa fd ["_law_script"] (Gf K):=by
 have e:=hfa.symm.trans (!J WB);cases e;obtain⟨_,ko⟩:=Iq.ok (ps:=["thing"]) @J;obtain⟨_,jC⟩:=LF.ok (ps:=["thing","width"]) @J;obtain⟨_,iN⟩:=LD.ok (ps:=["thing"]) @J;obtain⟨_,yD⟩:=U3.ok (ps:=["number"]) @J;obtain⟨_,lH⟩:=LG.ok (ps:=["mask"]) @J;obtain⟨_,jB⟩:=Lz.ok (ps:=["places"]) @J;obtain⟨_,qj⟩:=Ii.ok (ps:=["row"]) @J;obtain⟨_,ql⟩:=Ij.ok (ps:=["whole","width","count"]) @J;obtain⟨_,fj⟩:=vP.ok (ps:=["self","rows"]) @J;obtain⟨_,d6⟩:=xS.ok (ps:=["self","mask"]) @J;obtain⟨_,lL⟩:=Fu.ok (ps:=["self","place","row"]) @J;obtain⟨_,gq⟩:=xT.ok (ps:=["self","bit"]) @J;obtain⟨_,Aj⟩:=U4.ok (ps:=["rows"]) @J;obtain⟨_,mY⟩:=Lu.ok (ps:=["rows","wish"]) @J;obtain⟨_,h8⟩:=Fl.ok (ps:=["one","other","pair","row"]) @J;obtain⟨_,jr⟩:=zk.ok (ps:=["one","other"]) @J;obtain⟨_,iM⟩:=xP.ok (ps:=["one","other"]) @J;obtain⟨_,m8⟩:=Iu.ok (ps:=["one","other"]) @J;obtain⟨_,dy⟩:=xQ.ok (ps:=["self","name"]) @J;obtain⟨_,gJ⟩:=uL.ok (ps:=["self","name","number"]) @J;obtain⟨_,jE⟩:=CN.ok (ps:=["self","known","row","state"]) @J;obtain⟨_,iQ⟩:=Bg.ok (ps:=["self","known"]) @J;obtain⟨_,fJ⟩:=sQ.ok (ps:=["self","name","wires"]) @J;obtain⟨_,iO⟩:=Bd.ok (ps:=["self","known","row","state"]) @J;obtain⟨_,gU⟩:=zm.ok (ps:=["self","known"]) @J;obtain⟨_,dU⟩:=qC.ok (ps:=["self","name","wire","number"]) @J;obtain⟨_,gj⟩:=xR.ok (ps:=["self","known","row","state"]) @J;obtain⟨_,fi⟩:=vO.ok (ps:=["self","known"]) @J;obtain⟨_,ka⟩:=Ba.ok (ps:=["ins","sums","stores","outs"]) @J;obtain⟨_,kb⟩:=Bb.ok (ps:=["names"]) @J;obtain⟨_,gi⟩:=CG.ok (ps:=["wire","known"]) @J;obtain⟨_,j8⟩:=A8.ok (ps:=["sums","stores","outs","known"]) @J;obtain⟨_,iL⟩:=xN.ok (ps:=["ins","sums","stores"]) @J;obtain⟨_,yC⟩:=R7.ok (ps:=["row","waiting"]) @J;obtain⟨_,tO⟩:=Ly.ok (ps:=["sums"]) @J;obtain⟨_,c9⟩:=zv.ok (ps:=["self","ins","sums","stores","outs"]) @J;obtain⟨_,bT⟩:=zu.ok (ps:=["self"]) @J;obtain⟨_,dS⟩:=zr.ok (ps:=["self"]) @J;obtain⟨_,b9⟩:=vR.ok (ps:=["self"]) @J;obtain⟨_,cw⟩:=xU.ok (ps:=["self"]) @J;obtain⟨_,nc⟩:=Iz.ok (ps:=["self"]) @J;obtain⟨_,cT⟩:=vQ.ok (ps:=["self"]) @J;obtain⟨_,cv⟩:=Be.ok (ps:=["self","name"]) @J;obtain⟨_,cC⟩:=rK.ok (ps:=["self"]) @J;obtain⟨_,tP⟩:=LC.ok (ps:=["thing","stores","inputs"]) @J;obtain⟨_,j9⟩:=A9.ok (ps:=["inputs","nexts","outs"]) @J;obtain⟨_,wu⟩:=OM.ok (ps:=["pair","state","row"]) @J;obtain⟨_,jA⟩:=CD.ok (ps:=["pairs","state","row"]) @J;obtain⟨_,dI⟩:=sR.ok (ps:=["self","inputs","nexts","outs"]) @J;obtain⟨_,aV⟩:=vT.ok (ps:=["self"]) @J;obtain⟨_,cb⟩:=uK.ok (ps:=["self"]) @J;obtain⟨_,bK⟩:=pq.ok (ps:=["self","state"]) @J;obtain⟨_,cN⟩:=zw.ok (ps:=["self","state","row"]) @J;obtain⟨_,fk⟩:=vS.ok (ps:=["self","rows","state"]) @J;have iP:=Sj (st:=gw) Bf zj Bz sk;have b_Machine_run:=iP.binds (ps:=["self","rows","state"]) (ds:=[]) λ_ _ _ _ _ _ _ us hl=>match us,hl with | [_,_,_],_=>⟨_,rfl,rfl⟩
 have nY:=iP.binds (ps:=["self","rows","state"]) (ds:=[.int 0 qN]) λ_ _ _ _ _ _ _ us hl=>match us,(show us.length=2 by simpa using hl) with | [_,_],_=>⟨_,rfl,rfl⟩
 obtain⟨_,dC⟩:=vU.ok (ps:=["self","which","turns"]) @J;obtain⟨_,fA⟩:=zy.ok (ps:=["self","mask"]) @J;obtain⟨_,BJ⟩:=Sa.ok (ps:=["net"]) @J;obtain⟨_,ir⟩:=Ik.ok (ps:=["net"]) @J;obtain⟨_,jk⟩:=Ip.ok (ps:=["letter","count"]) @J;obtain⟨_,nU⟩:=Fn.ok (ps:=["name","pair"]) @J;obtain⟨_,wt⟩:=OL.ok (ps:=["machine"]) @J;obtain⟨_,mZ⟩:=Lx.ok (ps:=["wires","wire","fresh"]) @J;obtain⟨_,M9⟩:=Wv.ok (ps:=["net","wire","fresh"]) @J;obtain⟨_,nV⟩:=Fo.ok (ps:=["net"]) @J;obtain⟨_,nW⟩:=Fp.ok (ps:=["net","wire"]) @J;obtain⟨_,BH⟩:=R8.ok (ps:=["machine","turns"]) @J;obtain⟨_,tN⟩:=Lw.ok (ps:=["machine","places","turns"]) @J;obtain⟨_,mf⟩:=CF.ok (ps:=["machine"]) @J;obtain⟨_,ji⟩:=Io.ok (ps:=["mask","others"]) @J;obtain⟨_,gh⟩:=xO.ok (ps:=["pair","states","seen"]) @J;obtain⟨_,BI⟩:=R9.ok (ps:=["machine"]) @J;obtain⟨_,qp⟩:=Ir.ok (ps:=["words"]) @J;obtain⟨_,tM⟩:=Lv.ok (ps:=["text"]) @J;obtain⟨_,qo⟩:=Im.ok (ps:=["text"]) @J;obtain⟨_,qm⟩:=Il.ok (ps:=["net"]) @J;obtain⟨_,nT⟩:=Fk.ok (ps:=["net","row","state"]) @J;obtain⟨_,pM⟩:=LB.ok (ps:=["wires","bits"]) @J;obtain⟨_,jt⟩:=zq.ok (ps:=["self","net"]) @J;obtain⟨_,m9⟩:=Iy.ok (ps:=["self","row"]) @J;obtain⟨_,gW⟩:=zo.ok (ps:=["self"]) @J;obtain⟨_,dH⟩:=CH.ok (ps:=["net","rows"]) @J;obtain⟨_,lK⟩:=Ft.ok (ps:=["_law_script","_law_k"]) @J;obtain⟨_,bD⟩:=Iw.ok (ps:=["_law_cell_here","_law_k"]) @J;obtain⟨_,mj⟩:=CM.ok (ps:=["_law_cell_here","_law_start","_law_many","_law_width","_law_digits"]) @J;obtain⟨_,eN⟩:=Fs.ok (ps:=["_law_cell_here","_law_k"]) @J;obtain⟨_,mh⟩:=CJ.ok (ps:=["_law_cell_here","_law_start","_law_names","_law_digits"]) @J;obtain⟨_,qr⟩:=Iv.ok (ps:=["_law_script","_law_start","_law_most"]) @J;obtain⟨_,lI⟩:=Fq.ok (ps:=["_law_cell_here","_law_many","_law_width"]) @J;obtain⟨_,kc⟩:=Bc.ok (ps:=["_law_net_two","_law_wire","_law_fresh"]) @J;obtain⟨_,cR⟩:=sP.ok (ps:=["_law_net_one","_law_cells"]) @J;obtain⟨_,jD⟩:=CK.ok (ps:=["_law_found","_law_net_one","_law_net_two"]) @J;obtain⟨_,mi⟩:=CL.ok (ps:=["_law_net_one","_law_wire","_law_fresh","_law_cells"]) @J;have Pm:=Qg (st:=Hv) Wu Wz Wp;have b_law:=Pm.binds (ps:=["_law_script"]) λ_ _ _ _ _ _ us hl=>match us,hl with | [_],_=>rfl
 have T:Tx K mg ⟨gF,_,jy,_,lE,_,yg,_,lF,_,ly,_,i6,_,i7,_,bW,_,cn,_,eL,_,cq,_,yh,_,kW,_,g9,_,dQ,_,dw,_,je,_,cO,_,bN,_,dG,_,cZ,_,bF,_,cW,_,cF,_,bp,_,ck,_,bU,_,eI,_,eJ,_,fV,_,eE,_,dq,_,rM,_,lh,_,cf,_,cJ,_,cI,_,b4,_,cu,_,gH,_,b0,_,cX,_,bz,_,lD,_,eG,_,nQ,_,fT,_,bG,_,b7,_,bM,_,bh,_,cK,_,b5,_,cL,_,_,b8,_,cM,_,rP,_,i8,_,jc,_,hU,_,nP,_,lg,_,FF,_,hV,_,hX,_,rN,_,kZ,_,fU,_,jb,_,du,_,rO,_,jd,_,kX,_,ja,_,i9,_,g8,_,lC,_,cH,_,gG,_,cG,_,fW,_,h7,_,jg,_,gc,_,gb,_,fX,_,jf,_,hZ,_,eK,_,cj,_,fY,_,fZ,_,fa,_,bO,tH,bj,aX,aC,cP,av,gT,uS,yx,fh,km,_,_,_,_,_,_,_,_,_,_,_⟩:=⟨ko,!J Ji,jC,!J MV,iN,!J MU,yD,!J VF,lH,!J MW,jB,!J MR,qj,!J Jb,ql,!J Jc,fj,d6,lL,gq,Aj,!J VG,mY,!J MM,h8,!J FS,jr,!J zG,iM,!J yB,m8,!J Jk,dy,gJ,jE,iQ,fJ,iO,gU,dU,gj,fi,ka,!J BC,kb,!J BD,gi,!J DW,j8,!J BA,iL,!J yz,yC,!J SF,tO,!J MQ,c9,bT,dS,b9,cw,nc,cT,cv,cC,tP,!J MT,j9,!J BB,wu,!J Pj,jA,!J DU,dI,aV,cb,bK,cN,fk,iP,nY,⟨_,rfl⟩,dC,fA,BJ,!J SI,ir,!J Jd,jk,!J Jh,nU,!J FU,wt,!J Pi,mZ,!J MP,M9,!J WC,nV,!J FV,nW,!J FW,BH,!J SG,tN,!J MO,mf,!J DV,ji,!J Jg,gh,!J yA,BI,!J SH,qp,!J Jj,tM,!J MN,qo,!J Jf,qm,!J Je,nT,!J FQ,pM,!J MS,jt,m9,gW,dH,!J DX,lK,!J FZ,bD,!J Jm,mj,!J Ec,eN,!J FY,mh,!J DY,qr,!J Jl,lI,!J FX,kc,!J BE,cR,!J tI,jD,!J DZ,mi,!J Ea,Pm,!J SJ,⟨Ot,Os,Oq,Oo⟩,⟨O8,O7,O6,O5⟩,⟨vL,vH,d6.1.2⟩,⟨CC,CB,lL.1.2⟩,⟨vM,vI,gq.1.2⟩,y6,rF,sH,!J VH,!J Pk,⟨KD,KC,KB,KA⟩,⟨Ml,Mj,Mi,Mh⟩,⟨A5,A4,jE.1.2⟩,⟨zi,ze,iQ.1.2⟩,AU,xn,!J MX,⟨HK,HI,HG,Hy⟩,⟨IU,IS,IQ,IM⟩,⟨zf,zb,iO.1.2⟩,⟨xB,xu,gU.1.2⟩,y4,xj,!J F0,⟨Ce,Cd,Cc,Cb⟩,⟨Dc,Da,C9,C8⟩,⟨vK,vG,gj.1.2⟩,⟨uE,uy,fi.1.2⟩,vA,sG,vz,!J WE,⟨Ut,Ur,Up,Um⟩,⟨Vr,Vp,Vn,Vl⟩,⟨xE,xx,bT.1.2⟩,⟨xD,xw,dS.1.2⟩,⟨uG,uA,b9.1.2⟩,⟨vN,vJ,cw.1.2⟩,⟨Fg,Fe,nc.1.2⟩,⟨uF,uz,cT.1.2⟩,⟨zg,zc,cv.1.2⟩,⟨qz,qy,cC.1.2⟩,AS,K5,uo,HZ,xk,HY,!J MY,⟨HL,HJ,HH,Hz⟩,⟨IV,IT,IR,IP⟩,⟨uI,uC,aV.1.2⟩,⟨sO,sN,cb.1.2⟩,⟨oG,oF,bK.1.2⟩,⟨xF,xy,cN.1.2⟩,⟨uH,uB,fk.1.2⟩,⟨zh,zd,sk⟩,⟨uJ,uD,dC.1.2⟩,⟨xG,xA,fA.1.2⟩,vB,xl,y8,!J WD,⟨Us,Uq,Uo,Ul⟩,⟨Vq,Vo,Vm,Vk⟩,⟨Ff,Fd,m9.1.2⟩,⟨xC,xv,gW.1.2⟩,HX,E5,HW,K4,⟨vm,vk,vj,@F,dy.1.2⟩,!J M0,kq,!J Jp,ia,!J MZ,!J zH,!J BF,!J Jn,!J qH,!J vW,!J oI,!J tJ,!J F1,!J Ee,!J Ed,XO X G VY,XO X G VX,XO X G S0,XO X G SZ,XO X G Np,XO X G Ei,XO X G VW,XO X G BK,XO X G VU,XO X G SY,XO X G QJ,XO X G G1,XO X G Nn,XO X G VT,XO X G QI,XO X G VS⟩;exact⟨_,λs v=> .of_eq rfl,λbase _ _=>UK T⟩
open PySem.W in
theorem walk {l:ap4} {q:ry} {loose:B'} {XP:F'->WN->Prop} {YP:z5->WN->Prop} {d:DefRec} {K:Params->Frag} (hn:l.most=aY 63) (hdf:d.params.defaults=[])
  (hY:∀(w:z5) (h:WN),YP w h->(@bj).In h)
  (F:∀(w:z5) (mg:F') (fa:ee) (h:WN),(@bj).In h->h.Ns W8 mg->mg d.name=aY (!j fa)->
   ∃fd:hF,(∀(s:ik) (u:i'),BindsTo s fd ⟨[u],[]⟩ [("_law_script",u)])/\∀base:WN,(@bj).In base->base.Ns W8 mg->FnOk l.prog w @bj mg base CX0 18 fa fd ["_law_script"] (Gf @bj)):
  WalkO q loose XP YP l.row.toRowW d [] (λf vs=>an9 f vs):=
 L2.walk_of (n:=63) (k:=18) (x:="_law_script") (CX:=λ_=>CX0) (sp:=λw=>Gf @bj) hn @D hdf ⟨rfl,@D,@D⟩ hY F (λ_ _ a ns hl _ hS=>⟨a,ns,rfl,hS,hl,λ_=>rfl⟩) λ_ _ _ _ _ z=>z
end My
structure PySem.W.Fast:Prop where(tw10036003237253552919 tw1005378324716557924 tw10169682644425144136 tw10235293930372573340 tw10274573070211720133 tw10291781056088616878 tw10308525206962762249 tw10313669497731132565 tw10319810934255556463 tw10322505975636794376 tw10344431213245906938 tw10345160050271625467 tw10355242268653517718 tw10374161705429936568 tw10378517438229562917 tw10381200347012043027 tw10402542261488138958 tw10403069966809569754 tw10403738609528428760 tw10417020091128143933 tw1044459620807986501 tw10468378113131937734 tw10539246200153013473 tw10540268706453394991 tw10544764652606564830 tw10548639462792615147 tw105550030240642665 tw10556175716638988186 tw10563992411616130668 tw10570592145822415721 tw10598549311317158753 tw10603219221337133611 tw10662041108892274459 tw10672599426616414559 tw10680549105089349517 tw10767188741233223559 tw1080088334079605221 tw10806842213823287458 tw1087858140566135442 tw11035011431078360295 tw11157564233035978455 tw11173526913165610766 tw1118217933181246597 tw1120973733382656570 tw11227972878615002839 tw11231782378094294884 tw1124499438939669134 tw11257638905130805910 tw11272487250934773416 tw1127722678793655192 tw11294212156386810362 tw11327934020997097235 tw11335247725966833785 tw11345086749653515015 tw11345387155543738490 tw11399565065083538345 tw11414162995327507004 tw11460345190965874599 tw1154502541529622611 tw11545430749151137359 tw11555135238965037356 tw11574712508107087762 tw11577175458860067469 tw11606133924944693276 tw1163386147454543748 tw11643061605754873887 tw11647451374165179494 tw11653213742911207392 tw1166615907238471945 tw11699311507345260047 tw11703647119489910111 tw11743011294243710390 tw11814157634951162639 tw11817405103511185054 tw11832609017357323027 tw11944821664313243956 tw11955875399302704046 tw11964718844391161577 tw11993355279949296523 tw12025889598238788419 tw12064716072804965256 tw1209983999221830640 tw12141834656728263533 tw12151112933810837843 tw1215958170509713584 tw12184793019093558661 tw12208862602684808070 tw12259604107082916309 tw12265965239599777621 tw12271410949180464001 tw12276713849938619504 tw12292428106848285446 tw12318202398735305501 tw12324403027973418533 tw12346211829155482792 tw12347807584153165390 tw12362784954002521968 tw12373497642568323286 tw12374283628480908080 tw12420954644924332059 tw12452648694078283170 tw12455161805899249379 tw12524661668061868187 tw12573155742596281418 tw12580255176738920028 tw12655485198072213277 tw12679665784645077845 tw12684794638718095735 tw12692888713479489195 tw12764645120201920703 tw12776638610322641033 tw12829003199535069 tw12862203480838910213 tw12863913241265597817 tw12880872767336344485 tw1289819376521800093 tw12909277180670996316 tw12962387541803615674 tw12980221637689700938 tw12993088279490926847 tw1300471779186641972 tw13060273108896737140 tw13089196909169845563 tw13093221688016462130 tw13105995994701884279 tw13123006779869084004 tw13136015333544309876 tw13152219723106458336 tw13174759629564689916 tw13206297834688930425 tw13281073347008746820 tw13286111783351684974 tw13291845296899750262 tw13303190909837100516 tw1331635886553513334 tw13348645547399900732 tw13350014246405618449 tw13393896035006859646 tw13398393205479770584 tw13404015647440362128 tw13431868189116931794 tw1343573253052144306 tw13483498277077033488 tw13489124135724366464 tw13501633222248364399 tw13558872905804972553 tw13584345202317869478 tw13589724706151430597 tw13642601953169370345 tw13644836755512406200 tw13648301958528877982 tw13667974926201525596 tw13696963529141639384 tw1370728776643720451 tw13778686502402910442 tw13778745150825727315 tw13805507856750461158 tw1381176305730973330 tw13828091172907842716 tw138537624757242791 tw13888994176037358435 tw13921097139513293928 tw13979549015748500192 tw1399687807568236209 tw14041846616273614327 tw14061018680149747004 tw14076861183582293803 tw14078140669213621493 tw14106615148066364562 tw14108894793489178891 tw14138966237761880174 tw14168941587350039137 tw14177283814837637411 tw14181488436469662179 tw14199183356840702211 tw14205560951708065675 tw14205827552973454190 tw14221219170464460460 tw14222063799969435073 tw14248513660618180689 tw14320446132597221974 tw14347268586845446637 tw14388611428208032838 tw14438230182498847787 tw14439218998715252786 tw14446937603207422865 tw14473468452819304848 tw14490224041450406345 tw14561744406032011955 tw14566649186284183916 tw14589548071869566222 tw14593087415334180645 tw14602221559089188206 tw14762225239924392787 tw1476503725973689795 tw14792618342543903402 tw14951114887665454734 tw14951480356280768131 tw14960740256981122573 tw15012731580575161934 tw15027639508313901335 tw15028121966503280403 tw1503814385193658130 tw15145233196961324181 tw15151587488385863230 tw15200115681425167471 tw1522196054147919681 tw15227876799475176953 tw1523003659571869122 tw15233788060074712658 tw15271476374983087303 tw15341990136044012561 tw15401558213025239934 tw15412815990164202412 tw1542613859396805010 tw15452125173745539014 tw15457248815173625402 tw15483483208797504241 tw15508197009966138331 tw15546726096056657634 tw155493137294954147 tw15553596897425177031 tw15575463068347092290 tw15577364042418648484 tw1561356795567908806 tw15711934110863940429 tw15714225390358903645 tw15717560566458255588 tw1574428949645409277 tw15766159600146449977 tw15770233162972424366 tw15778478375840517095 tw15778990359418158831 tw15782627249534152096 tw15788425920879716762 tw15797524549982849509 tw15798821247453047648 tw15905178647841876581 tw15917542489105816448 tw1591912229404105593 tw15939817488194870897 tw15944023225121987374 tw15952568763242444567 tw15954729430399512102 tw16012377758000163607 tw16019967743038837535 tw16071230803199307317 tw16077113258001143047 tw16080229225834946919 tw16100180091863971528 tw16142160746981505427 tw16157726135475242579 tw16160225230816722488 tw16197843753581869877 tw1621309832189388861 tw16243721222029802020 tw16268226171341460790 tw16294849428754222211 tw16323117598832168899 tw16373607583817419333 tw16384881357544990430 tw16393018821116566523 tw16396549886708372901 tw16432475766910563909 tw16457176799869112358 tw16461972592312200290 tw16462579613913353578 tw16479246368245939397 tw16480556569979783044 tw16486639959172164431 tw16489055507016213242 tw16493013612251541769 tw16495416020398038709 tw16510877588189750003 tw16595181835146272503 tw16596780205503187391 tw1660265913679177813 tw16607920370538781957 tw16608053722444197836 tw16686736195905874811 tw16717122708683205100 tw16726419757305661562 tw16748633553626617000 tw16797214810373430667 tw16848955446455290201 tw16870821285608600409 tw16878995785206961112 tw16901802378601133922 tw16916948175209848944 tw17031679715114218767 tw17050018895533358982 tw17070079531181972010 tw17075212898141834832 tw17139236506991840 tw17184160341803728169 tw17192533381073173431 tw17205194107069151089 tw17247633925215428893 tw17250098939382362974 tw17270400432254665881 tw17285025777635315103 tw17285310472719607484 tw17333674099958161690 tw17340751224082746871 tw17465696716664646459 tw17474705952138725782 tw17550776747611823417 tw17554934653220992492 tw17644997469464969551 tw1767273491254082842 tw17691542946489530064 tw17694969247854620230 tw17723699750198476238 tw17744195310274791565 tw17745194348903403565 tw17764924458749177332 tw17775255822028893453 tw17821027464218999800 tw17835987865365994078 tw17958220690494496642 tw17970765969878971847 tw18046050298999438820 tw18057675319914635530 tw18068142134907111660 tw18069607335903929939 tw18093878257813633559 tw18112564957715736213 tw1815064885743356037 tw18167285970912276922 tw18177984748399896430 tw18184627094042014945 tw18204887526761106245 tw18239799484355038543 tw18259147545935345127 tw18318221361354098791 tw18390065877063806338 tw18407573630367191261 tw18421131200539032576 tw1842991664973115419 tw18436760371675944034 tw1874307108767502932 tw1877927096054311812 tw1973109056865319686 tw2007623115694046519 tw2071886544890481536 tw2084778691038175689 tw2102509258461429586 tw2108404878319153322 tw2146206250210222086 tw2223559189343617215 tw2273774244314148965 tw2313349890890572484 tw2324854003354228147 tw2328782536370581594 tw2330915418842445542 tw2416935131305500016 tw2464683704816602064 tw2517908085359475520 tw2532258961749246784 tw2544583052971435226 tw2553436176419915934 tw256954620772686668 tw2579951438473736545 tw2631716589449551146 tw2656451506377546965 tw2656880308052013257 tw2722794609161663209 tw2772003568582948994 tw280335559102576689 tw2806367724783037292 tw2833991706489095024 tw2843373536727530382 tw2879384677646597238 tw2907027542834419575 tw2947196612361495056 tw2982236282838040388 tw2998103896227925819 tw3001622678932381047 tw3032736774844820080 tw3072854084678199311 tw3092025067599556312 tw3108516441144879840 tw3111101433479051634 tw3117732680609942209 tw3122419366852907033 tw3188407382714190473 tw3220084645855342537 tw3221379521273128648 tw3312101933207134339 tw3315136504490978850 tw3321642783044857308 tw332363419815076539 tw3348749084539841343 tw3366962030398393877 tw3369848647014774625 tw3377691055446960967 tw3392223491556093491 tw3441185835442480090 tw3445043172580040170 tw3458375597856020320 tw3510642373429800055 tw3510710267620359656 tw368361349067781335 tw3712229673679836620 tw3723505642719050111 tw3739871924089737013 tw3768164091316155995 tw3772263891469438281 tw3774064568004346326 tw3808792190891538737 tw3821419604723852990 tw3886945964301983538 tw394039433588446684 tw396590170560186922 tw3999248078069934277 tw4006511510566446061 tw4019608789011035889 tw4028063466392059396 tw4053377596038447454 tw4091342704512764716 tw4096026382963247362 tw4138080743684153972 tw4151214841105738811 tw4161382371395102865 tw419513318025700977 tw4201219024428243877 tw4207318668851903382 tw4217833982133979657 tw4231487675596337619 tw4240328182843460347 tw424287789022396542 tw4244038433282821040 tw4305385165687817056 tw431243038867223007 tw43668015901806465 tw4417110013074733156 tw4417371918742911479 tw4422206485814586387 tw4431584355633795876 tw4440855337446113307 tw4451103860898591164 tw4454052890180703432 tw4454788569965245913 tw453582038054625579 tw4551972948513583731 tw4555548556234899426 tw4558940476741101432 tw4562305910045599451 tw4614254481293353380 tw463333714112006008 tw4684962578001495584 tw4700504545902779835 tw4705660889624098115 tw4723225454013375418 tw4748843875790460681 tw4756866624215490265 tw4767074035684859966 tw4768147053405586916 tw4775272605066654765 tw4794829030816295111 tw4795915228891698677 tw4805555301479992474 tw4810473020370807889 tw482040039796419113 tw4821958895347788857 tw4822887143328878424 tw4880552273893571648 tw491082372086542889 tw4919812529688646674 tw4935280193024409563 tw4943552900713163568 tw5055503601935922325 tw5065634443351673698 tw5089919796554051012 tw5158561573110016408 tw516769583795145457 tw5216490197357924528 tw5242541919204551873 tw5253165075392310932 tw5266703387394392257 tw5271986460083730300 tw5288552755781074502 tw5295713738277765195 tw5426434001901738457 tw5436941939680100101 tw5452281061292447487 tw5487919436263887728 tw5497118018146453197 tw5506767148968265794 tw5581761782087764270 tw5601315453405123295 tw5699651544620426367 tw5727552474592737008 tw5729723615447823817 tw5753650544053766618 tw5842533678285613024 tw5851956820055657715 tw5942999515074175470 tw5966733729302554542 tw5988379326893694361 tw5989641793999301804 tw601221228334747038 tw6022540924524022574 tw6053276809499941586 tw6079809849838354048 tw6108240998777713006 tw6147316538353899741 tw6149275431991661919 tw6197568701029321191 tw6209429855299845452 tw6241025403200635258 tw6241629612829269255 tw6254877579061335320 tw6274806721920523161 tw6289352653923442724 tw6308310328196881334 tw6311408288346449523 tw6349477766187348616 tw6351466002433559259 tw641066201252024297 tw6449877158434162062 tw6458739073241692725 tw6509235053976878671 tw6525280091437590471 tw6529731919060258678 tw653303894603286983 tw6536792866228553037 tw6556745360092805328 tw6573561430860649294 tw6626023517239123534 tw6626316422740508282 tw6660918684540435055 tw6790525212722215552 tw6801057723842550893 tw6838200570578714896 tw683948969293145828 tw689912424315939472 tw6915814913848425336 tw6969915483946176897 tw6979819035513429992 tw6985078225108676168 tw6986892431914889553 tw7012243986731842803 tw702183226631422477 tw7107865292375362362 tw7113462591625379645 tw7219893850643991942 tw7240383382915590322 tw7250437633416254935 tw7280422088806401830 tw7296352373545636020 tw7338976409893194455 tw7381759642135762258 tw7451845462200040376 tw7468578279728847493 tw7523021160946374791 tw7523291977883113149 tw7534500269512931824 tw7544751833484249941 tw7591312504713295099 tw7601376787255527385 tw7611234831024120592 tw7678719196365662563 tw7682398177542518024 tw7707051779690454020 tw7726163260154821014 tw7726465986360022470 tw7744949448395557429 tw7774477040526858605 tw778403357281303189 tw7784621722971573471 tw7847093375939257267 tw7874199390598620952 tw7894928349483366373 tw7996579587899649157 tw8009299533582393885 tw801638874554570037 tw8017617410806010641 tw8034714179178664536 tw8073384882929305656 tw8079435586244683849 tw8108771547432107524 tw8119032238493551748 tw8148187299405023213 tw8176648428888309524 tw8180431646426771199 tw8228993894310878601 tw8234633210372250993 tw8283916399837165598 tw8362407848485122098 tw8367257677476726854 tw8411482377844787577 tw8413863023703278911 tw8438711408570456476 tw8521418552424286811 tw8555986966802351694 tw8571608724667585648 tw8691921804466531437 tw8698130087419479271 tw8739596486053422948 tw874138521154623413 tw8780243452746751104 tw8858645509692436854 tw8889471703844035681 tw8930997464070600471 tw893694652712373633 tw8955328251714458531 tw896395811557094636 tw8972845468469322788 tw898130475184665204 tw898468096718564023 tw8985963032447188406 tw9005061743808228714 tw9011491940124104901 tw9021886042122387850 tw9031558706202438771 tw9031577402261006225 tw9064069440354496537 tw9072623031464402679 tw9090815598673691357 tw9097963649285848471 tw9113414786989716837 tw9126448572948749075 tw9140639712843239090 tw9190545213445731948 tw9193715323148895418 tw9220825207863003687 tw922919488383424912 tw92365023359796415 tw9262094925162994961 tw9264183652801007783 tw9279870728425040144 tw9319697623445910300 tw933228668843249440 tw9345596784682548290 tw9395762558072122501 tw9405128527708053520 tw9409936190507083431 tw9447421387389987544 tw9474626714179820012 tw9514906156669528134 tw9567051336487155085 tw9567966126201824867 tw95841509640732800 tw9610261172215452971 tw9637701145026932590 tw9664603397746585200 tw9689377816110741206 tw9691460837879011519 tw9713642004162416271 tw9715388887378008460 tw9719371619385956686 tw977973483145662730 tw9793151035398941607 tw97983316998854864 tw9885886397158685700 tw9901117322278416769 tw9925572360167523625 tw9990902500440590074:True)
open PySem PySem.W PyProof.Rows
set_option maxRecDepth 100000 in
set_option maxHeartbeats 0 in
theorem PySem.Challenge.cw_sumwires_k96_whole_a_cut_wire_mended_holds : PySem.Challenge.rw_sumwires_k96_whole_a_cut_wire_mended.Holds := by
 w_on;o_law;k_head;(case hw=>w_witness2)
 k_fill
 refine My.walk (l:=PySem.Challenge.rw_sumwires_k96_whole_a_cut_wire_mended) rfl rfl (λw h Y=>PySem.W.kIn_of Y) ?F
 case F=>
  intro w mg fa h KX G hmg;refine' My.all_mk KX G hmg _ _ _ _ _ _ _ _ _ _ _ _ _ _ _ _ _ _ _ _ _ _ _ _ _ _ _ _ _ _ _ _ _ _ _ _ _ _ _ _ _ _ _ _ _ _ _ _ _ _ _ _ _ _ _ _ _ _ _ _ _ _ _ _ _ _ _ _ _ _ _ _ _ _ _ _ _ _ _ _ _ _ _ _ _ _ _ _ _ _ _ _ _ _ _ _ _ _ _ _ _ _ _ _ _ _ _ _ _ _ _ _ _ _ _ _ _ _ _ _ _ _ _ _ _ _ _ _ _ _ _ _ _ _ _ _ _ _ _ _ _ _ _ _ _ _ _ _ _ _ _ _ _ _ _ _ _ _ _ _ _ _ _ _ _ _ _ _ _ _ _ _ _ _ _ _ _ _ _ _ _ _ _ _ _ _ _ _ _ _ _ _ _ _ _ _ _ _ _ _ _ _ _ _ _ _ _ _ _ _ _ _ _ _ _ _ _ _ _ _ _ _ _ _ _ _ _ _ _ _ _ _ _ _ _ _ _ _ _ _ _ _ _ _ _ _ _ _ _ _ _ _ _ _ _ _ _ _ _ _ _ _ _ _ _ _ _ _ _ _ _ _ _ _ _ _ _ _ _ _ _ _ _ _ _ _ _ _ _ _ _ _ _ _ _ _ _ _ _ _ _ _ _ _ _ _ _ _ _ _ _ _ _ _ _ _ _ _ _ _ _ _ _ _ _ _ _ _ _ _ _ _ _ _ _ _ _ _ ?kq ?ia _ _ _ _ _ _ _ _ _ _ _ _ _ _ _ _ _ _ _ _ _ _ _ _ _ _ _ _ _ _
  any_goals ((with_reducible show _=_);k_is)
  any_goals (refine' My.FR.mk ?u ?v ?w;(case u=>k_is);(case v=>k_is);(case w=>k_is))
  (case kq=>k_exc)
  (case ia=>k_exc)
