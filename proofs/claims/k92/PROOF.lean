import PyProof.Rows.All
import Wide.FinOn
import Lean
import KE.KDictOf
import KE.KFromBytes
import KE.KIsAll
import KE.KItem
import KE.KItemsList
import KE.KRevIter
import PySem.Challenge.RW_sumwires_k92_whole_text_to_the_least
section
variable {α β γ δ ε ζ η θ ι : Sort _}{G:Prop}
theorem exx2{P:α→β→Prop}(h:∃a b,P a b)(k:∀a b,P a b→G):G:=h.elim fun a h=>Exists.elim h (k a)
theorem eyy2{P:α→β→Prop}(a:α)(b:β)(h:P a b):∃a b,P a b:=⟨a,b,h⟩
theorem exx3{P:α→β→γ→Prop}(h:∃a b c,P a b c)(k:∀a b c,P a b c→G):G:=h.elim fun a h=>exx2 h (k a)
theorem eyy3{P:α→β→γ→Prop}(a:α)(b:β)(c:γ)(h:P a b c):∃a b c,P a b c:=⟨a,b,c,h⟩
theorem exx4{P:α→β→γ→δ→Prop}(h:∃a b c d,P a b c d)(k:∀a b c d,P a b c d→G):G:=h.elim fun a h=>exx3 h (k a)
theorem eyy4{P:α→β→γ→δ→Prop}(a:α)(b:β)(c:γ)(d:δ)(h:P a b c d):∃a b c d,P a b c d:=⟨a,b,c,d,h⟩
theorem exx5{P:α→β→γ→δ→ε→Prop}(h:∃a b c d e,P a b c d e)(k:∀a b c d e,P a b c d e→G):G:=h.elim fun a h=>exx4 h (k a)
theorem eyy5{P:α→β→γ→δ→ε→Prop}(a:α)(b:β)(c:γ)(d:δ)(e:ε)(h:P a b c d e):∃a b c d e,P a b c d e:=⟨a,b,c,d,e,h⟩
theorem exx6{P:α→β→γ→δ→ε→ζ→Prop}(h:∃a b c d e f,P a b c d e f)(k:∀a b c d e f,P a b c d e f→G):G:=h.elim fun a h=>exx5 h (k a)
theorem eyy6{P:α→β→γ→δ→ε→ζ→Prop}(a:α)(b:β)(c:γ)(d:δ)(e:ε)(f:ζ)(h:P a b c d e f):∃a b c d e f,P a b c d e f:=⟨a,b,c,d,e,f,h⟩
theorem exx7{P:α→β→γ→δ→ε→ζ→η→Prop}(h:∃a b c d e f g,P a b c d e f g)(k:∀a b c d e f g,P a b c d e f g→G):G:=h.elim fun a h=>exx6 h (k a)
theorem eyy7{P:α→β→γ→δ→ε→ζ→η→Prop}(a:α)(b:β)(c:γ)(d:δ)(e:ε)(f:ζ)(g:η)(h:P a b c d e f g):∃a b c d e f g,P a b c d e f g:=⟨a,b,c,d,e,f,g,h⟩
theorem exx8{P:α→β→γ→δ→ε→ζ→η→θ→Prop}(h:∃a b c d e f g i,P a b c d e f g i)(k:∀a b c d e f g i,P a b c d e f g i→G):G:=h.elim fun a h=>exx7 h (k a)
theorem eyy8{P:α→β→γ→δ→ε→ζ→η→θ→Prop}(a:α)(b:β)(c:γ)(d:δ)(e:ε)(f:ζ)(g:η)(i:θ)(h:P a b c d e f g i):∃a b c d e f g i,P a b c d e f g i:=⟨a,b,c,d,e,f,g,i,h⟩
theorem exx9{P:α→β→γ→δ→ε→ζ→η→θ→ι→Prop}(h:∃a b c d e f g i j,P a b c d e f g i j)(k:∀a b c d e f g i j,P a b c d e f g i j→G):G:=h.elim fun a h=>exx8 h (k a)
theorem eyy9{P:α→β→γ→δ→ε→ζ→η→θ→ι→Prop}(a:α)(b:β)(c:γ)(d:δ)(e:ε)(f:ζ)(g:η)(i:θ)(j:ι)(h:P a b c d e f g i j):∃a b c d e f g i j,P a b c d e f g i j:=⟨a,b,c,d,e,f,g,i,j,h⟩
end
section
variable {G A B C D E F H I J K L M:Prop}
theorem axx3(h:A∧B∧C)(k:A→B→C→G):G:=k h.1 h.2.1 h.2.2
theorem ayy3(a:A)(b:B)(c:C):A∧B∧C:=⟨a,b,c⟩
theorem axx4(h:A∧B∧C∧D)(k:A→B→C→D→G):G:=axx3 h.2 (k h.1)
theorem ayy4(a:A)(b:B)(c:C)(d:D):A∧B∧C∧D:=⟨a,b,c,d⟩
theorem axx5(h:A∧B∧C∧D∧E)(k:A→B→C→D→E→G):G:=axx4 h.2 (k h.1)
theorem ayy5(a:A)(b:B)(c:C)(d:D)(e:E):A∧B∧C∧D∧E:=⟨a,b,c,d,e⟩
theorem axx6(h:A∧B∧C∧D∧E∧F)(k:A→B→C→D→E→F→G):G:=axx5 h.2 (k h.1)
theorem ayy6(a:A)(b:B)(c:C)(d:D)(e:E)(f:F):A∧B∧C∧D∧E∧F:=⟨a,b,c,d,e,f⟩
theorem axx7(h:A∧B∧C∧D∧E∧F∧H)(k:A→B→C→D→E→F→H→G):G:=axx6 h.2 (k h.1)
theorem ayy7(a:A)(b:B)(c:C)(d:D)(e:E)(f:F)(g:H):A∧B∧C∧D∧E∧F∧H:=⟨a,b,c,d,e,f,g⟩
theorem axx8(h:A∧B∧C∧D∧E∧F∧H∧I)(k:A→B→C→D→E→F→H→I→G):G:=axx7 h.2 (k h.1)
theorem ayy8(a:A)(b:B)(c:C)(d:D)(e:E)(f:F)(g:H)(i:I):A∧B∧C∧D∧E∧F∧H∧I:=⟨a,b,c,d,e,f,g,i⟩
theorem axx9(h:A∧B∧C∧D∧E∧F∧H∧I∧J)(k:A→B→C→D→E→F→H→I→J→G):G:=axx8 h.2 (k h.1)
theorem ayy9(a:A)(b:B)(c:C)(d:D)(e:E)(f:F)(g:H)(i:I)(j:J):A∧B∧C∧D∧E∧F∧H∧I∧J:=⟨a,b,c,d,e,f,g,i,j⟩
theorem axx10(h:A∧B∧C∧D∧E∧F∧H∧I∧J∧K)(k:A→B→C→D→E→F→H→I→J→K→G):G:=axx9 h.2 (k h.1)
theorem ayy10(a:A)(b:B)(c:C)(d:D)(e:E)(f:F)(g:H)(i:I)(j:J)(l:K):A∧B∧C∧D∧E∧F∧H∧I∧J∧K:=⟨a,b,c,d,e,f,g,i,j,l⟩
theorem axx11(h:A∧B∧C∧D∧E∧F∧H∧I∧J∧K∧L)(k:A→B→C→D→E→F→H→I→J→K→L→G):G:=axx10 h.2 (k h.1)
theorem ayy11(a:A)(b:B)(c:C)(d:D)(e:E)(f:F)(g:H)(i:I)(j:J)(l:K)(m:L):A∧B∧C∧D∧E∧F∧H∧I∧J∧K∧L:=⟨a,b,c,d,e,f,g,i,j,l,m⟩
theorem axx12(h:A∧B∧C∧D∧E∧F∧H∧I∧J∧K∧L∧M)(k:A→B→C→D→E→F→H→I→J→K→L→M→G):G:=axx11 h.2 (k h.1)
theorem ayy12(a:A)(b:B)(c:C)(d:D)(e:E)(f:F)(g:H)(i:I)(j:J)(l:K)(m:L)(n:M):A∧B∧C∧D∧E∧F∧H∧I∧J∧K∧L∧M:=⟨a,b,c,d,e,f,g,i,j,l,m,n⟩
end
open Lean in
local macro_rules
  | `(tactic| obtain ⟨$ps,*⟩ := $t:term) => do
    let ps := ps.getElems
    let n := ps.size
    if n < 3 then Macro.throwUnsupported
    -- what a pattern is bound to, and what is done behind
    let one (i : Nat) (p : TSyntax `Lean.Parser.Tactic.rcasesPatLo) : MacroM (TSyntax `term × Option (TSyntax `tactic)) := do
      let z := mkIdent (Name.mkSimple s!"zz{i}")
      match p with
      | `(Lean.Parser.Tactic.rcasesPatLo| $x:ident) => if x.getId == `rfl then return (z, some (← `(tactic| subst $z:term))) else return (x, none)
      | `(Lean.Parser.Tactic.rcasesPatLo| _) => return (← `(_), none)
      | `(Lean.Parser.Tactic.rcasesPatLo| $q:rcasesPatMed) => return (z, some (← `(tactic| obtain $q:rcasesPatMed := $z:term)))
      | _ => Macro.throwUnsupported
    let mut alts : Array (TSyntax ``Lean.Parser.Tactic.tacticSeq) := #[]
    let clr : TSyntax `tactic ← if t.raw.isIdent then `(tactic| try clear $(⟨t.raw⟩):ident) else `(tactic| skip)
    let w := mkIdent `ww
    for ex in [true, false] do
      for k in [0:n] do
        let i := if ex then n - 1 - k else n - k
        if i < 1 || i > (if ex then 9 else 12) || (!ex && i < 3) then continue
        let f := mkIdent (if ex then if i == 1 then `Exists.elim else Name.mkSimple s!"exx{i}" else Name.mkSimple s!"axx{i}")
        let m := if ex then i else if i == n then i else i - 1
        let mut bs : Array (TSyntax `term) := #[]
        let mut post : Array (TSyntax `tactic) := #[]
        for j in [0:m] do
          let (b, q) ← one j ps[j]!
          bs := bs.push b
          if let some q := q then post := post.push q
        if m < n then
          if m + 1 == n then
            let (b, q) ← one m ps[m]!
            bs := bs.push b
            if let some q := q then post := post.push q
          else
            bs := bs.push w
            let rest := ps.extract m n
            post := post.push (← `(tactic| obtain ⟨$rest,*⟩ := $w:term))
        alts := alts.push (← `(Lean.Parser.Tactic.tacticSeq| refine $f $t ?_; $clr:tactic; intro $bs*; $post;*))
    alts := alts.push (← `(Lean.Parser.Tactic.tacticSeq| rcases $t:term with ⟨$ps,*⟩))
    `(tactic| first $[| $alts]*)
open Lean in
local macro_rules
  | `(tactic| rintro $rs:rintroPat*) => do
    let mut out : Array (TSyntax `tactic) := #[]
    let mut any := false
    for r in rs do
      match r with
      | `(rintroPat| $x:ident) => if x.getId == `rfl then out := out.push (← `(tactic| (intro zz; subst zz))) else out := out.push (← `(tactic| intro $x:ident))
      | `(rintroPat| _) => out := out.push (← `(tactic| intro _))
      | `(rintroPat| ⟨$ps,*⟩) =>
        if ps.getElems.size ≥ 3 then any := true
        out := out.push (← `(tactic| (intro zz; obtain ⟨$ps,*⟩ := zz)))
      | _ => Macro.throwUnsupported
    if !any then Macro.throwUnsupported
    `(tactic| ($[$out:tactic];*))
open Lean in
local macro_rules
  | `(tactic| refine ⟨$xs,*⟩) => do
    let xs := xs.getElems
    let n := xs.size
    if n < 4 then Macro.throwUnsupported
    let mut alts : Array (TSyntax ``Lean.Parser.Tactic.tacticSeq) := #[]
    for k in [0:n] do
      let i := n - 1 - k
      if i > 9 then continue
      let ws := xs.extract 0 i
      let rs := xs.extract i n
      let m := n - i
      let cs : List (TSyntax `term) ← if m == 1 then pure [rs[0]!] else if m == 2 || m > 12 then pure [← `(⟨$rs,*⟩)] else pure [← `($(mkIdent (Name.mkSimple s!"ayy{m}")) $rs*), ← `(⟨$rs,*⟩)]
      for c in cs do
        if i == 0 then
          if m > 2 then alts := alts.push (← `(Lean.Parser.Tactic.tacticSeq| refine ($c)))
        else if i == 1 then alts := alts.push (← `(Lean.Parser.Tactic.tacticSeq| refine Exists.intro $(ws[0]!) $c))
        else alts := alts.push (← `(Lean.Parser.Tactic.tacticSeq| refine $(mkIdent (Name.mkSimple s!"eyy{i}")) $ws* $c))
    alts := alts.push (← `(Lean.Parser.Tactic.tacticSeq| refine (⟨$xs,*⟩)))
    `(tactic| first $[| $alts]*)
  | `(tactic| exact ⟨$xs,*⟩) => do
    let xs := xs.getElems
    if xs.size < 4 then Macro.throwUnsupported
    `(tactic| (refine ⟨$xs,*⟩))
open Option renaming some→a',none→f',map_eq_some_iff→VF,isSome_map→Y4,map_some→YO,getD_some→Zc,getD_none→Zd
open List renaming length_map→bx,getElem?_eq_some_iff→b',getD_eq_getElem?_getD→ec,getElem?_eq_getElem→ed,mem_of_getElem?→ee,map_append→ef,length_append→eP,mem_singleton→gs,mem_append→gz,getElem?_map→gA,mem_map→hF,Nodup→hH,mem_append_right→hW,mem_append_left→iv,take_length→i',getElem?_append_left→kv,replicate→lj,getElem?_append_right→lT,mem_cons_of_mem→p',mem_cons_self→u',range→vu,length_take→wh,mem_cons→Tn,length_singleton→Tu,length_range→TC,size_toArray→TJ,map_map→TU,length→TX,length_cons→U4,mem_iff_getElem→U6,mem_iff_getElem?→U7,mem_range→U8,nodup_append→Ua,getElem?_range→Ub,map_cons→Uq,length_replicate→Uv,getElem?_eq_none→Uw,take_of_length_le→UE,getElem_mem→UL,mem_filter→UT,map_congr_left→UV,getElem?_take_of_lt→UW,append_nil→UZ,singleton_append→V0,foldl_append→V1,filter_append→V2,getElem?_zip_eq_some→V4,all_eq_true→Va,length_filter_le→Vd,replicate_succ→Vi,range_succ→Vs,zip→Vz,replicate_succ'→VE,map_singleton→VG,take_append_drop→VY,not_mem_nil→W6,any_eq_true→W7,ext_getElem?→Wg,append_assoc→Wh,length_zip→Wl,find?_cons→Wm,lookup→Wn,take_append_of_le_length→Wq,getElem?_drop→Wt,lookup_cons→Wv,length_drop→Ww,filter_cons→Wx,zipWith→WB,map→WK,reverse_cons→WO,getElem_take→WQ,flatten_cons→WS,nodup_cons→X0,filter_eq_nil_iff→Xj,of_mem_zip→Xo,forIn_cons→Xp,getElem?_toArray→Xs,take_succ→Xv,map_id→XA,any_cons→XD,all_cons→XF,map_fst_zip→XI,getElem_map→XJ,ext_getElem→XM,length_pos_iff→XN,filterMap_cons→XO,mem_range'→Y2,length_nil→Y3,take_add_one→Y5,pairwise_map→Y6,getElem?_inj→Y7,map_nil→Yf,range'→Ym,eq_nil_of_length_eq_zero→Yr,pairwise_iff_getElem→YJ,map_take→YN,map_drop→YQ,eq_of_mem_replicate→YY,pairwise_singleton→Y',getElem?_replicate→Z0,filter_append_perm→Z1,range_succ_eq_map→Z6,pairwise_lt_range→Z7,getElem_replicate→Z8,getElem?_set_self→Z9,perm_append_comm→Zf,reverse_reverse→Zo,pairwise_append→Zp,mem_of_mem_take→Zq,getElem?_set_ne→Zr,getElem?_of_mem→Zs,length_reverse→Zz,foldl→ZD,count→ZE,mem_replicate→ZK,mem_filterMap→ZL,filter_congr→ZW,take_append→aa3,map_snd_zip→aa4,foldl_cons→ab3,filter_map→ab4,take_left→ab9,forIn_nil→ac0,sum_cons→ac8,all_map→ad5
open PySem.W renaming Frag→dt,findIn→TK,mg_of→TM,mg_none_of→UM,fnOf→UN,keepIn→UO,emptyDict→V3,instObj→Vj,mroIn→Vm,specialIn→VB,codeIn→VH,callWith_K→W3,methodCall_KW→Wb,plainGet→X3,lookIn→Xm,plainGet_of→Xt,excIn→Xu,isFn→XR,methodObj→XS,hasDictIn→XT,handedIn→XY,takesIn→Yb,takerIn→Yc,cellsFrom_some→YH,plainOver→Zk,readsIn→ZF,makesIn→ZG,isClsIn→ZH,findCls→ZI,OpenLaw→ZM,typeIn→ZR,nsIn→aa8
open _root_ renaming List→eE,decide_eq_false→gn,decide_eq_true→gB,absurd→hD,if_neg→qb,if_pos→wb,congrArg→T4,Option→T8,of_decide_eq_true→TF,beq_eq_false_iff_ne→TL,decide_eq_true_eq→Us,Bool→UD,beq_self_eq_true→UR,String→V7,beq_iff_eq→X6,ne_true_of_eq_false→Ya,or_false→Ys,if_true→Z4,Array→aa6
open PySem renaming Addr→eH,wpAny_bind→eS,FuncData→hN,sizeLine→hR,sizeLine_eq→nr,wpAny→n',boot_len→ot,Shared→px,wpAny_pure→sA,Value→sC,starEach→tu,model→xY,Str→T3,Program→Tv,Around→TQ,mainGlobals→TV,World→U1,Value→Uc,Heap→Ui,mem_of_lookup→Uz,Expr→UF,wpAny_field→UQ,Str→Vl,wpAny_truthy_bool→Vt,wpAny_pyIter_enum→Vu,wpAny_passesOwn→VM,wpAny_holding→VN,builtinLookup_eq_fast→VQ,wpAny_mono→W1,wpAny_seqItems→W2,Addr→W4,codeAny_builtin→W8,wpAny_callSpecial?_slot→Wi,Stmt→Wr,call_meets→Wy,wpAny_call_entry→Wz,Spec→WH,wpAny_updateSeq→WT,wpAny_specialOf→WU,wpAny_loadPart'→WV,typeLookup_type→WW,wpAny_setField→X7,wpAny_pyIter_tuple→X9,wpAny_Call_Name_kw→Xa,tupleKind_room_in1→Xb,wpAny_pyIter_list→Xh,wpAny_newObj_type→Xi,plainId_quiet→Xl,codeAny_mono→Xx,Scope→Xz,wpAny_execs_nil→XH,Shared→XX,typeIs_str→Yl,wpAny_typeOf→Yt,wpAny_pyIter_zip→YF,wpAny_execs_cons→YG,Within→YZ,callType_codes→Ze,call→Zx,wpAny_comprehension_free→Zy,Obj→ZC,Obj→ZN,wpAny_nextOf_list_item→ZO,wpAny_isTrue_Compare1→aa1,wpAny_of_eq→aa7,call_enumerate_list→ab5,wpAny_rule→ac2,wpAny_call→ac3,wpAny_Name→ac4,typeIs_int→ac5,wpAny_assign_Name→ad0
open PySem.Heap renaming get?_push_of_some→fy,lt_size→hE,get?_push_size→mu,get?_update_other→Ue,get?_update_self→UX,get?_none_of_le→VP,size_push→W9,SameBut→WC
open Nat renaming lt_of_lt_of_le→gm,pow_le_pow_right→hJ,eq_of_testBit_eq→ix,le_refl→sb,testBit_two_pow→zt,two_pow_pos→T5,testBit_lt_two_pow→T9,ne_of_lt→TB,testBit_xor→TH,shiftRight_eq_div_pow→TR,pow_lt_pow_right→U0,zero_testBit→U9,testBit_two_pow_self→Ud,and_comm→Up,lt_of_le_of_lt→Uu,xor_assoc→UG,xor_zero→UJ,ne_of_gt→UK,lt_succ_self→UU,zero_le→UY,testBit_shiftLeft→V5,lt_irrefl→Vc,mod_two_eq_zero_or_one→Ve,zero_add→Vf,le_trans→Vg,le_of_lt→Vh,zero_and→Vq,testBit_and→Vr,xor_self→Vx,lt_log2_self→VA,and_zero→VD,zero_xor→VR,not_lt_zero→VS,le_add_right→VX,lt_pow_two_of_testBit→VZ,testBit_shiftRight→We,and_two_pow_sub_one_eq_mod→Wj,mul_le_mul→Wk,div_lt_of_lt_mul→Wu,testBit_div_two→WD,xor_comm→WZ,pow_succ→W',lt_succ_of_lt→X4,and_le_left→X8,exists_eq_add_of_le→Xe,sub_self→Xf,div_add_mod→Xq,mul_le_mul_right→Xy,succ_mul→XB,min_self→XC,le_succ→XQ,lt_trichotomy→Yd,log2_lt→Yg,mul_comm→Yh,lt_trans→Yi,add_comm→Yj,le_of_not_lt→Yn,min_eq_left→Yu,testBit_two_pow_sub_one→Yz,pow_add→YD,one_mul→YE,zero_mul→YM,le_of_eq→YR,add_mul→Zh,le_of_ble_eq_true→Zm,div_lt_iff_lt_mul→Zn,shiftRight_zero→ZJ,zero_shiftLeft→ZS,xor_lt_two_pow→ZT,pos_of_ne_zero→ZU,eq_zero_or_pos→ZV,mod_lt→ZY,testBit_zero→aa9,shiftLeft_eq→ab0,log2_self_le→ab1,and_le_right→ab2,strongRecOn→ab8
open Bool renaming false_ne_true→hB,and_eq_true→TZ,false_and→U2,and_false→US,true_and→U',eq_iff_iff→Vn,xor_false→VO,false_xor→Wa,not_eq_true'→ZX,or_true→ad8
open Int renaming toNat_natCast→ov,emod_lt_of_pos→U3,emod_nonneg→Uj,eq_ofNat_of_zero_le→UH,zero_add→VW,fdiv_eq_ediv_of_nonneg→WX,toNat→XG,natCast_nonneg→X',natAbs_natCast→Y0,fmod_eq_emod_of_nonneg→YK
open PyProof.Rows renaming boot_list→wq,callWith_type1→Tt,boot_tuple→TY,boot_isinstance→Ux,boot_str→Vv,boot_all→X2,int_text_len_1921→Xw,boot_dict→Yk,boot_zip→Yo,boot_int→Yp,boot_any→Yq,Call_→YL,subscriptTail_builtinR→ZQ,Subscript_→ac6
open PySem.PassesOwn renaming never→xo
open Option.some renaming inj→zx
open PySem.F renaming plainAttrs_list→T6,type_list_extend→Ug,slot_list_extend→Uh,type_int_bit_length→Ul,slot_int_bit_length→Um,excBase_ValueError→Ur,type_list_append→UB,slot_list_append→UC,plainAttrs_int→UP,plainAttrs_str→Vw,type_str_split→Xc,slot_str_split→Xd,type_str_join→YW,slot_str_join→YX
open PySem.Value renaming ref→T7,none→Uy,type→WG,str→Y8,int→YS,bool→Zv,isStrOf→ab6,isInt→ad2,float→ad3,bytes→ad4
open Ne renaming symm→Ts
open PySem.Builtin.Int renaming intBits→Tw
open Sum renaming inr→Tz,inl→UI
open PySem.Builtin.List renaming listExtendWith→TN,listTooLong→VJ,listSameRef→VL,listItems→V',listUpdate→WE,listLengthHint→XU
open PySem.Builtin renaming bitXor→U5,bitNot→V8,bitAnd→V9,bitOr→aa5
open False renaming elim→Uk
open PySem.Builtin.SmallTypes renaming nextOf→Uo,ownedTupleIsFree→WY
open PySem.Obj renaming mapSeq→Ut,mapFields→W5,data_mapFields→XZ,isFreed_of_fields→Zl,cls_mapFields→aa2
open PySem.NameKind renaming free→UA,cell→Wc
open Array renaming length_toList→V6,getElem?_eq_some_iff→Vb,getElem?_eq_getElem→VU,getElem?_eq_none→Z3,forIn_toList→ZA,toList→ac9
open PySem.Heap.SameBut renaming update→Vk
open PySem.Txt renaming split→Vo,join→Zt
open Classical renaming propDecidable→Vp,epsilon_spec→Yv,epsilon→Zb
open PySem.Str renaming ofString→Vy,join→Ws,empty→WM
open PySem.WalksT renaming enumerateD→VC,zip2→Y9
open PySem.Around renaming under_plainId→VI,under→YT
open ForInStep renaming yield→VT
open Or renaming inr→Wf,inl→WA
open Nat.succ renaming inj→Wp
open PySem.Calls renaming spliced_cons→WI,spliced_nil→X1,Name_function_global→Yw,callWith_builtin→Z2,evalArgs_plain→Zg
open PySem.Builtin.Str renaming occurrences→WJ,strKind→YC
open Sum.inr renaming inj→WN
open List.Perm renaming trans→X5,append_left→YA
open True renaming intro→Xg
open PySem.EntryCells renaming newEntry→Xk
open List.Pairwise renaming map→Xn,imp_of_mem→Y1,nil→YB
open List.cons renaming inj→Xr
open PySem.Builtin.Dict renaming updateFrom→Ye
open Prod renaming ext→Yx,fst→Zi
open PySem.Paired renaming length→Yy,snoc→ac7
open PyProof renaming noPylong_small→YI
open PySem.SeqAt.EqAt renaming str_int→YU,int_str→YV,same→aa0,of_refs→ad6
open PySem.Code renaming isFrame→Z5,builtin→ad7
open PySem.Heap.DictOf renaming new→Za
open PySem.StrLaws renaming found_one→Zj
open PySem.Walks renaming list→Zu
open PySem.SeqAt renaming EqAt→Zw
open Iff renaming rfl→ZZ
open PySem.Expr renaming Call→Z'
open Sum.inl renaming inj→ab7
open PySem.IsRange renaming new→ac1
open PySem.W.WShape renaming has→ad1
abbrev A':=eE (Nat×Nat)
abbrev B':=eE Vl
abbrev C':=eE Nat
abbrev Cr:=Uc->XX->Prop
abbrev D':=eE (W4×ZN)
abbrev E':=eE Uc
abbrev F':=Vl->T8 Uc
abbrev G':=aa6 Uc
abbrev K':=aa6 (T8 Uc)
abbrev L':=Unit->XX->Prop
abbrev M':=eE W4
abbrev N':=eE Int
abbrev P':=T8 W4
abbrev Q':=Vl->UD
abbrev R':=PySem.Result->XX->Prop
abbrev S':=eE (Vl×W4)
abbrev T1:=eE (Vl×Uc)
abbrev T2:=T8 Uc
set_option Elab.async false
set_option hygiene false in
local macro_rules
|`(@A)=>`((by omega))
|`(@D)=>`((by walk_at "o"))
|`(@C)=>`((by decide))
|`(@H)=>`((by decide +kernel))
|`(@E)=>`((by simp))
|`(@G)=>`((by walk_at "b"))
|`(@I)=>`((aC (K:=K) rfl))
|`(@F)=>`((by rfl))
set_option hygiene false in
local macro_rules
|`(!A $a $b $c)=>`((aR $a $b $c (λ_ _=>rfl)))
|`(!j $a $b)=>`((aa (pv $a) $b))
|`(!C $a $b)=>`((λ_ _ _ _ _=>⟨$a,aO,$b⟩))
local macro_rules | `(tactic| lia) => `(tactic| walk_at "l2")
set_option linter.all false
set_option maxRecDepth 100000
variable {C D Z a d dx i1 i2 l p t η τ υ φ:W4} {g':aa6 PySem.GenState} {items pT ys:aa6 Uc} {neg rc:UD} {env:PySem.Env} {e iter kw tg value:PySem.Expr} {fd:PySem.FuncData} {fL h':PySem.Heap} {qA:Int} {hC pins:eE (W4×ZN)} {Go Is:eE (eE Vl)} {Y es p1 p2:A'} {hs ws:eE (Vl×W4)} {D0 sums:eE (Vl×eE Vl)} {as ch fp:eE W4} {outer:eE PySem.Env} {α β δ:eE PySem.Expr} {ns:N'} {G S fx ks ts:C'} {ol:eE PySem.Stmt} {N ON pre:eE Vl} {bv its us:eE Uc} {hM:PySem.Model} {c i j q r row x y:Nat} {ψ:ZN} {an ut vr:T8 W4} {apos cpos lA lB lO lx pos pos' tpos:PySem.Pos} {prog:PySem.Program} {osc scope ε:PySem.Scope} {kf s s':XX} {hG z:Vl} {EQ f:Vl->UD} {mA mg:Vl->T8 Uc} {T pu:V7} {ct dv ic ii ik im io u:Uc}
namespace L2
open PySem PySem.Spec PyProof.Rows
noncomputable abbrev Key:=Sum Int T3
noncomputable def AV:Key->sC->UD
 | .inl k,v=>ad2 k v
 | .inr x,v=>ab6 x v
noncomputable def keyH (w:U1):Key->Int
 | .inl k=>hashInt k
 | .inr x=>hashStr w x
theorem df:∀{k:Key} {v:sC},AV k v=true->(∃i t,k=UI i/\v=YS i t)∨(∃x t,k=Tz x/\v=Y8 x t)
 | .inl i,v,h=>by
   obtain⟨t,e⟩:=Value.isInt_shape (k:=i) (v:=v) h;exact .inl ⟨i,t,rfl,e⟩
 | .inr x,v,h=>by
   obtain⟨t,e⟩:=Value.isStrOf_shape (x:=x) (v:=v) h;exact .inr ⟨x,t,rfl,e⟩
theorem Ja (i:Int) (t:Tok):AV (.inl i) (.int i t)=true:=by simp[AV,ad2]
theorem IZ (x:T3) (t:Tok):AV (.inr x) (.str x t)=true:=by simp[AV,ab6]
theorem RD (a b:Int):decide ((UI a:Key)=UI b)=(a == b):=by
 by_cases e:a=b
 ·subst e;simp
 ·have h:¬(UI a:Key)=UI b:=λq=>e (ab7 q);rw[gn h];exact(TL.mpr e).symm
theorem RA (a b:T3):decide ((Tz a:Key)=Tz b)=decide (a=b):=by
 by_cases e:a=b
 ·subst e;simp
 ·have h:¬(Tz a:Key)=Tz b:=λq=>e (WN q);rw[gn h,gn e]
theorem RC (a:Int) (b:T3):decide ((UI a:Key)=Tz b)=false:=gn (λq=>nomatch q)
theorem RB (a:T3) (b:Int):decide ((Tz a:Key)=UI b)=false:=gn (λq=>nomatch q)
noncomputable def dz (prog:Tv) (w:U1):PySem.KeyKind prog w Key where
 is:=AV
 hash:=keyH w
 inj:=λv a b ha hb=>by
  rcases df ha with ⟨i,t,rfl,rfl⟩ | ⟨x,t,rfl,rfl⟩
  ·rcases df hb with ⟨j,u,rfl,e⟩ | ⟨y,u,rfl,e⟩
   ·injection e with G _;rw[G]
   ·exact nomatch e
  ·rcases df hb with ⟨j,u,rfl,e⟩ | ⟨y,u,rfl,e⟩
   ·exact nomatch e
   ·injection e with G _;rw[G]
 byValue:=λk v h=>by
  rcases df h with ⟨i,t,rfl,rfl⟩ | ⟨x,t,rfl,rfl⟩<;>rfl
 pyHash:=λL h=>by
  rcases df L with ⟨i,t,rfl,rfl⟩ | ⟨x,t,rfl,rfl⟩
  ·exact wpAny_pyHash_int h
  ·exact wpAny_pyHash_str h
 eqBool:=fun τ L h=>by
  rcases df τ with ⟨i,t,rfl,rfl⟩ | ⟨x,t,rfl,rfl⟩
  ·rcases df L with ⟨j,u,rfl,rfl⟩ | ⟨y,u,rfl,rfl⟩
   ·rw[RD] at h;exact wpAny_eqBool_int h
   ·rw[RC] at h;exact YV i t y u _ _ _ _ h
  ·rcases df L with ⟨j,u,rfl,rfl⟩ | ⟨y,u,rfl,rfl⟩
   ·rw[RB] at h;exact YU x t j u _ _ _ _ h
   ·rw[RA] at h;exact wpAny_eqBool_str h
 «strs»:=λk x t v h=>by
  rcases df h with ⟨i,u,rfl,e⟩ | ⟨y,u,rfl,e⟩
  ·exact nomatch e
  ·injection e with G _
   subst G
   cases v<;>rfl
theorem Cn (prog:Tv) (w:U1) (i:Int) (t:Tok):(dz prog w).is (.inl i) (.int i t)=true:=Ja i t
theorem Cm (prog:Tv) (w:U1) (x:T3) (t:Tok):(dz prog w).is (.inr x) (.str x t)=true:=IZ x t
inductive V where
 | non | bl (b:UD) | int (i:Int) | str (x:T3) | byt (b:aa6 UInt8) | flt (b:UInt64) | ref (a:eH) | ty (n:V7)
 deriving DecidableEq
variable {kvs:eE (Key×V)} {wE wP:eE (T3×V)} {am dvs vs:eE V} {v:V}
noncomputable def RelV:V->sC->Prop
 | .non,u=>u=Uy
 | .bl b,u=>u=Zv b
 | .int i,u=>∃t,u=YS i t
 | .str x,u=>∃t,u=Y8 x t
 | .byt b,u=>∃t,u=ad4 b t
 | .flt b,u=>∃t,u=ad3 b t
 | .ref a,u=>u=T7 a
 | .ty n,u=>u=WG n
noncomputable abbrev Vals:eE V->E'->Prop:=Paired RelV
theorem Vals.length {xs:eE V} (r:Vals xs us):xs.length=us.length:=Yy r
theorem Vals.get:∀{xs:eE V} {us:E'} {i:Nat} {x:V},Vals xs us->xs[i]? =a' x->∃u,us[i]? =a' u/\RelV x u
 | _,_,_,_,.nil,e=>by simp at e
 | _,_,0,_,.cons r _,e=>by simp at e;subst e;exact⟨_,rfl,r⟩
 | _,_,i + 1,x,.cons _ t,e=>by
   obtain⟨u,h1,h2⟩:=Vals.get (i:=i) (x:=x) t (by simpa using e);exact⟨u,by simpa using h1,h2⟩
theorem Vals.append:∀{xs ys:eE V} {us ws:E'},Vals xs us->Vals ys ws->Vals (xs++ys) (us++ws)
 | _,_,_,_,.nil,s=>s
 | _,_,_,_,.cons r t,s=> .cons r (Vals.append t s)
theorem Vals.take:∀{xs:eE V} {us:E'} (n:Nat),Vals xs us->Vals (xs.take n) (us.take n)
 | _,_,0,_=> .nil
 | _,_,_ + 1,.nil=> .nil
 | _,_,n + 1,.cons r t=> .cons r (Vals.take n t)
theorem Vals.drop:∀{xs:eE V} {us:E'} (n:Nat),Vals xs us->Vals (xs.drop n) (us.drop n)
 | _,_,0,r=>r
 | _,_,_ + 1,.nil=> .nil
 | _,_,n + 1,.cons _ t=>Vals.drop n t
noncomputable def RelO:T8 V->T2->Prop
 | some v,a' u=>RelV v u
 | none,f'=>True
 | _,_=>False
noncomputable def KV {κ:Type}:eE (κ×V)->eE (κ×sC)->Prop:=Paired λ(p:κ×V) (q:κ×sC)=>p.1=q.1/\RelV p.2 q.2
noncomputable def kV:Key->V
 | .inl i=> .int i
 | .inr x=> .str x
inductive HO where
 | lst (xs:eE V)
 | tup (xs:eE V)
 | dK (kvs:eE (Key×V)) | dT (kvs:eE (eE Key×V))
 | set (S:Int->UD) (n:Nat)
 | ins (C dx:eH) (fs:eE (T3×V))
 | own (x:eH)
 | xd (fs:eE (T3×V))
 | met (f x:eH)
 | rng (lo hi:Int)
 | frz (o:ZC) (u:HO)
 | tbl (ps:G')
 | ext (φ:Ui->Prop)
variable {eO o:HO} {ob:Nat->HO}
noncomputable abbrev Hp:=eH->T8 HO
variable {H H' H1 H2 γ:Hp}
noncomputable def upd (H:Hp) (a:eH) (o:HO):Hp:=λb=>if b=a then a' o else H b
theorem au:upd H a o a=a' o:=by unfold upd;rw[wb rfl]
theorem aF {b:eH} (h:b≠a):upd H a o b=H b:=by unfold upd;rw[qb h]
theorem cC {b:eH} {u:HO} (h:H a=a' o) (h':H b=a' u) (d:o≠u):a≠b:=by
 intro e;subst e;rw[h] at h';exact d (zx h')
theorem ao {b:eH} (h:H a=a' o) (h':H b=f'):a≠b:=by
 intro e;subst e;rw[h] at h';cases h'
section
variable (P:Tv) (w:U1)
noncomputable def gX (H:Hp) (h:Ui) (a:eH):HO->Prop
 | .lst xs=>xs.length<=hR/\∃(its:E') (n:Nat),Vals xs its/\h.get? a=a' {cls:= .type "list",data:= .seq its.toArray n}
 | .tup xs=>xs.length<=hR/\∃its:E',Vals xs its/\IsTup h a its.toArray
 | .dK kvs=>kvs.length<=hR/\(a == sysModules)=false/\∃vs,KV kvs vs/\h.DictOf (dz P w) a vs
 | .dT kvs=>kvs.length<=hR/\(a == sysModules)=false/\∃xs:eE (eE Key×eH×sC),
   Paired (λ(p:eE Key×V) (q:eE Key×eH×sC)=>p.1=q.1/\H q.2.1=a' (.tup (p.1.map kV))/\RelV p.2 q.2.2) kvs xs/\
   ∃o es ep,h.get? a=a' o/\o.ExactDict/\o.data= .dict es ep/\es.toList=xs.map (entryOfKey (tupleKind (dz P w)))/\(xs.map (·.1)).Nodup
 | .set S n=>h.SetOf (intKind P w) a S n
 | .ins C dx fs=>H dx=a' (.own a)/\fs.length<=1000/\dx≠a/\h.get? a=a' (Vj C dx)/\
   ∃mA,h.Ns1 dx mA/\(∀f,RelO (fs.lookup f) (mA f))/\YZ mA (fs.map (·.1))
 | .own _=>∃o,h.get? a=a' o
 | .xd fs=>∃mA,h.Ns1 a mA/\∀f,RelO (fs.lookup f) (mA f)
 | .rng lo hi=>∃t u v,h.get? a=a' {cls:= .type "range",data:= .fields #[.int lo t,.int hi u,.int 1 v]}
 | .frz o u=>h.get? a=a' o/\gX H h a u
 | .tbl ps=>h.get? a=a' {cls:= .none,data:= .fields ps}
 | .met f x=>h.get? a=a' (XS (.ref f) (.ref x))
 | .ext φ=>φ h/\(∃o,h.get? a=a' o)/\∀h1 h2:Ui,φ h1->(∀o,h1.get? a=a' o->h2.get? a=a' o)->φ h2
def HOk (H:Hp) (h:Ui):Prop:=∀a o,H a=a' o->gX P w H h a o
end
section
variable {P:Tv} {w:U1} {H H':Hp} {h h':Ui} {a:eH} {o:HO}
theorem gX.lt (x:gX P w H h a o):a < h.objs.size:=by
 cases o with
 | lst xs=>obtain⟨_,_,_,_,e⟩:=x;exact hE e
 | tup xs=>obtain⟨_,_,_,p⟩:=x;exact p.lt
 | dK kvs=>obtain⟨_,_,_,_,o,_,_,e,_⟩:=x;exact hE e
 | dT kvs=>obtain⟨_,_,_,_,o,_,_,e,_⟩:=x;exact hE e
 | set S n=>obtain⟨o,_,_,_,e,_⟩:=x;exact hE e
 | ins C dx fs=>obtain⟨_,_,_,e,_⟩:=x;exact hE e
 | own y=>obtain⟨_,e⟩:=x;exact hE e
 | xd fs=>obtain⟨_,⟨_,_,_,e,_⟩,_⟩:=x;exact hE e
 | rng lo hi=>obtain⟨_,_,_,e⟩:=x;exact hE e
 | frz ob u=>obtain⟨e,_⟩:=x;exact hE e
 | tbl ps=>exact hE (show h.get? a=a' _ from x)
 | met f y=>exact hE (show h.get? a=a' _ from x)
 | ext φ=>obtain⟨_,⟨_,e⟩,_⟩:=x;exact hE e
theorem Paired.mapP {α β:Type} {F G:α->β->Prop}:∀{l₁:eE α} {l₂:eE β},Paired F l₁ l₂->(∀a b,F a b->G a b)->Paired G l₁ l₂
 | _,_,.nil,_=> .nil
 | _,_,.cons r t,f=> .cons (f _ _ r) (Paired.mapP t f)
theorem gX.stay (x:gX P w H h a o) (k:∀b u,(b=a∨H b=a' (.own a))->h.get? b=a' u->h'.get? b=a' u)
  (ho:∀b,H b=a' (.own a)->H' b=a' (.own a)) (ht:∀b xs,H b=a' (.tup xs)->H' b=a' (.tup xs)):gX P w H' h' a o:=by
 induction o with
 | lst xs=>obtain⟨z,its,n,r,e⟩:=x;exact⟨z,its,n,r,k _ _ (.inl rfl) e⟩
 | tup xs=>obtain⟨z,its,r,ob,e,c⟩:=x;exact⟨z,its,r,ob,k _ _ (.inl rfl) e,c⟩
 | dK kvs=>obtain⟨z,y,vs,r,ob,es,ep,e,c⟩:=x;exact⟨z,y,vs,r,ob,es,ep,k _ _ (.inl rfl) e,c⟩
 | dT kvs=>
   obtain⟨z,y,xs,r,ob,es,ep,e,c⟩:=x;exact⟨z,y,xs,Paired.mapP r λp q z=>⟨z.1,ht _ _ z.2.1,z.2.2⟩,ob,es,ep,k _ _ (.inl rfl) e,c⟩
 | set S n=>obtain⟨ob,es,ep,t,e,c⟩:=x;exact⟨ob,es,ep,t,k _ _ (.inl rfl) e,c⟩
 | ins C dx fs=>
   obtain⟨d,z,ne,e,mA,⟨od,es,ep,G,c⟩,r⟩:=x;exact⟨ho _ d,z,ne,k _ _ (.inl rfl) e,mA,⟨od,es,ep,k _ _ (.inr d) G,c⟩,r⟩
 | own y=>obtain⟨ob,e⟩:=x;exact⟨ob,k _ _ (.inl rfl) e⟩
 | xd fs=>obtain⟨mA,⟨od,es,ep,e,c⟩,r⟩:=x;exact⟨mA,⟨od,es,ep,k _ _ (.inl rfl) e,c⟩,r⟩
 | rng lo hi=>obtain⟨t,u,v,e⟩:=x;exact⟨t,u,v,k _ _ (.inl rfl) e⟩
 | frz ob u ih=>obtain⟨e,q⟩:=x;exact⟨k _ _ (.inl rfl) e,ih q⟩
 | tbl ps=>
   have e:h.get? a=a' {cls:= .none,data:= .fields ps}:=x;show h'.get? a=a' {cls:= .none,data:= .fields ps};exact k a _ (.inl rfl) e
 | met f y=>
   have e:h.get? a=a' (XS (.ref f) (.ref y)):=x;show h'.get? a=a' (XS (.ref f) (.ref y));exact k a _ (.inl rfl) e
 | ext φ=>obtain⟨p,⟨o,e⟩,st⟩:=x;exact⟨st _ _ p λo q=>k _ _ (.inl rfl) q,⟨o,k _ _ (.inl rfl) e⟩,st⟩
theorem HOk.lt (x:HOk P w H h) (e:H a=a' o):a < h.objs.size:=(x a o e).lt
theorem HOk.fresh (x:HOk P w H h) (e:h.objs.size<=a):H a=none:=by
 cases q:H a with
 | none=>rfl
 | some u=>exact hD (gm (x.lt q) e) (Vc _)
theorem HOk.kept (x:HOk P w H h) (k:∀b u,h.get? b=a' u->h'.get? b=a' u):HOk P w H h':=λa o e=>
 (x a o e).stay (λb u _ q=>k b u q) (λ_ q=>q) λ_ _ q=>q
theorem HOk.laid (x:HOk P w H h) (k:∀b u,h.get? b=a' u->h'.get? b=a' u) (L:h.objs.size<=a) (G:gX P w (upd H a o) h' a o):HOk P w (upd H a o) h':=λb u e=>by
 have hn:=x.fresh L;by_cases hb:b=a
 ·subst hb;rw[au] at e;cases e;exact G
 ·rw[aF hb] at e;exact(x b u e).stay (λc v _ q=>k c v q) (λc q=>by rw[aF (ao q hn)];exact q) λc xs q=>by rw[aF (ao q hn)];exact q
end
def Rd (H:Hp) (a:eH) (u:HO):Prop:=H a=a' u∨∃o,H a=a' (.frz o u)
theorem Rd.ok {P:Tv} {w:U1} {h:Ui} {u:HO} (r:Rd H a u) (x:HOk P w H h):gX P w H h a u:=by
 rcases r with r | ⟨o,r⟩
 ·exact x a u r
 ·obtain⟨_,q⟩:=x a _ r;exact q
noncomputable def Mut:T8 HO->Prop
 | some (.lst _)=>True
 | some (.dK _)=>True
 | some (.dT _)=>True
 | some (.set _ _)=>True
 | some (.ins _ _ _)=>True
 | some (.ext _)=>True
 | _=>False
section
variable {P:Tv} {w:U1} {H:Hp} {h h':Ui} {x e:eH} {o':HO}
theorem HOk.write (ok:HOk P w H h) (L:Mut (H x)) (he:e=x∨H e=a' (.own x)) (k:∀b u,b≠e->h.get? b=a' u->h'.get? b=a' u) (ν:∃u,h'.get? e=a' u)
  (Y:gX P w (upd H x o') h' x o'):HOk P w (upd H x o') h':=λb u q=>by
 have Z:∀c y,H c=a' (.own y)->c≠x:=λc y r z=>by subst z;rw[r] at L;exact L
 have β:∀c xs,H c=a' (.tup xs)->c≠x:=λc xs r z=>by subst z;rw[r] at L;exact L
 by_cases hb:b=x
 ·subst hb;rw[au] at q;cases q;exact Y
 ·rw[aF hb] at q;by_cases G:b=e
  ·have γ:H b=a' (.own x):=by
    rcases he with z | z
    ·exact hD (G.trans z) hb
    ·rw[G];exact z
   rw[q] at γ;cases γ;obtain⟨v,α⟩:=ν;exact⟨v,by rw[G];exact α⟩
  ·refine(ok b u q).stay (λc v hc r=>k c v ?_ r) (λc r=>by rw[aF (Z c b r)];exact r) λc xs r=>by rw[aF (β c xs r)];exact r
   rcases hc with rfl | hc
   ·exact G
   ·rintro rfl;rcases he with z | z
    ·exact Z c b hc z
    ·rw[hc] at z;cases z;exact hb rfl
end
structure Un (fs ex:M') (H H':Hp) (h h':Ui):Prop where
 keep:∀b o,h.get? b=a' o->H b=f'->b∉fs->b∉ex->h'.get? b=a' o
 slot:∀b o,h.get? b=a' o->H b=f'->b∈fs->b∉ex->∃sl,h'.get? b=a' {o with slots:=sl}
 free:∀b o,h.get? b=a' o->H b=f'->b∉ex->H' b=f'
 there:∀b o,h.get? b=a' o->b∉ex->∃o',h'.get? b=a' o'
 tups:∀b xs,H b=a' (.tup xs)->H' b=a' (.tup xs)
 frzs:∀b o u,H b=a' (.frz o u)->H' b=a' (.frz o u)
 tbls:∀b ps,H b=a' (.tbl ps)->∃more,H' b=a' (.tbl (ps++more))
section
variable {fs fs' ex ex':M'} {H H1 H2:Hp} {h h1 h2 h':Ui} {a x e:eH} {o:HO}
theorem Un.any (u:Un fs ex H H1 h h1) {b:eH} (q:h.get? b=a' ψ) (n:H b=f') (hx:b∉ex):∃ξ,h1.get? b=a' {ψ with slots:=ξ}:=by
 by_cases hb:b∈fs
 ·exact u.slot b ψ q n hb hx
 ·exact⟨ψ.slots,u.keep b ψ q n hb hx⟩
theorem Un.kept (k:∀b u,h.get? b=a' u->h'.get? b=a' u):Un fs ex H H h h':=
 ⟨λb ob q _ _ _=>k b ob q,λb ob q _ _ _=>⟨ob.slots,k b ob q⟩,λ_ _ _ n _=>n,λb ob q _=>⟨ob,k b ob q⟩,λ_ _ q=>q,λ_ _ _ q=>q,λ_ ps q=>⟨#[],by rw[q];simp⟩⟩
theorem Un.refl:Un fs ex H H h h:=Un.kept λ_ _ q=>q
theorem Un.laid (k:∀b u,h.get? b=a' u->h'.get? b=a' u) (G:h.objs.size<=a) (hn:H a=f'):Un fs ex H (upd H a o) h h' where
 keep:=λb u q _ _ _=>k b u q
 slot:=λb u q _ _ _=>⟨u.slots,k b u q⟩
 free:=λb u q n _=>by rw[aF (TB (gm (hE q) G))];exact n
 there:=λb u q _=>⟨u,k b u q⟩
 tups:=λb xs q=>by rw[aF (ao q hn)];exact q
 frzs:=λb u xs q=>by rw[aF (ao q hn)];exact q
 tbls:=λb ps q=>⟨#[],by rw[aF (ao q hn),q];simp⟩
theorem Un.write (L:Mut (H x)) (he:e=x∨H e=a' (.own x)) (k:∀b u,b≠e->h.get? b=a' u->h'.get? b=a' u) (ν:∃u,h'.get? e=a' u):Un fs ex H (upd H x o) h h':=by
 have Y:∀b,H b=f'->b≠x:=λb n z=>by subst z;rw[n] at L;exact L
 have hb:∀b,H b=f'->b≠e:=λb n z=>by
  subst z;rcases he with r | r
  ·exact Y b n r
  ·rw[n] at r;cases r
 have hm:∀b u,H b=a' u->¬Mut (a' u)->b≠x:=λb u q nm z=>by subst z;rw[q] at L;exact nm L
 refine⟨λb u q n _ _=>k b u (hb b n) q,λb u q n _ _=>⟨u.slots,k b u (hb b n) q⟩,λb u q n _=>by rw[aF (Y b n)];exact n,λb u q _=>?_,
  λb xs q=>by rw[aF (hm b _ q λz=>z)];exact q,λb u xs q=>by rw[aF (hm b _ q λz=>z)];exact q,λb ps q=>⟨#[],by rw[aF (hm b _ q λz=>z),q];simp⟩⟩
 by_cases G:b=e
 ·subst G;exact ν
 ·exact⟨u,k b u G q⟩
end
noncomputable def trk (h:Ui) (H:Hp):M':=(vu h.objs.size).filter λa=>(H a).isSome
noncomputable def hidT (h:Ui) (H:Hp):Heap:=PySem.W.hideAll h (trk h H)
theorem Jf (h:Ui) (H:Hp):(hidT h H).objs.size=h.objs.size:=PySem.W.hideAll_size _ _
theorem LS {h:Ui} {b:eH} {o:ZC} (e:h.get? b=a' o) (n:H b=f'):(hidT h H).get? b=a' o:=
 PySem.W.hideAll_get _ e λhm=>by
  have q:(H b).isSome=true:=(UT.mp hm).2;rw[n] at q;simp at q
theorem OK {h:Ui} {b:eH} {o:ZC} (e:(hidT h H).get? b=a' o):h.get? b=a' o/\H b=none:=by
 have G:h.get? b=a' o:=PySem.W.of_hideAll (trk h H) e;refine⟨G,?_⟩;cases q:H b with
 | none=>rfl
 | some x=>
   have hm:b∈trk h H:=UT.mpr ⟨U8.mpr (hE G),by simp[q]⟩;have z:(hidT h H).get? b=none:=PySem.W.hideAll_none (trk h H) hm;rw[z] at e;cases e
noncomputable def Pg (g h:Ui) (L:eH):D':=(vu h.objs.size).filterMap λa=>if a=L∨(g.get? a).isSome=true then f' else (h.get? a).map λo=>(a,o)
noncomputable def rest (g h:Ui) (L d:eH):D':=(Pg g h L).filter λp=>decide (p.1≠d)
structure Mod (K:dt) (mg:F') (base:Ui):Prop where
 kin:K.In base
 glob:base.Ns TV mg
 blt:∃mb,base.Ns builtinsNs mb/\∀x:T3,x≠"__name__"->mb x=bootBuiltins x
 nolimit:base.NoLimit
structure Cx where
 prog:Tv
 w:U1
 K:dt
 mg:F'
 base:Ui
 A:TQ
 N:B'
 s₀:px
 H₀:Hp
 env:Env
 outer:eE Env
 stack:eE Env
 ex:M'
 fn:Q'
 calm:UD
 pn:D'
 xe:Cr
variable {X:Cx}
noncomputable def frs (l:eE Env):M':=l.filterMap (·.frame)
noncomputable abbrev Cx.fs (X:Cx):M':=frs X.outer
def Vis (ε:Xz) (x:T3):Prop:=ε.names.lookup x=a' .local∨ε.names.lookup x=a' .cell∨ε.names.lookup x=a' .free
def Loc (ε:Xz) (x:T3):Prop:=ε.names.lookup x=a' .local∨ε.names.lookup x=a' .cell
def Look (env:Env) (h:Ui) (m:F') (x:T3) (u:sC):Prop:=
 (env.kindOf x=a' .local/\m x=a' u)∨((env.kindOf x=a' .cell∨env.kindOf x=a' .free)/\∃c,env.cells.lookup x=a' c/\h.IsCell c (a' u))
structure Cx.Ok (X:Cx):Prop where
 mod:Mod X.K X.mg X.base
 kind:X.env.scope.kind= .function
 glob:X.env.globals=TV
 blt:X.env.builtins=builtinsNs
 above:X.s₀.heap.objs.size<=X.env.locals
 inj:∀x y c,X.env.cells.lookup x=a' c->X.env.cells.lookup y=a' c->x=y
 has:∀x,(X.env.kindOf x=a' .cell∨X.env.kindOf x=a' .free)->∃c,X.env.cells.lookup x=a' c
 cab:∀x c,X.fn x=true->X.env.cells.lookup x=a' c->X.s₀.heap.objs.size<=c
 hd:X.calm=true->X.A.handled=f'
 frames:X.A.frames=a' X.stack
 stk:X.stack=X.outer∨(X.stack=X.env::X.outer/\X.env.frame=a' X.env.locals)
 exf:∀b∈X.ex,b≠X.env.locals/\∀x c,X.env.cells.lookup x=a' c->c≠b
 bs:∀b o,X.base.get? b=a' o->X.s₀.heap.get? b=a' o/\X.H₀ b=f'
 bsz:X.base.objs.size<=X.s₀.heap.objs.size
 noex:∀b o,X.base.get? b=a' o->b∉X.ex
 exfs:∀b∈X.ex,b∉X.fs
 funs:X.s₀.heap.FunFrames X.base X.outer
 frf:∀b∈X.fs,X.H₀ b=f'
structure Inv (X:Cx) (pins:D') (σ:eE (T8 V)) (H:Hp) (s:px):Prop where
 ok:X.Ok
 os:s.os=X.s₀.os
 bare:AllBare s.gens
 base:Un X.fs X.ex X.H₀ H X.s₀.heap s.heap
 loc:∃m,s.heap.Ns X.env.locals m/\∀(i:Nat) (x:T3) (v:V),X.N[i]? =a' x->σ[i]? =a' (a' v)->Vis X.env.scope x->∃u,RelV v u/\Look X.env s.heap m x u
 cell:∀x c,X.env.cells.lookup x=a' c->∃v,s.heap.IsCell c v
 free:H X.env.locals=f'
 freeC:∀x c,X.env.cells.lookup x=a' c->H c=f'
 pin:∀p∈X.pn++pins,s.heap.get? p.1=a' p.2/\H p.1=f'/\p.1≠X.env.locals/\p.1∉X.fs/\∀v,p.2.data≠.cell v
 hok:HOk X.prog X.w H s.heap
 len:σ.length=X.N.length
section
variable {X:Cx} {pins:D'} {σ:eE (T8 V)} {H H':Hp} {s:px} {h':Ui}
theorem Cx.Ok.nofr (ok:X.Ok) {b:eH} {o:ZC} (e:X.base.get? b=a' o):b∉X.fs:=λhb=>by
 have:=(ok.funs.mem hb).1;rw[e] at this;cases this
theorem Inv.bs (I:Inv X pins σ H s):∀b o,X.base.get? b=a' o->s.heap.get? b=a' o/\H b=none:=λb o e=>
 ⟨I.base.keep b o (I.ok.bs b o e).1 (I.ok.bs b o e).2 (I.ok.nofr e) (I.ok.noex b o e),I.base.free b o (I.ok.bs b o e).1 (I.ok.bs b o e).2 (I.ok.noex b o e)⟩
theorem Inv.bk (I:Inv X pins σ H s):∀b o,X.base.get? b=a' o->s.heap.get? b=a' o:=λb o e=>(I.bs b o e).1
theorem Inv.mod (I:Inv X pins σ H s):Mod X.K X.mg X.base:=I.ok.mod
theorem Inv.kIn (I:Inv X pins σ H s):X.K.In s.heap:=I.ok.mod.kin.keeps I.bk
theorem Inv.lt (I:Inv X pins σ H s):X.env.locals < s.heap.objs.size:=let ⟨_,hn,_⟩:=I.loc;hn.lt
theorem Inv.sz (I:Inv X pins σ H s):X.s₀.heap.objs.size<=s.heap.objs.size:=Vg I.ok.above (Vh I.lt)
theorem Inv.nofs (I:Inv X pins σ H s) (h:s.heap.objs.size<=a):a∉X.fs:=λhb=>by
 obtain⟨_,o,ho,_⟩:=I.ok.funs.mem hb;exact hD (gm (hE ho) (Vg I.sz h)) (Vc _)
theorem Inv.cne (I:Inv X pins σ H s):∀x c,X.env.cells.lookup x=a' c->c≠X.env.locals:=λx c e z=>by
 obtain⟨v,o,ho,hd⟩:=I.cell x c e;obtain⟨m,⟨o',es,ep,ζ,G,_⟩,_⟩:=I.loc;rw[z,ζ] at ho;cases ho;rw[G] at hd;cases hd
theorem Inv.funs (I:Inv X pins σ H s):s.heap.FunFrames X.base X.outer:=by
 have all:∀(l:eE Env),(∀b∈frs l,b∈X.fs)->X.s₀.heap.FunFrames X.base l->s.heap.FunFrames X.base l:=by
  intro l
  induction l with
  | nil=>intro _ _;trivial
  | cons env r ih=>
    intro hs hl;obtain⟨hk,⟨L,o,hf,hn,ho,hd⟩,G⟩:=hl;have α:L∈X.fs:=hs L (by unfold frs;rw[XO,hf];exact u');obtain⟨ξ,e⟩:=I.base.slot L o ho (I.ok.frf L α) α λz=>I.ok.exfs L z α;exact⟨hk,⟨L,_,hf,hn,e,hd⟩,ih (λb hb=>hs b (by unfold frs;rw[XO,hf];exact p' _ hb)) G⟩
 exact all X.outer (λ_ hb=>hb) I.ok.funs
theorem Inv.stack (I:Inv X pins σ H s):s.heap.FunFrames X.base X.stack:=by
 rcases I.ok.stk with e | ⟨e,hf⟩
 ·rw[e];exact I.funs
 ·rw[e];obtain⟨m,hn,_⟩:=I.loc;refine .cons (by rw[I.ok.kind];decide) hf hn ?_ I.funs;exact VP (Vg I.ok.bsz I.ok.above)
theorem Inv.stkSub (I:Inv X pins σ H s):∀b∈frs X.stack,b∈X.env.locals::X.fs:=λb hb=>by
 rcases I.ok.stk with e | ⟨e,hf⟩
 ·rw[e] at hb;exact p' _ hb
 ·rw[e] at hb;unfold frs at hb;rw[XO,hf] at hb;exact hb
theorem Inv.stkFree (I:Inv X pins σ H s):∀b∈frs X.stack,H b=none:=λb hb=>by
 rcases Tn.mp (I.stkSub b hb) with e | hb
 ·rw[e];exact I.free
 ·obtain⟨_,o,ho,_⟩:=I.ok.funs.mem hb;exact I.base.free b o ho (I.ok.frf b hb) λz=>I.ok.exfs b z hb
theorem Inv.step {t':Nat} {d':Drawn} (I:Inv X pins σ H s)
  (Y:∀b∈ch,(b∈X.ex∨X.s₀.heap.objs.size<=b)/\b≠X.env.locals/\(∀x c,X.env.cells.lookup x=a' c->c≠b)/\∀p∈X.pn++pins,p.1≠b)
  (keep:∀b o,b≠X.env.locals->b∉X.fs->b∉ch->s.heap.get? b=a' o->H b=f'->h'.get? b=a' o)
  (slot:∀b o,b≠X.env.locals->b∈X.fs->b∉ch->s.heap.get? b=a' o->H b=f'->∃ξ,h'.get? b=a' {o with slots:=ξ}) (free:∀b o,b∉ch->s.heap.get? b=a' o->H b=f'->H' b=f')
  (there:∀b o,b∉ch->s.heap.get? b=a' o->∃o',h'.get? b=a' o')
  (tups:∀b xs,H b=a' (.tup xs)->H' b=a' (.tup xs)) (frzs:∀b o u,H b=a' (.frz o u)->H' b=a' (.frz o u)) (tbls:∀b ps,H b=a' (.tbl ps)->∃more,H' b=a' (.tbl (ps++more)))
  (ns:∀m,s.heap.Ns X.env.locals m->h'.Ns X.env.locals m) (hok:HOk X.prog X.w H' h') (ν:AllBare g'):
  Inv X pins σ H' {s with heap:=h',gens:=g',drawn:=d',toks:=t'}:=by
 have γ:∀b o,X.s₀.heap.get? b=a' o->b≠X.env.locals:=λb o e=>TB (gm (hE e) I.ok.above)
 have ζ:∀b o,X.s₀.heap.get? b=a' o->b∉X.ex->b∉ch:=λb o e G hb=>by
  rcases(Y b hb).1 with z | z
  ·exact G z
  ·exact hD (gm (hE e) z) (Vc _)
 have Z:∀x c,X.env.cells.lookup x=a' c->∀v,s.heap.IsCell c v->h'.IsCell c v:=λx c e v ⟨o,ho,hd⟩=>by
  have L:c∉ch:=λz=>(Y c z).2.2.1 x c e rfl;by_cases ι:c∈X.fs
  ·obtain⟨ξ,q⟩:=slot c o (I.cne x c e) ι L ho (I.freeC x c e);exact⟨_,q,hd⟩
  ·exact⟨o,keep c o (I.cne x c e) ι L ho (I.freeC x c e),hd⟩
 refine⟨I.ok,I.os,ν,⟨λb o e n hb G=>?_,λb o e n hb G=>?_,λb o e n G=>?_,λb o e G=>?_,λb xs e=>tups b xs (I.base.tups b xs e),λb o xs e=>frzs b o xs (I.base.frzs b o xs e),λb ps e=>?_⟩,?_,λx c e=>?_,?_,λx c e=>?_,λp θ=>?_,hok,I.len⟩
 ·exact keep b o (γ b o e) hb (ζ b o e G) (I.base.keep b o e n hb G) (I.base.free b o e n G)
 ·obtain⟨ξ,ε⟩:=I.base.slot b o e n hb G;obtain⟨χ,η⟩:=slot b _ (γ b o e) hb (ζ b o e G) ε (I.base.free b o e n G);exact⟨χ,η⟩
 ·obtain⟨o',ε⟩:=I.base.there b o e G;exact free b o' (ζ b o e G) ε (I.base.free b o e n G)
 ·obtain⟨o',ε⟩:=I.base.there b o e G;exact there b o' (ζ b o e G) ε
 ·obtain⟨β,ε⟩:=I.base.tbls b ps e;obtain⟨δ,η⟩:=tbls b _ ε;exact⟨β++δ,by rw[η,Array.append_assoc]⟩
 ·obtain⟨m,hn,hl⟩:=I.loc;refine⟨m,ns m hn,λi x v ε η ο=>?_⟩;obtain⟨u,r,l⟩:=hl i x v ε η ο;refine⟨u,r,?_⟩;rcases l with l | ⟨k,c,e,z⟩
  ·exact .inl l
  ·exact .inr ⟨k,c,e,Z x c e _ z⟩
 ·obtain⟨v,z⟩:=I.cell x c e;exact⟨v,Z x c e v z⟩
 ·obtain⟨m,⟨o,_,_,ho,_⟩,_⟩:=I.loc;exact free _ o (λz=>(Y _ z).2.1 rfl) ho I.free
 ·obtain⟨v,o,ho,hd⟩:=I.cell x c e;exact free c o (λz=>(Y c z).2.2.1 x c e rfl) ho (I.freeC x c e)
 ·obtain⟨e,n,ne,α,d⟩:=I.pin p θ;have L:p.1∉ch:=λz=>(Y p.1 z).2.2.2 p θ rfl;exact⟨keep p.1 p.2 ne α L e n,free p.1 p.2 L e n,ne,α,d⟩
theorem Inv.un {t':Nat} (I:Inv X pins σ H s) (u:Un X.fs [] H H' s.heap h') (hok:HOk X.prog X.w H' h'):Inv X pins σ H' {s with heap:=h',toks:=t'}:=by
 obtain⟨m,⟨o,es,ep,ho,r⟩,_⟩:=id I.loc;obtain⟨ξ,G⟩:=u.any ho I.free @E
 exact I.step (g':=s.gens) (d':=s.drawn) (ch:=[]) (λ_ z=>nomatch z) (λb o _ hb _ e n=>u.keep b o e n hb @E) (λb o _ hb _ e n=>u.slot b o e n hb @E) (λb o _ e n=>u.free b o e n @E) (λb o _ e=>u.there b o e @E) u.tups u.frzs u.tbls (λL hm=>by
  obtain⟨o',α,β,ζ,r'⟩:=hm;rw[ho] at ζ;cases ζ;exact⟨_,α,β,G,r'⟩) hok I.bare
theorem Inv.call {t':Nat} {d':Drawn} (I:Inv X pins σ H s) (u:Un (frs X.stack) ch H H' s.heap h') (hok:HOk X.prog X.w H' h') (Z:AllBare g')
  (L:∀b∈ch,(b∈X.ex∨X.s₀.heap.objs.size<=b)/\b≠X.env.locals/\(∀x c,X.env.cells.lookup x=a' c->c≠b)/\∀p∈X.pn++pins,p.1≠b):
  Inv X pins σ H' {s with heap:=h',gens:=g',drawn:=d',toks:=t'}:=by
 obtain⟨m,⟨o,es,ep,ho,r⟩,_⟩:=id I.loc;obtain⟨ξ,α⟩:=u.any ho I.free λz=>(L _ z).2.1 rfl
 exact I.step (ch:=ch) L (λb o α hb G e n=>u.keep b o e n (λz=>(Tn.mp (I.stkSub b z)).elim α hb) G) (λb o _ _ G e n=>u.any e n G) (λb o G e n=>u.free b o e n G) (λb o G e=>u.there b o e G) u.tups u.frzs u.tbls (fun γ hm=>by
  obtain⟨o',Y,β,ζ,r'⟩:=hm;rw[ho] at ζ;cases ζ;exact⟨_,Y,β,α,r'⟩) hok Z
theorem Inv.turned {t':Nat} (I:Inv X pins σ H s) (k:∀b o,b≠C->s.heap.get? b=a' o->h'.get? b=a' o) (hn:H C=f') (α:C≠X.env.locals)
  (h1:C∈X.ex∨X.s₀.heap.objs.size<=C) (h2:∀x c,X.env.cells.lookup x=a' c->c≠C) (Y:∀p∈X.pn++pins,p.1≠C):Inv X pins σ H {s with heap:=h',toks:=t'}:=by
 have β:∀b u,H b=a' u->b≠C:=λb u e z=>by rw[z,hn] at e;cases e
 refine I.step (g':=s.gens) (d':=s.drawn) (ch:=[C]) (λb hb=>?_) (λb o _ _ L e _=>k b o (λz=>L (by simp[z])) e) (λb o _ _ L e _=>⟨o.slots,k b o (λz=>L (by simp[z])) e⟩) (λ_ _ _ _ n=>n)
  (λb o L e=>⟨o,k b o (λz=>L (by simp[z])) e⟩) (λ_ _ e=>e) (λ_ _ _ e=>e) (λb ps e=>⟨#[],by rw[e];simp⟩) (λm hm=>?_) (λb u e=>?_) I.bare
 ·have e:b=C:=by simpa using hb
  subst e;exact⟨h1,α,h2,Y⟩
 ·obtain⟨o,es,ep,ho,r⟩:=hm;exact⟨o,es,ep,k _ o (Ts α) ho,r⟩
 ·refine(I.hok b u e).stay (λc v L q=>k c v ?_ q) (λ_ q=>q) λ_ _ q=>q;rcases L with z | z
  ·rw[z];exact β b u e
  ·exact β c _ z
theorem Inv.tok (I:Inv X pins σ H s) (t:Nat):Inv X pins σ H {s with toks:=t}:=I.un (h':=s.heap) (t':=t) Un.refl I.hok
theorem Inv.kept {t':Nat} (I:Inv X pins σ H s) (k:∀b u,s.heap.get? b=a' u->h'.get? b=a' u):Inv X pins σ H {s with heap:=h',toks:=t'}:=I.un (Un.kept k) (I.hok.kept k)
theorem Inv.laid {t':Nat} (I:Inv X pins σ H s) (k:∀b u,s.heap.get? b=a' u->h'.get? b=a' u) (L:s.heap.objs.size<=a) (G:gX X.prog X.w (upd H a o) h' a o):
  Inv X pins σ (upd H a o) {s with heap:=h',toks:=t'}:=I.un (Un.laid k L (I.hok.fresh L)) (I.hok.laid k L G)
theorem Inv.write {x e:eH} {t':Nat} (I:Inv X pins σ H s) (L:Mut (H x)) (he:e=x∨H e=a' (.own x)) (k:∀b u,b≠e->s.heap.get? b=a' u->h'.get? b=a' u) (ν:∃u,h'.get? e=a' u)
  (G:gX X.prog X.w (upd H x o) h' x o):Inv X pins σ (upd H x o) {s with heap:=h',toks:=t'}:=I.un (Un.write L he k ν) (I.hok.write L he k ν G)
theorem Inv.weak {σ':eE (T8 V)} (I:Inv X pins σ H s) (hl:σ'.length=σ.length) (w:∀(i:Nat) v,σ'[i]? =a' (a' v)->σ[i]? =a' (a' v)):Inv X pins σ' H s:=
 ⟨I.ok,I.os,I.bare,I.base,let ⟨m,hn,G⟩:=I.loc;⟨m,hn,λi x v Z Y L=>G i x v Z (w i v Y) L⟩,I.cell,I.free,I.freeC,I.pin,I.hok,hl.trans I.len⟩
theorem Inv.pins_of (I:Inv X pins σ H s) (h:∀p∈hC,s.heap.get? p.1=a' p.2/\H p.1=f'/\p.1≠X.env.locals/\p.1∉X.fs/\∀v,p.2.data≠.cell v):Inv X hC σ H s:=
 ⟨I.ok,I.os,I.bare,I.base,I.loc,I.cell,I.free,I.freeC,λp L=>(gz.mp L).elim (λz=>I.pin p (iv _ z)) (h p),I.hok,I.len⟩
theorem DW (γ:N.Nodup) {x:T3} (a:N[i]? =a' x) (b:N[j]? =a' x):i=j:=by
 obtain⟨h1,L⟩:=b'.mp a;obtain⟨h2,G⟩:=b'.mp b;exact(List.getElem_inj γ).mp (L.trans G.symm)
theorem Aq {A:TQ} {E:Cr} {x:T3} {Q:L'} (I:Inv X pins σ H s) (ω:X.N.Nodup) (hi:X.N[i]? =a' x) (hx:Loc X.env.scope x) (r:RelV v u)
  (h:∀s',Inv X pins (σ.set i (a' v)) H s'->(∃a,WC a s.heap s'.heap/\(a=X.env.locals∨X.env.cells.lookup x=a' a))->Q () s') (hf:X.fn x=true∨X.env.scope.names.lookup x=a' .local:=by first | exact .inl rfl | exact .inr rfl | assumption):n' hM A (storeName X.env x u) Q E s:=by
 obtain⟨m,hn,hl⟩:=id I.loc;have ζ:(X.env.scope.kind == .class||(X.env.scope.kind == .module&&X.env.locals != X.env.globals))=false:=by rw[I.ok.kind];rfl
 have γ:i < σ.length:=by rw[I.len];exact(b'.mp hi).1
 have cne:=I.cne
 have θ:∀{a:eH} {h':Ui},(∃o,s.heap.get? a=a' o/\H a=f')->WC a s.heap h'->HOk X.prog X.w H h':=λ{a h'} ha hs b ob e=>by
  obtain⟨_,_,L⟩:=ha;refine(I.hok b ob e).stay (λc α hc q=>(hs.2 c ?_).trans q) (λ_ q=>q) λ_ _ q=>q;rintro rfl;rcases hc with rfl | hc
  ·rw[L] at e;cases e
  ·rw[L] at hc;cases hc
 rcases hx with hk | hk
 ·refine wpAny_storeName_local hk hn (λh' ο hs=>?_) ζ;obtain⟨oL,_,_,φ,_⟩:=id hn;refine h _ ⟨I.ok,I.os,I.bare,⟨λb o e n hb hx=>?_,λb o e n hb hx=>?_,I.base.free,λb o e hx=>?_,I.base.tups,I.base.frzs,I.base.tbls⟩,⟨_,ο,λj y τ G Y χ=>?_⟩,λy c e=>?_,I.free,I.freeC,λp υ=>?_,θ ⟨oL,φ,I.free⟩ hs,by simpa using I.len⟩ ⟨_,hs,.inl rfl⟩
  ·exact(hs.2 b (TB (gm (hE e) I.ok.above))).trans (I.base.keep b o e n hb hx)
  ·obtain⟨π,G⟩:=I.base.slot b o e n hb hx;exact⟨π,(hs.2 b (TB (gm (hE e) I.ok.above))).trans G⟩
  ·obtain⟨o',G⟩:=I.base.there b o e hx;exact⟨o',(hs.2 b (TB (gm (hE e) I.ok.above))).trans G⟩
  ·by_cases Z:j=i
   ·subst Z;rw[hi] at G;cases G;rw[Z9 γ] at Y;cases Y;exact⟨u,r,.inl ⟨hk,by simp⟩⟩
   ·rw[Zr (Ts Z)] at Y;obtain⟨ν,r',q⟩:=hl j y τ G Y χ;refine⟨ν,r',?_⟩;rcases q with ⟨k,e⟩ | ⟨k,c,e,z⟩
    ·refine .inl ⟨k,?_⟩;have:y≠x:=λe=>Z (DW ω G (e ▸ hi));simp[this,e]
    ·exact .inr ⟨k,c,e,z.sameBut hs (cne y c e)⟩
  ·obtain⟨α,z⟩:=I.cell y c e;exact⟨α,z.sameBut hs (cne y c e)⟩
  ·obtain⟨e,n,ne,ρ,d⟩:=I.pin p υ;exact⟨(hs.2 p.1 ne).trans e,n,ne,ρ,d⟩
 ·have β:X.fn x=true:=by
   rcases hf with z | z
   ·exact z
   ·rw[z] at hk;cases hk
  obtain⟨c,hc⟩:=I.ok.has x (.inl hk);obtain⟨α,z⟩:=I.cell x c hc;refine wpAny_storeName_cell I.ok.kind hk hc z (λh' ι hs=>?_);obtain⟨ψ,ε,δ⟩:=id z;refine h {s with heap:=h'} ⟨I.ok,I.os,I.bare,⟨λb o e n hb hx=>?_,λb o e n hb hx=>?_,I.base.free,λb o e hx=>?_,I.base.tups,I.base.frzs,I.base.tbls⟩,⟨m,hn.sameBut hs (Ts (cne x c hc)),λj y τ G Y χ=>?_⟩,λy ξ e=>?_,I.free,I.freeC,λp υ=>?_,θ ⟨ψ,ε,I.freeC x c hc⟩ hs,by simpa using I.len⟩ ⟨c,hs,.inr hc⟩
  ·exact(hs.2 b (TB (gm (hE e) (I.ok.cab x c β hc)))).trans (I.base.keep b o e n hb hx)
  ·obtain⟨π,G⟩:=I.base.slot b o e n hb hx;exact⟨π,(hs.2 b (TB (gm (hE e) (I.ok.cab x c β hc)))).trans G⟩
  ·obtain⟨o',G⟩:=I.base.there b o e hx;exact⟨o',(hs.2 b (TB (gm (hE e) (I.ok.cab x c β hc)))).trans G⟩
  ·by_cases Z:j=i
   ·subst Z;rw[hi] at G;cases G;rw[Z9 γ] at Y;cases Y;exact⟨u,r,.inr ⟨.inl hk,c,hc,ι⟩⟩
   ·rw[Zr (Ts Z)] at Y;obtain⟨ν,r',q⟩:=hl j y τ G Y χ;refine⟨ν,r',?_⟩;rcases q with q | ⟨k,ξ,e,z'⟩
    ·exact .inl q
    ·refine .inr ⟨k,ξ,e,z'.sameBut hs ?_⟩;rintro rfl;exact Z (DW ω G (I.ok.inj _ _ _ e hc ▸ hi))
  ·by_cases η:ξ=c
   ·subst η;exact⟨_,ι⟩
   ·obtain⟨w2,z2⟩:=I.cell y ξ e;exact⟨w2,z2.sameBut hs η⟩
  ·obtain⟨e,n,ne,ρ,d⟩:=I.pin p υ;refine⟨(hs.2 p.1 ?_).trans e,n,ne,ρ,d⟩;intro q;rw[q,ε] at e;have q':ψ=p.2:=zx e;exact d α (by rw[<-q'];exact δ)
theorem DC {A:TQ} {E:Cr} {x:T3} {Q:L'} (I:Inv X pins σ H s) (γ:X.N.Nodup) (hi:X.N[i]? =a' x) (hx:Loc X.env.scope x) (r:RelV v u)
  (h:∀s',Inv X pins (σ.set i (a' v)) H s'->Q () s') (hf:X.fn x=true∨X.env.scope.names.lookup x=a' .local:=by first | exact .inl rfl | exact .inr rfl | assumption):n' hM A (storeName X.env x u) Q E s:=
 Aq I γ hi hx r (λs' θ _=>h s' θ) hf
theorem Inv.call' (I:Inv X pins σ H s) (ho:s'.os=s.os) (u:Un (frs X.stack) ch H H' s.heap s'.heap) (hok:HOk X.prog X.w H' s'.heap) (L:AllBare s'.gens)
  (G:∀b∈ch,(b∈X.ex∨X.s₀.heap.objs.size<=b)/\b≠X.env.locals/\(∀x c,X.env.cells.lookup x=a' c->c≠b)/\∀p∈X.pn++pins,p.1≠b):Inv X pins σ H' s':=by
 obtain⟨h',g',d',t',o'⟩:=s';have e:o'=s.os:=ho;subst e;exact I.call (g':=g') (t':=t') (d':=d') u hok L G
end
noncomputable abbrev XK:=sC->P'->Hp->Prop
variable {E:XK}
noncomputable abbrev St:=eE (T8 V)
variable {σ:St}
noncomputable abbrev VK:=V->Hp->Prop
variable {Q:VK}
noncomputable abbrev TE:=St->Hp->VK->Prop
variable {nb nf ta te tl to θ:TE}
noncomputable abbrev TT:=St->Hp->(UD->Hp->Prop)->Prop
variable {tc:TT}
noncomputable abbrev TA:=St->Hp->(eE V->Hp->Prop)->Prop
variable {qB:TA}
structure Ends where
 nx:St->Hp->Prop
 rt:VK
 bk:St->Hp->Prop:=λ_ _=>False
 ct:St->Hp->Prop:=λ_ _=>False
variable {oe:Ends}
noncomputable abbrev TS:=Ends->St->Hp->Prop
variable {oD tb:TS}
def EP (X:Cx) (pins:D') (σ:St) (Q:VK) (u:sC) (s':px):Prop:=∃v H',Inv X pins σ H' s'/\RelV v u/\Q v H'
def TP (X:Cx) (pins:D') (σ:St) (Q:UD->Hp->Prop) (b:UD) (s':px):Prop:=∃H',Inv X pins σ H' s'/\Q b H'
def AP (X:Cx) (pins:D') (σ:St) (Q:eE V->Hp->Prop) (us:E') (s':px):Prop:=∃vs H',Inv X pins σ H' s'/\Vals vs us/\Q vs H'
def SP (X:Cx) (pins:D') (D:Ends) (f:Flow) (s':px):Prop:=
 match f with
 | .next=>∃σ' H',Inv X pins σ' H' s'/\D.nx σ' H'
 | .brk=>∃σ' H',Inv X pins σ' H' s'/\D.bk σ' H'
 | .cont=>∃σ' H',Inv X pins σ' H' s'/\D.ct σ' H'
 | .ret u=>∃v σ' H',Inv X pins σ' H' s'/\RelV v u/\D.rt v H'
def PE (X:Cx) (e:UF) (t:TE):Prop:=
 ∀(pins:D') (s:px) (σ:St) (H:Hp) (Q:VK),Inv X pins σ H s->t σ H Q->n' (xY X.prog X.w) X.A (eval e X.env) (EP X pins σ Q) X.xe s
def PT (X:Cx) (e:UF) (t:TT):Prop:=
 ∀(pins:D') (s:px) (σ:St) (H:Hp) (Q:UD->Hp->Prop),Inv X pins σ H s->t σ H Q->n' (xY X.prog X.w) X.A (isTrue e X.env (eval e X.env)) (TP X pins σ Q) X.xe s
def PW (X:Cx) (e:UF) (t:TT):Prop:=
 ∀(G:Sem sC) (pins:D') (s:px) (σ:St) (H:Hp) (Q:UD->Hp->Prop),Inv X pins σ H s->t σ H Q->n' (xY X.prog X.w) X.A (isTrue e X.env G) (TP X pins σ Q) X.xe s
theorem PW.pt {t:TT} (h:PW X e t):PT X e t:=h _
def PA (X:Cx) (es:eE UF) (t:TA):Prop:=
 ∀(pos:Pos) (pins:D') (s:px) (σ:St) (H:Hp) (Q:eE V->Hp->Prop),Inv X pins σ H s->t σ H Q->n' (xY X.prog X.w) X.A (spliced (backTo pos (tu es X.env))) (AP X pins σ Q) X.xe s
def PS (X:Cx) (st:Wr) (t:TS):Prop:=
 ∀(pins:D') (s:px) (σ:St) (H:Hp) (D:Ends),Inv X pins σ H s->t D σ H->n' (xY X.prog X.w) X.A (exec st X.env) (SP X pins D) X.xe s
def PSs (X:Cx) (st:eE Wr) (t:TS):Prop:=
 ∀(pins:D') (s:px) (σ:St) (H:Hp) (D:Ends),Inv X pins σ H s->t D σ H->n' (xY X.prog X.w) X.A (execs st X.env) (SP X pins D) X.xe s
theorem thn {α:Type} {t:Sem α} {Q G:α->px->Prop} {A:TQ} {E:Cr} (h:n' hM A t Q E s) (L:∀a s,Q a s->G a s):n' hM A t G E s:=W1 h L λ_ _ x=>x
section
variable {X:Cx}
noncomputable def tVar (i:Nat):TE:=fun σ H Q=>∃v,σ[i]? =a' (a' v)/\Q v H
noncomputable abbrev tC (v:V):TE:=λ_ H Q=>Q v H
theorem Q3 {x:T3} (γ:X.N[i]? =a' x) (Z:Vis X.env.scope x) (hd:(x == ("__debug__":T3))=false:=by decide) (L:(x == ("__classdict__":T3))=false:=by decide):PE X (.Name x pos) (tVar i):=by
 intro pins s σ H Q I h;obtain⟨v,e,h⟩:=h;obtain⟨m,hn,hl⟩:=I.loc;obtain⟨u,r,l⟩:=hl i x v γ e Z;have fin:EP X pins σ Q u s:=⟨v,H,I,r,h⟩;rcases l with ⟨hk,hm⟩ | ⟨hk,c,Y,G⟩
 ·exact ac4 (wpAny_loadName_local I.ok.kind hk hn hm fin) hd
 ·rcases hk with hk | hk
  ·exact ac4 (wpAny_loadName_cell I.ok.kind hk Y G fin) hd
  ·exact ac4 (wpAny_loadName_free I.ok.kind hk Y G fin L) hd
theorem ah {i j pos}:PE X (.Constant (.int i) j pos) (tC (.int i)):=λ_ _ _ H _ I h=>wpAny_Constant_int ⟨.int i,H,I.tok _,⟨_,rfl⟩,h⟩
theorem za {b j pos}:PE X (.Constant (.bool b) j pos) (tC (.bl b)):=λ_ _ _ H _ I h=>Constant_bool ⟨.bl b,H,I,rfl,h⟩
theorem MS {j pos}:PE X (.Constant .none j pos) (tC .non):=λ_ _ _ H _ I h=>Constant_none ⟨.non,H,I,rfl,h⟩
theorem bI {x j pos}:PE X (.Constant (.str x) j pos) (tC (.str x)):=λ_ _ _ H _ I h=>Calls.Constant_str ⟨.str x,H,I.tok _,⟨_,rfl⟩,h⟩
def Gl (X:Cx) (x:T3):Prop:=X.env.kindOf x=a' .globalImplicit
theorem vZ {E:Cr} {x:T3} {Q:Cr} (I:Inv X pins σ H s) (G:Gl X x) (hm:X.mg x=a' u) (h:Q u s)
  (hd:(x == ("__debug__":T3))=false:=by decide):n' (xY X.prog X.w) X.A (eval (.Name x pos) X.env) Q E s:=
 Yw I.ok.kind G (Calls.loadGlobal_global (by rw[I.ok.glob];exact I.mod.glob.keeps I.bk) hm h) hd
theorem lN {E:Cr} {x:T3} {Q:Cr} (I:Inv X pins σ H s) (L:Gl X x) (hm:X.mg x=f') (G:bootBuiltins x=a' u) (h:Q u s)
  (hn:x≠"__name__":=by decide) (hd:(x == ("__debug__":T3))=false:=by decide):n' (xY X.prog X.w) X.A (eval (.Name x pos) X.env) Q E s:=by
 obtain⟨ι,h1,h2⟩:=I.mod.blt;exact Yw I.ok.kind L (Calls.loadGlobal_builtin (by rw[I.ok.glob];exact I.mod.glob.keeps I.bk) hm (by rw[I.ok.blt];exact h1.keeps I.bk) ((h2 x hn).trans G) h) hd
theorem jS {x:T3} (G:Gl X x) (hm:X.mg x=a' u) (r:RelV v u) (hd:(x == ("__debug__":T3))=false:=by decide):PE X (.Name x pos) (tC v):=
 λ_ _ _ H _ I h=>vZ I G hm ⟨v,H,I,r,h⟩ hd
theorem sv {x:T3} (L:Gl X x) (hm:X.mg x=f') (G:bootBuiltins x=a' u) (r:RelV v u) (hn:x≠"__name__":=by decide) (hd:(x == ("__debug__":T3))=false:=by decide):PE X (.Name x pos) (tC v):=
 λ_ _ _ H _ I h=>lN I L hm G ⟨v,H,I,r,h⟩ hn hd
variable {a b:UF} {ta tb:TE} {pos:Pos}
def PC (X:Cx) (τ:CmpOp) (a b:UF) (t:TE):Prop:=
 ∀(pins:D') (s:px) (σ:St) (H:Hp) (Q:VK),Inv X pins σ H s->t σ H Q->
  n' (xY X.prog X.w) X.A (eval a X.env) (λv G=>n' (xY X.prog X.w) X.A (eval b X.env) (λu β=>n' (xY X.prog X.w) X.A (compareOp τ v u) (EP X pins σ Q) X.xe β) X.xe G) X.xe s
noncomputable abbrev tB (t:TE):TT:=fun σ H Q=>t σ H λx H1=>∃c,x= .bl c/\Q c H1
theorem Q6 {τ:CmpOp} {t:TE} (h:PC X τ a b t) (h1:behindInMarks τ b=false:=by first | exact nobehind _ (by decide) (by decide) | rfl):PE X (.Compare a [τ] [b] pos) t:=λpins s σ H Q I hw=>wpAny_Compare1 (h pins s σ H Q I hw) h1
theorem HQ {τ:CmpOp} {t:TE} (h:PC X τ a b t) (h1:behindInMarks τ b=false:=by first | exact nobehind _ (by decide) (by decide) | rfl):PT X (.Compare a [τ] [b] pos) (tB t):=by
 intro pins s σ H Q I hw;refine aa1 (thn (h pins s σ H _ I hw) λv β h1=>thn h1 λu α h2=>thn h2 λc Z ⟨x,H1,L,Y,G⟩=>?_) h1;obtain⟨d,rfl,q⟩:=G;cases Y;exact Vt ⟨H1,L,q⟩
theorem gL {t:TE} (h:PE X e t) (he:∀G,isTrue e X.env G=(do let v <-G;standAt e.pos;holding [v] (truthy v)):=by intro _;rfl):PT X e (tB t):=by
 intro pins s σ H Q I hw;refine isTrue_plain (thn (h pins s σ H _ I hw) λv α ⟨x,H1,Z,Y,L⟩=>?_) (he _);obtain⟨d,rfl,q⟩:=L;cases Y;exact Vt ⟨H1,Z,q⟩
variable {tA tB':TT} {rest:eE UF}
noncomputable abbrev tAnd (t u:TT):TT:=fun σ H Q=>t σ H λc H1=>if c=true then u σ H1 Q else Q false H1
noncomputable abbrev tOr (t u:TT):TT:=fun σ H Q=>t σ H λc H1=>if c=true then Q true H1 else u σ H1 Q
noncomputable abbrev tNot (t:TT):TT:=fun σ H Q=>t σ H λc H1=>Q (!c) H1
theorem B7 (ha:PT X a tA):PW X (.BoolOp .And [a] pos) tA:=by
 intro θ pins s σ H Q I h;refine isTrue_and (thn (ha pins s σ H Q I h) λc G e=>?_);cases c with
 | true=>exact isTrue_and_nil e
 | false=>exact e
theorem nQ (ha:PT X a tA):PW X (.BoolOp .Or [a] pos) tA:=by
 intro θ pins s σ H Q I h;refine isTrue_or (thn (ha pins s σ H Q I h) λc G e=>?_);cases c with
 | false=>exact isTrue_or_nil e
 | true=>exact e
theorem HP (ha:PT X a tA) (hb:PW X (.BoolOp .And (b::rest) pos) tB'):PW X (.BoolOp .And (a::b::rest) pos) (tAnd tA tB'):=by
 intro θ pins s σ H Q I h;refine isTrue_and (thn (ha pins s σ H _ I h) λc Y ⟨H1,L,G⟩=>?_);cases c with
 | true=>exact hb θ pins Y σ H1 Q L G
 | false=>exact⟨H1,L,G⟩
theorem qg (ha:PT X a tA) (hb:PW X (.BoolOp .Or (b::rest) pos) tB'):PW X (.BoolOp .Or (a::b::rest) pos) (tOr tA tB'):=by
 intro θ pins s σ H Q I h;refine isTrue_or (thn (ha pins s σ H _ I h) λc Y ⟨H1,L,G⟩=>?_);cases c with
 | true=>exact⟨H1,L,G⟩
 | false=>exact hb θ pins Y σ H1 Q L G
theorem jb (ha:PT X a tA):PT X (.UnaryOp .Not a pos) (tNot tA):=by
 intro pins s σ H Q I h;exact isTrue_not (ha pins s σ H (λc H1=>Q (!c) H1) I h)
noncomputable abbrev SJ (ta tb:TE):TE:=fun σ H Q=>ta σ H λx H1=>∃c,x= .bl c/\if c=true then tb σ H1 Q else Q (.bl false) H1
noncomputable abbrev SG (ta:TE):TE:=fun σ H Q=>ta σ H λx H1=>∃c,x= .bl c/\Q (.bl (!c)) H1
theorem yj {op} {t:TE} (h:PE X a t):PE X (.BoolOp op [a] pos) t:=λpins s σ H Q I hw=>BoolOp_one (h pins s σ H Q I hw)
theorem vm (ha:PE X a ta) (hb:PE X (.BoolOp .And (b::rest) pos) tb):PE X (.BoolOp .And (a::b::rest) pos) (SJ ta tb):=by
 intro pins s σ H Q I h;refine BoolOp_and (thn (ha pins s σ H _ I h) λv Z ⟨x,H1,L,Y,G⟩=>?_);obtain⟨c,rfl,G⟩:=G;cases Y;refine Vt ?_;cases c with
 | true=>exact hb pins Z σ H1 Q L G
 | false=>exact⟨.bl false,H1,L,rfl,G⟩
theorem Q4 (ha:PE X a ta):PE X (.UnaryOp .Not a pos) (SG ta):=by
 intro pins s σ H Q I h;refine UnaryOp_ (thn (ha pins s σ H _ I h) λv Z ⟨x,H1,L,Y,G⟩=>?_);obtain⟨c,rfl,G⟩:=G;cases Y;exact not_of (Vt ⟨.bl (!c),H1,L,rfl,G⟩)
noncomputable abbrev tIf (t:TT) (ta tb:TE):TE:=fun σ H Q=>t σ H λc H1=>if c=true then ta σ H1 Q else tb σ H1 Q
theorem Lv {c:UF} (hc:PT X c tA) (ha:PE X a ta) (hb:PE X b tb):PE X (.IfExp c a b pos) (tIf tA ta tb):=by
 intro pins s σ H Q I h;refine wpAny_IfExp (thn (hc pins s σ H _ I h) λd G ⟨H1,Y,L⟩=>?_);cases d with
 | true=>exact ha pins G σ H1 Q Y L
 | false=>exact hb pins G σ H1 Q Y L
end
def SqL (K:dt) (H:Hp) (a:eH) (xs:eE V):Prop:=
 Rd H a (.lst xs)∨
  ∃(o:ZC) (its:G') (n:Nat),K.lookup a=a' o/\o.cls= .type "list"/\o.dict=f'/\o.data= .seq its n/\its.size<=hR/\Vals xs its.toList
def SqT (K:dt) (H:Hp) (a:eH) (xs:eE V):Prop:=
 Rd H a (.tup xs)∨
  ∃(o:ZC) (its:G') (n:Nat),K.lookup a=a' o/\o.cls= .type "tuple"/\o.data= .seq its n/\its.size<=hR/\Vals xs its.toList
noncomputable def absV:sC->T8 V
 | .none=>a' .non
 | .bool b=>a' (.bl b)
 | .int i _=>a' (.int i)
 | .str x _=>a' (.str x)
 | .bytes b _=>a' (.byt b)
 | .float b _=>a' (.flt b)
 | .ref a=>a' (.ref a)
 | .type n=>a' (.ty n)
 | _=>f'
theorem RelV.abs {x:V} (r:RelV x u):absV u=a' x:=by
 cases x with
 | non=>cases r;rfl
 | bl _=>cases r;rfl
 | int _=>obtain⟨t,rfl⟩:=r;rfl
 | str _=>obtain⟨t,rfl⟩:=r;rfl
 | byt _=>obtain⟨t,rfl⟩:=r;rfl
 | flt _=>obtain⟨t,rfl⟩:=r;rfl
 | ref _=>cases r;rfl
 | ty _=>cases r;rfl
theorem RelV.inj {x y:V} (r:RelV x u) (q:RelV y u):x=y:=zx (r.abs.symm.trans q.abs)
theorem Vals.inj:∀{xs ys:eE V} {us:E'},Vals xs us->Vals ys us->xs=ys
 | _,_,_,.nil,.nil=>rfl
 | _,_,_,.cons r t,.cons r' t'=>by rw[r.inj r',Vals.inj t t']
section
variable {X:Cx} {pins:D'} {σ:St} {H:Hp} {s:px} {a:eH} {xs ys:eE V}
theorem SqL.of {K:dt} (h:H a=a' (.lst xs)):SqL K H a xs:= .inl (.inl h)
theorem SqT.of {K:dt} (h:H a=a' (.tup xs)):SqT K H a xs:= .inl (.inl h)
theorem Inv.list (I:Inv X pins σ H s) (h:SqL X.K H a xs):∃its:E',Vals xs its/\PlainL s.heap a its.toArray/\xs.length<=sizeLine:=by
 rcases h with h | ⟨o,its,n,hk,G,hd,hs,hz,r⟩
 ·obtain⟨z,its,n,r,e⟩:=h.ok I.hok;exact⟨its,r,⟨_,n,e,rfl,rfl,rfl⟩,z⟩
 ·refine⟨its.toList,r,⟨o,n,I.kIn a o hk,G,hd,by simpa using hs⟩,?_⟩;have e:=r.length;simp only[V6] at e;omega
theorem Inv.tuple (I:Inv X pins σ H s) (h:SqT X.K H a xs):∃its:E',Vals xs its/\IsTup s.heap a its.toArray/\xs.length<=sizeLine:=by
 rcases h with h | ⟨o,its,n,hk,G,hs,hz,r⟩
 ·obtain⟨z,its,r,p⟩:=h.ok I.hok;exact⟨its,r,p,z⟩
 ·refine⟨its.toList,r,⟨o,I.kIn a o hk,G,n,by simpa using hs⟩,?_⟩;have e:=r.length;simp only[V6] at e;omega
theorem Inv.list_inj (I:Inv X pins σ H s) (h:SqL X.K H a xs) (h':SqL X.K H a ys):xs=ys:=by
 obtain⟨its,r,⟨o,n,e,_,_,d⟩,_⟩:=I.list h;obtain⟨its',r',⟨o',ε,G,_,_,d'⟩,_⟩:=I.list h';rw[e] at G;cases G;rw[d] at d';injection d' with ψ _
 have:its=its':=by simpa using T4 ac9 ψ
 subst this;exact r.inj r'
theorem Inv.tuple_inj (I:Inv X pins σ H s) (h:SqT X.K H a xs) (h':SqT X.K H a ys):xs=ys:=by
 obtain⟨its,r,⟨o,e,_,n,d⟩,_⟩:=I.tuple h;obtain⟨its',r',⟨o',G,_,ε,d'⟩,_⟩:=I.tuple h';rw[e] at G;cases G;rw[d] at d';injection d' with ψ _
 have:its=its':=by simpa using T4 ac9 ψ
 subst this;exact r.inj r'
end
noncomputable abbrev Cx.wish (X:Cx) (E:Cr):Cx:={X with xe:=E}
noncomputable abbrev Cx.nox (X:Cx):Cx:=X.wish λ_ _=>False
theorem Cx.Ok.wish (ok:X.Ok) (E:Cr):(X.wish E).Ok:=
 ⟨ok.mod,ok.kind,ok.glob,ok.blt,ok.above,ok.inj,ok.has,ok.cab,ok.hd,ok.frames,ok.stk,ok.exf,ok.bs,ok.bsz,ok.noex,ok.exfs,ok.funs,ok.frf⟩
theorem Cx.Ok.unwish {E:Cr} (ok:(X.wish E).Ok):X.Ok:=
 ⟨ok.mod,ok.kind,ok.glob,ok.blt,ok.above,ok.inj,ok.has,ok.cab,ok.hd,ok.frames,ok.stk,ok.exf,ok.bs,ok.bsz,ok.noex,ok.exfs,ok.funs,ok.frf⟩
section
variable {X:Cx} {pins:D'} {σ:St} {H:Hp} {s:px} {E:Cr}
theorem Inv.wish (I:Inv X pins σ H s) (E:Cr):Inv (X.wish E) pins σ H s:=⟨I.ok.wish E,I.os,I.bare,I.base,I.loc,I.cell,I.free,I.freeC,I.pin,I.hok,I.len⟩
theorem Inv.unwish (I:Inv (X.wish E) pins σ H s):Inv X pins σ H s:=⟨I.ok.unwish,I.os,I.bare,I.base,I.loc,I.cell,I.free,I.freeC,I.pin,I.hok,I.len⟩
theorem SP.unwish {f:Flow} (h:SP (X.wish E) pins oe f s'):SP X pins oe f s':=by
 cases f with
 | next=>obtain⟨σ',H',I,q⟩:=h;exact⟨σ',H',I.unwish,q⟩
 | brk=>obtain⟨σ',H',I,q⟩:=h;exact⟨σ',H',I.unwish,q⟩
 | cont=>obtain⟨σ',H',I,q⟩:=h;exact⟨σ',H',I.unwish,q⟩
 | ret u=>obtain⟨v,σ',H',I,r,q⟩:=h;exact⟨v,σ',H',I.unwish,r,q⟩
theorem PSs.nox {st:eE Wr} {t:TS} (h:PSs X.nox st t):PSs X st t:=λpins s σ H D I hw=>
 W1 (h pins s σ H D (I.wish _) hw) (λ_ _ q=>q.unwish) λ_ _ z=>Uk z
end
section
variable {X:Cx} {st:Wr} {rest:eE Wr} {t u:TS} {e:UF} {te:TE} {pos:Pos}
noncomputable def PX:TS:=λD σ H=>D.nx σ H
noncomputable def tSeq (t u:TS):TS:=λD σ H=>t {D with nx:=u D} σ H
theorem bo:PSs X [] PX:=λ_ _ σ H _ I h=>XH ⟨σ,H,I,h⟩
theorem af (h1:PS X st t) (h2:PSs X rest u):PSs X (st::rest) (tSeq t u):=by
 intro pins s σ H D I h;refine YG (thn (h1 pins s σ H {D with nx:=u D} I h) λf G q=>?_);cases f with
 | next=>
   obtain⟨σ',H',θ,q⟩:=q;exact h2 pins G σ' H' D θ q
 | ret v=>exact q
 | brk=>exact q
 | cont=>exact q
theorem ai (h1:PS X st t):PSs X [st] t:=by
 intro pins s σ H D I h;refine YG (thn (h1 pins s σ H D I h) λf G q=>?_);cases f with
 | next=>exact XH q
 | ret v=>exact q
 | brk=>exact q
 | cont=>exact q
theorem Inv.quiet (I:Inv X pins σ H s):interactive X.env=false:=by simp[interactive,I.ok.kind]
noncomputable abbrev SH (te:TE):TS:=λD σ H=>te σ H λ_ H1=>D.nx σ H1
theorem bT (he:PE X e te) (hs:swapsWith e f' pos.line X.env=pure false:=by rfl):PS X (.Expr e pos) (SH te):=by
 intro pins s σ H D I h;exact wpAny_Expr_any (thn (he pins s σ H _ I h) λv Z ⟨x,H1,L,Y,G⟩=>⟨σ,H1,L,G⟩) I.quiet hs
noncomputable abbrev tRet (te:TE):TS:=λD σ H=>te σ H D.rt
theorem aL (he:PE X e te):PS X (.Return (a' e) pos) (tRet te):=by
 intro pins s σ H D I h;exact wpAny_Return_some (thn (he pins s σ H _ I h) λv Z ⟨x,H1,L,Y,G⟩=>⟨x,σ,H1,L,Y,G⟩)
noncomputable abbrev tIfS (c:TT) (t u:TS):TS:=λD σ H=>c σ H λb H1=>if b=true then t D σ H1 else u D σ H1
theorem dU {c:UF} {a b:eE Wr} (hc:PT X c tc) (ha:PSs X a t) (hb:PSs X b u):PS X (.If c a b pos) (tIfS tc t u):=by
 intro pins s σ H D I h;refine wpAny_If (thn (hc pins s σ H _ I h) λd G ⟨H1,Y,L⟩=>?_);cases d with
 | true=>exact ha pins G σ H1 D Y L
 | false=>exact hb pins G σ H1 D Y L
end
noncomputable abbrev TG:=V->St->Hp->(St->Hp->Prop)->Prop
noncomputable abbrev TGs:=eE V->St->Hp->(St->Hp->Prop)->Prop
variable {pp:TGs}
def PG (X:Cx) (G:UF) (t:TG):Prop:=
 ∀(pins:D') (s:px) (σ:St) (H:Hp) (v:V) (u:sC) (Q:St->Hp->Prop),Inv X pins σ H s->RelV v u->t v σ H Q->
  n' (xY X.prog X.w) X.A (assign G X.env u) (λ_ s'=>∃σ' H',Inv X pins σ' H' s'/\Q σ' H') X.xe s
def PGs (X:Cx) (ts:eE UF) (t:TGs):Prop:=
 ∀(pins:D') (s:px) (σ:St) (H:Hp) (vs:eE V) (us:E') (Q:St->Hp->Prop),Inv X pins σ H s->Vals vs us->t vs σ H Q->
  n' (xY X.prog X.w) X.A (assignInOrder ((assignEach ts X.env).map (·.2)) us) (λ_ s'=>∃σ' H',Inv X pins σ' H' s'/\Q σ' H') X.xe s
section
variable {X:Cx} {pos:Pos}
noncomputable def Jt (i:Nat):TG:=λv σ H Q=>Q (σ.set i (a' v)) H
theorem aq {x:T3} (γ:X.N.Nodup) (hi:X.N[i]? =a' x) (hx:Loc X.env.scope x) (hf:X.fn x=true∨X.env.scope.names.lookup x=a' .local:=by first | exact .inl rfl | exact .inr rfl | assumption):PG X (.Name x pos) (Jt i):=by
 intro pins s σ H v u Q I r h;exact ad0 (DC I γ hi hx r (λs' θ=>⟨_,H,θ,h⟩) hf)
noncomputable def gNil:TGs:=λvs σ H Q=>vs=[]/\Q σ H
noncomputable def O4 (t:TG) (u:TGs):TGs:=λvs σ H Q=>∃v r,vs=v::r/\t v σ H fun σ' H'=>u r σ' H' Q
theorem i6:PGs X [] gNil:=by
 intro pins s σ H vs us Q I r h;obtain⟨e,h⟩:=h;subst e;cases r;exact assignInOrder_nil ⟨σ,H,I,h⟩
theorem bL {t:TG} {u:TGs} (h1:PG X e t) (h2:PGs X α u)
  (hs:(assignEach (e::α) X.env).map (·.2)=assign e X.env::(assignEach α X.env).map (·.2):=by rfl):PGs X (e::α) (O4 t u):=by
 intro pins s σ H vs us Q I r h;obtain⟨v,γ,es,h⟩:=h;subst es;cases r with
 | cons r Y=>
   rw[hs];refine assignInOrder_cons (thn (h1 pins s σ H _ _ _ I r h) λ_ L ⟨G,H1,β,Z⟩=>?_);exact h2 pins L G H1 _ _ Q β Y Z
noncomputable def gTup (K:dt) (n:Nat) (t:TGs):TG:=λv σ H Q=>∃a xs,v= .ref a/\SqT K H a xs/\xs.length=n/\t xs σ H Q
theorem yi {k:Nat} {t:TGs} {n:Nat} (hc:X.calm=true) (h:PGs X α t)
  (hn:(assignEach α X.env).length=n:=by rfl) (η:(assignEach α X.env).findIdx? (·.1)=none:=by rfl):PG X (.Tuple α k pos) (gTup X.K n t):=by
 intro pins s σ H v u Q I r hw;obtain⟨a,xs,Z,Y,hl,hw⟩:=hw;subst Z;cases r;obtain⟨its,G,ht,hz⟩:=I.tuple Y;refine assign_Tuple_tuple (I.ok.hd hc) ht (by simp[hn,<-hl,G.length]) η λh' L=>?_;have es:Inv X pins σ H {s with heap:=h'}:=I.kept (t':=s.toks) λb o e=>L b o (TB (hE e)) e;exact h pins _ σ H xs _ Q es (by simpa using G) hw
noncomputable abbrev tAsg (te:TE) (g:TG):TS:=λD σ H=>te σ H λx H1=>g x σ H1 D.nx
theorem QY {g:TG} (he:PE X e te) (Z:PG X tg g) (hs:swapsWithSole [tg] e pos.line X.env=pure false:=by rfl) (hw:swappedStores [tg] e X.env=pure none:=by rfl)
  (h1:(assignEach [tg] X.env).map (·.2)=[assign tg X.env]:=by rfl):PS X (.Assign [tg] e pos) (tAsg te g):=by
 intro pins s σ H D I h;refine wpAny_Assign_stores (thn (he pins s σ H _ I h) λv G ⟨x,H1,α,Y,L⟩=>?_) hs hw;rw[h1];exact thn (Z pins G σ H1 x v _ α Y L) λ_ β q=>q
theorem aD {x:T3} (γ:X.N.Nodup) (hi:X.N[i]? =a' x) (hx:Loc X.env.scope x) (he:PE X e te) (hs:swapsWith e (a' (.Name x pos')) pos.line X.env=pure false:=by rfl) (hf:X.fn x=true∨X.env.scope.names.lookup x=a' .local:=by first | exact .inl rfl | exact .inr rfl | assumption):
  PS X (.Assign [.Name x pos'] e pos) (tAsg te (Jt i)):=by
 intro pins s σ H D I h;refine wpAny_Assign_Name (thn (he pins s σ H _ I h) λv β ⟨y,H1,Z,Y,G⟩=>?_) hs;exact DC Z γ hi hx Y (fun α L=>⟨_,H1,L,G⟩) hf
end
section
variable {X:Cx} {pos:Pos}
noncomputable def PV (c:TT) (tb:TS):TS:=λD σ H=>∃W:Nat->St->Hp->Prop,(∃m,W m σ H)/\∀m σ H,W m σ H->
 c σ H λb H1=>if b=true then ∃N:St->Hp->Prop,(∀σ' H',N σ' H'->∃G,G < m/\W G σ' H')/\tb {D with nx:=N,ct:=N,bk:=D.nx} σ H1 else D.nx σ H1
theorem y6 {c:UF} (ζ:PassesOwn (xY X.prog X.w) X.A X.env X.xe) (hc:PT X c tc) (hb:PSs X ol tb):PS X (.While c ol [] pos) (PV tc tb):=by
 intro pins s σ H D I h;obtain⟨W,⟨ν,w0⟩,ι⟩:=h;refine wpAny_While (codeAny_whileLoop (λn s'=>∃σ' H',Inv X pins σ' H' s'/\W n σ' H') ?_ ν ⟨σ,H,I,w0⟩);rintro n ξ ⟨L,H1,ο,ω⟩;refine VM ζ (thn (hc pins ξ L H1 _ ο (ι n L H1 ω)) λb θ ⟨H2,η,χ⟩=>?_);cases b with
 | true=>
   obtain⟨N,γ,χ⟩:=χ;rw[wb rfl];refine VM ζ (thn (hb pins θ L H2 _ η χ) λf π α=>?_);cases f with
   | next=>
     obtain⟨G,Z,ε,υ⟩:=α;obtain⟨δ,hm,β⟩:=γ G Z υ;exact⟨δ,hm,G,Z,ε,β⟩
   | cont=>
     obtain⟨G,Z,ε,υ⟩:=α;obtain⟨δ,hm,β⟩:=γ G Z υ;exact⟨δ,hm,G,Z,ε,β⟩
   | brk=>exact α
   | ret v=>exact α
 | false=>
   rw[qb hB];exact XH ⟨L,H2,η,χ⟩
end
structure It where
 go:Nat->Hp->Prop
 yld:Nat->Hp->V->Hp->Prop
 stop:Nat->Hp->Prop
def FpOk (X:Cx) (pins:D') (H:Hp) (b:eH):Prop:=
 H b=f'/\b≠X.env.locals/\b∉X.fs/\(b∈X.ex∨X.s₀.heap.objs.size<=b)/\(∀x c,X.env.cells.lookup x=a' c->c≠b)/\∀p∈X.pn++pins,p.1≠b
theorem Inv.fpOk {b:eH} (I:Inv X pins σ H s) (hb:s.heap.objs.size<=b) (hn:H' b=f'):FpOk X pins H' b:=by
 refine⟨hn,UK (gm I.lt hb),I.nofs hb,.inr (Vg I.sz hb),λx c e z=>?_,λp G z=>?_⟩
 ·obtain⟨v,q⟩:=I.cell x c e;exact hD (gm q.lt (by rw[z];exact hb)) (Vc _)
 ·exact hD (gm (hE (I.pin p G).1) (by rw[z];exact hb)) (Vc _)
structure Turn (P:Tv) (w:U1) (K:dt) (tg:UF) (J:It) (fp:M') (it:eH) (tn:Nat->Ui->Prop):Prop where
 mem:it∈fp
 obj:∀i h,tn i h->∀b∈fp,∃o,h.get? b=a' o/\∀v,o.data≠.cell v
 keep:∀i h h',tn i h->(∀b∈fp,∀o,h.get? b=a' o->h'.get? b=a' o)->tn i h'
 item:∀(X:Cx),X.prog=P->X.w=w->X.K=K->X.calm=true->∀(i:Nat) (pins:D') (s:px) (σ:St) (H:Hp) (E:Cr),Inv X pins σ H s->(∀b∈fp,FpOk X pins H b)->tn i s.heap->J.go i H->
  n' (xY P w) X.A (pyNext (.ref it)) (λr s1=>∃u,r=a' u/\
   n' (xY P w) X.A (letOwnedTupleGo tg (.ref it) u) (λ_ s2=>∃x H',Inv X pins σ H' s2/\RelV x u/\J.yld i H x H'/\tn (i + 1) s2.heap/\∀b∈fp,H' b=f') E s1) E s
 done:∀(X:Cx),X.prog=P->X.w=w->X.K=K->X.calm=true->∀(i:Nat) (pins:D') (s:px) (σ:St) (H:Hp) (E:Cr),Inv X pins σ H s->(∀b∈fp,FpOk X pins H b)->tn i s.heap->J.stop i H->
  n' (xY P w) X.A (pyNext (.ref it)) (λr s1=>r=f'/\Inv X pins σ H s1) E s
 self:∀(A:TQ) (i:Nat) (s:px) (Q:Cr) (E:Cr),tn i s.heap->Q (.ref it) s->n' (xY P w) A (pyIter (.ref it)) Q E s
noncomputable abbrev TI:=St->Hp->(It->Hp->Prop)->Prop
variable {qE:TI}
def PIE (X:Cx) (pins:D') (σ:St) (tg:UF) (R:It->Hp->Prop) (δ:sC) (L:px):Prop:=
 ∃(Y:eH) (fp:M') (G:Nat->Ui->Prop) (J:It) (H':Hp),δ= .ref Y/\Inv X pins σ H' L/\Turn X.prog X.w X.K tg J fp Y G/\G 0 L.heap/\(∀b∈fp,FpOk X pins H' b)/\R J H'
def PI (X:Cx) (tg iter:UF) (G:TI):Prop:=
 ∀(pins:D') (s:px) (σ:St) (H:Hp) (R:It->Hp->Prop),Inv X pins σ H s->G σ H R->
  n' (xY X.prog X.w) X.A (eval iter X.env) (λv L=>n' (xY X.prog X.w) X.A (pyIter v) (PIE X pins σ tg R) X.xe L) X.xe s
theorem LV {A:TQ} {E:Cr} {L:eH} {o:ZC} {n:V7} {vs:G'} {Q:L'} (ho:s.heap.get? L=a' o) (hc:o.cls= .type n) (hd:o.data= .fields vs)
  (hn:["enumerate","zip","dict_itemiterator","dict_reverseitemiterator","odict_iterator","itertools.zip_longest","itertools.pairwise"].contains n=false) (G:Q () s):n' hM A (letOwnedTupleGo tg (.ref L) u) Q E s:=by
 unfold letOwnedTupleGo
 cases tg<;>first
  | exact sA G
  | (cases u<;>first
    | exact sA G
    | (refine eS (wpAny_load ho ?_)
       rw[hc,hd];show n' hM A (if (["enumerate","zip","dict_itemiterator","dict_reverseitemiterator","odict_iterator","itertools.zip_longest","itertools.pairwise"].contains n&&vs[0]? == a' (rawInt _))=true then _ else _) Q E s;rw[qb (by intro h;rw[hn,U2] at h;cases h)];exact sA G))
noncomputable def Itl (K:dt) (a:eH):It:=
 ⟨λi H=>∃xs x,SqL K H a xs/\xs[i]? =a' x,λi H x H'=>H'=H/\∀xs,SqL K H a xs->xs[i]? =a' x,λi H=>∃xs,SqL K H a xs/\xs.length<=i⟩
noncomputable def Itt (K:dt) (a:eH):It:=
 ⟨λi H=>∃xs x,SqT K H a xs/\xs[i]? =a' x,λi H x H'=>H'=H/\∀xs,SqT K H a xs->xs[i]? =a' x,λi H=>∃xs,SqT K H a xs/\xs.length<=i⟩
noncomputable def Itr (lo:Int) (n:Nat):It:=⟨λi _=>i < n,λi H x H'=>H'=H/\x= .int (lo + i),λi _=>n<=i⟩
theorem GT {P:Tv} {w:U1} {K:dt} (a Y:eH):Turn P w K tg (Itl K a) [Y] Y (λi h=>h.IsListIter Y a i) where
 mem:=by simp
 obj:=λi h st b hb=>by
  have e:b=Y:=by simpa using hb
  subst e;obtain⟨o,e,c,d⟩:=st;exact⟨o,e,λv z=>by rw[d] at z;cases z⟩
 keep:=λi h h' st k=>st.at λo e=>k Y @E o e
 item:=by
  intro X ε hw γ ι i pins s σ H E I hf st δ;subst ε hw γ;obtain⟨xs,x,Z,β⟩:=δ;obtain⟨its,α,p,hz⟩:=I.list Z;obtain⟨u,τ,ν⟩:=α.get β;obtain⟨θ,G,π,η,ζ,ψ⟩:=hf Y @E;refine wpAny_pyNext_list_item st p.isList (x:=u) (by simpa using τ) λh' L ξ=>?_;have υ:Inv X pins σ H {s with heap:=h'}:=I.turned (t':=s.toks) (λb o hb e=>(ξ.2 b hb).trans e) θ G η ζ ψ;obtain⟨o,e,c,d⟩:=id L;exact⟨u,rfl,LV (s:={s with heap:=h'}) e c d @C ⟨x,H,υ,ν,⟨rfl,λys ο=>by rw[I.list_inj ο Z];exact β⟩,L,λb hb=>(hf b hb).1⟩⟩
 done:=by
  intro X ε hw γ ι i pins s σ H E I hf st δ;subst ε hw γ;obtain⟨xs,Z,β⟩:=δ;obtain⟨its,α,p,hz⟩:=I.list Z;obtain⟨θ,G,π,η,ζ,ψ⟩:=hf Y @E;have hl:=α.length;exact wpAny_pyNext_list_end (I.ok.hd ι) st p.isList (by simp;omega) λh' ρ=>⟨rfl,I.turned (t':=s.toks) (λb o hb e=>ρ b o hb e) θ G η ζ ψ⟩
 self:=λ_ _ _ _ _ st h=>wpAny_pyIter_listiter st h
theorem EA {P:Tv} {w:U1} {K:dt} (a Y:eH):Turn P w K tg (Itt K a) [Y] Y (λi h=>h.IsTupleIter Y a i) where
 mem:=by simp
 obj:=λi h st b hb=>by
  have e:b=Y:=by simpa using hb
  subst e;obtain⟨o,e,c,d⟩:=st;exact⟨o,e,λv z=>by rw[d] at z;cases z⟩
 keep:=λi h h' st k=>st.at λo e=>k Y @E o e
 item:=by
  intro X ε hw γ ι i pins s σ H E I hf st δ;subst ε hw γ;obtain⟨xs,x,Z,β⟩:=δ;obtain⟨its,α,p,hz⟩:=I.tuple Z;obtain⟨u,τ,ν⟩:=α.get β;obtain⟨θ,G,π,η,ζ,ψ⟩:=hf Y @E;refine wpAny_pyNext_tuple_item st (show s.heap.IsTuple a its.toArray from p) (x:=u) (by simpa using τ) λh' L ξ=>?_;have υ:Inv X pins σ H {s with heap:=h'}:=I.turned (t':=s.toks) (λb o hb e=>(ξ.2 b hb).trans e) θ G η ζ ψ;obtain⟨o,e,c,d⟩:=id L;exact⟨u,rfl,LV (s:={s with heap:=h'}) e c d @C ⟨x,H,υ,ν,⟨rfl,λys ο=>by rw[I.tuple_inj ο Z];exact β⟩,L,λb hb=>(hf b hb).1⟩⟩
 done:=by
  intro X ε hw γ ι i pins s σ H E I hf st δ;subst ε hw γ;obtain⟨xs,Z,β⟩:=δ;obtain⟨its,α,p,hz⟩:=I.tuple Z;obtain⟨θ,G,π,η,ζ,ψ⟩:=hf Y @E;have hl:=α.length;exact wpAny_pyNext_tuple_end (I.ok.hd ι) st (show s.heap.IsTuple a its.toArray from p) (by simp;omega) λh' ρ=>⟨rfl,I.turned (t':=s.toks) (λb o hb e=>ρ b o hb e) θ G η ζ ψ⟩
 self:=λ_ _ _ _ _ st h=>wpAny_pyIter_tupleiter st h
theorem EB {P:Tv} {w:U1} {K:dt} (Y:eH) (lo:Int) (n:Nat):Turn P w K tg (Itr lo n) [Y] Y (λi h=>IsRangeIter h Y (lo + (i:Nat) * 1) ((n:Int) - (i:Nat)) 1) where
 mem:=by simp
 obj:=λi h st b hb=>by
  have e:b=Y:=by simpa using hb
  subst e
  exact⟨_,st,λv z=>by
   have η:Data.fields _=Data.cell v:=z;cases η⟩
 keep:=λi h h' st k=>k Y @E _ st
 item:=by
  intro X β hw γ α i pins s σ H E I hf st Z;subst β hw γ;obtain⟨ζ,G,ι,ε,δ,ψ⟩:=hf Y @E;have W:=Walks.range (prog:=X.prog) (w:=X.w) (I.ok.hd α) Y lo 1 n;refine W.item i s _ _ Z st λv h' tk θ L ο=>?_;obtain⟨t,rfl⟩:=θ;have ξ:Inv X pins σ H {s with heap:=h',toks:=tk}:=I.turned (λb o hb e=>ο b o (by simpa using hb) e) ζ G ε δ ψ;refine⟨_,rfl,LV (s:={s with heap:=h',toks:=tk}) (n:="range_iterator") L rfl rfl @C ⟨.int (lo + i),H,ξ,⟨t,?_⟩,⟨rfl,rfl⟩,L,λb hb=>(hf b hb).1⟩⟩;rw[Int.mul_one]
 done:=by
  intro X β hw γ α i pins s σ H E I hf st Z;subst β hw γ;obtain⟨ζ,G,ι,ε,δ,ψ⟩:=hf Y @E;exact wpAny_pyNext_range_end (I.ok.hd α) st (by have:n<=i:=Z;omega) λh' ν=>⟨rfl,I.turned (t':=s.toks) (λb o hb e=>ν b o hb e) ζ G ε δ ψ⟩
 self:=λ_ _ _ _ _ st h=>wpAny_pyIter_rangeiter st h
section
variable {X:Cx} {tg:UF}
noncomputable abbrev RG (K:dt) (tl:TE):TI:=fun σ H R=>tl σ H λx H1=>∃a,x= .ref a/\(∃xs,SqL K H1 a xs)/\R (Itl K a) H1
noncomputable abbrev iTup (K:dt) (tl:TE):TI:=fun σ H R=>tl σ H λx H1=>∃a,x= .ref a/\(∃xs,SqT K H1 a xs)/\R (Itt K a) H1
theorem OD {l:UF} (hl:PE X l tl):PI X tg l (RG X.K tl):=by
 intro pins s σ H R I h;refine thn (hl pins s σ H _ I h) λv G ⟨x,H1,I1,Y,L⟩=>?_;obtain⟨a,e,⟨xs,Z⟩,q⟩:=L;subst e;cases Y;obtain⟨its,α,p,hz⟩:=I1.list Z;refine Xh p.isList ?_;refine⟨G.heap.objs.size,[G.heap.objs.size],_,_,H1,rfl,I1.kept (t':=G.toks) λb o e=>fy _ e,GT a _,⟨_,mu _ rfl,rfl,rfl⟩,λb hb=>?_,q⟩;have e:b=G.heap.objs.size:=by simpa using hb
 subst e;exact I1.fpOk (sb _) (I1.hok.fresh (sb _))
theorem Q1 {l:UF} (hl:PE X l tl):PI X tg l (iTup X.K tl):=by
 intro pins s σ H R I h;refine thn (hl pins s σ H _ I h) λv G ⟨x,H1,I1,Y,L⟩=>?_;obtain⟨a,e,⟨xs,Z⟩,q⟩:=L;subst e;cases Y;obtain⟨its,α,p,hz⟩:=I1.tuple Z;refine X9 (show G.heap.IsTuple a its.toArray from p) ?_;refine⟨G.heap.objs.size,[G.heap.objs.size],_,_,H1,rfl,I1.kept (t':=G.toks) λb o e=>fy _ e,EA a _,⟨_,mu _ rfl,rfl,rfl⟩,λb hb=>?_,q⟩;have e:b=G.heap.objs.size:=by simpa using hb
 subst e;exact I1.fpOk (sb _) (I1.hok.fresh (sb _))
theorem Lo {R:It->Hp->Prop} {E:Cr} {hi:Int} {t u v:Tok} {tk:Nat} (I:Inv X pins σ H s) (h1: -(2 ^ 62)<=qA) (h2:qA < 2 ^ 62) (L: -(2 ^ 62)<=hi) (G:hi < 2 ^ 62)
  (q:R (Itr qA (hi - qA).toNat) H):n' (xY X.prog X.w) X.A (pyIter (.ref s.heap.objs.size)) (PIE X pins σ tg R) E {s with heap:=s.heap.push {cls:= .type "range",data:= .fields #[.int qA t,.int hi u,.int 1 v]},toks:=tk}:=by
 refine wpAny_pyIter_range (ac1 ..) (small_one h1 h2 L G) ?_;have I1:Inv X pins σ H {s with heap:=s.heap.push {cls:= .type "range",data:= .fields #[.int qA t,.int hi u,.int 1 v]},toks:=tk}:=I.kept λb o e=>fy _ e
 refine⟨(s.heap.push {cls:= .type "range",data:= .fields #[.int qA t,.int hi u,.int 1 v]}).objs.size,[(s.heap.push {cls:= .type "range",data:= .fields #[.int qA t,.int hi u,.int 1 v]}).objs.size],_,_,H,rfl,
  I1.kept (t':=tk) λb o e=>fy _ e,EB _ qA (hi - qA).toNat,?_,λb hb=>?_,q⟩
 ·have Z:qA + ((0:Nat):Int) * 1=qA:=by simp
  have Y:(((hi - qA).toNat:Nat):Int) - ((0:Nat):Int)=Builtin.Range.rangeSize qA hi 1:=by rw[rangeSize_one];split<;>omega
  show IsRangeIter _ _ (qA + ((0:Nat):Int) * 1) ((((hi - qA).toNat:Nat):Int) - ((0:Nat):Int)) 1;rw[Z,Y];exact mu _ rfl
 ·have e:b=(s.heap.push {cls:= .type "range",data:= .fields #[.int qA t,.int hi u,.int 1 v]}).objs.size:=by simpa using hb
  subst e;exact I1.fpOk (sb _) (I1.hok.fresh (sb _))
noncomputable abbrev Ta (ta:TA):TI:=fun σ H R=>ta σ H λvs H1=>∃j:Int,vs=[.int j]/\-(2 ^ 62)<=j/\j < 2 ^ 62/\R (Itr 0 j.toNat) H1
theorem cG {a:UF} {p:Pos} (Z:Gl X "range") (hm:X.mg "range"=f') (ha:PA X [a] qB) (hs:tu [a] X.env=[(false,eval a X.env)]:=by rfl):PI X tg (.Call (.Name "range" p) [a] [] pos) (Ta qB):=by
 intro pins s σ H R I h;refine YL (lN I Z hm boot_range (Tt (thn (ha pos pins s σ H _ I h) λus β ⟨vs,H1,α,Y,G⟩=>?_) hs rfl));obtain⟨j,e,G,χ,q⟩:=G;subst e;cases Y with
 | cons r L=>
   cases L;obtain⟨t,rfl⟩:=r;exact call_range_1 (Lo α @A @A G χ (by simpa using q))
noncomputable def tFor (Y:TI) (g:TG) (tb:TS):TS:=λD σ H=>Y σ H λJ H1=>∃W:Nat->Nat->St->Hp->Prop,(∃m,W 0 m σ H1)/\∀i m σ H,W i m σ H->
 (J.stop i H/\D.nx σ H)∨(J.go i H/\∃N:St->Hp->Prop,(∀σ' H',N σ' H'->∃L,L < m/\W (i + 1) L σ' H')/\∀x H',J.yld i H x H'->g x σ H' λG H2=>tb {D with nx:=N,ct:=N,bk:=D.nx} G H2)
noncomputable def AA (fp:M') (h:Ui):D':=fp.filterMap λb=>(h.get? b).map λo=>(b,o)
theorem oX {h:Ui} {b:eH} {o:ZC} (hb:b∈fp) (e:h.get? b=a' o):(b,o)∈AA fp h:=ZL.mpr ⟨b,hb,by rw[e];rfl⟩
theorem Ip {h:Ui} {p:eH×ZC} (G:p∈AA fp h):p.1∈fp/\h.get? p.1=a' p.2:=by
 obtain⟨b,hb,e⟩:=ZL.mp G;cases q:h.get? b with
 | none=>rw[q] at e;cases e
 | some o=>
   rw[q] at e;have L:(b,o)=p:=zx e;subst L;exact⟨hb,q⟩
theorem Inv.pinned (I:Inv X pins σ H s) (hf:∀b∈fp,FpOk X pins H b) (ho:∀b∈fp,∃o,s.heap.get? b=a' o/\∀v,o.data≠.cell v):Inv X (pins++AA fp s.heap) σ H s:=
 I.pins_of λp Y=>(gz.mp Y).elim (λz=>I.pin p (hW _ z)) λz=>by
  obtain⟨hb,e⟩:=Ip z;obtain⟨α,G,Z,_⟩:=hf p.1 hb;obtain⟨o,L,d⟩:=ho p.1 hb;rw[e] at L;cases L;exact⟨e,α,G,Z,d⟩
theorem Inv.unpinned {pl:D'} (I:Inv X (pins++pl) σ H s):Inv X pins σ H s:=I.pins_of λp G=>I.pin p (hW _ (iv _ G))
theorem dE {g:TG} (θ:PassesOwn (xY X.prog X.w) X.A X.env X.xe) (hc:X.calm=true) (hi:PI X tg iter qE) (hg:PG X tg g) (hb:PSs X ol tb)
  (hs:∀x,foldedSetIterable iter X.env x=pure x:=by intro _;rfl):PS X (.For tg iter ol [] pos) (tFor qE g tb):=by
 intro pins s σ H D I h;refine wpAny_For (thn (hi pins s σ H _ I h) λv s1 h1=>thn h1 λa0 s2 h2=>?_) hs;obtain⟨it,fp,ψ,J,H2,e,I2,T,δ,f2,W,⟨m0,w0⟩,ι⟩:=h2;subst e;have α:∀{H':Hp},(∀b∈fp,H' b=f')->∀b∈fp,FpOk X pins H' b:=λhn b hb=>⟨hn b hb,(f2 b hb).2⟩;refine codeAny_forLoop_any (λn s'=>∃i σ' H',Inv X pins σ' H' s'/\ψ i s'.heap/\(∀b∈fp,H' b=f')/\W i n σ' H') ?_ m0 ⟨0,σ,H2,I2,δ,λb hb=>(f2 b hb).1,w0⟩;rintro n s3 ⟨i,Z,ξ,I3,ζ,ν,w3⟩;rcases ι i n Z ξ w3 with ⟨stop,qn⟩ | ⟨go,N,γ,step⟩
 ·refine VM θ (thn (T.done X rfl rfl rfl hc i pins s3 Z ξ X.xe I3 (α ν) ζ stop) λr s4 ⟨τ,I4⟩=>?_);subst τ;exact XH ⟨Z,ξ,I4,qn⟩
 ·refine VM θ (thn (T.item X rfl rfl rfl hc i pins s3 Z ξ X.xe I3 (α ν) ζ go) λr s4 ⟨u,τ,h4⟩=>?_);subst τ;refine VM θ (thn h4 λ_ ω ⟨x,H5,I5,r5,y5,π,υ⟩=>?_);have φ:=I5.pinned (α υ) (T.obj _ _ π);refine VM θ (thn (hg _ ω Z H5 x u _ φ r5 (step x H5 y5)) λ_ s6 ⟨ρ,H6,Y,q6⟩=>?_);refine VM θ (thn (hb _ s6 ρ H6 _ Y q6) λf L ο=>?_)
  have again:∀{G:St} {β:Hp},Inv X (pins++AA fp ω.heap) G β L->N G β->∃m,m < n/\∃i σ' H',Inv X pins σ' H' L/\ψ i L.heap/\(∀b∈fp,H' b=f')/\W i m σ' H':=λ{G β} I7 η=>by
   obtain⟨m',hm,w7⟩:=γ G β η;refine⟨m',hm,i + 1,G,β,I7.unpinned,T.keep _ _ _ π λb hb o e=>(I7.pin (b,o) (hW _ (hW _ (oX hb e)))).1,λb hb=>?_,w7⟩;obtain⟨o,e,d⟩:=T.obj _ _ π b hb;exact(I7.pin (b,o) (hW _ (hW _ (oX hb e)))).2.1
  cases f with
  | next=>obtain⟨G,β,I7,η⟩:=ο;exact again I7 η
  | cont=>obtain⟨G,β,I7,η⟩:=ο;exact again I7 η
  | brk=>obtain⟨G,β,I7,ο⟩:=ο;exact⟨G,β,I7.unpinned,ο⟩
  | ret v=>obtain⟨x7,G,β,I7,r7,ο⟩:=ο;exact⟨x7,G,β,I7.unpinned,r7,ο⟩
end
theorem iF {K:dt} {xs:eE V} {g:TG} (G:Nat->St->Hp->Prop) (h0:G 0 σ H) (hl:∀i σ H,i<=xs.length->G i σ H->SqL K H a xs)
  (hs:∀i x σ H,xs[i]? =a' x->G i σ H->g x σ H λL H2=>tb {oe with nx:=G (i + 1),ct:=G (i + 1),bk:=oe.nx} L H2) (hd:∀σ H,G xs.length σ H->oe.nx σ H):
  ∃W:Nat->Nat->St->Hp->Prop,(∃m,W 0 m σ H)/\∀i m σ H,W i m σ H->
    ((Itl K a).stop i H/\oe.nx σ H)∨((Itl K a).go i H/\∃N:St->Hp->Prop,(∀σ' H',N σ' H'->∃Z,Z < m/\W (i + 1) Z σ' H')/\∀x H',(Itl K a).yld i H x H'->g x σ H' λL H2=>tb {oe with nx:=N,ct:=N,bk:=oe.nx} L H2):=by
 refine⟨λi m σ H=>m=xs.length - i/\i<=xs.length/\G i σ H,⟨xs.length,@E,UY _,h0⟩,?_⟩;rintro i m σ H ⟨rfl,hi,p⟩;have q:=hl i σ H hi p;by_cases Y:i < xs.length
 ·refine .inr ⟨⟨xs,xs[i],q,by simp[Y]⟩,G (i + 1),fun σ' H' ε=>⟨xs.length - (i + 1),by omega,rfl,Y,ε⟩,λx H' y=>?_⟩;obtain⟨e,y⟩:=y;subst e;exact hs i x σ _ (y xs q) p
 ·have e:i=xs.length:=by omega
  subst e;exact .inl ⟨⟨xs,q,sb _⟩,hd σ H p⟩
theorem tz {K:dt} {xs:eE V} {g:TG} (G:Nat->St->Hp->Prop) (h0:G 0 σ H) (hl:∀i σ H,i<=xs.length->G i σ H->SqT K H a xs)
  (hs:∀i x σ H,xs[i]? =a' x->G i σ H->g x σ H λL H2=>tb {oe with nx:=G (i + 1),ct:=G (i + 1),bk:=oe.nx} L H2) (hd:∀σ H,G xs.length σ H->oe.nx σ H):
  ∃W:Nat->Nat->St->Hp->Prop,(∃m,W 0 m σ H)/\∀i m σ H,W i m σ H->
    ((Itt K a).stop i H/\oe.nx σ H)∨((Itt K a).go i H/\∃N:St->Hp->Prop,(∀σ' H',N σ' H'->∃Z,Z < m/\W (i + 1) Z σ' H')/\∀x H',(Itt K a).yld i H x H'->g x σ H' λL H2=>tb {oe with nx:=N,ct:=N,bk:=oe.nx} L H2):=by
 refine⟨λi m σ H=>m=xs.length - i/\i<=xs.length/\G i σ H,⟨xs.length,@E,UY _,h0⟩,?_⟩;rintro i m σ H ⟨rfl,hi,p⟩;have q:=hl i σ H hi p;by_cases Y:i < xs.length
 ·refine .inr ⟨⟨xs,xs[i],q,by simp[Y]⟩,G (i + 1),fun σ' H' ε=>⟨xs.length - (i + 1),by omega,rfl,Y,ε⟩,λx H' y=>?_⟩;obtain⟨e,y⟩:=y;subst e;exact hs i x σ _ (y xs q) p
 ·have e:i=xs.length:=by omega
  subst e;exact .inl ⟨⟨xs,q,sb _⟩,hd σ H p⟩
theorem lQ {n:Nat} {g:TG} (Y:Nat->St->Hp->Prop) (h0:Y 0 σ H)
  (hs:∀i σ H,i < n->Y i σ H->g (.int (qA + i)) σ H λG H2=>tb {oe with nx:=Y (i + 1),ct:=Y (i + 1),bk:=oe.nx} G H2) (hd:∀σ H,Y n σ H->oe.nx σ H):
  ∃W:Nat->Nat->St->Hp->Prop,(∃m,W 0 m σ H)/\∀i m σ H,W i m σ H->
    ((Itr qA n).stop i H/\oe.nx σ H)∨((Itr qA n).go i H/\∃N:St->Hp->Prop,(∀σ' H',N σ' H'->∃Z,Z < m/\W (i + 1) Z σ' H')/\∀x H',(Itr qA n).yld i H x H'->g x σ H' λG H2=>tb {oe with nx:=N,ct:=N,bk:=oe.nx} G H2):=by
 refine⟨λi m σ H=>m=n - i/\i<=n/\Y i σ H,⟨n,@E,UY _,h0⟩,?_⟩;rintro i m σ H ⟨rfl,hi,p⟩;by_cases L:i < n
 ·refine .inr ⟨L,Y (i + 1),fun σ' H' ε=>⟨n - (i + 1),by omega,rfl,L,ε⟩,λx H' y=>?_⟩;obtain⟨e,y⟩:=y;subst e y;exact hs i σ _ L p
 ·have e:i=n:=by omega
  subst e;exact .inl ⟨sb _,hd σ H p⟩
noncomputable abbrev R2:=V->V->Hp->VK->Prop
def OpR (X:Cx) (f:sC->sC->Sem sC) (r:R2):Prop:=
 ∀(pins:D') (s:px) (σ:St) (H:Hp) (x y:V) (v u:sC) (Q:VK),Inv X pins σ H s->RelV x v->RelV y u->r x y H Q->
  n' (xY X.prog X.w) X.A (f v u) (EP X pins σ Q) X.xe s
def mR (X:Cx) (f:sC) (r:eE V->Hp->VK->Prop):Prop:=
 ∀(pins:D') (s:px) (σ:St) (H:Hp) (xs:eE V) (us:E') (Q:VK),Inv X pins σ H s->Vals xs us->r xs H Q->
  n' (xY X.prog X.w) X.A (call f us) (EP X pins σ Q) X.xe s
noncomputable abbrev tOp (r:R2) (ta tb:TE):TE:=fun σ H Q=>ta σ H λx H1=>tb σ H1 λy H2=>r x y H2 Q
noncomputable def rI (C:Int->Int->Prop) (g:Int->Int->V):R2:=λx y H Q=>∃i j,x= .int i/\y= .int j/\C i j/\Q (g i j) H
noncomputable def rI0 (g:Int->Int->V):R2:=λx y H Q=>∃i j,x= .int i/\y= .int j/\Q (g i j) H
section
variable {X:Cx} {a b c:UF} {ta tb tc:TE} {pos:Pos}
theorem binT (ha:PE X a ta) (hb:PE X b tb) {R:V->V->Hp->Prop} (I:Inv X pins σ H s)
  (h:ta σ H λx H1=>tb σ H1 λy H2=>R x y H2) {Q:Cr} {f:sC->sC->Sem sC}
  (hf:∀v u L x y H2,Inv X pins σ H2 L->RelV x v->RelV y u->R x y H2->n' (xY X.prog X.w) X.A (f v u) Q X.xe L):
  n' (xY X.prog X.w) X.A (eval a X.env) (λv G=>n' (xY X.prog X.w) X.A (eval b X.env) (λu β=>n' (xY X.prog X.w) X.A (f v u) Q X.xe β) X.xe G) X.xe s:=by
 refine thn (ha pins s σ H _ I h) λv Z ⟨x,H1,ε,Y,γ⟩=>?_;refine thn (hb pins Z σ H1 _ ε γ) λu L ⟨y,H2,δ,α,χ⟩=>?_;exact hf v u L x y H2 δ Y α χ
theorem az {τ:Operator} {r:R2} (ho:OpR X (binaryOp τ) r) (ha:PE X a ta) (hb:PE X b tb):PE X (.BinOp a τ b pos) (tOp r ta tb):=by
 intro pins s σ H Q I h;exact wpAny_BinOp (binT ha hb I h λv u G x y H2 Z Y L q=>ho pins G σ H2 x y v u Q Z Y L q)
theorem opI {f:sC->sC->Sem sC} {C:Int->Int->Prop} {g:Int->Int->Int}
  (rule:∀(i j:Int) (t u:Tok) (s:px) (Q:Cr) (E:Cr),C i j->Q (.int (g i j) s.toks) {s with toks:=s.toks + 1}->n' (xY X.prog X.w) X.A (f (.int i t) (.int j u)) Q E s):
  OpR X f (rI C λi j=> .int (g i j)):=by
 intro pins s σ H x y v u Q I L G h;obtain⟨i,j,rfl,rfl,Y,q⟩:=h;obtain⟨t,rfl⟩:=L;obtain⟨t',rfl⟩:=G;exact rule i j t t' s _ _ Y ⟨.int (g i j),H,I.tok _,⟨_,rfl⟩,q⟩
theorem opI0 {f:sC->sC->Sem sC} {g:Int->Int->Int}
  (rule:∀(i j:Int) (t u:Tok) (s:px) (Q:Cr) (E:Cr),Q (.int (g i j) s.toks) {s with toks:=s.toks + 1}->n' (xY X.prog X.w) X.A (f (.int i t) (.int j u)) Q E s):
  OpR X f (rI0 λi j=> .int (g i j)):=by
 intro pins s σ H x y v u Q I L G h;obtain⟨i,j,rfl,rfl,q⟩:=h;obtain⟨t,rfl⟩:=L;obtain⟨t',rfl⟩:=G;exact rule i j t t' s _ _ ⟨.int (g i j),H,I.tok _,⟨_,rfl⟩,q⟩
theorem opB0 {f:sC->sC->Sem sC} {g:Int->Int->UD}
  (rule:∀(i j:Int) (t u:Tok) (s:px) (Q:Cr) (E:Cr),Q (.bool (g i j)) s->n' (xY X.prog X.w) X.A (f (.int i t) (.int j u)) Q E s):
  OpR X f (rI0 λi j=> .bl (g i j)):=by
 intro pins s σ H x y v u Q I L G h;obtain⟨i,j,rfl,rfl,q⟩:=h;obtain⟨t,rfl⟩:=L;obtain⟨t',rfl⟩:=G;exact rule i j t t' s _ _ ⟨.bl (g i j),H,I,rfl,q⟩
def CDiv (i j:Int):Prop:=0 < j/\j < 1073741824
def To (i j:Int):Prop:=j≠0/\j.natAbs < 1073741824
def CPow (i j:Int):Prop:=0<=j/\j<=1000000/\i.natAbs < 2 ^ 64
def CMul (i j:Int):Prop:=(-(2 ^ 64) < i/\i < 2 ^ 64)∨(-(2 ^ 64) < j/\j < 2 ^ 64)
theorem CMul.ok {i j:Int} (h:CMul i j):IntMulOk i j:=by
 rcases h with ⟨h1,h2⟩ | ⟨h1,h2⟩
 ·exact .of_left (intBits_le_64 h1 h2)
 ·exact .of_right (intBits_le_64 h1 h2)
theorem Ez (k:Nat):(0:Int)<=2 ^ k:=by
 rw[two_pow_cast];exact X' _
theorem dk:OpR X (binaryOp .Add) (rI0 λi j=> .int (i + j)):=opI0 λ_ _ _ _ _ _ _ q=>add_int q
theorem qU:OpR X (binaryOp .Sub) (rI0 λi j=> .int (i - j)):=opI0 λ_ _ _ _ _ _ _ q=>sub_int q
theorem tI:OpR X (binaryOp .Mult) (rI CMul λi j=> .int (i * j)):=opI λ_ _ _ _ _ _ _ hc q=>mul_int q hc.ok
theorem Ij:OpR X (binaryOp .FloorDiv) (rI CDiv λi j=> .int (i / j)):=opI λi j _ _ _ _ _ hc q=>by
 have h1:(0:Int) < j:=hc.1;have h2:j < 1073741824:=hc.2;exact floordiv_int @A (by rw[WX i @A];exact q) (.inl (YI @A))
theorem dW:OpR X (binaryOp .Mod) (rI (λ_ j=>0 < j) λi j=> .int (i % j)):=opI λi j _ _ _ _ _ hc q=>by
 have h1:(0:Int) < j:=hc;exact mod_int' @A (by rw[YK i @A];exact q)
theorem Q8:OpR X (binaryOp .Pow) (rI CPow λi j=> .int (i ^ j.toNat)):=opI λ_ _ _ _ _ _ _ hc q=>pow_int_small hc.1 hc.2.1 hc.2.2 q
theorem g8:OpR X (binaryOp .LShift) (rI CPow λi j=> .int (i * 2 ^ j.toNat)):=opI λ_ _ _ _ _ _ _ hc q=>lshift_int_small hc.1 hc.2.1 hc.2.2 q
theorem qV:OpR X (binaryOp .RShift) (rI (λ_ j=>0<=j) λi j=> .int (i / 2 ^ j.toNat)):=opI λi j _ _ _ _ _ hc q=>
 rshift_int hc (by rw[WX i (Ez _)];exact q)
theorem lF:OpR X (binaryOp .BitAnd) (rI0 λi j=> .int (V9 i j)):=opI0 λ_ _ _ _ _ _ _ q=>and_int q
theorem lE:OpR X (binaryOp .BitXor) (rI0 λi j=> .int (U5 i j)):=opI0 λ_ _ _ _ _ _ _ q=>xor_int q
end
noncomputable def scal:V->V->UD
 | .non,.non=>true | .non,.int _=>true | .int _,.non=>true | .non,.bl _=>true | .bl _,.non=>true | .non,.str _=>true | .str _,.non=>true
 | .int _,.int _=>true | .bl _,.bl _=>true | .str _,.str _=>true | .byt _,.byt _=>true
 | .int _,.str _=>true | .str _,.int _=>true | .bl _,.str _=>true | .str _,.bl _=>true
 | _,_=>false
noncomputable def rEq:R2:=λx y H Q=>scal x y=true/\Q (.bl (decide (x=y))) H
noncomputable def rNe:R2:=λx y H Q=>scal x y=true/\Q (.bl (!decide (x=y))) H
theorem JJ {i j:Int}:decide (V.int i=V.int j)=(i == j):=by
 rw[Vn];simp
theorem Nj {i j:UD}:decide (V.bl i=V.bl j)=(i == j):=by
 rw[Vn];simp
theorem JI {i j:T3}:decide (V.str i=V.str j)=(i == j):=by
 rw[Vn];simp
theorem JK {i j:aa6 UInt8}:decide (V.byt i=V.byt j)=(i.toList == j.toList):=by
 rw[Vn];cases i;cases j;simp
section
variable {X:Cx} {a b c:UF} {ta tb tc:TE} {pos:Pos}
theorem cL {k:UD} (I:Inv X pins σ H s) (q:Q (.bl k) H) (e:k=rc):EP X pins σ Q (.bool rc) s:=by
 subst e;exact⟨.bl k,H,I,rfl,q⟩
theorem nu:OpR X (compareOp .Eq) rEq:=by
 intro pins s σ H x y v u Q I L G h;obtain⟨hs,q⟩:=h;cases x with
 | non=>
   cases L;cases y with
   | non=>cases G;exact PySem.EqNone.eq_none_none (cL I q @E)
   | bl j=>cases G;exact PySem.EqNone.eq_none_bool (cL I q @E)
   | int j=>obtain⟨t',rfl⟩:=G;exact PySem.EqNone.eq_none_int (cL I q @E)
   | str j=>obtain⟨t',rfl⟩:=G;exact PySem.EqNone.eq_none_str (cL I q @E)
   | _=>exact hD (show false=true from hs) hB
 | bl i=>
   cases L;cases y with
   | non=>cases G;exact PySem.EqNone.eq_bool_none (cL I q @E)
   | bl j=>cases G;exact eq_bool (cL I q Nj)
   | str j=>obtain⟨t',rfl⟩:=G;exact PySem.EqMixed.eq_bool_str (cL I q @E)
   | _=>exact hD (show false=true from hs) hB
 | int i=>
   obtain⟨t,rfl⟩:=L;cases y with
   | non=>cases G;exact PySem.EqNone.eq_int_none (cL I q @E)
   | int j=>obtain⟨t',rfl⟩:=G;exact eq_int (cL I q JJ)
   | str j=>obtain⟨t',rfl⟩:=G;exact PySem.EqMixed.eq_int_str (cL I q @E)
   | _=>exact hD (show false=true from hs) hB
 | str i=>
   obtain⟨t,rfl⟩:=L;cases y with
   | non=>cases G;exact PySem.EqNone.eq_str_none (cL I q @E)
   | bl j=>cases G;exact PySem.EqMixed.eq_str_bool (cL I q @E)
   | int j=>obtain⟨t',rfl⟩:=G;exact PySem.EqMixed.eq_str_int (cL I q @E)
   | str j=>obtain⟨t',rfl⟩:=G;exact eq_str (cL I q JI)
   | _=>exact hD (show false=true from hs) hB
 | byt i=>
   obtain⟨t,rfl⟩:=L;cases y with
   | byt j=>obtain⟨t',rfl⟩:=G;exact PySem.W.eq_bytes (cL I q JK)
   | _=>exact hD (show false=true from hs) hB
 | _=>cases y<;>exact hD (show false=true from hs) hB
theorem ze:OpR X (compareOp .NotEq) rNe:=by
 intro pins s σ H x y v u Q I L G h;obtain⟨hs,q⟩:=h;cases x with
 | non=>
   cases L;cases y with
   | non=>cases G;exact PySem.EqNone.ne_none_none (cL I q @E)
   | bl j=>cases G;exact PySem.EqNone.ne_none_bool (cL I q @E)
   | int j=>obtain⟨t',rfl⟩:=G;exact PySem.EqNone.ne_none_int (cL I q @E)
   | str j=>obtain⟨t',rfl⟩:=G;exact PySem.EqNone.ne_none_str (cL I q @E)
   | _=>exact hD (show false=true from hs) hB
 | bl i=>
   cases L;cases y with
   | non=>cases G;exact PySem.EqNone.ne_bool_none (cL I q @E)
   | bl j=>cases G;exact ne_bool (cL I q (T4 not Nj))
   | str j=>obtain⟨t',rfl⟩:=G;exact PySem.EqMixed.ne_bool_str (cL I q @E)
   | _=>exact hD (show false=true from hs) hB
 | int i=>
   obtain⟨t,rfl⟩:=L;cases y with
   | non=>cases G;exact PySem.EqNone.ne_int_none (cL I q @E)
   | int j=>obtain⟨t',rfl⟩:=G;exact ne_int (cL I q (T4 not JJ))
   | str j=>obtain⟨t',rfl⟩:=G;exact PySem.EqMixed.ne_int_str (cL I q @E)
   | _=>exact hD (show false=true from hs) hB
 | str i=>
   obtain⟨t,rfl⟩:=L;cases y with
   | non=>cases G;exact PySem.EqNone.ne_str_none (cL I q @E)
   | bl j=>cases G;exact PySem.EqMixed.ne_str_bool (cL I q @E)
   | int j=>obtain⟨t',rfl⟩:=G;exact PySem.EqMixed.ne_str_int (cL I q @E)
   | str j=>obtain⟨t',rfl⟩:=G;exact ne_str (cL I q (T4 not JI))
   | _=>exact hD (show false=true from hs) hB
 | byt i=>
   obtain⟨t,rfl⟩:=L;cases y with
   | byt j=>obtain⟨t',rfl⟩:=G;exact PySem.W.ne_bytes (cL I q (T4 not JK))
   | _=>exact hD (show false=true from hs) hB
 | _=>cases y<;>exact hD (show false=true from hs) hB
theorem Ih:OpR X (compareOp .Lt) (rI0 λi j=> .bl (decide (i < j))):=opB0 λ_ _ _ _ _ _ _ q=>lt_int q
theorem S4:OpR X (compareOp .LtE) (rI0 λi j=> .bl (decide (i<=j))):=opB0 λ_ _ _ _ _ _ _ q=>le_int q
theorem sx:OpR X (compareOp .Gt) (rI0 λi j=> .bl (decide (j < i))):=opB0 λ_ _ _ _ _ _ _ q=>gt_int q
theorem Rb:OpR X (compareOp .GtE) (rI0 λi j=> .bl (decide (j<=i))):=opB0 λ_ _ _ _ _ _ _ q=>ge_int q
theorem AD:OpR X (compareOp .In) (λx y H Q=>∃i j,x= .str i/\y= .str j/\Q (.bl (!(WJ j i 0 j.length 1).isEmpty)) H):=by
 intro pins s σ H x y v u Q I L G h;obtain⟨i,j,rfl,rfl,q⟩:=h;obtain⟨t,rfl⟩:=L;obtain⟨t',rfl⟩:=G;exact in_str (cL I q rfl)
theorem OI:OpR X (compareOp .IsNot) (λx y H Q=>y= .non/\Q (.bl (!decide (x= .non))) H):=by
 intro pins s σ H x y v u Q I G L h;obtain⟨rfl,q⟩:=h;cases L;refine isnot_none_gen (cL I q ?_)
 cases x<;>first
  | (cases G;rfl)
  | (obtain⟨t,rfl⟩:=G;rfl)
theorem bh (b:UF) {τ:CmpOp} (h:τ≠.In:=by decide) (h2:τ≠.NotIn:=by decide):behindInMarks τ b=false:=by
 have L:(τ == CmpOp.In)=false:=by cases τ<;>first | rfl | exact hD rfl h
 have G:(τ == CmpOp.NotIn)=false:=by cases τ<;>first | rfl | exact hD rfl h2
 cases b<;>simp[behindInMarks,L,G]
theorem kX {τ:CmpOp} {r:R2} (ho:OpR X (compareOp τ) r) (ha:PE X a ta) (hb:PE X b tb) (hm:behindInMarks τ b=false):PE X (.Compare a [τ] [b] pos) (tOp r ta tb):=by
 intro pins s σ H Q I h;exact wpAny_Compare1 (binT ha hb I h λv u G x y H2 Z Y L q=>ho pins G σ H2 x y v u Q Z Y L q) hm
noncomputable abbrev SE (t:TE):TT:=fun σ H Q=>t σ H λx H'=>∃k,x= .bl k/\Q k H'
theorem aU {τ:CmpOp} {r:R2} (ho:OpR X (compareOp τ) r) (ha:PE X a ta) (hb:PE X b tb) (hm:behindInMarks τ b=false):PT X (.Compare a [τ] [b] pos) (SE (tOp r ta tb)):=by
 intro pins s σ H Q I h
 refine aa1 (thn (ha pins s σ H _ I h) λv L ⟨x,H1,ζ,Y,β⟩=>thn (hb pins L σ H1 _ ζ β) λu G ⟨y,H2,δ,Z,χ⟩=>
  thn (ho pins G σ H2 x y v u _ δ Y Z χ) λc θ ⟨z,η,γ,ε,k,e,α⟩=>?_) hm
 subst e;cases ε;exact Vt ⟨η,γ,α⟩
theorem Ed:(hR:Nat) < 2 ^ 63:=by rw[nr];decide
theorem lG:OpR X (binaryOp .Add) (λx y H Q=>∃i j,x= .str i/\y= .str j/\i.length + j.length<=hR/\Q (.str (i++j)) H):=by
 intro pins s σ H x y v u Q I L G h;obtain⟨i,j,rfl,rfl,hz,q⟩:=h;obtain⟨t,rfl⟩:=L;obtain⟨t',rfl⟩:=G;exact add_str (λt' tk=>⟨.str (i++j),H,I.tok _,⟨_,rfl⟩,q⟩) hz
theorem rZ {x:V} (r:Vals [x] us):∃u,us=[u]/\RelV x u:=by
 cases r with
 | cons Y G=>cases G;exact⟨_,rfl,Y⟩
theorem KD {x y:V} (r:Vals [x,y] us):∃u α,us=[u,α]/\RelV x u/\RelV y α:=by
 cases r with
 | cons Y G=>
   cases G with
   | cons ε Z=>cases Z;exact⟨_,_,rfl,Y,ε⟩
theorem JU:mR X (.type "int") (λxs H Q=>(∃i,xs=[.int i]/\Q (.int i) H)∨∃k,xs=[.bl k]/\Q (.int (if k then 1 else 0)) H):=by
 intro pins s σ H xs us Q I r h;rcases h with ⟨i,rfl,q⟩ | ⟨k,rfl,q⟩
 ·obtain⟨u,rfl,t,rfl⟩:=rZ r;exact call_int_int ⟨.int i,H,I,⟨_,rfl⟩,q⟩
 ·obtain⟨u,rfl,Y⟩:=rZ r;cases Y;exact call_int_bool ⟨.int (if k then 1 else 0),H,I.tok _,⟨_,rfl⟩,q⟩
theorem kI:mR X (.type "str") (λxs H Q=>∃i,xs=[.int i]/\i.natAbs.log2 < 1920/\Q (.str (toString i)) H):=by
 intro pins s σ H xs us Q I r h;obtain⟨i,rfl,hz,q⟩:=h;obtain⟨u,rfl,t,rfl⟩:=rZ r;exact PySem.P.str_of_int hz ⟨.str _,H,I.tok _,⟨_,rfl⟩,q⟩
def LenV (K:dt) (x:V) (H:Hp) (n:Nat):Prop:=
 match x with
 | .str y=>y.length<=hR/\n=y.length
 | .byt y=>y.size<=hR/\n=y.size
 | .ref p=>(∃xs,SqL K H p xs/\n=xs.length)∨∃xs,SqT K H p xs/\n=xs.length
 | _=>False
theorem Mh:mR X (.builtin "len") (λxs H Q=>∃x n,xs=[x]/\LenV X.K x H n/\Q (.int n) H):=by
 intro pins s σ H xs us Q I r h;obtain⟨x,n,rfl,e,q⟩:=h;obtain⟨u,rfl,Y⟩:=rZ r;have hl:=Ed;have hs:hR=16777216:=nr;cases x with
 | str y=>
   obtain⟨t,rfl⟩:=Y;obtain⟨α,L⟩:y.length<=hR/\n=y.length:=e;subst L;exact len_str @A ⟨.int _,H,I.tok _,⟨_,rfl⟩,q⟩
 | byt y=>
   obtain⟨t,rfl⟩:=Y;obtain⟨α,L⟩:y.size<=hR/\n=y.size:=e;subst L;exact PySem.W.len_bytes @A ⟨.int _,H,I.tok _,⟨_,rfl⟩,q⟩
 | ref p=>
   cases Y;have L:(∃xs,SqL X.K H p xs/\n=xs.length)∨∃xs,SqT X.K H p xs/\n=xs.length:=e;rcases L with ⟨xs,Z,L⟩ | ⟨xs,Z,L⟩
   ·subst L;obtain⟨its,r',pl,hz⟩:=I.list Z;have G:=r'.length;exact Calls.call_len_list pl.isList (by simp only[TJ];omega) ⟨.int xs.length,H,I.tok _,⟨_,by simp only[TJ];rw[G]⟩,q⟩
   ·subst L;obtain⟨its,r',pl,hz⟩:=I.tuple Z;have G:=r'.length;exact len_tuple pl (by simp only[TJ];omega) ⟨.int xs.length,H,I.tok _,⟨_,by simp only[TJ];rw[G]⟩,q⟩
 | _=>exact(show False from e).elim
theorem CW:mR X (.builtin "divmod") (λxs H Q=>∃i j,xs=[.int i,.int j]/\CDiv i j/\∀p,H p=f'->Q (.ref p) (upd H p (.tup [.int (i / j),.int (i % j)]))):=by
 intro pins s σ H xs us Q I r h;obtain⟨i,j,rfl,⟨h1,h2⟩,q⟩:=h;obtain⟨u,α,rfl,⟨t,rfl⟩,⟨t',rfl⟩⟩:=KD r;refine divmod_int @A ?_ (.inl (YI @A));rw[WX i @A,YK i @A];have hn:H s.heap.objs.size=none:=I.hok.fresh (sb _);refine⟨.ref s.heap.objs.size,_,?_,rfl,q _ hn⟩;refine I.laid (λb o e=>fy _ e) (sb _) ⟨by simp only[U4,Y3];rw[nr];decide,[.int (i / j) s.toks,.int (i % j) (s.toks + 1)],.cons ⟨_,rfl⟩ (.cons ⟨_,rfl⟩ .nil),?_⟩;exact⟨_,mu s.heap rfl,rfl,0,rfl⟩
end
structure ObjM (h:Ui) (x dx C:eH) (mA:F'):Prop where
 obj:h.get? x=a' (Vj C dx)
 ns:h.Ns1 dx mA
 ne:dx≠x
theorem IG {h:Ui} (n:h.Ns1 dx mA):∃od,h.get? dx=a' od/\∀name,Xm name od=a' (mA name):=by
 obtain⟨o,es,ep,ho,hd,hk,_,hm⟩:=n;refine⟨o,ho,λname=>?_⟩;have e:=hm name;unfold nsFind findBy at e;rw[<-Array.find?_toList] at e;unfold Xm;rw[hd];dsimp only;split
 ·rename_i y q;rw[q] at e;exact T4 a' e
 ·rename_i q;rw[q] at e
  have a:es.toList.any (·.refKey)=false:=by
   rw[List.any_eq_false];intro y L;obtain⟨z,t,G⟩:=hk y (Array.mem_toList_iff.mp L);simp[DictEntry.refKey,G]
  have α:¬es.toList.any (·.refKey)=true:=by rw[a];exact hB
  rw[qb α];exact T4 a' e
theorem ObjM.look {h:Ui} {x:eH} (I:ObjM h x dx C mA):∃od,PySem.W.InstAt h x (Vj C dx) C (a' od)/\∀name,Xm name od=a' (mA name):=
 let ⟨od,ho,hl⟩:=IG I.ns
 ⟨od,⟨I.obj,rfl,rfl,ho⟩,hl⟩
section
variable {prog:Tv} {w:U1} {A:TQ} {E:Cr} {s:px} {K:dt} {x dx C f:eH} {mA:F'} {name:T3} {v:sC}
theorem ay {Q:Cr} (X:K.In s.heap) (I:ObjM s.heap x dx C mA) (Z:X3 K C name=true) (Y:XT K C=true)
  (ha:TK K (.ref C) name=a' f') (L:mA name=a' v) (G:XY v=true) (h:Q v {s with toks:=s.toks + 1}):
  n' (xY prog w) A (getAttr (.ref x) name rc) Q E s:=by
 obtain⟨od,J,hl⟩:=I.look;exact PySem.W.get_value X J (Xt Z).1 (PySem.W.findObj_own Y ha rfl (by rw[hl,L])) G h
theorem LW {pl:Sem UD} {Q:sC×eE sC->px->Prop} (X:K.In s.heap) (I:ObjM s.heap x dx C mA) (G:X3 K C name=true)
  (hf:TK K (.ref C) name=a' (a' (.ref f))) (ht:XR K (.ref f)=true) (L:mA name=f') (h:Q (.ref f,[.ref x]) s):
  n' (xY prog w) A (getMethod (.ref x) name pl) Q E s:=by
 obtain⟨od,J,hl⟩:=I.look;exact PySem.W.method_fn X J (Xt G).1 (Xt G).2 hf (X6.mp ht) (by show(Xm name od).map (·.isSome)=a' false;rw[hl,L];rfl) h
theorem Oh {ns:B'} {Q:L'} (X:K.In s.heap) (I:ObjM s.heap x dx C mA)
  (hs:TK K (.ref C) "__setattr__"=a' (a' (.builtin "object.__setattr__"))) (ζ:Zk K C=true) (ht:Yc K C name=a' f') (Y:XT K C=true)
  (hw:YZ mA ns) (hsz:ns.length<=hR)
  (h:∀h',ObjM h' x dx C (λy=>if y=name then a' v else mA y)->WC dx s.heap h'->Q () {s with heap:=h',toks:=s.toks + 2}):
  n' (xY prog w) A (setAttr (.ref x) name v) Q E s:=by
 obtain⟨od,J,hl⟩:=I.look;refine PySem.W.set_plain X J hs (PySem.W.osa_open (s:={s with toks:=s.toks + 1}) (r:=f') X J ζ ht λb=>?_);obtain⟨υ,η,α⟩:=PySem.W.any_some Y;have ε:s.heap.get? x=a' ⟨.ref C,a' dx,.plain,#[]⟩:=I.obj;refine eS (sA (eS (eS (wpAny_loadPart ε (eS (PySem.W.Looks.here (s:={s with toks:=s.toks + 1}) (PySem.W.looks_clsIn X η) ?_))))));rw[α];refine sA (a:=a' dx) (eS (sA (eS ?_)));refine wpAny_nsSet1 (s:={s with toks:=s.toks + 1}) I.ns λh' φ G=>?_;obtain⟨θ,β,γ,L,Z,δ⟩:=φ.count (PySem.Within.cons name v hw);refine eS (wpAny_lookBehind L (by rw[Z];exact pastItsLine_dict (Vg δ (by rw[U4];omega))) ?_);exact sA (h _ ⟨(G.2 _ (Ts I.ne)).trans I.obj,φ,I.ne⟩ G)
theorem LH {R:R'} {vs:E'} {G:T1} (X:K.In s.heap) (hm:ZG K C=true)
  (hi:TK K (.ref C) "__init__"=a' (a' (.ref f))) (hf:ZR K (.ref f)=a' (.type "function"))
  (h:codeAny (xY prog w) (A.under (.builtin "type.__call__" ⟨.ref C::vs,G⟩)) (.call (.ref f) ⟨.ref (s.heap.objs.size + 1)::vs,G⟩) (PySem.W.InitBack (s.heap.objs.size + 1) R)
   {s with heap:=(s.heap.push V3).push (Vj C s.heap.objs.size)}):
  codeAny (xY prog w) A (.call (.ref C) ⟨vs,G⟩) R s:=by
 obtain⟨Y,g,d,t,os⟩:=s;exact PySem.W.make_core (PySem.W.makes_of X hm) (PySem.W.looks_findIn X hi) (λself=>PySem.W.bind_fn X self hf) (.inl rfl) h
end
noncomputable def putF (f:T3) (v:V):eE (T3×V)->eE (T3×V)
 | []=>[(f,v)]
 | (g,x)::r=>if g=f then (g,v)::r else (g,x)::putF f v r
theorem vV (f g:T3) (v:V):∀fs:eE (T3×V),(putF f v fs).lookup g=if g=f then a' v else fs.lookup g
 | []=>by
   show Wn g [(f,v)]=_;by_cases h:g=f
   ·have hb:(g == f)=true:=X6.mpr h;simp only[Wn,hb,wb h]
   ·have hb:(g == f)=false:=TL.mpr h;simp only[Wn,hb,qb h]
 | (k,x)::r=>by
   have ih:=vV f g v r;rw[show putF f v ((k,x)::r)=(if k=f then (k,v)::r else (k,x)::putF f v r) from rfl];by_cases hk:k=f
   ·rw[wb hk];by_cases h:g=k
    ·have hb:(g == k)=true:=X6.mpr h;simp only[Wn,hb,wb (h.trans hk)]
    ·have hb:(g == k)=false:=TL.mpr h;simp only[Wn,hb,qb (λe:g=f=>h (e.trans hk.symm))]
   ·rw[qb hk];by_cases h:g=k
    ·have hb:(g == k)=true:=X6.mpr h;simp only[Wn,hb,qb (λe:g=f=>hk (h.symm.trans e))]
    ·have hb:(g == k)=false:=TL.mpr h;simp only[Wn,hb];exact ih
theorem wo (f:T3) (v:V):∀fs:eE (T3×V),f∈(putF f v fs).map (·.1)/\∀g,g∈fs.map (·.1)->g∈(putF f v fs).map (·.1)
 | []=>⟨by simp[putF],λg h=>by simp at h⟩
 | (k,x)::r=>by
   obtain⟨i1,i2⟩:=wo f v r;rw[show putF f v ((k,x)::r)=(if k=f then (k,v)::r else (k,x)::putF f v r) from rfl];by_cases hk:k=f
   ·rw[wb hk];subst hk;exact⟨@E,λg h=>by simpa using h⟩
   ·rw[qb hk];refine⟨?_,λg h=>?_⟩
    ·rw[Uq];exact p' _ i1
    ·rw[Uq] at h ⊢;rcases Tn.mp h with e | e
     ·exact Tn.mpr (.inl e)
     ·exact p' _ (i2 g e)
theorem vY (f:T3) (v:V):∀fs:eE (T3×V),(putF f v fs).length<=fs.length + 1
 | []=>by simp[putF]
 | (k,x)::r=>by
   have ih:=vY f v r;rw[show putF f v ((k,x)::r)=(if k=f then (k,v)::r else (k,x)::putF f v r) from rfl];by_cases hk:k=f
   ·rw[wb hk,U4,U4];omega
   ·rw[qb hk,U4,U4];omega
theorem RelO.some_of {o:T2} (r:RelO (a' v) o):∃u,o=a' u/\RelV v u:=by
 cases o with
 | none=>exact(show False from r).elim
 | some u=>exact⟨u,rfl,r⟩
theorem RelO.none_of {o:T2} (r:RelO f' o):o=none:=by
 cases o with
 | none=>rfl
 | some u=>exact(show False from r).elim
theorem Jg (r:RelV v u):XY u=true:=by
 cases v with
 | non=>cases(show u=Uy from r);rfl
 | bl b=>cases(show u=Zv b from r);rfl
 | int i=>obtain⟨t,e⟩:=(show ∃t,u=YS i t from r);cases e;rfl
 | str x=>obtain⟨t,e⟩:=(show ∃t,u=Y8 x t from r);cases e;rfl
 | byt b=>obtain⟨t,e⟩:=(show ∃t,u=ad4 b t from r);cases e;rfl
 | flt b=>obtain⟨t,e⟩:=(show ∃t,u=ad3 b t from r);cases e;rfl
 | ref a=>cases(show u=T7 a from r);rfl
 | ty n=>cases(show u=WG n from r);rfl
section
variable {P:Tv} {w:U1} {H H':Hp} {h h':Ui} {a C dx:eH} {fs fs':eE (T3×V)}
theorem CG (hok:HOk P w H h) (e:H a=a' (.ins C dx fs)):∃mA,ObjM h a dx C mA/\(∀f,RelO (fs.lookup f) (mA f))/\YZ mA (fs.map (·.1))/\fs.length<=1000/\H dx=a' (.own a):=by
 obtain⟨d,z,ne,ob,mA,n,r,q⟩:=(show gX P w H h a (.ins C dx fs) from hok a _ e);exact⟨mA,⟨ob,n,ne⟩,r,q,z,d⟩
end
structure Cls (K:dt) (C:eH):Prop where
 pg:X3 K C WM=true
 hd:XT K C=true
 po:Zk K C=true
 sa:TK K (.ref C) "__setattr__"=a' (a' (.builtin "object.__setattr__"))
theorem Cls.get {K:dt} (c:Cls K C) (f:T3):X3 K C f=true:=c.pg
def cE (K:dt) (C:eH) (f:T3):Prop:=TK K (.ref C) f=a' f'
theorem cE.taker {K:dt} {f:T3} (n:cE K C f):Yc K C f=a' none:=by
 unfold Yc;rw[show TK K (.ref C) f=a' f' from n];rfl
structure Con (K:dt) (C:eH) (f:T3) (v:V) (u:sC):Prop where
 at_:TK K (.ref C) f=a' (a' u)
 rel:RelV v u
 get:VB K u "__get__"=a' f'
 cp:PySem.W.copiedNames.contains f=false
structure Meth (K:dt) (C:eH) (m:T3) (f:eH):Prop where
 at_:TK K (.ref C) m=a' (a' (.ref f))
 fn:XR K (.ref f)=true
 kp:UO K (.ref f)=true
section
variable {X:Cx} {pins:D'} {σ:St} {H:Hp} {s:px} {a C dx:eH} {fs:eE (T3×V)} {f:T3} {v:V} {A:TQ} {E:Cr}
theorem FO {b:UD} {Q:Cr} (I:Inv X pins σ H s) (e:H a=a' (.ins C dx fs)) (c:Cls X.K C) (n:cE X.K C f) (l:fs.lookup f=a' v)
  (h:∀u s',Inv X pins σ H s'->RelV v u->Q u s'):n' (xY X.prog X.w) A (getAttr (.ref a) f b) Q E s:=by
 obtain⟨mA,O,r,_,_,_⟩:=CG I.hok e;obtain⟨u,τ,G⟩:=RelO.some_of (v:=v) (o:=mA f) (by rw[<-l];exact r f);exact ay I.kIn O (c.get f) c.hd n τ (Jg G) (h u _ (I.tok _) G)
theorem tf {m:T3} {g:eH} {pl:Sem UD} {Q:sC×eE sC->px->Prop} (I:Inv X pins σ H s) (e:H a=a' (.ins C dx fs)) (c:Cls X.K C) (k:Meth X.K C m g) (l:fs.lookup m=f')
  (h:Q (.ref g,[.ref a]) s):n' (xY X.prog X.w) A (getMethod (.ref a) m pl) Q E s:=by
 obtain⟨mA,O,r,_,_,_⟩:=CG I.hok e;have hn:mA m=none:=RelO.none_of (by rw[<-l];exact r m);exact LW I.kIn O (c.get m) k.at_ k.fn hn h
theorem ER {y:V} {Q:L'} (I:Inv X pins σ H s) (e:H a=a' (.ins C dx fs)) (c:Cls X.K C) (n:cE X.K C f) (hl:fs.length < 1000) (L:RelV y u)
  (h:∀s',Inv X pins σ (upd H a (.ins C dx (putF f y fs))) s'->Q () s'):n' (xY X.prog X.w) A (setAttr (.ref a) f u) Q E s:=by
 obtain⟨mA,O,r,G,_,ho⟩:=CG I.hok e;have hz:(fs.map (·.1)).length<=sizeLine:=by rw[bx,nr];omega
 refine Oh I.kIn O c.sa c.po n.taker c.hd G hz λh' O' ξ=>h _ ?_;have hd:∃o,h'.get? dx=a' o:=let ⟨o,_,_,Z,_⟩:=O'.ns;⟨o,Z⟩
 refine I.write (x:=a) (e:=dx) (by rw[e];exact Xg) (.inr ho) (λb q hb z=>(ξ.2 b hb).trans z) hd ?_;refine⟨by rw[aF O.ne];exact ho,?_,O.ne,O'.obj,_,O'.ns,λg=>?_,λg Y=>?_⟩
 ·have:=vY f y fs;omega
 ·show RelO ((putF f y fs).lookup g) (if g=f then a' u else mA g);rw[vV];by_cases q:g=f
  ·rw[wb q,wb q];exact L
  ·rw[qb q,qb q];exact r g
 ·by_cases q:g=f
  ·rw[q];exact(wo f y fs).1
  ·refine(wo f y fs).2 g (G g λz=>Y ?_);show(if g=f then a' u else mA g)=f';rw[qb q];exact z
theorem Inv.made (I:Inv X pins σ H s):Inv X pins σ (upd (upd H s.heap.objs.size (.own (s.heap.objs.size + 1))) (s.heap.objs.size + 1) (.ins C s.heap.objs.size []))
  {s with heap:=(s.heap.push V3).push (Vj C s.heap.objs.size)}:=by
 have G:(s.heap.push V3).get? s.heap.objs.size=a' PySem.W.emptyDict:=mu s.heap rfl
 have Z:((s.heap.push V3).push (Vj C s.heap.objs.size)).get? (s.heap.objs.size + 1)=a' (Vj C s.heap.objs.size):=by
  have:=mu (s.heap.push V3) (o:=Vj C s.heap.objs.size) rfl;rwa [W9] at this
 have Y:(s.heap.push V3).Ns s.heap.objs.size (λ_=>f'):=⟨V3,#[],_,G,rfl,(λe he=>hD he @E),λ_=>rfl⟩;have I1:=I.laid (a:=s.heap.objs.size) (o:= .own (s.heap.objs.size + 1)) (h':=s.heap.push V3) (t':=s.toks) (λb u q=>fy _ q) (sb _) ⟨_,G⟩;refine I1.laid (a:=s.heap.objs.size + 1) (o:= .ins C s.heap.objs.size []) (t':=s.toks) (λb u q=>fy _ q) (YR (W9 _ _)) ?_;have ne:s.heap.objs.size≠s.heap.objs.size + 1:=TB (UU _);refine⟨by rw[aF ne,au],UY _,ne,Z,λ_=>f',(Heap.Ns1.of_empty Y).at λo q=>fy _ q,λ_=>Xg,λy L=>hD rfl L⟩
theorem Pf {w:U1} {f:T3} {s:px} {Q:Cr} (hb:attributeBase e f env (eval e env)=eval e env)
  (h:n' (xY prog w) A (eval e env) (λo G=>n' (xY prog w) A (getAttr o f true) Q E G) E s):n' (xY prog w) A (eval (.Attribute e f pos) env) Q E s:=
 Attribute_any_ h (by rw[arm_eval_Attribute,hb])
end
noncomputable def tFld (K:dt) (ta:TE) (f:T3):TE:=fun σ H Q=>ta σ H λx H1=>∃a C dx fs v,x= .ref a/\H1 a=a' (.ins C dx fs)/\Cls K C/\cE K C f/\fs.lookup f=a' v/\Q v H1
noncomputable def sFld (K:dt) (ta tv:TE) (f:T3):TS:=λD σ H=>tv σ H λy H1=>ta σ H1 λx H2=>∃a C dx fs,x= .ref a/\H2 a=a' (.ins C dx fs)/\Cls K C/\cE K C f/\fs.length < 1000/\
 D.nx σ (upd H2 a (.ins C dx (putF f y fs)))
section
variable {X:Cx} {o e value:UF} {f:T3} {pos pos' tpos:Pos} {ta tv:TE}
theorem Q5 (he:PE X e ta) (hb:attributeBase e f X.env (eval e X.env)=eval e X.env):PE X (.Attribute e f pos) (tFld X.K ta f):=by
 intro pins s σ H Q I h;refine Pf hb (thn (he pins s σ H _ I h) λu β ⟨x,H1,Z,G,a,C,dx,fs,v,ex,ea,c,n,l,q⟩=>?_);subst ex;obtain rfl:u=T7 a:=G;exact FO Z ea c n l fun ξ α Y L=>⟨v,H1,Y,L,q⟩
theorem QX (ha:PE X o ta) (α:PE X value tv) (hs:swapsWith value (a' (.Attribute o f pos')) pos.line X.env=pure false):PS X (.Assign [.Attribute o f pos'] value pos) (sFld X.K ta tv f):=by
 intro pins s σ H D I h;refine plainObj_wpAny_Assign_Attribute (thn (α pins s σ H _ I h) λu G ⟨y,H1,δ,L,q⟩=>thn (ha pins G σ H1 _ δ q) λZ ζ ⟨x,H2,γ,Y,a,C,dx,fs,ex,ea,c,n,l,χ⟩=>?_) hs;subst ex;obtain rfl:Z=T7 a:=Y;exact ER γ ea c n l L fun ε β=>⟨σ,_,β,χ⟩
end
section
variable {X:Cx} {pins:D'} {σ:St} {H:Hp} {s:px} {A:TQ} {E:Cr} {Q:Cr} {c:sC} {b:UD}
inductive TyOf (K:dt) (H:Hp):V->sC->Prop where
 | non:TyOf K H .non (.type "NoneType")
 | bl (x:UD):TyOf K H (.bl x) (.type "bool")
 | int (i:Int):TyOf K H (.int i) (.type "int")
 | str (x:T3):TyOf K H (.str x) (.type "str")
 | flt (x:UInt64):TyOf K H (.flt x) (.type "float")
 | lst {a:eH} {xs:eE V} (e:H a=a' (.lst xs)):TyOf K H (.ref a) (.type "list")
 | frz {a:eH} {o:ZC} {xs:eE V} (e:H a=a' (.frz o (.lst xs))):TyOf K H (.ref a) (.type "list")
 | tup {a:eH} {xs:eE V} (e:H a=a' (.tup xs)):TyOf K H (.ref a) (.type "tuple")
 | dK {a:eH} {kvs:eE (Key×V)} (e:H a=a' (.dK kvs)):TyOf K H (.ref a) (.type "dict")
 | dT {a:eH} {kvs:eE (eE Key×V)} (e:H a=a' (.dT kvs)):TyOf K H (.ref a) (.type "dict")
 | ins {a C dx:eH} {fs:eE (T3×V)} (e:H a=a' (.ins C dx fs)) (cl:Cls K C) (ha:TK K (.ref C) "__class__"=a' (a' (.builtin "object.__class__")))
   (hn:VB K (.builtin "object.__class__") "__get__"=a' (a' (.builtin "getset_descriptor.__get__"))) (htk:Yb K (.builtin "object.__class__")=a' true)
   (hm:Vm K C (.type "object")=a' true):TyOf K H (.ref a) (.ref C)
end
structure Room (k:Nat) (A:TQ):Prop where
 hd:A.handled=f'
 dp:A.depth + 3 * k + 5 < recursionLimit
 un:A.units + 16 * k + 200 < cLine
theorem Room.mono {k:Nat} {A:TQ} (r:Room k A) (h:j<=k):Room j A:=⟨r.hd,by have:=r.dp;omega,by have:=r.un;omega⟩
theorem Room.deeper {k:Nat} {A:TQ} (r:Room (k + 1) A) (env:Env):Room k (A.deeper env):=
 ⟨r.hd,by have:=r.dp;show A.depth + 1 + 3 * k + 5 < _;omega,by have:=r.un;show A.units + 3 + 16 * k + 200 < _;omega⟩
theorem Ft {A:TQ} {G:T1}:(A.under (.builtin "type.__call__" ⟨.ref C::us,G⟩)).depth=A.depth + 1:=by
 first | rfl | simp[YT,Code.weight,Code.isCreation,Code.isGuard,Code.isCaller,Code.frames,Z5,guardIds]
theorem Fs {A:TQ} {G:T1}:(A.under (.builtin "type.__call__" ⟨.ref C::us,G⟩)).units=A.units + 1:=by
 first | rfl | simp[YT,Code.cUnits,Code.frames,Z5]
theorem Room.make {k:Nat} {A:TQ} (r:Room (k + 1) A) (C:eH) (us:E') (G:T1):Room k (A.under (.builtin "type.__call__" ⟨.ref C::us,G⟩)):=
 ⟨r.hd,by have:=r.dp;rw[Ft];omega,by have:=r.un;rw[Fs];omega⟩
theorem Room.depth {k:Nat} {A:TQ} (r:Room k A):A.depth < recursionLimit:=by have:=r.dp;omega
theorem Room.units {k:Nat} {A:TQ} (r:Room k A):A.units + 64 < cLine:=by have:=r.un;omega
noncomputable abbrev tNil:TA:=λ_ H Q=>Q [] H
noncomputable abbrev SI (ta:TE) (tr:TA):TA:=fun σ H Q=>ta σ H λx H1=>tr σ H1 λxs H2=>Q (x::xs) H2
section
variable {X:Cx} {e:UF} {es:eE UF} {te:TE} {t:TA} {pos:Pos}
theorem ae:PA X [] tNil:=λ_ _ _ _ H Q I h=>X1 ⟨[],H,I,.nil,h⟩
theorem aa (ha:PE X e te) (α:PA X es t) (hs:tu (e::es) X.env=(false,eval e X.env)::tu es X.env:=by rfl):PA X (e::es) (SI te t):=by
 intro pos pins s σ H Q I h;rw[hs];show n' _ _ (spliced ((false,eval e X.env)::backTo pos (tu es X.env))) _ _ s;refine WI (thn (ha pins s σ H _ I h) λu G ⟨x,H1,γ,Y,Z⟩=>?_);exact thn (α pos pins G σ H1 _ γ Z) λus δ ⟨xs,H2,β,L,χ⟩=>⟨x::xs,H2,β,.cons Y L,χ⟩
noncomputable def tTup (t:TA):TE:=fun σ H Q=>t σ H λxs H1=>xs.length<=hR/\∀p,H1 p=f'->Q (.ref p) (upd H1 p (.tup xs))
noncomputable def tLst (t:TA):TE:=fun σ H Q=>t σ H λxs H1=>xs.length<=hR/\∀p,H1 p=f'->Q (.ref p) (upd H1 p (.lst xs))
theorem dF {x1} (h:PA X es t):PE X (.Tuple es x1 pos) (tTup t):=by
 intro pins s σ H Q I L;refine wpAny_Tuple_spliced (thn (h pos pins s σ H _ I L) λus G ⟨xs,H1,I1,r,z,q⟩=>⟨by rw[<-r.length];exact z,?_⟩);have hf:H1 G.heap.objs.size=none:=I1.hok.fresh (sb _);refine⟨.ref G.heap.objs.size,upd H1 G.heap.objs.size (.tup xs),I1.laid (t':=G.toks) (λb u e=>fy _ e) (sb _) ?_,rfl,q _ hf⟩;exact⟨z,us,r,⟨_,mu _ rfl,rfl,_,rfl⟩⟩
theorem c6 (h:PA X es t):PE X (.List es pos) (tLst t):=by
 intro pins s σ H Q I L;refine wpAny_List_spliced (thn (h pos pins s σ H _ I L) λus G ⟨xs,H1,I1,r,z,q⟩=>⟨by rw[<-r.length];exact z,?_⟩);have hf:H1 G.heap.objs.size=none:=I1.hok.fresh (sb _);refine⟨.ref G.heap.objs.size,upd H1 G.heap.objs.size (.lst xs),I1.laid (t':=G.toks) (λb u e=>fy _ e) (sb _) ?_,rfl,q _ hf⟩;exact⟨z,us,0,r,mu _ rfl⟩
end
noncomputable abbrev Sp:=eE V->Hp->VK->XK->Prop
variable {sp:Sp}
noncomputable abbrev CXT:=eE Env->Hp->px->XK->Cr
variable {CX:CXT}
structure Env0 (P:Tv) (w:U1) (K:dt) (mg:F') (base:Ui) (A:TQ) (outer:eE Env) (s:px) (H:Hp):Prop where
 frames:A.frames=a' outer
 mod:Mod K mg base
 bs:∀b o,base.get? b=a' o->s.heap.get? b=a' o/\H b=f'
 bsz:base.objs.size<=s.heap.objs.size
 funs:s.heap.FunFrames base outer
 frf:∀b∈frs outer,H b=f'
 hok:HOk P w H s.heap
 bare:AllBare s.gens
def CE (outer:eE Env) (P:Tv) (w:U1) (H:Hp) (s:px) (Q:VK) (u:sC) (s':px):Prop:=
 ∃v H',s'.os=s.os/\AllBare s'.gens/\Un (frs outer) [] H H' s.heap s'.heap/\HOk P w H' s'.heap/\RelV v u/\Q v H'
def CR (CX:CXT) (outer:eE Env) (P:Tv) (w:U1) (H:Hp) (s:px) (Q:VK) (E:XK) (r:Result) (s':px):Prop:=
 match r with
 | .ok (.ret u)=>CE outer P w H s Q u s'
 | .ok _=>False
 | .error e=>CX outer H s E e s'
structure FnOk (P:Tv) (w:U1) (K:dt) (mg:F') (base:Ui) (CX:CXT) (k:Nat) (f:eH) (fd:hN) (ps:B') (sp:Sp):Prop where
 len:∀vs H Q E,sp vs H Q E->vs.length=ps.length
 run:∀(A:TQ) (outer:eE Env) (s:px) (H:Hp) (args:Args) (us:E') (vs:eE V) (Q:VK) (E:XK),Room k A->Env0 P w K mg base A outer s H->BindsTo s fd args (ps.zip us)->Vals vs us->sp vs H Q E->
  codeAny (xY P w) A (.call (.ref f) args) (CR CX outer P w H s Q E) s
theorem Env0.make {P:Tv} {w:U1} {K:dt} {A:TQ} (e:Env0 P w K mg fL A outer s H) (C:eH) (us:E') (G:T1):
  Env0 P w K mg fL (A.under (.builtin "type.__call__" ⟨.ref C::us,G⟩)) outer s H:=⟨by first | exact e.frames | (simpa[YT,Code.envs,Z5,pushEnvs] using e.frames),e.mod,e.bs,e.bsz,e.funs,e.frf,e.hok,e.bare⟩
section
variable {X:Cx} {pins:D'} {σ:St} {H:Hp} {s s':px}
theorem Inv.env0 (I:Inv X pins σ H s):Env0 X.prog X.w X.K X.mg X.base X.A X.stack s H:=
 ⟨I.ok.frames,I.ok.mod,I.bs,Vg I.ok.bsz I.sz,I.stack,I.stkFree,I.hok,I.bare⟩
theorem Inv.after (I:Inv X pins σ H s) (h:CE X.stack X.prog X.w H s Q u s'):EP X pins σ Q u s':=by
 obtain⟨v,H',os,bare,un,hok,r,q⟩:=h;obtain⟨Y,g,d,t,G⟩:=s';obtain rfl:G=s.os:=os;exact⟨v,H',I.call (h':=Y) (g':=g) (d':=d) (t':=t) (ch:=[]) un hok bare (λb z=>hD z @E),r,q⟩
end
noncomputable def GW (sp:Sp) (dvs:eE V) (E:XK) (t:TA):TE:=fun σ H Q=>t σ H λvs H1=>sp (vs++dvs) H1 Q E
noncomputable def NR (C:eH) (m:T3) (sp:Sp) (dvs:eE V) (E:XK) (ta:TE) (t:TA):TE:=fun σ H Q=>ta σ H λx H1=>∃a dx fs,x= .ref a/\H1 a=a' (.ins C dx fs)/\fs.lookup m=f'/\
 t σ H1 λvs H2=>sp (x::(vs++dvs)) H2 Q E
noncomputable def PY (C:eH) (sp:Sp) (dvs:eE V) (E:XK) (t:TA):TE:=fun σ H Q=>t σ H λvs H1=>∀x dx,H1 x=f'->H1 dx=f'->dx≠x->
 sp (.ref x::(vs++dvs)) (upd (upd H1 dx (.own x)) x (.ins C dx [])) (λv H2=>v= .non/\Q (.ref x) H2) E
def qH (K:dt) (fd:hN) (ps:B') (ds:E'):Prop:=
 ∀(s:px) (us:E'),K.In s.heap->(us++ds).length=ps.length->BindsTo s fd ⟨us,[]⟩ (ps.zip (us++ds))
theorem qH.all {K:dt} {ps:B'} (h:∀us:E',us.length=ps.length->bindArgs fd ⟨us,[]⟩=pure (ps.zip us)):qH K fd ps []:=λs us _ hl=>by
 rw[UZ] at hl ⊢;exact .of_eq (h us hl)
def rS (CX:CXT) (X:Cx) (E:XK):Prop:=∀(pins:D') (σ:St) (H:Hp) (s:px) (e:sC) (s':px),Inv X pins σ H s->CX X.stack H s E e s'->X.xe e s'
section
variable {X:Cx} {CX:CXT} {k:Nat} {f C:eH} {fd:hN} {ps:B'} {sp:Sp} {dvs:eE V} {ds:E'} {E:XK} {x m:T3} {p pos apos:Pos} {e o:UF} {es:eE UF} {ta:TE} {t:TA}
theorem DI (F:FnOk X.prog X.w X.K X.mg X.base CX k f fd ps sp) (Z:Room k X.A) (hb:qH X.K fd ps ds) (hd:Vals dvs ds) (hx:rS CX X E)
  (I:Inv X pins σ H s) (r:Vals vs us) (h:sp (vs++dvs) H Q E):n' (xY X.prog X.w) X.A (call (.ref f) us) (EP X pins σ Q) X.xe s:=by
 have Y:Vals (vs++dvs) (us++ds):=r.append hd;have hl:(us++ds).length=ps.length:=by rw[<-Y.length];exact F.len _ _ _ _ h
 refine ac3 (Xx (F.run X.A X.stack s H ⟨us,[]⟩ (us++ds) (vs++dvs) Q E Z I.env0 (hb s us I.kIn hl) Y h) λr s' L=>?_);cases r with
 | error e=>exact hx pins σ H s e s' I L
 | ok G=>
   cases G with
   | ret u=>exact I.after L
   | next=>exact Uk L
   | brk=>exact Uk L
   | cont=>exact Uk L
theorem OE (F:FnOk X.prog X.w X.K X.mg X.base CX k f fd ps sp) (L:Room k X.A) (Y:Gl X x) (hm:X.mg x=a' (.ref f)) (hk:UO X.K (.ref f)=true) (hb:qH X.K fd ps ds) (hd:Vals dvs ds) (hx:rS CX X E)
  (ha:PA X (e::es) t) (G:(x == ("__debug__":T3))=false:=by decide) (he:tu (e::es) X.env=(false,eval e X.env)::tu es X.env:=by rfl) (ψ:(backTo pos (tu es X.env)).any (·.1)=false:=by rfl):
  PE X (.Call (.Name x p) (e::es) [] pos) (GW sp dvs E t):=by
 intro pins s σ H Q I h;refine Xa (vZ I Y hm ?_ G);refine W3 (h₀:=X.base) I.ok.mod.kin hk (thn (ha pos pins s σ H _ I h) λus Z ⟨vs,H1,I1,r,q⟩=>⟨I1.kIn,?_⟩) he ψ;exact DI F L hb hd hx I1 r q
theorem eW {pl:Sem UD} (he:PE X o ta) (c:Cls X.K C) (hm:Meth X.K C m f) (F:FnOk X.prog X.w X.K X.mg X.base CX k f fd ps sp) (α:Room k X.A) (hb:qH X.K fd ps ds) (hd:Vals dvs ds) (hx:rS CX X E) (ha:PA X (e::es) t)
  (η:tu (e::es) X.env=(false,eval e X.env)::tu es X.env:=by rfl) (ψ:(backTo pos (tu es X.env)).any (·.1)=false:=by rfl)
  (ht:eval (.Call (.Attribute o m apos) (e::es) [] pos) X.env=(do
   let G <-eval o X.env
   standAt apos.atName
   let (f,first) <-holding [G] (getMethod G m pl)
   callWith pos f first (backTo pos (tu (e::es) X.env)) (backToKw pos (keywordEach [] X.env))):=by rfl):
  PE X (.Call (.Attribute o m apos) (e::es) [] pos) (NR C m sp dvs E ta t):=by
 intro pins s σ H Q I h;refine Wb (pl:=pl) (thn (he pins s σ H _ I h) λu Y ⟨x,H1,L,Z,a,dx,fs,ex,ea,l,q⟩=>?_) ht;subst ex;obtain rfl:u=T7 a:=Z;refine tf L ea c hm l ?_;refine W3 (first:=[.ref a]) (h₀:=X.base) I.ok.mod.kin hm.kp (thn (ha pos pins Y σ H1 _ L q) λus β ⟨vs,H2,I2,r,χ⟩=>⟨I2.kIn,?_⟩) η ψ;exact DI (us:= .ref a::us) (vs:= .ref a::vs) F α hb hd hx I2 (.cons rfl r) χ
theorem bp {pl:Sem UD} (he:PE X o ta) (c:Cls X.K C) (hm:Meth X.K C m f) (F:FnOk X.prog X.w X.K X.mg X.base CX k f fd ps sp) (Y:Room k X.A) (hb:qH X.K fd ps ds) (hd:Vals dvs ds) (hx:rS CX X E)
  (ht:eval (.Call (.Attribute o m apos) [] [] pos) X.env=(do
   let G <-eval o X.env
   standAt apos.atName
   let (f,first) <-holding [G] (getMethod G m pl)
   callWith pos f first (backTo pos (tu [] X.env)) (backToKw pos (keywordEach [] X.env))):=by rfl):
  PE X (.Call (.Attribute o m apos) [] [] pos) (NR C m sp dvs E ta tNil):=by
 intro pins s σ H Q I h;refine Wb (pl:=pl) (thn (he pins s σ H _ I h) λu Z ⟨x,H1,I1,L,a,dx,fs,ex,ea,l,q⟩=>?_) ht;subst ex;obtain rfl:u=T7 a:=L;refine tf I1 ea c hm l ?_;exact PySem.W.callWith_K0 (first:=[.ref a]) I1.kIn hm.kp (DI (us:=[.ref a]) (vs:=[.ref a]) F Y hb hd hx I1 (.cons rfl .nil) q)
structure Mk (K:dt) (C f:eH):Prop where
 makes:ZG K C=true
 init:TK K (.ref C) "__init__"=a' (a' (.ref f))
 fn:XR K (.ref f)=true
 kp:UO K (.ref C)=true
theorem Lm (M:Mk X.K C f) (F:FnOk X.prog X.w X.K X.mg X.base CX k f fd ps sp) (δ:Room (k + 1) X.A) (hb:qH X.K fd ps ds) (hd:Vals dvs ds)
  (γ:rS CX X E) (I:Inv X pins σ H s) (r:Vals vs us)
  (h:∀x dx,H x=f'->H dx=f'->dx≠x->sp (.ref x::(vs++dvs)) (upd (upd H dx (.own x)) x (.ins C dx [])) (λv H2=>v= .non/\Q (.ref x) H2) E):
  n' (xY X.prog X.w) X.A (call (.ref C) us) (EP X pins σ Q) X.xe s:=by
 have Z:=h (s.heap.objs.size + 1) s.heap.objs.size (I.hok.fresh (XQ _)) (I.hok.fresh (sb _)) (TB (UU _));have I2:=Inv.made (C:=C) I;have Y:Vals (V.ref (s.heap.objs.size + 1)::(vs++dvs)) (T7 (s.heap.objs.size + 1)::(us++ds)):= .cons rfl (r.append hd)
 have hl:(T7 (s.heap.objs.size + 1)::us++ds).length=ps.length:=by
  have e:=Y.length;rw[F.len _ _ _ _ Z] at e;exact e.symm
 refine ac3 (LH (f:=f) I.kIn M.makes M.init (X6.mp M.fn) (Xx (F.run _ X.stack _ _ ⟨T7 (s.heap.objs.size + 1)::us,[]⟩ (T7 (s.heap.objs.size + 1)::(us++ds)) _ _ E (δ.make C us [])
  (I2.env0.make C us []) (hb _ (T7 (s.heap.objs.size + 1)::us) I2.kIn hl) Y Z) λr s' L=>?_))
 cases r with
 | error e=>exact γ pins σ _ _ e s' I2 L
 | ok G=>
   cases G with
   | ret u=>
     obtain⟨v,H',ε,α,ev,β⟩:=I2.after L;subst ev;exact⟨α,⟨V.ref (s.heap.objs.size + 1),H',ε,rfl,β⟩⟩
   | next=>exact Uk L
   | brk=>exact Uk L
   | cont=>exact Uk L
theorem jR (M:Mk X.K C f) (F:FnOk X.prog X.w X.K X.mg X.base CX k f fd ps sp) (L:Room (k + 1) X.A) (Y:Gl X x) (hm:X.mg x=a' (.ref C)) (hb:qH X.K fd ps ds) (hd:Vals dvs ds) (hx:rS CX X E)
  (ha:PA X (e::es) t) (G:(x == ("__debug__":T3))=false:=by decide) (he:tu (e::es) X.env=(false,eval e X.env)::tu es X.env:=by rfl) (ψ:(backTo pos (tu es X.env)).any (·.1)=false:=by rfl):
  PE X (.Call (.Name x p) (e::es) [] pos) (PY C sp dvs E t):=by
 intro pins s σ H Q I h;refine Xa (vZ I Y hm ?_ G);refine W3 (h₀:=X.base) I.ok.mod.kin M.kp (thn (ha pos pins s σ H _ I h) λus Z ⟨vs,H1,I1,r,q⟩=>⟨I1.kIn,?_⟩) he ψ;exact Lm M F L hb hd hx I1 r q
end
section
variable {X:Cx} {CX:CXT} {k:Nat} {f C:eH} {fd:hN} {ps ks:B'} {sp:Sp} {E:XK} {x m:T3} {p pos apos kpos:Pos} {e o:UF} {es:eE UF} {kws:eE Keyword} {te ta:TE} {t tk:TA} {nm:T8 T3}
structure Tp (K:dt) (fd:hN) (ps ks:B') (g:E'->E'->E') (gV:eE V->eE V->eE V):Prop where
 to:∀(s:px) (us ws:E'),K.In s.heap->(g us ws).length=ps.length->BindsTo s fd ⟨us,ks.zip ws⟩ (ps.zip (g us ws))
 rel:∀{vs:eE V} {us:E'} {zs:eE V} {ws:E'},Vals vs us->Vals zs ws->Vals (gV vs zs) (g us ws)
variable {g:E'->E'->E'} {gV:eE V->eE V->eE V}
end
structure av (N P:B') (sc:Xz):Prop where
 kind:sc.kind= .function
 co:sc.isCoroutine=false
 gen:sc.isGenerator=false
 nd:N.Nodup
 pre:N.take P.length=P
 par:∀x∈P,sc.names.lookup x=a' .local∨sc.names.lookup x=a' .cell
 nofree:∀y∈sc.names,y.2≠.free
theorem Bv {kindOf:T3->T8 NameKind} {x:T3}:∀{binds:T1} {m:F'},(∀v,(x,v)∉binds)->bindL kindOf binds m x=m x
 | [],_,_=>rfl
 | (n,v)::r,m,h=>by
   unfold bindL;rw[Bv λw hw=>h w (p' _ hw)];split
   ·have:x≠n:=by rintro rfl;exact h v u'
    simp[this]
   ·rfl
theorem Bx {kindOf:T3->T8 NameKind} {x:T3}:∀{binds:T1} {m:F'},(∀v,(x,v)∉binds)->bindC kindOf binds m x=m x
 | [],_,_=>rfl
 | (n,v)::r,m,h=>by
   unfold bindC;rw[Bx λw hw=>h w (p' _ hw)];split
   ·rfl
   ·have:x≠n:=by rintro rfl;exact h v u'
    simp[this]
theorem Bw {kindOf:T3->T8 NameKind} {x:T3} {v:sC}:∀{P:B'} {vs:E'} {i:Nat} {m:F'},P.Nodup->P[i]? =a' x->vs[i]? =a' v->kindOf x=a' .local->
  bindL kindOf (P.zip vs) m x=a' v
 | [],_,_,_,_,h,_,_=>by simp at h
 | _::_,[],_,_,_,_,h,_=>by simp at h
 | p::P,w::vs,0,m,nd,h1,h2,hk=>by
   simp at h1 h2;subst h1;subst h2;show bindL kindOf ((p,w)::P.zip vs) m p=_;unfold bindL;rw[Bv λv G=>(X0.mp nd).1 (Xo G).1,wb hk];simp
 | p::P,w::vs,i + 1,m,nd,h1,h2,hk=>by
   show bindL kindOf ((p,w)::P.zip vs) m x=_;unfold bindL;exact Bw (i:=i) (X0.mp nd).2 (by simpa using h1) (by simpa using h2) hk
theorem By {kindOf:T3->T8 NameKind} {x:T3} {v:sC}:∀{P:B'} {vs:E'} {i:Nat} {m:F'},P.Nodup->P[i]? =a' x->vs[i]? =a' v->kindOf x≠a' .local->
  bindC kindOf (P.zip vs) m x=a' v
 | [],_,_,_,_,h,_,_=>by simp at h
 | _::_,[],_,_,_,_,h,_=>by simp at h
 | p::P,w::vs,0,m,nd,h1,h2,hk=>by
   simp at h1 h2;subst h1;subst h2;show bindC kindOf ((p,w)::P.zip vs) m p=_;unfold bindC;rw[Bx λv G=>(X0.mp nd).1 (Xo G).1,qb hk];simp
 | p::P,w::vs,i + 1,m,nd,h1,h2,hk=>by
   show bindC kindOf ((p,w)::P.zip vs) m x=_;unfold bindC;exact By (i:=i) (X0.mp nd).2 (by simpa using h1) (by simpa using h2) hk
noncomputable def start (N:B') (vs:eE V):St:=vs.map a'++lj (N.length - vs.length) f'
noncomputable def cxOf (CX:CXT) (P:Tv) (w:U1) (K:dt) (mg:F') (base:Ui) (N:B') (G:T3) (scope:Xz) (f:eH) (υ:sC) (A:TQ) (outer:eE Env) (s:px) (H:Hp) (E:XK):Cx where
 prog:=P
 w:=w
 K:=K
 mg:=mg
 base:=base
 A:=A.deeper (envOfC G scope s.heap.objs.size f υ)
 N:=N
 s₀:=s
 H₀:=H
 env:=envOfC G scope s.heap.objs.size f υ
 outer:=outer
 stack:=envOfC G scope s.heap.objs.size f υ::outer
 ex:=[]
 calm:=true
 fn:=λ_=>true
 pn:=[]
 xe:=λe s'=>n' (xY P w) (A.deeper (envOfC G scope s.heap.objs.size f υ)) (leaving (envOfC G scope s.heap.objs.size f υ) e) (λ_ ζ=>CX outer H s E e ζ) (λL ζ=>CX outer H s E L ζ) s'
theorem Eo {n:Nat} {x:T3} (h:ε.names.lookup x=a' .cell):∃c,(cellsFrom n ε.names []).lookup x=a' c:=by
 have q:=YH ε.names n [] (.inl h);exact Option.isSome_iff_exists.mp q
theorem Jd {P:Tv} {w:U1} {K:dt} {ps:B'} {f:eH} {A:TQ}
  (S:av N ps scope) (hd:A.handled=f') (L:Env0 P w K mg fL A outer s H) (hl:vs.length=ps.length) (r:Vals vs us)
  (x:InCallC s s.heap.objs.size (bindL (envOfC hG scope s.heap.objs.size f ct).kindOf (ps.zip us) λ_=>f') (cellsFrom (s.heap.objs.size + 1) scope.names []) (bindC (envOfC hG scope s.heap.objs.size f ct).kindOf (ps.zip us) λ_=>f') kf):
  Inv (cxOf CX P w K mg fL N hG scope f ct A outer s H E) [] (start N vs) H kf:=by
 have ψ:ps.length<=N.length:=by have:=T4 TX S.pre;rw[wh] at this;omega
 obtain⟨h1,tk,rfl,hk⟩:=x.done;have Y:∀b:eH,b∉(cxOf CX P w K mg fL N hG scope f ct A outer s H E).ex:=λb z=>hD (show b∈([]:M') from z) @E
 refine⟨⟨L.mod,S.kind,rfl,rfl,sb _,λy z c h1 h2=>?_,λy hy=>?_,λy c _ h=>?_,λ_=>hd,Around.frames_deeper L.frames,.inr ⟨rfl,rfl⟩,λb z=>hD z (Y b),L.bs,L.bsz,λb _ _=>Y b,λb z=>hD z (Y b),L.funs,L.frf⟩,
  rfl,L.bare,Un.kept hk,⟨_,x.toInCall.ns,λi y v h1 h2 γ=>?_⟩,λy c h=>⟨_,x.cell y c h⟩,L.hok.fresh (sb _),λy c h=>?_,λp Z=>hD (show p∈([]:D') from Z) @E,L.hok.kept hk,?_⟩
 ·exact name_of_addr x.apart (Uz h1) (Uz h2)
 ·have hy:scope.names.lookup y=a' .cell∨scope.names.lookup y=a' .free:=hy;rcases hy with hy | hy
  ·exact Eo hy
  ·exact hD rfl (S.nofree _ (Uz hy))
 ·exact Vh (x.above y c (Uz h))
 ·have hi:i < vs.length:=by
   unfold start at h2;by_cases hi:i < vs.length
   ·exact hi
   ·rw[lT (by simpa using hi)] at h2;rw[Z0] at h2;split at h2<;>cases h2
  have ha:vs[i]? =a' v:=by
   unfold start at h2;rw[kv (by simpa using hi),gA] at h2;cases e:vs[i]? with
   | none=>rw[e] at h2;cases h2
   | some a=>rw[e] at h2;cases h2;rfl
  obtain⟨u,τ,β⟩:=r.get ha
  have Z:ps[i]? =a' y:=by
   rw[<-S.pre,UW @A];exact h1
  have ο:ps.Nodup:=by rw[<-S.pre];exact S.nd.sublist (List.take_sublist _ _)
  refine⟨u,β,?_⟩;rcases S.par y (ee Z) with k | k
  ·exact .inl ⟨k,Bw ο Z τ k⟩
  ·obtain⟨c,e⟩:=Eo (n:=s.heap.objs.size + 1) k;refine .inr ⟨.inl k,c,e,?_⟩;have q:=x.cell y c e;rw[By ο Z τ (by show scope.names.lookup y≠_;rw[k];decide)] at q;exact q
 ·exact L.hok.fresh (Vh (x.above y c (Uz h)))
 ·unfold start;show _=N.length;rw[eP,bx,Uv];omega
theorem O7 {P:Tv} {w:U1} {K:dt} {k:Nat} {f:eH} {name L:T3} {Z:Arguments}
  {ε:K'} {ps:B'} (lk:K.lookup f=a' ⟨io,ut,.func (UN name L Z ol scope dv ic ii ik an im ct),ε⟩) (ν:VH K im L=true) (S:av N ps scope)
  (len:∀vs H Q E,sp vs H Q E->vs.length=ps.length)
  (π:∀(A:TQ) (outer:eE Env) (s:px) (H:Hp) (vs:eE V) (Q:VK) (E:XK),Room k (A.deeper (envOfC L scope s.heap.objs.size f im))->sp vs H Q E->
   ∃t,PSs (cxOf CX P w K mg fL N L scope f im A outer s H E) ol t/\t {nx:=λ_ H'=>Q .non H',rt:=Q} (start N vs) H):
  FnOk P w K mg fL CX (k + 1) f (UN name L Z ol scope dv ic ii ik an im ct) ps sp:=by
 refine⟨len,λA outer s H args us vs Q E ι β hb r η=>?_⟩;have hl:=len _ _ _ _ η;have δ:K.In s.heap:=β.mod.kin.keeps λb o e=>(β.bs b o e).1;have θ:s.heap.NoLimit:=β.mod.nolimit.keeps λb o e=>(β.bs b o e).1
 have ζ:∀y∈ps.zip us,scope.names.lookup y.1=a' .local∨(scope.names.lookup y.1=a' .cell/\((cellsFrom (s.heap.objs.size + 1) scope.names []).lookup y.1).isSome=true):=λ⟨n,v⟩ ρ=>by
  rcases S.par n (Xo ρ).1 with q | q
  ·exact .inl q
  ·exact .inr ⟨q,YH _ _ _ (.inl q)⟩
 refine codeAny_call_function ι.depth (δ _ _ lk) rfl S.co S.gen rfl (PySem.W.codeRec_of δ ν) (hb _ _ _ _ ?_);refine wpAny_newFunctionEnv_cells S.kind ζ λenv he ξ x=>?_;subst he;refine⟨θ.keeps x.toInCall.keep,codeAny_func ?_⟩;obtain⟨t,ht,τ⟩:=π A outer s H vs Q E (ι.deeper _) η;have I:Inv (cxOf CX P w K mg fL N L scope f im A outer s H E) [] (start N vs) H ξ:=Jd S ι.hd β hl r x;refine W1 (ht [] ξ (start N vs) H _ I τ) (fun φ s' hs=>?_) λe s' hs=>hs
 have fin:∀{σ':St} {H':Hp} {v:V} {u:sC},Inv (cxOf CX P w K mg fL N L scope f im A outer s H E) [] σ' H' s'->RelV v u->Q v H'->CE outer P w H s Q u s':=
  λ{σ' H' v u} J γ q=>⟨v,H',J.os,J.bare,J.base,J.hok,γ,q⟩
 cases φ with
 | ret u=>
   obtain⟨v,σ',H',J,γ,q⟩:=hs;exact fin J γ q
 | next=>
   obtain⟨σ',H',J,q⟩:=hs;exact fin (v:=V.non) (u:=Uy) J rfl q
 | brk=>
   obtain⟨_,_,_,q⟩:=hs;exact Uk q
 | cont=>
   obtain⟨_,_,_,q⟩:=hs;exact Uk q
section
variable {X:Cx} {x:T3} {p pos:Pos} {e:UF} {es:eE UF} {t:TA} {id T:V7} {r:eE V->Hp->VK->Prop}
noncomputable abbrev tCB (r:eE V->Hp->VK->Prop) (t:TA):TE:=fun σ H Q=>t σ H λvs H1=>r vs H1 Q
theorem aK (hc:mR X (.builtin id) r) (β:Gl X x) (hm:X.mg x=f') (α:bootBuiltins x=a' (.builtin id)) (ha:PA X (e::es) t) (hn:x≠"__name__":=by decide) (G:(x == ("__debug__":T3))=false:=by decide)
  (he:tu (e::es) X.env=(false,eval e X.env)::tu es X.env:=by rfl) (ψ:(backTo pos (tu es X.env)).any (·.1)=false:=by rfl):PE X (.Call (.Name x p) (e::es) [] pos) (tCB r t):=by
 intro pins s σ H Q I h;refine Xa (lN I β hm α ?_ hn G);exact PyProof.Rows.callWith_builtin1 (thn (ha pos pins s σ H _ I h) λus L ⟨vs,H1,γ,Y,Z⟩=>hc pins L σ H1 vs us Q γ Y Z) he ψ
theorem aX (hc:mR X (.type T) r) (β:Gl X x) (hm:X.mg x=f') (α:bootBuiltins x=a' (.type T)) (ha:PA X (e::es) t) (hn:x≠"__name__":=by decide) (G:(x == ("__debug__":T3))=false:=by decide)
  (he:tu (e::es) X.env=(false,eval e X.env)::tu es X.env:=by rfl) (ψ:(backTo pos (tu es X.env)).any (·.1)=false:=by rfl):PE X (.Call (.Name x p) (e::es) [] pos) (tCB r t):=by
 intro pins s σ H Q I h;refine Xa (lN I β hm α ?_ hn G);exact Tt (thn (ha pos pins s σ H _ I h) λus L ⟨vs,H1,γ,Y,Z⟩=>hc pins L σ H1 vs us Q γ Y Z) he ψ
end
end L2
variable {CX:L2.CXT} {X:L2.Cx} {oe:L2.Ends} {eO o:L2.HO} {H H' H1 H2 γ:L2.Hp} {kvs:eE (L2.Key×L2.V)} {wE wP:eE (Vl×L2.V)} {am dvs vs:eE L2.V} {ob:Nat->L2.HO} {sp:L2.Sp} {σ:L2.St} {qB:L2.TA} {nb nf ta te tl to θ:L2.TE} {pp:L2.TGs} {qE:L2.TI} {oD tb:L2.TS} {tc:L2.TT} {v:L2.V} {Q:L2.VK} {E:L2.XK}
namespace HT
open PySem PyProof.Rows
section
variable {prog:Tv} {w:U1} {A:TQ} {E:Cr} {s:px}
noncomputable def sIx (n d:Nat):T8 Int->Nat
 | none=>d
 | some v=>if v < 0 then (v + (n:Int)).toNat else min v.toNat n
theorem sIx_none (n d:Nat):sIx n d f'=d:=rfl
theorem sIx_nat (n d k:Nat):sIx n d (a' (k:Int))=min k n:=by
 show(if (k:Int) < 0 then ((k:Int) + (n:Int)).toNat else min (k:Int).toNat n)=min k n;rw[qb @A,ov]
end
end HT
namespace L2
open PySem PySem.Spec PyProof.Rows
noncomputable abbrev TO:=St->Hp->(T8 Int->Hp->Prop)->Prop
def PO (X:Cx) (e:T8 UF) (t:TO):Prop:=
 ∀(pins:D') (s:px) (σ:St) (H:Hp) (Q:T8 Int->Hp->Prop),Inv X pins σ H s->t σ H Q->
  n' (xY X.prog X.w) X.A (evalPart e X.env) (λu s'=>∃o H',Inv X pins σ H' s'/\IsPart u o/\Q o H') X.xe s
noncomputable abbrev NQ:TO:=λ_ H Q=>Q f' H
noncomputable abbrev SF (t:TE):TO:=fun σ H Q=>t σ H λx H1=>∃i,x= .int i/\Q (a' i) H1
section
variable {X:Cx} {e:UF} {te:TE} {lo hi:T8 UF} {tl th:TO} {pos p2:Pos}
theorem su:PO X f' NQ:=by
 intro pins s σ H Q I h;rw[evalPart_none];exact sA ⟨f',H,I,.none,h⟩
theorem kW (h:PE X e te):PO X (a' e) (SF te):=by
 intro pins s σ H Q I hw;rw[evalPart_some];refine thn (h pins s σ H _ I hw) λu Z ⟨x,H1,L,Y,G⟩=>?_;obtain⟨i,rfl,q⟩:=G;obtain⟨t,rfl⟩:=Y;exact⟨a' i,H1,L,.int i t,q⟩
def SlR (X:Cx) (r:V->T8 Int->T8 Int->Hp->VK->Prop):Prop:=
 ∀(pins:D') (s:px) (σ:St) (H:Hp) (x:V) (v G ε:sC) (lo hi:T8 Int) (ξ:eH) (Q:VK),Inv X pins σ H s->RelV x v->s.heap.IsSliceOf ξ G ε .none->IsPart G lo->IsPart ε hi->r x lo hi H Q->
  ∃T id,typeLookup (.type T) "__getitem__"=pure (a' (.builtin id))/\s.TypeIs v T/\n' (xY X.prog X.w) X.A (getItem v (.ref ξ)) (EP X pins σ Q) X.xe s
noncomputable abbrev tSl (r:V->T8 Int->T8 Int->Hp->VK->Prop) (te:TE) (tl th:TO):TE:=fun σ H Q=>te σ H λx H1=>tl σ H1 λl H2=>th σ H2 λu G=>r x l u G Q
theorem kz {r:V->T8 Int->T8 Int->Hp->VK->Prop} (η:SlR X r) (he:PE X e te) (hl:PO X lo tl) (hu:PO X hi th):PE X (.Subscript e (.Slice lo hi f' p2) pos) (tSl r te tl th):=by
 intro pins s σ H Q I h;refine ac6 (thn (he pins s σ H _ I h) λv β ⟨x,H1,ξ,Y,δ⟩=>?_);refine wpAny_Slice (thn (hl pins β σ H1 _ ξ δ) λL α ⟨l,H2,ν,pl,χ⟩=>thn (hu pins α σ H2 _ ν χ) fun ε G ⟨u,Z,I3,ζ,γ⟩=>?_);rw[evalPart_none];refine sA ?_;have ι:Inv X pins σ Z {G with heap:=G.heap.push {cls:= .type "slice",data:= .fields #[L,ε,.none]}}:=I3.kept (t':=G.toks) λb ob q=>fy _ q;obtain⟨T,id,hT,ht,θ⟩:=η pins {G with heap:=G.heap.push {cls:= .type "slice",data:= .fields #[L,ε,.none]}} σ Z x v L ε l u G.heap.objs.size Q ι Y (Heap.IsSliceOf.new ..) pl ζ γ;show n' (xY X.prog X.w) X.A (subscriptTail e (.Slice lo hi f' p2) v (.ref G.heap.objs.size)) (EP X pins σ Q) X.xe {G with heap:=G.heap.push {cls:= .type "slice",data:= .fields #[L,ε,.none]}};exact tail_any (ops:=[.ref G.heap.objs.size,v]) ht hT θ (by with_unfolding_all rfl)
noncomputable def cutV (xs:eE V) (lo hi:T8 Int):eE V:=(xs.drop (HT.sIx xs.length 0 lo)).take (HT.sIx xs.length xs.length hi - HT.sIx xs.length 0 lo)
theorem CU (xs:eE V) (lo hi:T8 Int):(cutV xs lo hi).length<=xs.length:=by
 unfold cutV;rw[wh,Ww];omega
end
noncomputable def ixN (n:Nat) (i:Int):T8 Nat:=if 0<=i then (if i < n then a' i.toNat else f') else if -(n:Int)<=i then a' (i + n).toNat else f'
noncomputable def atI {α:Type} (xs:eE α) (i:Int):T8 α:=(ixN xs.length i).bind λj=>xs[j]?
theorem OY {n:Nat} {i:Int} (h:ixN n i=a' j):seqIndex? i n=a' j/\j < n/\-(n:Int)<=i/\i < n:=by
 unfold ixN at h;by_cases δ:0<=i
 ·rw[wb δ] at h;by_cases h1:i < n
  ·rw[wb h1] at h;have e:i.toNat=j:=zx h;exact⟨by rw[seqIndex_of δ h1,e],@A,@A,h1⟩
  ·rw[qb h1] at h;cases h
 ·rw[qb δ] at h;by_cases h1: -(n:Int)<=i
  ·rw[wb h1] at h;have e:(i + n).toNat=j:=zx h;exact⟨by rw[seqIndex_neg @A h1,e],@A,h1,@A⟩
  ·rw[qb h1] at h;cases h
theorem C0 {α:Type} {xs:eE α} {i:Int} {v:α} (h:atI xs i=a' v):∃j,seqIndex? i xs.length=a' j/\xs[j]? =a' v/\j < xs.length/\-(xs.length:Int)<=i/\i < xs.length:=by
 unfold atI at h;cases e:ixN xs.length i with
 | none=>rw[e] at h;cases h
 | some j=>
   rw[e] at h;obtain⟨h1,h2,L,G⟩:=OY e;exact⟨j,h1,h,h2,L,G⟩
theorem di {α:Type} {xs:eE α} {v:α} (h:xs[j]? =a' v):atI xs (j:Int)=a' v:=by
 have G:j < xs.length:=(b'.mp h).1
 have e:ixN xs.length (j:Int)=a' j:=by
  unfold ixN;rw[wb @A,wb @A];simp
 unfold atI;rw[e];exact h
def Po (b:UF):Prop:=∀o i,subscripted b false o i=operate [o,i] (getItem o i)
def IxR (X:Cx) (r:R2):Prop:=
 ∀(value G:UF) (pins:D') (s:px) (σ:St) (H:Hp) (x y:V) (v u:sC) (Q:VK),Inv X pins σ H s->RelV x v->RelV y u->r x y H Q->
  subscripted G false v u=operate [v,u] (getItem v u)->n' (xY X.prog X.w) X.A (subscriptTail value G v u) (EP X pins σ Q) X.xe s
def MtR (X:Cx) (id:V7) (r:V->eE V->Hp->VK->Prop):Prop:=
 ∀(pins:D') (s:px) (σ:St) (H:Hp) (x:V) (xs:eE V) (v:sC) (us:E') (Q:VK),Inv X pins σ H s->RelV x v->Vals xs us->r x xs H Q->
  n' (xY X.prog X.w) X.A (call (.builtin id) (v::us)) (EP X pins σ Q) X.xe s
section
variable {X:Cx} {a b:UF} {ta tb:TE} {pos:Pos}
theorem aR {r:R2} (Z:IxR X r) (ha:PE X a ta) (hb:PE X b tb) (hs:Po b):PE X (.Subscript a b pos) (tOp r ta tb):=by
 intro pins s σ H Q I h;exact ac6 (binT ha hb I h λv u G x y H2 α Y L q=>Z a b pins G σ H2 x y v u Q α Y L q (hs _ _))
noncomputable def rIxL (K:dt):R2:=λx y H Q=>∃p xs i v,x= .ref p/\y= .int i/\SqL K H p xs/\atI xs i=a' v/\Q v H
noncomputable def rIxT (K:dt):R2:=λx y H Q=>∃p xs i v,x= .ref p/\y= .int i/\SqT K H p xs/\atI xs i=a' v/\Q v H
noncomputable def rIxS:R2:=λx y H Q=>∃z i c,x= .str z/\y= .int i/\z.length<=hR/\atI z.cps.toList i=a' c/\Q (.str ⟨#[c]⟩) H
theorem OX:IxR X (rIxL X.K):=by
 intro value G pins s σ H x y v u Q I α Z h hs;obtain⟨p,xs,i,z,rfl,rfl,β,he,q⟩:=h;cases α;obtain⟨t,rfl⟩:=Z;obtain⟨its,r,pl,hz⟩:=I.list β;obtain⟨j,h1,h2,ζ,ε,γ⟩:=C0 he;obtain⟨w,ρ,L⟩:=r.get h2;have hl:=r.length;have hn:=Ed;have fin:EP X pins σ Q w s:=⟨z,H,I,L,q⟩;by_cases δ:0<=i
 ·have Y:i.toNat=j:=by
   rw[seqIndex_of δ γ] at h1;exact zx h1
  exact item_listR pl.isList δ @A (by rw[Y];simpa using ρ) fin hs
 ·have Y:(i + (its.toArray.size:Int)).toNat=j:=by
   rw[seqIndex_neg @A ε] at h1;rw[TJ,<-hl];exact zx h1
  exact ZQ (x:=w) pl.isList.typeIs slot_list_getitem.lookup
   (wpAny_getItem_list_neg (Q:=λr s'=>r=w/\EP X pins σ Q r s') pl.isList @A (by rw[TJ]<;>omega) @A (by rw[Y];simpa using ρ) ⟨rfl,fin⟩) hs
theorem RE:IxR X (rIxT X.K):=by
 intro value G pins s σ H x y v u Q I Z Y h hs;obtain⟨p,xs,i,z,rfl,rfl,α,he,q⟩:=h;cases Z;obtain⟨t,rfl⟩:=Y;obtain⟨its,r,pl,hz⟩:=I.tuple α;obtain⟨j,h1,h2,δ,γ,β⟩:=C0 he;obtain⟨w,ρ,L⟩:=r.get h2;have hl:=r.length;have hn:=Ed;have fin:EP X pins σ Q w s:=⟨z,H,I,L,q⟩
 exact ZQ (x:=w) pl.typeIs slot_tuple_getitem.lookup
  (getItem_tuple (j:=j) (Q:=λr s'=>r=w/\EP X pins σ Q r s') pl @A @A (by rw[TJ,<-hl];exact h1) (by simpa using ρ) ⟨rfl,fin⟩) hs
theorem M4:IxR X rIxS:=by
 intro value G pins s σ H x y v u Q I Y L h hs;obtain⟨z,i,c,rfl,rfl,hz,he,q⟩:=h;obtain⟨t,rfl⟩:=Y;obtain⟨t',rfl⟩:=L;obtain⟨j,h1,h2,δ,α,Z⟩:=C0 he;have hl:z.cps.toList.length=z.length:=by simp[Str.length]
 rw[hl] at h1 α Z;have hn:=Ed
 exact tail_any (Yl s z t) slot_str_getitem.lookup (getItem_str (c:=c) (by
  have γ:decide (i < -(2 ^ 63:Int))=false:=gn @A;have β:decide (i≥2 ^ 63)=false:=gn @A;rw[γ,β,Bool.or_false]) (by rw[h1];simpa using h2) ⟨.str ⟨#[c]⟩,H,I.tok _,⟨_,rfl⟩,q⟩) hs
theorem Ar (lo hi:T8 Int) (n:Nat):(sliceBounds lo hi f' n).1=((HT.sIx n 0 lo:Nat):Int)/\(sliceBounds lo hi f' n).2.1=((HT.sIx n n hi:Nat):Int)/\(sliceBounds lo hi f' n).2.2=1:=by
 refine⟨?_,?_,rfl⟩
 ·cases lo with
  | none=>simp[sliceBounds,HT.sIx]
  | some i=>
    simp only[sliceBounds,HT.sIx,Zd,show(1:Int) > 0 by decide,Z4];by_cases h:i < 0
    ·simp only[h,Z4]<;>omega
    ·simp only[h,if_false]<;>omega
 ·cases hi with
  | none=>simp[sliceBounds,HT.sIx]
  | some i=>
    simp only[sliceBounds,HT.sIx,Zd,show(1:Int) > 0 by decide,Z4];by_cases h:i < 0
    ·simp only[h,Z4]<;>omega
    ·simp only[h,if_false]<;>omega
theorem yR (its:E') (lo hi:T8 Int):slicePick its.toArray lo hi f'=((its.drop (HT.sIx its.length 0 lo)).take (HT.sIx its.length its.length hi - HT.sIx its.length 0 lo)).toArray:=by
 obtain⟨h1,h2,G⟩:=Ar lo hi its.toArray.size;unfold slicePick;rw[h1,h2,G];simp only[sliceRange_one,pick_run,TJ]<;>rfl
noncomputable def rSlL (K:dt):V->T8 Int->T8 Int->Hp->VK->Prop:=λx lo hi H Q=>∃a xs,x= .ref a/\SqL K H a xs/\∀p,H p=f'->Q (.ref p) (upd H p (.lst (cutV xs lo hi)))
theorem Of:SlR X (rSlL X.K):=by
 intro pins s σ H x v α ε lo hi ξ Q I L hs pl Y h;obtain⟨a,xs,rfl,Z,q⟩:=h;cases L;obtain⟨its,r,ht,hz⟩:=I.list Z;have G:=r.length;refine⟨"list",_,slot_list_getitem.lookup,ht.isList.typeIs,?_⟩;refine wpAny_getItem_list_slice ht.isList hs pl Y .none @E ?_ (by rw[TJ]<;>omega);rw[yR,<-G];refine⟨.ref s.heap.objs.size,_,I.laid (t':=s.toks) (o:= .lst (cutV xs lo hi)) (λb ob q=>fy _ q) (sb _) ?_,rfl,q _ (I.hok.fresh (sb _))⟩;exact⟨Vg (CU xs lo hi) hz,_,0,(r.drop (HT.sIx xs.length 0 lo)).take (HT.sIx xs.length xs.length hi - HT.sIx xs.length 0 lo),mu _ rfl⟩
noncomputable def oq:V->UD
 | .non=>true
 | .bl _=>true
 | .int _=>true
 | .str _=>true
 | _=>false
noncomputable def eqV:V->V->UD
 | .non,.non=>true
 | .bl a,.bl b=>a == b
 | .bl a,.int b=>(if a then 1 else 0) == b
 | .int a,.bl b=>a == (if b then 1 else 0)
 | .int a,.int b=>a == b
 | .str a,.str b=>a == b
 | _,_=>false
theorem Ng {A:TQ} {y x:V} {v:sC} (L:RelV y u) (G:RelV x v) (η:oq y=true) (fx:oq x=true):Zw A s u v (eqV y x):=by
 cases y with
 | non=>
   cases L;cases x with
   | non=>cases G;exact SeqAt.EqAt.same _
   | bl b=>cases G;exact SeqAt.EqAt.none_bool b
   | int b=>obtain⟨t,rfl⟩:=G;exact SeqAt.EqAt.none_int b t
   | str b=>obtain⟨t,rfl⟩:=G;exact SeqAt.EqAt.none_str b t
   | _=>exact hD (show false=true from fx) hB
 | bl a=>
   cases L;cases x with
   | non=>cases G;exact SeqAt.EqAt.bool_none a
   | bl b=>cases G;exact SeqAt.EqAt.bool_bool a b
   | int b=>obtain⟨t,rfl⟩:=G;exact SeqAt.EqAt.bool_int a b t
   | str b=>obtain⟨t,rfl⟩:=G;exact SeqAt.EqAt.bool_str a b t
   | _=>exact hD (show false=true from fx) hB
 | int a=>
   obtain⟨t',rfl⟩:=L;cases x with
   | non=>cases G;exact SeqAt.EqAt.int_none a t'
   | bl b=>cases G;exact SeqAt.EqAt.int_bool a t' b
   | int b=>obtain⟨t,rfl⟩:=G;exact SeqAt.EqAt.int_int a t' b t
   | str b=>obtain⟨t,rfl⟩:=G;exact YV a t' b t
   | _=>exact hD (show false=true from fx) hB
 | str a=>
   obtain⟨t',rfl⟩:=L;cases x with
   | non=>cases G;exact SeqAt.EqAt.str_none a t'
   | bl b=>cases G;exact SeqAt.EqAt.str_bool a t' b
   | int b=>obtain⟨t,rfl⟩:=G;exact YU a t' b t
   | str b=>obtain⟨t,rfl⟩:=G;exact SeqAt.EqAt.str_str a t' b t
   | _=>exact hD (show false=true from fx) hB
 | _=>exact hD (show false=true from η) hB
noncomputable def eqU (x:V) (u:sC):Bool:=match u with
 | .none=>eqV .non x
 | .bool b=>eqV (.bl b) x
 | .int i _=>eqV (.int i) x
 | .str z _=>eqV (.str z) x
 | _=>false
theorem Nd {x y:V} (r:RelV y u) (f:oq y=true):eqU x u=eqV y x:=by
 cases y with
 | non=>cases r;rfl
 | bl b=>cases r;rfl
 | int i=>obtain⟨t,rfl⟩:=r;rfl
 | str z=>obtain⟨t,rfl⟩:=r;rfl
 | _=>exact hD (show false=true from f) hB
theorem wX {x:V}:∀{xs:eE V} {us:E'},Vals xs us->xs.all oq=true->us.any (eqU x)=xs.any λy=>eqV y x
 | _,_,.nil,_=>rfl
 | y::xs,u::us,.cons r t,f=>by
   rw[XF,TZ] at f;rw[XD,XD,Nd r f.1,wX t f.2]
theorem rj {A:TQ} {s:px} {x:V} {v:sC} (G:RelV x v) (fx:oq x=true):∀{xs:eE V} {us:E'},Vals xs us->xs.all oq=true->∀u∈us,Zw A s u v (eqU x u)
 | _,_,.nil,_=>λu hu=>by cases hu
 | y::xs,u::us,.cons r t,f=>fun ξ hu=>by
   rw[XF,TZ] at f;rcases Tn.mp hu with rfl | hu
   ·rw[Nd r f.1];exact Ng r G f.1 fx
   ·exact rj G fx t f.2 ξ hu
noncomputable def inV (x:V) (xs:eE V):Bool:=xs.any λy=>eqV y x
noncomputable def rIn (K:dt) (neg:UD):R2:=λx y H Q=>∃p xs,y= .ref p/\(SqL K H p xs∨SqT K H p xs)/\oq x=true/\xs.all oq=true/\Q (.bl (if neg then !inV x xs else inV x xs)) H
theorem Ii:OpR X (compareOp .In) (rIn X.K false):=by
 intro pins s σ H x y v u Q I G L h;obtain⟨p,xs,rfl,hq,fx,fs,q⟩:=h;cases L;rcases hq with hq | hq
 ·obtain⟨its,r,pl,hz⟩:=I.list hq;refine SeqAt.in_listAt (eqU x) pl.isList (λw hw=>rj G fx r fs w (by simpa using hw)) ⟨.bl _,H,I,rfl,?_⟩;rw[show its.toArray.any (eqU x)=its.any (eqU x) by simp,wX r fs];exact q
 ·obtain⟨its,r,pl,hz⟩:=I.tuple hq;refine SeqAt.in_tupleAt (eqU x) pl (λw hw=>rj G fx r fs w (by simpa using hw)) ⟨.bl _,H,I,rfl,?_⟩;rw[show its.toArray.any (eqU x)=its.any (eqU x) by simp,wX r fs];exact q
theorem AC:OpR X (compareOp .NotIn) (rIn X.K true):=by
 intro pins s σ H x y v u Q I G L h;obtain⟨p,xs,rfl,hq,fx,fs,q⟩:=h;cases L;rcases hq with hq | hq
 ·obtain⟨its,r,pl,hz⟩:=I.list hq;refine SeqAt.notIn_listAt (eqU x) pl.isList (λw hw=>rj G fx r fs w (by simpa using hw)) ⟨.bl _,H,I,rfl,?_⟩;rw[show its.toArray.any (eqU x)=its.any (eqU x) by simp,wX r fs];exact q
 ·obtain⟨its,r,pl,hz⟩:=I.tuple hq;refine SeqAt.notIn_tupleAt (eqU x) pl (λw hw=>rj G fx r fs w (by simpa using hw)) ⟨.bl _,H,I,rfl,?_⟩;rw[show its.toArray.any (eqU x)=its.any (eqU x) by simp,wX r fs];exact q
theorem Bq:mR X (.type "list") (λxs H Q=>∃p ys,xs=[.ref p]/\(SqL X.K H p ys∨SqT X.K H p ys)/\∀l,H l=f'->Q (.ref l) (upd H l (.lst ys))):=by
 intro pins s σ H xs us Q I r h;obtain⟨p,ys,rfl,hq,q⟩:=h;obtain⟨u,rfl,Y⟩:=rZ r;cases Y
 have fin:∀(its:E'),Vals ys its->ys.length<=hR->∀(h':Ui) (ξ:Nat),(∀b o',s.heap.get? b=a' o'->h'.get? b=a' o')->
   h'.get? s.heap.objs.size=a' {cls:= .type "list",dict:=f',data:= .seq its.toArray ξ,slots:=#[]}->EP X pins σ Q (.ref s.heap.objs.size) {s with heap:=h'}:=λits r' hz h' ξ kp e=>
  ⟨.ref s.heap.objs.size,_,I.laid (t':=s.toks) kp (sb _) (show gX X.prog X.w _ h' _ (.lst ys) from⟨hz,its,ξ,r',e⟩),rfl,q _ (I.hok.fresh (sb _))⟩
 rcases hq with hq | hq
 ·obtain⟨its,r',pl,hz⟩:=I.list hq;have G:=r'.length;obtain⟨o,ho,L,n,hd⟩:=pl.isList;exact call_list_seq p (.inl rfl) ho L hd (λh' ξ kp e=>fin its r' hz h' ξ kp e) (by simp only[TJ]<;>omega)
 ·obtain⟨its,r',pl,hz⟩:=I.tuple hq;have G:=r'.length;obtain⟨o,ho,L,n,hd⟩:=pl;exact call_list_seq p (.inr rfl) ho L hd (λh' ξ kp e=>fin its r' hz h' ξ kp e) (by simp only[TJ]<;>omega)
theorem zX:mR X (.type "tuple") (λxs H Q=>∃p ys,xs=[.ref p]/\((SqL X.K H p ys/\∀l,H l=f'->Q (.ref l) (upd H l (.tup ys)))∨(SqT X.K H p ys/\Q (.ref p) H))):=by
 intro pins s σ H xs us Q I r h;obtain⟨p,ys,rfl,h⟩:=h;obtain⟨u,rfl,Y⟩:=rZ r;cases Y;rcases h with ⟨G,q⟩ | ⟨G,q⟩
 ·obtain⟨its,r',pl,hz⟩:=I.list G;have L:=r'.length;refine call_tuple_list pl.isList (λh' kp=>?_) (by simp only[TJ]<;>omega);have I1:Inv X pins σ H {s with heap:=h'}:=I.kept (t':=s.toks) kp
  have Z:Inv X pins σ (upd H h'.objs.size (.tup ys)) {s with heap:=h'.push {cls:= .type "tuple",data:= .seq its.toArray}}:=
   I1.laid (t':=s.toks) (λb o e=>fy _ e) (sb _) (show gX X.prog X.w _ _ _ (.tup ys) from⟨hz,its,r',IsTup.new _ _⟩)
  exact⟨.ref h'.objs.size,_,Z,rfl,q _ (I1.hok.fresh (sb _))⟩
 ·obtain⟨its,r',pl,hz⟩:=I.tuple G;exact call_tuple_same pl ⟨.ref p,H,I,rfl,q⟩
def tyV (K:dt) (T:V7) (x:V) (H:Hp):Prop:=match x with
 | .str _=>T="str"
 | .int _=>T="int"
 | .ref p=>(T="list"/\∃xs,SqL K H p xs)∨(T="tuple"/\∃o,K.lookup p=a' o/\o.cls= .type "tuple"/\o.dict=f')∨
   (T="dict"/\((∃kvs,H p=a' (.dK kvs))∨∃kvs,H p=a' (.dT kvs)))∨(T="set"/\∃S n,H p=a' (.set S n))
 | _=>False
theorem Mz {x:V} {v:sC} (I:Inv X pins σ H s) (r:RelV x v) (ty:tyV X.K T x H):
  s.TypeIs v T/\∀a,v= .ref a->∃ob,s.heap.get? a=a' ob/\ob.dict=none:=by
 cases x with
 | str z=>
   obtain⟨t,rfl⟩:=r;cases(show T="str" from ty);exact⟨Yl s z t,λ_ e=>nomatch e⟩
 | int i=>
   obtain⟨t,rfl⟩:=r;cases(show T="int" from ty);exact⟨ac5 s i t,λ_ e=>nomatch e⟩
 | ref p=>
   cases r;rcases ty with ⟨rfl,xs,L⟩ | ⟨rfl,o,hk,Y,hd⟩ | ⟨rfl,hk⟩ | ⟨rfl,S,n,hk⟩
   ·obtain⟨its,_,pl,_⟩:=I.list L;refine⟨pl.isList.typeIs,λa e=>?_⟩;cases e;obtain⟨o,n,e,c,hd,_⟩:=pl;exact⟨o,e,hd⟩
   ·refine⟨⟨o,I.kIn p o hk,Y⟩,λa e=>?_⟩;cases e;exact⟨o,I.kIn _ o hk,hd⟩
   ·have z:∃o,s.heap.get? p=a' o/\o.ExactDict:=by
     rcases hk with ⟨kvs,hk⟩ | ⟨kvs,hk⟩
     ·obtain⟨_,_,_,_,o,_,_,e,ex,_⟩:=I.hok p _ hk;exact⟨o,e,ex⟩
     ·obtain⟨_,_,_,_,o,_,_,e,ex,_⟩:=I.hok p _ hk;exact⟨o,e,ex⟩
    obtain⟨o,e,ex⟩:=z;refine⟨⟨o,e,ex.1⟩,λa G=>?_⟩;cases G;exact⟨o,e,ex.2.1⟩
   ·obtain⟨o,_,_,_,e,ex,_⟩:=I.hok p _ hk;refine⟨⟨o,e,ex.1⟩,λa G=>?_⟩;cases G;exact⟨o,e,ex.2.1⟩
 | _=>exact Uk ty
noncomputable abbrev tBM0 (K:dt) (T:V7) (r:V->eE V->Hp->VK->Prop) (to:TE):TE:=fun σ H Q=>to σ H λx H1=>tyV K T x H1/\r x [] H1 Q
noncomputable abbrev tBM (K:dt) (T:V7) (r:V->eE V->Hp->VK->Prop) (to:TE) (t:TA):TE:=fun σ H Q=>to σ H λx H1=>tyV K T x H1/\t σ H1 λxs H2=>r x xs H2 Q
variable {o e:UF} {es:eE UF} {to:TE} {t:TA} {name:T3} {apos cpos:Pos} {T id:V7} {r:V->eE V->Hp->VK->Prop}
theorem Q7 (δ:PlainAttrs T) (slot:Slot T name id) (Z:typeOf (.builtin id)=pure (.type "method_descriptor")) (hm:MtR X id r) (ho:PE X o to)
  (G:attributeBase o name X.env (eval o X.env)=eval o X.env:=by rfl) (L:(apos.endLine == cpos.line)=true:=by rfl):PE X (.Call (.Attribute o name apos) [] [] cpos) (tBM0 X.K T r to):=by
 intro pins s σ H Q I h;refine wpAny_Call_method0_late G L (thn (ho pins s σ H _ I h) λv β ⟨x,H1,α,Y,ty,γ⟩=>?_);obtain⟨h1,h2⟩:=Mz α Y ty;exact⟨T,id,δ,slot,Z,h1,h2,Z2 rfl (PySem.evalArgs_none (hm pins β σ H1 x [] v [] Q α Y .nil γ))⟩
theorem S1 (ι:PlainAttrs T) (slot:Slot T name id) (β:typeOf (.builtin id)=pure (.type "method_descriptor")) (hm:MtR X id r) (ho:PE X o to) (ha:PA X (e::es) t)
  (Z:attributeBase o name X.env (eval o X.env)=eval o X.env:=by rfl)
  (α:((backTo cpos (tu (e::es) X.env)).all (λx=> !x.1)&&(backToKw cpos (keywordEach [] X.env)).all (λx=>x.1.isSome)
   &&decide ((e::es).length + ([]:eE Keyword).length + (if ([]:eE Keyword).isEmpty then 0 else 1) < 30))=true:=by rfl)
  (L:(apos.endLine == cpos.line)=true:=by rfl) (hs:tu (e::es) X.env=(false,eval e X.env)::tu es X.env:=by rfl) (G:(backTo cpos (tu es X.env)).any (·.1)=false:=by rfl):
  PE X (.Call (.Attribute o name apos) (e::es) [] cpos) (tBM X.K T r to t):=by
 intro pins s σ H Q I h;refine wpAny_Call_method_late Z α L rfl (thn (ho pins s σ H _ I h) λv ζ ⟨x,H1,δ,Y,ty,θ⟩=>?_);obtain⟨h1,h2⟩:=Mz δ Y ty;refine⟨T,id,ι,slot,β,h1,h2,?_⟩;have γ:=ha cpos pins ζ σ H1 _ δ θ;rw[hs] at γ ⊢;refine Z2 (by show(false||(backTo cpos (tu es X.env)).any (·.1))=false;rw[G]<;>rfl) (Zg ?_);exact thn γ λus ε ⟨vs,H2,ν,η,χ⟩=>hm pins ε σ H2 x vs v us Q ν Y η χ
end
def MtM (X:Cx) (id:V7) (r:V->eE V->Hp->VK->Prop):Prop:=
 ∀(pins:D') (s:px) (σ:St) (H:Hp) (x:V) (xs:eE V) (v:sC) (us:E') (Q:VK),Inv X pins σ H s->RelV x v->Vals xs us->r x xs H Q->
  n' (xY X.prog X.w) X.A (call (.builtin id) (v::us)) (EP X pins σ Q) X.xe s
theorem Vals.one:∀{x:V} {us:E'},Vals [x] us->∃u,us=[u]/\RelV x u
 | _,_,.cons r .nil=>⟨_,rfl,r⟩
theorem Vals.two:∀{x y:V} {us:E'},Vals [x,y] us->∃u v,us=[u,v]/\RelV x u/\RelV y v
 | _,_,_,.cons r (.cons q .nil)=>⟨_,_,rfl,r,q⟩
theorem Vals.reverse {xs:eE V} (h:Vals xs us):Vals xs.reverse us.reverse:=by
 induction h with
 | nil=>exact .nil
 | cons r t ih=>rw[WO,WO];exact Vals.append ih (.cons r .nil)
theorem Vals.rep {xs:eE V} {us:E'} (h:Vals xs us):∀k:Nat,Vals (lj k xs).flatten (lj k us).flatten
 | 0=> .nil
 | k + 1=>by
   rw[Vi,Vi,WS,WS];exact Vals.append h (Vals.rep h k)
theorem A5 (its:E'):∀(k:Nat) (G:E'),
  ZD (λx1 x2=>x1++x2) G.toArray (lj k its.toArray)=(G++(lj k its).flatten).toArray
 | 0,G=>by simp
 | k + 1,G=>by
   have e:G.toArray++its.toArray=(G++its).toArray:=by simp
   have L:(G++its)++(lj k its).flatten=G++(lj (k + 1) its).flatten:=by
    rw[Vi,WS,Wh]
   rw[<-L,<-A5 its k (G++its),<-e,Vi,ab3]
section
variable {X:Cx} {pins:D'} {σ:St} {H:Hp} {s:px} {l b:eH} {xs ys zs:eE V}
theorem Inv.lset {its':E'} {n:Nat} {f:G'->G'} {t':Nat} (I:Inv X pins σ H s) (L:H l=a' (.lst xs))
  (e:s.heap.get? l=a' {cls:= .type "list",data:= .seq its.toArray n}) (hf:f its.toArray=its'.toArray) (G:Vals ys its') (hz:ys.length<=hR):
  Inv X pins σ (upd H l (.lst ys)) {s with heap:=s.heap.update l (Ut f),toks:=t'}:=by
 have q:=PySem.IsL.update e f;rw[hf] at q;refine I.write (x:=l) (e:=l) (by rw[L];exact trivial) (.inl rfl) (λZ u hb τ=>(Ue s.heap (Ut f) (Ts hb)).trans τ) ⟨_,q⟩ ?_;exact⟨hz,its',_,G,q⟩
theorem Inv.lnew {t':Nat} (I:Inv X pins σ H s) (G:Vals ys its) (hz:ys.length<=hR):
  Inv X pins σ (upd H s.heap.objs.size (.lst ys)) {s with heap:=s.heap.push {cls:= .type "list",data:= .seq its.toArray},toks:=t'}:=
 I.laid (λ_ _ q=>fy _ q) (sb _) ⟨hz,its,0,G,mu _ rfl⟩
theorem Inv.fresh (I:Inv X pins σ H s):H s.heap.objs.size=none:=I.hok.fresh (sb _)
theorem Inv.lstM (I:Inv X pins σ H s) (G:H l=a' (.lst xs)):xs.length<=hR/\∃(its:E') (n:Nat),Vals xs its/\xs.length=its.length/\s.heap.get? l=a' {cls:= .type "list",data:= .seq its.toArray n}:=by
 obtain⟨z,its,n,r,e⟩:=I.hok l _ G;exact⟨z,its,n,r,r.length,e⟩
theorem DU {n:Nat} (h:n<=hR):VJ n=false:=by
 unfold VJ;exact gn @A
end
section
variable {X:Cx}
noncomputable def HJ:V->eE V->Hp->VK->Prop:=λx vs H Q=>∃l xs y,x= .ref l/\vs=[y]/\H l=a' (.lst xs)/\xs.length < hR/\Q .non (upd H l (.lst (xs++[y])))
theorem iL:MtM X "list.append" HJ:=by
 intro pins s σ H x vs v us Q I L Y h;obtain⟨l,xs,y,rfl,rfl,G,hz,q⟩:=h;cases L;obtain⟨u,rfl,Z⟩:=Y.one;obtain⟨z,its,n,r,hl,e⟩:=I.lstM G;refine Wy F.slot_list_append ⟨_,e,rfl⟩ F.entry_list_append (F.args_list_append_2 _ _) (PySem.list_append l its.toArray n u (by rw[TJ];omega)) ⟨e,?_⟩;refine⟨.non,_,I.lset (its':=its++[u]) G e @E (r.append (.cons Z .nil)) ?_,rfl,q⟩;rw[eP,Tu];omega
noncomputable def B6:V->eE V->Hp->VK->Prop:=λx vs H Q=>∃l b xs zs,x= .ref l/\vs=[.ref b]/\H l=a' (.lst xs)/\H b=a' (.lst zs)/\xs.length + zs.length<=hR/\Q .non (upd H l (.lst (xs++zs)))
theorem iK:MtM X "list.extend" B6:=by
 intro pins s σ H x vs v us Q I Z α h;obtain⟨l,b,xs,zs,rfl,rfl,Y,ε,hz,q⟩:=h;cases Z;obtain⟨u,rfl,β⟩:=α.one;cases β;obtain⟨z,its,n,r,hl,e⟩:=I.lstM Y;obtain⟨η,G,δ,γ,hl2,ζ⟩:=I.lstM ε;have hsz:its.toArray.size + G.toArray.size<=sizeLine:=by rw[TJ,TJ];omega
 have L:¬(!its.toArray.isEmpty&&VJ (its.toArray.size + G.toArray.size))=true:=by
  rw[DU hsz,US];exact hB
 refine Wy F.slot_list_extend ⟨_,e,rfl⟩ F.entry_list_extend (F.args_list_extend_2 _ _)
  (AutoSeq1.list_extend_list_list_0 l its.toArray n b G.toArray δ L (by rw[TJ];omega) @A) ⟨e,ζ,?_⟩
 refine⟨.non,_,I.lset (its':=its++G) Y e @E (r.append γ) ?_,rfl,q⟩;rw[eP];omega
noncomputable def rCat:R2:=λx y H Q=>∃l b xs zs,x= .ref l/\y= .ref b/\H l=a' (.lst xs)/\H b=a' (.lst zs)/\xs.length + zs.length<=hR/\∀p,H p=f'->Q (.ref p) (upd H p (.lst (xs++zs)))
theorem jc:OpR X (binaryOp .Add) rCat:=by
 intro pins s σ H x y v u Q I Y L h;obtain⟨l,b,xs,zs,rfl,rfl,α,β,hz,q⟩:=h;cases Y;cases L;obtain⟨z,its,n,r,hl,e⟩:=I.lstM α;obtain⟨δ,G,ε,Z,hl2,γ⟩:=I.lstM β;refine PySem.P.add_list e γ ?_ (by rw[TJ,TJ];omega);have ea:its.toArray++G.toArray=(its++G).toArray:=by simp
 rw[ea];exact⟨.ref _,_,I.lnew (t':=s.toks) (r.append Z) (by rw[eP];omega),rfl,q _ I.fresh⟩
noncomputable def rRep:R2:=λx y H Q=>∃l k xs,x= .ref l/\y= .int k/\H l=a' (.lst xs)/\-(2 ^ 63)<=k/\k < 2 ^ 63/\xs.length * k.toNat<=hR/\
 ∀p,H p=f'->Q (.ref p) (upd H p (.lst (lj k.toNat xs).flatten))
theorem OS {α:Type} (xs:eE α) (k:Nat):(lj k xs).flatten.length=k * xs.length:=by
 induction k with
 | zero=>simp
 | succ k ih=>rw[Vi,WS,eP,ih,XB,Yj]
theorem Ib:OpR X (binaryOp .Mult) rRep:=by
 intro pins s σ H x y v u Q I β α h;obtain⟨l,k,xs,rfl,rfl,γ,h1,h2,hz,q⟩:=h;cases β;obtain⟨t,rfl⟩:=α;obtain⟨z,its,n,r,hl,e⟩:=I.lstM γ;have Y:its.toArray.size * k.toNat<=sizeLine:=by rw[TJ,<-hl];exact hz
 have π:¬its.toArray.size * k.toNat > (2 ^ 63 - 1) / 8:=by
  have:(hR:Nat)<=(2 ^ 63 - 1) / 8:=by decide
  omega
 have Z:¬(!Builtin.List.listFitsIndex k)=true:=by
  rw[fitsIndex_both h1 h2];exact hB
 have G:¬VJ (its.toArray.size * k.toNat)=true:=by
  rw[DU Y];exact hB
 have L:ZD (λx1 x2=>x1++x2) #[] (lj (if its.toArray.isEmpty=true then 0 else k.toNat) its.toArray)=(lj k.toNat its).flatten.toArray:=by
  have δ:∀m:Nat,ZD (λx1 x2=>x1++x2) #[] (lj m its.toArray)=(lj m its).flatten.toArray:=λm=>by
   have:=A5 its m [];rw[List.nil_append] at this;exact this
  rw[δ];cases its with
  | nil=>simp
  | cons a r'=>rw[qb @E]
 refine wpAny_binaryOp_repeat_ref (T:="list") (U:="int") @C ⟨_,e,rfl⟩ (λs'=>ac5 s' k t) noFill_list_mul F.fills_int_mul F.slot_int_rmul repeat_list F.slot_int_index.lookup
  (Wy F.slot_int_rmul (ac5 s k t) F.entry_int_rmul (F.args_int_rmul_2 _ _) (int___rmul___int_list k t l its.toArray n)
   ⟨e,rfl,⟨_,e,rfl⟩,Wy F.slot_list_mul ⟨_,e,rfl⟩ F.entry_list_mul (F.args_list_mul_2 _ _) (AutoListH.list___mul___list_int_3 l its.toArray n k t Z π G) ⟨e,?_⟩⟩)
 rw[L];exact⟨.ref _,_,I.lnew (t':=s.toks) (r.rep k.toNat) (by rw[OS,Yh];exact hz),rfl,q _ I.fresh⟩
end
end L2
namespace Att
open PySem PySem.W PySem.Calls PyProof.Rows
theorem wt {P:Params} {h:Ui}:∀(ns:N') (vs:E'),WellAll P h vs (ns.map WData.int)->IntsAre vs ns:=by
 intro ns
 induction ns with
 | nil=>
   intro vs w;rw[Yf] at w;cases w;exact .nil
 | cons n ns ih=>
   intro vs w;rw[Uq] at w;cases w with
   | cons a b=>
     cases a;exact .cons _ _ (ih _ b)
theorem Hl {l:ZM} {n:Nat} (hn:l.most=a' n) {P:Params} {h:Ui} {args:eE WData}
  (L:l.row.toRowW.claim.pre args=true) (θ:WellAll P h bv args):
  ∃a vs ns,bv=[T7 a]/\args=[WData.list (ns.map WData.int)]/\h.get? a=a' {cls:= .type "list",data:= .seq vs.toArray}/\IntsAre vs ns/\ns.length<=n:=by
 have δ:WShape.hasAll [] args [.list .int]=true:=(pre_splitW L).1;have ε:l.pre.holds [] {args:=args}=true:=(pre_splitW L).2;obtain⟨d,r,rfl,h1,h2⟩:=hasAllW_cons δ;obtain rfl:=hasAllW_nil h2;obtain⟨xs,rfl,ζ⟩:=hasW_list h1;obtain⟨ns,rfl⟩:=items_int ζ
 have Y:ns.length<=n:=by
  unfold OpenLaw.pre at ε
  have β:(WTm.not (.lt (.lit (.int (n:Int))) (.len (.arg 0)))).holds [] {args:=[.list (ns.map .int)]}=true:=by
   have β:=(holds_andW ε).1;rw[hn] at β;exact β
  have α:=condW_of β (w_not (w_lt w_lit (w_len_list (w_arg rfl))));rw[bx] at α;refine Yn λq=>?_;have γ:(n:Int) < ((ns.length:Nat):Int):=by omega
  first
   | (rw[gB γ] at α;exact hD α @C)
   | (simp at α;omega)
 cases θ with
 | cons ω η=>
   cases η;cases ω with
   | list ho Z=>exact⟨_,_,ns,rfl,rfl,ho,wt ns _ Z,Y⟩
theorem HW (l:ZM) (args:eE WData):l.row.toRowW.claim.post args (.bool true) args=true:=
 postW_of (r:=l.row.toRowW) (X:=(true == true))
  (show ad1 [] (.bool true) .bool=true by first | rfl | decide | simp[ad1,WShape.arms,WShape.armsAll])
  (show(WTm.eq .res (.lit (.bool true))).value [] {args:=args,res:=a' (.bool true),after:=args}=a' (.bool (true == true)) from w_eq_bool (w_res rfl) w_lit) rfl
theorem attach_call {l:ZM} {n:Nat} {q:Tv} {ζ:F'->Ui->Prop} {ρ:U1->Ui->Prop} {d:DefRec}
  (hn:l.most=a' n) (τ:d.params.defaults=[])
  (call:∀(w:U1) (s₀ L:px) (mg ι:F') (Z:eH) (o:ZC) (ξ ν υ:sC) (a:eH) (vs:E') (ns:N'),
   Ground q N [] ζ w s₀ mg ι L.heap->ρ w L.heap->
   L.heap.get? Z=a' o->o.data= .func (docDef d.name d.params d.body d.scope ξ ν υ)->L.heap.CodeRec ν d.name->mg d.name=a' (.ref Z)->
   L.heap.get? a=a' {cls:= .type "list",data:= .seq vs.toArray}->IntsAre vs ns->ns.length<=n->L.gens=#[]->
   codeAny (xY l.prog w) callerA (.call (.ref Z) ⟨[.ref a],[]⟩) (λr s'=>r= .ok (.ret (.bool true))/\OldK L.heap s'.heap/\s'.os=L.os/\AllBare s'.gens) L):
  WalkO q N ζ ρ l.row.toRowW d [] (λf vs=>Zx f vs):=by
 intro w s₀ L mg ι G Y Z o ξ ν υ dV kV ho hd π α ο hg args φ as δ χ ψ θ a0;obtain rfl:dV= .none:=Dflts.none α τ;obtain rfl:kV= .none:=Dflts.noKw α;obtain⟨a,vs,ns,rfl,rfl,ε,γ,η⟩:=Hl hn δ θ;refine enter_call (Xx (call w s₀ L mg ι Z o ξ ν υ a vs ns G Y ho (fd_plain hd) π ο ε γ η hg) λr s' ω=>?_);obtain⟨rfl,h2,h3,h4⟩:=ω;exact⟨.inl ⟨.bool true,.bool true,[],rfl,λ_=>rfl,.bool true,HW l _,λ_=>⟨YB,λ_ hm=>(nomatch hm)⟩⟩,h2,h3,h4⟩
end Att
namespace L2
open PySem PySem.Spec PyProof.Rows
theorem uR:∀{vs:E'} {ns:N'},IntsAre vs ns->Vals (ns.map V.int) vs
 | _,_,.nil=> .nil
 | _,_,.cons n t h=> .cons ⟨t,rfl⟩ (uR h)
def Only (H:Hp):Prop:=∀b,H b=f'∨∃o xs,H b=a' (.frz o (.lst xs))
theorem LK {P:Tv} {w:U1} {K:dt} {k:Nat} {x:T3} {L:px} {vs:E'}
  (δ:K.In L.heap) (ω:L.heap.Ns TV mg) (hb:L.heap.Ns builtinsNs mA) (ο:∀x:T3,x≠"__name__"->mA x=bootBuiltins x) (θ:L.heap.NoLimit) (hg:L.gens=#[])
  (ha:L.heap.get? a=a' {cls:= .type "list",data:= .seq vs.toArray}) (hi:IntsAre vs ns) (hl:ns.length<=hR) (hr:Room k callerA)
  (F:∀base:Ui,K.In base->base.Ns TV mg->FnOk P w K mg base CX k Z fd [x] sp) (α:∀(s:px) (u:sC),BindsTo s fd ⟨[u],[]⟩ [(x,u)])
  (η:∀H:Hp,Only H->SqL K H a (ns.map V.int)->sp [.ref a] H (λv _=>v= .bl true) λ_ _ _=>False)
  (π:∀H e s',CX [] H L (λ_ _ _=>False) e s'->False):
  codeAny (xY P w) callerA (.call (.ref Z) ⟨[.ref a],[]⟩) (λr s'=>r= .ok (.ret (.bool true))/\OldK L.heap s'.heap/\s'.os=L.os/\AllBare s'.gens) L:=by
 have χ:=uR hi;have ζ:=hi.length
 have Y:∀H:Hp,Only H->SqL K H a (ns.map V.int)->HOk P w H L.heap->(∀b,H b≠f'->b=a)->(H a≠f'->K.lookup a=f')->
   codeAny (xY P w) callerA (.call (.ref Z) ⟨[.ref a],[]⟩) (λr s'=>r= .ok (.ret (.bool true))/\OldK L.heap s'.heap/\s'.os=L.os/\AllBare s'.gens) L:=by
  intro H hO hS hok ψ hK;have ν:∀{b:eH} {o:ZC},L.heap.get? b=a' o->H b=f'->(hidT L.heap H).get? b=a' o:=λe n=>LS e n
  have ξ:∀{b:eH} {o:ZC} {es:aa6 DictEntry} {ep:Nat},L.heap.get? b=a' o->o.data= .dict es ep->H b=none:=λ{b o es ep} e d=>by
   cases q:H b with
   | none=>rfl
   | some u=>
     have ρ:b=a:=ψ b (by rw[q];simp);subst ρ;rw[ha] at e;cases e;have d':Data.seq vs.toArray _=Data.dict es ep:=d;cases d'
  have υ:∀{b:eH} {m:F'},L.heap.Ns b m->(hidT L.heap H).Ns b m:=λ{b m} ⟨o,es,ep,e,d,r⟩=>⟨o,es,ep,ν e (ξ e d),d,r⟩
  have φ:K.In (hidT L.heap H):=λb o e=>ν (δ b o e) (by
   cases q:H b with
   | none=>rfl
   | some u=>
     have ρ:b=a:=ψ b (by rw[q];simp);subst ρ;rw[hK (by rw[q];simp)] at e;cases e)
  have ε:Mod K mg (hidT L.heap H):=⟨φ,υ ω,⟨mA,υ hb,ο⟩,let ⟨mc,h1,h2⟩:=θ;⟨mc,υ h1,h2⟩⟩;have e0:Env0 P w K mg (hidT L.heap H) callerA [] L H:=⟨rfl,ε,λb o e=>OK e,YR (Jf _ _),trivial,λb hb=>hD (show b∈([]:M') from hb) @E,hok,.of_eq hg⟩;refine Xx ((F _ φ (υ ω)).run callerA [] L H ⟨[.ref a],[]⟩ [.ref a] [.ref a] _ _ hr e0 (α L (.ref a)) (.cons rfl .nil) (η H hO hS)) λr s' h=>?_;cases r with
  | error e=>exact(π H e s' h).elim
  | ok G=>
    cases G with
    | next=>exact Uk h
    | brk=>exact Uk h
    | cont=>exact Uk h
    | ret u=>
      obtain⟨v,H',os,bare,un,τ,r',q⟩:=h;have γ:v= .bl true:=q;subst γ;obtain rfl:u=Zv true:=r';refine⟨rfl,OldK.of_keep λb o e=>?_,os,bare⟩;cases q:H b with
      | none=>exact un.keep b o e q (by intro z;exact hD (show b∈([]:M') from z) @E) @E
      | some u=>
        rcases hO b with z | ⟨ob,xs,z⟩
        ·rw[q] at z;cases z
        ·have z2:=un.frzs b ob _ z;obtain⟨e1,_⟩:=hok b _ z;obtain⟨e2,_⟩:=τ b _ z2;rw[e] at e1;cases e1;exact e2
 cases hk:K.lookup a with
 | some o=>
   have e:=δ a o hk;rw[ha] at e;cases e;refine Y (λ_=>f') (λ_=> .inl rfl) (.inr ⟨_,vs.toArray,_,hk,rfl,rfl,rfl,by rw[TJ,ζ];exact hl,by simpa using χ⟩) (λb u z=>by have β:(f':T8 HO)=a' u:=z;cases β) (λb z=>hD rfl z) λz=>hD rfl z
 | none=>
   refine Y (λb=>if b=a then a' (.frz {cls:= .type "list",data:= .seq vs.toArray} (.lst (ns.map V.int))) else f') (λb=>?_) (.inl (.inr ⟨{cls:= .type "list",data:= .seq vs.toArray},wb rfl⟩)) (λb u z=>?_) (λb z=>?_) λ_=>hk
   ·by_cases hb:b=a
    ·exact .inr ⟨_,_,wb hb⟩
    ·exact .inl (qb hb)
   ·by_cases hb:b=a
    ·have β:=(wb hb).symm.trans z;cases β;subst hb;exact⟨ha,by rw[bx];exact hl,vs,_,χ,ha⟩
    ·have β:=(qb hb).symm.trans z;cases β
   ·by_cases hb:b=a
    ·exact hb
    ·exact hD (qb hb) z
theorem walk_of {l:PySem.W.OpenLaw} {n k:Nat} {q:Tv} {ζ:F'->Ui->Prop} {ρ:U1->Ui->Prop} {d:DefRec} {K:Params->dt} {CX:U1->CXT} {sp:U1->Sp} {x:T3}
  (hn:l.most=a' n) (φ:n<=hR) (τ:d.params.defaults=[]) (θ:Room k callerA)
  (π:∀(w:U1) (h:Ui),ρ w h->(K w.params).In h)
  (F:∀(w:U1) (mg:F') (Z:eH) (h:Ui),(K w.params).In h->h.Ns TV mg->mg d.name=a' (.ref Z)->
   ∃fd:hN,(∀(s:px) (u:sC),BindsTo s fd ⟨[u],[]⟩ [(x,u)])/\
     ∀base:Ui,(K w.params).In base->base.Ns TV mg->FnOk l.prog w (K w.params) mg base (CX w) k Z fd [x] (sp w))
  (η:∀(w:U1) (H:Hp) (a:eH) (ns:N'),ns.length<=n->Only H->SqL (K w.params) H a (ns.map V.int)->sp w [.ref a] H (λv _=>v= .bl true) λ_ _ _=>False)
  (ν:∀(w:U1) (H:Hp) (s:px) (e:sC) (s':px),CX w [] H s (λ_ _ _=>False) e s'->False):
  PySem.W.WalkO q N ζ ρ l.row.toRowW d [] (λf vs=>Zx f vs):=by
 refine Att.attach_call hn τ λw s₀ γ mg mb Z o ω cd υ a vs ns G Y ho hd ο ι ε β L ξ=>?_;have δ:=π w _ Y;obtain⟨fd,hb,ψ⟩:=F w mg Z _ δ G.T.g ι;exact LK δ G.T.g G.T.b G.T.builtins G.T.nolimit ξ ε β (Vg L φ) θ ψ hb (λH hO χ=>η w H a ns L hO χ) λH e s'=>ν w H γ e s'
noncomputable def bH (s:Wr) (j:Nat):Stmt:=match s with
 | .ClassDef _ _ _ G _ _ _ _ _ _ _=>G.getD j (.Pass ⟨0,0,0,0⟩)
 | _=> .Pass ⟨0,0,0,0⟩
noncomputable def iy (s:Wr):Arguments:=match s with
 | .FunctionDef _ a _ _ _ _ _ _ _ _=>a
 | _=>{posonlyargs:=[],args:=[],vararg:=f',kwonlyargs:=[],kw_defaults:=[],kwarg:=f',defaults:=[]}
noncomputable def fz (s:Wr):eE Stmt:=match s with
 | .FunctionDef _ _ b _ _ _ _ _ _ _=>b
 | _=>[]
noncomputable def ag (s:Wr):Scope:=match s with
 | .FunctionDef _ _ _ _ _ _ ε _ _ _=>ε
 | _=>{kind:= .function,names:=[],isGenerator:=false,isCoroutine:=false}
noncomputable abbrev CX0:CXT:=λ_ _ _ _ _ _=>False
noncomputable abbrev E0:XK:=λ_ _ _=>False
theorem b0:rS CX0 X E0:=λ_ _ _ _ _ _ _ h=>h.elim
structure Fun (K:dt) (x qual:T3) (st:Wr) (f:eH) (fd:hN):Prop where
 ex:∃(oc:sC) (od:P') (kV doc pm:sC) (an:P') (cdv ct:sC) (osl:K'),
  fd=UN x qual (iy st) (fz st) (ag st) .none kV doc pm an cdv ct/\K.lookup f=a' ⟨oc,od,.func fd,osl⟩/\VH K cdv qual=true
 kp:UO K (.ref f)=true
section
variable {P:Tv} {w:U1} {K:dt} {mg:F'} {base:Ui}
theorem Fun.ok {x L:T3} {st:Wr} {f:eH} {ps:B'} {k:Nat} (F:Fun K x L st f fd) (S:av N ps (ag st)) (len:∀vs H Q E,sp vs H Q E->vs.length=ps.length)
  (π:∀(Y:sC) (A:TQ) (outer:eE Env) (s:px) (H:Hp) (vs:eE V) (Q:VK) (E:XK),Room k (A.deeper (envOfC L (ag st) s.heap.objs.size f Y))->sp vs H Q E->
   ∃t,PSs (cxOf CX0 P w K mg base N L (ag st) f Y A outer s H E).nox (fz st) t/\t {nx:=λ_ H'=>Q .non H',rt:=Q} (start N vs) H):FnOk P w K mg base CX0 (k + 1) f fd ps sp:=by
 obtain⟨γ,od,kV,υ,G,an,Y,ct,α,rfl,lk,Z⟩:=F.ex;refine O7 lk Z S len λA outer s H vs Q E β η=>?_;obtain⟨t,h,q⟩:=π Y A outer s H vs Q E β η;exact⟨t,h.nox,q⟩
theorem Fun.okA {x:T3} {st:Wr} {f:eH} {ps:B'} {k:Nat} (F:Fun K x z st f fd) (S:av N ps (ag st))
  (π:∀(L:sC) (A:TQ) (outer:eE Env) (s:px) (H:Hp) (vs:eE V) (Q:VK) (E:XK),Room k (A.deeper (envOfC z (ag st) s.heap.objs.size f L))->sp vs H Q E->
   ∃t,PSs (cxOf CX0 P w K mg base N z (ag st) f L A outer s H E).nox (fz st) t/\t {nx:=λ_ H'=>Q .non H',rt:=Q} (start N vs) H) (len:∀vs H Q E,sp vs H Q E->vs.length=ps.length:=by walk_at "n"):FnOk P w K mg base CX0 (k + 1) f fd ps sp:=F.ok S len π
theorem Fun.binds {x L:T3} {st:Wr} {f:eH} {ps:B'} (F:Fun K x L st f fd)
  (h:∀(kV υ G:sC) (an:P') (Y ct:sC) (us:E'),us.length=ps.length->bindArgs (UN x L (iy st) (fz st) (ag st) .none kV υ G an Y ct) ⟨us,[]⟩=pure (ps.zip us)):qH K fd ps []:=by
 obtain⟨β,od,kV,υ,G,an,Y,ct,Z,rfl,lk,α⟩:=F.ex;exact .all (h kV υ G an Y ct)
theorem M7 {x L:T3} {st:Wr} {f:eH} {Z:K'} (l:K.lookup f=a' ⟨u,ut,.func (UN x L (iy st) (fz st) (ag st) .none dv ic ii an ik ct),Z⟩)
  (c:VH K ik L=true) (k:UO K (.ref f)=true):Fun K x L st f (UN x L (iy st) (fz st) (ag st) .none dv ic ii an ik ct):=⟨⟨u,ut,dv,ic,ii,an,ik,ct,Z,rfl,l,c⟩,k⟩
end
theorem rz {A:TQ} {k:Nat} (G:Room k A):A.units + 1 < cLine:=Uu (Nat.add_le_add_left (by decide:1<=64) _) G.units
theorem aM {n:Nat} (h:n<=1000):n < sizeLine:=Uu h @C
section
variable {X:Cx}
theorem pv (i:Nat) {x:T3} (γ:X.N[i]? =a' x:=by rfl) (L:Vis X.env.scope x:=by first | exact WA rfl | exact Wf (WA rfl) | exact Wf (Wf rfl)) (hd:(x == ("__debug__":T3))=false:=by decide)
  (G:(x == ("__classdict__":T3))=false:=by decide):PE X (.Name x pos) (tVar i):=Q3 γ L hd G
end
theorem ite2 {c A B:Prop} [Decidable c] (h1:c->A) (h2:¬c->B):if c then A else B:=by
 by_cases h:c
 ·rw[wb h];exact h1 h
 ·rw[qb h];exact h2 h
def Same (H H':Hp):Prop:=∀b o,H b=a' o->H' b=a' o
theorem Same.refl (H:Hp):Same H H:=λ_ _ h=>h
theorem Same.trans (a:Same H H1) (b:Same H1 H2):Same H H2:=λc o h=>b c o (a c o h)
theorem Same.free (e:Same H H') (h:H' l=Option.none):H l=Option.none:=by
 cases q:H l with
 | none=>rfl
 | some o=>
   rw[e l o q] at h;cases h
theorem Same.seq {K:dt} {xs:eE V} (e:Same H H') (h:SqL K H a xs):SqL K H' a xs:=by
 rcases h with (h | ⟨o,h⟩) | h
 ·exact .inl (.inl (e _ _ h))
 ·exact .inl (.inr ⟨o,e _ _ h⟩)
 ·exact .inr h
section
variable {κ:Type} [DecidableEq κ]
noncomputable def valV (kvs:eE (κ×V)) (k:κ):T8 V:=(kvs.find? λG=>decide (G.1=k)).map (·.2)
noncomputable def putK (kvs:eE (κ×V)) (k:κ) (v:V):eE (κ×V):=
 if (kvs.any λG=>decide (G.1=k))=true then kvs.map (λG=>if G.1=k then (G.1,v) else G) else kvs++[(k,v)]
theorem mi {p:κ×V} {r:eE (κ×V)} {k:κ} (e:p.1=k):valV (p::r) k=a' p.2:=by simp[valV,Wm,e]
theorem mj {p:κ×V} {r:eE (κ×V)} {k:κ} (e:¬p.1=k):valV (p::r) k=valV r k:=by simp[valV,Wm,e]
theorem qI (k:κ):∀kvs:eE (κ×V),(kvs.any λG=>decide (G.1=k))=(valV kvs k).isSome
 | []=>rfl
 | p::r=>by
   rw[XD];by_cases e:p.1=k
   ·simp only[mi e,gB e,Bool.true_or,Option.isSome_some]
   ·rw[mj e,gn e,Bool.false_or];exact qI k r
theorem vX (kvs:eE (κ×V)) (k:κ) (v:V):(putK kvs k v).length<=kvs.length + 1:=by
 unfold putK;split
 ·rw[bx];omega
 ·rw[eP,U4,Y3];omega
theorem RelO.isSome_eq {o:T8 V} {u:T2} (r:RelO o u):o.isSome=u.isSome:=by
 cases o with
 | none=>cases u with
   | none=>rfl
   | some _=>exact(show False from r).elim
 | some _=>cases u with
   | none=>exact(show False from r).elim
   | some _=>rfl
theorem KV.val {kvs:eE (κ×V)} {vs:eE (κ×sC)} (r:KV kvs vs) (k:κ):RelO (valV kvs k) (valueAt vs k):=by
 unfold KV at r
 induction r with
 | nil=>exact Xg
 | @cons p q ps qs h t ih=>
   obtain⟨h1,h2⟩:=h;by_cases e:p.1=k
   ·have G:q.1=k:=h1.symm.trans e;have b:valueAt (q::qs) k=a' q.2:=by simp[valueAt,Wm,G]
    rw[mi e,b];exact h2
   ·have G:¬q.1=k:=λz=>e (h1.trans z);have b:valueAt (q::qs) k=valueAt qs k:=by simp[valueAt,Wm,G]
    rw[mj e,b];exact ih
theorem KV.any {kvs:eE (κ×V)} {vs:eE (κ×sC)} (r:KV kvs vs) (k:κ):(kvs.any λG=>decide (G.1=k))=vs.any λG=>decide (G.1=k):=by
 unfold KV at r
 induction r with
 | nil=>rfl
 | cons h t ih=>rw[XD,XD,ih,h.1]
theorem KV.repl {kvs:eE (κ×V)} {vs:eE (κ×sC)} (r:KV kvs vs) (k:κ) {y:V} (L:RelV y u):
  KV (kvs.map λG=>if G.1=k then (G.1,y) else G) (vs.map λG=>if G.1=k then (G.1,u) else G):=by
 unfold KV at r ⊢
 induction r with
 | nil=>exact .nil
 | @cons p q ps qs h t ih=>
   rw[Uq,Uq];refine .cons ?_ ih;obtain⟨h1,h2⟩:=h;by_cases e:p.1=k
   ·rw[wb e,wb (h1.symm.trans e)];exact⟨h1,L⟩
   ·rw[qb e,qb (λz=>e (h1.trans z))];exact⟨h1,h2⟩
theorem KV.put {kvs:eE (κ×V)} {vs:eE (κ×sC)} (r:KV kvs vs) (k:κ) {y:V} (G:RelV y u):KV (putK kvs k y) (stored vs k u):=by
 unfold putK stored;rw[r.any k];by_cases e:(vs.any λL=>decide (L.1=k))=true
 ·rw[wb e,wb e];exact r.repl k G
 ·rw[qb e,qb e];exact ac7 r ⟨rfl,G⟩
theorem KV.keys {kvs:eE (κ×V)} {vs:eE (κ×sC)} (r:KV kvs vs):kvs.map (·.1)=vs.map (·.1):=by
 unfold KV at r
 induction r with
 | nil=>rfl
 | cons h t ih=>rw[Uq,Uq,ih,h.1]
theorem KV.length {kvs:eE (κ×V)} {vs:eE (κ×sC)} (r:KV kvs vs):kvs.length=vs.length:=Yy r
end
theorem FM {P:Tv} {w:U1} {k:Key} (r:RelV (kV k) u):(dz P w).is k u=true:=by
 cases k with
 | inl i=>obtain⟨t,e⟩:=(show ∃t,u=YS i t from r);subst e;exact Cn P w i t
 | inr x=>obtain⟨t,e⟩:=(show ∃t,u=Y8 x t from r);subst e;exact Cm P w x t
theorem AW {P:Tv} {w:U1}:∀{ks:eE Key} {us:E'},Vals (ks.map kV) us->ItemsAre (dz P w) ks us
 | [],_,r=>by rw[Yf] at r;cases r;exact .nil
 | k::ks,_,r=>by
   rw[Uq] at r;cases r with
   | cons h t=>exact .cons (FM h) (AW t)
noncomputable abbrev KT (H:Hp):eE (eE Key×V)->eE (eE Key×eH×sC)->Prop:=Paired λp q=>p.1=q.1/\H q.2.1=a' (.tup (p.1.map kV))/\RelV p.2 q.2.2
theorem KT.val {kvs:eE (eE Key×V)} {xs:eE (eE Key×eH×sC)} (r:KT H kvs xs) (k:eE Key):RelO (valV kvs k) ((atKey xs k).map (·.2)):=by
 induction r with
 | nil=>exact Xg
 | @cons p q ps qs h t ih=>
   obtain⟨h1,_,h2⟩:=h;by_cases e:p.1=k
   ·have G:q.1=k:=h1.symm.trans e;have b:atKey (q::qs) k=a' q.2:=by simp[atKey,Wm,G]
    rw[mi e,b];exact h2
   ·have G:¬q.1=k:=λz=>e (h1.trans z);have b:atKey (q::qs) k=atKey qs k:=by simp[atKey,Wm,G]
    rw[mj e,b];exact ih
theorem KT.repl {kvs:eE (eE Key×V)} {xs:eE (eE Key×eH×sC)} (r:KT H kvs xs) (k:eE Key) {y:V} (L:RelV y u):
  KT H (kvs.map λG=>if G.1=k then (G.1,y) else G) (xs.map (putAt k u)):=by
 induction r with
 | nil=>exact .nil
 | @cons p q ps qs h t ih=>
   rw[Uq,Uq];refine .cons ?_ ih;obtain⟨h1,h2,Y⟩:=h;unfold putAt;by_cases e:p.1=k
   ·rw[wb e,wb (h1.symm.trans e)];exact⟨h1,h2,L⟩
   ·rw[qb e,qb (λz=>e (h1.trans z))];exact⟨h1,h2,Y⟩
theorem KT.put {kvs:eE (eE Key×V)} {xs:eE (eE Key×eH×sC)} (r:KT H kvs xs) (k:eE Key) {b:eH} {y:V} (hb:H b=a' (.tup (k.map kV))) (G:RelV y u):
  KT H (putK kvs k y) (storedH xs k b u):=by
 have e:(kvs.any λL=>decide (L.1=k))=(atKey xs k).isSome:=by
  rw[qI,(r.val k).isSome_eq,Y4]
 unfold putK storedH;rw[e];by_cases q:(atKey xs k).isSome=true
 ·rw[wb q,wb q];exact r.repl k G
 ·rw[qb q,qb q];exact ac7 r ⟨rfl,hb,G⟩
theorem KT.keeps {kvs:eE (eE Key×V)} {xs:eE (eE Key×eH×sC)} (r:KT H kvs xs) (ht:∀b ys,H b=a' (.tup ys)->H' b=a' (.tup ys)):KT H' kvs xs:=
 Paired.mapP r λ_ _ z=>⟨z.1,ht _ _ z.2.1,z.2.2⟩
section
variable {P:Tv} {w:U1} {H:Hp} {h:Ui} {a:eH}
theorem QI {u:HO} (ok:HOk P w H h) (e:Rd H a u):gX P w H h a u:=e.ok ok
theorem JG (ok:HOk P w H h) (e:Rd H a (.dK kvs)):kvs.length<=hR/\(a == sysModules)=false/\∃vs,KV kvs vs/\h.DictOf (dz P w) a vs:=
 show gX P w H h a (.dK kvs) from QI ok e
theorem RY (ok:HOk P w H h) (e:H a=a' (.dK kvs)):kvs.length<=hR/\(a == sysModules)=false/\∃vs,KV kvs vs/\h.DictOf (dz P w) a vs:=JG ok (.inl e)
theorem AU {ks:eE Key} (ok:HOk P w H h) (e:H a=a' (.tup (ks.map kV))):(tupleKind (dz P w)).is h ks a:=by
 obtain⟨_,its,r,o,h1,h2,n,G⟩:=(show gX P w H h a (.tup (ks.map kV)) from ok a _ e);exact⟨o,its.toArray,n,h1,h2,G,by simpa using AW r⟩
theorem JF {kvs:eE (eE Key×V)} (ok:HOk P w H h) (e:Rd H a (.dT kvs)):kvs.length<=hR/\(a == sysModules)=false/\
  ∃xs,KT H kvs xs/\h.DictOfH (tupleKind (dz P w)) a xs:=by
 obtain⟨z,y,xs,r,o,es,ep,h1,h2,Z,Y,L⟩:=(show gX P w H h a (.dT kvs) from QI ok e);refine⟨z,y,xs,r,o,es,ep,h1,h2,Z,Y,λx hx=>?_,L⟩
 have all:∀{l:eE (eE Key×V)} {m:eE (eE Key×eH×sC)},KT H l m->∀x∈m,(tupleKind (dz P w)).is h x.1 x.2.1:=by
  intro l m q
  induction q with
  | nil=>intro x hx;exact nomatch hx
  | @cons p q ps qs G t ih=>
    intro x hx;rcases Tn.mp hx with e | hx
    ·subst e;exact AU ok (by rw[<-G.1];exact G.2.1)
    ·exact ih x hx
 exact all r x hx
theorem Tc {kvs:eE (eE Key×V)} (ok:HOk P w H h) (e:H a=a' (.dT kvs)):kvs.length<=hR/\(a == sysModules)=false/\
  ∃xs,KT H kvs xs/\h.DictOfH (tupleKind (dz P w)) a xs:=JF ok (.inl e)
end
def DGet (H:Hp) (a:eH) (y:V) (r:T8 V):Prop:=
 (∃kvs k,Rd H a (.dK kvs)/\y=kV k/\r=valV kvs k)∨∃kvs k b,Rd H a (.dT kvs)/\y= .ref b/\H b=a' (.tup (k.map kV))/\r=valV kvs k
def DPut (H:Hp) (a:eH) (y v:V) (H':Hp):Prop:=
 (∃kvs k,H a=a' (.dK kvs)/\y=kV k/\kvs.length < hR/\H'=upd H a (.dK (putK kvs k v)))∨
 ∃kvs k b,H a=a' (.dT kvs)/\y= .ref b/\H b=a' (.tup (k.map kV))/\kvs.length < hR/\H'=upd H a (.dT (putK kvs k v))
theorem DGet.k {k:Key} (e:H a=a' (.dK kvs)):DGet H a (kV k) (valV kvs k):= .inl ⟨kvs,k,.inl e,rfl,rfl⟩
theorem DPut.k {k:Key} (e:H a=a' (.dK kvs)) (hl:kvs.length < hR):DPut H a (kV k) v (upd H a (.dK (putK kvs k v))):= .inl ⟨kvs,k,e,rfl,hl,rfl⟩
section
variable {X:Cx} {pins:D'} {σ:St} {H:Hp} {s:px} {a:eH} {y v:V} {u r:sC} {o:T8 V} {A:TQ} {E:Cr}
theorem Inv.big (I:Inv X pins σ H s):sysModules < s.heap.objs.size:=by
 have h:TV < s.heap.objs.size:=(I.mod.glob.keeps I.bk).lt;exact Yi @C h
theorem JR {Q:Cr} (hu:A.units + 1 < cLine) (I:Inv X pins σ H s) (g:DGet H a y (a' v)) (Y:RelV y u) (h:∀α s',Inv X pins σ H s'->RelV v α->Q α s'):
  n' (xY X.prog X.w) A (getItem (.ref a) u) Q E s:=by
 rcases g with ⟨kvs,k,e,ey,l⟩ | ⟨kvs,k,b,e,ey,β,l⟩
 ·subst ey;obtain⟨z,hd,vs,rel,dd⟩:=JG I.hok e;obtain⟨α,hw,G⟩:=RelO.some_of (v:=v) (o:=valueAt vs k) (by rw[l];exact rel.val k);exact wpAny_getItem_of (FM Y) dd.mapOf hw (h α _ (I.tok _) G)
 ·subst ey;cases(show u=T7 b from Y);obtain⟨z,hd,xs,rel,dd⟩:=JF I.hok e;obtain⟨α,hw,G⟩:=RelO.some_of (v:=v) (o:=(atKey xs k).map (·.2)) (by rw[l];exact rel.val k);obtain⟨p,Z,L⟩:=VF.mp hw;refine wpAny_getItem_heap (Xb hu) (AU I.hok β) dd Z ?_;rw[L];exact h α _ (I.tok _) G
theorem d_in {Q:Cr} (hu:A.units + 1 < cLine) (I:Inv X pins σ H s) (g:DGet H a y o) (G:RelV y u) (h:∀s',Inv X pins σ H s'->Q (.bool o.isSome) s'):
  n' (xY X.prog X.w) A (compareOp .In u (.ref a)) Q E s:=by
 rcases g with ⟨kvs,k,e,ey,l⟩ | ⟨kvs,k,b,e,ey,L,l⟩
 ·subst ey;obtain⟨z,hd,vs,rel,dd⟩:=JG I.hok e;refine wpAny_in_of (FM G) hd dd.mapOf ?_;rw[<-(rel.val k).isSome_eq,<-l];exact h _ (I.tok _)
 ·subst ey;cases(show u=T7 b from G);obtain⟨z,hd,xs,rel,dd⟩:=JF I.hok e;refine wpAny_in_heap (Xb hu) (AU I.hok L) hd dd ?_;have q:=(rel.val k).isSome_eq;rw[Y4] at q;rw[<-q,<-l];exact h _ (I.tok _)
theorem Pb {Q:Cr} (hu:A.units + 1 < cLine) (I:Inv X pins σ H s) (g:DGet H a y o) (G:RelV y u) (h:∀s',Inv X pins σ H s'->Q (.bool (!o.isSome)) s'):
  n' (xY X.prog X.w) A (compareOp .NotIn u (.ref a)) Q E s:=by
 rcases g with ⟨kvs,k,e,ey,l⟩ | ⟨kvs,k,b,e,ey,L,l⟩
 ·subst ey;obtain⟨z,hd,vs,rel,dd⟩:=JG I.hok e;refine wpAny_notIn_of (FM G) hd dd.mapOf ?_;rw[<-(rel.val k).isSome_eq,<-l];exact h _ (I.tok _)
 ·subst ey;cases(show u=T7 b from G);obtain⟨z,hd,xs,rel,dd⟩:=JF I.hok e;refine wpAny_notIn_heap (Xb hu) (AU I.hok L) hd dd ?_;have q:=(rel.val k).isSome_eq;rw[Y4] at q;rw[<-q,<-l];exact h _ (I.tok _)
theorem JL {t':Nat} (I:Inv X pins σ H s) (L:Mut (H a)) (hs:WC a s.heap h') (he:∃q,h'.get? a=a' q) (G:gX X.prog X.w (upd H a eO) h' a eO):
  Inv X pins σ (upd H a eO) {s with heap:=h',toks:=t'}:=
 I.write (x:=a) (e:=a) L (.inl rfl) (λb q hb z=>(hs.2 b hb).trans z) he G
theorem RZ {P:Tv} {w:U1} {vs:eE (Key×sC)} (z:kvs.length<=hR) (hd:(a == sysModules)=false) (rel:KV kvs vs) (dd:h'.DictOf (dz P w) a vs):
  gX P w H' h' a (.dK kvs):=⟨z,hd,vs,rel,dd⟩
theorem JN {Q:L'} (hu:A.units + 1 < cLine) (I:Inv X pins σ H s) (g:DPut H a y v H') (Y:RelV y u) (Z:RelV v r) (h:∀s',Inv X pins σ H' s'->Q () s'):
  n' (xY X.prog X.w) A (setItem (.ref a) u r) Q E s:=by
 rcases g with ⟨kvs,k,e,ey,l,L⟩ | ⟨kvs,k,b,e,ey,α,l,L⟩
 ·subst ey L;obtain⟨z,hd,vs,rel,dd⟩:=RY I.hok e;have hz:vs.length<=sizeLine:=by rw[<-rel.length];exact z
  have hl:(putK kvs k v).length<=sizeLine:=by have:=vX kvs k v;omega
  refine wpAny_setItem_pairs (hsz:=hz) (FM Y) dd λh' φ hs=>h _ ?_;have he:∃q,h'.get? a=a' q:=let ⟨q,_,_,G,_⟩:=φ;⟨q,G⟩
  exact JL I (by rw[e];exact Xg) hs he (RZ hl hd (rel.put k Z) φ)
 ·subst ey L;cases(show u=T7 b from Y);obtain⟨z,hd,xs,rel,dd⟩:=Tc I.hok e;have hz:xs.length<=sizeLine:=by rw[<-Yy rel];exact z
  have hl:(putK kvs k v).length<=sizeLine:=by have:=vX kvs k v;omega
  refine wpAny_setItem_heap (hsz:=hz) (Xb hu) (AU I.hok α) dd λh' φ hs=>h _ ?_;obtain⟨q,es,ep,G,h2,δ,γ,_,β⟩:=φ;refine JL I (by rw[e];exact Xg) hs ⟨q,G⟩ ⟨hl,hd,_,(rel.put k α Z).keeps λc ys χ=>?_,q,es,ep,G,h2,δ,γ,β⟩;rw[aF (cC χ e (λz=>nomatch z))];exact χ
end
def NoSl (i:UF):Prop:=∀G ξ,subscripted i false G ξ=operate [G,ξ] (getItem G ξ)
theorem NS {w:U1} {A:TQ} {E:Cr} {Q:Cr}
  (hl:typeLookup (.type T) "__getitem__"=pure (a' (.builtin pu))) (hs:NoSl e)
  (h:n' (xY prog w) A (eval value env) (λo Y=>n' (xY prog w) A (eval e env) (λi β=>β.TypeIs o T/\n' (xY prog w) A (getItem o i) Q E β) E Y) E s):
  n' (xY prog w) A (eval (.Subscript value e pos) env) Q E s:=by
 refine ac6 (W1 h (λo Y h₁=>W1 h₁ (λi β ξ=>?_) λ_ _ x=>x) λ_ _ x=>x);obtain⟨hT,ξ⟩:=ξ;unfold subscriptTail;refine eS ?_;rw[getitemInPython_of_ne hT.not_modules];refine eS (WU hT hl ?_)
 have fin:n' (xY prog w) A (subscripted e false o i) (λr L=>n' (xY prog w) A (letTemporaryGo value o r >>=λ_=>pure r) Q E L) E β:=by
  rw[hs o i];exact wpAny_operating (W1 ξ (λr L Z=>eS (wpAny_letTemporaryGo (sA Z))) λ_ _ x=>x)
 first
  | exact sA (eS fin)
  | exact eS (sA (eS fin))
  | exact eS fin
theorem CP {y:V} {o:T8 V} (I:Inv X pins σ H s) (g:DGet H a y o):s.TypeIs (.ref a) "dict":=by
 rcases g with ⟨kvs,k,e,_,_⟩ | ⟨kvs,k,b,e,_,_,_⟩
 ·obtain⟨_,_,vs,_,dd⟩:=JG I.hok e;exact dd.typeIs
 ·obtain⟨_,_,xs,_,dd⟩:=JF I.hok e;exact dd.typeIs
noncomputable def P1 (td ty:TE):TE:=fun σ H Q=>td σ H λx H1=>ty σ H1 λy H2=>∃a v,x= .ref a/\DGet H2 a y (a' v)/\Q v H2
noncomputable def tDIn (ty td:TE):TE:=fun σ H Q=>ty σ H λy H1=>td σ H1 λx H2=>∃a o,x= .ref a/\DGet H2 a y o/\Q (.bl o.isSome) H2
noncomputable def GV (ty td:TE):TE:=fun σ H Q=>ty σ H λy H1=>td σ H1 λx H2=>∃a o,x= .ref a/\DGet H2 a y o/\Q (.bl (!o.isSome)) H2
noncomputable def QG (td ty tv:TE):TS:=λD σ H=>tv σ H λv H1=>td σ H1 λx H2=>ty σ H2 λy L=>∃a G,x= .ref a/\DPut L a y v G/\D.nx σ G
section
variable {X:Cx} {o i e value:UF} {pos pos' tpos:Pos} {td ty tv:TE}
theorem nR (hu:X.A.units + 1 < cLine) (ho:PE X o td) (hi:PE X i ty) (hs:NoSl i):PE X (.Subscript o i pos) (P1 td ty):=by
 intro pins s σ H Q I h;refine NS PySem.F.slot_dict_getitem.lookup hs (thn (ho pins s σ H _ I h) λu Y ⟨x,H1,ε,β,γ⟩=>thn (hi pins Y σ H1 _ ε γ) fun ξ η ⟨y,H2,L,Z,a,v,ex,g,χ⟩=>?_);subst ex;obtain rfl:u=T7 a:=β;exact⟨CP L g,JR hu L g Z fun α ζ δ G=>⟨v,H2,δ,G,χ⟩⟩
theorem HZ (hu:X.A.units + 1 < cLine) (hi:PE X i ty) (ho:PE X o td):PC X .In i o (tDIn ty td):=by
 intro pins s σ H Q I h;refine thn (hi pins s σ H _ I h) fun ξ G ⟨y,H1,δ,L,Z⟩=>thn (ho pins G σ H1 _ δ Z) λu ζ ⟨x,H2,γ,Y,a,α,ex,g,χ⟩=>?_;subst ex;obtain rfl:u=T7 a:=Y;exact d_in hu γ g L fun ε β=>⟨.bl α.isSome,H2,β,rfl,χ⟩
theorem HY (hu:X.A.units + 1 < cLine) (hi:PE X i ty) (ho:PE X o td):PC X .NotIn i o (GV ty td):=by
 intro pins s σ H Q I h;refine thn (hi pins s σ H _ I h) fun ξ G ⟨y,H1,δ,L,Z⟩=>thn (ho pins G σ H1 _ δ Z) λu ζ ⟨x,H2,γ,Y,a,α,ex,g,χ⟩=>?_;subst ex;obtain rfl:u=T7 a:=Y;exact Pb hu γ g L fun ε β=>⟨.bl (!α.isSome),H2,β,rfl,χ⟩
theorem y8 (hu:X.A.units + 1 < cLine) (ho:PE X o td) (hi:PE X i ty) (δ:PE X value tv) (hs:swapsWith value (a' (.Subscript o i pos')) pos.line X.env=pure false):
  PS X (.Assign [.Subscript o i pos'] value pos) (QG td ty tv):=by
 intro pins s σ H D I h;refine wpAny_Assign_Subscript (thn (δ pins s σ H _ I h) λr L ⟨v,H1,θ,α,γ⟩=>thn (ho pins L σ H1 _ θ γ) λu G ⟨x,H2,η,Z,χ⟩=>thn (hi pins G σ H2 _ η χ) fun ξ ο ⟨y,π,ζ,Y,a,ι,ex,g,β⟩=>?_) hs;subst ex;obtain rfl:u=T7 a:=Z;exact JN hu ζ g Y α fun ν ε=>⟨σ,ι,ε,β⟩
end
theorem Me {P:Tv} {w:U1} (h:Ui) (hb:sysModules < h.objs.size):gX P w H (h.push {cls:= .type "dict",data:= .dict #[]}) h.objs.size (.dK []):=
 ⟨UY _,TL.mpr (Ts (TB hb)),[],.nil,Za h⟩
noncomputable def MD:TE:=λ_ H Q=>∀p,H p=f'->Q (.ref p) (upd H p (.dK []))
section
variable {X:Cx} {pos:Pos}
theorem qS:PE X (.Dict [] [] pos) MD:=λpins s σ H Q I h=>
 wpAny_Dict_empty ⟨.ref s.heap.objs.size,_,I.laid (a:=s.heap.objs.size) (o:= .dK []) (t':=s.toks) (λ_ _ q=>fy _ q) (sb _) (Me s.heap I.big),rfl,h _ (I.hok.fresh (sb _))⟩
end
structure M1 (X:Cx) (o:UF) (m:T3) (apos:Pos) (e:UF) (cpos:Pos):Prop where
 base:attributeBase o m X.env (eval o X.env)=eval o X.env
 few:((backTo cpos (tu [e] X.env)).all (λx=> !x.1)&&(backToKw cpos (keywordEach [] X.env)).all (λx=>x.1.isSome)
  &&decide (([e]:eE UF).length + ([]:eE Keyword).length + (if ([]:eE Keyword).isEmpty then 0 else 1) < 30))=true
 line:(apos.endLine == cpos.line)=true
 trees:backTo cpos (tu [e] X.env)=[(false,eval e X.env)]
structure M2 (X:Cx) (o:UF) (m:T3) (apos:Pos) (e f:UF) (cpos:Pos):Prop where
 base:attributeBase o m X.env (eval o X.env)=eval o X.env
 few:((backTo cpos (tu [e,f] X.env)).all (λx=> !x.1)&&(backToKw cpos (keywordEach [] X.env)).all (λx=>x.1.isSome)
  &&decide (([e,f]:eE UF).length + ([]:eE Keyword).length + (if ([]:eE Keyword).isEmpty then 0 else 1) < 30))=true
 line:(apos.endLine == cpos.line)=true
 trees:backTo cpos (tu [e,f] X.env)=[(false,eval e X.env),(false,eval f X.env)]
section
variable {κ:Type} [DecidableEq κ]
theorem KG {kvs:eE (κ×V)} {k:κ} (h:valV kvs k=f'):¬k∈kvs.map (·.1):=by
 intro m;obtain⟨p,L,e⟩:=hF.mp m;have q:(kvs.any λG=>decide (G.1=k))=true:=W7.mpr ⟨p,L,gB e⟩;rw[qI,h] at q;exact hD q @E
theorem NM {kvs:eE (κ×V)} {k:κ} (h:valV kvs k=a' v):k∈kvs.map (·.1):=by
 have q:(kvs.any λG=>decide (G.1=k))=true:=by
  rw[qI,h]
  all_goals rfl
 obtain⟨p,L,e⟩:=W7.mp q;exact hF.mpr ⟨p,L,TF e⟩
end
end L2
set_option maxHeartbeats 4000000
namespace L2
open PySem PySem.Spec PyProof.Rows
section
variable {P0:Tv} {w0:U1} {A0:TQ} {R0:R'} {t0:px}
theorem F8 {δ:Env} (J:Nat->px->Prop)
  (ι:∀n s,J n s->n' (xY P0 w0) A0 (pyNext u) (λr G=>match r with
   | none=>R0 (.ok .next) G
   | some v=>n' (xY P0 w0) A0 (letOwnedTupleGo tg u v) (λ_ β=>n' (xY P0 w0) A0 (assign tg δ v) (λ_ Y=>
     n' (xY P0 w0) A0 (forIn α true λc r=>if r=true then do let ok <-isTrue c δ (eval c δ);pure (VT ok) else pure (VT r)) (λok ο=>
      if ok=true then n' (xY P0 w0) A0 (eval e δ) (λx η=>
       n' (xY P0 w0) A0 (call (.builtin "list.append") [ct,x]) (λ_ ζ=>∃m,m < n/\J m ζ) (λ_ _=>False) η) (λ_ _=>False) ο
      else ∃m,m < n/\J m ο) (λ_ _=>False) Y) (λ_ _=>False) β) (λ_ _=>False) G) (λ_ _=>False) s)
  (n:Nat) (h:J n t0):
  codeAny (xY P0 w0) A0 (.compLoop (.ListComp e [⟨tg,iter,α,0⟩] ε pos) 0 u ct δ) R0 t0:=by
 have no:∀{Z:Type} {t:Sem Z} {Q:Z->px->Prop} {E:Cr} {s:px},n' (xY P0 w0) A0 t Q (λ_ _=>False) s->n' (xY P0 w0) A0 t Q E s:=
  λh=>W1 h (λ_ _ q=>q) λ_ _ z=>z.elim
 refine codeAny_loop rfl J (λn s ρ=>?_) n h;show n' _ A0 ((compTurn (.ListComp e [⟨tg,iter,α,0⟩] ε pos) 0 u ct δ).onRaise (λx=>do noteFrame x δ;theTreesLotGoes x)) _ _ s;refine wpAny_noted ?_;rw[compTurn_list];refine eS (wpAny_standAt (eS (thn (no (ι n s ρ)) λr G h₁=>?_)));cases r with
 | none=>exact sA h₁
 | some v=>
   refine eS (thn (no h₁) λ_ β ξ=>?_);refine eS (thn (no ξ) λ_ Y ν=>eS (thn (no ν) λok ο L=>?_));cases ok with
   | false=>exact sA ⟨rfl,L⟩
   | true=>
     rw[wb rfl] at L;refine eS (eS (thn (no L) λx η ψ=>?_));refine eS (thn (no ψ) λ_ ζ χ=>?_);exact sA (sA ⟨rfl,χ⟩)
end
theorem tE (env:Env):∀(l:eE (T3×NameKind)) (L:S'),(∀y∈l,y.2= .free->∃c,env.cells.lookup y.1=a' c)->
  ∃r:S',(forIn l L (λ(x:T3×NameKind) (r:S')=>if x.2 == UA then (do let c <-cellOf env x.1;pure (VT ((x.1,c)::r))) else pure (VT r)):Sem S')=pure r/\
   (∀p∈r,p∈L∨env.cells.lookup p.1=a' p.2)/\(∀p∈L,p∈r)/\(∀y∈l,y.2= .free->∃c,(y.1,c)∈r)
 | [],L,_=>⟨L,rfl,λp Y=> .inl Y,λp Y=>Y,λy G=>nomatch G⟩
 | (x,k)::l,L,h=>by
   by_cases hk:k= .free
   ·subst hk;obtain⟨c,α⟩:=h (x,.free) u' rfl;obtain⟨r,e,h1,h2,Z⟩:=tE env l ((x,c)::L) λy G=>h y (p' _ G);refine⟨r,?_,λp Y=>?_,λp Y=>h2 p (p' _ Y),λy G hf=>?_⟩
    ·rw[Xp];have β:cellOf env x=pure c:=by unfold cellOf;rw[α]
     simp only[UR,Z4,β,pure_bind];exact e
    ·rcases h1 p Y with q | q
     ·rcases Tn.mp q with z | z
      ·subst z;exact .inr α
      ·exact .inl z
     ·exact .inr q
    ·rcases Tn.mp G with z | z
     ·subst z;exact⟨c,h2 _ u'⟩
     ·exact Z y z hf
   ·obtain⟨r,e,h1,h2,Z⟩:=tE env l L λy G=>h y (p' _ G);refine⟨r,?_,h1,h2,λy G hf=>?_⟩
    ·rw[Xp];have hb:(k == UA)=false:=by cases k<;>first | rfl | exact hD rfl hk
     simp only[hb,Bool.false_eq_true,if_false,pure_bind];exact e
    ·rcases Tn.mp G with z | z
     ·subst z;exact hD hf hk
     ·exact Z y z hf
theorem yI (ε:Xz) (env:Env) (h:∀y∈ε.names,y.2= .free->∃c,env.cells.lookup y.1=a' c):
  ∃G,closureFor ε env=pure G/\(∀p∈G,env.cells.lookup p.1=a' p.2)/\∀y∈ε.names,y.2= .free->∃c,(y.1,c)∈G:=by
 obtain⟨r,e,h1,h2,Y⟩:=tE env ε.names [] h;refine⟨r,?_,λp L=>(h1 p L).resolve_left (λz=>nomatch z),Y⟩;unfold closureFor;have:=e;simp only[bind_pure] at *
 exact e
theorem zu {κ β:Type} [BEq κ] [LawfulBEq κ]:∀{l:eE (κ×β)} {x:κ} {c:β},(x,c)∈l->∃ξ,l.lookup x=a' ξ
 | [],_,_,h=>nomatch h
 | (y,d)::l,x,c,h=>by
   by_cases e:x=y
   ·subst e;exact⟨d,by simp[Wv]⟩
   ·have hb:(x == y)=false:=TL.mpr e;rcases Tn.mp h with z | z
    ·exact hD (T4 Zi z) e
    ·obtain⟨ξ,q⟩:=zu z;exact⟨ξ,by rw[Wv,hb];exact q⟩
theorem qR {env:Env}:∀{names:eE (T3×NameKind)} {x:T3} {L:NameKind},
  (names.map λ(n,k)=>if (k == UA&&env.scope.kind == .function&&env.kindOf n == a' .cell) then (n,Wc) else (n,k)).lookup x=a' L->∃k,(x,k)∈names/\(L=k∨k= .free)
 | [],_,_,h=>by cases h
 | (y,k)::l,x,L,h=>by
   rw[Uq,Wv] at h;by_cases e:x=y
   ·subst e;by_cases G:(k == UA&&env.scope.kind == .function&&env.kindOf x == a' .cell)=true
    ·refine⟨k,u',.inr ?_⟩;rw[TZ,TZ] at G;exact eq_of_beq G.1.1
    ·refine⟨k,u',.inl ?_⟩;simp only[qb G,UR] at h;exact(zx h).symm
   ·have hb:(x == y)=false:=TL.mpr e
    have h':(l.map λ(n,k)=>if (k == UA&&env.scope.kind == .function&&env.kindOf n == a' .cell) then (n,Wc) else (n,k)).lookup x=a' L:=by
     by_cases G:(k == UA&&env.scope.kind == .function&&env.kindOf y == a' .cell)=true
     ·simp only[wb G,hb] at h;exact h
     ·simp only[qb G,hb] at h;exact h
    obtain⟨q,hm,z⟩:=qR h';exact⟨q,p' _ hm,z⟩
theorem tH {env:Env}:∀{names:eE (T3×NameKind)} {x:T3},names.lookup x=a' .free->
  (names.map λ(n,k)=>if (k == UA&&env.scope.kind == .function&&env.kindOf n == a' .cell) then (n,Wc) else (n,k)).lookup x=a' .cell∨
  (names.map λ(n,k)=>if (k == UA&&env.scope.kind == .function&&env.kindOf n == a' .cell) then (n,Wc) else (n,k)).lookup x=a' .free
 | [],_,h=>by cases h
 | (y,k)::l,x,h=>by
   rw[Wv] at h;rw[Uq,Wv];by_cases e:x=y
   ·subst e;simp only[UR] at h;cases h;by_cases G:(UA == UA&&env.scope.kind == .function&&env.kindOf x == a' .cell)=true
    ·refine .inl ?_;rw[wb G];simp only[UR]
    ·refine .inr ?_;rw[qb G];simp only[UR]
   ·have hb:(x == y)=false:=TL.mpr e;simp only[hb] at h;have q:=tH (env:=env) h;by_cases G:(k == UA&&env.scope.kind == .function&&env.kindOf y == a' .cell)=true
    ·simp only[wb G,hb];exact q
    ·simp only[qb G,hb];exact q
structure mh (osc:Xz) (ON N:B') (n:Nat) (fx:C') (sc:Xz):Prop where
 kind:sc.kind= .function
 noc:∀y∈sc.names,y.2≠.cell
 own:∀y∈sc.names,y.2= .local->sc.names.lookup y.1=a' .local
 fre:∀y∈sc.names,y.2= .free->osc.names.lookup y.1=a' .cell∨osc.names.lookup y.1=a' .free
 len:N.length=n + fx.length
 frn:∀k,k < fx.length->∃x j,N[n + k]? =a' x/\fx[k]? =a' j/\ON[j]? =a' x/\sc.names.lookup x=a' .free
noncomputable def L7 (ON:B') (ε:Xz):B'->C'->UD
 | [],[]=>true
 | x::xs,j::js=>decide (ON[j]? =a' x)&&decide (ε.names.lookup x=a' .free)&&L7 ON ε xs js
 | _,_=>false
theorem A4 {ON:B'} {ε:Xz}:∀{xs:B'} {ω:C'},L7 ON ε xs ω=true->xs.length=ω.length/\∀k,k < ω.length->∃x j,xs[k]? =a' x/\ω[k]? =a' j/\ON[j]? =a' x/\ε.names.lookup x=a' .free
 | [],[],_=>⟨rfl,λk h=>hD h (VS k)⟩
 | [],_::_,h=>by cases h
 | _::_,[],h=>by cases h
 | x::xs,j::ω,h=>by
   simp only[L7,TZ,Us] at h;obtain⟨l,q⟩:=A4 h.2;refine⟨T4 Nat.succ l,λk hk=>?_⟩;cases k with
   | zero=>exact⟨x,j,rfl,rfl,h.1.1,h.1.2⟩
   | succ k=>
     obtain⟨θ,π,a,b,c⟩:=q k (Nat.lt_of_succ_lt_succ hk);exact⟨θ,π,by simpa using a,by simpa using b,c⟩
noncomputable def Em (osc:Xz) (ON N:B') (n:Nat) (fx:C') (ε:Xz):Bool:=
 decide (ε.kind= .function)&&decide (∀y∈ε.names,y.2≠.cell)&&decide (∀y∈ε.names,y.2= .local->ε.names.lookup y.1=a' .local)&&
 decide (∀y∈ε.names,y.2= .free->osc.names.lookup y.1=a' .cell∨osc.names.lookup y.1=a' .free)&&decide (n<=N.length)&&L7 ON ε (N.drop n) fx
theorem mh.of {n:Nat} (h:Em osc ON N n fx ε=true):mh osc ON N n fx ε:=by
 simp only[Em,TZ,Us] at h;obtain⟨⟨⟨⟨⟨h1,h2⟩,L⟩,G⟩,Y⟩,ρ⟩:=h;obtain⟨l,q⟩:=A4 ρ;refine⟨h1,h2,L,G,?_,λk hk=>?_⟩
 ·rw[Ww] at l;omega
 ·obtain⟨x,j,a,b⟩:=q k hk;exact⟨x,j,by rw[Wt] at a;exact a,b⟩
noncomputable def nj (X:Cx) (N:B') (ε:Xz) (G:S') (C:eH) (fp:M') (s:px) (H:Hp):Cx where
 prog:=X.prog
 w:=X.w
 K:=X.K
 mg:=X.mg
 base:=X.base
 A:=X.A
 N:=N
 s₀:=s
 H₀:=H
 env:=compEnvC ε G C X.env
 outer:=X.stack
 stack:=X.stack
 ex:=fp
 fn:=λ_=>false
 calm:=X.calm
 pn:=[]
 xe:=λ_ _=>False
noncomputable def dG (n:Nat) (fx:C') (σ:St):St:=lj n f'++fx.map λj=>(σ[j]?).join
def Gy (n:Nat) (g:TG):Prop:=∀v σ H (Q G:St->Hp->Prop),(∀σ' H',Q σ' H'->σ'.drop n=σ.drop n->σ'.length=σ.length->G σ' H')->g v σ H Q->g v σ H G
def Et (n:Nat) (g:TGs):Prop:=∀vs σ H (Q G:St->Hp->Prop),(∀σ' H',Q σ' H'->σ'.drop n=σ.drop n->σ'.length=σ.length->G σ' H')->g vs σ H Q->g vs σ H G
theorem aA {n:Nat} (h:i < n):Gy n (Jt i):=λv σ H Q G k q=>k _ _ q (by rw[List.drop_set_of_lt h]) (by rw[List.length_set])
theorem qv {n:Nat}:Et n gNil:=λvs σ H Q G k ⟨e,q⟩=>⟨e,k _ _ q rfl rfl⟩
theorem eK {n:Nat} {t:TG} {u:TGs} (ht:Gy n t) (hu:Et n u):Et n (O4 t u):=λvs σ H Q δ k ⟨v,r,e,q⟩=>
 ⟨v,r,e,ht v σ H _ _ (λL H1 Y γ α=>hu r L H1 Q δ (λG H2 χ β Z=>k G H2 χ (β.trans γ) (Z.trans α)) Y) q⟩
theorem wu {K:dt} {n m:Nat} {t:TGs} (h:Et n t):Gy n (gTup K m t):=λv σ H Q G k ⟨a,xs,e,hs,hl,q⟩=>⟨a,xs,e,hs,hl,h xs σ H Q G k q⟩
def PTs (X:Cx) (G:eE UF) (t:TT):Prop:=
 ∀(pins:D') (s:px) (σ:St) (H:Hp) (Q:UD->Hp->Prop),Inv X pins σ H s->t σ H Q->
  n' (xY X.prog X.w) X.A (forIn G true λc r=>if r=true then do let ok <-isTrue c X.env (eval c X.env);pure (VT ok) else pure (VT r)) (TP X pins σ Q) X.xe s
noncomputable def tYes:TT:=λ_ H Q=>Q true H
theorem aO:PTs X [] tYes:=λ_ _ _ H _ I h=>wpAny_tests_nil ⟨H,I,h⟩
theorem jP {c:UF} {t:TT} (h:PT X c t):PTs X [c] t:=λpins s σ H Q I q=>wpAny_tests_one (h pins s σ H Q I q)
noncomputable def KM (n:Nat) (fx:C') (γ:TI) (g:TG) (tc:TT) (te:TE):TE:=fun σ H Q=>γ σ H λJ H1=>∀D,H1 D=f'->
 ∃W:Nat->Nat->eE V->Hp->Prop,(∃m,W 0 m [] (upd H1 D (.lst [])))/\∀i m ys H2,W i m ys H2->(J.stop i H2/\Q (.ref D) H2)∨
   (J.go i H2/\∃N:eE V->Hp->Prop,(∀L H',N L H'->∃Y,Y < m/\W (i + 1) Y L H')/\∀x β,J.yld i H2 x β->g x (dG n fx σ) β λG δ=>tc G δ λb α=>
    if b=true then te G α λv Z=>Z D=a' (.lst ys)/\ys.length < hR/\N (ys++[v]) (upd Z D (.lst (ys++[v]))) else N ys α)
section
variable {X:Cx} {pins:D'} {σ:St} {H:Hp} {s:px}
theorem F9 {n:Nat}:(dG n fx σ).length=n + fx.length:=by unfold dG;simp
theorem yH {n:Nat} (e:(dG n fx σ)[i]? =a' (a' v)):∃k j,i=n + k/\fx[k]? =a' j/\σ[j]? =a' (a' v):=by
 unfold dG at e;by_cases h:i < n
 ·rw[kv (by simpa using h),Z0,wb h] at e;cases e
 ·rw[lT (by simpa using h),Uv,gA] at e;cases q:fx[i - n]? with
  | none=>rw[q] at e;cases e
  | some j=>
    rw[q] at e;have G:(σ[j]?).join=a' v:=zx e;refine⟨i - n,j,@A,q,?_⟩;cases z:σ[j]? with
    | none=>rw[z] at G;cases G
    | some o=>rw[z] at G;have:o=a' v:=G;rw[this]
theorem Mg {n:Nat} {tk:Nat}
  (ho:X.env.scope=osc) (γ:X.N=ON) (S:mh osc ON N n fx ε)
  (Y:∀p∈hs,X.env.cells.lookup p.1=a' p.2) (L:∀y∈ε.names,y.2= .free->∃c,(y.1,c)∈hs)
  (I:Inv X pins σ H s) (hf:∀b∈fp,FpOk X pins H b) (ξ:∀b∈fp,b < s.heap.objs.size)
  (ω:∃m,fL.Ns s.heap.objs.size m) (G:∀b o,s.heap.get? b=a' o->fL.get? b=a' o):
  Inv (nj X N ε hs s.heap.objs.size fp s H) [] (dG n fx σ) H {s with heap:=fL,toks:=tk}:=by
 have look:∀{x:T3} {c:eH},hs.lookup x=a' c->X.env.cells.lookup x=a' c:=λ{x c} e=>Y (x,c) (Uz e)
 have ok:(nj X N ε hs s.heap.objs.size fp s H).Ok:=by
  refine⟨I.ok.mod,S.kind,I.ok.glob,I.ok.blt,sb _,λx y c h1 h2=>I.ok.inj x y c (look h1) (look h2),λx hx=>?_,λx c z=>(by cases z),I.ok.hd,I.ok.frames,.inl rfl,λb hb=>⟨TB (ξ b hb),λx c e=>(hf b hb).2.2.2.2.1 x c (look e)⟩,
   I.bs,Vg I.ok.bsz I.sz,λb o e hb=>?_,λb hb z=>?_,I.stack,I.stkFree⟩
  ·have ν:∃ζ,(ζ=Wc∨ζ=UA)/\(ε.names.map λ(n,k)=>if (k == UA&&X.env.scope.kind == .function&&X.env.kindOf n == a' .cell) then (n,Wc) else (n,k)).lookup x=a' ζ:=by
    rcases hx with hx | hx
    ·exact⟨_,.inl rfl,hx⟩
    ·exact⟨_,.inr rfl,hx⟩
   obtain⟨ζ,hk,e⟩:=ν;obtain⟨k,hm,z⟩:=qR e
   have η:k= .free:=by
    rcases z with z | z
    ·subst z;rcases hk with q | q
     ·exact hD q (S.noc _ hm)
     ·exact q
    ·exact z
   subst η;obtain⟨c,hc⟩:=L _ hm rfl;exact zu hc
  ·rcases(hf b hb).2.2.2.1 with z | z
   ·exact I.ok.noex b o e z
   ·exact hD (gm (hE (I.ok.bs b o e).1) z) (Vc _)
  ·rcases Tn.mp (I.stkSub b z) with q | q
   ·exact(hf b hb).2.1 q
   ·exact(hf b hb).2.2.1 q
 obtain⟨m,ω⟩:=ω;refine⟨ok,rfl,I.bare,Un.kept G,⟨m,ω,λi x v e1 e2 e3=>?_⟩,λx c e=>?_,I.hok.fresh (sb _),λx c e=>I.freeC x c (look e),λp hp=>hD (show p∈([]:D') from hp) @E,I.hok.kept G,?_⟩
 ·obtain⟨k,j,rfl,φ,hv⟩:=yH e2;obtain⟨θ,π,a1,a2,a3,α⟩:=S.frn k (b'.mp φ).1;have ex:θ=x:=zx (a1.symm.trans e1);have υ:π=j:=zx (a2.symm.trans φ);subst ex;subst υ;obtain⟨m',_,hl⟩:=I.loc;have hk:X.env.scope.names.lookup θ=a' .cell∨X.env.scope.names.lookup θ=a' .free:=by rw[ho];exact S.fre _ (Uz α) rfl
  have ι:Vis X.env.scope θ:=by rcases hk with z | z;exact .inr (.inl z);exact .inr (.inr z)
  obtain⟨u,r,q⟩:=hl π θ v (by rw[γ];exact a3) hv ι;rcases q with ⟨z,_⟩ | ⟨_,c,χ,ψ⟩
  ·have τ:X.env.scope.names.lookup θ=a' .local:=z;rcases hk with q | q<;>(rw[q] at τ;cases τ)
  ·refine⟨u,r,.inr ⟨tH α,c,?_,ψ.keeps G⟩⟩;obtain⟨β,ο⟩:=L _ (Uz α) rfl;obtain⟨c1,Z⟩:=zu ο;have:=look Z;rw[χ] at this;cases this;exact Z
 ·obtain⟨v,q⟩:=I.cell x c (look e);exact⟨v,q.keeps G⟩
 ·show _=N.length;rw[F9,S.len]
theorem Bo {n:Nat} {g:TG} {RR:sC->eH->R'}
  (c1:X.calm=true) (ho:X.env.scope=osc) (γ:X.N=ON) (S:mh osc ON N n fx ε)
  (a8:∀p∈hs,X.env.cells.lookup p.1=a' p.2) (d1:∀y∈ε.names,y.2= .free->∃c,(y.1,c)∈hs)
  (hi:PI X tg iter qE) (gk:Gy n g) (hb:∀hs C fp s H,PG (nj X N ε hs C fp s H) tg g/\PTs (nj X N ε hs C fp s H) α tc/\PE (nj X N ε hs C fp s H) kw te)
  (I:Inv X pins σ H s) (h:KM n fx qE g tc te σ H Q)
  (e8:∀D C H' s',Inv X pins σ H' s'->(∃m,s'.heap.Ns C m)->FpOk X pins H' C->Q (.ref D) H'->RR (.ref D) C (.ok .next) s'):
  n' (xY X.prog X.w) X.A (eval iter X.env) (λx s₁=>n' (xY X.prog X.w) X.A (pyIter x) (λit β=>n' (xY X.prog X.w) X.A (newList []) (λe1 s₃=>
   n' (xY X.prog X.w) X.A (newFunctionEnv ε X.env.globals hs [] X.env.qual f' .none (a' X.env)) (fun ι ο=>
    codeAny (xY X.prog X.w) X.A (.compStart (.ListComp kw [⟨tg,iter,α,0⟩] ε pos) 0 it e1 {ι with scope:=relabel ε X.env}) (RR e1 ι.locals) ο) X.xe s₃) X.xe β) X.xe s₁) X.xe s:=by
 refine thn (hi pins s σ H _ I h) λv s1 h1=>thn h1 λf8 G h2=>?_;obtain⟨it,fp,tn,J,H2,e2,I2,T,δ,f2,ψ⟩:=h2;subst e2;obtain⟨W,⟨m0,w0⟩,τ⟩:=ψ G.heap.objs.size I2.fresh;refine Xi ?_;have I3:Inv X pins σ (upd H2 G.heap.objs.size (.lst [])) {G with heap:=G.heap.push {cls:= .type "list",data:= .seq ([]:E').toArray}}:=I2.lnew (t':=G.toks) (its:=[]) .nil (UY _)
 have f3:∀b∈fp,FpOk X pins (upd H2 G.heap.objs.size (.lst [])) b/\b < G.heap.objs.size:=λb hb=>by
  obtain⟨o,e,_⟩:=T.obj _ _ δ b hb;have l:=hE e;obtain⟨a1,a2⟩:=f2 b hb;exact⟨⟨by rw[aF (TB l)];exact a1,a2⟩,l⟩
 have sz:({G with heap:=G.heap.push {cls:= .type "list",data:= .seq ([]:E').toArray}}:px).heap.objs.size=G.heap.objs.size + 1:=W9 ..
 generalize e7:({G with heap:=G.heap.push {cls:= .type "list",data:= .seq ([]:E').toArray}}:px)=ζ at I3 sz ⊢;generalize f9:upd H2 G.heap.objs.size (.lst [])=H3 at I3 f3 w0;have c4:∀b o,G.heap.get? b=a' o->ζ.heap.get? b=a' o:=λb o e=>by rw[<-e7];exact fy _ e
 refine wpAny_newFunctionEnv (λy hy=>S.noc y hy) (λy hy=>nomatch hy) (λh4 ω e6=>?_) S.kind;have θ:∀b o,ζ.heap.get? b=a' o->h4.get? b=a' o:=λb o e=>e6.extBut b o (TB (hE e)) (fy _ e);have I4:=Mg (tk:=ζ.toks + ([]:T1).length) ho γ S a8 d1 I3 (λb hb=>(f3 b hb).1) (λb hb=>by rw[sz];exact X4 (f3 b hb).2) ⟨_,ω⟩ θ;have a7:=hb hs ζ.heap.objs.size fp ζ H3;generalize hY:nj X N ε hs ζ.heap.objs.size fp ζ H3=Y at I4 a7
 have a0:∀{H':Hp},(∀b∈fp,H' b=f')->∀b∈fp,FpOk Y [] H' b:=λ{H'} hn b hb=>by
  subst hY;obtain⟨⟨a1,a2,a3,c0,a5,η⟩,l⟩:=f3 b hb;refine⟨hn b hb,TB (show b < ζ.heap.objs.size by rw[sz];exact X4 l),λz=>?_,.inl hb,λx c e=>a5 x c (a8 (x,c) (Uz e)),λp hp=>hD (show p∈([]:D') from hp) @E⟩;rcases Tn.mp (I3.stkSub b z) with q | q
  ·exact a2 q
  ·exact a3 q
 have fin:∀{ρ:St} {H6:Hp} {s6:px},Inv Y [] ρ H6 s6->Q (.ref G.heap.objs.size) H6->RR (.ref G.heap.objs.size) ζ.heap.objs.size (.ok .next) s6:=λ{ρ H6 s6} I6 q=>by
  subst hY;refine e8 _ _ H6 s6 ?_ (let ⟨m,hm,_⟩:=I6.loc;⟨m,hm⟩) (I3.fpOk (sb _) I6.free) q;obtain⟨hh,gg,dd,tt,e5⟩:=s6;obtain rfl:e5=ζ.os:=I6.os
  exact I3.call (h':=hh) (g':=gg) (d':=dd) (t':=tt) (ch:=fp) I6.base I6.hok I6.bare λb hb=>by
   obtain⟨⟨a1,a2,a3,c0,a5,η⟩,l⟩:=f3 b hb;exact⟨c0,a2,a5,η⟩
 have pY:Y.prog=X.prog:=by subst hY;rfl
 have wY:Y.w=X.w:=by subst hY;rfl
 have kY:Y.K=X.K:=by subst hY;rfl
 have aY:Y.A=X.A:=by subst hY;rfl
 have cY:Y.calm=true:=by subst hY;exact c1
 have eY:Y.env=compEnvC ε hs ζ.heap.objs.size X.env:=by subst hY;rfl
 have ν:Y.xe=λ_ _=>False:=by subst hY;rfl
 have T':Turn Y.prog Y.w Y.K tg J fp it tn:=by rw[pY,wY,kY];exact T
 have c3:tn 0 h4:=T.keep _ _ _ δ λb hb o e=>θ b o (c4 b o e)
 have loop:codeAny (xY X.prog X.w) X.A (.compLoop (.ListComp kw [⟨tg,iter,α,0⟩] ε pos) 0 (.ref it) (.ref G.heap.objs.size) (compEnvC ε hs ζ.heap.objs.size X.env)) (RR (.ref G.heap.objs.size) ζ.heap.objs.size)
   {ζ with heap:=h4,toks:=ζ.toks + ([]:T1).length}:=by
  rw[<-pY,<-wY,<-aY,<-eY];refine F8 (λk s'=>∃i ys σ' H',Inv Y [] σ' H' s'/\σ'.drop n=(dG n fx σ).drop n/\σ'.length=(dG n fx σ).length/\tn i s'.heap/\(∀b∈fp,H' b=f')/\W i k ys H') ?_ m0 ⟨0,[],_,H3,I4,rfl,rfl,c3,λb hb=>(f3 b hb).1.1,w0⟩;rintro k s5 ⟨i,ys,σ5,H5,I5,Z,el,π,e0,ξ⟩
  have I5:Inv Y [] (dG n fx σ) H5 s5:=I5.weak el.symm λj v e=>by
   obtain⟨k',j',rfl,_,_⟩:=yH e;have q:=T4 (λl=>l[k']?) Z;simp only[Wt] at q;rw[q];exact e
  rcases τ i k ys H5 ξ with ⟨stop,q⟩ | ⟨go,υ,e9,step⟩
  ·refine W1 (T'.done Y rfl rfl rfl cY i [] s5 _ H5 (λ_ _=>False) I5 (a0 e0) π stop) (λr s6 ⟨hr,I6⟩=>?_) λ_ _ z=>z;subst hr;exact fin I6 q
  ·rw[<-ν];refine thn (T'.item Y rfl rfl rfl cY i [] s5 _ H5 Y.xe I5 (a0 e0) π go) λr s6 ⟨u,hr,h6⟩=>?_;subst hr;show n' _ _ _ _ _ _;refine thn h6 λ_ L ⟨x,H7,I7,r7,y7,b3,f0⟩=>?_;have f5:=I7.pinned (a0 f0) (T.obj _ _ b3);refine thn (a7.1 _ L _ H7 x u _ f5 r7 (gk _ _ _ _ _ (fun σ' H' q e l=>(⟨q,e,l⟩:_/\_/\_)) (step x H7 y7))) λ_ s8 ⟨σ8,H8,I8,q8,χ,f1⟩=>?_;refine thn (a7.2.1 _ s8 σ8 H8 _ I8 q8) λok s9 ⟨H9,I9,q9⟩=>?_
   have again:∀{sc:Hp} {φ:px} {zs:eE V},Inv Y ([]++AA fp L.heap) σ8 sc φ->υ zs sc->
     ∃m,m < k/\∃i ys σ' H',Inv Y [] σ' H' φ/\σ'.drop n=(dG n fx σ).drop n/\σ'.length=(dG n fx σ).length/\tn i φ.heap/\(∀b∈fp,H' b=f')/\W i m ys H':=λ{sc φ zs} I10 b6=>by
    obtain⟨m',hm,e3⟩:=e9 _ _ b6;refine⟨m',hm,i + 1,zs,σ8,sc,I10.unpinned,χ,f1,T.keep _ _ _ b3 λb hb o e=>(I10.pin (b,o) (hW _ (hW _ (oX hb e)))).1,λb hb=>?_,e3⟩;obtain⟨o,e,d⟩:=T.obj _ _ b3 b hb;exact(I10.pin (b,o) (hW _ (hW _ (oX hb e)))).2.1
   cases ok with
   | false=>exact again I9 q9
   | true=>
     rw[wb rfl];refine thn (a7.2.2 _ s9 σ8 H9 _ I9 q9) λy φ ⟨v',sc,I10,e4,d2,c5,b6⟩=>?_;refine thn (iL (X:=Y) _ φ σ8 sc (.ref G.heap.objs.size) [v'] (.ref G.heap.objs.size) [y] (λ_ H'=>H'=upd sc G.heap.objs.size (.lst (ys++[v']))) I10 rfl (.cons e4 .nil) ⟨_,ys,v',rfl,rfl,d2,c5,rfl⟩) λ_ f7 ⟨_,g0,f6,_,f4⟩=>?_;subst f4;exact again f6 b6
 exact codeAny_compStart_list loop (T.self X.A 0 _ _ _ c3 loop)
theorem bD {n:Nat} {g:TG}
  (L:X.calm=true) (ho:X.env.scope=osc) (γ:X.N=ON) (S:Em osc ON N n fx ε=true) (hi:PI X tg iter qE) (ξ:Gy n g)
  (hb:∀ζ C fp s H,PG (nj X N ε ζ C fp s H) tg g/\PTs (nj X N ε ζ C fp s H) α tc/\PE (nj X N ε ζ C fp s H) kw te)
  (hs:∀x,foldedSetIterable iter X.env x=pure x:=by intro _;rfl):PE X (.ListComp kw [⟨tg,iter,α,0⟩] ε pos) (KM n fx qE g tc te):=by
 intro pins s σ H Q I h;have S:=mh.of S;obtain⟨ζ,η,β,Z⟩:=yI ε X.env λy ν hf=>I.ok.has y.1 (by show X.env.scope.names.lookup y.1=a' .cell∨X.env.scope.names.lookup y.1=a' .free;rw[ho];exact S.fre y ν hf);rw[eval_ListComp];refine Zy (use:=f') rfl hs η S.kind S.own (Bo (RR:=fun θ C=>compPost (xY X.prog X.w) X.A X.xe f' (EP X pins σ Q) θ C) L ho γ S β Z hi ξ hb I h ?_);intro D C H' s' I' hm hf q;obtain⟨m,hm⟩:=hm;obtain⟨ρ,G,τ,π,ο,ψ⟩:=hf;exact⟨m,hm,λh' Y=>⟨.ref D,H',I'.turned (t':=s'.toks) (λb o hb e=>(Y.2 b hb).trans e) ρ G π ο ψ,rfl,q⟩⟩
theorem bJ {x:T3} {n:Nat} {L:eE UF} {g:TG}
  (hnd:X.N.Nodup) (hx:X.N[i]? =a' x) (hl:X.env.scope.names.lookup x=a' .local) (ξ:swapsWith (.ListComp kw [⟨tg,iter,L,0⟩] ε pos) (a' (.Name x lA)) lB.line X.env=pure true)
  (β:X.calm=true) (ho:X.env.scope=osc) (γ:X.N=ON) (S:Em osc ON N n fx ε=true) (hi:PI X tg iter qE) (gk:Gy n g)
  (hb:∀ν C fp s H,PG (nj X N ε ν C fp s H) tg g/\PTs (nj X N ε ν C fp s H) L tc/\PE (nj X N ε ν C fp s H) kw te)
  (hs:∀x,foldedSetIterable iter X.env x=pure x:=by intro _;rfl):PS X (.Assign [.Name x lA] (.ListComp kw [⟨tg,iter,L,0⟩] ε pos) lB) (tAsg (KM n fx qE g tc te) (Jt i)):=by
 intro pins s σ H D I h;have S:=mh.of S;obtain⟨ν,ο,ι,η⟩:=yI ε X.env λy hy hf=>I.ok.has y.1 (by show X.env.scope.names.lookup y.1=a' .cell∨X.env.scope.names.lookup y.1=a' .free;rw[ho];exact S.fre y hy hf);rw[exec_Assign_Name_used _ _ _ _ ξ];refine eS (wpAny_standAt (eS ?_));show n' _ X.A (do let _ <-comprehension (.ListComp kw [⟨tg,iter,L,0⟩] ε pos) ε X.env _ (newList []) false (eval iter X.env) (a' (assign (.Name x lA) X.env))) _ _ s
 refine eS (thn (Zy (use:=a' (assign (.Name x lA) X.env)) (Q:=λ_ s'=>SP X pins D .next s') rfl hs ο S.kind S.own
  (Bo (RR:=fun τ C=>compPost (xY X.prog X.w) X.A X.xe (a' (assign (.Name x lA) X.env)) (λ_ s'=>SP X pins D .next s') τ C) β ho γ S ι η hi gk hb I h ?_)) λ_ s' q=>sA (sA q))
 intro χ C H' s' θ hm hf q;obtain⟨m,hm⟩:=hm;obtain⟨f0,G,f2,f3,φ,ψ⟩:=hf;show n' _ X.A (assign (.Name x lA) X.env (.ref χ)) _ _ _;refine ad0 (Aq θ hnd hx (.inl hl) (v:= .ref χ) rfl (fun ω I2 π=>?_) (.inr hl));obtain⟨a,Y,ha⟩:=π
 have ρ:C≠a:=by
  rcases ha with z | z
  ·rw[z];exact G
  ·exactλe=>φ _ _ z e.symm
 exact⟨m,hm.sameBut Y ρ,λh' ζ=>⟨_,H',I2.turned (t':=ω.toks) (λb o hb e=>(ζ.2 b hb).trans e) f0 G f3 φ ψ,q⟩⟩
end
section
variable {K:dt} {n:Nat} {fx:C'} {g:TG} {tc:TT} {te:TE} {σ:St} {H1:Hp} {D:eH} {Q:Hp->Prop}
theorem d7 {k:Nat} (Z:Nat->eE V->Hp->Prop) (h0:Z 0 [] (upd H1 D (.lst [])))
  (hs:∀i ys H,i < k->Z i ys H->g (.int (qA + i)) (dG n fx σ) H λG γ=>tc G γ λb β=>if b=true then te G β λv α=>α D=a' (.lst ys)/\ys.length < hR/\Z (i + 1) (ys++[v]) (upd α D (.lst (ys++[v]))) else Z (i + 1) ys β)
  (hd:∀ys H,Z k ys H->Q H):
  ∃W:Nat->Nat->eE V->Hp->Prop,(∃m,W 0 m [] (upd H1 D (.lst [])))/\∀i m ys H2,W i m ys H2->((Itr qA k).stop i H2/\Q H2)∨
    ((Itr qA k).go i H2/\∃N:eE V->Hp->Prop,(∀L H',N L H'->∃δ,δ < m/\W (i + 1) δ L H')/\∀x ζ,(Itr qA k).yld i H2 x ζ->g x (dG n fx σ) ζ λG γ=>tc G γ λb β=>
      if b=true then te G β λv α=>α D=a' (.lst ys)/\ys.length < hR/\N (ys++[v]) (upd α D (.lst (ys++[v]))) else N ys β):=by
 refine⟨λi m ys H=>m=k - i/\i<=k/\Z i ys H,⟨k,@E,UY _,h0⟩,?_⟩;rintro i m ys H ⟨rfl,hi,p⟩;by_cases Y:i < k
 ·refine .inr ⟨Y,Z (i + 1),λL H' ε=>⟨k - (i + 1),by omega,rfl,Y,ε⟩,λx H' y=>?_⟩;obtain⟨e,y⟩:=y;subst e;subst y;exact hs i ys _ Y p
 ·have e:i=k:=by omega
  subst e;exact .inl ⟨sb _,hd ys H p⟩
theorem aH {xs:eE V} (L:Nat->eE V->Hp->Prop) (h0:L 0 [] (upd H1 D (.lst []))) (hl:∀i ys H,i<=xs.length->L i ys H->SqL K H a xs)
  (hs:∀i x ys H,xs[i]? =a' x->L i ys H->g x (dG n fx σ) H λG γ=>tc G γ λb β=>if b=true then te G β λv α=>α D=a' (.lst ys)/\ys.length < hR/\L (i + 1) (ys++[v]) (upd α D (.lst (ys++[v]))) else L (i + 1) ys β)
  (hd:∀ys H,L xs.length ys H->Q H):
  ∃W:Nat->Nat->eE V->Hp->Prop,(∃m,W 0 m [] (upd H1 D (.lst [])))/\∀i m ys H2,W i m ys H2->((Itl K a).stop i H2/\Q H2)∨
    ((Itl K a).go i H2/\∃N:eE V->Hp->Prop,(∀Y H',N Y H'->∃δ,δ < m/\W (i + 1) δ Y H')/\∀x ζ,(Itl K a).yld i H2 x ζ->g x (dG n fx σ) ζ λG γ=>tc G γ λb β=>
      if b=true then te G β λv α=>α D=a' (.lst ys)/\ys.length < hR/\N (ys++[v]) (upd α D (.lst (ys++[v]))) else N ys β):=by
 refine⟨λi m ys H=>m=xs.length - i/\i<=xs.length/\L i ys H,⟨xs.length,@E,UY _,h0⟩,?_⟩;rintro i m ys H ⟨rfl,hi,p⟩;have q:=hl i ys H hi p;by_cases Z:i < xs.length
 ·refine .inr ⟨⟨xs,xs[i],q,by simp[Z]⟩,L (i + 1),λY H' ε=>⟨xs.length - (i + 1),by omega,rfl,Z,ε⟩,λx H' y=>?_⟩;obtain⟨e,y⟩:=y;subst e;exact hs i x ys _ (y xs q) p
 ·have e:i=xs.length:=by omega
  subst e;exact .inl ⟨⟨xs,q,sb _⟩,hd ys H p⟩
theorem rN {xs:eE V} (L:Nat->eE V->Hp->Prop) (h0:L 0 [] (upd H1 D (.lst []))) (hl:∀i ys H,i<=xs.length->L i ys H->SqT K H a xs)
  (hs:∀i x ys H,xs[i]? =a' x->L i ys H->g x (dG n fx σ) H λG γ=>tc G γ λb β=>if b=true then te G β λv α=>α D=a' (.lst ys)/\ys.length < hR/\L (i + 1) (ys++[v]) (upd α D (.lst (ys++[v]))) else L (i + 1) ys β)
  (hd:∀ys H,L xs.length ys H->Q H):
  ∃W:Nat->Nat->eE V->Hp->Prop,(∃m,W 0 m [] (upd H1 D (.lst [])))/\∀i m ys H2,W i m ys H2->((Itt K a).stop i H2/\Q H2)∨
    ((Itt K a).go i H2/\∃N:eE V->Hp->Prop,(∀Y H',N Y H'->∃δ,δ < m/\W (i + 1) δ Y H')/\∀x ζ,(Itt K a).yld i H2 x ζ->g x (dG n fx σ) ζ λG γ=>tc G γ λb β=>
      if b=true then te G β λv α=>α D=a' (.lst ys)/\ys.length < hR/\N (ys++[v]) (upd α D (.lst (ys++[v]))) else N ys β):=by
 refine⟨λi m ys H=>m=xs.length - i/\i<=xs.length/\L i ys H,⟨xs.length,@E,UY _,h0⟩,?_⟩;rintro i m ys H ⟨rfl,hi,p⟩;have q:=hl i ys H hi p;by_cases Z:i < xs.length
 ·refine .inr ⟨⟨xs,xs[i],q,by simp[Z]⟩,L (i + 1),λY H' ε=>⟨xs.length - (i + 1),by omega,rfl,Z,ε⟩,λx H' y=>?_⟩;obtain⟨e,y⟩:=y;subst e;exact hs i x ys _ (y xs q) p
 ·have e:i=xs.length:=by omega
  subst e;exact .inl ⟨⟨xs,q,sb _⟩,hd ys H p⟩
end
def mH (K:dt) (H:Hp) (x:V) (k:V7):Prop:=match x with
 | .non=>k="NoneType"
 | .bl _=>k="bool"
 | .int _=>k="int"
 | .str _=>k="str"
 | .ref p=>(k="list"/\∃xs,SqL K H p xs)∨(k="tuple"/\∃xs,SqT K H p xs)∨(k="dict"/\∃kvs,Rd H p (.dK kvs))
 | _=>False
noncomputable def subB (k T:V7):Bool:=k == T||(k == "bool"&&T == "int")
noncomputable def rIsi (K:dt):eE V->Hp->VK->Prop:=λxs H Q=>∃x k T,xs=[x,.ty T]/\mH K H x k/\T∈["int","bool","str","list","tuple","dict"]/\Q (.bl (subB k T)) H
section
variable {X:Cx}
theorem Mi:mR X (.builtin "isinstance") (rIsi X.K):=by
 intro pins s σ H xs us Q I r h;obtain⟨x,k,T,rfl,hk,hT,q⟩:=h;obtain⟨u,v,rfl,Z,rt⟩:=KD r;cases rt;have Y:∀b,b=subB k T->EP X pins σ Q (.bool b) s:=λb e=>⟨.bl b,H,I,rfl,by rw[e];exact q⟩;have G:∀b,b=subB k T->EP X pins σ Q (.bool b) {s with toks:=s.toks + 1}:=λb e=>⟨.bl b,H,I.tok _,rfl,by rw[e];exact q⟩;simp only[Tn,W6,Ys] at hT;cases x with
 | non=>
   cases Z;cases hk;rcases hT with rfl | rfl | rfl | rfl | rfl | rfl
   ·exact IsiPair.NoneType_int (G _ @C)
   ·exact IsiPair.NoneType_bool (G _ @C)
   ·exact IsiPair.NoneType_str (G _ @C)
   ·exact IsiPair.NoneType_list (G _ @C)
   ·exact IsiPair.NoneType_tuple (G _ @C)
   ·exact IsiPair.NoneType_dict (G _ @C)
 | bl b=>
   cases Z;cases hk;rcases hT with rfl | rfl | rfl | rfl | rfl | rfl
   ·exact IsiPair.bool_int (Y _ @C)
   ·exact IsiPair.bool_bool (Y _ @C)
   ·exact IsiPair.bool_str (G _ @C)
   ·exact IsiPair.bool_list (G _ @C)
   ·exact IsiPair.bool_tuple (G _ @C)
   ·exact IsiPair.bool_dict (G _ @C)
 | int i=>
   obtain⟨t,rfl⟩:=Z;cases hk;rcases hT with rfl | rfl | rfl | rfl | rfl | rfl
   ·exact IsiPair.int_int (Y _ @C)
   ·exact IsiPair.int_bool (G _ @C)
   ·exact IsiPair.int_str (G _ @C)
   ·exact IsiPair.int_list (G _ @C)
   ·exact IsiPair.int_tuple (G _ @C)
   ·exact IsiPair.int_dict (G _ @C)
 | str z=>
   obtain⟨t,rfl⟩:=Z;cases hk;rcases hT with rfl | rfl | rfl | rfl | rfl | rfl
   ·exact IsiPair.str_int (G _ @C)
   ·exact IsiPair.str_bool (G _ @C)
   ·exact IsiPair.str_str (Y _ @C)
   ·exact IsiPair.str_list (G _ @C)
   ·exact IsiPair.str_tuple (G _ @C)
   ·exact IsiPair.str_dict (G _ @C)
 | ref p=>
   cases Z;rcases hk with ⟨rfl,xs,α⟩ | ⟨rfl,xs,α⟩ | ⟨rfl,kvs,α⟩
   ·obtain⟨its,_,pl,_⟩:=I.list α;obtain⟨o,ho,L,_⟩:=pl.isList;rcases hT with rfl | rfl | rfl | rfl | rfl | rfl
    ·exact IsiPair.list_int ho L (G _ @C)
    ·exact IsiPair.list_bool ho L (G _ @C)
    ·exact IsiPair.list_str ho L (G _ @C)
    ·exact IsiPair.list_list ho L (Y _ @C)
    ·exact IsiPair.list_tuple ho L (G _ @C)
    ·exact IsiPair.list_dict ho L (G _ @C)
   ·obtain⟨its,_,pl,_⟩:=I.tuple α;obtain⟨o,ho,L,_⟩:=pl;rcases hT with rfl | rfl | rfl | rfl | rfl | rfl
    ·exact IsiPair.tuple_int ho L (G _ @C)
    ·exact IsiPair.tuple_bool ho L (G _ @C)
    ·exact IsiPair.tuple_str ho L (G _ @C)
    ·exact IsiPair.tuple_list ho L (G _ @C)
    ·exact IsiPair.tuple_tuple ho L (Y _ @C)
    ·exact IsiPair.tuple_dict ho L (G _ @C)
   ·obtain⟨_,_,_,_,o,_,_,ho,ex,_⟩:=α.ok I.hok;have L:o.cls= .type "dict":=ex.1;rcases hT with rfl | rfl | rfl | rfl | rfl | rfl
    ·exact IsiPair.dict_int ho L (G _ @C)
    ·exact IsiPair.dict_bool ho L (G _ @C)
    ·exact IsiPair.dict_str ho L (G _ @C)
    ·exact IsiPair.dict_list ho L (G _ @C)
    ·exact IsiPair.dict_tuple ho L (G _ @C)
    ·exact IsiPair.dict_dict ho L (Y _ @C)
 | _=>exact Uk hk
noncomputable def QM:V->eE V->Hp->VK->Prop:=λx xs H Q=>∃i,x= .int i/\xs=[]/\Q (.int (Tw i:Nat)) H
theorem qp:MtR X "int.bit_length" QM:=by
 intro pins s σ H x xs v us Q I G rs h;obtain⟨i,rfl,rfl,q⟩:=h;obtain⟨t,rfl⟩:=G;cases rs;exact call_int_bit_length ⟨.int _,H,I.tok _,⟨_,rfl⟩,q⟩
noncomputable def eqVs (xs ys:eE V):Bool:=xs.length == ys.length&&(vu xs.length).all λj=>eqV (xs.getD j .non) (ys.getD j .non)
noncomputable def rEqL (K:dt) (neg:UD):R2:=λx y H Q=>∃a b xs ys,x= .ref a/\y= .ref b/\SqL K H a xs/\SqL K H b ys/\xs.all oq=true/\ys.all oq=true/\Q (.bl (if neg then !eqVs xs ys else eqVs xs ys)) H
theorem rY {xs:eE V} (r:Vals xs us) (h:j < us.toArray.size):RelV (xs.getD j .non) (us.toArray[j]):=by
 have hl:=r.length;have h':j < us.length:=by simpa using h
 obtain⟨u,e,G⟩:=r.get (i:=j) (x:=xs.getD j .non) (by rw[ec,ed @A];rfl)
 have L:us.toArray[j]=u:=by
  rw[ed h'] at e;have:=zx e;simpa using this
 rw[L];exact G
theorem CM {xs:eE V} (f:xs.all oq=true) (j:Nat):oq (xs.getD j .non)=true:=by
 rw[ec];cases e:xs[j]? with
 | none=>rfl
 | some x=>exact Va.mp f x (ee e)
theorem DM {b:eH} {xs ys:eE V} {A:TQ} (hu:A.units < cLine) (I:Inv X pins σ H s) (ha:SqL X.K H a xs) (hb:SqL X.K H b ys) (fx:xs.all oq=true) (η:ys.all oq=true):
  SeqAt.RcAt A s (.ref a) (.ref b) (eqVs xs ys)/\SeqAt.RcNeAt A s (.ref a) (.ref b) (!eqVs xs ys):=by
 obtain⟨its,r,pl,_⟩:=I.list ha;obtain⟨ρ,r',ζ,_⟩:=I.list hb;have G:=r.length;have L:=r'.length;by_cases hl:xs.length=ys.length
 ·have e:eqVs xs ys=(vu its.toArray.size).all λj=>eqV (xs.getD j .non) (ys.getD j .non):=by
   unfold eqVs;rw[hl,UR,U',TJ,<-G,hl]
  rw[e];have hz:its.toArray.size=ρ.toArray.size:=by simp;omega
  have he:∀j (h1:j < its.toArray.size) (h2:j < ρ.toArray.size),Zw A.in1 s its.toArray[j] ρ.toArray[j] (eqV (xs.getD j .non) (ys.getD j .non)):=λj h1 h2=>
   Ng (rY r h1) (rY r' h2) (CM fx j) (CM η j)
  exact⟨SeqAt.RcAt.lists pl.isList ζ.isList hz hu he,SeqAt.RcNeAt.lists pl.isList ζ.isList hz hu he⟩
 ·have e:eqVs xs ys=false:=by
   unfold eqVs;rw[TL.mpr hl,U2]
  rw[e];have hz:(its.toArray.size != ρ.toArray.size)=true:=by simp;omega
  exact⟨SeqAt.RcAt.lists_lengths pl.isList ζ.isList hz hu,SeqAt.RcNeAt.lists_lengths pl.isList ζ.isList hz hu⟩
theorem Rc (hu:X.A.units < cLine):OpR X (compareOp .Eq) (rEqL X.K false):=by
 intro pins s σ H x y v u Q I L G h;obtain⟨a,b,xs,ys,rfl,rfl,ha,hb,fx,η,q⟩:=h;cases L;cases G;exact(DM hu I ha hb fx η).1 X.prog X.w X.xe _ ⟨.bl _,H,I,rfl,q⟩
theorem Q9 (hu:X.A.units < cLine):OpR X (compareOp .NotEq) (rEqL X.K true):=by
 intro pins s σ H x y v u Q I L G h;obtain⟨a,b,xs,ys,rfl,rfl,ha,hb,fx,η,q⟩:=h;cases L;cases G;exact(DM hu I ha hb fx η).2 X.prog X.w X.xe _ ⟨.bl _,H,I,rfl,q⟩
end
theorem Jz {xs:eE V} (f:xs.all oq=true):eqVs xs xs=true:=by
 unfold eqVs;rw[UR,U',Va];intro j _;have:=CM f j;generalize xs.getD j .non=x at this;cases x<;>first | rfl | exact UR _ | cases this
theorem d8 (a b:Nat):V9 (a:Int) (b:Int)=((a&&&b:Nat):Int):=by
 unfold V9;rw[gB (X' a),gB (X' b)];simp
theorem Iz:typeLookup (.type "list_reverseiterator") "__len__"=pure none:=by rw[WW,VQ];kernel_rfl
theorem LR:typeLookup (.type "list_reverseiterator") "__length_hint__"=pure (a' (.builtin "list_reverseiterator.__length_hint__")):=by rw[WW,VQ];kernel_rfl
section
variable {P0:Tv} {w0:U1} {A0:TQ} {E0':Cr} {t0:px}
theorem FY {R:R'} (Y:A0.handled=f') (ζ:l≠Z) (L:t0.heap.IsRevIter Z l ((items.size:Int) - 1)) (hl:t0.heap.IsList l items) (hz:items.size<=hR)
  (S:eH) (res:sC) (β:Nat) (ι:t0.heap.get? S=a' {cls:= .type "list",data:= .seq #[] β}) (α:S≠Z) (ω:S≠l)
  (χ:∀h' tk G ξ,(∀b o,b≠S->b≠Z->t0.heap.get? b=a' o->h'.get? b=a' o)->h'.get? S=a' {cls:= .type "list",dict:=f',data:= .seq G ξ,slots:=#[]}->
   ItemsOf (λi v=>items[items.size - 1 - i]? =a' v) G items.size->R (.ok (.ret res)) {t0 with heap:=h',toks:=tk}):
  n' (xY P0 w0) A0.in1 (TN (.ref S) (.ref Z) res)
   (λfin s'=>match fin with | .done f=>R (.ok f) s' | .again ξ=>ξ.quiet=true/\codeAny (xY P0 w0) A0 ξ R s') (λe s'=>R (.error e) s') t0:=by
 have W:=(Walks.listRev (prog:=P0) (w:=w0) (A:=A0.in1) Y Z l ζ items).toS;have ε:(0:Nat)<=items.size/\t0.heap.IsRevIter Z l ((items.size:Int) - 1 - ((0:Nat):Int))/\t0.heap.IsList l items:=⟨UY _,by simpa using L,hl⟩;have h1:VL (.ref S) (.ref Z)=false:=by simp[VL,α]
 have η:S∉[Z,l]:=by simp[α,ω]
 unfold TN;refine eS (Yt L.typeIs ?_);rw[qb (by rw[h1];decide)];refine eS (wpAny_pyIter_revIter L ?_);refine eS (VN ?_);unfold XU;refine eS (WU L.typeIs Iz ?_);show n' _ A0.in1 (specialOf (T7 Z) (Vy "__length_hint__") >>=_) _ _ _;refine eS (WU L.typeIs LR ?_)
 (generalize δ:("list_reverseiterator.__length_hint__":V7)=id0;wp_delta;rw[show splitId id0=a' ("list_reverseiterator","__length_hint__") from by subst δ;decide +kernel];subst δ)
 refine eS (wpAny_isInstance (b:=true) L.typeIs (by rw[isSubtype_type];kernel_rfl) ?_);refine sA ?_;rw[qb @C];refine sA ⟨Xl F.plain_extend_loop _,codeAny_extend_loopS W hz S η res items.size 0 t0 #[] β rfl (UY _) ε ι (ItemsOf.nil _) λs' G ξ hm θ ν=>?_⟩;rw[Moved.eq_with hm];refine χ s'.heap s'.toks G ξ (λb o hb υ e=>hm.heap b o (fun γ=>?_) e) θ ν;rcases Tn.mp γ with z | z
 ·exact hb z
 ·exact υ (gs.mp z)
theorem LQ {R:R'} {L:eH} (Y:A0.handled=f') (γ:l≠L) (δ:t0.heap.IsRevIter L l ((items.size:Int) - 1)) (hl:t0.heap.IsList l items) (hz:items.size<=hR)
  (S:eH) (ζ:t0.heap.get? S=a' {cls:= .type "list",data:= .seq #[]}) (α:S≠L) (ω:S≠l)
  (χ:∀h' tk G ξ,(∀b o,b≠S->b≠L->t0.heap.get? b=a' o->h'.get? b=a' o)->h'.get? S=a' {cls:= .type "list",dict:=f',data:= .seq G ξ,slots:=#[]}->
   ItemsOf (λi v=>items[items.size - 1 - i]? =a' v) G items.size->R (.ok (.ret .none)) {t0 with heap:=h',toks:=tk}):
  n' (xY P0 w0) A0.in1 (Builtin.«list.__init__» ⟨[.ref S,.ref L],[]⟩)
   (λfin s'=>match fin with | .done f=>R (.ok f) s' | .again ξ=>ξ.quiet=true/\codeAny (xY P0 w0) A0 ξ R s') (λe s'=>R (.error e) s') t0:=by
 show n' _ _ (do let Z <-V' (.ref S);WE (.ref S) (λ_=>#[]);letGo Z.toList.reverse;TN (.ref S) (.ref L) .none) _ _ t0;refine eS ?_;unfold V';refine eS (W2 ζ rfl (sA ?_));show n' _ _ (updateSeq S (λ_=>#[]) >>=λ_=>letGo (#[]:G').toList.reverse >>=λ_=>TN (.ref S) (.ref L) .none) _ _ t0;refine eS (WT ζ rfl ?_);have β:=UX (Ut (λ_=>(#[]:G'))) ζ rfl;have oth:∀b o,b≠S->t0.heap.get? b=a' o->(t0.heap.update S (Ut (λ_=>(#[]:G')))).get? b=a' o:=λb o hb e=>(Ue _ _ (Ts hb)).trans e;refine eS (wpAny_letGo ?_);refine FY Y γ (δ.at λo e=>oth L o (Ts α) e) (let ⟨o,e,c⟩:=hl;⟨o,oth l o (Ts ω) e,c⟩) hz S .none _ β α ω λh' tk G ξ hk ε ν=>?_;exact χ h' tk G ξ (λb o hb υ e=>hk b o hb υ (oth b o hb e)) ε ν
theorem zY {Q:Cr} (Y:A0.handled=f') (δ:l≠Z) (α:t0.heap.IsRevIter Z l ((items.size:Int) - 1)) (hl:t0.heap.IsList l items) (hz:items.size<=hR)
  (η:∀h' tk G ξ,(∀b o,b≠Z->t0.heap.get? b=a' o->h'.get? b=a' o)->h'.get? t0.heap.objs.size=a' {cls:= .type "list",dict:=f',data:= .seq G ξ,slots:=#[]}->
   ItemsOf (λi v=>items[items.size - 1 - i]? =a' v) G items.size->Q (.ref t0.heap.objs.size) {t0 with heap:=h',toks:=tk}):
  n' (xY P0 w0) A0 (call (.type "list") [.ref Z]) Q E0' t0:=by
 have γ:Z < t0.heap.objs.size:=let ⟨o,e,_⟩:=α;hE e
 have β:l < t0.heap.objs.size:=let ⟨o,e,_⟩:=hl;hE e
 refine Ze (Q₁:=λobj L=>obj= .ref t0.heap.objs.size/\L={t0 with heap:=t0.heap.push {cls:= .type "list",data:= .seq #[]}}) F.called_list (F.typeCall_list_1 _) F.entry_list_init (code_list_new _ ⟨rfl,rfl⟩) λobj L h₁=>?_;obtain⟨rfl,rfl⟩:=h₁;have ζ:(t0.heap.push {cls:= .type "list",data:= .seq #[]}).get? t0.heap.objs.size=a' {cls:= .type "list",data:= .seq #[]}:=mu _ rfl;refine⟨⟨_,ζ,rfl⟩,F.args_list_init_2 _ _,LQ (A0:=A0.in1) Y δ (α.at λo e=>fy _ e) (let ⟨o,e,c⟩:=hl;⟨o,fy _ e,c⟩) hz _ ζ (Ts (TB γ)) (Ts (TB β)) λh' tk G ξ hk ε ν=>?_⟩;exact⟨rfl,η h' tk G ξ (λb o hb e=>hk b o (TB (hE e)) hb (fy _ e)) ε ν⟩
end
theorem Inv.laidT {L:eH} {t':Nat} (I:Inv X pins σ H s) (k:∀b u,b≠L->s.heap.get? b=a' u->h'.get? b=a' u) (α:s.heap.objs.size<=a)
  (Z:gX X.prog X.w (upd H a o) h' a o) (fp:FpOk X pins H L):Inv X pins σ (upd H a o) {s with heap:=h',toks:=t'}:=by
 obtain⟨ε,G,ζ,δ,γ,ψ⟩:=fp;have fr:H a=none:=I.hok.fresh α;have β:∀b u,H b=a' u->b≠L:=λb u e z=>by rw[z,ε] at e;cases e
 have φ:∀{b:eH},b∉[L]->b≠L:=λhb z=>hb (by rw[z];exact gs.mpr rfl)
 refine I.step (g':=s.gens) (d':=s.drawn) (ch:=[L]) (λb hb=>?_) (λb ob _ _ Y e _=>k b ob (φ Y) e) (λb ob _ _ Y e _=>⟨ob.slots,k b ob (φ Y) e⟩) (λb ob _ e n=>?_) (λb ob Y e=>⟨ob,k b ob (φ Y) e⟩)
  (λb xs e=>by rw[aF (ao e fr)];exact e) (λb ob u e=>by rw[aF (ao e fr)];exact e) (λb ps e=>⟨#[],by rw[aF (ao e fr),e];simp⟩) (λm hm=>?_) (λb u e=>?_) I.bare
 ·have e:b=L:=gs.mp hb;subst e;exact⟨δ,G,γ,ψ⟩
 ·rw[aF (TB (gm (hE e) α))];exact n
 ·obtain⟨ob,es,ep,ho,r⟩:=hm;exact⟨ob,es,ep,k _ ob (Ts G) ho,r⟩
 ·by_cases hb:b=a
  ·subst hb;rw[au] at e;cases e;exact Z
  ·rw[aF hb] at e;refine(I.hok b u e).stay (λc v Y q=>k c v ?_ q) (λc q=>by rw[aF (ao q fr)];exact q) λc xs q=>by rw[aF (ao q fr)];exact q
   rcases Y with z | z
   ·rw[z];exact β b u e
   ·exact β c _ z
theorem Jc (h:ItemsOf (λi v=>its.toArray[its.toArray.size - 1 - i]? =a' v) pT its.toArray.size):pT=its.reverse.toArray:=by
 obtain⟨h1,h2⟩:=h;apply Array.ext_getElem?;intro i;have hs:its.toArray.size=its.length:=by simp
 by_cases hi:i < pT.size
 ·have e:=h2 i pT[i] (VU hi);rw[VU hi,<-e];rw[Xs,Xs,List.getElem?_reverse @A,hs]
 ·rw[Z3 @A,Z3 (by simp;omega)]
noncomputable def tRev (K:dt) (te:TE):TE:=fun σ H Q=>te σ H λx H1=>∃a xs,x= .ref a/\SqL K H1 a xs/\∀l,H1 l=f'->Q (.ref l) (upd H1 l (.lst xs.reverse))
section
variable {X:Cx}
theorem Fe (g1:Gl X "list") (g2:Gl X "reversed") (n1:X.mg "list"=f') (θ:X.mg "reversed"=f') (hc:X.calm=true) (he:PE X e te)
  (h1:tu [Z' (.Name "reversed" lA) [e] [] lB] X.env=[(false,eval (.Call (.Name "reversed" lA) [e] [] lB) X.env)]:=by rfl) (h2:tu [e] X.env=[(false,eval e X.env)]:=by rfl):
  PE X (.Call (.Name "list" lO) [.Call (.Name "reversed" lA) [e] [] lB] [] lx) (tRev X.K te):=by
 intro pins s σ H Q I h
 have χ:∀ε:Cr,(∀v G,(∃a xs its H1 r,v= .ref r/\SqL X.K H1 a xs/\Vals xs its/\a≠r/\Inv X pins σ H1 G/\G.heap.IsRevIter r a ((its.toArray.size:Int) - 1)/\G.heap.IsList a its.toArray/\its.length<=hR/\H1 r=f'/\FpOk X pins H1 r/\(∀l,H1 l=f'->Q (.ref l) (upd H1 l (.lst xs.reverse))))->ε v G)->
   n' (xY X.prog X.w) X.A (eval (.Call (.Name "reversed" lA) [e] [] lB) X.env) ε X.xe s:=fun ε δ=>by
  refine YL (lN I g2 θ PyProof.Rows.boot_reversed (Tt (thn (aa he ae h2 lB pins s σ H (λvs H1=>match vs with | [x]=>∃a xs,x= .ref a/\SqL X.K H1 a xs/\∀l,H1 l=f'->Q (.ref l) (upd H1 l (.lst xs.reverse)) | _=>False) I h) λus G ⟨vs,H1,I1,Y,lO⟩=>?_) h2 rfl))
  match vs,Y,lO with
  | [x],Y,⟨a,xs,ο,α,q⟩=>
  obtain⟨u,rfl,η⟩:=Y.one;subst ο;cases η;obtain⟨its,L,pl,hz⟩:=I1.list α;have lt:a < G.heap.objs.size:=let ⟨o,e,_⟩:=pl.isList;hE e
  refine call_reversed_list pl.isList (δ _ _ ⟨a,xs,its,H1,G.heap.objs.size,rfl,α,L,TB lt,I1.kept (t':=G.toks) λb o e=>fy _ e,⟨_,mu _ rfl,rfl,rfl⟩,let ⟨o,e,c⟩:=pl.isList;⟨o,fy _ e,c⟩,by rw[<-L.length];exact hz,I1.fresh,I1.fpOk (sb _) I1.fresh,q⟩)
 refine YL (lN I g1 n1 wq (Tt (Q:=EP X pins σ Q) ?_ h1 rfl));rw[h1];show n' _ _ (spliced ((false,eval (.Call (.Name "reversed" lA) [e] [] lB) X.env)::backTo lx [])) _ _ s;refine WI (χ _ λv G ι=>X1 ?_);obtain⟨a,xs,its,H1,r,rfl,α,L,β,I1,γ,hl,hz,hf,fp,q⟩:=ι;refine zY (I1.ok.hd hc) β γ hl (by simpa using hz) λh' tk π c hk ξ ν=>?_;have e:=Jc ν;subst e;exact⟨.ref G.heap.objs.size,upd H1 G.heap.objs.size (.lst xs.reverse),I1.laidT hk (sb _) ⟨by rw[Zz,L.length];exact hz,its.reverse,c,L.reverse,ξ⟩ fp,rfl,q _ I1.fresh⟩
end
section
variable {X:Cx} {K:dt}
theorem a9 (h:X.K=K):IxR X (rIxL K):=by subst h;exact OX
theorem aC (h:X.K=K):IxR X (rIxT K):=by subst h;exact RE
theorem ko (h:X.K=K):SlR X (rSlL K):=by subst h;exact Of
theorem OJ (h:X.K=K) (hu:X.A.units < cLine):OpR X (compareOp .Eq) (rEqL K false):=by subst h;exact Rc hu
theorem Ie (h:X.K=K) (hu:X.A.units < cLine):OpR X (compareOp .NotEq) (rEqL K true):=by subst h;exact Q9 hu
theorem lV (h:X.K=K):mR X (.builtin "isinstance") (rIsi K):=by subst h;exact Mi
noncomputable def rLen (K:dt):eE V->Hp->VK->Prop:=λxs H Q=>∃x n,xs=[x]/\LenV K x H n/\Q (.int n) H
theorem aP (h:X.K=K):mR X (.builtin "len") (rLen K):=by subst h;exact Mh
noncomputable def B5 (K:dt):eE V->Hp->VK->Prop:=λxs H Q=>∃p ys,xs=[.ref p]/\(SqL K H p ys∨SqT K H p ys)/\∀l,H l=f'->Q (.ref l) (upd H l (.lst ys))
theorem cM (h:X.K=K):mR X (.type "list") (B5 K):=by subst h;exact Bq
noncomputable def HI (K:dt):eE V->Hp->VK->Prop:=λxs H Q=>∃p ys,xs=[.ref p]/\((SqL K H p ys/\∀l,H l=f'->Q (.ref l) (upd H l (.tup ys)))∨(SqT K H p ys/\Q (.ref p) H))
theorem dQ (h:X.K=K):mR X (.type "tuple") (HI K):=by subst h;exact zX
theorem aG {l:UF} (h:X.K=K) (hl:PE X l tl):PI X tg l (RG K tl):=by subst h;exact OD hl
theorem jQ {l:UF} (h:X.K=K) (hl:PE X l tl):PI X tg l (iTup K tl):=by subst h;exact Q1 hl
theorem qi {o:UF} {name:T3} {r:V->eE V->Hp->VK->Prop} (h:X.K=K) (Z:PlainAttrs T) (slot:Slot T name pu) (Y:typeOf (.builtin pu)=pure (.type "method_descriptor")) (hm:MtR X pu r) (ho:PE X o to)
  (G:attributeBase o name X.env (eval o X.env)=eval o X.env:=by rfl) (L:(apos.endLine == cpos.line)=true:=by rfl):PE X (.Call (.Attribute o name apos) [] [] cpos) (tBM0 K T r to):=by subst h;exact Q7 Z slot Y hm ho G L
theorem gM {o:UF} {t:TA} {name:T3} {r:V->eE V->Hp->VK->Prop} (h:X.K=K) (β:PlainAttrs T) (slot:Slot T name pu) (α:typeOf (.builtin pu)=pure (.type "method_descriptor")) (hm:MtR X pu r) (ho:PE X o to) (ha:PA X (e::δ) t)
  (Y:attributeBase o name X.env (eval o X.env)=eval o X.env:=by rfl)
  (Z:((backTo cpos (tu (e::δ) X.env)).all (λx=> !x.1)&&(backToKw cpos (keywordEach [] X.env)).all (λx=>x.1.isSome)
   &&decide ((e::δ).length + ([]:eE Keyword).length + (if ([]:eE Keyword).isEmpty then 0 else 1) < 30))=true:=by rfl)
  (L:(apos.endLine == cpos.line)=true:=by rfl) (hs:tu (e::δ) X.env=(false,eval e X.env)::tu δ X.env:=by rfl) (G:(backTo cpos (tu δ X.env)).any (·.1)=false:=by rfl):
  PE X (.Call (.Attribute o name apos) (e::δ) [] cpos) (tBM K T r to t):=by subst h;exact S1 β slot α hm ho ha Y Z L hs G
end
noncomputable def Its (x:T3):It:=⟨λi _=>i < x.cps.size,λi H v H'=>H'=H/\∃c,x.cps[i]? =a' c/\v= .str ⟨#[c]⟩,λi _=>i=x.cps.size⟩
theorem Dp {P:Tv} {w:U1} {K:dt} {x:T3} {t:Tok} {n:V7}
  (hn:["enumerate","zip","dict_itemiterator","dict_reverseitemiterator","odict_iterator","itertools.zip_longest","itertools.pairwise"].contains n=false)
  (W:∀A:TQ,A.handled=f'->Walks P w A C [C] [C] x.cps.size (SignAt x) (λi h=>h.IsStrIter C n x t i))
  (ψ:∀(A:TQ) (i:Nat) (s:px) (Q:Cr) (E:Cr),s.heap.IsStrIter C n x t i->Q (.ref C) s->n' (xY P w) A (pyIter (.ref C)) Q E s):
  Turn P w K tg (Its x) [C] C (λi h=>h.IsStrIter C n x t i) where
 mem:=by simp
 obj:=λi h st b hb=>by
  have e:b=C:=by simpa using hb
  subst e;obtain⟨o,e,c,d⟩:=st;exact⟨o,e,λv z=>by rw[d] at z;cases z⟩
 keep:=λi h h' st k=>let ⟨o,e,r⟩:=st;⟨o,k C @E o e,r⟩
 item:=by
  intro X β hw γ α i pins s σ H E I hf st Z;subst β hw γ;obtain⟨η,G,ν,ζ,ε,δ⟩:=hf C @E;refine(W X.A (I.ok.hd α)).item i s _ _ Z st λv h' tk ι L ο=>?_;obtain⟨c,u,θ,rfl⟩:=ι;have π:Inv X pins σ H {s with heap:=h',toks:=tk}:=I.turned (λb o hb e=>ο b o (by simpa using hb) e) η G ζ ε δ;obtain⟨o,e,ξ,d⟩:=id L;exact⟨_,rfl,LV (s:={s with heap:=h',toks:=tk}) (n:=n) e ξ d hn ⟨.str ⟨#[c]⟩,H,π,⟨u,rfl⟩,⟨rfl,c,θ,rfl⟩,L,λb hb=>(hf b hb).1⟩⟩
 done:=by
  intro X β hw γ α i pins s σ H E I hf st Z;subst β hw γ;obtain⟨η,G,ν,ζ,ε,δ⟩:=hf C @E;have Z:i=x.cps.size:=Z;subst Z;exact(W X.A (I.ok.hd α)).done s _ _ st λh' tk ο=>⟨rfl,I.turned (λb o hb e=>ο b o (by simpa using hb) e) η G ζ ε δ⟩
 self:=ψ
noncomputable abbrev iStr (tl:TE):TI:=fun σ H R=>tl σ H λx H1=>∃z,x= .str z/\R (Its z) H1
section
variable {X:Cx} {tg:UF}
theorem Q2 {l:UF} (hl:PE X l tl):PI X tg l (iStr tl):=by
 intro pins s σ H R I h;refine thn (hl pins s σ H _ I h) λv G ⟨x,H1,I1,Y,Z⟩=>?_;obtain⟨z,e,q⟩:=Z;subst e;obtain⟨t,rfl⟩:=Y
 have fp:∀(o:ZC),∀b∈[G.heap.objs.size],FpOk X pins H1 b:=λo b hb=>by
  have e:b=G.heap.objs.size:=by simpa using hb
  subst e;exact I1.fpOk (sb _) (I1.hok.fresh (sb _))
 cases ha:z.cps.all (· < 128)
 ·refine wpAny_pyIter_wide ha ⟨G.heap.objs.size,[G.heap.objs.size],_,_,H1,rfl,I1.kept (t':=G.toks) λb o e=>fy _ e,
   Dp (n:="str_iterator") (t:=t) @C (λA L=>Walks.strWide L _ z t) (λ_ _ _ _ _ st h=>wpAny_pyIter_striter_wide st h),⟨_,mu _ rfl,rfl,rfl⟩,fp default,q⟩
 ·refine wpAny_pyIter_ascii ha ⟨G.heap.objs.size,[G.heap.objs.size],_,_,H1,rfl,I1.kept (t':=G.toks) λb o e=>fy _ e,
   Dp (n:="str_ascii_iterator") (t:=t) @C (λA L=>Walks.strAscii L _ z t) (λ_ _ _ _ _ st h=>wpAny_pyIter_striter_ascii st h),⟨_,mu _ rfl,rfl,rfl⟩,fp default,q⟩
end
section
variable {n:Nat} {fx:C'} {g:TG} {tc:TT} {te:TE} {σ:St} {H1:Hp} {D:eH} {Q:Hp->Prop}
theorem Mf (Y:Nat->eE V->Hp->Prop) (h0:Y 0 [] (upd H1 D (.lst [])))
  (hs:∀i c ys H,z.cps[i]? =a' c->Y i ys H->g (.str ⟨#[c]⟩) (dG n fx σ) H λG γ=>tc G γ λb β=>if b=true then te G β λv α=>α D=a' (.lst ys)/\ys.length < hR/\Y (i + 1) (ys++[v]) (upd α D (.lst (ys++[v]))) else Y (i + 1) ys β)
  (hd:∀ys H,Y z.cps.size ys H->Q H):
  ∃W:Nat->Nat->eE V->Hp->Prop,(∃m,W 0 m [] (upd H1 D (.lst [])))/\∀i m ys H2,W i m ys H2->((Its z).stop i H2/\Q H2)∨
    ((Its z).go i H2/\∃N:eE V->Hp->Prop,(∀L H',N L H'->∃δ,δ < m/\W (i + 1) δ L H')/\∀x ζ,(Its z).yld i H2 x ζ->g x (dG n fx σ) ζ λG γ=>tc G γ λb β=>
      if b=true then te G β λv α=>α D=a' (.lst ys)/\ys.length < hR/\N (ys++[v]) (upd α D (.lst (ys++[v]))) else N ys β):=by
 refine⟨λi m ys H=>m=z.cps.size - i/\i<=z.cps.size/\Y i ys H,⟨z.cps.size,@E,UY _,h0⟩,?_⟩;rintro i m ys H ⟨rfl,hi,p⟩;by_cases Z:i < z.cps.size
 ·refine .inr ⟨Z,Y (i + 1),λL H' ε=>⟨z.cps.size - (i + 1),by omega,rfl,Z,ε⟩,λx H' y=>?_⟩;obtain⟨e,c,η,y⟩:=y;subst e;subst y;exact hs i c ys _ η p
 ·have e:i=z.cps.size:=by omega
  subst e;exact .inl ⟨rfl,hd ys H p⟩
end
theorem EF {ns:B'}:∀{us:E'},Vals (ns.map V.str) us->StrsAre us ns:=by
 induction ns with
 | nil=>intro us r;rw[Yf] at r;cases r;exact .nil
 | cons n ns ih=>
   intro us r;rw[Uq] at r;cases r with
   | cons Y G=>
     obtain⟨t,e⟩:=Y;subst e;exact .cons n t (ih G)
noncomputable def QK (K:dt):V->eE V->Hp->VK->Prop:=λx xs H Q=>∃z D ys,x= .str z/\xs=[.ref D]/\SqL K H D (ys.map V.str)/\(ys.map (·.length)).sum + ys.length * z.length<=16777216/\Q (.str (Zt z ys)) H
noncomputable def QO (K:dt):eE V->Hp->VK->Prop:=λxs H Q=>∃(a:eH) (bs:eE UD),xs=[.ref a]/\SqL K H a (bs.map V.bl)/\Q (.bl (bs.all id)) H
noncomputable def QN (K:dt):eE V->Hp->VK->Prop:=λxs H Q=>∃(a:eH) (bs:eE UD),xs=[.ref a]/\SqL K H a (bs.map V.bl)/\Q (.bl (bs.any id)) H
section
variable {X:Cx} {K:dt}
theorem Eb (h:X.K=K):MtR X "str.join" (QK K):=by
 subst h;intro pins s σ H x xs v us Q I G rs h;obtain⟨z,D,ys,rfl,rfl,Z,hz,q⟩:=h;obtain⟨t,rfl⟩:=G;obtain⟨u,rfl,Y⟩:=rZ rs;cases Y;obtain⟨its,L,pl,_⟩:=I.list Z;exact join_list pl.isList (EF (by simpa using L)) hz λt' k=>⟨.str (Zt z ys),H,I.tok k,⟨t',rfl⟩,q⟩
theorem JW {bs:eE UD} (G:Vals (bs.map V.bl) its) {v:sC} (h:its.toArray[i]? =a' v):v= .bool (bs.getD i false):=by
 have h':its[i]? =a' v:=by simpa using h
 have hi:i < its.length:=(b'.mp h').1;have hl:=G.length;rw[bx] at hl;obtain⟨u,e,r⟩:=G.get (i:=i) (x:= .bl (bs.getD i false)) (by rw[gA,ed @A,ec,ed @A];rfl);rw[h'] at e;cases e;exact r
theorem Se (bs:eE UD):(vu bs.length).all (λi=>bs.getD i false)=bs.all id:=by
 rw[Vn,Va,Va];constructor
 ·intro h x G;obtain⟨i,hi,e⟩:=U6.mp G;have:=h i (U8.mpr hi);rw[ec,ed hi,e] at this;exact this
 ·intro h i hi;have hi:=U8.mp hi;rw[ec,ed hi];exact h _ (UL hi)
theorem Sb (bs:eE UD):(vu bs.length).any (λi=>bs.getD i false)=bs.any id:=by
 rw[Vn,W7,W7];constructor
 ·rintro⟨i,hi,h⟩;have hi:=U8.mp hi;rw[ec,ed hi] at h;exact⟨_,UL hi,h⟩
 ·rintro⟨x,G,h⟩;obtain⟨i,hi,e⟩:=U6.mp G;refine⟨i,U8.mpr hi,?_⟩;rw[ec,ed hi,e];exact h
theorem wV (h:X.K=K) (hc:X.calm=true):mR X (.builtin "all") (QO K):=by
 subst h;intro pins s σ H xs us Q I r h;obtain⟨a,bs,rfl,Z,q⟩:=h;obtain⟨u,rfl,L⟩:=rZ r;cases L;obtain⟨its,G,pl,hz⟩:=I.list Z;have lt:a < s.heap.objs.size:=let ⟨o,e,_⟩:=pl.isList;hE e
 have hl:its.toArray.size=bs.length:=by have:=G.length;rw[bx] at this;simp[this]
 refine call_all_walk (Xh pl.isList ⟨s.heap.objs.size,_,_,its.toArray.size,_,_,λi=>bs.getD i false,rfl,Zu (A:=X.A.in1) (I.ok.hd hc) s.heap.objs.size a (TB lt) its.toArray,⟨⟨_,mu _ rfl,rfl,rfl⟩,let ⟨o,e,c⟩:=pl.isList;⟨o,fy _ e,c⟩⟩,λi v s Q E Y α=>by rw[JW G Y];exact Vt α,λh' tk ο=>?_⟩);rw[hl,Se];exact⟨.bl _,H,I.kept (λb o e=>ο b o (λhm=>by have:=hE e;rw[gs.mp hm] at this;exact hD this (Vc _)) (fy _ e)),rfl,q⟩
theorem Br (h:X.K=K) (hc:X.calm=true):mR X (.builtin "any") (QN K):=by
 subst h;intro pins s σ H xs us Q I r h;obtain⟨a,bs,rfl,Z,q⟩:=h;obtain⟨u,rfl,L⟩:=rZ r;cases L;obtain⟨its,G,pl,hz⟩:=I.list Z;have lt:a < s.heap.objs.size:=let ⟨o,e,_⟩:=pl.isList;hE e
 have hl:its.toArray.size=bs.length:=by have:=G.length;rw[bx] at this;simp[this]
 refine call_any_walk (Xh pl.isList ⟨s.heap.objs.size,_,_,its.toArray.size,_,_,λi=>bs.getD i false,rfl,Zu (A:=X.A.in1) (I.ok.hd hc) s.heap.objs.size a (TB lt) its.toArray,⟨⟨_,mu _ rfl,rfl,rfl⟩,let ⟨o,e,c⟩:=pl.isList;⟨o,fy _ e,c⟩⟩,λi v s Q E Y α=>by rw[JW G Y];exact Vt α,λh' tk ο=>?_⟩);rw[hl,Sb];exact⟨.bl _,H,I.kept (λb o e=>ο b o (λhm=>by have:=hE e;rw[gs.mp hm] at this;exact hD this (Vc _)) (fy _ e)),rfl,q⟩
end
inductive Dt where
 | non | bl (b:UD) | int (i:Int) | str (x:T3) | lst (xs:eE Dt) | tup (xs:eE Dt)
inductive Rep (K:dt) (H:Hp):V->Dt->Prop where
 | non:Rep K H .non .non
 | bl (b:UD):Rep K H (.bl b) (.bl b)
 | int (i:Int):Rep K H (.int i) (.int i)
 | str (x:T3):Rep K H (.str x) (.str x)
 | lst {p:eH} {xs:eE V} {ds:eE Dt} (h:SqL K H p xs) (l:xs.length=ds.length) (r:∀(i:Nat) x d,xs[i]? =a' x->ds[i]? =a' d->Rep K H x d):Rep K H (.ref p) (.lst ds)
 | tup {p:eH} {xs:eE V} {ds:eE Dt} (h:SqT K H p xs) (l:xs.length=ds.length) (r:∀(i:Nat) x d,xs[i]? =a' x->ds[i]? =a' d->Rep K H x d):Rep K H (.ref p) (.tup ds)
theorem Same.tup {K:dt} {xs:eE V} (e:Same H H') (h:SqT K H a xs):SqT K H' a xs:=by
 rcases h with (h | ⟨o,h⟩) | h
 ·exact .inl (.inl (e _ _ h))
 ·exact .inl (.inr ⟨o,e _ _ h⟩)
 ·exact .inr h
mutual
noncomputable def eqD:Dt->Dt->UD
 | .non,.non=>true
 | .bl a,.bl b=>a == b
 | .bl a,.int b=>(if a then 1 else 0) == b
 | .int a,.bl b=>a == (if b then 1 else 0)
 | .int a,.int b=>a == b
 | .str a,.str b=>a == b
 | .lst xs,.lst ys=>eqDs xs ys
 | .tup xs,.tup ys=>eqDs xs ys
 | _,_=>false
noncomputable def eqDs:eE Dt->eE Dt->UD
 | [],[]=>true
 | x::xs,y::ys=>eqD x y&&eqDs xs ys
 | _,_=>false
end
mutual
noncomputable def depD:Dt->Nat
 | .lst xs=>CQ xs + 1
 | .tup xs=>CQ xs + 1
 | _=>0
noncomputable def CQ:eE Dt->Nat
 | []=>0
 | x::xs=>max (depD x) (CQ xs)
end
theorem JH {ds:eE Dt} {d:Dt} (h:d∈ds):depD d<=CQ ds:=by
 induction ds with
 | nil=>cases h
 | cons x xs ih=>
   rw[CQ];rcases Tn.mp h with rfl | h
   ·omega
   ·have:=ih h;omega
theorem zU:∀{xs ys:eE Dt},xs.length≠ys.length->eqDs xs ys=false
 | [],[],h=>hD rfl h
 | [],_::_,_=>rfl
 | _::_,[],_=>rfl
 | x::xs,y::ys,h=>by rw[eqDs,zU (λz=>h (by simp[z])),US]
theorem zV:∀{xs ys:eE Dt},xs.length=ys.length->eqDs xs ys=(vu xs.length).all λi=>eqD (xs.getD i .non) (ys.getD i .non)
 | [],[],_=>rfl
 | [],_::_,h=>by cases h
 | _::_,[],h=>by cases h
 | x::xs,y::ys,h=>by
   rw[eqDs,zV (by simpa using h),U4,Z6,XF,ad5];rfl
theorem L8:∀d:Dt,eqD d d=true:=by
 intro d;refine Dt.rec (motive_1:=λd=>eqD d d=true) (motive_2:=λds=>eqDs ds ds=true) ?_ ?_ ?_ ?_ ?_ ?_ ?_ ?_ d
 ·rfl
 ·intro b;simp[eqD]
 ·intro b;simp[eqD]
 ·intro b;simp[eqD]
 ·intro xs h;rw[eqD];exact h
 ·intro xs h;rw[eqD];exact h
 ·rfl
 ·intro x xs h1 h2;rw[eqDs,h1,h2];rfl
theorem Nf:∀{d e:Dt},d=e->eqD d e=true:=λh=>by subst h;exact L8 _
section
variable {X:Cx} {pins:D'} {σ:St} {H:Hp} {s:px}
theorem Inv.notBoth (I:Inv X pins σ H s) {xs ys:eE V} (h1:SqL X.K H p xs) (h2:SqT X.K H p ys):False:=by
 obtain⟨_,_,pl,_⟩:=I.list h1;obtain⟨_,_,⟨o,ho,L,_⟩,_⟩:=I.tuple h2;obtain⟨o',n,ζ,G,_⟩:=pl;rw[ho] at ζ;cases ζ;rw[L] at G;exact hD G @C
theorem Rep.fun (I:Inv X pins σ H s) {x:V} {d:Dt} (r:Rep X.K H x d):∀{e:Dt},Rep X.K H x e->d=e:=by
 induction r with
 | non=>intro e q;cases q;rfl
 | bl b=>intro e q;cases q;rfl
 | int i=>intro e q;cases q;rfl
 | str z=>intro e q;cases q;rfl
 | lst h l r ih=>
   intro e q;cases q with
   | lst h' φ r'=>
     have ex:=I.list_inj h h';subst ex;congr 1;refine Wg λi=>?_;rename_i xs ds L;by_cases hi:i < ds.length
     ·rw[ed hi,ed @A];have G:i < xs.length:=by omega
      rw[ih i _ _ (ed G) (ed hi) (r' i _ _ (ed G) (ed @A))]
     ·rw[Uw @A,Uw @A]
   | tup h' φ r'=>exact(I.notBoth h h').elim
 | tup h l r ih=>
   intro e q;cases q with
   | tup h' φ r'=>
     have ex:=I.tuple_inj h h';subst ex;congr 1;refine Wg λi=>?_;rename_i xs ds L;by_cases hi:i < ds.length
     ·rw[ed hi,ed @A];have G:i < xs.length:=by omega
      rw[ih i _ _ (ed G) (ed hi) (r' i _ _ (ed G) (ed @A))]
     ·rw[Uw @A,Uw @A]
   | lst h' φ r'=>exact(I.notBoth h' h).elim
open SeqAt in
theorem rc_D (I:Inv X pins σ H s) {x:V} {d:Dt} (r:Rep X.K H x d):∀{A:TQ} {e:Dt} {y:V} {u v:sC} (n:Nat),Rep X.K H y e->RelV x u->RelV y v->depD d<=n->A.units + n < cLine->
  EqAt A s u v (eqD d e)/\RcAt A s u v (eqD d e)/\RcNeAt A s u v (!eqD d e):=by
 induction r with
 | non=>
   intro A e y u v n q β Y hd τ;cases β;cases q with
   | non=>cases Y;exact⟨aa0 _,RcAt.none_none,RcNeAt.none_none⟩
   | bl b=>cases Y;exact⟨EqAt.none_bool b,RcAt.none_bool b,RcNeAt.none_bool b⟩
   | int b=>obtain⟨t,rfl⟩:=Y;exact⟨EqAt.none_int b t,RcAt.none_int b t,RcNeAt.none_int b t⟩
   | str b=>obtain⟨t,rfl⟩:=Y;exact⟨EqAt.none_str b t,RcAt.none_str b t,RcNeAt.none_str b t⟩
   | lst h l r=>cases Y;obtain⟨_,_,pl,_⟩:=I.list h;exact⟨EqAt.none_list pl.isList @A,RcAt.none_list pl.isList @A,RcNeAt.none_list pl.isList @A⟩
   | tup h l r=>cases Y;obtain⟨_,_,pl,_⟩:=I.tuple h;exact⟨EqAt.none_tuple pl @A,RcAt.none_tuple pl @A,RcNeAt.none_tuple pl @A⟩
 | bl a=>
   intro A e y u v n q β Y hd τ;cases β;cases q with
   | non=>cases Y;exact⟨EqAt.bool_none a,RcAt.bool_none a,RcNeAt.bool_none a⟩
   | bl b=>cases Y;exact⟨EqAt.bool_bool a b,RcAt.bool_bool a b,RcNeAt.bool_bool a b⟩
   | int b=>obtain⟨t,rfl⟩:=Y;exact⟨EqAt.bool_int a b t,RcAt.bool_int a b t,RcNeAt.bool_int a b t⟩
   | str b=>obtain⟨t,rfl⟩:=Y;exact⟨EqAt.bool_str a b t,RcAt.bool_str a b t,RcNeAt.bool_str a b t⟩
   | lst h l r=>cases Y;obtain⟨_,_,pl,_⟩:=I.list h;exact⟨EqAt.bool_list a pl.isList @A,RcAt.bool_list a pl.isList @A,RcNeAt.bool_list a pl.isList @A⟩
   | tup h l r=>cases Y;obtain⟨_,_,pl,_⟩:=I.tuple h;exact⟨EqAt.bool_tuple a pl @A,RcAt.bool_tuple a pl @A,RcNeAt.bool_tuple a pl @A⟩
 | int a=>
   intro A e y u v n q β Y hd τ;obtain⟨t',rfl⟩:=β;cases q with
   | non=>cases Y;exact⟨EqAt.int_none a t',RcAt.int_none a t',RcNeAt.int_none a t'⟩
   | bl b=>cases Y;exact⟨EqAt.int_bool a t' b,RcAt.int_bool a t' b,RcNeAt.int_bool a t' b⟩
   | int b=>obtain⟨t,rfl⟩:=Y;exact⟨EqAt.int_int a t' b t,RcAt.int_int a t' b t,RcNeAt.int_int a t' b t⟩
   | str b=>obtain⟨t,rfl⟩:=Y;exact⟨EqAt.int_str a t' b t,RcAt.int_str a t' b t,RcNeAt.int_str a t' b t⟩
   | lst h l r=>cases Y;obtain⟨_,_,pl,_⟩:=I.list h;exact⟨EqAt.int_list a t' pl.isList @A,RcAt.int_list a t' pl.isList @A,RcNeAt.int_list a t' pl.isList @A⟩
   | tup h l r=>cases Y;obtain⟨_,_,pl,_⟩:=I.tuple h;exact⟨EqAt.int_tuple a t' pl @A,RcAt.int_tuple a t' pl @A,RcNeAt.int_tuple a t' pl @A⟩
 | str a=>
   intro A e y u v n q β Y hd τ;obtain⟨t',rfl⟩:=β;cases q with
   | non=>cases Y;exact⟨EqAt.str_none a t',RcAt.str_none a t',RcNeAt.str_none a t'⟩
   | bl b=>cases Y;exact⟨EqAt.str_bool a t' b,RcAt.str_bool a t' b,RcNeAt.str_bool a t' b⟩
   | int b=>obtain⟨t,rfl⟩:=Y;exact⟨EqAt.str_int a t' b t,RcAt.str_int a t' b t,RcNeAt.str_int a t' b t⟩
   | str b=>obtain⟨t,rfl⟩:=Y;exact⟨EqAt.str_str a t' b t,RcAt.str_str a t' b t,RcNeAt.str_str a t' b t⟩
   | lst h l r=>cases Y;obtain⟨_,_,pl,_⟩:=I.list h;exact⟨EqAt.str_list a t' pl.isList @A,RcAt.str_list a t' pl.isList @A,RcNeAt.str_list a t' pl.isList @A⟩
   | tup h l r=>cases Y;obtain⟨_,_,pl,_⟩:=I.tuple h;exact⟨EqAt.str_tuple a t' pl @A,RcAt.str_tuple a t' pl @A,RcNeAt.str_tuple a t' pl @A⟩
 | @lst p xs ds h l r ih=>
   intro A e y u v n q β Y hd τ;cases β;obtain⟨its,δ,pl,_⟩:=I.list h;rw[depD] at hd;cases q with
   | non=>cases Y;exact⟨EqAt.list_none pl.isList @A,RcAt.list_none pl.isList @A,RcNeAt.list_none pl.isList @A⟩
   | bl b=>cases Y;exact⟨EqAt.list_bool b pl.isList @A,RcAt.list_bool b pl.isList @A,RcNeAt.list_bool b pl.isList @A⟩
   | int b=>obtain⟨t,rfl⟩:=Y;exact⟨EqAt.list_int b t pl.isList @A,RcAt.list_int b t pl.isList @A,RcNeAt.list_int b t pl.isList @A⟩
   | str b=>obtain⟨t,rfl⟩:=Y;exact⟨EqAt.list_str b t pl.isList @A,RcAt.list_str b t pl.isList @A,RcNeAt.list_str b t pl.isList @A⟩
   | tup h' φ r'=>
     cases Y;obtain⟨_,_,ζ,_⟩:=I.tuple h';exact⟨EqAt.list_tuple pl.isList ζ @A,RcAt.list_tuple pl.isList ζ @A,RcNeAt.list_tuple pl.isList ζ @A⟩
   | @lst η α L h' φ r'=>
     cases Y;obtain⟨its',γ,ζ,_⟩:=I.list h';have n1:=δ.length;have ω:=γ.length
     have Z:RcAt A s (.ref p) (.ref η) (eqDs ds L)/\RcNeAt A s (.ref p) (.ref η) (!eqDs ds L):=by
      by_cases hl:ds.length=L.length
      ·have e:eqDs ds L=(vu its.toArray.size).all λi=>eqD (ds.getD i .non) (L.getD i .non):=by
        rw[zV hl,TJ,<-n1,l]
       rw[e];have hz:its.toArray.size=its'.toArray.size:=by simp;omega
       have he:∀j (h1:j < its.toArray.size) (h2:j < its'.toArray.size),EqAt A.in1 s its.toArray[j] its'.toArray[j] (eqD (ds.getD j .non) (L.getD j .non)):=λj h1 h2=>by
        have ο:j < its.length:=by simpa using h1
        have G:j < its'.length:=by simpa using h2
        have ξ:j < xs.length:=by omega
        have θ:j < α.length:=by omega
        have ι:j < ds.length:=by omega
        have ε:j < L.length:=by omega
        have g1:xs[j]? =a' (xs.getD j .non):=by rw[ec,ed ξ];rfl
        have g2:ds[j]? =a' (ds.getD j .non):=by rw[ec,ed ι];rfl
        have ρ:α[j]? =a' (α.getD j .non):=by rw[ec,ed θ];rfl
        have π:L[j]? =a' (L.getD j .non):=by rw[ec,ed ε];rfl
        have hn:n≠0:=by omega
        exact(ih j _ _ g1 g2 (n - 1) (r' j _ _ ρ π) (rY δ h1) (rY γ h2) (by have:=JH (ee g2);omega) (by show A.units + 1 + (n - 1) < cLine;omega)).1
       exact⟨RcAt.lists pl.isList ζ.isList hz @A he,RcNeAt.lists pl.isList ζ.isList hz @A he⟩
      ·rw[zU hl];have hz:(its.toArray.size != its'.toArray.size)=true:=by simp;omega
       exact⟨RcAt.lists_lengths pl.isList ζ.isList hz @A,RcNeAt.lists_lengths pl.isList ζ.isList hz @A⟩
     rw[eqD];refine⟨?_,Z⟩;by_cases ν:p=η
     ·subst ν;have e:Dt.lst ds=Dt.lst L:=(Rep.lst h l r).fun I (.lst h' φ r');have υ:eqDs ds L=true:=by have:=Nf e;rw[eqD] at this;exact this
      rw[υ];exact aa0 _
     ·exact ad6 ν Z.1
 | @tup p xs ds h l r ih=>
   intro A e y u v n q β Y hd τ;cases β;obtain⟨its,δ,pl,_⟩:=I.tuple h;rw[depD] at hd;cases q with
   | non=>cases Y;exact⟨EqAt.tuple_none pl @A,RcAt.tuple_none pl @A,RcNeAt.tuple_none pl @A⟩
   | bl b=>cases Y;exact⟨EqAt.tuple_bool b pl @A,RcAt.tuple_bool b pl @A,RcNeAt.tuple_bool b pl @A⟩
   | int b=>obtain⟨t,rfl⟩:=Y;exact⟨EqAt.tuple_int b t pl @A,RcAt.tuple_int b t pl @A,RcNeAt.tuple_int b t pl @A⟩
   | str b=>obtain⟨t,rfl⟩:=Y;exact⟨EqAt.tuple_str b t pl @A,RcAt.tuple_str b t pl @A,RcNeAt.tuple_str b t pl @A⟩
   | lst h' φ r'=>
     cases Y;obtain⟨_,_,ζ,_⟩:=I.list h';exact⟨EqAt.tuple_list pl ζ.isList @A,RcAt.tuple_list pl ζ.isList @A,RcNeAt.tuple_list pl ζ.isList @A⟩
   | @tup η α L h' φ r'=>
     cases Y;obtain⟨its',γ,ζ,_⟩:=I.tuple h';have n1:=δ.length;have ω:=γ.length
     have Z:RcAt A s (.ref p) (.ref η) (eqDs ds L)/\RcNeAt A s (.ref p) (.ref η) (!eqDs ds L):=by
      have e:eqDs ds L=((vu (min its.toArray.size its'.toArray.size)).all (λi=>eqD (ds.getD i .non) (L.getD i .non))&&its.toArray.size == its'.toArray.size):=by
       by_cases hl:ds.length=L.length
       ·have ψ:its.toArray.size=ds.length:=by simp;omega
        have χ:its'.toArray.size=ds.length:=by simp;omega
        rw[zV hl,ψ,χ,XC,UR,Bool.and_true]
       ·have z:(its.toArray.size == its'.toArray.size)=false:=by rw[TL];simp;omega
        rw[zU hl,z,US]
      rw[e]
      have he:∀j (h1:j < its.toArray.size) (h2:j < its'.toArray.size),EqAt A.in1 s its.toArray[j] its'.toArray[j] (eqD (ds.getD j .non) (L.getD j .non)):=λj h1 h2=>by
       have ο:j < its.length:=by simpa using h1
       have G:j < its'.length:=by simpa using h2
       have ξ:j < xs.length:=by omega
       have θ:j < α.length:=by omega
       have ι:j < ds.length:=by omega
       have ε:j < L.length:=by omega
       have g1:xs[j]? =a' (xs.getD j .non):=by rw[ec,ed ξ];rfl
       have g2:ds[j]? =a' (ds.getD j .non):=by rw[ec,ed ι];rfl
       have ρ:α[j]? =a' (α.getD j .non):=by rw[ec,ed θ];rfl
       have π:L[j]? =a' (L.getD j .non):=by rw[ec,ed ε];rfl
       have hn:n≠0:=by omega
       exact(ih j _ _ g1 g2 (n - 1) (r' j _ _ ρ π) (rY δ h1) (rY γ h2) (by have:=JH (ee g2);omega) (by show A.units + 1 + (n - 1) < cLine;omega)).1
      exact⟨RcAt.tuples pl ζ @A he,RcNeAt.tuples pl ζ @A he⟩
     rw[eqD];refine⟨?_,Z⟩;by_cases ν:p=η
     ·subst ν;have e:Dt.tup ds=Dt.tup L:=(Rep.tup h l r).fun I (.tup h' φ r');have υ:eqDs ds L=true:=by have:=Nf e;rw[eqD] at this;exact this
      rw[υ];exact aa0 _
     ·exact ad6 ν Z.1
end
noncomputable def rEqD (K:dt) (neg:UD):R2:=λx y H Q=>∃d e,Rep K H x d/\Rep K H y e/\depD d<=100/\Q (.bl (if neg then !eqD d e else eqD d e)) H
section
variable {X:Cx} {K:dt}
theorem Ig (h:X.K=K) (hu:X.A.units + 100 < cLine):OpR X (compareOp .NotEq) (rEqD K true):=by
 subst h;intro pins s σ H x y v u Q I L G h;obtain⟨d,e,Y,Z,hd,q⟩:=h;exact(rc_D I Y 100 Z L G hd hu).2.2 X.prog X.w X.xe _ ⟨.bl _,H,I,rfl,q⟩
end
inductive Gw:St->Nat->T8 V->St->Prop where
 | z {a v:T8 V} {l:St}:Gw (a::l) 0 v (v::l)
 | s {a v:T8 V} {l l':St} {i:Nat}:Gw l i v l'->Gw (a::l) (i + 1) v (a::l')
theorem Gw.eq {l:St} {v:T8 V} (h:Gw l i v σ):l.set i v=σ:=by
 induction h with
 | z=>rfl
 | s _ ih=>rw[List.set_cons_succ,ih]
inductive Gx:St->Nat->V->Prop where
 | z {v:V} {l:St}:Gx (a' v::l) 0 v
 | s {a:T8 V} {v:V} {l:St} {i:Nat}:Gx l i v->Gx (a::l) (i + 1) v
theorem Gx.eq {l:St} (h:Gx l i v):l[i]? =a' (a' v):=by
 induction h with
 | z=>rfl
 | s _ ih=>rw[List.getElem?_cons_succ];exact ih
section
variable {σ σ':St} {H:Hp} {Q:VK} {D:Ends} {ta tb tc te:TE} {t u:TS} {tt tt':TT} {r r':R2} {x y v:V}
theorem aw {t:TS} (e:start N vs=σ') (h:t D σ' H):t D (start N vs) H:=by rw[e];exact h
theorem SM (e:Gx σ i v) (h:Q v H):tVar i σ H Q:=⟨v,e.eq,h⟩
theorem s_rI {C:Int->Int->Prop} {g:Int->Int->V} {i j:Int} (c:C i j) (h:Q (g i j) H):rI C g (.int i) (.int j) H Q:=⟨i,j,rfl,rfl,c,h⟩
theorem SR {g:Int->Int->V} {i j:Int} (h:Q (g i j) H):rI0 g (.int i) (.int j) H Q:=⟨i,j,rfl,rfl,h⟩
theorem SS (e:scal x y=true) (h:Q (.bl (decide (x=y))) H):rEq x y H Q:=⟨e,h⟩
theorem SQ (e:scal x y=true) (h:Q (.bl (!decide (x=y))) H):rNe x y H Q:=⟨e,h⟩
theorem Qi (h:D.nx σ H):PX D σ H:=h
theorem Os {Q:St->Hp->Prop} (e:Gw σ i (a' v) σ') (h:Q σ' H):Jt i v σ H Q:=by show Q (σ.set i (a' v)) H;rw[e.eq];exact h
theorem Qv {Q:St->Hp->Prop} (h:Q σ H):gNil [] σ H Q:=⟨rfl,h⟩
theorem Ot {g:TG} {Q:St->Hp->Prop} (h:g v σ H fun σ' H'=>pp vs σ' H' Q):O4 g pp (v::vs) σ H Q:=⟨v,vs,rfl,h⟩
theorem Qu {K:dt} {n:Nat} {xs:eE V} {Q:St->Hp->Prop} (e:SqT K H p xs) (l:xs.length=n) (h:pp xs σ H Q):gTup K n pp (.ref p) σ H Q:=⟨p,xs,rfl,e,l,h⟩
def NewT (Q:VK) (xs:eE V) (H:Hp):Prop:=xs.length<=hR/\∀p,H p=f'->Q (.ref p) (upd H p (.tup xs))
def NewL (Q:VK) (xs:eE V) (H:Hp):Prop:=xs.length<=hR/\∀p,H p=f'->Q (.ref p) (upd H p (.lst xs))
theorem SN (h:qB σ H (NewT Q)):tTup qB σ H Q:=h
theorem SU (h:qB σ H (NewL Q)):tLst qB σ H Q:=h
theorem aW (h:γ C=f'):Same γ (upd γ C o):=λb u e=>by rw[aF (ao e h)];exact e
theorem jI (h:∀p H2,H p=f'->Same H H2->H2 p=a' o->Q (.ref p) H2):∀p,H p=f'->Q (.ref p) (upd H p o):=λp G=>h p _ G (aW G) au
theorem Same.get (e:Same γ H') {b:eH} (h:γ b=a' o):H' b=a' o:=e b o h
theorem Qj {xs:eE V} (l:xs.length<=hR) (h:∀p H2,H p=f'->Same H H2->H2 p=a' (.tup xs)->Q (.ref p) H2):NewT Q xs H:=⟨l,jI h⟩
theorem Qk {xs:eE V} (l:xs.length<=hR) (h:∀p H2,H p=f'->Same H H2->H2 p=a' (.lst xs)->Q (.ref p) H2):NewL Q xs H:=⟨l,jI h⟩
theorem Ox (h:qB σ H λvs H1=>sp vs H1 Q E):GW sp [] E qB σ H Q:=by unfold GW;simp only[UZ];exact h
theorem SO {K:dt} {xs:eE V} {lo hi:T8 Int} (e:SqL K H p xs) (h:∀q H2,H q=f'->Same H H2->H2 q=a' (.lst (cutV xs lo hi))->Q (.ref q) H2):rSlL K (.ref p) lo hi H Q:=⟨p,xs,rfl,e,jI h⟩
theorem SW {K:dt} {xs:eE V} {i:Int} (e:SqL K H p xs) (a:atI xs i=a' v) (h:Q v H):rIxL K (.ref p) (.int i) H Q:=⟨p,xs,i,v,rfl,rfl,e,a,h⟩
theorem SV {K:dt} {xs:eE V} {i:Int} (e:SqT K H p xs) (a:atI xs i=a' v) (h:Q v H):rIxT K (.ref p) (.int i) H Q:=⟨p,xs,i,v,rfl,rfl,e,a,h⟩
theorem Qt {i:Int} (e:z.length<=hR) (a:atI z.cps.toList i=a' c) (h:Q (.str ⟨#[c]⟩) H):rIxS (.str z) (.int i) H Q:=⟨z,i,c,rfl,rfl,e,a,h⟩
theorem IL {n:Nat} (h:n<=1000):n<=sizeLine:=Vh (aM h)
theorem Qw {K:dt} {d e:Dt} (Y:Rep K H x d) (G:Rep K H y e) (hd:depD d<=100) (h:Q (.bl (if neg then !eqD d e else eqD d e)) H):rEqD K neg x y H Q:=⟨d,e,Y,G,hd,h⟩
theorem s_ty {K:dt} {A:Prop} (e:tyV K T x H) (h:A):tyV K T x H/\A:=⟨e,h⟩
theorem QF {i:Int} (h:Q (.int (Tw i:Nat)) H):QM (.int i) [] H Q:=⟨i,rfl,rfl,h⟩
theorem MJ {K:dt} {ys:B'} (e:SqL K H p (ys.map V.str)) (l:(ys.map (·.length)).sum + ys.length * z.length<=16777216) (h:Q (.str (Zt z ys)) H):QK K (.str z) [.ref p] H Q:=⟨z,p,ys,rfl,rfl,e,l,h⟩
theorem Qr {K:dt} {xs:eE V} (e:SqL K H p xs) (h:Q (.int xs.length) H):rLen K [.ref p] H Q:=⟨_,_,rfl,.inl ⟨xs,e,rfl⟩,h⟩
theorem Qp {K:dt} {xs:eE V} (e:SqT K H p xs) (h:Q (.int xs.length) H):rLen K [.ref p] H Q:=⟨_,_,rfl,.inr ⟨xs,e,rfl⟩,h⟩
theorem Qq {K:dt} (e:z.length<=hR) (h:Q (.int z.length) H):rLen K [.str z] H Q:=⟨_,_,rfl,⟨e,rfl⟩,h⟩
theorem SX {K:dt} {k:V7} (e:mH K H x k) (m:T∈["int","bool","str","list","tuple","dict"]) (h:Q (.bl (subB k T)) H):rIsi K [x,.ty T] H Q:=⟨x,k,T,rfl,e,m,h⟩
theorem Qz (h:∀p H2,H p=f'->Same H H2->H2 p=a' (.dK [])->Q (.ref p) H2):MD σ H Q:=jI h
theorem SY {L:TI} {g:TG} (h:L σ H λJ H1=>∃W:Nat->Nat->St->Hp->Prop,(∃m,W 0 m σ H1)/\∀i m σ H,W i m σ H->(J.stop i H/\D.nx σ H)∨(J.go i H/\∃N:St->Hp->Prop,(∀σ' H',N σ' H'->∃Y,Y < m/\W (i + 1) Y σ' H')/\∀x H',J.yld i H x H'->g x σ H' λG H2=>oD {D with nx:=N,ct:=N,bk:=D.nx} G H2)):tFor L g oD D σ H:=h
theorem SL {Q:UD->Hp->Prop} (h:Q true H):tYes σ H Q:=h
theorem Qf {A B:Prop} (h:A):if true=true then A else B:=by rw[wb rfl];exact h
theorem Ou {A B:Prop} (h:B):if false=true then A else B:=by rw[qb hB];exact h
theorem p9 {c:UD} {A B:Prop} (e:c=true) (h:A):if c=true then A else B:=by rw[wb e];exact h
theorem jh {c:UD} {A B:Prop} (e:c=false) (h:B):if c=true then A else B:=by rw[e,qb hB];exact h
theorem QE {n:Nat} {g:TG} (h:qE σ H λJ H1=>∀D,H1 D=f'->
 ∃W:Nat->Nat->eE V->Hp->Prop,(∃m,W 0 m [] (upd H1 D (.lst [])))/\∀i m ys H2,W i m ys H2->(J.stop i H2/\Q (.ref D) H2)∨
   (J.go i H2/\∃N:eE V->Hp->Prop,(∀L H',N L H'->∃Z,Z < m/\W (i + 1) Z L H')/\∀x γ,J.yld i H2 x γ->g x (dG n fx σ) γ λG δ=>tt G δ λb β=>
    if b=true then te G β λv α=>α D=a' (.lst ys)/\ys.length < hR/\N (ys++[v]) (upd α D (.lst (ys++[v]))) else N ys β)):KM n fx qE g tt te σ H Q:=h
theorem DH {K:dt} {bs:eE UD} (e:SqL K H p (bs.map V.bl)) (h:Q (.bl (bs.all id)) H):QO K [.ref p] H Q:=⟨p,bs,rfl,e,h⟩
theorem MM {K:dt} {bs:eE UD} (e:SqL K H p (bs.map V.bl)) (h:Q (.bl (bs.any id)) H):QN K [.ref p] H Q:=⟨p,bs,rfl,e,h⟩
theorem Ll {j:Int} {A:Prop} (h1: -(2 ^ 62)<=j) (h2:j < 2 ^ 62) (h:A): -(2 ^ 62)<=j/\j < 2 ^ 62/\A:=⟨h1,h2,h⟩
end
noncomputable def tCut (t u:TS):TS:=λD σ H=>∃P:St->Hp->Prop,t {D with nx:=P} σ H/\∀σ' H',P σ' H'->u D σ' H'
theorem HR {st:Wr} {t u:TS} (h1:PS X st t) (h2:PSs X ol u):PSs X (st::ol) (tCut t u):=by
 intro pins s σ H D I ⟨P,a,b⟩;refine YG (thn (h1 pins s σ H {D with nx:=P} I a) λf L q=>?_);cases f with
 | next=>obtain⟨G,H1,Z,Y⟩:=q;exact h2 pins L G H1 D Z (b G H1 Y)
 | brk=>exact q
 | cont=>exact q
 | ret v=>exact q
theorem QD {t u:TS} (P:St->Hp->Prop) (h:t {oe with nx:=P} σ H) (k:∀σ' H',P σ' H'->u oe σ' H'):tCut t u oe σ H:=⟨P,h,k⟩
section
variable {K:dt} {n:Nat} {fx:C'} {g:TG} {tc:TT} {te:TE} {σ:St} {H1:Hp} {D:eH} {Q:Hp->Prop}
structure Cs (Pv:Nat->eE V->Prop) (H1:Hp) (D:eH) (i:Nat) (ys:eE V) (H:Hp):Prop where
 pv:Pv i ys
 same:Same H1 H
 at':H D=a' (.lst ys)
 len:ys.length<=i
theorem Cs.put {L:Nat->eE V->Prop} {ys:eE V} (f:H1 D=f') (s:Same H1 H) (e:H D=a' (.lst ys)) (l:ys.length<=i) (hi:i < 16777216) (p:L (i + 1) (ys++[v])):
  H D=a' (.lst ys)/\ys.length < hR/\Cs L H1 D (i + 1) (ys++[v]) (upd H D (.lst (ys++[v]))):=
 ⟨e,by rw[nr];omega,p,λb o h=>by rw[aF (ao h f)];exact s b o h,au,by rw[eP];simpa using l⟩
theorem Cs.skip {L:Nat->eE V->Prop} {ys:eE V} (s:Same H1 H) (e:H D=a' (.lst ys)) (l:ys.length<=i) (p:L (i + 1) ys):Cs L H1 D (i + 1) ys H:=⟨p,s,e,@A⟩
theorem Cs.zero {G:Nat->eE V->Prop} (f:H1 D=f') (p:G 0 []):Cs G H1 D 0 [] (upd H1 D (.lst [])):=⟨p,aW f,au,sb _⟩
end
structure Ny (K:dt) (C:eH) (m:T3) (f:eH):Prop where
 ga:VB K (.ref C) "__getattribute__"=a' (a' (.builtin "type.__getattribute__"))
 rd:ZF K C (.type "type")=true
 fd:ZI K (.ref C) (.type "type") m=a' (.val (.ref f))
 hd:XY (.ref f)=true
 kp:UO K (.ref f)=true
section
variable {X:Cx} {CX:CXT} {k:Nat} {f C:eH} {fd:hN} {ps:B'} {sp:Sp} {dvs:eE V} {ds:E'} {E:XK} {x m:T3} {p pos apos:Pos} {e o:UF} {es:eE UF} {ta:TE} {t:TA}
theorem vk {pl:Sem UD} (Z:Gl X x) (hx:X.mg x=a' (.ref C)) (c:Ny X.K C m f) (F:FnOk X.prog X.w X.K X.mg X.base CX k f fd ps sp) (Y:Room k X.A) (hb:qH X.K fd ps ds) (hd:Vals dvs ds) (ω:rS CX X E) (ha:PA X (e::es) t)
  (G:(x == ("__debug__":T3))=false:=by decide) (η:tu (e::es) X.env=(false,eval e X.env)::tu es X.env:=by rfl) (ψ:(backTo pos (tu es X.env)).any (·.1)=false:=by rfl)
  (ht:eval (.Call (.Attribute (.Name x p) m apos) (e::es) [] pos) X.env=(do
   let L <-eval (.Name x p) X.env
   standAt apos.atName
   let (f,first) <-holding [L] (getMethod L m pl)
   callWith pos f first (backTo pos (tu (e::es) X.env)) (backToKw pos (keywordEach [] X.env))):=by rfl):
  PE X (.Call (.Attribute (.Name x p) m apos) (e::es) [] pos) (GW sp dvs E t):=by
 intro pins s σ H Q I h;refine Wb (pl:=pl) (vZ I Z hx ?_ G) ht;refine PySem.W.method_cls I.kIn c.ga (PySem.W.cls_value I.kIn c.rd c.fd c.hd ?_);have I1:=I.tok (s.toks + 1);refine W3 (first:=[]) (h₀:=X.base) I1.ok.mod.kin c.kp (thn (ha pos pins _ σ H _ I1 h) λus α ⟨vs,H2,I2,r,χ⟩=>⟨I2.kIn,?_⟩) η ψ;exact DI (us:=us) (vs:=vs) F Y hb hd ω I2 r χ
end
structure Tr (K:dt) (D:eH):Prop where
 cls:Cls K D
 ha:TK K (.ref D) "__class__"=a' (a' (.builtin "object.__class__"))
 hn:VB K (.builtin "object.__class__") "__get__"=a' (a' (.builtin "getset_descriptor.__get__"))
 tk:Yb K (.builtin "object.__class__")=a' true
 hm:Vm K D (.type "object")=a' true
section
variable {X:Cx} {K:dt}
theorem aJ {f:T3} (h:X.K=K) (he:PE X e ta) (hb:attributeBase e f X.env (eval e X.env)=eval e X.env):PE X (.Attribute e f pos) (tFld K ta f):=by subst h;exact Q5 he hb
theorem cR {o:UF} {f:T3} (h:X.K=K) (ha:PE X o ta) (G:PE X value θ) (hs:swapsWith value (a' (.Attribute o f pos')) pos.line X.env=pure false):PS X (.Assign [.Attribute o f pos'] value pos) (sFld K ta θ f):=by subst h;exact QX ha G hs
theorem PE.or {t u:TE} (h:PE X e t) (h':PE X e u):PE X e (fun σ H Q=>t σ H Q∨u σ H Q):=by
 intro pins s σ H Q I q;rcases q with q | q
 ·exact h pins s σ H Q I q
 ·exact h' pins s σ H Q I q
end
section
variable {σ:St} {H:Hp} {Q:VK} {D:Ends} {te tv ta:TE} {x y v:V}
def Pr (K:dt) (f:T3) (Q:VK) (x:V) (H:Hp):Prop:=∃a C dx fs v,x= .ref a/\H a=a' (.ins C dx fs)/\Cls K C/\cE K C f/\fs.lookup f=a' v/\Q v H
theorem SZ {K:dt} {f:T3} (h:te σ H (Pr K f Q)):tFld K te f σ H Q:=h
theorem aI {K:dt} {f:T3} (e:H p=a' (.ins C dx wE)) (c:Cls K C) (n:cE K C f) (l:wE.lookup f=a' v) (h:Q v H):Pr K f Q (.ref p) H:=⟨p,C,dx,wE,v,rfl,e,c,n,l,h⟩
structure Upd (H H':Hp) (p:eH) (o:HO):Prop where
 at':H' p=a' o
 oth:∀b u,b≠p->H b=a' u->H' b=a' u
 non:∀b,b≠p->H b=f'->H' b=f'
theorem Upd.of:Upd γ (upd γ p o) p o:=⟨au,λb u n h=>by rw[aF n];exact h,λb n h=>by rw[aF n];exact h⟩
def Sl (K:dt) (f:T3) (y:V) (D:Ends) (σ:St) (x:V) (H:Hp):Prop:=∃a C dx fs,x= .ref a/\H a=a' (.ins C dx fs)/\Cls K C/\cE K C f/\fs.length < 1000/\D.nx σ (upd H a (.ins C dx (putF f y fs)))
theorem Li {K:dt} {f:T3} (h:tv σ H λy H1=>te σ H1 (Sl K f y D σ)):sFld K te tv f D σ H:=h
theorem cQ {K:dt} {f:T3} (e:H p=a' (.ins C dx wE)) (c:Cls K C) (n:cE K C f) (l:wE.length < 1000) (χ:putF f y wE=wP) (h:∀H2,Upd H H2 p (.ins C dx wP)->D.nx σ H2):
  Sl K f y D σ (.ref p) H:=⟨p,C,dx,wE,rfl,e,c,n,l,by rw[χ];exact h _ Upd.of⟩
def Nw (C:eH) (sp:Sp) (E:XK) (Q:VK) (vs:eE V) (H:Hp):Prop:=∀x dx,H x=f'->H dx=f'->dx≠x->sp (.ref x::(vs++[])) (upd (upd H dx (.own x)) x (.ins C dx [])) (λv H2=>v= .non/\Q (.ref x) H2) E
theorem Qn (h:qB σ H (Nw C sp E Q)):PY C sp [] E qB σ H Q:=h
theorem Lj (h:∀x dx H2,H x=f'->Same H H2->H2 x=a' (.ins C dx [])->sp (.ref x::vs) H2 (λv H2=>v= .non/\Q (.ref x) H2) E):Nw C sp E Q vs H:=by
 intro x dx G L n;rw[UZ];exact h x dx _ G (λb o e=>by rw[aF (ao e G),aF (ao e L)];exact e) au
theorem Upd.same (u:Upd H H2 p o) (f:γ p=f') (s:Same γ H):Same γ H2:=λb q e=>u.oth b q (ao e f) (s b q e)
theorem Upd.trans (u:Upd H H2 p o) (w:Upd H2 γ p eO):Upd H γ p eO:=⟨w.at',λb q n e=>w.oth b q n (u.oth b q n e),λb n e=>w.non b n (u.non b n e)⟩
end
theorem Inv.laidCh {t':Nat} (I:Inv X pins σ H s) (k:∀b u,b∉ch->s.heap.get? b=a' u->h'.get? b=a' u) (Z:s.heap.objs.size<=a)
  (Y:gX X.prog X.w (upd H a o) h' a o) (fp:∀b∈ch,FpOk X pins H b):Inv X pins σ (upd H a o) {s with heap:=h',toks:=t'}:=by
 have fr:H a=none:=I.hok.fresh Z;have β:∀b u,H b=a' u->b∉ch:=λb u e z=>by rw[(fp b z).1] at e;cases e
 refine I.step (g':=s.gens) (d':=s.drawn) (ch:=ch) (λb hb=>?_) (λb ob _ _ L e _=>k b ob L e) (λb ob _ _ L e _=>⟨ob.slots,k b ob L e⟩) (λb ob _ e n=>?_) (λb ob L e=>⟨ob,k b ob L e⟩)
  (λb xs e=>by rw[aF (ao e fr)];exact e) (λb ob u e=>by rw[aF (ao e fr)];exact e) (λb ps e=>⟨#[],by rw[aF (ao e fr),e];simp⟩) (λm hm=>?_) (λb u e=>?_) I.bare
 ·obtain⟨ε,G,δ,γ,α,ψ⟩:=fp b hb;exact⟨γ,G,α,ψ⟩
 ·rw[aF (TB (gm (hE e) Z))];exact n
 ·obtain⟨ob,es,ep,ho,r⟩:=hm;exact⟨ob,es,ep,k _ ob (λz=>(fp _ z).2.1 rfl) ho,r⟩
 ·by_cases hb:b=a
  ·subst hb;rw[au] at e;cases e;exact Y
  ·rw[aF hb] at e;refine(I.hok b u e).stay (λc v L q=>k c v ?_ q) (λc q=>by rw[aF (ao q fr)];exact q) λc xs q=>by rw[aF (ao q fr)];exact q
   rcases L with z | z
   ·rw[z];exact β b u e
   ·exact β c _ z
theorem Inv.turnedCh {t':Nat} (I:Inv X pins σ H s) (k:∀b u,b∉ch->s.heap.get? b=a' u->h'.get? b=a' u)
  (fp:∀b∈ch,FpOk X pins H b):Inv X pins σ H {s with heap:=h',toks:=t'}:=by
 have β:∀b u,H b=a' u->b∉ch:=λb u e z=>by rw[(fp b z).1] at e;cases e
 refine I.step (g':=s.gens) (d':=s.drawn) (ch:=ch) (λb hb=>?_) (λb ob _ _ L e _=>k b ob L e) (λb ob _ _ L e _=>⟨ob.slots,k b ob L e⟩) (λb ob _ e n=>n) (λb ob L e=>⟨ob,k b ob L e⟩)
  (λb xs e=>e) (λb ob u e=>e) (λb ps e=>⟨#[],by rw[e];simp⟩) (λm hm=>?_) (λb u e=>?_) I.bare
 ·obtain⟨γ,G,α,Z,Y,ψ⟩:=fp b hb;exact⟨Z,G,Y,ψ⟩
 ·obtain⟨ob,es,ep,ho,r⟩:=hm;exact⟨ob,es,ep,k _ ob (λz=>(fp _ z).2.1 rfl) ho,r⟩
 ·refine(I.hok b u e).stay (λc v L q=>k c v ?_ q) (λc q=>q) λc xs q=>q;rcases L with z | z
  ·rw[z];exact β b u e
  ·exact β c _ z
noncomputable def Ite (K:dt) (a:eH):It:=
 ⟨λi H=>∃xs x,SqL K H a xs/\xs[i]? =a' x,λi H x H'=>∃p v,H p=f'/\x= .ref p/\H'=upd H p (.tup [.int i,v])/\∀xs,SqL K H a xs->xs[i]? =a' v,λi H=>∃xs,SqL K H a xs/\xs.length=i⟩
noncomputable def Itz (x:T3):It:=⟨λi _=>i < x.cps.size,λi H v H'=>∃p c,H p=f'/\v= .ref p/\H'=upd H p (.tup [.int i,.str ⟨#[c]⟩])/\x.cps[i]? =a' c,λi _=>i=x.cps.size⟩
theorem Ap:(2:Nat)<=sizeLine:=by rw[nr];decide
theorem yf {P:Tv} {w:U1} {K:dt} {k:Nat} (a e Y:eH) (Z:e≠Y):
  Turn P w K (.Tuple δ k pos) (Ite K a) [e,Y] e (λi h=>(∃L,IsEnum h e Y i L)/\h.IsListIter Y a i) where
 mem:=by simp
 obj:=λi h st b hb=>by
  obtain⟨⟨L,he⟩,⟨o,ho,χ,hd⟩⟩:=st;rcases Tn.mp hb with z | z
  ·subst z;exact⟨_,he,λv z=>by cases z⟩
  ·rw[gs.mp z];exact⟨o,ho,λv z=>by rw[hd] at z;cases z⟩
 keep:=λi h h' st k=>⟨let ⟨L,he⟩:=st.1;⟨L,k e @E _ he⟩,st.2.at λo z=>k Y @E o z⟩
 item:=by
  intro X hP hw γ χ i pins s σ H E I hf st ω;subst hP hw γ;obtain⟨xs,x,φ,υ⟩:=ω;obtain⟨its,ρ,p,hz⟩:=I.list φ;obtain⟨⟨L,he⟩,hl⟩:=st
  have ι:a≠Y:=λz=>by
   obtain⟨o,ho,ε,_⟩:=hl;obtain⟨o',n,ζ,G,_⟩:=p;rw[z,ho] at ζ;cases ζ;rw[ε] at G;exact hD G @C
  have ν:a≠e:=λz=>by
   obtain⟨o',n,ζ,G,_⟩:=p;rw[z,he] at ζ;cases ζ;exact hD (show WG "enumerate"= .type "list" from G) @C
  have W:=VC (prog:=X.prog) (w:=X.w) (A:=X.A) (Draws.list (A:=X.A.in1) (I.ok.hd χ) Y a ι its.toArray) e Z (by simp[Z,Ts ν]) @E;have hi:i < its.toArray.size:=by have:=ρ.length;have:=(b'.mp υ).1;simp;omega
  refine W.item i s _ _ hi ⟨⟨L,he⟩,hl,p.isList⟩ λT a5 h' tk a3 hT ξ β hk=>⟨_,rfl,W.go δ k pos i T _ _ _ β λa4 η π=>?_⟩;obtain⟨t,θ,ψ,rfl⟩:=a3;have a0:=W.apart i T h' β
  have ru:RelV x θ:=by
   obtain⟨u,τ,r⟩:=ρ.get υ;have α:its[i]? =a' θ:=by simpa using ψ
   rw[τ] at α;cases α;exact r
  have ο:∀b u,b∉[e,Y]->s.heap.get? b=a' u->a4.get? b=a' u:=λb u hb q=>π b u hb (hk b u hb q);have fr:H T=none:=I.hok.fresh hT;refine⟨.ref T,upd H T (.tup [.int i,x]),I.laidCh (t':=tk) ο hT ⟨Ap,[.int i t,θ],.cons ⟨t,rfl⟩ (.cons ru .nil),?_⟩ hf,rfl,⟨T,x,fr,rfl,rfl,λys hy=>by rw[I.list_inj hy φ];exact υ⟩,⟨η.1,η.2.1⟩,λb hb=>?_⟩
  ·obtain⟨o,ho,r⟩:=ξ;exact⟨o,π T o a0 ho,r⟩
  ·have fb:=(hf b hb);rw[aF (λz=>?_)]
   ·exact fb.1
   ·have lt:b < s.heap.objs.size:=by
     rcases Tn.mp hb with z | z
     ·subst z;exact hE he
     ·rw[gs.mp z];obtain⟨o,ho,_⟩:=hl;exact hE ho
    rw[z] at lt;exact hD (gm lt hT) (Vc _)
 done:=by
  intro X hP hw γ χ i pins s σ H E I hf st ω;subst hP hw γ;obtain⟨xs,φ,υ⟩:=ω;obtain⟨its,ρ,p,hz⟩:=I.list φ;obtain⟨⟨L,he⟩,hl⟩:=st
  have ι:a≠Y:=λz=>by
   obtain⟨o,ho,ε,_⟩:=hl;obtain⟨o',n,ζ,G,_⟩:=p;rw[z,ho] at ζ;cases ζ;rw[ε] at G;exact hD G @C
  have ν:a≠e:=λz=>by
   obtain⟨o',n,ζ,G,_⟩:=p;rw[z,he] at ζ;cases ζ;exact hD (show WG "enumerate"= .type "list" from G) @C
  have W:=VC (prog:=X.prog) (w:=X.w) (A:=X.A) (Draws.list (A:=X.A.in1) (I.ok.hd χ) Y a ι its.toArray) e Z (by simp[Z,Ts ν]) @E;have hn:its.toArray.size=i:=by have:=ρ.length;simp;omega
  subst hn;exact W.done s _ _ ⟨⟨L,he⟩,hl,p.isList⟩ λh' tk hk=>⟨rfl,I.turnedCh hk hf⟩
 self:=λ_ _ _ _ _ st h=>let ⟨_,he⟩:=st.1;Vu he h
theorem ED {P:Tv} {w:U1} {K:dt} {k:Nat} {x:T3} {t:Tok} {n:V7} (e L:eH) (Z:e≠L)
  (D:∀A:TQ,A.handled=f'->Draws P w A L [L] x.cps.size (λi v=>∃c u,x.cps[i]? =a' c/\v= .str ⟨#[c]⟩ u) (λi h=>h.IsStrIter L n x t i)):
  Turn P w K (.Tuple β k pos) (Itz x) [e,L] e (λi h=>(∃G,IsEnum h e L i G)/\h.IsStrIter L n x t i) where
 mem:=by simp
 obj:=λi h st b hb=>by
  obtain⟨⟨G,he⟩,⟨o,ho,ι,hd⟩⟩:=st;rcases Tn.mp hb with z | z
  ·subst z;exact⟨_,he,λv z=>by cases z⟩
  ·rw[gs.mp z];exact⟨o,ho,λv z=>by rw[hd] at z;cases z⟩
 keep:=λi h h' st k=>⟨let ⟨G,he⟩:=st.1;⟨G,k e @E _ he⟩,let ⟨o,ho,r⟩:=st.2;⟨o,k L @E o ho,r⟩⟩
 item:=by
  intro X ρ hw γ ι i pins s σ H E I hf st ζ;subst ρ hw γ;obtain⟨⟨G,he⟩,hl⟩:=st;have W:=VC (prog:=X.prog) (w:=X.w) (A:=X.A) (D X.A.in1 (I.ok.hd ι)) e Z (by simp[Z]) @E;refine W.item i s _ _ ζ ⟨⟨G,he⟩,hl⟩ λT υ h' tk π hT δ α hk=>⟨_,rfl,W.go β k pos i T _ _ _ α fun τ η ε=>?_⟩;obtain⟨Y,θ,⟨c,u,ν,rfl⟩,rfl⟩:=π;have ξ:=W.apart i T h' α;have ο:∀b u,b∉[e,L]->s.heap.get? b=a' u->τ.get? b=a' u:=λb u hb q=>ε b u hb (hk b u hb q);have fr:H T=none:=I.hok.fresh hT;refine⟨.ref T,upd H T (.tup [.int i,.str ⟨#[c]⟩]),I.laidCh (t':=tk) ο hT ⟨Ap,[.int i Y,.str ⟨#[c]⟩ u],.cons ⟨Y,rfl⟩ (.cons ⟨u,rfl⟩ .nil),?_⟩ hf,rfl,⟨T,c,fr,rfl,rfl,ν⟩,⟨η.1,η.2⟩,λb hb=>?_⟩
  ·obtain⟨o,ho,r⟩:=δ;exact⟨o,ε T o ξ ho,r⟩
  ·have φ:=(hf b hb);rw[aF (λz=>?_)]
   ·exact φ.1
   ·have lt:b < s.heap.objs.size:=by
     rcases Tn.mp hb with z | z
     ·subst z;exact hE he
     ·rw[gs.mp z];obtain⟨o,ho,_⟩:=hl;exact hE ho
    rw[z] at lt;exact hD (gm lt hT) (Vc _)
 done:=by
  intro X ρ hw γ ι i pins s σ H E I hf st ζ;subst ρ hw γ;obtain⟨⟨G,he⟩,hl⟩:=st;have W:=VC (prog:=X.prog) (w:=X.w) (A:=X.A) (D X.A.in1 (I.ok.hd ι)) e Z (by simp[Z]) @E;have ζ:i=x.cps.size:=ζ;subst ζ;exact W.done s _ _ ⟨⟨G,he⟩,hl⟩ λh' tk hk=>⟨rfl,I.turnedCh hk hf⟩
 self:=λ_ _ _ _ _ st h=>let ⟨_,he⟩:=st.1;Vu he h
noncomputable def RH (K:dt) (tl:TE):TI:=fun σ H R=>tl σ H λx H1=>(∃a,x= .ref a/\(∃xs,SqL K H1 a xs)/\R (Ite K a) H1)∨∃z,x= .str z/\R (Itz z) H1
section
variable {X:Cx} {K:dt}
theorem B9 {l:UF} {k:Nat} {p:Pos} (h:X.K=K) (ζ:Gl X "enumerate") (hm:X.mg "enumerate"=f') (hl:PE X l tl) (hs:tu [l] X.env=[(false,eval l X.env)]:=by rfl):
  PI X (.Tuple α k tpos) (.Call (.Name "enumerate" p) [l] [] pos) (RH K tl):=by
 subst h;intro pins s σ H R I h;refine YL (lN I ζ hm boot_enumerate (Tt (thn (aa hl ae hs pos pins s σ H (λvs H1=>match vs with | [x]=>(∃a,x= .ref a/\(∃xs,SqL X.K H1 a xs)/\R (Ite X.K a) H1)∨∃z,x= .str z/\R (Itz z) H1 | _=>False) I h) λus G ⟨vs,H1,I1,Y,β⟩=>?_) hs rfl))
 match vs,Y,β with
 | [x],Y,β=>
 obtain⟨u,rfl,δ⟩:=Y.one;rcases β with ⟨a,rfl,⟨xs,ε⟩,q⟩ | ⟨z,rfl,q⟩
 ·cases δ;obtain⟨its,η,pl,hz⟩:=I1.list ε;refine ab5 pl.isList λh' he L hsz hk=>Vu he ?_;refine⟨G.heap.objs.size + 1,[G.heap.objs.size + 1,G.heap.objs.size],_,_,H1,rfl,I1.kept (t':=G.toks) hk,yf a _ _ (UK (UU _)),⟨⟨_,he⟩,L⟩,λb hb=>?_,q⟩;have Z:G.heap.objs.size<=b:=(Tn.mp hb).elim (λz=>by rw[z];exact XQ _) (λz=>by rw[gs.mp z];exact sb _);exact I1.fpOk Z (I1.hok.fresh Z)
 ·obtain⟨t,rfl⟩:=δ;refine call_enumerate_str λh' he L hsz hk=>Vu he ?_
  have fin:∀n,(h'.IsStrIter G.heap.objs.size n z t 0)->(∀A:TQ,A.handled=f'->Draws X.prog X.w A G.heap.objs.size [G.heap.objs.size] z.cps.size (λi v=>∃c u,z.cps[i]? =a' c/\v= .str ⟨#[c]⟩ u) (λi h=>h.IsStrIter G.heap.objs.size n z t i))->
    PIE X pins σ (.Tuple α k tpos) R (.ref (G.heap.objs.size + 1)) {G with heap:=h'}:=λn hn D=>by
   refine⟨G.heap.objs.size + 1,[G.heap.objs.size + 1,G.heap.objs.size],_,_,H1,rfl,I1.kept (t':=G.toks) hk,ED _ _ (UK (UU _)) D,⟨⟨_,he⟩,hn⟩,λb hb=>?_,q⟩;have Z:G.heap.objs.size<=b:=(Tn.mp hb).elim (λz=>by rw[z];exact XQ _) (λz=>by rw[gs.mp z];exact sb _);exact I1.fpOk Z (I1.hok.fresh Z)
  unfold strIterType at L;split at L
  ·exact fin _ L λA γ=>Draws.strAscii γ _ z t
  ·exact fin _ L λA γ=>Draws.strWide γ _ z t
end
theorem uM {K:dt} {xs:eE V} {g:TG} (G:Nat->St->Hp->Prop) (h0:G 0 σ H) (hl:∀i σ H,i<=xs.length->G i σ H->SqL K H a xs)
  (hs:∀i x σ H p H',xs[i]? =a' x->G i σ H->H p=f'->Same H H'->H' p=a' (.tup [.int i,x])->g (.ref p) σ H' λL H2=>tb {oe with nx:=G (i + 1),ct:=G (i + 1),bk:=oe.nx} L H2) (hd:∀σ H,G xs.length σ H->oe.nx σ H):
  ∃W:Nat->Nat->St->Hp->Prop,(∃m,W 0 m σ H)/\∀i m σ H,W i m σ H->
    ((Ite K a).stop i H/\oe.nx σ H)∨((Ite K a).go i H/\∃N:St->Hp->Prop,(∀σ' H',N σ' H'->∃Z,Z < m/\W (i + 1) Z σ' H')/\∀x H',(Ite K a).yld i H x H'->g x σ H' λL H2=>tb {oe with nx:=N,ct:=N,bk:=oe.nx} L H2):=by
 refine⟨λi m σ H=>m=xs.length - i/\i<=xs.length/\G i σ H,⟨xs.length,@E,UY _,h0⟩,?_⟩;rintro i m σ H ⟨rfl,hi,p⟩;have q:=hl i σ H hi p;by_cases Y:i < xs.length
 ·refine .inr ⟨⟨xs,xs[i],q,by simp[Y]⟩,G (i + 1),fun σ' H' ε=>⟨xs.length - (i + 1),by omega,rfl,Y,ε⟩,λx H' y=>?_⟩;obtain⟨r,v,f,β,α,y⟩:=y;subst β α;exact hs i v σ H r _ (y xs q) p f (aW f) au
 ·have e:i=xs.length:=by omega
  subst e;exact .inl ⟨⟨xs,q,rfl⟩,hd σ H p⟩
section
variable {σ:St} {H:Hp} {te:TE} {R:It->Hp->Prop}
theorem Ho {K:dt} (h:te σ H λx H1=>(∃a,x= .ref a/\(∃xs,SqL K H1 a xs)/\R (Ite K a) H1)∨∃z,x= .str z/\R (Itz z) H1):RH K te σ H R:=h
end
noncomputable def MO:V->eE V->Hp->VK->Prop:=λx xs H Q=>∃z y,x= .str z/\xs=[.str y]/\y.length≠0/\z.length + 2<=hR/\∀D,H D=f'->Q (.ref D) (upd H D (.lst ((Vo z y).map V.str)))
theorem An:∀(G:B') (n:Nat),Vals (G.map V.str) (strsFrom n G)
 | [],_=> .nil
 | x::r,n=> .cons ⟨n,rfl⟩ (An r (n + 1))
section
variable {X:Cx}
theorem zr:MtR X "str.split" MO:=by
 intro pins s σ H x xs v us Q I L rs h;obtain⟨z,y,rfl,rfl,G,hz,q⟩:=h;obtain⟨t,rfl⟩:=L;obtain⟨u,rfl,Z⟩:=rZ rs;obtain⟨t',rfl⟩:=Z;have G:(y.length == 0)=false:=TL.mpr G;have α:=split_le z y;have fr:=I.hok.fresh (sb s.heap.objs.size)
 have Y:Vo z y=[z]->EP X pins σ Q (.ref s.heap.objs.size) {s with heap:=s.heap.push {cls:= .type "list",data:= .seq [Y8 z t].toArray}}:=λe=>
  ⟨.ref s.heap.objs.size,_,I.laid (t':=s.toks) (o:= .lst ((Vo z y).map V.str)) (λb o e=>fy _ e) (sb _) ⟨by rw[bx];omega,[.str z t],0,by rw[e];exact .cons ⟨t,rfl⟩ .nil,mu _ rfl⟩,rfl,q _ fr⟩
 cases h1:(decide (z.length < y.length)||decide (YC z < YC y)) with
 | true=>exact Wy F.slot_str_split (Yl _ _ _) F.entry_str_split (F.args_str_split_2 _ _) (meets_str_split_cannot_occur z y t t' h1) (Y (wb h1))
 | false=>
   cases hf:(WJ z y 0 z.length (z.length + 1)).isEmpty with
   | true=>exact Wy F.slot_str_split (Yl _ _ _) F.entry_str_split (F.args_str_split_2 _ _) (meets_str_split_not_found z y t t' h1 G hf) (Y ((qb (Ya h1)).trans (wb hf)))
   | false=>
     have e:Vo z y=Builtin.Str.partsBetween z (WJ z y 0 z.length (z.length + 1)) y.length:=(qb (Ya h1)).trans (qb (Ya hf));refine Wy F.slot_str_split (Yl _ _ _) F.entry_str_split (F.args_str_split_2 _ _) (meets_str_split_sep z y t t' h1 G hf @A (by rw[<-e];omega)) ?_;refine⟨.ref s.heap.objs.size,_,I.laid (λb o e=>fy _ e) (sb _) (o:= .lst ((Vo z y).map V.str)) ⟨by rw[bx];omega,_,0,?_,mu _ rfl⟩,rfl,q _ fr⟩;rw[e];exact An _ _
end
section
variable {σ:St} {H:Hp} {Q:VK} {D:Ends} {te ty tv td:TE} {x y v:V}
theorem B0 {w:T3} (hw:w.length≠0) (hz:z.length + 2<=hR) (h:∀p H2,H p=f'->Same H H2->H2 p=a' (.lst ((Vo z w).map V.str))->Q (.ref p) H2):MO (.str z) [.str w] H Q:=⟨z,w,rfl,rfl,hw,hz,jI h⟩
theorem mx {xs:eE V} (e:H l=a' (.lst xs)) (hz:xs.length < hR) (h:∀H2,Upd H H2 l (.lst (xs++[y]))->Q .non H2):HJ (.ref l) [y] H Q:=⟨l,xs,y,rfl,rfl,e,hz,h _ Upd.of⟩
def Kl (v:V) (x:V) (D:Ends) (σ:St) (y:V) (H:Hp):Prop:=∃a G,x= .ref a/\DPut H a y v G/\D.nx σ G
theorem Qx (h:tv σ H λv H1=>td σ H1 λx H2=>ty σ H2 (Kl v x D σ)):QG td ty tv D σ H:=h
theorem qc (e:H p=a' (.dK kvs)) (hl:kvs.length < hR) (h:∀H2,Upd H H2 p (.dK (putK kvs (Tz z) v))->D.nx σ H2):Kl v (.ref p) D σ (.str z) H:=⟨p,_,rfl,DPut.k (k:=Tz z) e hl,h _ Upd.of⟩
theorem Ov {z:Int} (e:H p=a' (.dK kvs)) (hl:kvs.length < hR) (h:∀H2,Upd H H2 p (.dK (putK kvs (UI z) v))->D.nx σ H2):Kl v (.ref p) D σ (.int z) H:=⟨p,_,rfl,DPut.k (k:=UI z) e hl,h _ Upd.of⟩
def Km (x:V) (Q:VK) (y:V) (H:Hp):Prop:=∃a v,x= .ref a/\DGet H a y (a' v)/\Q v H
theorem QC (h:td σ H λx H1=>ty σ H1 (Km x Q)):P1 td ty σ H Q:=h
theorem sk (e:H p=a' (.dK kvs)) (l:valV kvs (Tz z)=a' v) (h:Q v H):Km (.ref p) Q (.str z) H:=⟨p,v,rfl,by rw[<-l];exact DGet.k (k:=Tz z) e,h⟩
theorem Hs {z:Int} (e:H p=a' (.dK kvs)) (l:valV kvs (UI z)=a' v) (h:Q v H):Km (.ref p) Q (.int z) H:=⟨p,v,rfl,by rw[<-l];exact DGet.k (k:=UI z) e,h⟩
def Nv (C:eH) (m:T3) (sp:Sp) (E:XK) (tr:TA) (σ:St) (Q:VK) (x:V) (H:Hp):Prop:=∃a dx fs,x= .ref a/\H a=a' (.ins C dx fs)/\fs.lookup m=f'/\tr σ H λvs H2=>sp (x::(vs++[])) H2 Q E
theorem Ql {m:T3} (h:te σ H (Nv C m sp E qB σ Q)):NR C m sp [] E te qB σ H Q:=h
theorem aN {m:T3} (e:H p=a' (.ins C dx wE)) (l:wE.lookup m=f') (h:qB σ H λvs H2=>sp (.ref p::vs) H2 Q E):Nv C m sp E qB σ Q (.ref p) H:=⟨p,dx,wE,rfl,e,l,by simp only[UZ];exact h⟩
theorem Oq {K:dt} {xs:eE V} (e:SqL K H p xs) (h:∀q H2,H q=f'->Same H H2->H2 q=a' (.lst xs)->Q (.ref q) H2):B5 K [.ref p] H Q:=⟨p,xs,rfl,.inl e,jI h⟩
theorem Oo {K:dt} {xs:eE V} (e:SqT K H p xs) (h:∀q H2,H q=f'->Same H H2->H2 q=a' (.lst xs)->Q (.ref q) H2):B5 K [.ref p] H Q:=⟨p,xs,rfl,.inr e,jI h⟩
theorem Qe {K:dt} {xs:eE V} (e:SqL K H p xs) (h:∀q H2,H q=f'->Same H H2->H2 q=a' (.tup xs)->Q (.ref q) H2):HI K [.ref p] H Q:=⟨p,xs,rfl,.inl ⟨e,jI h⟩⟩
theorem Qd {K:dt} {xs:eE V} (e:SqT K H p xs) (h:Q (.ref p) H):HI K [.ref p] H Q:=⟨p,xs,rfl,.inr ⟨e,h⟩⟩
end
def Mv (ch fr:M') (h h':Ui):Prop:=(∀b o,b∉ch->b∉fr->h.get? b=a' o->h'.get? b=a' o)/\∀b o,b∉ch->b∈fr->h.get? b=a' o->∃ξ,h'.get? b=a' {o with slots:=ξ}
def Kk (h:Ui) (e:eH) (C:sC) (dx:P') (T:T8 (eH×sC)):Prop:=
 ∃L vs,h.get? e=a' L/\L.cls=C/\L.dict=dx/\L.data= .fields vs/\1 < vs.size/\
   match T with
   | none=>vs[1]? =a' .none
   | some (t,G)=>vs[1]? =a' (.ref t)/\t≠e/\∃ψ ts,h.get? t=a' ψ/\ψ.data= .fields ts/\ts[3]? =a' G
section
variable {M:Model} {A:TQ} {E:Cr} {s:px}
theorem A6 {h:Ui} {o:ZC} {vs:G'} {v:sC} (ho:h.get? a=a' o) (hd:o.data= .fields vs):
  ∃o',(h.update a (W5 (·.setIfInBounds i v))).get? a=a' o'/\o'.cls=o.cls/\o'.dict=o.dict/\o'.data= .fields (vs.setIfInBounds i v):=by
 have G:=XZ hd (·.setIfInBounds i v);refine⟨_,UX (W5 (·.setIfInBounds i v)) ho (Zl G),aa2 _ _,?_,G⟩;obtain⟨c,d,L,ξ⟩:=o;have hd:L= .fields vs:=hd;subst hd;rfl
theorem L9 {L e:eH} {vs:G'} {b:UD} {Q:L'}
  (ε:A.frames=a' (env::outer)) (hl:s.heap.FunFrames fL (env::outer)) (hf:env.frame=a' L) (he:s.heap.get? e=a' ψ) (hd:ψ.data= .fields vs) (hsz:1 < vs.size)
  (h:∀h',Mv [e] (frs (env::outer)) s.heap h'->Kk h' e ψ.cls ψ.dict (a' (s.heap.objs.size,rawInt L))->Q () {s with heap:=h'}):
  n' M A (do let a <-frameOf env;let pl <-entryPlaceOf L b;let t <-Xk u a .none (rawInt L) .none pl;setField (.ref e) 1 t) Q E s:=by
 have ne:e∉frs (env::outer):=λhm=>by
  obtain⟨_,o,ho,G⟩:=hl.mem hm;rw[he] at ho;cases ho;exact G vs hd
 refine eS (wpAny_frameOf_fun ε hl hf λg1 δ=>?_);refine eS (wpAny_entryPlaceOf λpl α=>?_);unfold Xk newFields;refine eS (Xi ?_ (α.sizeOk5 _ _ _ _ _));have ι:g1.get? e=a' ψ:=(δ.2.1 e ne).trans he;have sz:g1.objs.size=s.heap.objs.size:=δ.1;generalize β:({cls:= .type "traceback",dict:=f',data:= .fields ([u,.ref L,.none,rawInt L,.none]++(if pl.isEmpty then lj 6 Uy else pl)).toArray}:ZC)=ob;have θ:(g1.push ob).get? e=a' ψ:=fy ob ι;refine X7 θ hd hsz ?_;have lt:e < g1.objs.size:=hE ι;obtain⟨o',ρ,χ,π,ο⟩:=A6 (i:=1) (v:= .ref g1.objs.size) θ hd;have oth:∀c,c≠e->((g1.push ob).update e (W5 (·.setIfInBounds 1 (T7 g1.objs.size)))).get? c=(g1.push ob).get? c:=λc ζ=>Ue _ _ (Ts ζ);have Z:∀c o,c≠e->g1.get? c=a' o->((g1.push ob).update e (W5 (·.setIfInBounds 1 (T7 g1.objs.size)))).get? c=a' o:=λc o ζ q=>(oth c ζ).trans (fy ob q);refine h _ ⟨λc o n m q=>Z c o (λz=>n (by rw[z];exact gs.mpr rfl)) ((δ.2.1 c m).trans q),λc o n m q=>?_⟩ ⟨o',_,ρ,χ,π,ο,by simpa using hsz,?_⟩
 ·obtain⟨ξ,γ⟩:=δ.2.2 c o q;exact⟨ξ,Z c _ (λz=>n (by rw[z];exact gs.mpr rfl)) γ⟩
 ·have η:g1.objs.size≠e:=UK lt;refine⟨by rw[<-sz];simp[hsz],by rw[<-sz];exact η,ob,_,?_,by rw[<-β],?_⟩
  ·rw[<-sz,oth _ η];exact mu g1 (by rw[<-β];rfl)
  ·first | (simp;done) | (rcases α with rfl | ⟨_,_,_,_,_,_,_,rfl⟩<;>simp)
theorem Jw {e:eH} {C:sC} {fr:P'} {Q:L'} (x:Kk s.heap e C an (a' (t,u)))
  (h:∀h',(∀b o,b≠t->s.heap.get? b=a' o->h'.get? b=a' o)->Kk h' e C an (a' (t,fr.elim .none λf=>rawInt f))->Q () {s with heap:=h'}):n' M A (setFlight (.ref e) fr) Q E s:=by
 obtain⟨γ,vs,he,Y,ζ,hd,hsz,h1,L,ψ,ts,hT,ω,Z⟩:=x;unfold setFlight;refine eS (UQ he hd h1 ?_);rw[wb (show(T7 t != Uy)=true from by simp)];refine X7 hT ω (Vb.mp Z).1 ?_;obtain⟨o',β,χ,δ,α⟩:=A6 (i:=3) (v:=fr.elim .none λf=>rawInt f) hT ω;have oth:∀c,c≠t->(s.heap.update t (W5 (·.setIfInBounds 3 (fr.elim Uy λf=>rawInt f)))).get? c=s.heap.get? c:=λc Y=>Ue _ _ (Ts Y);refine h _ (λb o hb q=>(oth b hb).trans q) ⟨γ,vs,(oth e (Ts L)).trans he,Y,ζ,hd,hsz,h1,L,o',_,β,α,?_⟩;have:=(Vb.mp Z).1;simp[this]
end
section
variable {X:Cx} {pins:D'} {σ:St} {H:Hp} {s:px}
theorem Inv.mv (I:Inv X pins σ H s) (m:Mv ch (frs X.stack) s.heap h') (fp:∀b∈ch,FpOk X pins H b):Inv X pins σ H {s with heap:=h'}:=by
 have β:∀b u,H b=a' u->b∉ch:=λb u e z=>by rw[(fp b z).1] at e;cases e
 have Y:∀b u,H b=a' u->b∉frs X.stack:=λb u e z=>by rw[I.stkFree b z] at e;cases e
 have any:∀b o,b∉ch->s.heap.get? b=a' o->∃ξ,h'.get? b=a' {o with slots:=ξ}:=λb o n e=>by
  by_cases z:b∈frs X.stack
  ·exact m.2 b o n z e
  ·exact⟨o.slots,m.1 b o n z e⟩
 refine I.step (g':=s.gens) (d':=s.drawn) (t':=s.toks) (ch:=ch) (λb hb=>?_) (λb ob α hb L e _=>m.1 b ob L (λz=>(Tn.mp (I.stkSub b z)).elim α hb) e) (λb ob _ _ L e _=>any b ob L e) (λb ob _ e n=>n) (λb ob L e=>let ⟨ξ,q⟩:=any b ob L e;⟨_,q⟩)
  (λb xs e=>e) (λb ob u e=>e) (λb ps e=>⟨#[],by rw[e];simp⟩) (fun δ hm=>?_) (λb u e=>?_) I.bare
 ·obtain⟨ζ,G,ε,γ,Z,ψ⟩:=fp b hb;exact⟨γ,G,Z,ψ⟩
 ·obtain⟨ob,es,ep,ho,r⟩:=hm;obtain⟨ξ,q⟩:=any _ ob (λz=>(fp _ z).2.1 rfl) ho;exact⟨_,es,ep,q,r⟩
 ·refine(I.hok b u e).stay (λc v L q=>m.1 c v ?_ ?_ q) (λc q=>q) λc xs q=>q
  ·rcases L with z | z
   ·rw[z];exact β b u e
   ·exact β c _ z
  ·rcases L with z | z
   ·rw[z];exact Y b u e
   ·exact Y c _ z
theorem gX.there {P:Tv} {w:U1} {h:Ui} (x:gX P w H h a o):∃o',h.get? a=a' o':=by
 cases o with
 | lst xs=>obtain⟨_,_,_,_,e⟩:=x;exact⟨_,e⟩
 | tup xs=>obtain⟨_,_,_,_,e,_⟩:=x;exact⟨_,e⟩
 | dK kvs=>obtain⟨_,_,_,_,o,_,_,e,_⟩:=x;exact⟨_,e⟩
 | dT kvs=>obtain⟨_,_,_,_,o,_,_,e,_⟩:=x;exact⟨_,e⟩
 | set S n=>obtain⟨o,_,_,_,e,_⟩:=x;exact⟨_,e⟩
 | ins C dx fs=>obtain⟨_,_,_,e,_⟩:=x;exact⟨_,e⟩
 | own y=>obtain⟨_,e⟩:=x;exact⟨_,e⟩
 | xd fs=>obtain⟨_,⟨_,_,_,e,_⟩,_⟩:=x;exact⟨_,e⟩
 | rng lo hi=>obtain⟨_,_,_,e⟩:=x;exact⟨_,e⟩
 | frz ob u=>obtain⟨e,_⟩:=x;exact⟨_,e⟩
 | tbl ps=>exact⟨_,(show h.get? a=a' _ from x)⟩
 | met f y=>exact⟨_,(show h.get? a=a' _ from x)⟩
 | ext φ=>obtain⟨_,⟨_,e⟩,_⟩:=x;exact⟨_,e⟩
theorem HOk.none_ {P:Tv} {w:U1} {h:Ui} (x:HOk P w H h) (e:h.get? a=f'):H a=none:=by
 cases q:H a with
 | none=>rfl
 | some u=>obtain⟨o,z⟩:=(x a u q).there;rw[e] at z;cases z
def FpN (X:Cx) (pins:D') (H:Hp) (b:eH):Prop:=
 H b=f'/\b≠X.env.locals/\b∉X.fs/\(b∈X.ex∨X.s₀.heap.get? b=f')/\(∀x c,X.env.cells.lookup x=a' c->c≠b)/\∀p∈X.pn++pins,p.1≠b
theorem FpOk.n {b:eH} (f:FpOk X pins H b):FpN X pins H b:=⟨f.1,f.2.1,f.2.2.1,f.2.2.2.1.imp id VP,f.2.2.2.2⟩
theorem Inv.fpN {b:eH} (I:Inv X pins σ H s) (hb:s.heap.get? b=f') (hn:H' b=f'):FpN X pins H' b:=by
 refine⟨hn,λz=>?_,λz=>?_,?_,λx c e z=>?_,λp L z=>?_⟩
 ·obtain⟨m,⟨o,es,ep,ho,r⟩,_⟩:=I.loc;rw[<-z,hb] at ho;cases ho
 ·obtain⟨_,o,ho,_⟩:=I.ok.funs.mem z;obtain⟨o',G⟩:=I.base.there b o ho λy=>I.ok.exfs b y z;rw[hb] at G;cases G
 ·by_cases z:b∈X.ex
  ·exact .inl z
  ·cases q:X.s₀.heap.get? b with
   | none=>exact .inr rfl
   | some o=>obtain⟨o',G⟩:=I.base.there b o q z;rw[hb] at G;cases G
 ·obtain⟨v,o,q,_⟩:=I.cell x c e;rw[z,hb] at q;cases q
 ·have:=(I.pin p L).1;rw[z,hb] at this;cases this
theorem Inv.mvN (I:Inv X pins σ H s) (m:Mv ch (frs X.stack) s.heap h') (fp:∀b∈ch,FpN X pins H b):Inv X pins σ H {s with heap:=h'}:=by
 have out:∀b o,X.s₀.heap.get? b=a' o->b∉X.ex->b∉ch++X.ex:=λb o e n z=>by
  rcases gz.mp z with z | z
  ·rcases(fp b z).2.2.2.1 with y | y
   ·exact n y
   ·rw[e] at y;cases y
  ·exact n z
 have sub:∀b,b∉ch++X.ex->b∉X.ex:=λb n z=>n (hW _ z)
 have ok:Cx.Ok {X with ex:=ch++X.ex}:=⟨I.ok.mod,I.ok.kind,I.ok.glob,I.ok.blt,I.ok.above,I.ok.inj,I.ok.has,I.ok.cab,I.ok.hd,I.ok.frames,I.ok.stk,
  λb hb=>(gz.mp hb).elim (λz=>⟨(fp b z).2.1,(fp b z).2.2.2.2.1⟩) (I.ok.exf b),I.ok.bs,I.ok.bsz,λb o e=>out b o (I.ok.bs b o e).1 (I.ok.noex b o e),
  λb hb=>(gz.mp hb).elim (λz=>(fp b z).2.2.1) (I.ok.exfs b),I.ok.funs,I.ok.frf⟩
 have U:=I.base
 have J:Inv {X with ex:=ch++X.ex} pins σ H s:=⟨ok,I.os,I.bare,⟨λb o e n f z=>U.keep b o e n f (sub b z),λb o e n f z=>U.slot b o e n f (sub b z),λb o e n z=>U.free b o e n (sub b z),λb o e z=>U.there b o e (sub b z),U.tups,U.frzs,U.tbls⟩,
  I.loc,I.cell,I.free,I.freeC,I.pin,I.hok,I.len⟩
 have J':=J.mv (h':=h') (ch:=ch) m λb hb=>⟨(fp b hb).1,(fp b hb).2.1,(fp b hb).2.2.1,.inl (iv _ hb),(fp b hb).2.2.2.2⟩;have V:=J'.base
 exact⟨I.ok,J'.os,J'.bare,⟨λb o e n f z=>V.keep b o e n f (out b o e z),λb o e n f z=>V.slot b o e n f (out b o e z),λb o e n z=>V.free b o e n (out b o e z),λb o e z=>V.there b o e (out b o e z),V.tups,V.frzs,V.tbls⟩,
  J'.loc,J'.cell,J'.free,J'.freeC,J'.pin,J'.hok,J'.len⟩
structure Fly (X:Cx) (pins:D') (H:Hp) (e:eH) (C:sC) (dx:P') (T:T8 (eH×sC)) (h:Ui):Prop where
 at_:Kk h e C dx T
 fe:FpN X pins H e
 ft:∀t fl,T=a' (t,fl)->FpN X pins H t
def Own (X:Cx):Prop:=X.stack=X.env::X.outer/\X.env.frame=a' X.env.locals
theorem Iw {E:Cr} {e:eH} {C:sC} {T:T8 (eH×sC)} {Q:L'} (I:Inv X pins σ H s) (ow:Own X) (f:Fly X pins H e C an T s.heap)
  (h:∀h' t,Inv X pins σ H {s with heap:=h'}->Fly X pins H e C an (a' (t,rawInt X.env.locals)) h'->Q () {s with heap:=h'}):n' hM X.A (noteFrame (.ref e) X.env) Q E s:=by
 obtain⟨ho,hf⟩:=ow;have ι:X.A.frames=a' (X.env::X.outer):=by rw[I.ok.frames,ho]
 have a0:s.heap.FunFrames X.base (X.env::X.outer):=by rw[<-ho];exact I.stack
 obtain⟨⟨ε,vs,he,δ,ζ,hd,hsz,hT⟩,fe,ft⟩:=f
 have fin:∀(L:px) (η:ZC) (Y:G') (π:sC) (b1:UD),Inv X pins σ H L->L.heap.objs.size=s.heap.objs.size->L={s with heap:=L.heap}->L.heap.get? e=a' η->η.cls=C->η.dict=an->η.data= .fields Y->1 < Y.size->
   n' hM X.A (do let a <-frameOf X.env;let pl <-entryPlaceOf X.env.locals b1;let t <-Xk π a .none (rawInt X.env.locals) .none pl;setField (.ref e) 1 t) Q E L:=by
  intro L η Y π b1 I1 hz θ υ χ τ ρ ο;have γ:L.heap.FunFrames X.base (X.env::X.outer):=by rw[<-ho];exact I1.stack
  refine L9 ι γ hf υ ρ ο λh' m x=>?_;have ξ:Inv X pins σ H {L with heap:=h'}:=I1.mvN (ch:=[e]) (by rw[ho];exact m) λb hb=>by rw[gs.mp hb];exact fe
  have e2:({L with heap:=h'}:px)={s with heap:=h'}:=by rw[θ]
  rw[e2] at ξ ⊢;rw[χ,τ] at x;exact h h' _ ξ ⟨x,fe,λt G z=>by cases z;exact(I1.fpOk (sb _) (I1.hok.fresh (sb _))).n⟩
 unfold noteFrame;simp only[hf];cases T with
 | none=>
   have h1:vs[1]? =a' .none:=hT;refine eS (UQ he hd h1 ?_);rw[qb @C];exact fin s ε vs _ _ I rfl rfl he δ ζ hd hsz
 | some p=>
   obtain⟨t,G⟩:=p;obtain⟨h1,α,φ,ts,Z,ω,ν⟩:=hT;refine eS (UQ he hd h1 ?_);rw[wb (show(T7 t != Uy)=true from by simp)];refine eS (UQ Z ω ν ?_);by_cases hz:(G == rawInt X.env.locals)=true
   ·rw[wb hz];have ψ:=eq_of_beq hz;subst ψ;exact sA (h s.heap t I ⟨⟨ε,vs,he,δ,ζ,hd,hsz,h1,α,φ,ts,Z,ω,ν⟩,fe,ft⟩)
   ·rw[qb hz];refine eS (X7 Z ω (Vb.mp ν).1 ?_);have oth:∀c,c≠t->(s.heap.update t (W5 (·.setIfInBounds 3 Uy))).get? c=s.heap.get? c:=λc δ=>Ue _ _ (Ts δ)
    have β:Mv [t] (frs X.stack) s.heap (s.heap.update t (W5 (·.setIfInBounds 3 Uy))):=
     ⟨λb o n _ q=>(oth b (λz=>n (by rw[z];exact gs.mpr rfl))).trans q,λb o n _ q=>⟨o.slots,(oth b (λz=>n (by rw[z];exact gs.mpr rfl))).trans q⟩⟩
    have I1:=I.mvN β λb hb=>by rw[gs.mp hb];exact ft t G rfl
    exact fin _ ε vs _ _ I1 (Heap.size_after_update ..) rfl ((oth e (Ts α)).trans he) δ ζ hd hsz
theorem M9 {A:TQ} {E:Cr} {e:eH} {C:sC} {fr:P'} {Q:L'} (I:Inv X pins σ H s) (f:Fly X pins H e C an (a' (t,u)) s.heap)
  (h:∀h',Inv X pins σ H {s with heap:=h'}->Fly X pins H e C an (a' (t,fr.elim .none λf=>rawInt f)) h'->Q () {s with heap:=h'}):n' hM A (setFlight (.ref e) fr) Q E s:=by
 refine Jw f.at_ λh' k x=>h h' (I.mvN (ch:=[t]) ⟨λb o n _ q=>k b o (λz=>n (by rw[z];exact gs.mpr rfl)) q,λb o n _ q=>⟨o.slots,k b o (λz=>n (by rw[z];exact gs.mpr rfl)) q⟩⟩ λb hb=>by rw[gs.mp hb];exact f.ft t u rfl) ⟨x,f.fe,λt' ψ z=>by cases z;exact f.ft t u rfl⟩
end
noncomputable abbrev XW:=St->XK
variable {W:XW}
def XE (X:Cx) (W:XW) (e:sC) (s:px):Prop:=∃pins x C dx T σ H,e= .ref x/\Inv X pins σ H s/\Fly X pins H x C dx T s.heap/\W σ C dx H
def Thr (X:Cx) (W:XW):Prop:=∀e s,XE X W e s->X.xe e s
noncomputable abbrev Cx.thr (X:Cx) (W:XW):Cx:=X.wish (XE X W)
noncomputable abbrev W0:XW:=λ_ _ _ _=>False
section
variable {X:Cx} {W:XW} {pins:D'} {σ:St} {H:Hp} {s:px}
theorem Fly.wish {E:Cr} {e:eH} {C:sC} {T:T8 (eH×sC)} {h:Ui} (f:Fly (X.wish E) pins H e C an T h):Fly X pins H e C an T h:=⟨f.at_,f.fe,f.ft⟩
theorem jg:Thr (X.thr W) W:=λe s ⟨pins,x,C,dx,T,σ,H,he,I,f,w⟩=>⟨pins,x,C,dx,T,σ,H,he,I.unwish,f.wish,w⟩
theorem thr0:Thr X W0:=λe s ⟨pins,x,C,dx,T,σ,H,he,I,f,w⟩=>w.elim
theorem Ff (ow:Own X):PassesOwn (xY X.prog X.w) X.A X.env (XE X W):=by
 intro e s' ⟨pins,x,C,dx,T,σ,H,he,I,f,w⟩;subst he;unfold notedBy;refine Iw I ow f λh' t θ L=>?_;unfold cameBackBy;obtain⟨⟨ε,vs,α,χ,δ,Z,γ,Y,ο⟩,fe,ft⟩:=id L;refine eS (UQ α Z Y ?_);rw[qb @E];refine M9 θ L λh2 β G=>?_;rw[ow.2] at G;exact⟨pins,x,C,dx,_,σ,H,rfl,β,G,w⟩
theorem vn (ow:Own X):PassesOwn (xY X.prog X.w) X.A X.env (X.thr W).xe:=Ff ow
theorem PSs.thr {st:eE Wr} {t:TS} (h:PSs (X.thr W) st t) (k:Thr X W):PSs X st t:=λpins s σ H D I hw=>
 W1 (h pins s σ H D (I.wish _) hw) (λ_ _ q=>q.unwish) k
end
noncomputable def CX1 (P:Tv) (w:U1):CXT:=λouter H s E e s'=>∃x C dx t H',e= .ref x/\s'.os=s.os/\AllBare s'.gens/\Un (frs outer) [] H H' s.heap s'.heap/\HOk P w H' s'.heap/\
 Kk s'.heap x C dx (a' (t,.none))/\s.heap.get? x=f'/\s.heap.get? t=f'/\H' x=f'/\H' t=f'/\E C dx H'
section
variable {P:Tv} {w:U1} {K:dt} {mg:F'} {base:Ui}
theorem Ee {L:T3} {f:eH} {A:TQ}:
  Thr (cxOf (CX1 P w) P w K mg base N L scope f u A outer s H E) λ_=>E:=by
 intro e s' ⟨pins,x,C,dx,T,σ,H',he,I,Z,ω⟩;subst he;have own:Own (cxOf (CX1 P w) P w K mg base N L scope f u A outer s H E):=⟨rfl,rfl⟩;show n' _ _ (leaving _ _) _ _ _;unfold leaving;refine eS (Iw I own Z λh1 t α G=>?_);refine M9 (fr:=f') α G λh2 I2 Y=>?_;have fx:=Y.fe;have ft:=Y.ft t _ rfl;have no:∀b:eH,(b∈([]:M')∨s.heap.get? b=f')->s.heap.get? b=none:=λb z=>z.elim (λq=>hD q @E) id;exact⟨x,C,dx,t,H',rfl,I2.os,I2.bare,I2.base,I2.hok,Y.at_,no x fx.2.2.2.1,no t ft.2.2.2.1,fx.1,ft.1,ω⟩
theorem Fun.okX {x L:T3} {st:Wr} {f:eH} {ps:B'} {k:Nat} (F:Fun K x L st f fd) (S:av N ps (ag st)) (len:∀vs H Q E,sp vs H Q E->vs.length=ps.length)
  (π:∀(Y:sC) (A:TQ) (outer:eE Env) (s:px) (H:Hp) (vs:eE V) (Q:VK) (E:XK),Room k (A.deeper (envOfC L (ag st) s.heap.objs.size f Y))->sp vs H Q E->
   ∃t,PSs ((cxOf (CX1 P w) P w K mg base N L (ag st) f Y A outer s H E).thr λ_=>E) (fz st) t/\t {nx:=λ_ H'=>Q .non H',rt:=Q} (start N vs) H):FnOk P w K mg base (CX1 P w) (k + 1) f fd ps sp:=by
 obtain⟨γ,od,kV,υ,G,an,Y,ct,α,rfl,lk,Z⟩:=F.ex;refine O7 lk Z S len λA outer s H vs Q E β η=>?_;obtain⟨t,h,q⟩:=π Y A outer s H vs Q E β η;exact⟨t,h.thr Ee,q⟩
end
section
variable {X:Cx} {W:XW} {pins:D'} {σ:St} {H:Hp} {s s':px}
theorem Inv.afterX {e:sC} (I:Inv X pins σ H s) (hx:Thr X W) (h:CX1 X.prog X.w X.stack H s (W σ) e s'):X.xe e s':=by
 obtain⟨x,C,dx,t,H',rfl,os,bare,un,hok,ea,L,Y,nx,Z,w⟩:=h;refine hx _ _ ⟨pins,x,C,dx,_,σ,H',rfl,I.call' (ch:=[]) os un hok bare (λb z=>hD z @E),⟨ea,I.fpN L nx,λt' G z=>?_⟩,w⟩;cases z;exact I.fpN Y Z
variable {k:Nat} {f C:eH} {fd:hN} {ps:B'} {sp:Sp} {dvs:eE V} {ds:E'} {x m:T3} {p pos apos:Pos} {e o:UF} {es:eE UF} {ta:TE} {t:TA}
theorem Oy (F:FnOk X.prog X.w X.K X.mg X.base (CX1 X.prog X.w) k f fd ps sp) (Z:Room k X.A) (hb:qH X.K fd ps ds) (hd:Vals dvs ds) (hx:Thr X W)
  (I:Inv X pins σ H s) (r:Vals vs us) (h:sp (vs++dvs) H Q (W σ)):n' (xY X.prog X.w) X.A (call (.ref f) us) (EP X pins σ Q) X.xe s:=by
 have Y:Vals (vs++dvs) (us++ds):=r.append hd;have hl:(us++ds).length=ps.length:=by rw[<-Y.length];exact F.len _ _ _ _ h
 refine ac3 (Xx (F.run X.A X.stack s H ⟨us,[]⟩ (us++ds) (vs++dvs) Q (W σ) Z I.env0 (hb s us I.kIn hl) Y h) λr s' L=>?_);cases r with
 | error e=>exact I.afterX hx L
 | ok G=>
   cases G with
   | ret u=>exact I.after L
   | next=>exact Uk L
   | brk=>exact Uk L
   | cont=>exact Uk L
noncomputable def MC (C:eH) (m:T3) (sp:Sp) (dvs:eE V) (W:XW) (ta:TE) (t:TA):TE:=fun σ H Q=>ta σ H λx H1=>∃a dx fs,x= .ref a/\H1 a=a' (.ins C dx fs)/\fs.lookup m=f'/\
 t σ H1 λvs H2=>sp (x::(vs++dvs)) H2 Q (W σ)
theorem eI {pl:Sem UD} (he:PE X o ta) (c:Cls X.K C) (hm:Meth X.K C m f) (F:FnOk X.prog X.w X.K X.mg X.base (CX1 X.prog X.w) k f fd ps sp) (α:Room k X.A) (hb:qH X.K fd ps ds) (hd:Vals dvs ds) (hx:Thr X W) (ha:PA X (e::es) t)
  (η:tu (e::es) X.env=(false,eval e X.env)::tu es X.env:=by rfl) (ψ:(backTo pos (tu es X.env)).any (·.1)=false:=by rfl)
  (ht:eval (.Call (.Attribute o m apos) (e::es) [] pos) X.env=(do
   let G <-eval o X.env
   standAt apos.atName
   let (f,first) <-holding [G] (getMethod G m pl)
   callWith pos f first (backTo pos (tu (e::es) X.env)) (backToKw pos (keywordEach [] X.env))):=by rfl):
  PE X (.Call (.Attribute o m apos) (e::es) [] pos) (MC C m sp dvs W ta t):=by
 intro pins s σ H Q I h;refine Wb (pl:=pl) (thn (he pins s σ H _ I h) λu Y ⟨x,H1,L,Z,a,dx,fs,ex,ea,l,q⟩=>?_) ht;subst ex;obtain rfl:u=T7 a:=Z;refine tf L ea c hm l ?_;refine W3 (first:=[.ref a]) (h₀:=X.base) I.ok.mod.kin hm.kp (thn (ha pos pins Y σ H1 _ L q) λus β ⟨vs,H2,I2,r,χ⟩=>⟨I2.kIn,?_⟩) η ψ;exact Oy (us:= .ref a::us) (vs:= .ref a::vs) F α hb hd hx I2 (.cons rfl r) χ
end
structure XCls (h:Ui) (C:eH) (bmB:E') (newId:V7):Prop where
 obj:∃bm N nm q bs hdct sn sub ab col dd k0 k1 k2 k3 k5 mN,h.get? C=a' (excClassObj nm q C N bs bm hdct sn sub ab col dd k0 k1 k2 k3 k5 newId)/\h.Ns N mN/\mN "__init__"=f'/\OwnTail h bmB bm
theorem NK {K:dt} {h:Ui} (X:K.In h) (q:Xu K C bv T=true):XCls h C bv T:=by
 refine⟨?_⟩;unfold Xu at q;split at q
 next dd υ ξ ho=>
  split at q
  next γ bm k0 k1 k2 k3 n k5 hm hs=>
   simp only[TZ,X6,ZX] at q;obtain⟨⟨⟨⟨⟨β,α⟩,θ⟩,ht⟩,hok⟩,Z⟩:=q;subst β α;cases υ with
   | mk nm bs G ns L hd sn sub ab col del=>
   have hm:G=_:=hm;have θ:del=false:=θ;subst hm θ;have Y:ξ=#[k0,k1,k2,k3,a' (.builtin n),k5]:=by rw[<-hs]
   subst Y;exact⟨bm,ns,nm,L,bs,hd,sn,sub,ab,col,dd,k0,k1,k2,k3,k5,_,X _ _ ho,.of_isNs (PySem.W.isNs_of_in X hok),PySem.W.nsMap_none_of_in X hok Z,PySem.W.tail_of_in X ht⟩
  next=>cases q
 next=>cases q
section
variable {X:Cx} {W:XW} {C:eH} {x:T3} {np cpos pos:Pos} {e:UF} {es:eE UF} {t:TA} {B newId initId:V7} {bmB:E'}
noncomputable def MB (C:eH) (W:XW) (t:TA):TS:=λ_ σ H=>t σ H λvs H1=>vs.length<=hR/\W σ (.ref C) f' H1
theorem OR {vs:E'} (I:Inv X pins σ H s) (m:Heap.MadeExcOf s.heap h' a (.ref C) vs):
  Inv X pins σ H {s with heap:=h'}/\Fly X pins H a (.ref C) f' f' h':=by
 obtain⟨tt,L,χ,Y⟩:=m.there;exact⟨I.mvN (ch:=[]) ⟨λb o _ _ e=>m.keeps b o e,λb o _ _ e=>⟨o.slots,m.keeps b o e⟩⟩ λb z=>hD z @E,⟨⟨_,_,L,rfl,rfl,rfl,@E,@E⟩,I.fpN m.new (I.hok.none_ m.new),λt G z=>by cases z⟩⟩
theorem mC (FB:ExcBaseFacts B newId initId bmB) (q:Xu X.K C bmB newId=true) (hx:Thr X W) (hc:X.calm=true) (α:Gl X x) (hm:X.mg x=a' (.ref C)) (ha:PA X (e::es) t)
  (Z:(x == ("__debug__":T3))=false:=by decide) (he:tu (e::es) X.env=(false,eval e X.env)::tu es X.env:=by rfl) (ψ:(backTo cpos (tu es X.env)).any (·.1)=false:=by rfl):
  PS X (.Raise (a' (.Call (.Name x np) (e::es) [] cpos)) f' pos) (MB C W t):=by
 intro pins s σ H D I h;obtain⟨tl,N,nm,L,bs,hdct,sn,sub,ab,col,dd,k0,k1,k2,k3,k5,mN,β,γ,Y,T⟩:=(NK I.ok.mod.kin q).obj
 refine wpAny_Raise_call_subT (C:=C) (nm:=nm) (q:=L) (N:=N) (bs:=bs) (bm:=tl) (hdct:=hdct) (sn:=sn) (sub:=sub) (ab:=ab) (col:=col) (dd:=dd) (k0:=k0) (k1:=k1) (k2:=k2) (k3:=k3) (k5:=k5)
  FB (mN:=mN) (T.hasType FB.hasBase) (I.ok.hd hc) (by rw[he];show(false||(backTo cpos (tu es X.env)).any (·.1))=false;rw[ψ];rfl) Y (vZ I α hm ⟨rfl,?_⟩ Z)
 have G:=ha cpos pins s σ H _ I h;rw[he] at G ⊢;refine Zg (W1 G (λus ζ ⟨vs,H1,I1,r,z,w⟩=>⟨rfl,?_,I1.bk _ _ β,γ.keeps I1.bk,T.keeps I1.bk,λh' a m=>?_⟩) λ_ _ y=>y)
 ·show us.length<=_;rw[<-r.length];exact z
 ·obtain⟨ε,δ⟩:=OR I1 m;exact hx _ _ ⟨pins,a,.ref C,f',f',σ,H1,rfl,ε,δ,w⟩
end
structure Pu (K:dt) (G:eH):Prop where
 ty:ZR K (.ref G)=a' (.type "type")
 cls:ZH K G=true
 base:Vm K G (.type "BaseException")=a' true
section
variable {X:Cx} {pins:D'} {σ:St} {H:Hp} {s:px}
theorem Inv.track {x:eH} (I:Inv X pins σ H s) (f:FpN X pins H x) (Y:gX X.prog X.w (upd H x o) s.heap x o):Inv X pins σ (upd H x o) s:=by
 obtain⟨δ,G,ε,γ,β,ψ⟩:=f;have ne:∀b u,H b=a' u->b≠x:=λb u e z=>by rw[z,δ] at e;cases e
 have L:∀b u,H b=a' u->upd H x o b=a' u:=λb u e=>by rw[aF (ne b u e)];exact e
 have U:=I.base;refine⟨I.ok,I.os,I.bare,⟨U.keep,U.slot,λb ob e n Z=>?_,U.there,λb xs e=>L b _ (U.tups b xs e),λb ob u e=>L b _ (U.frzs b ob u e),λb ps e=>?_⟩,I.loc,I.cell,?_,λy c e=>?_,λp α=>?_,λb ob e=>?_,I.len⟩
 ·rw[aF (λz=>?_)]
  ·exact U.free b ob e n Z
  ·subst z;rcases γ with y | y
   ·exact Z y
   ·rw[e] at y;cases y
 ·obtain⟨m,q⟩:=U.tbls b ps e;exact⟨m,L b _ q⟩
 ·rw[aF (Ts G)];exact I.free
 ·rw[aF (β y c e)];exact I.freeC y c e
 ·obtain⟨e,n,r⟩:=I.pin p α;exact⟨e,by rw[aF (ψ p α)];exact n,r⟩
 ·by_cases z:b=x
  ·subst z;rw[au] at e;cases e;exact Y
  ·rw[aF z] at e;exact(I.hok b ob e).stay (λ_ _ _ q=>q) (λc q=>L c _ q) λc xs q=>L c _ q
end
noncomputable def ExcO (x:eH) (C:sC) (dx:P'):HO:= .ext λh=>∃G vs,h.get? x=a' G/\G.cls=C/\G.dict=dx/\G.data= .fields vs
noncomputable abbrev Cx.pin (X:Cx) (pins:D'):Cx:={X with pn:=X.pn++pins}
noncomputable abbrev Cx.mark (X:Cx) (pins:D') (e:sC):Cx:={X with A:=X.A.mark (a' e),calm:=false,pn:=X.pn++pins,xe:=λ_ _=>False}
noncomputable def Ends.less (D:Ends) (i:Nat):Ends:={nx:=fun σ H=>D.nx (σ.set i f') H,rt:=D.rt,bk:=fun σ H=>D.bk (σ.set i f') H,ct:=fun σ H=>D.ct (σ.set i f') H}
noncomputable def WTry (K:dt) (G:eH) (i:Nat) (L:XW) (ts:TS) (D:Ends):XW:=fun σ C dx H=>∃c,C= .ref c/\((Vm K c (.ref G)=a' true/\∀x,H x=f'->ts (D.less i) (σ.set i (a' (.ref x))) (upd H x (ExcO x C dx)))∨
 (Vm K c (.ref G)=a' false/\L σ C dx H))
structure XIsi (K:dt) (D:eH):Prop where
 cls:ZH K D=true
 ga:TK K (.ref D) "__getattribute__"=a' (a' (.builtin "BaseException.__getattribute__"))
 gr:TK K (.ref D) "__getattr__"=a' f'
 ha:TK K (.ref D) "__class__"=a' (a' (.builtin "object.__class__"))
 hn:VB K (.builtin "object.__class__") "__get__"=a' (a' (.builtin "getset_descriptor.__get__"))
 tk:Yb K (.builtin "object.__class__")=a' true
 hm:Vm K D (.type "object")=a' true
 base:Vm K D (.type "BaseException")=a' true
noncomputable def dV:V->sC
 | .ref a=> .ref a
 | .ty n=> .type n
 | _=> .none
section
variable {σ:St} {H:Hp} {Q:VK} {D:Ends} {W:XW} {t:TA}
theorem On (h:t σ H λvs H1=>vs.length<=hR/\W σ (.ref C) f' H1):MB C W t D σ H:=h
end
theorem qh {K:dt} {k:Nat} {t:TGs} {n:Nat} (h:X.K=K) (hc:X.calm=true) (ht:PGs X α t)
  (hn:(assignEach α X.env).length=n:=by rfl) (η:(assignEach α X.env).findIdx? (·.1)=none:=by rfl):PG X (.Tuple α k pos) (gTup K n t):=by subst h;exact yi hc ht hn η
theorem OA {k:Key} {v:sC} (h:AV k v=true):RelV (kV k) v:=by
 rcases df h with ⟨i,t,rfl,rfl⟩ | ⟨x,t,rfl,rfl⟩
 ·exact⟨t,rfl⟩
 ·exact⟨t,rfl⟩
theorem vo {α β:Type} {F:α->β->Prop}:∀{l:eE α} {m:eE β},l.length=m.length->(∀(i:Nat) (a:α) (b:β),l[i]? =a' a->m[i]? =a' b->F a b)->Paired F l m
 | [],[],_,_=> .nil
 | a::l,b::m,hl,h=> .cons (h 0 a b rfl rfl) (vo (by simpa using hl) λi x y L G=>h (i + 1) x y (by simpa using L) (by simpa using G))
 | [],_::_,hl,_=>by simp at hl
 | _::_,[],hl,_=>by simp at hl
section
variable {σ:St} {H:Hp} {Q:VK} {D:Ends} {te ty tv td:TE} {x y v:V}
def Pt (y:V) (Q:VK) (x:V) (H:Hp):Prop:=∃a o,x= .ref a/\DGet H a y o/\Q (.bl o.isSome) H
theorem S0 (h:ty σ H λy H1=>td σ H1 (Pt y Q)):tDIn ty td σ H Q:=h
theorem QB {z:Int} (e:H p=a' (.dK kvs)) (h:Q (.bl (valV kvs (UI z)).isSome) H):Pt (.int z) Q (.ref p) H:=⟨p,_,rfl,DGet.k (k:=UI z) e,h⟩
theorem ML (e:H p=a' (.dK kvs)) (h:Q (.bl (valV kvs (Tz z)).isSome) H):Pt (.str z) Q (.ref p) H:=⟨p,_,rfl,DGet.k (k:=Tz z) e,h⟩
def Nx (y:V) (Q:VK) (x:V) (H:Hp):Prop:=∃a o,x= .ref a/\DGet H a y o/\Q (.bl (!o.isSome)) H
theorem Qy (h:ty σ H λy H1=>td σ H1 (Nx y Q)):GV ty td σ H Q:=h
theorem Ow (e:H p=a' (.dK kvs)) (h:Q (.bl (!(valV kvs (Tz z)).isSome)) H):Nx (.str z) Q (.ref p) H:=⟨p,_,rfl,DGet.k (k:=Tz z) e,h⟩
theorem pA {b:eH} {xs zs:eE V} (e:H l=a' (.lst xs)) (G:H b=a' (.lst zs)) (hz:xs.length + zs.length<=hR) (h:∀p H2,H p=f'->Same H H2->H2 p=a' (.lst (xs++zs))->Q (.ref p) H2):rCat (.ref l) (.ref b) H Q:=⟨l,b,xs,zs,rfl,rfl,e,G,hz,jI h⟩
end
theorem zK:∀{ns:N'} {us:E'},Vals (ns.map V.int) us->IntsAre us ns
 | [],us,r=>by cases r;exact .nil
 | n::ns,us,r=>by
   rw[Uq] at r;cases r with
   | cons h t=>obtain⟨t',rfl⟩:=h;exact .cons _ _ (zK t)
theorem Je:∀{ns:N'} {us:E'},IntsAre us ns->Vals (ns.map V.int) us:=uR
noncomputable def QJ:eE V->Hp->VK->Prop:=λxs H Q=>∃(p:eH) (ns:N'),xs=[.ref p]/\H p=a' (.lst (ns.map V.int))/\0 < ns.length/\∀m:Int,m∈ns->(∀a∈ns,a<=m)->Q (.int m) H
section
variable {X:Cx}
theorem JT (hc:X.calm=true):mR X (.builtin "max") QJ:=by
 intro pins s σ H xs us Q I r h;obtain⟨p,ns,rfl,δ,G,q⟩:=h;obtain⟨u,rfl,Z⟩:=rZ r;cases Z;obtain⟨z,its,n,β,hl,e⟩:=I.lstM δ;have hi:=zK β;obtain⟨zs,Y⟩:=hi.allInts.items;have ω:ns=zs.toList.map (·.1):=by rw[<-hi.numsOf,<-nums_intItems,<-Y]
 have hsz:0 < zs.size:=by have L:=G;rw[ω,bx,V6] at L;exact L
 have α:s.heap.IsList p (intItems zs):=by rw[<-Y];exact⟨_,e,rfl,n,rfl⟩
 refine max_intList (I.ok.hd hc) α hsz λv h' tk γ hk=>?_;obtain⟨t,rfl⟩:=intItems_at γ;obtain⟨h1,h2⟩:=argBest_gt (numAt zs) (zs.size - 1);refine⟨.int _,H,I.kept hk,⟨t,rfl⟩,q _ ?_ λa ha=>?_⟩
 ·rw[ω,numAt_eq];exact getD_mem (by rw[bx,V6];omega)
 ·rw[ω] at ha;obtain⟨j,ε,rfl⟩:=mem_getD ha;rw[bx,V6] at ε;rw[<-numAt_eq];exact h2 j @A
end
section
variable {prog:Tv} {w:U1} {A:TQ} {E:Cr} {s:px} {d:eH} {vs:eE (Key×sC)} {ep:Nat}
theorem Fc:plainId "list.__iadd__"=true:=by decide +kernel
theorem Bp {Q:E'->px->Prop} (Y:A.handled=f') (lo:(d == sysModules)=false) (η:s.heap.DictAt (dz prog w) d vs ep) (hn:vs.length<=hR)
  (h:∀h' tk (Z:G'),(∀b o,s.heap.get? b=a' o->h'.get? b=a' o)->s.heap.objs.size < h'.objs.size->ItemsOf (λi v=>∃k x,vs[i]? =a' (k,x)/\(dz prog w).is k v=true) Z vs.length->Q Z.toList {s with heap:=h',toks:=tk}):
  n' (xY prog w) A (collect (.ref d)) Q E s:=by
 unfold collect;refine eS (wpAny_runValue (W8 entry_proto_collect' ?_));show n' _ _ (do again (.builtin "list.__iadd__" ⟨[<-newList [],.ref d],[]⟩)) _ _ s;refine eS (wpAny_newList (sA ⟨Code.quiet_builtin _ @H,W8 entry_list_iadd' ?_⟩));rw[VI Fc _];show n' _ _ (TN (.ref s.heap.objs.size) (.ref d) (.ref s.heap.objs.size)) _ _ {s with heap:=s.heap.push (seqObj "list" #[] 0)};have G:=η.lt_size
 refine PySem.W.kdl_extend (R:=λr s'=>match r with
   | Except.ok (Flow.ret v)=>n' (xY prog w) A (match v with
     | T7 a=>do
       let o <-load a
       match o.data with
       | .seq xs _=>pure xs.toList
       | _=>unsupported "internal:collect"
     | _=>unsupported "internal:collect") Q E s'
   | Except.ok _=>False
   | Except.error e=>E e s') (s:={s with heap:=s.heap.push (seqObj "list" #[] 0)}) (PySem.W.kdl_dict (knd:=dz prog w) (kvs:=vs) (ep:=ep) lo) Y (η.push _) s.heap.objs.size (UK G) (UK G) _ 0 (mu _ rfl) (λh' tk L ξ hk α ν=>?_) hn
 show n' (xY prog w) A (do
   let o <-load s.heap.objs.size
   match o.data with
   | .seq xs _=>pure xs.toList
   | _=>unsupported "internal:collect") Q E {s with heap:=h',toks:=tk}
 refine eS (wpAny_load α ?_);exact sA (h h' tk L (λb o e=>hk b o (TB (hE e)) (fy _ e)) (hE α) ν)
theorem BP {Q:Cr} {ks:N'} (Y:A.handled=f') (lo:(d == sysModules)=false) (η:s.heap.DictAt (dz prog w) d vs ep) (hn:vs.length<=hR) (hk:vs.map (·.1)=ks.map UI) (ρ:vs.length < 64)
  (h:∀h' tk a (out:G') (e:Nat) (L:N'),(∀b o,s.heap.get? b=a' o->h'.get? b=a' o)->s.heap.objs.size<=a->h'.get? a=a' (seqObj "list" out e)->IntsAre out.toList L->L.Perm ks->L.Pairwise (·<=·)->Q (.ref a) {s with heap:=h',toks:=tk}):
  n' (xY prog w) A (call (.builtin "sorted") [.ref d]) Q E s:=by
 refine Calls.call_function_entry kind_sorted plain_sorted entry_sorted (args_sorted1 _) ?_;unfold Builtin.«sorted»;refine eS (m:=checkCount "sorted" 1 1 _) (sA ?_);refine eS (Bp (by exact Y) lo η hn λh' tk G ε hsz ν=>?_)
 have γ:(ks.map V.int).length=G.toList.length:=by
  have α:=T4 TX hk;rw[bx,bx] at α;have π:G.toList.length=vs.length:=by rw[V6];exact ν.1
  rw[bx];omega
 have hI:IntsAre G.toList ks:=by
  refine zK (vo γ λi a b ha hb=>?_);rw[gA] at ha;obtain⟨k,ζ,rfl⟩:=VF.mp ha;rw[Array.getElem?_toList] at hb;obtain⟨ι,x,ξ,δ⟩:=ν.2 i b hb;have α:(vs.map (·.1))[i]? =a' ι:=by rw[gA,ξ];rfl
  rw[hk,gA,ζ] at α;have α:=zx α;subst α;exact OA (show AV (UI k) b=true from δ)
 have θ:G.toList.length < 64:=by rw[V6,ν.1];exact ρ
 refine eS (wpAny_newList ?_);have Z:(h'.push (seqObj "list" G.toList.toArray 0)).get? h'.objs.size=a' (seqObj "list" G.toList.toArray 0):=mu _ rfl;show n' _ _ _ _ _ {s with heap:=h'.push (seqObj "list" G.toList.toArray 0),toks:=tk};refine eS (VN (Wz slot_list_sort ⟨_,Z,rfl⟩ entry_list_sort (list_sort_tree Z hI θ λout L a1 a2 ο=>⟨_,rfl,?_⟩) (args_list_sort _)));obtain⟨e,he⟩:=sortedHeap_at (out:=out) Z;refine sA ⟨_,rfl,h _ tk h'.objs.size out e L (λb o hb=>?_) ?_ he a1 a2 ο⟩
 ·have β:=hE (ε b o hb);rw[sortedHeap_old (TB β) (by rw[size_push'];exact X4 β)];exact fy _ (ε b o hb)
 ·exact Vh hsz
end
noncomputable def MP:eE V->Hp->VK->Prop:=λxs H Q=>∃(p:eH) (ks:N') (kvs:eE (Key×V)),xs=[.ref p]/\H p=a' (.dK kvs)/\kvs.map (·.1)=ks.map UI/\kvs.length < 64/\
 ∀(l:eH) (ns:N'),H l=f'->ns.Perm ks->ns.Pairwise (·<=·)->Q (.ref l) (upd H l (.lst (ns.map V.int)))
theorem Ga (hc:X.calm=true):mR X (.builtin "sorted") MP:=by
 intro pins s σ H xs us Q I r h;obtain⟨p,ks,kvs,rfl,γ,hk,ρ,q⟩:=h;obtain⟨u,rfl,α⟩:=rZ r;cases α;obtain⟨hz,lo,vs,rel,dd⟩:=RY I.hok γ;obtain⟨ep,η⟩:=dd.dictAt;refine BP (ks:=ks) (I.ok.hd hc) lo η (by rw[<-rel.length];exact hz) (by rw[<-rel.keys];exact hk) (by rw[<-rel.length];exact ρ) λh' tk a out e G kp ha he hi L Y=>?_;have β:=Je hi
 have hl:(G.map V.int).length<=sizeLine:=by
  have Z:=T4 TX hk;rw[bx,bx] at Z;rw[bx,L.length_eq,<-Z];exact hz
 refine⟨.ref a,_,I.laid (t':=tk) kp ha (show gX X.prog X.w _ h' _ (.lst (G.map V.int)) from⟨hl,out.toList,e,β,by simpa using he⟩),rfl,q _ G (I.hok.fresh ha) L Y⟩
section
variable {H:Hp} {Q:VK}
theorem Ol {ks:N'} (e:H p=a' (.dK kvs)) (hk:kvs.map (·.1)=ks.map UI) (ρ:kvs.length < 64) (h:∀(l:eH) (ns:N') (H2:Hp),H l=f'->Same H H2->H2 l=a' (.lst (ns.map V.int))->ns.Perm ks->ns.Pairwise (·<=·)->Q (.ref l) H2):MP [.ref p] H Q:=
 ⟨p,ks,kvs,rfl,e,hk,ρ,λl ns hl G hw=>h l ns _ hl (aW hl) au G hw⟩
end
open AutoSeq1 (wpAny_loadPart')
section
variable {prog:Tv} {w:U1} {A:TQ} {E:Cr} {s:px}
theorem sJ {L:eH} {x:sC} {Q:Cr} (G:s.heap.IsTupleIter L t i) (ht:s.heap.IsTuple t items) (hx:items[i]? =a' x)
  (β:∀h',h'.IsTupleIter L t (i + 1)->WC L s.heap h'->Q x {s with heap:=h'}):
  n' (xY prog w) A (Uo (.ref L)) Q E s:=by
 obtain⟨o,ho,α,hd⟩:=id G;obtain⟨γ,Y,_,δ,Z⟩:=ht;unfold Uo
 refine eS (Wi (name:=Vy "__next__") G.typeIs F.slot_tuple_iterator_next
  (Wz F.slot_tuple_iterator_next G.typeIs F.entry_tuple_iterator_next ?_ (F.args_tuple_iterator_next_1 _)))
 show n' _ _ (field (.ref L) 0 >>=_) _ _ s;refine eS (UQ ho hd (x:= .ref t) rfl ?_);show n' _ _ (if (T7 t == Uy)=true then _ else _) _ _ s;rw[qb (show ¬((T7 t == Uy)=true) from hB)];show n' _ _ (field (.ref L) 1 >>=_) _ _ s;refine eS (UQ ho hd (x:= .int i 0) rfl ?_);show n' _ _ (seqItems? (.ref t) >>=_) _ _ s;refine eS (W2 Y Z ?_);simp only[ov,hx];refine eS (X7 ho hd @E (sA ⟨x,rfl,sA (β _ ?_ (Vk ..))⟩))
 exact⟨_,UX _ ho (Zl (XZ hd _)),(aa2 ..).trans α,by
  rw[XZ hd];simp[rawInt]⟩
theorem ug {Q:Cr} (Y:A.handled=f') (G:s.heap.IsTupleIter Z t i) (ht:s.heap.IsTuple t items) (hx:items[i]? =f')
  (L:∀h' e,Heap.ExtBut Z s.heap h'->(∃o,h'.get? e=a' o/\o.cls= .type "StopIteration")->E (.ref e) {s with heap:=h'}):
  n' (xY prog w) A (Uo (.ref Z)) Q E s:=by
 obtain⟨o,ho,ε,hd⟩:=id G;obtain⟨γ,α,_,δ,β⟩:=ht;unfold Uo
 refine eS (Wi (name:=Vy "__next__") G.typeIs F.slot_tuple_iterator_next
  (Wz F.slot_tuple_iterator_next G.typeIs F.entry_tuple_iterator_next ?_ (F.args_tuple_iterator_next_1 _)))
 show n' _ _ (field (.ref Z) 0 >>=_) _ _ s;refine eS (UQ ho hd (x:= .ref t) rfl ?_);show n' _ _ (if (T7 t == Uy)=true then _ else _) _ _ s;rw[qb (show ¬((T7 t == Uy)=true) from hB)];show n' _ _ (field (.ref Z) 1 >>=_) _ _ s;refine eS (UQ ho hd (x:= .int i 0) rfl ?_);show n' _ _ (seqItems? (.ref t) >>=_) _ _ s;refine eS (W2 α β ?_);simp only[ov,hx];refine eS (ac2 (eS (X7 ho hd @E ?_)));show n' _ _ (newExc (.type "StopIteration") [] >>=_) _ _ _;refine eS ?_;simp only[newExc,newTuple];refine eS (Xi ?_ (by size_fits));refine eS (m:=firstArgMember _ _) (aa7 (a:=Uy) (by first | rfl | (simp only[firstArgMember];rfl)) ?_);refine Xi ?_ (by size_fits);simp only[raiseNew];refine eS (wpAny_handled ?_)
 first | rw[show A.in1.handled=f' from Y] | rw[Y]
 refine eS (sA (wpAny_throw ?_));exact L _ _ (((Vk ..).extBut.push _).push _) ⟨_,mu _ rfl,rfl⟩
end
theorem Draws.tuple {w:U1} {A:TQ} (Y:A.handled=f') (G l:eH) (β:l≠G) (items:G'):
  Draws prog w A G [G,l] items.size (λi v=>items[i]? =a' v) (λi h=>h.IsTupleIter G l i/\h.IsTuple l items) where
 live:=λ_ _ st=>let ⟨o,ho,_⟩:=st.1;⟨o,ho⟩
 frame:=λ_ _ _ st hk=>⟨let ⟨o,ho,r⟩:=st.1;⟨o,hk G @E o ho,r⟩,let ⟨o,ho,r⟩:=st.2;⟨o,hk l @E o ho,r⟩⟩
 item:=λi s Q E hi st γ=>by
  refine sJ st.1 st.2 (x:=items[i]) (by simp[hi]) λh' α Z=>?_;exact γ _ h' s.toks (by simp[hi]) ⟨α,st.2.extBut Z.extBut β⟩ Z
 done:=λs Q E st L=>ug Y st.1 st.2 @E L
theorem pB (l:eH) (items:G') (n:Nat) (G:P') (L:K'):
  Meets (Builtin.«enumerate.__new__» ⟨[.type "enumerate",.ref l],[]⟩) (λ_ R s=>s.heap.get? l=a' {cls:= .type "tuple",dict:=G,data:= .seq items n,slots:=L}/\
   R (.ok (.ret (.ref (s.heap.push {cls:= .type "tuple_iterator",data:= .fields #[.ref l,.int 0 0]}).objs.size)))
     {s with heap:=(s.heap.push {cls:= .type "tuple_iterator",data:= .fields #[.ref l,.int 0 0]}).push {cls:= .type "enumerate",data:= .fields #[.none,.bool false,.ref s.heap.objs.size,rawInt 0,.none,.none]}}):=
 .of_wp λprog w A R s h=>by
  obtain⟨Y,g,d,tk,os⟩:=s;obtain⟨hl,h⟩:=h;have ξ:=sub_enumerate;have α:Heap.IsTuple (Shared.heap ⟨Y,g,d,tk,os⟩) l items:=⟨_,hl,rfl,n,rfl⟩
  wp_walk using WV hl
  refine wpAny_stack_any λst=>sA ?_;split
  ·rename_i c _ _ _ _ _;cases(c == WG "enumerate")
   ·wp_walk using WV hl,X9 α
    exact⟨_,rfl,h⟩
   ·wp_walk using WV hl,X9 α
    exact⟨_,rfl,h⟩
  ·wp_walk using WV hl,X9 α
   exact⟨_,rfl,h⟩
theorem pH {w:U1} {A:TQ} {E:Cr} {Q:Cr} (α:s.heap.IsTuple l items)
  (h:∀h',IsEnum h' (s.heap.objs.size + 1) s.heap.objs.size 0 .none->h'.IsTupleIter s.heap.objs.size l 0->h'.objs.size=s.heap.objs.size + 2->
   (∀b o,s.heap.get? b=a' o->h'.get? b=a' o)->Q (.ref (s.heap.objs.size + 1)) {s with heap:=h'}):
  n' (xY prog w) A (call (.type "enumerate") [.ref l]) Q E s:=by
 obtain⟨⟨c,L,Y,ξ⟩,hl,G,n,hd⟩:=α;replace G:c= .type "tuple":=G;replace hd:Y= .seq items n:=hd;subst G hd
 refine callType_new F.called_enumerate @C (F.typeCall_enumerate_1 _) (F.newCall_enumerate_1 _) (λobj=>F.args_object_init_2 obj _) F.entry_enumerate_new
  (pB l items n L ξ) ⟨hl,?_⟩
 have hz:(s.heap.push {cls:= .type "tuple_iterator",data:= .fields #[.ref l,.int 0 0]}).objs.size=s.heap.objs.size + 1:=W9 ..
 show _/\_;rw[hz]
 have he:IsEnum ((s.heap.push {cls:= .type "tuple_iterator",data:= .fields #[.ref l,.int 0 0]}).push
   {cls:= .type "enumerate",data:= .fields #[.none,.bool false,.ref s.heap.objs.size,rawInt 0,.none,.none]}) (s.heap.objs.size + 1) s.heap.objs.size 0 .none:=by
  have:=mu (s.heap.push {cls:= .type "tuple_iterator",data:= .fields #[.ref l,.int 0 0]})
   (o:={cls:= .type "enumerate",data:= .fields #[.none,.bool false,.ref s.heap.objs.size,rawInt 0,.none,.none]}) rfl
  rw[hz] at this;exact this
 refine⟨⟨_,he,rfl⟩,h _ he ⟨_,fy _ (mu _ rfl),rfl,rfl⟩ (by rw[W9,hz]) λb o x=>fy _ (fy _ x)⟩
noncomputable def Itet (K:dt) (a:eH):It:=
 ⟨λi H=>∃xs x,SqT K H a xs/\xs[i]? =a' x,λi H x H'=>∃p v,H p=f'/\x= .ref p/\H'=upd H p (.tup [.int i,v])/\∀xs,SqT K H a xs->xs[i]? =a' v,λi H=>∃xs,SqT K H a xs/\xs.length=i⟩
theorem EC {P:Tv} {w:U1} {K:dt} {k:Nat} (a e Y:eH) (Z:e≠Y):
  Turn P w K (.Tuple δ k pos) (Itet K a) [e,Y] e (λi h=>(∃L,IsEnum h e Y i L)/\h.IsTupleIter Y a i) where
 mem:=by simp
 obj:=λi h st b hb=>by
  obtain⟨⟨L,he⟩,⟨o,ho,ψ,hd⟩⟩:=st;rcases Tn.mp hb with z | z
  ·subst z;exact⟨_,he,λv z=>by cases z⟩
  ·rw[gs.mp z];exact⟨o,ho,λv z=>by rw[hd] at z;cases z⟩
 keep:=λi h h' st k=>⟨let ⟨L,he⟩:=st.1;⟨L,k e @E _ he⟩,(let ⟨o,ho,r⟩:=st.2;⟨o,k Y @E o ho,r⟩)⟩
 item:=by
  intro X hP hw γ ψ i pins s σ H E I hf st hg;subst hP hw γ;obtain⟨xs,x,χ,φ⟩:=hg;obtain⟨its,υ,p,hz⟩:=I.tuple χ;have ε:s.heap.IsTuple a its.toArray:=p;obtain⟨⟨L,he⟩,hl⟩:=st
  have ν:a≠Y:=λz=>by
   obtain⟨o,ho,ι,_⟩:=hl;obtain⟨o',ζ,G,_⟩:=ε;rw[z,ho] at ζ;cases ζ;rw[ι] at G;exact hD G @C
  have ξ:a≠e:=λz=>by
   obtain⟨o',ζ,G,_⟩:=ε;rw[z,he] at ζ;cases ζ;exact hD (show WG "enumerate"= .type "tuple" from G) @C
  have W:=VC (prog:=X.prog) (w:=X.w) (A:=X.A) (Draws.tuple (A:=X.A.in1) (I.ok.hd ψ) Y a ν its.toArray) e Z (by simp[Z,Ts ξ]) @E;have hi:i < its.toArray.size:=by have:=υ.length;have:=(b'.mp φ).1;simp;omega
  refine W.item i s _ _ hi ⟨⟨L,he⟩,hl,ε⟩ λT a5 h' tk a3 hT π β hk=>⟨_,rfl,W.go δ k pos i T _ _ _ β λa4 η ρ=>?_⟩;obtain⟨t,θ,ω,rfl⟩:=a3;have a0:=W.apart i T h' β
  have ru:RelV x θ:=by
   obtain⟨u,τ,r⟩:=υ.get φ;have α:its[i]? =a' θ:=by simpa using ω
   rw[τ] at α;cases α;exact r
  have ο:∀b u,b∉[e,Y]->s.heap.get? b=a' u->a4.get? b=a' u:=λb u hb q=>ρ b u hb (hk b u hb q);have fr:H T=none:=I.hok.fresh hT;refine⟨.ref T,upd H T (.tup [.int i,x]),I.laidCh (t':=tk) ο hT ⟨Ap,[.int i t,θ],.cons ⟨t,rfl⟩ (.cons ru .nil),?_⟩ hf,rfl,⟨T,x,fr,rfl,rfl,λys hy=>by rw[I.tuple_inj hy χ];exact φ⟩,⟨η.1,η.2.1⟩,λb hb=>?_⟩
  ·obtain⟨o,ho,r⟩:=π;exact⟨o,ρ T o a0 ho,r⟩
  ·have fb:=(hf b hb);rw[aF (λz=>?_)]
   ·exact fb.1
   ·have lt:b < s.heap.objs.size:=by
     rcases Tn.mp hb with z | z
     ·subst z;exact hE he
     ·rw[gs.mp z];obtain⟨o,ho,_⟩:=hl;exact hE ho
    rw[z] at lt;exact hD (gm lt hT) (Vc _)
 done:=by
  intro X hP hw γ ψ i pins s σ H E I hf st hg;subst hP hw γ;obtain⟨xs,χ,φ⟩:=hg;obtain⟨its,υ,p,hz⟩:=I.tuple χ;have ε:s.heap.IsTuple a its.toArray:=p;obtain⟨⟨L,he⟩,hl⟩:=st
  have ν:a≠Y:=λz=>by
   obtain⟨o,ho,ι,_⟩:=hl;obtain⟨o',ζ,G,_⟩:=ε;rw[z,ho] at ζ;cases ζ;rw[ι] at G;exact hD G @C
  have ξ:a≠e:=λz=>by
   obtain⟨o',ζ,G,_⟩:=ε;rw[z,he] at ζ;cases ζ;exact hD (show WG "enumerate"= .type "tuple" from G) @C
  have W:=VC (prog:=X.prog) (w:=X.w) (A:=X.A) (Draws.tuple (A:=X.A.in1) (I.ok.hd ψ) Y a ν its.toArray) e Z (by simp[Z,Ts ξ]) @E;have hn:its.toArray.size=i:=by have:=υ.length;simp;omega
  subst hn;exact W.done s _ _ ⟨⟨L,he⟩,hl,ε⟩ λh' tk hk=>⟨rfl,I.turnedCh hk hf⟩
 self:=λ_ _ _ _ _ st h=>let ⟨_,he⟩:=st.1;Vu he h
noncomputable def M5 (K:dt) (tl:TE):TI:=fun σ H R=>tl σ H λx H1=>∃a,x= .ref a/\(((∃xs,SqL K H1 a xs)/\R (Ite K a) H1)∨((∃xs,SqT K H1 a xs)/\R (Itet K a) H1))
section
variable {X:Cx} {K:dt}
theorem oS {l:UF} {k:Nat} {p:Pos} (h:X.K=K) (ζ:Gl X "enumerate") (hm:X.mg "enumerate"=f') (hl:PE X l tl) (hs:tu [l] X.env=[(false,eval l X.env)]:=by rfl):
  PI X (.Tuple β k tpos) (.Call (.Name "enumerate" p) [l] [] pos) (M5 K tl):=by
 subst h;intro pins s σ H R I h;refine YL (lN I ζ hm boot_enumerate (Tt (thn (aa hl ae hs pos pins s σ H (λvs H1=>match vs with | [x]=>∃a,x= .ref a/\(((∃xs,SqL X.K H1 a xs)/\R (Ite X.K a) H1)∨((∃xs,SqT X.K H1 a xs)/\R (Itet X.K a) H1)) | _=>False) I h) λus G ⟨vs,H1,I1,Y,Z⟩=>?_) hs rfl))
 match vs,Y,Z with
 | [x],Y,Z=>
 obtain⟨u,rfl,ε⟩:=Y.one;obtain⟨a,rfl,Z⟩:=Z;cases ε
 have fin:∀b∈[G.heap.objs.size + 1,G.heap.objs.size],FpOk X pins H1 b:=λb hb=>by
  have α:G.heap.objs.size<=b:=(Tn.mp hb).elim (λz=>by rw[z];exact XQ _) (λz=>by rw[gs.mp z];exact sb _);exact I1.fpOk α (I1.hok.fresh α)
 rcases Z with ⟨⟨xs,γ⟩,q⟩ | ⟨⟨xs,γ⟩,q⟩
 ·obtain⟨its,δ,pl,hz⟩:=I1.list γ;refine ab5 pl.isList λh' he L hsz hk=>Vu he ?_;exact⟨G.heap.objs.size + 1,[G.heap.objs.size + 1,G.heap.objs.size],_,_,H1,rfl,I1.kept (t':=G.toks) hk,yf a _ _ (UK (UU _)),⟨⟨_,he⟩,L⟩,fin,q⟩
 ·obtain⟨its,δ,pl,hz⟩:=I1.tuple γ;refine pH (show G.heap.IsTuple a its.toArray from pl) λh' he L hsz hk=>Vu he ?_;exact⟨G.heap.objs.size + 1,[G.heap.objs.size + 1,G.heap.objs.size],_,_,H1,rfl,I1.kept (t':=G.toks) hk,EC a _ _ (UK (UU _)),⟨⟨_,he⟩,L⟩,fin,q⟩
end
theorem yG {K:dt} {n:Nat} {g:TG} {Q:Hp->Prop} {xs:eE V} (L:Nat->eE V->Hp->Prop) (h0:L 0 [] (upd H1 D (.lst []))) (hl:∀i ys H,i<=xs.length->L i ys H->SqL K H a xs)
  (hs:∀i x ys H p H',xs[i]? =a' x->L i ys H->H p=f'->Same H H'->H' p=a' (.tup [.int i,x])->g (.ref p) (dG n fx σ) H' λG γ=>tc G γ λb β=>if b=true then te G β λv α=>α D=a' (.lst ys)/\ys.length < hR/\L (i + 1) (ys++[v]) (upd α D (.lst (ys++[v]))) else L (i + 1) ys β)
  (hd:∀ys H,L xs.length ys H->Q H):
  ∃W:Nat->Nat->eE V->Hp->Prop,(∃m,W 0 m [] (upd H1 D (.lst [])))/\∀i m ys H2,W i m ys H2->((Ite K a).stop i H2/\Q H2)∨
    ((Ite K a).go i H2/\∃N:eE V->Hp->Prop,(∀Y H',N Y H'->∃δ,δ < m/\W (i + 1) δ Y H')/\∀x ζ,(Ite K a).yld i H2 x ζ->g x (dG n fx σ) ζ λG γ=>tc G γ λb β=>
      if b=true then te G β λv α=>α D=a' (.lst ys)/\ys.length < hR/\N (ys++[v]) (upd α D (.lst (ys++[v]))) else N ys β):=by
 refine⟨λi m ys H=>m=xs.length - i/\i<=xs.length/\L i ys H,⟨xs.length,@E,UY _,h0⟩,?_⟩;rintro i m ys H ⟨rfl,hi,p⟩;have q:=hl i ys H hi p;by_cases Z:i < xs.length
 ·refine .inr ⟨⟨xs,xs[i],q,by simp[Z]⟩,L (i + 1),λY H' ε=>⟨xs.length - (i + 1),by omega,rfl,Z,ε⟩,λx H' y=>?_⟩;obtain⟨r,v,f,θ,η,y⟩:=y;subst θ η;exact hs i v ys H r _ (y xs q) p f (aW f) au
 ·have e:i=xs.length:=by omega
  subst e;exact .inl ⟨⟨xs,q,rfl⟩,hd ys H p⟩
theorem tD {K:dt} {n:Nat} {g:TG} {Q:Hp->Prop} {xs:eE V} (L:Nat->eE V->Hp->Prop) (h0:L 0 [] (upd H1 D (.lst []))) (hl:∀i ys H,i<=xs.length->L i ys H->SqT K H a xs)
  (hs:∀i x ys H p H',xs[i]? =a' x->L i ys H->H p=f'->Same H H'->H' p=a' (.tup [.int i,x])->g (.ref p) (dG n fx σ) H' λG γ=>tc G γ λb β=>if b=true then te G β λv α=>α D=a' (.lst ys)/\ys.length < hR/\L (i + 1) (ys++[v]) (upd α D (.lst (ys++[v]))) else L (i + 1) ys β)
  (hd:∀ys H,L xs.length ys H->Q H):
  ∃W:Nat->Nat->eE V->Hp->Prop,(∃m,W 0 m [] (upd H1 D (.lst [])))/\∀i m ys H2,W i m ys H2->((Itet K a).stop i H2/\Q H2)∨
    ((Itet K a).go i H2/\∃N:eE V->Hp->Prop,(∀Y H',N Y H'->∃δ,δ < m/\W (i + 1) δ Y H')/\∀x ζ,(Itet K a).yld i H2 x ζ->g x (dG n fx σ) ζ λG γ=>tc G γ λb β=>
      if b=true then te G β λv α=>α D=a' (.lst ys)/\ys.length < hR/\N (ys++[v]) (upd α D (.lst (ys++[v]))) else N ys β):=by
 refine⟨λi m ys H=>m=xs.length - i/\i<=xs.length/\L i ys H,⟨xs.length,@E,UY _,h0⟩,?_⟩;rintro i m ys H ⟨rfl,hi,p⟩;have q:=hl i ys H hi p;by_cases Z:i < xs.length
 ·refine .inr ⟨⟨xs,xs[i],q,by simp[Z]⟩,L (i + 1),λY H' ε=>⟨xs.length - (i + 1),by omega,rfl,Z,ε⟩,λx H' y=>?_⟩;obtain⟨r,v,f,θ,η,y⟩:=y;subst θ η;exact hs i v ys H r _ (y xs q) p f (aW f) au
 ·have e:i=xs.length:=by omega
  subst e;exact .inl ⟨⟨xs,q,rfl⟩,hd ys H p⟩
section
variable {σ:St} {H:Hp} {te:TE} {R:It->Hp->Prop}
theorem dm {K:dt} (h:te σ H λx H1=>∃a,x= .ref a/\(((∃xs,SqL K H1 a xs)/\R (Ite K a) H1)∨((∃xs,SqT K H1 a xs)/\R (Itet K a) H1))):M5 K te σ H R:=h
end
namespace ZP
noncomputable abbrev Busy (h:Ui) (z TI TO T:eH) (G:UD):Prop:=h.get? z=a' {cls:= .type "zip",data:= .fields #[rawInt T,.bool G,.bool false,.ref TI,.ref TO]}
section
variable {prog:Tv} {w:U1} {A:TQ} {E:Cr} {s:px}
theorem Iy {z T:eH} {Q:UD->px->Prop} (hz:Busy s.heap z C D T rc) (hT:s.heap.get? T=a' ψ) (h:∀h',Busy h' z C D T true->WC z s.heap h'->Q false {s with heap:=h'}):
  n' (xY prog w) A (WY (.ref z)) Q E s:=by
 unfold WY;refine eS (UQ hz rfl (x:=rawInt T) rfl ?_);show n' _ _ (loadIfAlive ((T:Int).toNat) >>=_) _ _ s;rw[ov];refine eS (PySem.W.kdx_alive hT ?_);rw[qb @E];refine eS (UQ hz rfl (x:= .bool rc) rfl ?_);cases rc with
 | true=>
   rw[qb @C];exact sA (h s.heap hz ⟨rfl,λ_ _=>rfl⟩)
 | false=>
   rw[wb @C];refine eS (wpAny_setField_rec hz (by show 1 < 5;decide) λh' e hs=>sA (h h' e hs))
theorem IA {z T:eH} {xs:G'} {x y:sC} {Q:T2->px->Prop} (ap:ZipApart z C D i1 i2 Z d) (hz:Busy s.heap z C D T rc) (hT:s.heap.get? T=a' ψ)
  (hI:IsPair s.heap C (.ref i1) (.ref i2)) (h1:s.heap.IsListIter i1 Z i) (h2:s.heap.IsListIter i2 d i) (hl1:s.heap.IsList Z xs) (hl2:s.heap.IsList d ys) (τ:xs[i]? =a' x) (ρ:ys[i]? =a' y)
  (h:∀h',Busy h' z C D T true->h'.IsListIter i1 Z (i + 1)->h'.IsListIter i2 d (i + 1)->(∀b o,b≠z->b≠i1->b≠i2->s.heap.get? b=a' o->h'.get? b=a' o)->h'.get? s.heap.objs.size=a' {cls:= .type "tuple",data:= .seq #[x,y]}->Q (a' (.ref s.heap.objs.size)) {s with heap:=h'}):
  n' (xY prog w) A (pyNext (.ref z)) Q E s:=by
 have ty:s.TypeIs (.ref z) "zip":=⟨_,hz,rfl⟩;unfold pyNext;refine eS (wpAny_attempt (Wi (name:=Vy "__next__") ty F.slot_zip_next (Wz F.slot_zip_next ty F.entry_zip_next ?_ (F.args_zip_next_1 _))));unfold Builtin.«zip.__next__»;refine eS (aa7 (a:=(T7 z,[])) rfl ?_);dsimp only;refine eS (UQ hz rfl (x:= .bool false) rfl ?_);refine eS (UQ hz rfl (x:= .ref C) rfl ?_);refine eS (W2 hI rfl ?_);dsimp only;rw[qb (show ¬(#[T7 i1,T7 i2].isEmpty=true) from hB)];refine eS (Iy hz hT λh' ο hs=>?_);rw[qb @C];rw[<-ZA];simp only[Xp,ac0];have keep:∀{b:eH} {o:ZC},b≠z->s.heap.get? b=a' o->h'.get? b=a' o:=λβ e=>(hs.2 _ β).trans e;have ν:h'.IsListIter i1 Z i:=h1.at λo e=>keep ap.i1z e;have G:h'.IsListIter i2 d i:=h2.at λo e=>keep ap.i2z e;have ι:h'.IsList Z xs:=let ⟨o,e,c⟩:=hl1;⟨o,keep ap.l1z e,c⟩
 have ε:h'.IsList d ys:=let ⟨o,e,c⟩:=hl2;⟨o,keep ap.l2z e,c⟩
 refine eS (eS (eS (VN ?_)));show n' _ _ (Uo (.ref i1) >>=λx=>pure (a' x)) _ _ _;refine eS (ZO ν ι τ fun ξ θ δ=>sA ?_);dsimp only;refine sA ?_;dsimp only;have L:∀{b:eH} {o:ZC},b≠i1->h'.get? b=a' o->ξ.get? b=a' o:=λβ e=>(δ.2 _ β).trans e;refine eS (eS (VN ?_));show n' _ _ (Uo (.ref i2) >>=λx=>pure (a' x)) _ _ _;refine eS (ZO (G.at λo e=>L (Ts ap.i12) e) (let ⟨o,e,c⟩:=ε;⟨o,L ap.l2i1 e,c⟩) ρ fun ζ η γ=>sA ?_);have Y:∀{b:eH} {o:ZC},b≠i2->ξ.get? b=a' o->ζ.get? b=a' o:=λβ e=>(γ.2 _ β).trans e;dsimp only;refine sA ?_;dsimp only;refine sA ?_;dsimp only;have es:ζ.objs.size=s.heap.objs.size:=γ.1.trans (δ.1.trans hs.1);refine eS (wpAny_newTuple (sA ⟨_,rfl,sA ?_⟩) (by show 2<=hR;rw[nr];decide));show Q (a' (.ref ζ.objs.size)) {s with heap:=ζ.push _};rw[es];refine h _ ?_ ?_ ?_ (λb o nz n1 π e=>fy _ (Y π (L n1 (keep nz e)))) ?_
 ·exact fy _ (Y (Ts ap.i2z) (L (Ts ap.i1z) ο))
 ·exact θ.at λo e=>fy _ (Y ap.i12 e)
 ·exact η.at λo e=>fy _ e
 ·rw[<-es];exact mu _ rfl
theorem LC {z T L:eH} {xs:G'} {Q:T2->px->Prop} (Y:A.handled=f') (ap:ZipApart z C D i1 i2 L Z) (hz:Busy s.heap z C D T rc) (hT:s.heap.get? T=a' ψ)
  (hI:IsPair s.heap C (.ref i1) (.ref i2)) (h1:s.heap.IsListIter i1 L i) (hl1:s.heap.IsList L xs) (ε:xs[i]? =f')
  (h:∀h',(∀b o,b≠z->b≠i1->s.heap.get? b=a' o->h'.get? b=a' o)->Q f' {s with heap:=h'}):
  n' (xY prog w) A (pyNext (.ref z)) Q E s:=by
 have ty:s.TypeIs (.ref z) "zip":=⟨_,hz,rfl⟩;unfold pyNext;refine eS (wpAny_attempt (Wi (name:=Vy "__next__") ty F.slot_zip_next (Wz F.slot_zip_next ty F.entry_zip_next ?_ (F.args_zip_next_1 _))));unfold Builtin.«zip.__next__»;refine eS (aa7 (a:=(T7 z,[])) rfl ?_);dsimp only;refine eS (UQ hz rfl (x:= .bool false) rfl ?_);refine eS (UQ hz rfl (x:= .ref C) rfl ?_);refine eS (W2 hI rfl ?_);dsimp only;rw[qb (show ¬(#[T7 i1,T7 i2].isEmpty=true) from hB)];refine eS (Iy hz hT λh' δ hs=>?_);rw[qb @C];rw[<-ZA];simp only[Xp,ac0];have keep:∀{b:eH} {o:ZC},b≠z->s.heap.get? b=a' o->h'.get? b=a' o:=λγ e=>(hs.2 _ γ).trans e;have α:h'.IsListIter i1 L i:=h1.at λo e=>keep ap.i1z e;have ι:h'.IsList L xs:=let ⟨o,e,c⟩:=hl1;⟨o,keep ap.l1z e,c⟩
 refine eS (eS (eS (VN ?_)));show n' _ _ (Uo (.ref i1) >>=λx=>pure (a' x)) _ _ _;refine eS (wpAny_nextOf_list_end (by first | exact Y | (rw[show A.in1.handled=f' from Y])) α ι ε fun β e ex he=>?_);refine eS (wpAny_isInstance (T:="StopIteration") (b:=true) (s:={s with heap:=β}) (let ⟨o,a,b⟩:=he;⟨o,a,b⟩) isSubtype_stop ?_);exact sA (h β λb o nz n1 ζ=>ex b o n1 (keep nz ζ))
structure ZGot (h:Ui) (lo:Nat) (xs ys:G') (as:M'):Prop where
 rise:as.Pairwise (· < ·)
 above:∀a∈as,lo<=a/\a < h.objs.size
 pairs:∀(j:Nat) (a:eH),as[j]? =a' a->∃x y,xs[j]? =a' x/\ys[j]? =a' y/\h.IsTuple a #[x,y]
structure ZSt (h:Ui) (z TI TO i1 i2 l1 l2:eH) (lo:Nat) (xs ys:G') (i:Nat) (as:M'):Prop where
 zp:(i=0/\IsZip h z TI TO .none)∨∃T fl,Busy h z TI TO T fl/\as[0]? =a' T
 hI:IsPair h TI (.ref i1) (.ref i2)
 hO:∃a b,IsPair h TO a b
 h1:h.IsListIter i1 l1 i
 h2:h.IsListIter i2 l2 i
 hl1:h.IsList l1 xs
 hl2:h.IsList l2 ys
 len:as.length=i
 got:ZGot h lo xs ys as
structure Und (z TI TO i1 i2 l1 l2 S:eH) (lo:Nat):Prop where
 ap:ZipApart z TI TO i1 i2 l1 l2
 Sz:S≠z
 STI:S≠TI
 STO:S≠TO
 Si1:S≠i1
 Si2:S≠i2
 Sl1:S≠l1
 Sl2:S≠l2
 z:z < lo
 TO:TO < lo
 i1:i1 < lo
 i2:i2 < lo
 S:S < lo
theorem lP {h:Ui} {o:ZC} (e:h.get? a=a' o):a < h.objs.size:=hE e
theorem ZGot.keep {h:Ui} {xs:G'} (g:ZGot h i xs ys as) (k:∀b o,i<=b->h.get? b=a' o->h'.get? b=a' o):ZGot h' i xs ys as:=by
 have k2:∀a∈as,h'.IsTuple a #[.none,.none]->True:=λ_ _ _=>trivial;refine⟨g.rise,λa ha=>?_,λj a G=>?_⟩
 ·obtain⟨j,G⟩:=U7.mp ha;obtain⟨x,y,_,_,o,e,_⟩:=g.pairs j a G;exact⟨(g.above a ha).1,lP (k a o (g.above a ha).1 e)⟩
 ·obtain⟨x,y,Y,L,o,e,c⟩:=g.pairs j a G;exact⟨x,y,Y,L,o,k a o (g.above a (ee G)).1 e,c⟩
theorem ZGot.more {h:Ui} {xs:G'} {x y:sC} (g:ZGot h i xs ys as) (ha:∀b∈as,b < a) (L:i<=a) (hx:xs[as.length]? =a' x) (hy:ys[as.length]? =a' y) (ht:h.IsTuple a #[x,y]):ZGot h i xs ys (as++[a]):=by
 refine⟨Zp.mpr ⟨g.rise,Y' _ _,λb hb c Y=>by rw[gs.mp Y];exact ha b hb⟩,λb hb=>?_,λj b G=>?_⟩
 ·rcases gz.mp hb with z | z
  ·exact g.above b z
  ·rw[gs.mp z];obtain⟨o,e,_⟩:=ht;exact⟨L,lP e⟩
 ·by_cases hl:j < as.length
  ·rw[kv hl] at G;exact g.pairs j b G
  ·rw[lT @A] at G
   have Z:j=as.length:=by
    have:=(b'.mp G).1;simp at this;omega
   subst Z;rw[Xf] at G;have:a=b:=by simpa using G
   subst this;exact⟨x,y,hx,hy,ht⟩
theorem loop {R:R'} {z S:eH} {xs:G'} (Y:A.handled=f') (U:Und z C D i1 i2 Z η S j) (hn:xs.size<=hR) (a8:ys.size=xs.size) (res:sC) {h₁:Ui}
  (χ:∀h' tk ι c as,(∀b o,b≠S->b≠z->b≠D->b≠i1->b≠i2->h₁.get? b=a' o->h'.get? b=a' o)->h'.get? S=a' {cls:= .type "list",data:= .seq ι c}->ι.toList=as.map .ref->as.length=xs.size->ZGot h' j xs ys as->R (.ok (.ret res)) {s with heap:=h',toks:=tk}):
  ∀(k i:Nat) (h:Ui) (tk c:Nat) (ι:G') (as:M'),xs.size - i=k->i<=xs.size->j<=h.objs.size->ZSt h z C D i1 i2 Z η j xs ys i as->
    (∀b o,b≠S->b≠z->b≠D->b≠i1->b≠i2->h₁.get? b=a' o->h.get? b=a' o)->h.get? S=a' {cls:= .type "list",data:= .seq ι c}->ι.toList=as.map .ref->
    codeAny (xY prog w) A (ad7 "list.extend.loop" {pos:=[.ref S,.ref z,res]}) R {s with heap:=h,toks:=tk}:=by
 have ap:=U.ap;intro k
 induction k with
 | zero=>
   intro i h tk c ι as hk hi ζ st kh hS ν;have a5:i=xs.size:=by omega
   subst a5;refine W8 F.entry_extend_loop ?_;rw[VI F.plain_extend_loop];show n' _ A.in1 (pyNext (.ref z) >>=_) _ _ _;refine eS ?_
   have fin:∀h' L,(∀b o,b≠z->b≠D->b≠i1->b≠i2->h.get? b=a' o->h'.get? b=a' o)->R (.ok (.ret res)) {s with heap:=h',toks:=L}:=λh' L ο=>
    χ h' L ι c as (λb o n1 γ υ α ε e=>ο b o γ υ α ε (kh b o n1 γ υ α ε e)) (ο S _ U.Sz U.STO U.Si1 U.Si2 hS) ν st.len (st.got.keep λb o hb e=>ο b o (UK (gm U.z hb)) (UK (gm U.TO hb)) (UK (gm U.i1 hb)) (UK (gm U.i2 hb)) e)
   rcases st.zp with ⟨δ,hz⟩ | ⟨T,G,hz,hT⟩
   ·have W:=Y9 (prog:=prog) (w:=w) (A:=A.in1) Y z C D i1 i2 Z η ap xs ys;have em:min xs.size ys.size=xs.size:=by omega
    rw[em] at W;refine W.done {s with heap:=h,toks:=tk} _ _ ⟨hz,st.hI,st.hO,st.h1,st.h2,st.hl1,st.hl2⟩ λh' L ο=>?_;exact sA (fin h' L λb o γ υ α ε e=>ο b o (by simp[γ,υ,α,ε]) e)
   ·obtain⟨x,y,_,_,oT,eT,_⟩:=st.got.pairs 0 T hT;refine LC (s:={s with heap:=h,toks:=tk}) Y ap hz eT st.hI st.h1 st.hl1 @E λh' ο=>?_;exact sA (fin h' tk λb o γ υ α ε e=>ο b o γ α e)
 | succ k ih=>
   intro i h tk c ι as hk hi ζ st kh hS ν;have π:i < xs.size:=by omega
   have ω:xs[i]? =a' xs[i]:=VU π;have φ:ys[i]? =a' (ys[i]' @A):=VU @A;generalize xs[i]=x at ω;generalize ys[i]'_=y at φ;refine W8 F.entry_extend_loop ?_;rw[VI F.plain_extend_loop];show n' _ A.in1 (pyNext (.ref z) >>=_) _ _ _;refine eS ?_
   have go:∀(a:eH) (h':Ui) (L:Nat),h.objs.size<=a->h'.IsTuple a #[x,y]->(∀b o,b≠z->b≠D->b≠i1->b≠i2->h.get? b=a' o->h'.get? b=a' o)->j<=h'.objs.size->
     (∃T G,Busy h' z C D T G/\(as++[a])[0]? =a' T)->IsPair h' C (.ref i1) (.ref i2)->(∃a b,IsPair h' D a b)->h'.IsListIter i1 Z (i + 1)->h'.IsListIter i2 η (i + 1)->h'.IsList Z xs->h'.IsList η ys->
     n' (xY prog w) A.in1 (WE (.ref S) (λq=>q.push (.ref a)) >>=λ_=>again (ad7 "list.extend.loop" {pos:=[.ref S,.ref z,res]}))
      (λfin s'=>match fin with | .done f=>R (.ok f) s' | .again ξ=>ξ.quiet=true/\codeAny (xY prog w) A ξ R s') (λe s'=>R (.error e) s') {s with heap:=h',toks:=L}:=by
    intro a h' L ha ht ο ρ a3 hI hO h1 h2 hl1 hl2;have τ:=ο S _ U.Sz U.STO U.Si1 U.Si2 hS;have aS:a≠S:=UK (gm (lP hS) ha);have hsz:ι.size=i:=by have:=T4 TX ν;rw[bx,st.len] at this;simpa using this
    have oth:∀b o,b≠S->h'.get? b=a' o->(h'.update S (Ut λq=>q.push (.ref a))).get? b=a' o:=λb o hb e=>(Ue _ _ (Ts hb)).trans e;have β:=UX (Ut (λq=>q.push (T7 a))) τ rfl;refine eS (WT (s:={s with heap:=h',toks:=L}) τ rfl (sA ⟨Xl F.plain_extend_loop _,?_⟩) (by rw[hsz];omega) (by rw[Array.size_push,hsz];omega));refine ih (i + 1) (h'.update S _) L _ (ι.push (.ref a)) (as++[a]) @A π ?_ ⟨.inr ?_,?_,?_,?_,?_,?_,?_,?_,?_⟩ ?_ β ?_
    ·have es:(h'.update S (Ut λq=>q.push (.ref a))).objs.size=h'.objs.size:=(Vk ..).1;rw[es];exact ρ
    ·obtain⟨T,G,e,q⟩:=a3;exact⟨T,G,oth _ _ (Ts U.Sz) e,q⟩
    ·exact oth _ _ (Ts U.STI) hI
    ·obtain⟨p,q,e⟩:=hO;exact⟨p,q,oth _ _ (Ts U.STO) e⟩
    ·exact h1.at λo e=>oth _ o (Ts U.Si1) e
    ·exact h2.at λo e=>oth _ o (Ts U.Si2) e
    ·exact let ⟨o,e,c⟩:=hl1;⟨o,oth _ o (Ts U.Sl1) e,c⟩
    ·exact let ⟨o,e,c⟩:=hl2;⟨o,oth _ o (Ts U.Sl2) e,c⟩
    ·rw[eP,st.len];rfl
    ·have g:=st.got.keep (h':=h'.update S (Ut λq=>q.push (.ref a))) λb o hb e=>oth b o (UK (gm U.S hb)) (ο b o (UK (gm U.z hb)) (UK (gm U.TO hb)) (UK (gm U.i1 hb)) (UK (gm U.i2 hb)) e);refine g.more (λb hb=>gm (st.got.above b hb).2 ha) (Vg ζ ha) (by rw[st.len];exact ω) (by rw[st.len];exact φ) (let ⟨o,e,c⟩:=ht;⟨o,oth _ o aS e,c⟩)
    ·exactλb o n1 γ υ α ε e=>oth b o n1 (ο b o γ υ α ε (kh b o n1 γ υ α ε e))
    ·rw[Array.toList_push,ν,ef];rfl
   rcases st.zp with ⟨δ,hz⟩ | ⟨T,G,hz,hT⟩
   ·have W:=Y9 (prog:=prog) (w:=w) (A:=A.in1) Y z C D i1 i2 Z η ap xs ys;have em:min xs.size ys.size=xs.size:=by omega
    rw[em] at W;refine W.item i {s with heap:=h,toks:=tk} _ _ π ⟨hz,st.hI,st.hO,st.h1,st.h2,st.hl1,st.hl2⟩ λT a7 h' L hp hT ht a0 ο=>?_;obtain⟨θ,y',ex,ey,rfl⟩:=hp;rw[ω] at ex;cases ex;rw[φ] at ey;cases ey;obtain⟨m1,m2,m3,m4,m5,m6,m7,_⟩:=a0;have a6:as=[]:=Yr (st.len.trans δ);refine go T h' L hT ht (λb o γ υ α ε e=>ο b o (by simp[γ,υ,α,ε]) e) ?_ ⟨T,false,m1,by rw[a6];rfl⟩ m2 m3 m4 m5 m6 m7;obtain⟨o,e,_⟩:=ht;exact Vh (Uu (Vg ζ hT) (lP e))
   ·obtain⟨_,_,_,_,oT,eT,_⟩:=st.got.pairs 0 T hT;refine IA (s:={s with heap:=h,toks:=tk}) ap hz eT st.hI st.h1 st.h2 st.hl1 st.hl2 ω φ λh' ψ b1 b2 ο ht=>?_;refine go h.objs.size h' tk (sb _) ⟨_,ht,rfl,_,rfl⟩ (λb o γ υ α ε e=>ο b o γ α ε e) ?_ ⟨T,true,ψ,?_⟩ (ο C _ ap.TIz ap.TIi1 ap.TIi2 st.hI) (let ⟨p,q,e⟩:=st.hO;⟨p,q,ο D _ ap.TOz ap.TOi1 ap.TOi2 e⟩) b1 b2 (let ⟨o,e,c⟩:=st.hl1;⟨o,ο Z o ap.l1z ap.l1i1 ap.l1i2 e,c⟩) (let ⟨o,e,c⟩:=st.hl2;⟨o,ο η o ap.l2z ap.l2i1 ap.l2i2 e,c⟩)
    ·have a4:h'.get? h.objs.size=_:=ht;exact Vh (Uu ζ (lP a4))
    ·have:0 < as.length:=(b'.mp hT).1;rw[kv this];exact hT
theorem S6:typeLookup (.type "zip") "__len__"=pure none:=by rw[WW,VQ];kernel_rfl
theorem Rk:typeLookup (.type "zip") "__length_hint__"=pure none:=by rw[WW,VQ];kernel_rfl
structure New (h:Ui) (z TI TO i1 i2 l1 l2:eH) (xs ys:G'):Prop where
 ap:ZipApart z TI TO i1 i2 l1 l2
 hz:IsZip h z TI TO .none
 hI:IsPair h TI (.ref i1) (.ref i2)
 hO:∃a b,IsPair h TO a b
 h1:h.IsListIter i1 l1 0
 h2:h.IsListIter i2 l2 0
 hl1:h.IsList l1 xs
 hl2:h.IsList l2 ys
theorem New.keep {h:Ui} {z L:eH} {xs:G'} (n:New h z C D i1 i2 L Z xs ys) (k:∀b o,h.get? b=a' o->(b=z∨b=C∨b=D∨b=i1∨b=i2∨b=L∨b=Z)->h'.get? b=a' o):New h' z C D i1 i2 L Z xs ys where
 ap:=n.ap
 hz:=k _ _ n.hz @E
 hI:=k _ _ n.hI @E
 hO:=let ⟨a,b,e⟩:=n.hO;⟨a,b,k _ _ e @E⟩
 h1:=n.h1.at λo e=>k _ o e @E
 h2:=n.h2.at λo e=>k _ o e @E
 hl1:=let ⟨o,e,c⟩:=n.hl1;⟨o,k _ o e @E,c⟩
 hl2:=let ⟨o,e,c⟩:=n.hl2;⟨o,k _ o e @E,c⟩
theorem RN {R:R'} {z S:eH} {xs:G'} (Y:A.handled=f') (U:Und z C D i1 i2 Z d S i) (N:New s.heap z C D i1 i2 Z d xs ys) (hn:xs.size<=hR) (γ:ys.size=xs.size) (δ:i<=s.heap.objs.size) (res:sC) (θ:s.heap.get? S=a' {cls:= .type "list",data:= .seq #[] q})
  (χ:∀h' tk L c as,(∀b o,b≠S->b≠z->b≠D->b≠i1->b≠i2->s.heap.get? b=a' o->h'.get? b=a' o)->h'.get? S=a' {cls:= .type "list",data:= .seq L c}->L.toList=as.map .ref->as.length=xs.size->ZGot h' i xs ys as->R (.ok (.ret res)) {s with heap:=h',toks:=tk}):
  n' (xY prog w) A.in1 (TN (.ref S) (.ref z) res)
   (λfin s'=>match fin with | .done f=>R (.ok f) s' | .again ο=>ο.quiet=true/\codeAny (xY prog w) A ο R s') (λe s'=>R (.error e) s') s:=by
 have ty:s.TypeIs (.ref z) "zip":=⟨_,N.hz,rfl⟩;have h1:VL (.ref S) (.ref z)=false:=by simp[VL,U.Sz]
 unfold TN;refine eS (Yt ty ?_);rw[qb (by rw[h1];decide)];refine eS (YF N.hz ?_);refine eS (VN ?_);unfold XU;refine eS (WU ty S6 ?_);show n' _ A.in1 (specialOf (T7 z) (Vy "__length_hint__") >>=_) _ _ _;refine eS (WU ty Rk ?_);refine sA ?_;dsimp only;rw[wb @C];refine eS (ac2 (eS ?_));show n' _ _ (updateSeq S (λx=>x.push .none) >>=λ_=>updateSeq S λx=>x.pop) _ _ s;have ε:=UX (Ut (λx=>x.push Uy)) θ rfl;have ξ:∀b o,b≠S->s.heap.get? b=a' o->(s.heap.update S (Ut (λx=>x.push Uy))).get? b=a' o:=λb o hb e=>(Ue _ _ (Ts hb)).trans e;have η:(s.heap.update S (Ut (λx=>x.push Uy))).objs.size=s.heap.objs.size:=(Vk ..).1;refine eS (WT θ rfl ?_ (by show 0<=hR;exact UY _) (by show 1<=hR + 1;omega));generalize τ:s.heap.update S (Ut (λx=>x.push Uy))=g1 at ε ξ η;refine WT (s:={s with heap:=g1}) ε rfl ?_ (by show 1<=hR;rw[nr];decide) (by show 0<=hR + 1;omega);have ι:=UX (Ut (λx=>x.pop)) ε rfl;have ν:∀b o,b≠S->g1.get? b=a' o->(g1.update S (Ut (λx=>x.pop))).get? b=a' o:=λb o hb e=>(Ue _ _ (Ts hb)).trans e;have ζ:(g1.update S (Ut (λx=>x.pop))).objs.size=g1.objs.size:=(Vk ..).1;generalize ρ:g1.update S (Ut (λx=>x.pop))=g2 at ι ν ζ;refine sA ⟨Xl F.plain_extend_loop _,?_⟩
 have N2:New g2 z C D i1 i2 Z d xs ys:=N.keep λb o e hb=>by
  have β:b≠S:=by
   rcases hb with rfl | rfl | rfl | rfl | rfl | rfl | rfl
   ·exact Ts U.Sz
   ·exact Ts U.STI
   ·exact Ts U.STO
   ·exact Ts U.Si1
   ·exact Ts U.Si2
   ·exact Ts U.Sl1
   ·exact Ts U.Sl2
  exact ν b o β (ξ b o β e)
 exact loop (s:=s) (h₁:=s.heap) Y U hn γ res χ xs.size 0 g2 s.toks _ #[] [] (Nat.sub_zero _) (UY _) (by rw[ζ,η];exact δ) ⟨.inl ⟨rfl,N2.hz⟩,N2.hI,N2.hO,N2.h1,N2.h2,N2.hl1,N2.hl2,rfl,⟨YB,λ_ h=>hD h @E,λj a π=>by simp at π⟩⟩ (λb o n1 _ _ _ _ e=>ν b o n1 (ξ b o n1 e)) ι rfl
theorem init {R:R'} {z S:eH} {xs:G'} (Y:A.handled=f') (U:Und z C D i1 i2 a d S i) (N:New s.heap z C D i1 i2 a d xs ys) (hn:xs.size<=hR) (Z:ys.size=xs.size) (γ:i<=s.heap.objs.size) (ν:s.heap.get? S=a' {cls:= .type "list",data:= .seq #[]})
  (χ:∀h' tk G c as,(∀b o,b≠S->b≠z->b≠D->b≠i1->b≠i2->s.heap.get? b=a' o->h'.get? b=a' o)->h'.get? S=a' {cls:= .type "list",data:= .seq G c}->G.toList=as.map .ref->as.length=xs.size->ZGot h' i xs ys as->R (.ok (.ret .none)) {s with heap:=h',toks:=tk}):
  n' (xY prog w) A.in1 (Builtin.«list.__init__» ⟨[.ref S,.ref z],[]⟩)
   (λfin s'=>match fin with | .done f=>R (.ok f) s' | .again ξ=>ξ.quiet=true/\codeAny (xY prog w) A ξ R s') (λe s'=>R (.error e) s') s:=by
 show n' _ _ (do let L <-V' (.ref S);WE (.ref S) (λ_=>#[]);letGo L.toList.reverse;TN (.ref S) (.ref z) .none) _ _ s;refine eS ?_;unfold V';refine eS (W2 ν rfl (sA ?_));show n' _ _ (updateSeq S (λ_=>#[]) >>=λ_=>letGo (#[]:G').toList.reverse >>=λ_=>TN (.ref S) (.ref z) .none) _ _ s;refine eS (WT ν rfl ?_);have β:=UX (Ut (λ_=>(#[]:G'))) ν rfl;have oth:∀b o,b≠S->s.heap.get? b=a' o->(s.heap.update S (Ut (λ_=>(#[]:G')))).get? b=a' o:=λb o hb e=>(Ue _ _ (Ts hb)).trans e;have es:(s.heap.update S (Ut (λ_=>(#[]:G')))).objs.size=s.heap.objs.size:=(Vk ..).1;refine eS (wpAny_letGo ?_);refine RN (s:={s with heap:=_}) Y U (N.keep λb o e hb=>oth b o ?_ e) hn Z (by show i<=(s.heap.update S _).objs.size;rw[es];exact γ) .none β λh' tk G c as k a1 a2 ι α=>χ h' tk G c as (λb o n1 θ υ η ζ e=>k b o n1 θ υ η ζ (oth b o n1 e)) a1 a2 ι α;rcases hb with rfl | rfl | rfl | rfl | rfl | rfl | rfl
 ·exact Ts U.Sz
 ·exact Ts U.STI
 ·exact Ts U.STO
 ·exact Ts U.Si1
 ·exact Ts U.Si2
 ·exact Ts U.Sl1
 ·exact Ts U.Sl2
theorem call_list {Q:Cr} {z:eH} {xs:G'} (Y:A.handled=f') (N:New s.heap z C D i1 i2 Z η xs ys) (hn:xs.size<=hR) (ι:ys.size=xs.size)
  (τ:∀h' tk G c as,(∀b o,b≠z->b≠D->b≠i1->b≠i2->s.heap.get? b=a' o->h'.get? b=a' o)->h'.get? s.heap.objs.size=a' {cls:= .type "list",data:= .seq G c}->G.toList=as.map .ref->as.length=xs.size->ZGot h' (s.heap.objs.size + 1) xs ys as->Q (.ref s.heap.objs.size) {s with heap:=h',toks:=tk}):
  n' (xY prog w) A (call (.type "list") [.ref z]) Q E s:=by
 have ξ:=lP N.hz;have ζ:=lP N.hI;obtain⟨ψ,pb,φ⟩:=N.hO;have γ:=lP φ;have β:i1 < s.heap.objs.size:=let ⟨o,e,_⟩:=N.h1;lP e
 have θ:i2 < s.heap.objs.size:=let ⟨o,e,_⟩:=N.h2;lP e
 have ε:Z < s.heap.objs.size:=let ⟨o,e,_⟩:=N.hl1;lP e
 have δ:η < s.heap.objs.size:=let ⟨o,e,_⟩:=N.hl2;lP e
 refine Ze (Q₁:=λobj L=>obj= .ref s.heap.objs.size/\L={s with heap:=s.heap.push {cls:= .type "list",data:= .seq #[]}}) F.called_list (F.typeCall_list_1 _) F.entry_list_init (code_list_new _ ⟨rfl,rfl⟩) λobj L h₁=>?_;obtain⟨rfl,rfl⟩:=h₁;have ν:(s.heap.push {cls:= .type "list",data:= .seq #[]}).get? s.heap.objs.size=a' {cls:= .type "list",data:= .seq #[]}:=mu _ rfl;have up:∀{b:eH},b < s.heap.objs.size->b < s.heap.objs.size + 1:=λh=>X4 h;have ne:∀{b:eH},b < s.heap.objs.size->s.heap.objs.size≠b:=λh=>UK h;have U:Und z C D i1 i2 Z η s.heap.objs.size (s.heap.objs.size + 1):=⟨N.ap,ne ξ,ne ζ,ne γ,ne β,ne θ,ne ε,ne δ,up ξ,up γ,up β,up θ,UU _⟩;have sz:(s.heap.push {cls:= .type "list",data:= .seq #[]}).objs.size=s.heap.objs.size + 1:=by simp[Heap.push]
 refine⟨⟨_,ν,rfl⟩,F.args_list_init_2 _ _,init (A:=A.in1) (s:={s with heap:=_}) Y U (N.keep λb o e _=>fy _ e) hn ι (YR sz.symm) ν λh' tk G c as k a1 a2 χ α=>?_⟩;exact⟨rfl,τ h' tk G c as (λb o ρ υ π ο e=>k b o (TB (lP e)) ρ υ π ο (fy _ e)) a1 a2 χ α⟩
end
end ZP
open PySem PySem.Spec PyProof.Rows
theorem Am:∀as:M',Vals (as.map V.ref) (as.map T7)
 | []=> .nil
 | _::as=> .cons rfl (Am as)
theorem MA {X:Cx} {pins:D'} {σ:St} {β s:px} {ξ:Hp} (I0:Inv X pins σ ξ β):∀(as:M') (xs ys:eE V) (H:Hp),Inv X pins σ H s->as.Pairwise (· < ·)->(∀a∈as,β.heap.objs.size<=a/\H a=f')->as.length=xs.length->as.length=ys.length->
  (∀(j:Nat) (a:eH) (x y:V),as[j]? =a' a->xs[j]? =a' x->ys[j]? =a' y->∃u v,RelV x u/\RelV y v/\s.heap.IsTuple a #[u,v])->
  ∃H2,Inv X pins σ H2 s/\Same H H2/\(∀b,b∉as->H2 b=H b)/\∀(j:Nat) (a:eH) (x y:V),as[j]? =a' a->xs[j]? =a' x->ys[j]? =a' y->H2 a=a' (.tup [x,y])
 | [],_,_,H,I,_,_,_,_,_=>⟨H,I,Same.refl _,λ_ _=>rfl,λj a x y h=>by simp at h⟩
 | a::as,[],_,H,I,_,_,h,_,_=>by simp at h
 | a::as,_,[],H,I,_,_,_,h,_=>by simp at h
 | a::as,x::xs,y::ys,H,I,pw,fr,l1,l2,ht=>by
   obtain⟨u,v,δ,γ,o,e,c⟩:=ht 0 a x y rfl rfl rfl;have Z:=fr a (u' ..);have G:=List.pairwise_cons.mp pw;have na:a∉as:=λh=>Vc _ (G.1 a h);have ν:Inv X pins σ (upd H a (.tup [x,y])) s:=I.track (I0.fpN (VP Z.1) Z.2) ⟨Ap,[u,v],.cons δ (.cons γ .nil),o,e,c⟩;obtain⟨H2,ι,α,o2,g2⟩:=MA I0 as xs ys (upd H a (.tup [x,y])) ν G.2 (λb hb=>⟨(fr b (p' _ hb)).1,by rw[aF (λz:b=a=>na (by rw[<-z];exact hb))];exact(fr b (p' _ hb)).2⟩) (by simpa using l1) (by simpa using l2) λj b θ L h1 h2 Y=>ht (j + 1) b θ L (by simpa using h1) (by simpa using h2) (by simpa using Y);refine⟨H2,ι,λb ob h=>α b ob (by rw[aF (ao h Z.2)];exact h),λb hb=>?_,λj b θ L h1 h2 Y=>?_⟩
   ·rw[o2 b λz=>hb (p' _ z),aF (λz:b=a=>hb (by rw[z];exact u' ..))]
   ·cases j with
    | zero=>
      have η:a=b:=by simpa using h1
      have ζ:x=θ:=by simpa using h2
      have ε:y=L:=by simpa using Y
      subst η ζ ε;exact α a _ au
    | succ j=>exact g2 j b θ L (by simpa using h1) (by simpa using h2) (by simpa using Y)
def Pn (K:dt) (Q:VK) (x y:V) (H:Hp):Prop:=∃a b xs ys,x= .ref a/\y= .ref b/\SqL K H a xs/\SqL K H b ys/\xs.length=ys.length/\
 ∀(D:eH) (ps:M') (G:Hp),H D=f'->Same H G->G D=a' (.lst (ps.map V.ref))->ps.length=xs.length->(∀(j:Nat) (p:eH) (x y:V),ps[j]? =a' p->xs[j]? =a' x->ys[j]? =a' y->G p=a' (.tup [x,y]))->Q (.ref D) G
noncomputable def tZip (K:dt) (Y G:TE):TE:=fun σ H Q=>Y σ H λx H1=>G σ H1 λy H2=>Pn K Q x y H2
theorem SK {K:dt} (h:θ σ H λx H1=>nb σ H1 λy H2=>Pn K Q x y H2):tZip K θ nb σ H Q:=h
section
variable {X:Cx}
theorem RO {K:dt} {L:UF} (γ:X.K=K) (g2:Gl X "zip") (n2:X.mg "zip"=f') (π:PE X kw θ) (ο:PE X L nb) (h2:tu [kw,L] X.env=(false,eval kw X.env)::tu [L] X.env) (ν:tu [L] X.env=[(false,eval L X.env)])
  (I:Inv X pins σ H s) (h:tZip K θ nb σ H Q) (τ:Cr)
  (hQ:∀(G:px) (h':Ui) (H1:Hp) (a b:eH) (xs ys:eE V) (its ρ:E'),Inv X pins σ H1 G->Vals xs its->Vals ys ρ->its.length<=hR->xs.length=ys.length->h'.objs.size=G.heap.objs.size + 5->(∀c o,G.heap.get? c=a' o->h'.get? c=a' o)->
   ZP.New h' (G.heap.objs.size + 4) (G.heap.objs.size + 2) (G.heap.objs.size + 3) G.heap.objs.size (G.heap.objs.size + 1) a b its.toArray ρ.toArray->
   (∀(D:eH) (ps:M') (α:Hp),H1 D=f'->Same H1 α->α D=a' (.lst (ps.map V.ref))->ps.length=xs.length->(∀(j:Nat) (p:eH) (x y:V),ps[j]? =a' p->xs[j]? =a' x->ys[j]? =a' y->α p=a' (.tup [x,y]))->Q (.ref D) α)->
   τ (.ref (G.heap.objs.size + 4)) {G with heap:=h'}):
  n' (xY X.prog X.w) X.A (eval (.Call (.Name "zip" lA) [kw,L] [] lB) X.env) τ X.xe s:=by
 subst γ;refine YL (lN I g2 n2 Yo (Tt (thn (aa π (aa ο ae ν) h2 lB pins s σ H (λvs H1=>match vs with | [x,y]=>Pn X.K Q x y H1 | _=>False) I h) λus G ⟨vs,H1,I1,Y,β⟩=>?_) h2 (by rw[ν];rfl)))
 match vs,Y,β with
 | [x,y],Y,β=>
 obtain⟨a,b,xs,ys,ex,ey,sa,ξ,hl,q⟩:=β;subst ex ey;cases Y with
 | cons rx r2=>
 cases r2 with
 | cons ry ε=>
 cases ε;cases rx;cases ry;obtain⟨its,ι,δ,ζ⟩:=I1.list sa;obtain⟨ρ,rb,pb,a0⟩:=I1.list ξ;have la:a < G.heap.objs.size:=let ⟨o,e,_⟩:=δ.isList;hE e
 have lb:b < G.heap.objs.size:=let ⟨o,e,_⟩:=pb.isList;hE e
 refine call_zip_2 δ.isList pb.isList λh' ω ψ χ φ υ hsz k=>?_;exact hQ G h' H1 a b xs ys its ρ I1 ι rb (by rw[<-ι.length];exact ζ) hl hsz k ⟨zipApart_new la lb,ω,ψ,⟨_,_,χ⟩,φ,υ,let ⟨o,e,c⟩:=δ.isList;⟨o,k _ o e,c⟩,let ⟨o,e,c⟩:=pb.isList;⟨o,k _ o e,c⟩⟩ q
theorem Fd {K:dt} {Z:UF} (γ:X.K=K) (hc:X.calm=true) (g1:Gl X "list") (g2:Gl X "zip") (n1:X.mg "list"=f') (n2:X.mg "zip"=f') (π:PE X kw nb) (ο:PE X Z nf)
  (h1:tu [Z' (.Name "zip" lA) [kw,Z] [] lB] X.env=[(false,eval (.Call (.Name "zip" lA) [kw,Z] [] lB) X.env)]:=by rfl) (h2:tu [kw,Z] X.env=(false,eval kw X.env)::tu [Z] X.env:=by rfl) (h3:tu [Z] X.env=[(false,eval Z X.env)]:=by rfl):
  PE X (.Call (.Name "list" lO) [.Call (.Name "zip" lA) [kw,Z] [] lB] [] lx) (tZip K nb nf):=by
 intro pins s σ H Q I h;refine YL (lN I g1 n1 wq (Tt (Q:=EP X pins σ Q) ?_ h1 rfl));rw[h1];show n' _ _ (spliced ((false,eval (.Call (.Name "zip" lA) [kw,Z] [] lB) X.env)::backTo lx [])) _ _ s;refine WI (RO γ g2 n2 π ο h2 h3 I h _ λL h' H1 a b xs ys its ψ I1 υ rb ζ hl hsz k N q=>X1 ?_);have a0:ψ.toArray.size=its.toArray.size:=by have:=υ.length;have:=rb.length;simp;omega
 refine ZP.call_list (s:={L with heap:=h'}) (I1.ok.hd hc) N (by simpa using ζ) a0 λh2 tk a4 c as kk α ν ι G=>?_
 have φ:∀b o,L.heap.get? b=a' o->h2.get? b=a' o:=λb o e=>by
  have lt:=hE e;exact kk b o (TB (gm lt (VX _ _))) (TB (gm lt (VX _ _))) (TB lt) (TB (gm lt (VX _ _))) (k b o e)
 have I2:Inv X pins σ H1 {L with heap:=h2,toks:=tk}:=I1.kept (t':=tk) φ;have θ:as.length=xs.length:=by rw[ι,υ.length];simp
 have Y:∀p∈as,L.heap.objs.size<=p/\H1 p=none:=λp η=>by
  have δ:L.heap.objs.size<=p:=Vg (by show L.heap.objs.size<=h'.objs.size + 1;rw[hsz];exact Vg (VX _ _) (XQ _)) (G.above p η).1;exact⟨δ,I1.hok.fresh δ⟩
 obtain⟨H3,I3,s3,o3,g3⟩:=MA I1 as xs ys H1 I2 G.rise Y θ (θ.trans hl) λj p x y η hx ω=>by
  obtain⟨u,v,τ,hv,ht⟩:=G.pairs j p η;rw[Xs] at τ hv;obtain⟨ξ,eu,ru⟩:=υ.get hx;obtain⟨v',ev,rv⟩:=rb.get ω;rw[eu] at τ;cases τ;rw[ev] at hv;cases hv;exact⟨u,v,ru,rv,ht⟩
 have ρ:L.heap.objs.size<=h'.objs.size:=by rw[hsz];exact VX _ _
 have fD:H1 h'.objs.size=none:=I1.hok.fresh ρ;have nD:h'.objs.size∉as:=λz=>Nat.not_succ_le_self _ (G.above _ z).1;have β:H3 h'.objs.size=none:=by rw[o3 _ nD];exact fD
 have a3:L.heap.get? h'.objs.size=none:=VP ρ;have I4:Inv X pins σ (upd H3 h'.objs.size (.lst (as.map V.ref))) {L with heap:=h2,toks:=tk}:=I3.track (I1.fpN a3 β) ⟨by rw[bx,θ,υ.length];exact ζ,as.map .ref,c,Am as,by rw[<-ν];exact α⟩;refine⟨.ref h'.objs.size,_,I4,rfl,q h'.objs.size as _ fD (λb ob e=>?_) au θ λj p x y η hx ω=>?_⟩
 ·rw[aF (ao (s3 b ob e) β)];exact s3 b ob e
 ·have:=g3 j p x y η hx ω;rw[aF (ao this β)];exact this
end
structure FunD (K:dt) (x qual:T3) (st:Wr) (f:eH) (fd:hN) (dv:sC):Prop where
 ex:∃(oc:sC) (od:P') (T:eH) (kV doc pm:sC) (an:P') (cdv ct:sC) (osl:K') (tc:sC) (td:P') (n:Nat) (tsl:K'),
  fd=UN x qual (iy st) (fz st) (ag st) (.ref T) kV doc pm an cdv ct/\K.lookup f=a' ⟨oc,od,.func fd,osl⟩/\VH K cdv qual=true/\K.lookup T=a' ⟨tc,td,.seq #[dv] n,tsl⟩
 kp:UO K (.ref f)=true
section
variable {P:Tv} {w:U1} {K:dt} {mg:F'} {base:Ui}
theorem FunD.okX {x L:T3} {st:Wr} {f:eH} {ps:B'} {k:Nat} (F:FunD K x L st f fd dv) (S:av N ps (ag st)) (len:∀vs H Q E,sp vs H Q E->vs.length=ps.length)
  (π:∀(Y:sC) (A:TQ) (outer:eE Env) (s:px) (H:Hp) (vs:eE V) (Q:VK) (E:XK),Room k (A.deeper (envOfC L (ag st) s.heap.objs.size f Y))->sp vs H Q E->
   ∃t,PSs ((cxOf (CX1 P w) P w K mg base N L (ag st) f Y A outer s H E).thr λ_=>E) (fz st) t/\t {nx:=λ_ H'=>Q .non H',rt:=Q} (start N vs) H):FnOk P w K mg base (CX1 P w) (k + 1) f fd ps sp:=by
 obtain⟨δ,od,T,kV,υ,G,an,Y,ct,β,tc,td,n,α,rfl,lk,Z,_⟩:=F.ex;refine O7 lk Z S len λA outer s H vs Q E γ η=>?_;obtain⟨t,h,q⟩:=π Y A outer s H vs Q E γ η;exact⟨t,h.thr Ee,q⟩
theorem FunD.binds {x L:T3} {st:Wr} {f:eH} {ps:B'} {ds:E'} (F:FunD K x L st f fd dv)
  (h:∀(T:eH) (kV υ G:sC) (an:P') (Y ct:sC) (us:E'),(us++ds).length=ps.length->∃k:T8 G'->Sem T1,bindArgs (UN x L (iy st) (fz st) (ag st) (.ref T) kV υ G an Y ct) ⟨us,[]⟩=(seqItems? (.ref T) >>=k)/\k (a' #[dv])=pure (ps.zip (us++ds))):qH K fd ps ds:=by
 obtain⟨η,od,T,kV,υ,G,an,Y,ct,β,tc,td,n,α,rfl,lk,δ,Z⟩:=F.ex;intro s us γ hl;obtain⟨k,ζ,ε⟩:=h T kV υ G an Y ct us hl;exact BindsTo.of_defaults (T:=T) rfl (γ T _ Z) rfl ζ ε
theorem O5 {x L:T3} {st:Wr} {f T:eH} {β α:K'} {n:Nat} (l:K.lookup f=a' ⟨u,ut,.func (UN x L (iy st) (fz st) (ag st) (.ref T) ii ik im an io ct),β⟩)
  (Z:K.lookup T=a' ⟨ic,vr,.seq #[dv] n,α⟩) (c:VH K io L=true) (k:UO K (.ref f)=true):FunD K x L st f (UN x L (iy st) (fz st) (ag st) (.ref T) ii ik im an io ct) dv:=⟨⟨u,ut,T,ii,ik,im,an,io,ct,β,ic,vr,n,α,rfl,l,c,Z⟩,k⟩
end
section
variable {σ:St} {H:Hp} {Q:VK} {te:TE}
def Kf (C:eH) (m:T3) (sp:Sp) (dvs:eE V) (W:XW) (tr:TA) (σ:St) (Q:VK) (x:V) (H:Hp):Prop:=∃a dx fs,x= .ref a/\H a=a' (.ins C dx fs)/\fs.lookup m=f'/\tr σ H λvs H2=>sp (x::(vs++dvs)) H2 Q (W σ)
theorem gi {m:T3} (h:te σ H (Kf C m sp dvs W qB σ Q)):MC C m sp dvs W te qB σ H Q:=h
theorem c8 {m:T3} (e:H p=a' (.ins C dx wE)) (l:wE.lookup m=f') (h:qB σ H λvs H2=>sp (.ref p::(vs++dvs)) H2 Q (W σ)):Kf C m sp dvs W qB σ Q (.ref p) H:=⟨p,dx,wE,rfl,e,l,h⟩
end
noncomputable def Itzp (K:dt) (a b:eH):It:=
 ⟨λi H=>∃xs ys x y,SqL K H a xs/\SqL K H b ys/\xs[i]? =a' x/\ys[i]? =a' y,
  λi H x H'=>∃p u v,H p=f'/\x= .ref p/\H'=upd H p (.tup [u,v])/\(∀xs,SqL K H a xs->xs[i]? =a' u)/\∀ys,SqL K H b ys->ys[i]? =a' v,
  λi H=>∃xs ys,SqL K H a xs/\SqL K H b ys/\xs.length=ys.length/\xs.length=i⟩
theorem KJ {P:Tv} {w:U1} {K:dt} {k:Nat} (a b z TI TO i1 i2:eH) (D:ZipApart z TI TO i1 i2 a b):
  Turn P w K (.Tuple δ k pos) (Itzp K a b) [z,TI,TO,i1,i2] z (λi h=>IsZip h z TI TO .none/\IsPair h TI (.ref i1) (.ref i2)/\(∃u v,IsPair h TO u v)/\h.IsListIter i1 a i/\h.IsListIter i2 b i) where
 mem:=by simp
 obj:=λi h st c hb=>by
  obtain⟨hz,Y,⟨u,v,L⟩,⟨o1,θ,_,a8⟩,⟨o2,Z,_,a7⟩⟩:=st;simp only[Tn,W6,Ys] at hb;rcases hb with e | e | e | e | e
  ·rw[e];exact⟨_,hz,λv z=>by cases z⟩
  ·rw[e];exact⟨_,Y,λv z=>by cases z⟩
  ·rw[e];exact⟨_,L,λv z=>by cases z⟩
  ·rw[e];exact⟨o1,θ,λv z=>by rw[a8] at z;cases z⟩
  ·rw[e];exact⟨o2,Z,λv z=>by rw[a7] at z;cases z⟩
 keep:=λi h h' st k=>by
  obtain⟨hz,Y,⟨u,v,L⟩,h1,h2⟩:=st;exact⟨k z @E _ hz,k TI @E _ Y,⟨u,v,k TO @E _ L⟩,h1.at λo e=>k i1 @E o e,h2.at λo e=>k i2 @E o e⟩
 item:=by
  intro X hP hw γ hc i pins s σ H E I hf st hg;subst hP hw γ;obtain⟨xs,ys,x,y,υ,π,hx,hy⟩:=hg;obtain⟨its,ξ,ω,a4⟩:=I.list υ;obtain⟨ρ,ν,pb,a3⟩:=I.list π;obtain⟨hz,Y,L,h1,h2⟩:=st;have W:=Y9 (prog:=X.prog) (w:=X.w) (A:=X.A) (I.ok.hd hc) z TI TO i1 i2 a b D its.toArray ρ.toArray;have G:i < its.length:=by have:=ξ.length;have:=(b'.mp hx).1;omega
  have c2:i < ρ.length:=by have:=ν.length;have:=(b'.mp hy).1;omega
  have a0:∀c∈[z,TI,TO,i1,i2],c < s.heap.objs.size:=λc hb=>by
   obtain⟨u,v,L⟩:=L;obtain⟨o1,θ,_⟩:=h1;obtain⟨o2,Z,_⟩:=h2;simp only[Tn,W6,Ys] at hb;rcases hb with e | e | e | e | e
   ·rw[e];exact hE hz
   ·rw[e];exact hE Y
   ·rw[e];exact hE L
   ·rw[e];exact hE θ
   ·rw[e];exact hE Z
  refine W.item i s _ _ (by simp;omega) ⟨hz,Y,L,h1,h2,ω.isList,pb.isList⟩ λT c1 h' tk b6 hT ζ β hk=>⟨_,rfl,W.go δ k pos i T _ _ _ β λc0 η ι=>?_⟩;obtain⟨χ,φ,a6,a5,rfl⟩:=b6;have b3:=W.apart i T h' β
  have ru:RelV x χ:=by
   obtain⟨u,τ,r⟩:=ξ.get hx;have α:its[i]? =a' χ:=by simpa using a6
   rw[τ] at α;cases α;exact r
  have rv:RelV y φ:=by
   obtain⟨u,τ,r⟩:=ν.get hy;have ο:ρ[i]? =a' φ:=by simpa using a5
   rw[τ] at ο;cases ο;exact r
  have sub:∀c,c∉[z,TI,TO,i1,i2]->c∉[z,TO,i1,i2]:=λc h ε=>h (by
   simp only[Tn,W6,Ys] at ε ⊢;rcases ε with e | e | e | e<;>simp[e])
  have kk:∀c u,c∉[z,TI,TO,i1,i2]->s.heap.get? c=a' u->c0.get? c=a' u:=λc u hb q=>ι c u (sub c hb) (hk c u (sub c hb) q);have fr:H T=none:=I.hok.fresh hT;refine⟨.ref T,upd H T (.tup [x,y]),I.laidCh (t':=tk) kk hT ⟨Ap,[χ,φ],.cons ru (.cons rv .nil),?_⟩ hf,rfl,⟨T,x,y,fr,rfl,rfl,λzs ψ=>by rw[I.list_inj ψ υ];exact hx,λzs ψ=>by rw[I.list_inj ψ π];exact hy⟩,⟨η.1,η.2.1,η.2.2.1,η.2.2.2.1,η.2.2.2.2.1⟩,λc hb=>?_⟩
  ·obtain⟨o,ho,r⟩:=ζ;exact⟨o,ι T o b3 ho,r⟩
  ·rw[aF (λe=>?_)]
   ·exact(hf c hb).1
   ·have:=a0 c hb;rw[e] at this;exact hD (gm this hT) (Vc _)
 done:=by
  intro X hP hw γ hc i pins s σ H E I hf st hg;subst hP hw γ;obtain⟨xs,ys,υ,π,hl,hn⟩:=hg;obtain⟨its,ξ,ω,a4⟩:=I.list υ;obtain⟨ρ,ν,pb,a3⟩:=I.list π;obtain⟨hz,Y,L,h1,h2⟩:=st;have W:=Y9 (prog:=X.prog) (w:=X.w) (A:=X.A) (I.ok.hd hc) z TI TO i1 i2 a b D its.toArray ρ.toArray;have e:min its.toArray.size ρ.toArray.size=i:=by have:=ξ.length;have:=ν.length;simp;omega
  rw[e] at W
  have sub:∀c,c∉[z,TI,TO,i1,i2]->c∉[z,TO,i1,i2]:=λc h ε=>h (by
   simp only[Tn,W6,Ys] at ε ⊢;rcases ε with e | e | e | e<;>simp[e])
  exact W.done s _ _ ⟨hz,Y,L,h1,h2,ω.isList,pb.isList⟩ λh' tk hk=>⟨rfl,I.turnedCh (λc u hb q=>hk c u (sub c hb) q) hf⟩
 self:=λ_ _ _ _ _ st h=>YF st.1 h
def Pm (K:dt) (R:It->Hp->Prop) (x y:V) (H:Hp):Prop:=∃a b xs ys,x= .ref a/\y= .ref b/\SqL K H a xs/\SqL K H b ys/\xs.length=ys.length/\R (Itzp K a b) H
noncomputable def iZip (K:dt) (Y G:TE):TI:=fun σ H R=>Y σ H λx H1=>G σ H1 λy H2=>Pm K R x y H2
theorem Hn {K:dt} {R:It->Hp->Prop} (h:θ σ H λx H1=>nb σ H1 λy H2=>Pm K R x y H2):iZip K θ nb σ H R:=h
section
variable {X:Cx} {K:dt}
theorem MR {L:UF} {k:Nat} {p:Pos} (γ:X.K=K) (g2:Gl X "zip") (n2:X.mg "zip"=f') (π:PE X kw θ) (ο:PE X L nb)
  (h2:tu [kw,L] X.env=(false,eval kw X.env)::tu [L] X.env:=by rfl) (ν:tu [L] X.env=[(false,eval L X.env)]:=by rfl):
  PI X (.Tuple α k tpos) (.Call (.Name "zip" p) [kw,L] [] pos) (iZip K θ nb):=by
 subst γ;intro pins s σ H R I h;refine YL (lN I g2 n2 Yo (Tt (thn (aa π (aa ο ae ν) h2 pos pins s σ H (λvs H1=>match vs with | [x,y]=>Pm X.K R x y H1 | _=>False) I h) λus G ⟨vs,H1,I1,Y,δ⟩=>?_) h2 (by rw[ν];rfl)))
 match vs,Y,δ with
 | [x,y],Y,δ=>
 obtain⟨a,b,xs,ys,ex,ey,sa,ξ,hl,q⟩:=δ;subst ex ey;cases Y with
 | cons ω r2=>
 cases r2 with
 | cons ψ ε=>
 cases ε;cases ω;cases ψ;obtain⟨its,ra,ι,a3⟩:=I1.list sa;obtain⟨ρ,rb,pb,a0⟩:=I1.list ξ;have la:a < G.heap.objs.size:=let ⟨o,e,_⟩:=ι.isList;hE e
 have lb:b < G.heap.objs.size:=let ⟨o,e,_⟩:=pb.isList;hE e
 have fin:∀c∈[G.heap.objs.size + 4,G.heap.objs.size + 2,G.heap.objs.size + 3,G.heap.objs.size,G.heap.objs.size + 1],FpOk X pins H1 c:=λc hb=>by
  have Z:G.heap.objs.size<=c:=by
   simp only[Tn,W6,Ys] at hb;rcases hb with e | e | e | e | e<;>rw[e]<;>omega
  exact I1.fpOk Z (I1.hok.fresh Z)
 refine call_zip_2 ι.isList pb.isList λh' ζ χ φ υ τ hsz k=>YF ζ ?_;exact⟨G.heap.objs.size + 4,_,_,_,H1,rfl,I1.kept (t':=G.toks) k,KJ a b _ _ _ _ _ (zipApart_new la lb),⟨ζ,χ,⟨_,_,φ⟩,υ,τ⟩,fin,q⟩
end
theorem El {K:dt} {n:Nat} {g:TG} {Q:Hp->Prop} {b:eH} {xs ys:eE V} (hl:xs.length=ys.length) (L:Nat->eE V->Hp->Prop) (h0:L 0 [] (upd H1 D (.lst []))) (hq:∀i zs H,i<=xs.length->L i zs H->SqL K H a xs/\SqL K H b ys)
  (hs:∀i x y zs H p H',xs[i]? =a' x->ys[i]? =a' y->L i zs H->H p=f'->Same H H'->H' p=a' (.tup [x,y])->g (.ref p) (dG n fx σ) H' λG δ=>tc G δ λb β=>if b=true then te G β λv α=>α D=a' (.lst zs)/\zs.length < hR/\L (i + 1) (zs++[v]) (upd α D (.lst (zs++[v]))) else L (i + 1) zs β)
  (hd:∀zs H,L xs.length zs H->Q H):
  ∃W:Nat->Nat->eE V->Hp->Prop,(∃m,W 0 m [] (upd H1 D (.lst [])))/\∀i m zs H2,W i m zs H2->((Itzp K a b).stop i H2/\Q H2)∨
    ((Itzp K a b).go i H2/\∃N:eE V->Hp->Prop,(∀Y H',N Y H'->∃ζ,ζ < m/\W (i + 1) ζ Y H')/\∀x η,(Itzp K a b).yld i H2 x η->g x (dG n fx σ) η λG δ=>tc G δ λb β=>
      if b=true then te G β λv α=>α D=a' (.lst zs)/\zs.length < hR/\N (zs++[v]) (upd α D (.lst (zs++[v]))) else N zs β):=by
 refine⟨λi m zs H=>m=xs.length - i/\i<=xs.length/\L i zs H,⟨xs.length,@E,UY _,h0⟩,?_⟩;rintro i m zs H ⟨rfl,hi,p⟩;obtain⟨γ,π⟩:=hq i zs H hi p;by_cases Z:i < xs.length
 ·refine .inr ⟨⟨xs,ys,xs[i],ys[i]' @A,γ,π,by simp[Z],by simp[show i < ys.length by omega]⟩,L (i + 1),λY H' ε=>⟨xs.length - (i + 1),by omega,rfl,Z,ε⟩,λx H' y=>?_⟩;obtain⟨r,u,v,f,ξ,ν,ι,θ⟩:=y;subst ξ ν;exact hs i u v zs H r _ (ι xs γ) (θ ys π) p f (aW f) au
 ·have e:i=xs.length:=by omega
  subst e;exact .inl ⟨⟨xs,ys,γ,π,hl,rfl⟩,hd zs H p⟩
noncomputable abbrev xBM:E':=[.type "ValueError",.type "Exception",.type "BaseException",.type "object"]
structure XOwn (K:dt) (C W f:eH):Prop where
 lk:∃nm q N bs sn sub ab col dd k0 k1 k2 k3 k5,K.lookup C=a' (excClassObj nm q C N bs (.ref W::xBM) true sn sub ab col dd k0 k1 k2 k3 k5 "ValueError.__new__")
 up:Xu K W xBM "ValueError.__new__"=true
 init:TK K (.ref C) "__init__"=a' (a' (.ref f))
 fn:XR K (.ref f)=true
 kp:UO K (.ref C)=true
 sa:TK K (.ref C) "__setattr__"=a' (a' (.builtin "object.__setattr__"))
 mo:Vm K C (.type "object")=a' true
 mv:Vm K C (.type "ValueError")=a' true
section
variable {X:Cx} {pins:D'} {σ:St} {H:Hp} {s:px} {p C W f:eH} {fs:eE (T3×V)}
structure Tq (K:dt) (W:eH):Prop where
 ga:VB K (.ref W) "__getattribute__"=a' (a' (.builtin "type.__getattribute__"))
 rd:ZF K W (.type "type")=true
 fd:ZI K (.ref W) (.type "type") "__init__"=a' (.val (.builtin "ValueError.__init__"))
theorem i5 {st:Wr}:PS X st (λ_ _ _=>False):=λ_ _ _ _ _ _ h=>h.elim
end
end L2
namespace PySem
theorem F.entry_dict_update_loop:entryFor table "dict.update.loop"=a' Builtin.«dict.update.loop»:=entryFor_of_fast (by kernel_rfl)
theorem F.plain_dict_update_loop:plainId "dict.update.loop"=true:=by decide +kernel
theorem F.list_keys_none:typeLookup (.type "list") "keys"=pure none:=by rw[WW,VQ];kernel_rfl
theorem Cj {w:U1} {A:TQ} {E:Cr} {xs:G'} {k:Nat} {name:T3} {Q:T2->px->Prop}
  (β:s.heap.get? a=a' {cls:= .type "list",data:= .seq xs k}) (Y:typeLookup (.type "list") name=pure f') (L:(["__module__","__name__","__qualname__","__doc__","__annotations__"]:B').contains name=false) (δ:A.handled=f')
  (h:∀h' tk,(∀b o,s.heap.get? b=a' o->h'.get? b=a' o)->Q f' {s with heap:=h',toks:=tk}) (hsz:name.length + 100<=sizeLine:=by size_fits):
  n' (xY prog w) A (getAttr? (.ref a) name) Q E s:=by
 obtain⟨γ,g,d,tk,os⟩:=s;have hT:∀Z,(⟨γ,g,d,Z,os⟩:px).TypeIs (.ref a) "list":=λ_=>⟨_,β,rfl⟩;have G:=sub_AttributeError;have ζ:=F.slot_list_getattribute.lookup;have ε:=F.slot_list_getattribute.bind (.ref a);have ψ:=am_list_getattr_none;unfold getAttr? getAttrBy? getAttrBy
 repeat (any_goals (first | assumption | exact hT _ | ((with_reducible show n' _ _ (call (Value.builtin "list.__getattribute__") _ _) _ _ _);refine Wy F.slot_list_getattribute (hT _) am_entry_list_getattribute (F.args_list_getattribute_2 _ _) (meets_getattribute_miss_list a xs k #[] name _ Y L hsz) ⟨β,δ,λh' Z e α=>?_⟩) | wp_step))
 obtain⟨t',ξ,he⟩:=α.there;show n' _ _ (getattributeRaised _ _ _ _ _ _ _) _ _ _;unfold getattributeRaised
 repeat (any_goals (first | assumption | wp_step))
 exact h _ _ α.keeps
section
variable {prog:Tv} {w:U1} {K:Type} [DecidableEq K] {knd:KeyKind prog w K} {A:TQ} {R:R'} {I:eH} {fp wr:M'} {n:Nat} {P:Nat->sC->Prop} {St:Nat->Ui->Prop}
def Nu (knd:KeyKind prog w K) (h:Ui) (a:eH) (L:K×sC):Prop:=∃G o n,h.get? a=a' o/\o.cls= .type "tuple"/\o.data= .seq #[G,L.2] n/\knd.is L.1 G=true
theorem wH {h:Ui} {kvs:eE (K×sC)} (hm:h.DictOf knd d kvs) (f:∀o,h.get? d=a' o->h'.get? d=a' o):h'.DictOf knd d kvs:=let ⟨o,es,ep,ho,r⟩:=hm;⟨o,es,ep,f o ho,r⟩
theorem qF (W:Walks prog w A.in1 I fp wr n P St) (d:eH) (τ:d∉fp) (more:eE (K×sC)) (hn:more.length=n) (hsz:n<=hR) (tup:Nat->eH) (γ:∀i,i < n->tup i∉wr/\tup i≠d) (hP:∀i v,i < n->P i v->v= .ref (tup i)):
  ∀(k j:Nat) (s:px) (α:Int) (t:Tok),n - j=k->j<=n->St j s.heap->s.heap.DictOf knd d (merged [] (more.take j))->(∀i L,more[i]? =a' L->Nu knd s.heap (tup i) L)->
  (∀h' tk,h'.DictOf knd d (merged [] more)->(∀b o,b∉wr->b≠d->s.heap.get? b=a' o->h'.get? b=a' o)->R (.ok (.ret .none)) {s with heap:=h',toks:=tk})->
  codeAny (xY prog w) A (.builtin "dict.update.loop" ⟨[.ref d,.ref I,.int α t,.none],[]⟩) R s:=by
 have ρ:d∉wr:=λh=>τ (W.sub _ h);intro k
 induction k with
 | zero=>
   intro j s α t hk hj η hd ω χ;have a3:j=n:=by omega
   subst a3;refine W8 F.entry_dict_update_loop ?_;rw[VI F.plain_dict_update_loop _];show n' _ A.in1 (pyNext (.ref I) >>=_) _ _ s;refine eS (W.done s _ _ η λh' tk G=>?_);show n' _ A.in1 (Builtin.Dict.addKeywords d [] >>=_) _ _ _;refine eS (sA (sA ?_));rw[<-hn,i'] at hd;exact χ h' tk (wH hd λo e=>G d o ρ e) λb o hb _ e=>G b o hb e
 | succ k ih=>
   intro j s α t hk hj η hd ω χ;have Y:j < n:=by omega
   refine W8 F.entry_dict_update_loop ?_;rw[VI F.plain_dict_update_loop _];show n' _ A.in1 (pyNext (.ref I) >>=_) _ _ s;refine eS (W.item j s _ _ Y η λv h' tk β ι G=>?_);have ev:=hP j v Y β;subst ev;obtain⟨L,ξ⟩:∃L,more[j]? =a' L:=⟨_,ed @A⟩;obtain⟨ε,ob,m,ht,a7,a4,ο⟩:=ω j L ξ;have ζ:=G _ _ (γ j Y).1 ht;show n' _ A.in1 (holding [T7 (tup j)] _ >>=_) _ _ _;refine eS (VN (eS (wpAny_tryCatch ?_)));unfold Builtin.Dict.pairItems;refine eS (Yt (T:="tuple") ⟨_,ζ,a7⟩ ?_);rw[wb @C];refine eS (W2 ζ a4 ?_);refine sA ?_;show n' _ A.in1 (holding [ε,L.2] (dictSet d ε L.2)) _ _ _;have a6:h'.DictOf knd d (merged [] (more.take j)):=wH hd λo e=>G d o ρ e;refine VN (wpAny_dictSet_pairs (s:={s with heap:=h',toks:=tk}) ο a6 (λh2 υ ν=>?_) (hsz:=by have:=merged_length_le [] (more.take j);rw[Y3,wh] at this;omega));rw[<-merged_take_succ [] more j L ξ] at υ;have kp:∀b o,b∉wr->b≠d->s.heap.get? b=a' o->h2.get? b=a' o:=λb o hb Z e=>(ν.2 b Z).trans (G b o hb e);refine sA ⟨Xl F.plain_dict_update_loop _,ih (j + 1) _ _ _ @A Y (W.frame _ _ _ ι λb hb o e=>?_) υ (λi ψ hi=>?_) λh3 φ a5 a0=>?_⟩
   ·exact(ν.2 b λz=>τ (z ▸ hb)).trans e
   ·obtain⟨δ,o',m',e',θ⟩:=ω i ψ hi;have π:i < n:=by rw[<-hn];exact(b'.mp hi).1
    exact⟨δ,o',m',kp _ _ (γ i π).1 (γ i π).2 e',θ⟩
   ·exact χ h3 φ a5 λb o hb Z e=>a0 b o hb Z (kp b o hb Z e)
end
section
variable {prog:Tv} {w:U1} {K:Type} [DecidableEq K] {knd:KeyKind prog w K} {A:TQ} {E:Cr} {s:px}
theorem wU {its:G'} {more:eE (K×sC)} {tup:Nat->eH} {Q:Cr} (ο:A.handled=f') (hl:s.heap.get? l=a' {cls:= .type "list",data:= .seq its c})
  (hn:more.length=its.size) (hsz:its.size<=hR) (ν:∀(i:Nat) (v:sC),its[i]? =a' v->v= .ref (tup i)) (ξ:∀i α,more[i]? =a' α->Nu knd s.heap (tup i) α) (nd:(more.map (·.1)).Nodup)
  (h:∀h' tk,h'.DictOf knd s.heap.objs.size more->(∀b o,s.heap.get? b=a' o->h'.get? b=a' o)->Q (.ref s.heap.objs.size) {s with heap:=h',toks:=tk}):
  n' (xY prog w) A (call (.type "dict") [.ref l]) Q E s:=by
 refine Ze (Q₁:=λobj Z=>obj= .ref s.heap.objs.size/\Z={s with heap:=s.heap.push {cls:= .type "dict",data:= .dict #[]}}) F.kt_called_dict (F.kt_typeCall_dict_1 _) F.entry_dict_init (kt_code_dict_new _ ⟨rfl,rfl⟩) ?_;rintro obj Z ⟨rfl,rfl⟩;have G:(s.heap.push {cls:= .type "dict",data:= .dict #[]}).DictOf knd s.heap.objs.size []:=Za s.heap;have β:(s.heap.push {cls:= .type "dict",data:= .dict #[]}).get? l=a' {cls:= .type "list",data:= .seq its c}:=fy _ hl;refine⟨G.typeIs,F.args_dict_init_2 _ _,?_⟩;unfold Builtin.«dict.__init__»;refine eS ?_;unfold Builtin.Dict.selfAndRest;refine eS (wpAny_notOrdered_dict G.typeIs ?_);show n' _ _ (pure (s.heap.objs.size,[T7 l])) _ _ _;refine sA ?_;show n' _ _ (Ye "dict.__init__" s.heap.objs.size (.ref l) [] .none) _ _ _;unfold Ye;refine eS (Yt (T:="list") ⟨_,β,rfl⟩ ?_);rw[wb @C];refine eS (Cj β F.list_keys_none @C ο λh' tk hk=>?_);rw[wb (show(f':T2).isNone=true from rfl)];have hl2:=hk _ _ β;have γ:l < s.heap.objs.size:=hE hl;have ε:h'.DictOf knd s.heap.objs.size []:=wH G λo e=>hk _ _ e;have Y:s.heap.objs.size < h'.objs.size:=by obtain⟨o,_,_,ho,_⟩:=ε;exact hE ho
 have L:∀i,i < its.size->tup i < s.heap.objs.size:=λi hi=>by
  obtain⟨α,θ⟩:∃α,more[i]? =a' α:=⟨_,ed @A⟩;obtain⟨_,_,_,e,_⟩:=ξ i α θ;exact hE e
 refine eS (ac2 ?_);refine eS (Xh (items:=its) ⟨_,hl2,rfl,c,rfl⟩ ?_);have W:=Zu (prog:=prog) (w:=w) (A:=A.in1.in1) ο h'.objs.size l (TB (Yi γ Y)) its;refine sA ⟨Xl F.plain_dict_update_loop _,qF (knd:=knd) (A:=A.in1) W s.heap.objs.size ?_ more hn hsz tup (λi hi=>⟨?_,?_⟩) (λi v _ e=>ν i v e) _ 0 _ _ _ rfl (UY _) ⟨⟨_,mu _ rfl,rfl,rfl⟩,?_⟩ ?_ (λi α hi=>?_) fun π ζ δ ι=>?_⟩
 ·intro hm;rcases Tn.mp hm with e | hm
  ·exact hD e (TB Y)
  ·exact hD (gs.mp hm).symm (TB γ)
 ·intro hm;exact hD (gs.mp hm) (TB (Yi (L i hi) Y))
 ·exact TB (L i hi)
 ·exact⟨_,fy _ hl2,rfl,c,rfl⟩
 ·exact ε.push _
 ·obtain⟨η,ob,m,e,x⟩:=ξ i α hi;exact⟨η,ob,m,fy _ (hk _ _ (fy _ e)),x⟩
 ·rw[merged_nil_of_nodup more nd] at δ;refine⟨rfl,h π ζ δ λb o e=>ι b o (λhm=>?_) ?_ (fy _ (hk _ _ (fy _ e)))⟩
  ·exact hD (gs.mp hm) (TB (Yi (hE e) Y))
  ·exact TB (hE e)
end
end PySem
namespace L2
open PySem PySem.Spec PyProof.Rows
noncomputable def MQ:eE V->Hp->VK->Prop:=λxs H Q=>∃(l:eH) (ps:eE (eH×Key×V)),xs=[.ref l]/\H l=a' (.lst (ps.map λq=>V.ref q.1))/\(∀q∈ps,H q.1=a' (.tup [kV q.2.1,q.2.2]))/\(ps.map λq=>q.2.1).Nodup/\
 ∀d,H d=f'->Q (.ref d) (upd H d (.dK (ps.map (·.2))))
section
variable {X:Cx}
theorem yJ (hc:X.calm=true):mR X (.type "dict") MQ:=by
 intro pins s σ H xs us Q I r h;obtain⟨l,ps,rfl,hl,ht,nd,q⟩:=h;obtain⟨u,rfl,θ⟩:=rZ r;cases θ;obtain⟨z,its,c,Z,β,el⟩:=I.lstM hl;rw[bx] at z β
 have get:∀(i:Nat) q,ps[i]? =a' q->its[i]? =a' (.ref q.1)/\∃G v o n,s.heap.get? q.1=a' o/\o.cls= .type "tuple"/\o.data= .seq #[G,v] n/\(dz X.prog X.w).is q.2.1 G=true/\RelV q.2.2 v:=λi q L=>by
  obtain⟨u,τ,ν⟩:=Vals.get (x:=V.ref q.1) Z (by rw[gA,L];rfl);cases ν;refine⟨τ,?_⟩;have e:=ht q (ee L);obtain⟨_,us,rt,φ⟩:=I.hok _ _ e;obtain⟨a,b,rfl,ο,ξ⟩:=Vals.two rt;obtain⟨o,ho,η,n,ζ⟩:=φ;exact⟨a,b,o,n,ho,η,ζ,FM ο,ξ⟩
 obtain⟨vs,Y⟩:∃vs:eE (Key×sC),vs=(vu ps.length).map λi=>match ps[i]? with
  | some q=>(q.2.1,match s.heap.get? q.1 with | some o=>(match o.data with | .seq xs _=>xs.getD 1 .none | _=> .none) | none=> .none)
  | none=>(.inl 0,.none):=⟨_,rfl⟩
 have ε:∀(i:Nat) q,ps[i]? =a' q->∃G v o n,vs[i]? =a' (q.2.1,v)/\s.heap.get? q.1=a' o/\o.cls= .type "tuple"/\o.data= .seq #[G,v] n/\(dz X.prog X.w).is q.2.1 G=true/\RelV q.2.2 v:=λi q L=>by
  obtain⟨_,G,v,o,n,e,α,δ,k,Z⟩:=get i q L;have hi:=(b'.mp L).1;refine⟨G,v,o,n,?_,e,α,δ,k,Z⟩;rw[Y,gA,Ub hi];show a' (match ps[i]? with | some q=>_ | none=>_)=_;rw[L];show a' (q.2.1,match s.heap.get? q.1 with | some o=>_ | none=>_)=_;rw[e];show a' (q.2.1,match o.data with | .seq xs _=>_ | _=>_)=_;rw[δ];rfl
 have ι:vs.length=ps.length:=by rw[Y,bx,TC]
 clear Y
 have keys:vs.map (·.1)=ps.map λq=>q.2.1:=by
  apply Wg;intro i;rw[gA,gA];cases L:ps[i]? with
  | none=>rw[Uw (by rw[ι];exact List.getElem?_eq_none_iff.mp L)];rfl
  | some q=>obtain⟨_,v,_,_,e,_⟩:=ε i q L;rw[e];rfl
 have υ:KV (ps.map (·.2)) vs:=by
  refine vo (by rw[bx,ι]) λi a b ha hb=>?_;rw[gA] at ha;obtain⟨q,L,rfl⟩:=VF.mp ha;obtain⟨_,v,_,_,e,_,_,_,_,Z⟩:=ε i q L;rw[e] at hb;cases hb;exact⟨rfl,Z⟩
 refine wU (knd:=dz X.prog X.w) (its:=its.toArray) (c:=c) (more:=vs) (tup:=λi=>match ps[i]? with | some q=>q.1 | none=>0) (I.ok.hd hc) el (by rw[ι,β];simp) (by simpa using(β ▸ z)) (λi v e=>?_) (λi ρ e=>?_) (by rw[keys];exact nd) λh' tk hd hk=>?_
 ·have hi:i < ps.length:=by rw[β];have:=(Vb.mp e).1;simpa using this
  obtain⟨γ,L⟩:∃γ,ps[i]? =a' γ:=⟨_,ed hi⟩;have α:=(get i γ L).1;have e:its[i]? =a' v:=by simpa using e
  rw[α] at e;cases e;rw[L]
 ·have hi:i < ps.length:=by rw[<-ι];exact(b'.mp e).1
  obtain⟨γ,L⟩:∃γ,ps[i]? =a' γ:=⟨_,ed hi⟩;obtain⟨G,v,o,n,ψ,α,δ,χ,π,_⟩:=ε i γ L;rw[ψ] at e;cases e;rw[L];exact⟨G,o,n,α,δ,χ,π⟩
 ·refine⟨.ref s.heap.objs.size,_,I.laid (t':=tk) hk (sb _) (show gX X.prog X.w _ h' _ (.dK (ps.map (·.2))) from⟨by rw[bx];exact z,TL.mpr λe=>hD e.symm (TB I.big),vs,υ,hd⟩),rfl,q _ (I.hok.fresh (sb _))⟩
end
section
variable {H:Hp} {Q:VK}
theorem Hr {ps:eE (eH×Key×V)} (e:H l=a' (.lst (ps.map λq=>V.ref q.1))) (ht:∀q∈ps,H q.1=a' (.tup [kV q.2.1,q.2.2])) (nd:(ps.map λq=>q.2.1).Nodup) (h:∀d H2,H d=f'->Same H H2->H2 d=a' (.dK (ps.map (·.2)))->Q (.ref d) H2):MQ [.ref l] H Q:=⟨l,ps,rfl,e,ht,nd,jI h⟩
end
end L2
namespace PySem
end PySem
namespace L2
open PySem PySem.Spec PyProof.Rows
noncomputable def del (H:Hp) (p:eH):Hp:=λb=>if b=p then f' else H b
inductive PH (X:Cx) (Wo:XW):eE ExceptHandler->(Ends->XW)->Prop where
 | nil:PH X Wo [] (λ_=>Wo)
 | cons {G:eH} {g n:T3} {i:Nat} {gp hp:Pos} {b₀:Wr} {suite:eE Wr} {ts:TS} {hs:eE ExceptHandler} {WR:Ends->XW} (cg:Pu X.K G) (hg:Gl X g) (hm:X.mg g=a' (.ref G)) (hi:X.N[i]? =a' n) (hk:X.env.scope.names.lookup n=a' .local)
   (hs':∀pins e,PSs (X.mark pins e) (b₀::suite) ts) (hdb:(g == ("__debug__":T3))=false) (r:PH X Wo hs WR):PH X Wo (.ExceptHandler (a' (.Name g gp)) (a' n) (b₀::suite) hp::hs) (λD=>WTry X.K G i (WR D) ts D)
structure Py (osc:Xz) (ON N:B') (n:Nat) (fx:C') (x0:T3) (sc:Xz):Prop where
 kind:sc.kind= .function
 one:∃pre post,sc.names=pre++(x0,.cell)::post/\(∀y∈pre,y.2≠.cell)/\∀y∈post,y.2≠.cell
 its:sc.names.lookup x0=a' .cell
 own:∀y∈sc.names,y.2= .local->sc.names.lookup y.1=a' .local
 fre:∀y∈sc.names,y.2= .free->osc.names.lookup y.1=a' .cell∨osc.names.lookup y.1=a' .free
 len:N.length=n + fx.length
 frn:∀k,k < fx.length->∃x j,N[n + k]? =a' x/\fx[k]? =a' j/\ON[j]? =a' x/\sc.names.lookup x=a' .free
noncomputable def QL:eE V->Hp->VK->Prop:=λxs H Q=>∃i j,xs=[.int i,.int j]/\CDiv i j/\∀p,H p=f'->Q (.ref p) (upd H p (.tup [.int (i / j),.int (i % j)]))
theorem Gb:mR X (.builtin "divmod") QL:=CW
theorem QA {i j:Int} (h1:0 < j) (h2:j < 1073741824) (h:∀p H2,H p=f'->Same H H2->H2 p=a' (.tup [.int (i / j),.int (i % j)])->Q (.ref p) H2):QL [.int i,.int j] H Q:=⟨i,j,rfl,⟨h1,h2⟩,λp G=>h p _ G (aW G) au⟩
theorem ji {b:eH} {xs zs:eE V} (e:H l=a' (.lst xs)) (G:H b=a' (.lst zs)) (hl:xs.length + zs.length<=hR) (n:l≠b) (h:∀H2,Upd H H2 l (.lst (xs++zs))->Q .non H2):B6 (.ref l) [.ref b] H Q:=by
 first
 | exact⟨l,b,xs,zs,rfl,rfl,e,G,hl,h _ Upd.of⟩
 | exact⟨l,b,xs,zs,rfl,rfl,e,G,hl,n,h _ Upd.of⟩
section
variable {X:Cx}
def Ki (Q:VK) (x:V) (H1:Hp):Prop:=∃n:Nat,x= .int (n:Int)/\n<=1000/\∀(D:eH) (G:Hp),H1 D=f'->Same H1 G->G D=a' (.lst ((vu n).map λk:Nat=>V.int (k:Int)))->Q (.ref D) G
noncomputable def PZ (t:TE):TE:=fun σ H Q=>t σ H (Ki Q)
theorem Qo {t:TE} (h:t σ H (Ki Q)):PZ t σ H Q:=h
theorem GS:∀{xs:eE V} {us:E'},xs.length=us.length->(∀(i:Nat) x u,xs[i]? =a' x->us[i]? =a' u->RelV x u)->Vals xs us
 | [],[],_,_=> .nil
 | x::xs,u::us,hl,h=> .cons (h 0 x u rfl rfl) (GS (by simpa using hl) λi y v G L=>h (i + 1) y v (by simpa using G) (by simpa using L))
 | [],_::_,hl,_=>by simp at hl
 | _::_,[],hl,_=>by simp at hl
theorem AB {t:TE} (hc:X.calm=true) (g1:Gl X "list") (g2:Gl X "range") (n1:X.mg "list"=f') (ξ:X.mg "range"=f') (he:PE X e t)
  (h1:tu [Z' (.Name "range" lA) [e] [] lB] X.env=[(false,eval (.Call (.Name "range" lA) [e] [] lB) X.env)]:=by rfl) (h2:tu [e] X.env=[(false,eval e X.env)]:=by rfl):
  PE X (.Call (.Name "list" lO) [.Call (.Name "range" lA) [e] [] lB] [] lx) (PZ t):=by
 intro pins s σ H Q I h;refine YL (lN I g1 n1 wq (Tt (Q:=EP X pins σ Q) ?_ h1 rfl));rw[h1];show n' _ _ (spliced ((false,eval (.Call (.Name "range" lA) [e] [] lB) X.env)::backTo lx [])) _ _ s;refine WI ?_;refine YL (lN I g2 ξ boot_range (Tt (thn (aa he ae h2 lB pins s σ H (λvs H1=>match vs with | [x]=>Ki Q x H1 | _=>False) I h) λus L ⟨vs,H1,I1,Y,lO⟩=>?_) h2 rfl))
 match vs,Y,lO with
 | [x],Y,lO=>
 obtain⟨n,rfl,hn,q⟩:=lO;cases Y with
 | cons r ι=>
 cases ι;obtain⟨t',rfl⟩:=r;refine call_range_1 ?_;refine X1 ?_;refine call_list_range (n:=n) (I1.ok.hd hc) (ac1 ..) (small_one @A @A @A @A) (by rw[rangeSize_one];split<;>omega) @A λh' tk β c hk π ν=>?_;have γ:∀b o,L.heap.get? b=a' o->h'.get? b=a' o:=λb o e=>hk b o (fy _ e);have I2:Inv X pins σ H1 {L with heap:=h',toks:=tk}:=I1.kept (t':=tk) γ;obtain⟨D,α⟩:∃D,D=(L.heap.push {cls:= .type "range",data:= .fields #[.int 0 L.toks,.int (n:Int) t',.int 1 (L.toks + 1)]}).objs.size:=⟨_,rfl⟩;have ρ:L.heap.objs.size<=D:=by rw[α,W9];exact XQ _
 have ζ:H1 D=none:=I1.hok.fresh ρ;have δ:L.heap.get? D=none:=VP ρ
 have ο:Vals ((vu n).map λk:Nat=>V.int (k:Int)) β.toList:=by
  obtain⟨ε,G⟩:=ν;refine GS (by rw[bx,TC];simpa using ε.symm) λi x u η τ=>?_;rw[gA,Ub] at η
  ·cases η;obtain⟨θ,υ⟩:=G i u (by simpa using τ);refine⟨θ,?_⟩;rw[υ];congr 1;omega
  ·have:=(b'.mp τ).1;simp at this;omega
 have φ:Inv X pins σ (upd H1 D (.lst ((vu n).map λk:Nat=>V.int (k:Int)))) {L with heap:=h',toks:=tk}:=I2.track (I1.fpN δ ζ) ⟨by rw[bx,TC,nr];omega,β.toList,c,ο,by rw[α];exact π⟩;refine⟨.ref D,_,φ,by rw[α];rfl,q D _ ζ (λb ob e=>?_) au⟩;rw[aF (ao e ζ)];exact e
end
section
variable {σ:St} {H:Hp} {D:Ends} {t u:TS}
theorem Qg (h:∀R:St->Hp->Prop,(∀σ H,u D σ H->R σ H)->t {D with nx:=R} σ H):tSeq t u D σ H:=h _ λ_ _ q=>q
theorem s_go {R X:St->Hp->Prop} (e:∀σ H,X σ H->R σ H) (h:X σ H):R σ H:=e _ _ h
end
end L2
set_option autoImplicit false
namespace M
theorem OZ (a b:Nat):(a||| b) / 2=a / 2||| b / 2:=by
 apply ix;intro i;simp[WD,Nat.testBit_or]
theorem LU (a b:Nat):(a&&&b) / 2=a / 2&&&b / 2:=by
 apply ix;intro i;simp[WD,Vr]
theorem Ef (a b:Nat):(a^^^b) / 2=a / 2^^^b / 2:=by
 apply ix;intro i;simp[WD,TH]
theorem or_sum (a:Nat):∀b:Nat,a||| b=(a^^^b) + (a&&&b):=by
 induction a using ab8 with
 | ind a ih=>
   intro b;by_cases ha:a=0
   ·subst ha;simp
   ·have h:=ih (a / 2) @A (b / 2);have Y:=Xq (a||| b) 2;have L:=Xq (a^^^b) 2;have G:=Xq (a&&&b) 2;rw[OZ] at Y;rw[Ef] at L;rw[LU] at G;have β:(a||| b) % 2=(a % 2||| b % 2):=by have:=@Nat.or_mod_two_pow a b 1;simpa using this
    have δ:(a^^^b) % 2=(a % 2^^^b % 2):=by have:=@Nat.xor_mod_two_pow a b 1;simpa using this
    have Z:(a&&&b) % 2=(a % 2&&&b % 2):=by have:=@Nat.and_mod_two_pow a b 1;simpa using this
    have c:(a % 2||| b % 2)=(a % 2^^^b % 2) + (a % 2&&&b % 2):=by
     rcases Ve a with h1 | h1<;>rcases Ve b with h2 | h2<;>rw[h1,h2]<;>decide
    omega
noncomputable def pb:Nat->Nat->UD
 | 0,_=>false
 | w + 1,m=>(m.testBit w)^^(pb w m)
theorem MT (w a b:Nat):pb w (a^^^b)=(pb w a^^pb w b):=by
 induction w with
 | zero=>rfl
 | succ w ih=>
   simp only[pb,TH,ih];cases a.testBit w<;>cases b.testBit w<;>cases pb w a<;>cases pb w b<;>rfl
theorem uK (h j m:Nat):pb (h + j) m=(pb h m^^pb j (m>>>h)):=by
 induction j with
 | zero=>simp[pb]
 | succ j ih=>
   rw[Nat.add_succ];simp only[pb,ih,We];cases m.testBit (h + j)<;>cases pb h m<;>cases pb j (m>>>h)<;>rfl
theorem Ia (h m:Nat):pb h (m % 2 ^ h)=pb h m:=by
 suffices ∀j,j<=h->pb j (m % 2 ^ h)=pb j m from this h (sb h)
 intro j
 induction j with
 | zero=>intro _;rfl
 | succ j ih=>
   intro G;simp only[pb];rw[ih @A,Nat.testBit_mod_two_pow];simp[show j < h by omega]
theorem OF (w j m:Nat) (hm:m < 2 ^ w):pb (w + j) m=pb w m:=by
 rw[uK,TR,Nat.div_eq_of_lt hm]
 have:∀j,pb j 0=false:=by intro j;induction j with
  | zero=>rfl
  | succ j ih=>simp[pb,ih]
 rw[this];simp
theorem pb_up {w m:Nat} (hm:m < 2 ^ w) (h:w<=c):pb c m=pb w m:=by
 obtain⟨j,rfl⟩:=Xe h;exact OF w j m hm
theorem pb_fold (w h m:Nat) (hw:h<=w) (hm:m < 2 ^ w) (h2:w<=2 * h):pb h ((m>>>h)^^^(m&&&(2 ^ h - 1)))=pb w m:=by
 rw[Wj,MT,Ia];obtain⟨j,rfl⟩:=Xe hw;rw[uK]
 have G:m>>>h < 2 ^ j:=by
  rw[TR];exact Wu (by rw[<-YD];exact hm)
 rw[pb_up G (show j<=h by omega)];cases pb j (m>>>h)<;>cases pb h m<;>rfl
theorem fold_lt (w h m:Nat) (hm:m < 2 ^ w) (h2:w<=2 * h):(m>>>h)^^^(m&&&(2 ^ h - 1)) < 2 ^ h:=by
 apply ZT
 ·rw[TR];refine Wu ?_;rw[<-YD];exact gm hm (hJ @C @A)
 ·rw[Wj];exact ZY _ (T5 h)
noncomputable def pl (w m:Nat):C':=(vu w).filter m.testBit
theorem pl_up {w m:Nat} (hm:m < 2 ^ w) (h:w<=c):pl c m=pl w m:=by
 obtain⟨j,rfl⟩:=Xe h;unfold pl;rw[List.range_add,V2]
 have:List.filter m.testBit (WK (λx=>w + x) (vu j))=[]:=by
  rw[Xj];intro a ha;obtain⟨k,_,rfl⟩:=hF.mp ha;rw[T9 (gm hm (hJ @C (VX w k)))];simp
 rw[this,UZ]
noncomputable def xm (ps:C'):Nat:=ps.foldl (λa p=>a^^^2 ^ p) 0
theorem NJ (ps:C'):∀(a k:Nat),(ps.foldl (λa p=>a^^^2 ^ p) a).testBit k=(a.testBit k^^(ps.count k % 2 == 1)):=by
 induction ps with
 | nil=>intro a k;simp
 | cons p ps ih=>
   intro a k;rw[ab3,ih,TH,zt,List.count_cons];by_cases h:p=k
   ·subst h;simp only[decide_true,UR,Z4];rcases Ve (ZE p ps) with z | z
    ·have e:(ZE p ps + 1) % 2=1:=by omega
     rw[z,e];cases a.testBit p<;>rfl
    ·have e:(ZE p ps + 1) % 2=0:=by omega
     rw[z,e];cases a.testBit p<;>rfl
   ·have hb:(p == k)=false:=TL.mpr h;simp[hb,h]
theorem PL (ps:C') (k:Nat):(xm ps).testBit k=(ps.count k % 2 == 1):=by
 unfold xm;rw[NJ];simp
theorem rM (w k:Nat) (p:Nat->UD):((vu w).filter p).count k=if k < w/\p k=true then 1 else 0:=by
 have nd:((vu w).filter p).Nodup:=List.Pairwise.filter p List.nodup_range;by_cases h:k < w/\p k=true
 ·rw[wb h];have hm:k∈(vu w).filter p:=UT.mpr ⟨U8.mpr h.1,h.2⟩;exact List.Nodup.count nd |>.trans (by rw[wb hm])
 ·rw[qb h];refine List.count_eq_zero.mpr λhm=>h ?_;obtain⟨a,b⟩:=UT.mp hm;exact⟨U8.mp a,b⟩
theorem Lu (w m k:Nat):(pl w m).count k=if k < w/\m.testBit k=true then 1 else 0:=rM w k m.testBit
theorem xm_ext {w m:Nat} {ps:C'} (hm:m < 2 ^ w) (h:∀k,ps.count k % 2=(pl w m).count k % 2):xm ps=m:=by
 apply ix;intro k;rw[PL,h,Lu];by_cases hk:k < w
 ·cases e:m.testBit k<;>simp[hk,e]
 ·rw[T9 (gm hm (hJ @C (Nat.not_lt.mp hk)))];simp[hk]
noncomputable def Span:C'->Nat->Prop
 | [],x=>x=0
 | r::rs,x=>Span rs x∨Span rs (x^^^r)
theorem span_zero:∀rs:C',Span rs 0
 | []=>rfl
 | _::rs=> .inl (span_zero rs)
theorem b9 (x r:Nat):x^^^r^^^r=x:=by rw[UG,Vx,UJ]
theorem gP (a b c:Nat):a^^^b^^^c=a^^^c^^^b:=by rw[UG,WZ b c,<-UG]
theorem fU:∀(rs:C') (r x:Nat),Span (rs++[r]) x↔Span rs x∨Span rs (x^^^r)
 | [],r,x=>ZZ
 | q::rs,r,x=>by
   show Span (rs++[r]) x∨Span (rs++[r]) (x^^^q)↔(Span rs x∨Span rs (x^^^q))∨(Span rs (x^^^r)∨Span rs (x^^^r^^^q));rw[fU rs r x,fU rs r (x^^^q),gP x q r];constructor
   ·rintro((h | h) | (h | h))
    ·exact .inl (.inl h)
    ·exact .inr (.inl h)
    ·exact .inl (.inr h)
    ·exact .inr (.inr h)
   ·rintro((h | h) | (h | h))
    ·exact .inl (.inl h)
    ·exact .inr (.inl h)
    ·exact .inl (.inr h)
    ·exact .inr (.inr h)
theorem span_xor:∀{rs:C'} {x y:Nat},Span rs x->Span rs y->Span rs (x^^^y)
 | [],x,y,h,k=>by
   have h:x=0:=h;have k:y=0:=k;subst h;subst k;exact rfl
 | r::rs,x,y,h,k=>by
   rcases h with h | h<;>rcases k with k | k
   ·exact .inl (span_xor h k)
   ·refine .inr ?_;have:=span_xor h k;rwa [<-UG] at this
   ·refine .inr ?_;have:=span_xor h k;rwa [gP] at this
   ·refine .inl ?_;have:=span_xor h k;rwa [<-UG,gP x r y,b9] at this
noncomputable def sm:C'->Nat->Nat
 | [],_=>0
 | r::rs,p=>(if p.testBit 0 then r else 0)^^^sm rs (p / 2)
theorem sm_zero:∀rs:C',sm rs 0=0
 | []=>rfl
 | r::rs=>by show(if (0:Nat).testBit 0 then r else 0)^^^sm rs (0 / 2)=0;rw[show(0:Nat) / 2=0 from rfl,sm_zero rs];simp
theorem xor4 (a b c d:Nat):a^^^b^^^(c^^^d)=a^^^c^^^(b^^^d):=by
 rw[UG,<-UG b c d,WZ b c,UG c b d,<-UG a c]
theorem sm_xor:∀(rs:C') (p q:Nat),sm rs (p^^^q)=sm rs p^^^sm rs q
 | [],p,q=>by show(0:Nat)=0^^^0;simp
 | r::rs,p,q=>by
   show(if (p^^^q).testBit 0 then r else 0)^^^sm rs ((p^^^q) / 2)=((if p.testBit 0 then r else 0)^^^sm rs (p / 2))^^^((if q.testBit 0 then r else 0)^^^sm rs (q / 2));rw[Ef,sm_xor rs,TH,xor4];congr 1;cases p.testBit 0<;>cases q.testBit 0<;>simp
theorem iU:∀(rs:C') (r p:Nat),sm (rs++[r]) p=sm rs p^^^(if p.testBit rs.length then r else 0)
 | [],r,p=>by show(if p.testBit 0 then r else 0)^^^0=0^^^_;rw[UJ,VR];rfl
 | q::rs,r,p=>by
   show(if p.testBit 0 then q else 0)^^^sm (rs++[r]) (p / 2)=((if p.testBit 0 then q else 0)^^^sm rs (p / 2))^^^_;rw[iU rs r (p / 2),WD,UG];rfl
theorem jv {rs:C'} {p:Nat} (h:p < 2 ^ rs.length):sm (rs++[r]) p=sm rs p:=by
 rw[iU,T9 h];simp
theorem Hi (rs:C') (r:Nat):sm (rs++[r]) (2 ^ rs.length)=r:=by
 rw[iU]
 have e:sm rs (2 ^ rs.length)=0:=by
  have:∀(rs:C') (k:Nat),rs.length<=k->sm rs (2 ^ k)=0:=by
   intro rs
   induction rs with
   | nil=>intro k _;rfl
   | cons q rs ih=>
     intro k hk;have hk:rs.length + 1<=k:=hk;obtain⟨j,rfl⟩:∃j,k=j + 1:=⟨k - 1,@A⟩;show(if (2 ^ (j + 1)).testBit 0 then q else 0)^^^sm rs (2 ^ (j + 1) / 2)=0;have L:(2 ^ (j + 1)) / 2=2 ^ j:=by rw[W'];omega
     have G:(2 ^ (j + 1)).testBit 0=false:=by rw[zt];simp
     rw[L,G,ih j @A];simp
  exact this rs _ (sb _)
 rw[e,Ud];simp
theorem sm_span:∀(rs:C') (p:Nat),Span rs (sm rs p)
 | [],p=>rfl
 | r::rs,p=>by
   show Span rs _∨Span rs _;have ih:=sm_span rs (p / 2);cases h:p.testBit 0 with
   | true=>refine .inr ?_;rw[show sm (r::rs) p=r^^^sm rs (p / 2) from by show(if p.testBit 0 then r else 0)^^^_=_;rw[h];rfl,WZ r,b9];exact ih
   | false=>refine .inl ?_;rw[show sm (r::rs) p=sm rs (p / 2) from by show(if p.testBit 0 then r else 0)^^^_=_;rw[h];simp];exact ih
theorem jC:∀{rs:C'} {x:Nat},Span rs x->∃p,p < 2 ^ rs.length/\sm rs p=x
 | [],x,h=>⟨0,Nat.one_pos,(show x=0 from h).symm⟩
 | r::rs,x,h=>by
   rcases h with h | h
   ·obtain⟨p,G,e⟩:=jC h;refine⟨2 * p,by rw[U4,W'];omega,?_⟩;show(if (2 * p).testBit 0 then r else 0)^^^sm rs (2 * p / 2)=x;rw[show 2 * p / 2=p by omega,show(2 * p).testBit 0=false by simp[aa9],e];simp
   ·obtain⟨p,G,e⟩:=jC h;refine⟨2 * p + 1,by rw[U4,W'];omega,?_⟩;show(if (2 * p + 1).testBit 0 then r else 0)^^^sm rs ((2 * p + 1) / 2)=x;rw[show(2 * p + 1) / 2=p by omega,show(2 * p + 1).testBit 0=true by simp[aa9],e];show r^^^(x^^^r)=x;rw[WZ,b9]
theorem IH {t:Nat} (h1:2 ^ t<=x) (h2:x < 2 ^ (t + 1)):x.log2=t:=by
 have G:x≠0:=by have:=T5 t;omega
 have a:=(Yg G).mpr h2;have b:t<=x.log2:=(Nat.le_log2 G).mpr h1;omega
theorem o8 (h:x≠0):x.testBit x.log2=true:=by
 have:=Nat.testBit_log2 h;exact this
theorem xor_lt_pow {t:Nat} (h1:x < 2 ^ t) (h2:y < 2 ^ t):x^^^y < 2 ^ t:=ZT h1 h2
theorem Dc (hx:x≠0) (hy:y≠0) (h:x.log2=y.log2):x^^^y < 2 ^ x.log2:=by
 have h1:x^^^y < 2 ^ (x.log2 + 1):=xor_lt_pow VA (by rw[h];exact VA)
 have hb:(x^^^y).testBit x.log2=false:=by
  rw[TH,o8 hx,show y.testBit x.log2=true by rw[h];exact o8 hy];rfl
 apply VZ;intro i hi;rcases Nat.lt_or_eq_of_le hi with hi | hi
 ·exact T9 (gm h1 (hJ @C hi))
 ·rw[<-hi];exact hb
theorem xor_less (hx:x≠0) (hy:y≠0) (h:x.log2=y.log2):x^^^y < x:=
 gm (Dc hx hy h) (ab1 hx)
theorem qr (hy:y≠0) (h:x < 2 ^ y.log2):(x^^^y).log2=y.log2:=by
 have h1:x^^^y < 2 ^ (y.log2 + 1):=xor_lt_pow (gm h (hJ @C @A)) VA;have hb:(x^^^y).testBit y.log2=true:=by rw[TH,T9 h,o8 hy];rfl
 exact IH (Nat.ge_two_pow_of_testBit hb) h1
theorem Cw (hx:x≠0) (hy:y≠0) (h:x.log2≠y.log2):(x^^^y).log2=x.log2∨(x^^^y).log2=y.log2:=by
 rcases Nat.lt_or_gt_of_ne h with h | h
 ·exact .inr (qr hy (gm VA (hJ @C h)))
 ·refine .inl ?_;rw[WZ];exact qr hx (gm VA (hJ @C h))
def Fre (G:C') (i:Nat):Prop:=i < G.length/\¬Span (G.take i) (G.getD i 0)
theorem Fre.snoc (r:Nat) (h:Fre G i):Fre (G++[r]) i:=by
 obtain⟨hi,hn⟩:=h;refine⟨by rw[eP];omega,?_⟩;rw[Wq (Vh hi),ec,kv hi,<-ec];exact hn
theorem Fre.last (h:¬Span G r):Fre (G++[r]) G.length:=by
 refine⟨by rw[eP];simp,?_⟩;rw[ab9,ec,lT (sb _),Xf];exact h
def Frs (G:C') (q:Nat):Prop:=∀i,q.testBit i=true->Fre G i
theorem Frs.zero (G:C'):Frs G 0:=λi h=>by rw[U9] at h;cases h
theorem Frs.xor {p:Nat} (L:Frs G p) (hq:Frs G q):Frs G (p^^^q):=λi h=>by
 rw[TH] at h;cases h1:p.testBit i with
 | true=>exact L i h1
 | false=>rw[h1] at h;exact hq i (by simpa using h)
theorem Frs.snoc (r:Nat) (h:Frs G q):Frs (G++[r]) q:=λi hi=>(h i hi).snoc r
theorem Frs.more (h:Frs G q) (L:¬Span G r):Frs (G++[r]) (q^^^2 ^ G.length):=(h.snoc r).xor λi hi=>by
 rw[zt] at hi;have e:G.length=i:=by simpa using hi
 rw[<-e];exact Fre.last L
structure Ech (es:A') (rows:C'):Prop where
 nz:∀e∈es,e.1≠0
 lt:∀e∈es,e.2 < 2 ^ rows.length
 sm:∀e∈es,sm rows e.2=e.1
 nd:(es.map λe=>e.1.log2).Nodup
 all:∀y,Span rows y->y≠0->∃e∈es,e.1.log2=y.log2
 sub:∀e∈es,Frs rows e.2
theorem Ech.nil:Ech [] []:=⟨λ_ h=>hD h @E,λ_ h=>hD h @E,λ_ h=>hD h @E,.nil,λy h n=>hD h n,λ_ h=>hD h @E⟩
theorem Ech.span (I:Ech es G) {e:Nat×Nat} (h:e∈es):Span G e.1:=by
 rw[<-I.sm e h];exact sm_span _ _
theorem BQ {p:Nat} (h:p < 2 ^ G.length):sm (G++[r]) (p^^^2 ^ G.length)=sm G p^^^r:=by
 rw[sm_xor,jv h,Hi]
theorem Cv {n p:Nat} (h:p < 2 ^ n):p^^^2 ^ n < 2 ^ (n + 1):=
 xor_lt_pow (gm h (hJ @C @A)) (U0 @C @A)
theorem Ech.null (I:Ech es G) (hq:q < 2 ^ G.length) (e:r^^^M.sm G q=0):Span G r/\Ech es (G++[r]):=by
 have L:r=M.sm G q:=by
  have:=T4 (·^^^M.sm G q) e;simpa[b9] using this
 have hs:Span G r:=by rw[L];exact sm_span _ _
 refine⟨hs,I.nz,λe h=>?_,λe h=>?_,I.nd,λy hy n=>?_,λe h=>(I.sub e h).snoc r⟩
 ·rw[eP];exact gm (I.lt e h) (hJ @C @E)
 ·rw[jv (I.lt e h)];exact I.sm e h
 ·rcases(fU G r y).mp hy with hy | hy
  ·exact I.all y hy n
  ·have:=span_xor hy hs;rw[b9] at this;exact I.all y this n
theorem Ech.more (I:Ech es G) (hq:q < 2 ^ G.length) (e:r^^^M.sm G q≠0) (hn:∀e∈es,e.1.log2≠(r^^^M.sm G q).log2) (hf:Frs G q):
  ¬Span G r/\Ech (es++[(r^^^M.sm G q,q^^^2 ^ G.length)]) (G++[r]):=by
 have ω:¬Span G r:=λhs=>by
  obtain⟨x,L,ex⟩:=I.all _ (span_xor hs (sm_span G q)) e;exact hn x L ex
 refine⟨ω,λx h=>?_,λx h=>?_,λx h=>?_,?_,λy hy n=>?_,λx h=>(gz.mp h).elim (λh=>(I.sub x h).snoc r) λh=>by rw[gs] at h;subst h;exact hf.more ω⟩
 ·rcases gz.mp h with h | h
  ·exact I.nz x h
  ·rw[gs] at h;subst h;exact e
 ·rw[eP];rcases gz.mp h with h | h
  ·exact gm (I.lt x h) (hJ @C @E)
  ·rw[gs] at h;subst h;exact Cv hq
 ·rcases gz.mp h with h | h
  ·rw[jv (I.lt x h)];exact I.sm x h
  ·rw[gs] at h;subst h;show M.sm _ (q^^^_)=r^^^M.sm G q;rw[BQ hq,WZ]
 ·rw[ef,Ua];refine⟨I.nd,@E,λa ha b hb=>?_⟩;obtain⟨x,L,rfl⟩:=hF.mp ha;rw[VG,gs] at hb;subst hb;exact hn x L
 ·rcases(fU G r y).mp hy with hy | hy
  ·obtain⟨x,L,ex⟩:=I.all y hy n;exact⟨x,iv _ L,ex⟩
  ·
   have hz:=span_xor hy (sm_span G q)
   have ey:y=(y^^^r^^^M.sm G q)^^^(r^^^M.sm G q):=by
    rw[xor4,Vx,UJ,b9]
   generalize ψ:y^^^r^^^M.sm G q=z at hz ey;by_cases γ:z=0
   ·refine⟨_,hW _ (gs.mpr rfl),?_⟩;show(r^^^M.sm G q).log2=y.log2;rw[ey,γ,VR]
   ·obtain⟨x,L,ex⟩:=I.all z hz γ;have ne:z.log2≠(r^^^M.sm G q).log2:=by rw[<-ex];exact hn x L
    rcases Cw γ e ne with h | h
    ·exact⟨x,iv _ L,by rw[ex,ey,h]⟩
    ·refine⟨_,hW _ (gs.mpr rfl),?_⟩;show(r^^^M.sm G q).log2=y.log2;rw[ey,h]
noncomputable def tt (p:Prop):Bool:=@decide p (Vp p)
theorem PR {p:Prop} (h:p):tt p=true:=@gB _ (Vp _) h
theorem PU {p:Prop} (h:¬p):tt p=false:=@gn _ (Vp _) h
noncomputable def fr (G:C'):C':=(vu G.length).filter λi=> !tt (Span (G.take i) (G.getD i 0))
theorem Ju (G:C') (r:Nat):fr (G++[r])=fr G++(if tt (Span G r)=true then [] else [G.length]):=by
 unfold fr;rw[eP,Tu,Vs,V2]
 have L:(vu G.length).filter (λi=> !tt (Span ((G++[r]).take i) ((G++[r]).getD i 0)))=(vu G.length).filter (λi=> !tt (Span (G.take i) (G.getD i 0))):=by
  apply ZW;intro i hi;have hi:=U8.mp hi;have a:(G++[r]).take i=G.take i:=Wq (Vh hi)
  have b:(G++[r]).getD i 0=G.getD i 0:=by
   rw[ec,ec,kv hi]
  rw[a,b]
 rw[L];congr 1;have a:(G++[r]).take G.length=G:=ab9
 have b:(G++[r]).getD G.length 0=r:=by
  rw[ec,lT (sb _),Xf];rfl
 rw[Wx,a,b];cases tt (Span G r)<;>rfl
theorem fr_len (G:C'):(fr G).length<=G.length:=by
 have:=Vd (λi=> !tt (Span (G.take i) (G.getD i 0))) (vu G.length);rw[TC] at this;exact this
theorem fr_in (h:Span G r):fr (G++[r])=fr G:=by rw[Ju,PR h];simp
theorem fr_out (h:¬Span G r):fr (G++[r])=fr G++[G.length]:=by rw[Ju,PU h];rfl
structure Nul (nms rows:C'):Prop where
 lt:∀x∈nms,x < 2 ^ rows.length
 nz:∀x∈nms,x≠0
 sm:∀x∈nms,sm rows x=0
 pw:nms.Pairwise λa b=>a.log2 < b.log2
 len:nms.length + (fr rows).length=rows.length
theorem Nul.nil:Nul [] []:=⟨λ_ h=>hD h @E,λ_ h=>hD h @E,λ_ h=>hD h @E,.nil,rfl⟩
theorem Nul.keep (I:Nul S G) (h:¬Span G r):Nul S (G++[r]) where
 lt:=λx L=>by rw[eP];exact gm (I.lt x L) (hJ @C @E)
 nz:=I.nz
 sm:=λx L=>by rw[jv (I.lt x L)];exact I.sm x L
 pw:=I.pw
 len:=by rw[fr_out h,eP,eP,<-I.len];simp;omega
theorem vW {n:Nat} (h:q < 2 ^ n):q^^^2 ^ n≠0/\(q^^^2 ^ n).log2=n:=by
 have e:(2 ^ n:Nat).log2=n:=IH (sb _) (U0 @C @A);have δ:(2 ^ n:Nat)≠0:=by have:=T5 n;omega
 have hl:=qr (x:=q) δ (by rw[e];exact h);refine⟨λz=>?_,by rw[hl,e]⟩;have hb:(q^^^2 ^ n).testBit n=true:=by rw[TH,T9 h,Ud];rfl
 rw[z] at hb;simp at hb
theorem log2_under {n:Nat} (h0:q≠0) (h:q < 2 ^ n):q.log2 < n:=(Yg h0).mpr h
theorem Nul.snoc (I:Nul S G) (hq:q < 2 ^ G.length) (e:r^^^M.sm G q=0) (hs:Span G r):Nul (S++[q^^^2 ^ G.length]) (G++[r]) where
 lt:=λx hx=>by
  rw[eP];rcases gz.mp hx with hx | hx
  ·exact gm (I.lt x hx) (hJ @C @E)
  ·rw[gs] at hx;subst hx;exact Cv hq
 nz:=λx hx=>by
  rcases gz.mp hx with hx | hx
  ·exact I.nz x hx
  ·rw[gs] at hx;subst hx;exact(vW hq).1
 sm:=λx hx=>by
  rcases gz.mp hx with hx | hx
  ·rw[jv (I.lt x hx)];exact I.sm x hx
  ·rw[gs] at hx;subst hx;rw[BQ hq,WZ];exact e
 pw:=by
  rw[Zp];refine⟨I.pw,Y' _ _,λa ha b hb=>?_⟩;rw[gs] at hb;subst hb;rw[(vW hq).2];exact log2_under (I.nz a ha) (I.lt a ha)
 len:=by rw[fr_in hs,eP,eP,<-I.len];simp;omega
def Inj (ws:C'):Prop:=∀p,p < 2 ^ ws.length->sm ws p=0->p=0
theorem sm_lt {t:Nat}:∀{ws:C'} (p:Nat),(∀x∈ws,x < 2 ^ t)->sm ws p < 2 ^ t
 | [],p,_=>T5 t
 | w::ws,p,h=>by
   refine xor_lt_pow ?_ (sm_lt _ λx G=>h x (p' _ G));split
   ·exact h w (u' ..)
   ·exact T5 t
theorem Inj.nil:Inj []:=λp h _=>by
 have:p < 1:=h;omega
theorem DV:∀(n:Nat) (l:C'),l.Nodup->(∀x∈l,x < n)->l.length<=n
 | 0,l,_,h=>by
   cases l with
   | nil=>exact sb _
   | cons x r=>exact hD (h x (u' ..)) (VS _)
 | n + 1,l,nd,h=>by
   have ih:=DV n (l.erase n) (nd.erase n) λx G=>by
    have hm:=(nd.mem_erase_iff).mp G;have:=h x hm.2;have:=hm.1;omega
   by_cases hm:n∈l
   ·rw[List.length_erase_of_mem hm] at ih;omega
   ·rw[List.erase_of_not_mem hm] at ih;omega
theorem span_lt {t:Nat}:∀{rs:C'} {x:Nat},(∀r∈rs,r < 2 ^ t)->Span rs x->x < 2 ^ t
 | [],x,_,h=>by have h:x=0:=h;rw[h];exact T5 t
 | r::rs,x,b,h=>by
   have ih:=λx=>span_lt (rs:=rs) (x:=x) λy G=>b y (p' _ G);rcases h with h | h
   ·exact ih x h
   ·have:=xor_lt_pow (ih _ h) (b r (u' ..));rwa [b9] at this
structure Sums (ks rows:C'):Prop where
 nd:ks.Nodup
 all:∀x,x∈ks↔Span rows x
theorem Sums.zero:Sums [0] []:=⟨@E,λx=>by rw[gs];exact ZZ⟩
theorem NG {a b:Nat} (h:a^^^r=b^^^r):a=b:=by
 have:=T4 (·^^^r) h;simpa[b9] using this
theorem Sums.step (S:Sums ks G) (h:¬Span G r):Sums (ks++ks.map (·^^^r)) (G++[r]):=by
 refine⟨?_,λx=>?_⟩
 ·rw[Ua];refine⟨S.nd,?_,λa ha b hb e=>?_⟩
  ·exact Xn _ (λa b L e=>L (NG e)) S.nd
  ·obtain⟨c,Z,rfl⟩:=hF.mp hb;subst e;have:=span_xor ((S.all _).mp ha) ((S.all _).mp Z);rw[gP,Vx,VR] at this;exact h this
 ·rw[gz,fU,S.all,hF];constructor
  ·rintro(h | ⟨y,Y,rfl⟩)
   ·exact .inl h
   ·refine .inr ?_;rw[b9];exact(S.all _).mp Y
  ·rintro(h | h)
   ·exact .inl h
   ·exact .inr ⟨x^^^r,(S.all _).mpr h,b9 x r⟩
theorem Sums.keep (S:Sums ks G) (h:Span G r):Sums ks (G++[r]):=
 ⟨S.nd,λx=>by
  rw[S.all,fU];refine⟨.inl,λq=>q.elim id λq=>?_⟩;have:=span_xor q h;rwa [b9] at this⟩
theorem Sums.few (S:Sums ks G) {t:Nat} (h:∀r∈G,r < 2 ^ t):ks.length<=2 ^ t:=DV _ _ S.nd λx L=>span_lt h ((S.all x).mp L)
end M
namespace Sx
open PySem L2
noncomputable abbrev nat (k:Nat):V:= .int (k:Int)
theorem B3 {k:Nat} {A:TQ} (r:Room k A):A.units + 100 < cLine:=by have:=r.un;omega
theorem iteB {c:UD} {A B:Prop} (h1:c=true->A) (h2:c=false->B):if c=true then A else B:=by
 cases c
 ·rw[qb hB];exact h2 rfl
 ·rw[wb rfl];exact h1 rfl
theorem y9 (h:Nat):(2:Int) ^ h=((2 ^ h:Nat):Int):=by norm_cast
theorem shl1 (k:Nat):(1:Int) * 2 ^ ((k:Int).toNat)=((2 ^ k:Nat):Int):=by rw[ov,Int.one_mul];norm_cast
theorem JZ (a b:Nat):aa5 (a:Int) (b:Int)=((a||| b:Nat):Int):=by
 have L:V8 (a:Int)= -(a:Int) - 1:=by first | rfl | (unfold V8;omega)
 have G:V8 (b:Int)= -(b:Int) - 1:=by first | rfl | (unfold V8;omega)
 unfold aa5 V9;rw[gn (show ¬(0:Int)<=V8 (a:Int) by rw[L];omega),gn (show ¬(0:Int)<=V8 (b:Int) by rw[G];omega)];have n:∀x:Int,V8 (V8 x)=x:=λx=>by unfold V8;omega
 simp only[n,ov]
theorem dB (a b:Nat):U5 (a:Int) (b:Int)=((a^^^b:Nat):Int):=by
 unfold U5;rw[JZ,d8];have:=M.or_sum a b;omega
theorem Bu:Tw ((0:Nat):Int)=0:=by decide
theorem o7 {m:Nat} (h:m≠0):Tw (m:Int)=m.log2 + 1:=by
 unfold Tw;have e:((m:Int) == 0)=false:=by rw[TL];omega
 rw[e,qb hB,Y0]
theorem Es (m i:Nat):V9 ((m:Int) / 2 ^ ((0 + (i:Int)).toNat)) 1=if m.testBit i then 1 else 0:=by
 have L:(0 + (i:Int)).toNat=i:=by omega
 rw[L,y9];have G:(m:Int) / ((2 ^ i:Nat):Int)=((m>>>i:Nat):Int):=by rw[TR];norm_cast
 rw[G,show(1:Int)=((1:Nat):Int) from rfl,d8,Nat.and_one_is_mod]
 have:m.testBit i=(m>>>i % 2 == 1):=by
  rw[Nat.testBit_eq_decide_div_mod_eq,TR];rcases Ve (m / 2 ^ i) with h | h<;>rw[h]<;>rfl
 rw[this];rcases Ve (m>>>i) with h | h<;>rw[h]<;>rfl
structure En where
 a:eH
 m:Nat
 p:Nat
noncomputable def rq (es:eE En):eE (Key×V):=es.map λe=>(UI ((e.m.log2:Nat):Int),V.ref e.a)
theorem uS:∀(es:eE En) (z:Int),(∃e∈es,((e.m.log2:Nat):Int)=z/\valV (rq es) (UI z)=a' (.ref e.a))∨((∀e∈es,((e.m.log2:Nat):Int)≠z)/\valV (rq es) (UI z)=f')
 | [],z=> .inr ⟨λ_ h=>hD h @E,rfl⟩
 | e::es,z=>by
   by_cases h:((e.m.log2:Nat):Int)=z
   ·exact .inl ⟨e,u' ..,h,mi (by show(UI _:Key)=_;rw[h])⟩
   ·have G:valV (rq (e::es)) (UI z)=valV (rq es) (UI z):=mj (by show ¬(UI _:Key)=_;intro q;exact h (ab7 q));rcases uS es z with ⟨x,hx,Y,L⟩ | ⟨h1,h2⟩
    ·exact .inl ⟨x,p' _ hx,Y,by rw[G];exact L⟩
    ·refine .inr ⟨λx hx=>?_,by rw[G];exact h2⟩;rcases Tn.mp hx with rfl | hx
     ·exact h
     ·exact h1 x hx
theorem DP {k:Key} (h:valV kvs k=f'):putK kvs k v=kvs++[(k,v)]:=by
 unfold putK;rw[qI,h];rfl
structure StA (H:Hp) (C p d f n:eH) (rows:C'):Prop where
 ho:∃dx,H p=a' (.ins C dx [("by_top",.ref d),("free_places",.ref f),("null_masks",.ref n)])
 he:∃es:eE En,H d=a' (.dK (rq es))/\(∀e∈es,H e.a=a' (.tup [nat e.m,nat e.p]))/\M.Ech (es.map λe=>(e.m,e.p)) rows/\es.length=(M.fr rows).length
 hf:H f=a' (.lst ((M.fr rows).map nat))
 hn:∃nms,H n=a' (.lst (nms.map nat))/\M.Nul nms rows
 ne:f≠n
theorem StA.same {f n:eH} (x:StA H C p d f n G) (s:Same H H2):StA H2 C p d f n G where
 ho:=let ⟨dx,h⟩:=x.ho;⟨dx,s _ _ h⟩
 he:=let ⟨es,h,t,g,l⟩:=x.he;⟨es,s _ _ h,λe he=>s _ _ (t e he),g,l⟩
 hf:=s _ _ x.hf
 hn:=let ⟨nms,h,g⟩:=x.hn;⟨nms,s _ _ h,g⟩
 ne:=x.ne
theorem StA.null {f n:eH} (x:StA H C p d f n G) (hq:q < 2 ^ G.length) (e:r^^^M.sm G q=0) (hn:M.Nul S G) (hl:H n=a' (.lst (S.map nat)))
  (u:Upd H H2 n (.lst (S.map nat++[nat (q^^^2 ^ G.length)]))):StA H2 C p d f n (G++[r]):=by
 obtain⟨dx,ho⟩:=x.ho;obtain⟨es,hd,ht,g,l⟩:=x.he;obtain⟨hs,g2⟩:=g.null hq e;refine⟨⟨dx,u.oth _ _ (cC ho hl @E) ho⟩,⟨es,u.oth _ _ (cC hd hl @E) hd,λe he=>u.oth _ _ (cC (ht e he) hl @E) (ht e he),g2,by rw[M.fr_in hs];exact l⟩,?_,⟨S++[q^^^2 ^ G.length],?_,hn.snoc hq e hs⟩,x.ne⟩
 ·rw[M.fr_in hs];exact u.oth _ _ x.ne x.hf
 ·rw[ef];exact u.at'
theorem StA.more {f n:eH} (x:StA H C p d f n G) (hq:q < 2 ^ G.length) (e:r^^^M.sm G q≠0) (hn:∀y,M.Span G y->y≠0->y.log2≠(r^^^M.sm G q).log2) (hf:M.Frs G q)
  (u:Upd H H2 f (.lst ((M.fr G).map nat++[nat G.length]))) (s:Same H2 γ) (ht:γ t=a' (.tup [nat (r^^^M.sm G q),nat (q^^^2 ^ G.length)])) {es:eE En} (hd:H d=a' (.dK (rq es))) (L:∀e∈es,H e.a=a' (.tup [nat e.m,nat e.p])) (g:M.Ech (es.map λe=>(e.m,e.p)) G) (l:es.length=(M.fr G).length)
  (ξ:Upd γ H' d (.dK (putK (rq es) (UI (((r^^^M.sm G q).log2:Nat):Int)) (.ref t)))):StA H' C p d f n (G++[r]):=by
 obtain⟨dx,ho⟩:=x.ho;obtain⟨nms,τ,α⟩:=x.hn;have ο:∀e∈es.map (λe=>(e.m,e.p)),e.1.log2≠(r^^^M.sm G q).log2:=λe he=>hn e.1 (g.span he) (g.nz e he);obtain⟨hs,g2⟩:=g.more hq e ο hf;have Y:=s _ _ (u.oth _ _ (cC hd x.hf @E) hd)
 have β:valV (rq es) (UI (((r^^^M.sm G q).log2:Nat):Int))=none:=by
  rcases uS es (((r^^^M.sm G q).log2:Nat):Int) with ⟨z,hz,δ,_⟩ | ⟨_,h⟩
  ·exact hD (Int.ofNat_inj.mp δ) (ο (z.m,z.p) (hF.mpr ⟨z,hz,rfl⟩))
  ·exact h
 have go:∀(b:eH) (ob:HO),H b=a' ob->b≠f->b≠d->H' b=a' ob:=λb ob h h1 h2=>ξ.oth _ _ h2 (s _ _ (u.oth _ _ h1 h));refine⟨⟨dx,go _ _ ho (cC ho x.hf @E) (cC ho hd @E)⟩,⟨es++[⟨t,r^^^M.sm G q,q^^^2 ^ G.length⟩],?_,λe he=>?_,?_,?_⟩,?_,⟨nms,go _ _ τ (Ts x.ne) (cC τ hd @E),α.keep hs⟩,x.ne⟩
 ·rw[ξ.at',DP β];unfold rq;rw[ef];rfl
 ·rcases gz.mp he with he | he
  ·exact go _ _ (L e he) (cC (L e he) x.hf @E) (cC (L e he) hd @E)
  ·rw[gs] at he;subst he;exact ξ.oth _ _ (cC ht Y @E) ht
 ·rw[ef];exact g2
 ·rw[M.fr_out hs,eP,eP,l];rfl
 ·rw[M.fr_out hs,ef];exact ξ.oth _ _ (λz=>by rw[z] at x;have:=x.hf;rw[hd] at this;cases this) (s _ _ u.at')
def P7 (C:eH):Sp:=λvs H Q _=>∃p d f n G x,vs=[.ref p,nat x]/\StA H C p d f n G/\
 ∀t H2 q,H t=f'->Same H H2->H2 t=a' (.tup [nat (x^^^M.sm G q),nat q])->q < 2 ^ G.length->(x^^^M.sm G q≠0->∀y,M.Span G y->y≠0->y.log2≠(x^^^M.sm G q).log2)->M.Frs G q->Q (.ref t) H2
def P8 (C:eH):Sp:=λvs H Q _=>∃p d f n G r,vs=[.ref p,nat G.length,nat r]/\StA H C p d f n G/\G.length<=1000/\
 ∀H2,(∀b o,b≠d->b≠f->b≠n->H b=a' o->H2 b=a' o)->StA H2 C p d f n (G++[r])->Q .non H2
def NU (C:eH):Sp:=λvs H Q _=>∃x dx r G,vs=[.ref x,.ref r]/\H r=a' (.lst (G.map nat))/\G.length<=1000/\H x=a' (.ins C dx [])/\
 ∀H2 d f n,(∀b o,b≠x->H b=a' o->H2 b=a' o)->StA H2 C x d f n G->Q .non H2
def Od:Sp:=λvs H Q _=>∃r G,vs=[.ref r]/\H r=a' (.lst (G.map nat))/\G.length<=1000/\∀D H2,H D=f'->Same H H2->H2 D=a' (.lst ((M.fr G).map nat))->Q (.ref D) H2
theorem ay {α:Type} {f:α->V} {ws:eE α} {x:V} (h:(ws.map f)[i]? =a' x):∃k,ws[i]? =a' k/\x=f k:=by
 rw[gA] at h;cases e:ws[i]? with
 | none=>rw[e] at h;cases h
 | some k=>rw[e] at h;exact⟨k,rfl,(zx h).symm⟩
theorem take_succ {α:Type} {ws:eE α} {w:α} (h:ws[i]? =a' w):ws.take (i + 1)=ws.take i++[w]:=by rw[Xv,h];rfl
theorem Dy {α:Type} {ws:eE α} {w:α} (h:ws[i]? =a' w):(ws.take i).length=i:=by
 rw[wh];have:=(b'.mp h).1;omega
theorem om (ns:C'):(ns.map nat).all oq=true:=by simp[oq]
theorem MK {K:dt} {q:eH} {ns:C'} (e:SqL K H p (ns.map nat)) (G:SqL K H q (ns.map nat)) (h:Q (.bl (!neg)) H):rEqL K neg (.ref p) (.ref q) H Q:=by
 refine⟨p,q,_,_,rfl,rfl,e,G,om ns,om ns,?_⟩;rw[Jz (om ns)];cases neg<;>exact h
theorem RI {A:TQ} {k:Nat} (G:Room k A):A.units < cLine:=by have:=G.un;omega
theorem Ek (ns:N') (lo hi:T8 Int):∃G:N',cutV (ns.map V.int) lo hi=G.map V.int/\G.length<=ns.length:=by
 refine⟨(ns.drop (HT.sIx (ns.map V.int).length 0 lo)).take (HT.sIx (ns.map V.int).length (ns.map V.int).length hi - HT.sIx (ns.map V.int).length 0 lo),?_,?_⟩
 ·unfold cutV;rw[YN,YQ]
 ·rw[wh,Ww];omega
def DF (K:dt):Sp:=λvs H Q _=>∃(a:eH) (ns:N'),vs=[.ref a]/\SqL K H a (ns.map V.int)/\ns.length<=63/\∀H',Q (.bl true) H'
structure Prs (H:Hp) (ws:C') (D:eH) (ps:eE (eH×Nat)):Prop where
 l:H D=a' (.lst (ps.map λq=>V.ref q.1))
 t:∀q∈ps,H q.1=a' (.tup [nat q.2,nat (M.sm ws q.2)])
 b:∀q∈ps,q.2 < 2 ^ ws.length
end Sx
namespace M
theorem oI:∀(l:C') (j:Nat),sm l (2 ^ j)=l.getD j 0
 | [],j=>by simp[sm]
 | r::l,0=>by
   show(if (2 ^ 0).testBit 0 then r else 0)^^^sm l (2 ^ 0 / 2)=r;rw[show(2 ^ 0:Nat) / 2=0 from rfl,sm_zero];simp
 | r::l,j + 1=>by
   show(if (2 ^ (j + 1)).testBit 0 then r else 0)^^^sm l (2 ^ (j + 1) / 2)=l.getD j 0;have L:(2 ^ (j + 1)) / 2=2 ^ j:=by rw[W'];omega
   have G:(2 ^ (j + 1)).testBit 0=false:=by rw[zt];simp
   rw[L,G,oI l j];simp
theorem mm {P:C'->Prop} (h0:P []) (hs:∀l w,P l->P (l++[w])):∀l,P l:=by
 intro l;rw[<-Zo l];generalize l.reverse=k
 induction k with
 | nil=>exact h0
 | cons a k ih=>rw[WO];exact hs _ _ ih
theorem pl_next (i m:Nat):pl (i + 1) m=pl i m++(if m.testBit i then [i] else []):=by
 unfold pl;rw[Vs,V2];congr 1;by_cases h:m.testBit i=true
 ·rw[wb h];simp[h]
 ·rw[qb h];simp[h]
theorem pl_le (i m:Nat):(pl i m).length<=i:=by
 have:=Vd m.testBit (vu i);rw[TC] at this;exact this
theorem pl_lt {w m n:Nat} (h:m < 2 ^ n):∀x∈pl w m,x < n:=by
 intro x G;have hb:=(UT.mp G).2;refine Nat.lt_of_not_le λhn=>?_;rw[T9 (gm h (hJ @C hn))] at hb;cases hb
noncomputable def xs (G ps:C'):Nat:=ps.foldl (λa k=>a^^^G.getD k 0) 0
end M
namespace Sx
open PySem L2
theorem ID (l:C'):l.map nat=(l.map λ(k:Nat)=>(k:Int)).map V.int:=by rw[TU];rfl
section
variable {H:Hp} {Q:VK}
theorem Qm {l:C'} (e:H p=a' (.lst (l.map nat))) (h0:0 < l.length) (h:∀m∈l,(∀x∈l,x<=m)->Q (nat m) H):QJ [.ref p] H Q:=by
 refine⟨p,l.map λ(k:Nat)=>(k:Int),rfl,by rw[e,ID],by rw[bx];exact h0,λm hm L=>?_⟩;obtain⟨k,hk,rfl⟩:=hF.mp hm;refine h k hk λx G=>?_;have:=L (x:Int) (hF.mpr ⟨x,G,rfl⟩);omega
end
theorem CY (m:Nat):m < 2 ^ Tw (m:Int):=by
 by_cases h:m=0
 ·subst h;decide
 ·rw[o7 h];exact VA
theorem CZ {m w:Nat} (hm:m < 2 ^ w):Tw (m:Int)<=w:=by
 by_cases h:m=0
 ·subst h;rw[Bu];exact UY _
 ·rw[o7 h];exact(Yg h).mpr hm
def N9:Sp:=λvs H Q _=>∃m:Nat,vs=[nat m]/\m < 2 ^ 1000/\∀D H2,H D=f'->Same H H2->H2 D=a' (.lst ((M.pl 1000 m).map nat))->Q (.ref D) H2
end Sx
namespace M
noncomputable abbrev od (m:Nat):Bool:=pb 1000 m
theorem od_xor (a b:Nat):od (a^^^b)=(od a^^od b):=MT 1000 a b
theorem and_xor (m a b:Nat):m&&&(a^^^b)=(m&&&a)^^^(m&&&b):=by
 apply ix;intro i;simp only[Vr,TH];cases m.testBit i<;>simp
theorem uQ (m a b:Nat):(a^^^b)&&&m=(a&&&m)^^^(b&&&m):=by
 apply ix;intro i;simp only[Vr,TH];cases m.testBit i<;>simp
theorem zb:∀w:Nat,pb w 0=false
 | 0=>rfl
 | w + 1=>by show((0:Nat).testBit w^^pb w 0)=false;rw[zb w];simp
theorem pb_pow {w t:Nat} (h:t < w):pb w (2 ^ t)=true:=by
 rw[pb_up (w:=t + 1) (U0 @C @A) h];show((2 ^ t).testBit t^^pb t (2 ^ t))=true
 have e:pb t (2 ^ t)=false:=by
  rw[<-Ia,Nat.mod_self,zb]
 rw[e,Ud];rfl
theorem OC (t y:Nat):2 ^ t&&&y=if y.testBit t then 2 ^ t else 0:=by
 apply ix;intro i;rw[Vr,zt];by_cases h:t=i
 ·subst h;cases y.testBit t<;>simp
 ·cases y.testBit t<;>simp[h,zt]
theorem od_pow {t:Nat} (h:t < 1000) (y:Nat):od (2 ^ t&&&y)=y.testBit t:=by
 rw[OC];cases y.testBit t with
 | true=>rw[wb rfl];exact pb_pow h
 | false=>rw[qb hB];exact zb 1000
theorem od_zero:od 0=false:=zb 1000
theorem MW {k:Nat} (h:y < 2 ^ k):y.testBit k=false:=T9 h
theorem GU {t k:Nat} (h:y≠0) (e:y.log2=t) (l:t < k):y < 2 ^ k:=gm (by rw[<-e];exact VA) (hJ @C l)
structure Bar (rows:C') (b m:Nat):Prop where
 ev:∀y,Span rows y->od (m&&&y)=false
 bit:m.testBit b=true
 low:∀k,k < b->m.testBit k=false
 oth:∀k,k≠b->(∀y,Span rows y->y≠0->y.log2≠k)->m.testBit k=false
 lt:∀W,(∀r∈rows,r < 2 ^ W)->b < W->m < 2 ^ W
structure BarI (es:A') (ts:C') (b m:Nat):Prop where
 ev:∀e∈es,e.1.log2∈ts->od (m&&&e.1)=false
 bit:m.testBit b=true
 low:∀k,k < b->m.testBit k=false
 oth:∀k,k≠b->(∀e∈es,e.1.log2≠k)->m.testBit k=false
 lt:∀W,(∀e∈es,e.1 < 2 ^ W)->b < W->m < 2 ^ W
theorem BarI.zero (es:A') (b:Nat):BarI es [] b (2 ^ b) where
 ev:=λ_ _ h=>hD h @E
 bit:=Ud
 low:=λk h=>by rw[zt];simp;omega
 oth:=λk h _=>by rw[zt];simp;omega
 lt:=λW _ h=>U0 @C h
theorem LI {m b:Nat} (h:∀k,k < b->m.testBit k=false) (hy:y < 2 ^ b):m&&&y=0:=by
 apply ix;intro i;rw[Vr,U9];by_cases hi:i < b
 ·rw[h i hi];rfl
 ·rw[T9 (gm hy (hJ @C @A))];simp
theorem Dh (nd:(es.map λe=>e.1.log2).Nodup) {e f:Nat×Nat} (he:e∈es) (hf:f∈es) (h:e.1.log2=f.1.log2):e=f:=by
 obtain⟨i,hi,rfl⟩:=U6.mp he;obtain⟨j,L,rfl⟩:=U6.mp hf
 have G:∀i j (hi:i < es.length) (L:j < es.length),i < j->es[i].1.log2≠es[j].1.log2:=λi j hi L Y=>by
  have:=YJ.mp nd i j (by rw[bx];exact hi) (by rw[bx];exact L) Y;rw[XJ,XJ] at this;exact this
 rcases Yd i j with h1 | h1 | h1
 ·exact hD h (G i j hi L h1)
 ·subst h1;rfl
 ·exact hD h.symm (G j i L hi h1)
theorem BarI.keep {b m:Nat} (I:BarI es ts b m) {e:Nat×Nat} (nd:(es.map λe=>e.1.log2).Nodup) (he:e∈es) (h:od (m&&&e.1)=false):BarI es (ts++[e.1.log2]) b m where
 ev:=λf hf hm=>by
  rcases gz.mp hm with hm | hm
  ·exact I.ev f hf hm
  ·rw[gs] at hm;rw[Dh nd hf he hm];exact h
 bit:=I.bit
 low:=I.low
 oth:=I.oth
 lt:=I.lt
theorem BarI.flip {b m:Nat} (I:BarI es ts b m) {e:Nat×Nat} (nd:(es.map λe=>e.1.log2).Nodup) (nz:∀e∈es,e.1≠0) (he:e∈es) (h:od (m&&&e.1)=true) (up:∀t∈ts,t < e.1.log2) (hb:e.1.log2≠b) (G:e.1.log2 < 1000):BarI es (ts++[e.1.log2]) b (m^^^2 ^ e.1.log2):=by
 have Z:b < e.1.log2:=by
  refine Nat.lt_of_le_of_ne (Yn λL=>?_) (Ts hb);rw[LI I.low (GU (nz e he) rfl L),od_zero] at h;cases h
 have Y:=nz e he;refine⟨λf hf hm=>?_,?_,λk hk=>?_,λk hk hn=>?_,λW ψ δ=>?_⟩
 ·rw[uQ,od_xor,od_pow G];rcases gz.mp hm with hm | hm
  ·rw[I.ev f hf hm,MW (GU (nz f hf) rfl (up _ hm))];rfl
  ·rw[gs] at hm;rw[Dh nd hf he hm,h,o8 Y];rfl
 ·rw[TH,I.bit,zt];simp;omega
 ·rw[TH,I.low k hk,zt];simp;omega
 ·rw[TH,I.oth k hk hn,zt];have:=hn e he;simp;omega
 ·exact xor_lt_pow (I.lt W ψ δ) (Uu (ab1 Y) (ψ e he))
theorem Ech.even_all (g:Ech es G) {m:Nat} (h:∀e∈es,od (m&&&e.1)=false):∀y,Span G y->od (m&&&y)=false:=by
 intro y
 induction y using ab8 with
 | ind y ih=>
   intro Y;by_cases L:y=0
   ·subst L;rw[VD,od_zero]
   ·obtain⟨e,he,el⟩:=g.all y Y L;have α:=g.nz e he;have hl:=xor_less L α el.symm;have h1:=ih _ hl (span_xor Y (g.span he));have h2:=h e he;have Z:od (m&&&(y^^^e.1))=(od (m&&&y)^^od (m&&&e.1)):=by rw[and_xor,od_xor]
    rw[h1,h2] at Z;simpa using Z.symm
theorem BarI.done (g:Ech es G) {b m:Nat} (I:BarI es ts b m) (all:∀e∈es,e.1.log2∈ts):Bar G b m where
 ev:=g.even_all λe he=>I.ev e he (all e he)
 bit:=I.bit
 low:=I.low
 oth:=λk hk h=>I.oth k hk λe he=>h e.1 (g.span he) (g.nz e he)
 lt:=λW ψ hb=>I.lt W (λe he=>span_lt ψ (g.span he)) hb
theorem Bar.odd {b m:Nat} (B:Bar G b m) (h0:x^^^sm G q≠0) (hb:(x^^^sm G q).log2=b) (L:b < 1000):od (m&&&x)=true:=by
 have Z:m&&&x=(m&&&(x^^^sm G q))^^^(m&&&sm G q):=by rw[<-and_xor,b9]
 rw[Z,od_xor,B.ev _ (sm_span G q)]
 have Y:m&&&(x^^^sm G q)=2 ^ b:=by
  apply ix;intro i;rw[Vr,zt];rcases Yd i b with h | h | h
  ·rw[B.low i h];simp;omega
  ·subst h;rw[B.bit,<-hb,o8 h0];simp
  ·rw[MW (GU h0 hb h)];simp;omega
 rw[Y];show(pb 1000 (2 ^ b)^^false)=true;rw[pb_pow L];rfl
theorem EE:∀G:C',∃ks,Sums ks G/\ks.length=2 ^ (fr G).length:=by
 refine mm ⟨[0],Sums.zero,rfl⟩ λG r ih=>?_;obtain⟨ks,S,e⟩:=ih;by_cases h:Span G r
 ·exact⟨ks,S.keep h,by rw[fr_in h];exact e⟩
 ·refine⟨_,S.step h,?_⟩;rw[fr_out h,eP,eP,bx,e,Tu,W'];omega
theorem HG {t:Nat} (h:∀r∈G,r < 2 ^ t):(fr G).length<=t:=by
 obtain⟨ks,S,e⟩:=EE G;have:=S.few h;rw[e] at this;exact(Nat.pow_le_pow_iff_right @C).mp this
theorem OG (w m:Nat):pb (w + 1) m=(m.testBit 0^^pb w (m / 2)):=by
 rw[Yj,uK 1 w m,TR];congr 1;show(m.testBit 0^^false)=_;simp
theorem sum_uniq {p:Nat} (γ:Frs G p) (hq:Frs G q) (e:sm G p=sm G q):p=q:=by
 refine Classical.byContradiction fun α=>?_;have hf:=γ.xor hq;have hz:sm G (p^^^q)=0:=by rw[sm_xor,e,Vx]
 have δ:p^^^q≠0:=λz=>α (by have:=T4 (·^^^q) z;simpa[b9] using this);generalize p^^^q=z at hf hz δ;obtain⟨hi,hn⟩:=hf z.log2 (o8 δ);apply hn;have β:z=(z^^^2 ^ z.log2)^^^2 ^ z.log2:=(b9 _ _).symm
 have L:z^^^2 ^ z.log2 < 2 ^ z.log2:=by
  have:=Dc δ (show 2 ^ z.log2≠0 from UK (T5 _)) (by rw[Nat.log2_two_pow]);exact this
 generalize η:z^^^2 ^ z.log2=y at β L;generalize z.log2=t at β L hi
 have Z:G=G.take t++(G.getD t 0::G.drop (t + 1)):=by
  rw[ec,ed hi];show G=G.take t++(G[t]::G.drop (t + 1));rw[<-List.drop_eq_getElem_cons hi,VY]
 have Y:∀(as bs:C') (s:Nat),s < 2 ^ as.length->sm (as++bs) s=sm as s:=by
  intro as bs
  induction as with
  | nil=>
    intro s hs;have ζ:s=0:=by have:s < 1:=hs;omega
    rw[ζ,sm_zero,sm_zero]
  | cons a as ih=>
    intro s hs;show(if s.testBit 0 then a else 0)^^^sm (as++bs) (s / 2)=(if s.testBit 0 then a else 0)^^^sm as (s / 2);rw[ih (s / 2) (by rw[U4,W'] at hs;omega)]
 have υ:(G.take t).length=t:=by rw[wh];omega
 have h1:sm G y=sm (G.take t) y:=by
  conv=>lhs;rw[Z]
  exact Y _ _ y (by rw[υ];exact L)
 have h2:sm G (2 ^ t)=G.getD t 0:=by
  have ε:G=(G.take t++[G.getD t 0])++G.drop (t + 1):=by rw[Wh];exact Z
  conv=>lhs;rw[ε]
  rw[Y _ _ (2 ^ t) (by rw[eP,υ,Tu];exact U0 @C @A)];have:=Hi (G.take t) (G.getD t 0);rw[υ] at this;exact this
 rw[β,sm_xor,h1,h2] at hz
 have:G.getD t 0=sm (G.take t) y:=by
  have:=T4 (sm (G.take t) y^^^·) hz;simp only[<-UG,Vx,VR,UJ] at this;exact this
 rw[this];exact sm_span _ _
theorem oH {l:C'} {m:Nat} (h:m∈l):Span l m:=by
 obtain⟨j,G,rfl⟩:=U6.mp h;have:=sm_span l (2 ^ j);rw[oI,ec,ed G] at this;exact this
end M
namespace Sx
open PySem L2
noncomputable def cell (ns:N') (k:Int):Int:=if k < ns.length then ns.getD k.toNat 0 else 41 * k + 3
def DG (K:dt):Sp:=λvs H Q _=>∃(p:eH) (ns:N') (k:Int),vs=[.ref p,.int k]/\SqL K H p (ns.map V.int)/\0<=k/\Q (.int (cell ns k)) H
theorem z6 {K:dt} {k:Int} (e:SqL K H p (ns.map V.int)) (h0:0<=k) (q:Q (.int (cell ns k)) H):DG K [.ref p,.int k] H Q E:=⟨p,ns,k,rfl,e,h0,q⟩
def N7:Sp:=λvs H Q _=>∃m:Nat,vs=[nat m]/\m < 2 ^ 1000/\Q (.bl (!M.od m)) H
theorem Jy (n h:Nat):U5 ((n:Int) / 2 ^ ((h:Int).toNat)) (V9 (n:Int) (1 * 2 ^ ((h:Int).toNat) - 1))=(((n>>>h)^^^(n&&&(2 ^ h - 1)):Nat):Int):=by
 rw[ov,Int.one_mul,y9];have L:(n:Int) / ((2 ^ h:Nat):Int)=((n>>>h:Nat):Int):=by rw[TR];norm_cast
 have G:((2 ^ h:Nat):Int) - 1=((2 ^ h - 1:Nat):Int):=by have:=T5 h;omega
 rw[L,G,d8,dB]
theorem Jh (wd:Nat):((wd:Int) + 1) / 2=(((wd + 1) / 2:Nat):Int):=by omega
theorem Lz {n:Nat} (h:n < 2):decide (nat n=V.int 0)= !M.od n:=by
 have:n=0∨n=1:=by omega
 rcases this with rfl | rfl
 ·rw[M.od_zero];decide
 ·rw[show M.od 1=true from M.pb_pow (t:=0) @C];decide
def Sm (G:C') (b:Nat):Prop:=∀y,M.Span G y->y≠0->y.log2≠b
def Qb (C:eH):Sp:=λvs H Q _=>∃(p d f n:eH) (G:C') (b:Nat),vs=[.ref p,nat b]/\StA H C p d f n G/\b < 1000/\(∀r∈G,r < 2 ^ 1000)/\(M.fr G).length < 64/\Sm G b/\
 ∀m H2,Same H H2->M.Bar G b m->Q (nat m) H2
structure Acr (rows:C') (wd:Nat) (ms:C'):Prop where
 len:ms.length + (M.fr rows).length=wd
 inj:M.Inj ms
 lt:∀m∈ms,m < 2 ^ wd
 ev:∀m∈ms,∀y,M.Span rows y->M.od (m&&&y)=false
 all:∀z,z < 2 ^ wd->(∀y,M.Span rows y->M.od (z&&&y)=false)->M.Span ms z
theorem LO (es:eE En):(rq es).map (·.1)=(es.map λe=>((e.m.log2:Nat):Int)).map Sum.inl:=by unfold rq;rw[TU,TU];rfl
theorem BL {es:eE En} (α:ns.Perm (es.map λe=>((e.m.log2:Nat):Int))) (hw:ns.Pairwise (·<=·)) (nd:(es.map λe=>e.m.log2).Nodup):
  ∃ts:C',ns=ts.map (λ(k:Nat)=>(k:Int))/\ts.Pairwise (· < ·)/\(∀t,t∈ts↔∃e∈es,e.m.log2=t):=by
 have hn:∀x∈ns,((x.toNat:Nat):Int)=x:=λx Y=>by
  obtain⟨e,_,rfl⟩:=hF.mp (α.mem_iff.mp Y);omega
 have β:ns=(ns.map XG).map (λ(k:Nat)=>(k:Int)):=by
  rw[TU];exact(XA ns).symm.trans (UV λx Y=>(hn x Y).symm)
 have G:(ns.map XG).Perm (es.map λe=>e.m.log2):=by
  have:=α.map XG;rw[TU] at this;exact this
 refine⟨ns.map XG,β,?_,λt=>?_⟩
 ·have L:(ns.map XG).Nodup:=G.nodup_iff.mpr nd
  have Z:(ns.map XG).Pairwise (·<=·):=by
   rw[Y6];exact hw.imp λh=>by omega
  exact List.Pairwise.imp (R:=λa b=>a<=b/\a≠b) (λh=>by omega) (List.Pairwise.and Z L)
 ·rw[G.mem_iff,hF]
end Sx
namespace M
noncomputable def cm (a b:Nat):Nat:=if b=0 then 0 else (if b % 2=1 then a else 0)^^^2 * cm a (b / 2)
termination_by b
decreasing_by omega
def Dv (d x:Nat):Prop:=∃q,cm q d=x
structure Rm (d x r:Nat):Prop where
 lt:r < 2 ^ d.log2
 dv:Dv d (x^^^r)
end M
namespace Sx
open PySem L2
noncomputable def dg (m:Nat):Int:=(Tw (m:Int):Int) - 1
theorem Og (a p:Nat):(a:Int) * 2 ^ ((p:Int).toNat)=((a * 2 ^ p:Nat):Int):=by rw[ov];push_cast;rfl
end Sx
namespace M
structure Ord (d e:Nat):Prop where
 pos:1<=e
 one:Rm d (2 ^ e) 1
 least:∀j,1<=j->j < e->¬Rm d (2 ^ j) 1
 le:e<=2 ^ d.log2
end M
namespace Sx
open PySem L2
noncomputable def GR (k:V7):Bool:=subB k "int"&& !subB k "bool"
noncomputable def pC (x:V) (w:Int):Bool:=match x with
 | .int i=>decide (0<=i)&&decide (((Tw i:Nat):Int)<=w)
 | _=>false
def uH (K:dt):Sp:=λvs H Q _=>∃x k,vs=[x]/\mH K H x k/\Q (.bl (GR k)) H
def BN (K:dt):Sp:=λvs H Q _=>∃x k w,vs=[x,.int w]/\mH K H x k/\Q (.bl (pC x w)) H
theorem fT {K:dt} {x:V} {k:V7} (hk:mH K H x k) (q:Q (.bl (GR k)) H):uH K [x] H Q E:=⟨x,k,rfl,hk,q⟩
theorem jf {K:dt} {x:V} {k:V7} {i:Int} (hk:mH K H x k) (q:Q (.bl (pC x i)) H):BN K [x,.int i] H Q E:=⟨x,k,i,rfl,hk,q⟩
theorem iG {c m:Int} (h:0 < m):∃k:Nat,c % m=(k:Int)/\(k:Int) < m:=by
 obtain⟨k,hk⟩:=UH (Uj c (Int.ne_of_gt h));exact⟨k,hk,by rw[<-hk];exact U3 c h⟩
theorem Om {k:Int} {xs:eE V} (e:H l=a' (.lst xs)) (h0: -(2 ^ 63)<=k) (h1:k < 2 ^ 63) (hz:xs.length * k.toNat<=hR) (h:∀p H2,H p=f'->Same H H2->H2 p=a' (.lst (lj k.toNat xs).flatten)->Q (.ref p) H2):rRep (.ref l) (.int k) H Q:=
 ⟨l,k,xs,rfl,rfl,e,h0,h1,hz,jI h⟩
end Sx
namespace M
noncomputable def bn (b:UD):Nat:=if b then 1 else 0
noncomputable def pk (s:Nat->UD) (t:Nat):Nat->Nat
 | 0=>0
 | L + 1=>pk s t L^^^(if s (t + L) then 2 ^ L else 0)
theorem pk_lt (s:Nat->UD) (t:Nat):∀L,pk s t L < 2 ^ L
 | 0=>Nat.one_pos
 | L + 1=>by
   have ih:=pk_lt s t L;refine xor_lt_pow (gm ih (hJ @C @A)) ?_;split
   ·exact U0 @C @A
   ·exact T5 _
theorem pk_bit (s:Nat->UD) (t:Nat):∀L p,(pk s t L).testBit p=(decide (p < L)&&s (t + p))
 | 0,p=>by simp[pk]
 | L + 1,p=>by
   rw[pk,TH,pk_bit s t L p];rcases Yd p L with h | h | h
   ·have e:(if s (t + L)=true then 2 ^ L else 0:Nat).testBit p=false:=by
     cases s (t + L)<;>simp[zt];omega
    rw[e];simp[h,show p < L + 1 by omega]
   ·subst h;cases hs:s (t + p)<;>simp[Ud]
   ·have e:(if s (t + L)=true then 2 ^ L else 0:Nat).testBit p=false:=by
     cases s (t + L)<;>simp[zt];omega
    rw[e];simp[show ¬p < L by omega,show ¬p < L + 1 by omega]
theorem DQ {s u:Nat->UD} {t v:Nat}:∀{L:Nat},(∀p,p < L->s (t + p)=u (v + p))->pk s t L=pk u v L
 | 0,_=>rfl
 | L + 1,h=>by rw[pk,pk,DQ λp G=>h p @A,h L @A]
noncomputable def lf (G:Nat):Nat->(Nat->UD)->Nat->UD
 | 0,_,_=>false
 | L + 1,s,t=>lf G L s t^^(G.testBit L&&s (t + L))
noncomputable def tr (as:C') (x:Nat):Nat:=pk (λk=>od (as.getD k 0&&&x)) 0 as.length
noncomputable def stt (as:C') (x:Nat):Nat->Nat
 | 0=>x
 | t + 1=>tr as (stt as x t)
noncomputable def ans (as:C') (o x t:Nat):Bool:=od (o&&&stt as x t)
noncomputable def lm (L G:Nat):C':=(vu (L - 1)).map (λp=>2 ^ (p + 1))++(if 0 < L then [G] else [])
end M
namespace Sx
open PySem L2
noncomputable abbrev Pr3:=eH×Nat×Nat
variable {At nx zn:eE Pr3}
noncomputable def refs (ps:eE Pr3):eE V:=ps.map λq=>V.ref q.1
def Prt (H:Hp) (ps:eE Pr3):Prop:=∀q∈ps,H q.1=a' (.tup [nat q.2.1,nat q.2.2])
theorem Prt.same {ps:eE Pr3} (x:Prt H ps) (s:Same H H2):Prt H2 ps:=λq h=>s _ _ (x q h)
structure MaA (H:Hp) (C p:eH) (m:Nat) (nx os:eE Pr3):Prop where
 ho:∃dx tn to,H p=a' (.ins C dx [("inputs",nat m),("nexts",.ref tn),("outs",.ref to)])/\H tn=a' (.tup (refs nx))/\H to=a' (.tup (refs os))
 hn:Prt H nx
 hs:Prt H os
theorem MaA.same {m:Nat} {os:eE Pr3} (x:MaA H C p m nx os) (s:Same H H2):MaA H2 C p m nx os:=
 ⟨let ⟨dx,G,to,a,b,c⟩:=x.ho;⟨dx,G,to,s _ _ a,s _ _ b,s _ _ c⟩,x.hn.same s,x.hs.same s⟩
noncomputable def sq (bs:eE UD):Nat->Bool:=λi=>bs.getD i false
def G7:Sp:=λvs H Q _=>∃(r:eH) (ps:C'),vs=[.ref r]/\H r=a' (.lst (ps.map nat))/\(∀p∈ps,p < 1000)/\Q (nat (M.xm ps)) H
def KY:Sp:=λvs H Q _=>∃(t:eH) (x y n m:Nat),vs=[.ref t,nat n,nat m]/\H t=a' (.tup [nat x,nat y])/\x < 2 ^ n/\y < 2 ^ m/\Q (.bl true) H
structure Tab (H:Hp) (n o:eH) (m:Nat) (nx os:eE Pr3):Prop where
 m6:m<=6
 n:H n=a' (.lst (refs nx))
 o:H o=a' (.lst (refs os))
 pn:Prt H nx
 po:Prt H os
 ln:nx.length<=120
 lo:os.length<=6
 bn:∀q∈nx++os,q.2.1 < 2 ^ nx.length/\q.2.2 < 2 ^ m
def N8:Sp:=λvs H Q _=>∃(n o:eH) (m:Nat) (nx os:eE Pr3),vs=[nat m,.ref n,.ref o]/\Tab H n o m nx os/\∀H2,Same H H2->Q .non H2
def N4 (C:eH):Sp:=λvs H Q _=>∃(x dx n o:eH) (m:Nat) (nx os:eE Pr3),vs=[.ref x,nat m,.ref n,.ref o]/\H x=a' (.ins C dx [])/\Tab H n o m nx os/\∀H2,(∀b ob,b≠x->H b=a' ob->H2 b=a' ob)->MaA H2 C x m nx os->Q .non H2
def G0 (C:eH):Sp:=λvs H Q _=>∃(p:eH) (m:Nat) (nx os:eE Pr3),vs=[.ref p]/\MaA H C p m nx os/\Q (nat nx.length) H
structure Lfsr (nx os:eE Pr3) (L G:Nat):Prop where
 nx:nx.map (λq=>q.2.1)=M.lm L G
 os:∃t,os=[(t,(if 0 < L then 1 else 0),0)]
theorem cH {a n:Nat} (h:a < 2 ^ n):pC (nat a) (n:Int)=true:=by
 have:=CZ h;show(decide ((0:Int)<=(a:Int))&&decide (((Tw (a:Int):Nat):Int)<=(n:Int)))=true;rw[gB @A,gB @A];rfl
theorem NH {ps:C'} {k:Nat} (h:ps[i]? =a' k):M.xm (ps.take (i + 1))=M.xm (ps.take i)^^^2 ^ k:=by rw[take_succ h];unfold M.xm;rw[V1];rfl
theorem GH {w m:Nat} (h:m < 2 ^ w):M.xm (M.pl w m)=m:=M.xm_ext h λk=>rfl
noncomputable abbrev ms (nx:eE Pr3):C':=nx.map λq=>q.2.1
end Sx
variable {At nx zn:eE Sx.Pr3}
namespace M
noncomputable def tr2 (ps:A') (x r:Nat):Nat:=pk (λk=>od ((ps.getD k (0,0)).1&&&x)^^od ((ps.getD k (0,0)).2&&&r)) 0 ps.length
theorem tr2_bit (ps:A') (x r k:Nat):(tr2 ps x r).testBit k=(decide (k < ps.length)&&(od ((ps.getD k (0,0)).1&&&x)^^od ((ps.getD k (0,0)).2&&&r))):=by unfold tr2;rw[pk_bit,Vf]
theorem tr2_lt (ps:A') (x r:Nat):tr2 ps x r < 2 ^ ps.length:=pk_lt _ _ _
theorem tr2_snoc (ps:A') (p:Nat×Nat) (x r:Nat):tr2 (ps++[p]) x r=tr2 ps x r^^^(if (od (p.1&&&x)^^od (p.2&&&r)) then 2 ^ ps.length else 0):=by
 unfold tr2;rw[eP,Tu,pk,Vf];have L:(ps++[p]).getD ps.length (0,0)=p:=by rw[ec,lT (sb _),Xf];rfl
 rw[L]
 have G:pk (λk=>od (((ps++[p]).getD k (0,0)).1&&&x)^^od (((ps++[p]).getD k (0,0)).2&&&r)) 0 ps.length=pk (λk=>od ((ps.getD k (0,0)).1&&&x)^^od ((ps.getD k (0,0)).2&&&r)) 0 ps.length:=DQ λk hk=>by
  rw[Vf,ec,ec,kv hk]
 rw[G]
theorem yP (ps:A') (x y r s:Nat):tr2 ps (x^^^y) (r^^^s)=tr2 ps x r^^^tr2 ps y s:=by
 apply ix;intro i;rw[TH,tr2_bit,tr2_bit,tr2_bit,and_xor,od_xor,and_xor,od_xor];cases decide (i < ps.length)<;>cases od ((ps.getD i (0,0)).1&&&x)<;>cases od ((ps.getD i (0,0)).1&&&y)<;>cases od ((ps.getD i (0,0)).2&&&r)<;>cases od ((ps.getD i (0,0)).2&&&s)<;>rfl
theorem yN (ps:A'):tr2 ps 0 0=0:=by
 apply ix;intro i;rw[tr2_bit,VD,VD,od_zero];simp
noncomputable def wst (ps:A'):Nat->C'->Nat
 | x,[]=>x
 | x,r::rs=>wst ps (tr2 ps x r) rs
noncomputable def wan (ps os:A'):Nat->C'->C'
 | _,[]=>[]
 | x,r::rs=>tr2 os x r::wan ps os (tr2 ps x r) rs
theorem wst_snoc (ps:A') (r:Nat):∀(rs:C') (x:Nat),wst ps x (rs++[r])=tr2 ps (wst ps x rs) r
 | [],_=>rfl
 | _::rs,_=>wst_snoc ps r rs _
theorem wan_snoc (ps os:A') (r:Nat):∀(rs:C') (x:Nat),wan ps os x (rs++[r])=wan ps os x rs++[tr2 os (wst ps x rs) r]
 | [],_=>rfl
 | _::rs,_=>T4 (_::·) (wan_snoc ps os r rs _)
theorem wan_len (ps os:A'):∀(rs:C') (x:Nat),(wan ps os x rs).length=rs.length
 | [],_=>rfl
 | _::rs,_=>T4 (· + 1) (wan_len ps os rs _)
theorem wst_lt {ps:A'}:∀{rs:C'} {x:Nat},x < 2 ^ ps.length->wst ps x rs < 2 ^ ps.length
 | [],_,h=>h
 | r::rs,x,_=>wst_lt (rs:=rs) (tr2_lt ps x r)
theorem xm_snoc (qs:C') (k:Nat):xm (qs++[k])=xm qs^^^2 ^ k:=by unfold xm;rw[V1];rfl
theorem rev_ind {α:Type} {P:eE α->Prop} (h0:P []) (h1:∀l x,P l->P (l++[x])) (l:eE α):P l:=by
 have:∀l:eE α,P l.reverse:=λl=>by
  induction l with
  | nil=>exact h0
  | cons x l ih=>rw[WO];exact h1 _ _ ih
 have:=this l.reverse;rwa [Zo] at this
theorem Iq (s x r:Nat) (ps:A') (h:ps.length<=1000):od (s&&&tr2 ps x r)=(od (sm (ps.map (·.1)) s&&&x)^^od (sm (ps.map (·.2)) s&&&r)):=by
 induction ps using rev_ind with
 | h0=>show od (s&&&0)=(od (0&&&x)^^od (0&&&r));rw[VD,Vq,Vq,od_zero];rfl
 | h1 ps p ih=>
   rw[eP,Tu] at h;have ih:=ih @A;rw[tr2_snoc,and_xor,od_xor,ih,ef,ef,VG,VG,iU,iU,bx,bx];generalize hb:(od (p.1&&&x)^^od (p.2&&&r))=b
   have L:od (s&&&(if b=true then 2 ^ ps.length else 0))=(b&&s.testBit ps.length):=by
    cases b with
    | true=>rw[wb rfl,Up,od_pow @A];simp
    | false=>rw[qb hB,VD,od_zero];simp
   rw[L];have G:∀u v t:Nat,od ((u^^^v)&&&t)=(od (u&&&t)^^od (v&&&t)):=λu v t=>by rw[Up,and_xor,od_xor,Up,Up t v]
   rw[G,G];cases s.testBit ps.length with
   | true=>rw[wb rfl,wb rfl,<-hb];cases od (sm (ps.map (·.1)) s&&&x)<;>cases od (sm (ps.map (·.2)) s&&&r)<;>cases od (p.1&&&x)<;>cases od (p.2&&&r)<;>rfl
   | false=>rw[qb hB,qb hB,Vq,Vq,od_zero];cases b<;>simp
noncomputable def pulse (i T:Nat):C':=(vu T).map λt=>if t=0 then 2 ^ i else 0
theorem pulse_len (i T:Nat):(pulse i T).length=T:=by unfold pulse;rw[bx,TC]
theorem pulse_eq (i T:Nat):(2 ^ i::lj T 0).take T=pulse i T:=by
 unfold pulse;apply XM
 ·rw[wh,U4,Uv,bx,TC];omega
 ·intro j h1 h2;rw[XJ,List.getElem_range,WQ];cases j with
  | zero=>rfl
  | succ j=>rw[List.getElem_cons_succ,Z8];rfl
theorem pulse_lt {m:Nat} (h:i < m) (T:Nat):∀r∈pulse i T,r < 2 ^ m:=λr G=>by
 obtain⟨t,_,rfl⟩:=hF.mp G;show(if t=0 then 2 ^ i else 0) < 2 ^ m;split
 ·exact U0 @C h
 ·exact T5 _
theorem Hj (s:Nat) (h:G[i]? =a' r):sm (G.take (i + 1)) s=sm (G.take i) s^^^(if s.testBit i then r else 0):=by
 have hi:=(b'.mp h).1;have e:G.take (i + 1)=G.take i++[r]:=by rw[Y5,h];rfl
 rw[e,iU,wh,Yu @A]
theorem sm_places (G:C') (s:Nat) (h:s < 2 ^ G.length) (w:Nat) (hw:G.length<=w):(pl w s).foldl (λa p=>a^^^G.getD p 0) 0=sm G s:=by
 rw[pl_up h hw]
 have L:∀k,k<=G.length->(pl k s).foldl (λa p=>a^^^G.getD p 0) 0=sm (G.take k) s:=by
  intro k
  induction k with
  | zero=>intro _;rfl
  | succ k ih=>
    intro hk;have Y:G[k]? =a' (G.getD k 0):=by rw[ec,ed @A];rfl
    have χ:pl (k + 1) s=pl k s++(if s.testBit k then [k] else []):=by
     unfold pl;rw[Vs,V2];congr 1;cases hb:s.testBit k<;>simp[hb]
    rw[χ,V1,ih @A,Hj s Y];cases s.testBit k<;>simp
 have:=L G.length (sb _);rwa [i'] at this
end M
namespace Sx
open PySem L2
structure MaG (m:Nat) (nx os:eE Pr3):Prop where
 m6:m<=6
 ln:nx.length<=120
 lo:os.length<=6
 bn:∀q∈nx++os,q.2.1 < 2 ^ nx.length/\q.2.2 < 2 ^ m
theorem Tab.same {n o:eH} {m:Nat} {os:eE Pr3} (t:Tab H n o m nx os) (s:Same H H2):Tab H2 n o m nx os:=⟨t.m6,s.get t.n,s.get t.o,t.pn.same s,t.po.same s,t.ln,t.lo,t.bn⟩
noncomputable abbrev prs (nx:eE Pr3):A':=nx.map (·.2)
theorem aE (nx:eE Pr3):(prs nx).length=nx.length:=bx ..
theorem HS {q:Pr3} (h:nx[i]? =a' q):(prs nx)[i]? =a' q.2:=by rw[gA,h];rfl
theorem gU (nx:eE Pr3):(refs nx).length=nx.length:=bx ..
theorem h7 {n:Nat} (h:x < 2 ^ n) (hn:n<=1000):x < 2 ^ 1000:=gm h (hJ @C hn)
theorem MaG.b1 {m:Nat} {os:eE Pr3} (g:MaG m nx os):∀q∈nx,q.2.1 < 2 ^ 1000/\q.2.2 < 2 ^ 1000:=λq h=>have:=g.ln;have:=g.m6;have b:=g.bn q (iv _ h);⟨h7 b.1 @A,h7 b.2 @A⟩
theorem MaG.b2 {m:Nat} {os:eE Pr3} (g:MaG m nx os):∀q∈os,q.2.1 < 2 ^ 1000/\q.2.2 < 2 ^ 1000:=λq h=>have:=g.ln;have:=g.m6;have b:=g.bn q (hW _ h);⟨h7 b.1 @A,h7 b.2 @A⟩
theorem OB {u:HO} (h:Rd H a u) (s:Same H H2):Rd H2 a u:=h.imp (s _ _) λ⟨o,e⟩=>⟨o,s _ _ e⟩
theorem IY {K:dt} {x:V} {k:V7} (h:mH K H x k) (s:Same H H2):mH K H2 x k:=by
 cases x with
 | ref p=>exact Or.imp (λ⟨a,xs,e⟩=>⟨a,xs,Same.seq s e⟩) (Or.imp (λ⟨a,xs,e⟩=>⟨a,xs,Same.tup s e⟩) λ⟨a,xs,e⟩=>⟨a,xs,OB e s⟩) h
 | _=>exact h
def Kj (K:dt) (H:Hp) (xs:eE V):Prop:=∀x∈xs,∃k,mH K H x k
theorem Kj.nats (K:dt) (H:Hp) (rs:C'):Kj K H (rs.map nat):=λx G=>by
 obtain⟨r,_,rfl⟩:=hF.mp G;exact⟨"int",rfl⟩
theorem uL {x:V} {n:Nat} (h:pC x (n:Int)=true):∃a:Nat,x=nat a/\a < 2 ^ n:=by
 cases x with
 | int i=>
   have h:(decide ((0:Int)<=i)&&decide (((Tw i:Nat):Int)<=(n:Int)))=true:=h;simp only[TZ,Us] at h;obtain⟨a,rfl⟩:=UH h.1;exact⟨a,rfl,gm (CY a) (hJ @C @A)⟩
 | _=>cases h
noncomputable def idxB (x:V) (m:Nat):Bool:=match x with
 | .int i=>decide (0<=i)&&decide (i < (m:Int))
 | _=>false
theorem GG (x y:UD):(!decide (V.bl (!x)=V.bl (!y)))=(x^^y):=by cases x<;>cases y<;>rfl
theorem KL {ps:eE Pr3} {q:Pr3} (x y:Nat) (h:ps[i]? =a' q):M.tr2 (prs (ps.take (i + 1))) x y=M.tr2 (prs (ps.take i)) x y^^^(if (M.od (q.2.1&&&x)^^M.od (q.2.2&&&y)) then 2 ^ i else 0):=by
 have hl:(prs (ps.take i)).length=i:=by rw[aE];exact Dy h
 rw[take_succ h];unfold prs at hl ⊢;rw[ef,VG,M.tr2_snoc,hl]
theorem Ej (xs:eE V) (y:Nat) (hy:y<=xs.length):cutV xs f' (a' (y:Int))=xs.take y:=by
 unfold cutV;rw[HT.sIx_nat,HT.sIx_none,Yu hy,Nat.sub_zero,List.drop_zero]
theorem gj {a b:Nat} (h:nat a=nat b):a=b:=by
 have h:(a:Int)=(b:Int):=V.int.inj h;omega
def K6:Sp:=λvs H Q _=>∃(t:eH) (a b x r:Nat),vs=[.ref t,nat x,nat r]/\H t=a' (.tup [nat a,nat b])/\a < 2 ^ 1000/\b < 2 ^ 1000/\Q (.bl (M.od (a&&&x)^^M.od (b&&&r))) H
def NZ (K:dt):Sp:=λvs H Q _=>∃(r:eH) (ps:eE Pr3) (x y:Nat),vs=[.ref r,nat x,nat y]/\SqT K H r (refs ps)/\Prt H ps/\ps.length<=1000/\(∀q∈ps,q.2.1 < 2 ^ 1000/\q.2.2 < 2 ^ 1000)/\∀H2,Same H H2->Q (nat (M.tr2 (prs ps) x y)) H2
def Qa (K:dt) (C B:eH):Sp:=λvs H Q E=>∃(p:eH) (m:Nat) (nx os:eE Pr3) (x:V) (k:V7),vs=[.ref p,x]/\MaA H C p m nx os/\mH K H x k/\(pC x nx.length=true->Q .non H)/\(pC x nx.length=false->E (.ref B) f' H)
def K1 (K:dt) (C B:eH):Sp:=λvs H Q E=>∃(p:eH) (m:Nat) (nx os:eE Pr3) (x y:V) (kx G:V7),vs=[.ref p,x,y]/\MaA H C p m nx os/\MaG m nx os/\mH K H x kx/\mH K H y G/\
 (∀a b:Nat,x=nat a->y=nat b->a < 2 ^ nx.length->b < 2 ^ m->∀(t:eH) (H2:Hp),Same H H2->H2 t=a' (.tup [nat (M.tr2 (prs os) a b),nat (M.tr2 (prs nx) a b)])->Q (.ref t) H2)/\
 (pC x nx.length=false∨pC y m=false->E (.ref B) f' H)
structure Sq (K:dt) (H:Hp) (C p rr:eH) (m:Nat) (nx os:eE Pr3) (x:V) (xs:eE V):Prop where
 ma:MaA H C p m nx os
 g:MaG m nx os
 kx:∃k,mH K H x k
 sq:SqL K H rr xs
 ks:Kj K H xs
 ln:xs.length<=1000
def Good (m:Nat) (nx:eE Pr3) (x:V) (xs:eE V) (a:Nat) (rs:C'):Prop:=x=nat a/\xs=rs.map nat/\a < 2 ^ nx.length/\∀r∈rs,r < 2 ^ m
def Bad (m:Nat) (nx:eE Pr3) (x:V) (xs:eE V):Prop:=pC x nx.length=false∨∃y∈xs,pC y m=false
def KO (K:dt) (C B:eH):Sp:=λvs H Q E=>∃(p G:eH) (m:Nat) (nx os:eE Pr3) (x:V) (xs:eE V),vs=[.ref p,.ref G,x]/\Sq K H C p G m nx os x xs/\
 (∀a rs,Good m nx x xs a rs->∀(t D:eH) (H2:Hp),H D=f'->Same H H2->H2 t=a' (.tup [.ref D,nat (M.wst (prs nx) a rs)])->H2 D=a' (.lst ((M.wan (prs nx) (prs os) a rs).map nat))->Q (.ref t) H2)/\
 (Bad m nx x xs->∀H2,Same H H2->E (.ref B) f' H2)
def P4 (K:dt) (C B:eH):Sp:=λvs H Q E=>∃(p G:eH) (m:Nat) (nx os:eE Pr3) (x:V) (xs:eE V),vs=[.ref p,.ref G,x]/\Sq K H C p G m nx os x xs/\
 (∀a rs,Good m nx x xs a rs->∀(D:eH) (H2:Hp),H D=f'->Same H H2->H2 D=a' (.lst ((M.wan (prs nx) (prs os) a rs).map nat))->Q (.ref D) H2)/\
 (Bad m nx x xs->∀H2,Same H H2->E (.ref B) f' H2)
def G2 (K:dt) (C B:eH):Sp:=λvs H Q E=>∃(p:eH) (m:Nat) (nx os:eE Pr3) (x:V) (k:V7) (T:Nat),vs=[.ref p,x,nat T]/\MaA H C p m nx os/\MaG m nx os/\mH K H x k/\T<=900/\
 (∀i,x=nat i->i < m->∀(D:eH) (H2:Hp),H D=f'->Same H H2->H2 D=a' (.lst ((M.wan (prs nx) (prs os) 0 (M.pulse i T)).map nat))->Q (.ref D) H2)/\
 (idxB x m=false->E (.ref B) f' H)
def K3 (K:dt) (C B:eH):Sp:=λvs H Q E=>∃(p:eH) (m:Nat) (nx os:eE Pr3) (x:V) (k:V7),vs=[.ref p,x]/\MaA H C p m nx os/\MaG m nx os/\mH K H x k/\
 (∀a,x=nat a->a < 2 ^ nx.length->∀(t:eH) (H2:Hp),Same H H2->H2 t=a' (.tup [nat (M.sm (nx.map λq=>q.2.1) a),nat (M.sm (nx.map λq=>q.2.2) a)])->Q (.ref t) H2)/\
 (pC x nx.length=false->E (.ref B) f' H)
def EL (C:eH):Sp:=λvs H Q _=>∃(p:eH) (m:Nat) (nx os:eE Pr3),vs=[.ref p]/\MaA H C p m nx os/\Q (nat os.length) H
structure TabT (H:Hp) (t n o:eH) (m:Nat) (nx os:eE Pr3):Prop where
 t:H t=a' (.tup [nat m,.ref n,.ref o])
 tab:Tab H n o m nx os
theorem zS (s:Same H H2) (f:H2 D=f'):H D=none:=by
 cases G:H D with
 | none=>rfl
 | some v=>have:=s _ _ G;rw[f] at this;cases this
theorem BS (m k:Nat):(m:Int) / 2 ^ ((k:Int).toNat)=((m>>>k:Nat):Int):=by rw[ov,y9,TR];norm_cast
theorem rP (m i:Nat):V9 ((m:Int) / 2 ^ ((i:Int).toNat)) 1=if m.testBit i then 1 else 0:=by
 have:=Es m i;rwa [show(0:Int) + (i:Int)=(i:Int) from VW _] at this
theorem rL (xs:eE V) (k:Nat) (h:k<=xs.length):cutV xs (a' (k:Int)) f'=xs.drop k:=by
 unfold cutV;rw[HT.sIx_nat,HT.sIx_none,Yu h];exact UE (by rw[Ww];exact sb _)
end Sx
namespace M
noncomputable def pkw (w:Nat):C'->Nat
 | []=>0
 | p::ps=>p^^^(pkw w ps <<< w)
theorem Bz {w p P R:Nat} (L:p < 2 ^ w) (G:r < 2 ^ w):(p^^^(P <<< w))&&&(r^^^(R <<< w))=(p&&&r)^^^((P&&&R) <<< w):=by
 apply ix;intro i;simp only[TH,Vr,V5];by_cases hi:w<=i
 ·rw[T9 (gm L (hJ @C hi)),T9 (gm G (hJ @C hi))];simp[hi]
 ·simp[hi]
theorem Rh {w:Nat} (h:x < 2 ^ (1000 - w)) (hw:w<=1000):od (x <<< w)=od x:=by
 show pb 1000 (x <<< w)=pb 1000 x;have e:=uK w (1000 - w) (x <<< w);rw[show w + (1000 - w)=1000 by omega] at e;rw[e,pb_up h @A]
 have G:pb w (x <<< w)=false:=by
  rw[<-Ia,ab0,Nat.mul_mod_left]
  have:∀n,pb n 0=false:=λn=>by
   induction n with
   | zero=>rfl
   | succ n ih=>rw[OG,Nat.zero_div,ih];simp
  exact this w
 rw[G,Nat.shiftLeft_shiftRight];simp
noncomputable def bkI (A:C') (s:Nat):Nat->Nat
 | 0=>s
 | i + 1=>sm A (bkI A s i)
theorem JY (A:C') (s:Nat):∀i,bkI A (sm A s) i=bkI A s (i + 1)
 | 0=>rfl
 | i + 1=>T4 (sm A) (JY A s i)
theorem GO (ps:A'):∀(rs qs:C') (x y:Nat),rs.length=qs.length->wst ps (x^^^y) (WB (·^^^·) rs qs)=wst ps x rs^^^wst ps y qs
 | [],[],_,_,_=>rfl
 | r::rs,q::qs,x,y,h=>by
   show wst ps (tr2 ps (x^^^y) (r^^^q)) (WB (·^^^·) rs qs)=wst ps (tr2 ps x r) rs^^^wst ps (tr2 ps y q) qs;rw[yP,GO ps rs qs _ _ (by simpa using h)]
end M
namespace Sx
open PySem L2
noncomputable abbrev nA (nx:eE Pr3):C':=nx.map λq=>q.2.1
theorem Hx {K:dt} {α:Type} (f:α->V) (g:α->Dt) (r:∀x,Rep K H (f x) (g x)) (xs:eE α):∀(i:Nat) x d,(xs.map f)[i]? =a' x->(xs.map g)[i]? =a' d->Rep K H x d:=by
 intro i x d h1 h2;rw[gA] at h1 h2;cases e:xs[i]? with
 | none=>rw[e] at h1;cases h1
 | some y=>rw[e] at h1 h2;cases h1;cases h2;exact r y
theorem Qh {K:dt} (h:te σ H λx H1=>∃a xs,x= .ref a/\SqL K H1 a xs/\∀l,H1 l=f'->Q (.ref l) (upd H1 l (.lst xs.reverse))):tRev K te σ H Q:=h
end Sx
namespace M
noncomputable def stj (ps:A'):C'->Nat->C'
 | S,0=>S
 | S,j + 1=>(stj ps S j).map λx=>tr2 ps x 0
noncomputable def sg0 (ps:A') (m:Nat):C':=(vu m).map λw=>tr2 ps 0 (2 ^ w)
noncomputable def rch (ps:A') (m:Nat):Nat->C'
 | 0=>[]
 | T + 1=>stj ps (sg0 ps m) T++rch ps m T
theorem stj_len (ps:A') (S:C'):∀j,(stj ps S j).length=S.length
 | 0=>rfl
 | j + 1=>by show((stj ps S j).map _).length=_;rw[bx,stj_len ps S j]
theorem sg0_len (ps:A') (m:Nat):(sg0 ps m).length=m:=by unfold sg0;rw[bx,TC]
theorem rch_len (ps:A') (m:Nat):∀T,(rch ps m T).length=T * m
 | 0=>by show 0=0 * m;rw[YM]
 | T + 1=>by show(stj ps (sg0 ps m) T++rch ps m T).length=_;rw[eP,stj_len,sg0_len,rch_len ps m T,Zh,YE,Yj]
theorem stj_lt (ps:A') (m:Nat):∀j,∀x∈stj ps (sg0 ps m) j,x < 2 ^ ps.length
 | 0,x,h=>by obtain⟨w,_,rfl⟩:=hF.mp h;exact tr2_lt _ _ _
 | j + 1,x,h=>by obtain⟨y,_,rfl⟩:=hF.mp h;exact tr2_lt _ _ _
theorem rch_lt (ps:A') (m:Nat):∀T,∀x∈rch ps m T,x < 2 ^ ps.length
 | 0,x,h=>hD h (by simp[rch])
 | T + 1,x,h=>(gz.mp h).elim (stj_lt ps m T x) (rch_lt ps m T x)
theorem Dx (ps:A'):∀(G:C') (F:Nat),tr2 ps (sm G F) 0=sm (G.map λx=>tr2 ps x 0) F
 | [],F=>yN ps
 | r::G,F=>by
   show tr2 ps ((if F.testBit 0 then r else 0)^^^sm G (F / 2)) 0=(if F.testBit 0 then tr2 ps r 0 else 0)^^^sm (G.map λx=>tr2 ps x 0) (F / 2);have e:=yP ps (if F.testBit 0 then r else 0) (sm G (F / 2)) 0 0;rw[Vx] at e;rw[e,Dx ps G];cases F.testBit 0<;>simp[yN]
theorem yO (ps:A') (r:Nat):∀m,r < 2 ^ m->tr2 ps 0 r=sm (sg0 ps m) r
 | 0,h=>by have:r=0:=by have:r < 1:=h;omega
           rw[this,yN];rfl
 | m + 1,h=>by
   have es:sg0 ps (m + 1)=sg0 ps m++[tr2 ps 0 (2 ^ m)]:=by unfold sg0;rw[Vs,ef];rfl
   rw[es,iU,sg0_len];by_cases hb:r.testBit m=true
   ·have G:r^^^2 ^ m < 2 ^ m:=by
     apply VZ;intro i hi;rw[TH,zt];by_cases e:m=i
     ·subst e;rw[hb];simp
     ·rw[T9 (gm h (hJ @C @A))];simp[e]
    have ih:=yO ps (r^^^2 ^ m) m G
    have Y:sm (sg0 ps m) r=sm (sg0 ps m) (r^^^2 ^ m):=by
     have:sm (sg0 ps m) (2 ^ m)=0:=by
      have h1:=iU (sg0 ps m) 0 (2 ^ m);have h2:=Hi (sg0 ps m) 0;rw[sg0_len] at h2;rw[h2] at h1;simpa using h1.symm
     rw[sm_xor,this,UJ]
    rw[wb hb,Y,<-ih];have L:=yP ps 0 0 (r^^^2 ^ m) (2 ^ m);rw[Vx,b9] at L;exact L
   ·have G:r < 2 ^ m:=by
     apply VZ;intro i hi;by_cases e:i=m
     ·subst e;simpa using hb
     ·exact T9 (gm h (hJ @C @A))
    rw[qb hb,UJ,yO ps r m G]
theorem MG:∀(as bs:C') (s:Nat),sm (as++bs) s=sm as s^^^sm bs (s>>>as.length)
 | [],bs,s=>by show sm bs s=0^^^sm bs (s>>>0);rw[VR,ZJ]
 | a::as,bs,s=>by
   show(if s.testBit 0 then a else 0)^^^sm (as++bs) (s / 2)=(if s.testBit 0 then a else 0)^^^sm as (s / 2)^^^sm bs (s>>>(as.length + 1));rw[MG as bs (s / 2),UG,Nat.shiftRight_succ_inside]
theorem Hk:∀(as:C') (P:Nat),sm as (P <<< as.length)=0
 | [],_=>rfl
 | a::as,P=>by
   show(if (P <<< (as.length + 1)).testBit 0 then a else 0)^^^sm as ((P <<< (as.length + 1)) / 2)=0;have L:(P <<< (as.length + 1)).testBit 0=false:=by rw[V5];simp
   have G:(P <<< (as.length + 1)) / 2=P <<< as.length:=by rw[Nat.shiftLeft_succ];omega
   rw[L,G,Hk as P];simp
theorem Fg {w P:Nat} (h:r < 2 ^ w):(r^^^(P <<< w))>>>w=P:=by
 apply ix;intro i;rw[We,TH,V5,T9 (gm h (hJ @C @A))];simp
noncomputable def zs (ps:A') (x:Nat):Nat->Nat
 | 0=>x
 | n + 1=>tr2 ps (zs ps x n) 0
theorem Mx (ps:A') (x:Nat):∀n,wst ps x (lj n 0)=zs ps x n
 | 0=>rfl
 | n + 1=>by rw[VE,wst_snoc,Mx ps x n];rfl
theorem ME (ps:A') (S:C') (F:Nat):∀n,sm (stj ps S n) F=zs ps (sm S F) n
 | 0=>rfl
 | n + 1=>by show sm ((stj ps S n).map λx=>tr2 ps x 0) F=tr2 ps (zs ps (sm S F) n) 0;rw[<-Dx,ME ps S F n]
theorem GN (ps:A') (x:Nat) (rs:C'):wst ps x rs=zs ps x rs.length^^^wst ps 0 rs:=by
 have e:=GO ps (lj rs.length 0) rs x 0 (by rw[Uv])
 have G:WB (·^^^·) (lj rs.length 0) rs=rs:=by
  apply XM
  ·rw[List.length_zipWith,Uv,XC]
  ·intro i h1 h2;rw[List.getElem_zipWith,Z8,VR]
 rw[G,UJ,Mx] at e;exact e
theorem DK (ps:A') (m:Nat):∀rs:C',(∀r∈rs,r < 2 ^ m)->wst ps 0 rs=sm (rch ps m rs.length) (pkw m rs)
 | [],_=>rfl
 | r::rs,h=>by
   have ih:=DK ps m rs λx Y=>h x (p' _ Y);have G:=h r (u' ..);show wst ps (tr2 ps 0 r) rs=sm (stj ps (sg0 ps m) rs.length++rch ps m rs.length) (r^^^(pkw m rs <<< m));have hl:(stj ps (sg0 ps m) rs.length).length=m:=by rw[stj_len,sg0_len]
   rw[GN,ih,MG,hl,Fg G,sm_xor];have L:=Hk (stj ps (sg0 ps m) rs.length) (pkw m rs);rw[hl] at L;rw[L,UJ,ME,<-yO ps r m G]
noncomputable def upk (w q T:Nat):C':=(vu T).map λt=>(q>>>(t * w))&&&(2 ^ w - 1)
theorem upk_len (w q T:Nat):(upk w q T).length=T:=by unfold upk;rw[bx,TC]
theorem upk_lt (w q T:Nat):∀r∈upk w q T,r < 2 ^ w:=λr G=>by
 obtain⟨t,_,rfl⟩:=hF.mp G;have:=T5 w;exact Uu ab2 @A
theorem KH (w q T:Nat):upk w q (T + 1)=(q&&&(2 ^ w - 1))::upk w (q>>>w) T:=by
 unfold upk;rw[Z6,Uq,TU,YM,ZJ];congr 1;apply UV;intro t _;show(q>>>((t + 1) * w))&&&_=(q>>>w>>>(t * w))&&&_;rw[<-Nat.shiftRight_add,Zh,YE,Yj]
theorem HX (w:Nat):∀(T q:Nat),q < 2 ^ (T * w)->pkw w (upk w q T)=q
 | 0,q,h=>by rw[YM] at h;have:q=0:=by have:q < 1:=h;omega
             rw[this];rfl
 | T + 1,q,h=>by
   rw[KH];show(q&&&(2 ^ w - 1))^^^(pkw w (upk w (q>>>w) T) <<< w)=q;rw[HX w T (q>>>w) (by rw[TR,Zn (T5 _),<-YD];rw[Zh,YE] at h;exact h)];apply ix;intro i;rw[TH,Vr,V5,We,Yz];by_cases hi:i < w
   ·simp[hi,show ¬w<=i by omega]
   ·simp[hi,show w<=i by omega,show w + (i - w)=i by omega]
theorem Rf (ps:A') (hl:ps.length<=1000) (y:Nat):∀(j s:Nat),od (s&&&zs ps y j)=od (bkI (ps.map (·.1)) s j&&&y)
 | 0,_=>rfl
 | j + 1,s=>by
   show od (s&&&tr2 ps (zs ps y j) 0)=_;rw[Iq s _ 0 ps hl,VD,od_zero,VO,Rf ps hl y j,JY]
theorem GX (ps:A') (m w:Nat) (hw:w < m):∀j,zs ps (tr2 ps 0 (2 ^ w)) j∈stj ps (sg0 ps m) j
 | 0=>hF.mpr ⟨w,U8.mpr hw,rfl⟩
 | j + 1=>hF.mpr ⟨_,GX ps m w hw j,rfl⟩
theorem Hy (ps:A') (m:Nat) {j:Nat} {x:Nat} (h:x∈stj ps (sg0 ps m) j):∀{T},j < T->x∈rch ps m T
 | T + 1,G=>by
   by_cases e:j=T
   ·subst e;exact iv _ h
   ·exact hW _ (Hy ps m h @A)
end M
namespace Sx
open PySem L2
structure Sumd (rows:C') (x q:Nat):Prop where
 lt:q < 2 ^ rows.length
 sm:M.sm rows q=x
 fr:M.Frs rows q
theorem Sumd.uniq {p:Nat} (a:Sumd G x p) (b:Sumd G x q):p=q:=M.sum_uniq a.fr b.fr (by rw[a.sm,b.sm])
structure Bard (rows:C') (x m:Nat):Prop where
 ns:¬M.Span rows x
 bar:∃y,M.Span rows y/\x^^^y≠0/\Sm rows (x^^^y).log2/\M.Bar rows (x^^^y).log2 m
 ev:∀y,M.Span rows y->M.od (m&&&y)=false
 odd:M.od (m&&&x)=true
 lt:∀W,(∀r∈rows,r < 2 ^ W)->x < 2 ^ W->m < 2 ^ W
def EJ:Sp:=λvs H Q _=>∃(r:eH) (G:C') (x:Nat),vs=[.ref r,nat x]/\H r=a' (.lst (G.map nat))/\G.length<=1000/\(∀r∈G,r < 2 ^ 1000)/\x < 2 ^ 1000/\(M.Span G x∨(M.fr G).length < 64)/\
 (∀(t D:eH) (H2:Hp) (q:Nat),H D=f'->Same H H2->H2 t=a' (.tup [.str "sum",.ref D])->H2 D=a' (.lst ((M.pl 1000 q).map nat))->Sumd G x q->Q (.ref t) H2)/\
 (∀(t:eH) (H2:Hp) (m:Nat),Same H H2->H2 t=a' (.tup [.str "no",nat m])->Bard G x m->Q (.ref t) H2)
def GZ:Sp:=λvs H Q _=>∃(q wd T:Nat),vs=[nat q,nat wd,nat T]/\wd<=1000/\T<=1000/\∀(D:eH) (H2:Hp),H D=f'->Same H H2->H2 D=a' (.lst ((M.upk wd q T).map nat))->Q (.ref D) H2
def KU (C:eH):Sp:=λvs H Q _=>∃(p:eH) (m:Nat) (nx os:eE Pr3) (T:Nat),vs=[.ref p,nat T]/\MaA H C p m nx os/\MaG m nx os/\T<=100/\∀(D:eH) (H2:Hp),H D=f'->Same H H2->H2 D=a' (.lst ((M.rch (prs nx) m T).map nat))->Q (.ref D) H2
def G4 (C:eH):Sp:=λvs H Q _=>∃(p D:eH) (m:Nat) (nx os:eE Pr3) (q T:Nat),vs=[.ref p,.ref D,nat T]/\MaA H C p m nx os/\MaG m nx os/\H D=a' (.lst ((M.pl 1000 q).map nat))/\q < 2 ^ 1000/\T<=1000/\∀(G:eH) (H2:Hp),H G=f'->Same H H2->H2 G=a' (.lst ((M.upk m q T).map nat))->Q (.ref G) H2
end Sx
namespace L2
open PySem
theorem Ic {K:dt} (h:X.K=K):OpR X (compareOp .NotIn) (rIn K true):=by subst h;exact AC
end L2
namespace Sx
open PySem L2
noncomputable def TupV (K:dt) (H:Hp) (y:V):T8 (eE V)->Prop
 | some xs=>∃r,y= .ref r/\SqT K H r xs/\Kj K H xs
 | none=>∃k,mH K H y k/\k≠"tuple"
noncomputable def S2 (n m:Nat):T8 (eE V)->UD
 | some [x,y]=>pC x n&&pC y m
 | _=>false
noncomputable abbrev It2:=V×T8 (eE V)
noncomputable def LstV (K:dt) (H:Hp) (y:V):T8 (eE It2)->Prop
 | some zs=>∃r,y= .ref r/\H r=a' (.lst (zs.map (·.1)))/\∀z∈zs,TupV K H z.1 z.2
 | none=>∃k,mH K H y k/\k≠"list"
noncomputable def tabB (x:V) (L G:T8 (eE It2)):Bool:=match x,L,G with
 | .int i,a' zs,a' ws=>decide (0<=i)&&decide (i<=6)&&decide (zs.length<=120)&&decide (ws.length<=6)&&(zs++ws).all λz=>S2 zs.length i.toNat z.2
 | _,_,_=>false
end Sx
namespace L2
open PySem
end L2
namespace Sx
open PySem L2
structure BadT (K:dt) (H:Hp) (x y z:V):Prop where
 ex:∃k on oo,mH K H x k/\LstV K H y on/\LstV K H z oo/\tabB x on oo=false
end Sx
namespace L2
open PySem
end L2
namespace Sx
open PySem L2
end Sx
namespace M
structure Fst (ms:C') (p:Nat):Prop where
 lt:p < ms.length
 out:∀k,k < p->¬Span (ms.take k) (ms.getD k 0)
 in_:Span (ms.take p) (ms.getD p 0)
theorem M8 {ms:C'}:∀j,j<=ms.length->(∀k,k < j->¬Span (ms.take k) (ms.getD k 0))->(fr (ms.take j)).length=j
 | 0,_,_=>by have:=fr_len (ms.take 0);simpa using this
 | j + 1,G,h=>by
   have e:ms.take (j + 1)=ms.take j++[ms.getD j 0]:=by
    rw[Xv,ed @A,ec,ed @A];rfl
   rw[e,fr_out (h j (UU j)),eP,M8 j @A (λk hk=>h k @A)];rfl
theorem CV {n:Nat} (hb:∀x∈G,x < 2 ^ n) (L:j<=G.length) (h:∀k,k < j->¬Span (G.take k) (G.getD k 0)):j<=n:=by
 rw[<-M8 j L h];exact HG λr ms=>hb r (Zq ms)
noncomputable def zl (ps:A') (d n:Nat):C':=(vu (n + 1)).map (zs ps d)
theorem GF (ps:A') (d n:Nat):(zl ps d n).length=n + 1:=by unfold zl;rw[bx,TC]
theorem Da {ps:A'} {d n k:Nat} (h:k<=n):(zl ps d n)[k]? =a' (zs ps d k):=by
 unfold zl;rw[gA,Ub @A];rfl
theorem NC {ps:A'} {d n k:Nat} (h:k<=n):(zl ps d n).getD k 0=zs ps d k:=by rw[ec,Da h];rfl
theorem Sr {ps:A'} {d:Nat} (h:d < 2 ^ ps.length):∀k,zs ps d k < 2 ^ ps.length
 | 0=>h
 | k + 1=>tr2_lt _ _ _
theorem Ss {ps:A'} {d n:Nat} (h:d < 2 ^ ps.length):∀x∈zl ps d n,x < 2 ^ ps.length:=λx G=>by
 obtain⟨k,_,rfl⟩:=hF.mp G;exact Sr h k
theorem BR {G:C'}:∀(rs:C'),(∀x∈rs,Span G x)->∀F,Span G (sm rs F)
 | [],_,_=>span_zero G
 | r::rs,h,F=>by
   show Span G ((if F.testBit 0 then r else 0)^^^sm rs (F / 2));refine span_xor ?_ (BR rs (λx L=>h x (p' _ L)) (F / 2));split
   ·exact h r u'
   ·exact span_zero G
theorem Nz {ps:A'} {d n p:Nat} (F:Fst (zl ps d n) p):∀t,Span ((zl ps d n).take p) (zs ps d t):=by
 have β:p<=n:=by have:=F.lt;rw[GF] at this;omega
 have Y:=F.in_;rw[NC β] at Y;have L:∀k,k < p->Span ((zl ps d n).take p) (zs ps d k):=λk hk=>oH (ee (i:=k) (by rw[UW hk];exact Da @A));intro t
 induction t with
 | zero=>
   by_cases δ:p=0
   ·subst δ;exact Y
   ·exact L 0 @A
 | succ t ih=>
   obtain⟨G,_,ε⟩:=jC ih;show Span _ (tr2 ps (zs ps d t) 0);rw[<-ε,Dx];refine BR _ (λx α=>?_) G;obtain⟨y,Z,rfl⟩:=hF.mp α;obtain⟨k,hk⟩:=Zs Z
   have φ:k < p:=by
    have:=(b'.mp hk).1;rw[wh] at this;omega
   rw[UW φ,Da @A] at hk;cases hk;show Span _ (zs ps d (k + 1));by_cases h1:k + 1 < p
   ·exact L _ h1
   ·have:k + 1=p:=by omega
    rw[this];exact Y
theorem NB (ps:A') (d:Nat):∀i,zs ps (tr2 ps d 0) i=zs ps d (i + 1)
 | 0=>rfl
 | i + 1=>by show tr2 ps (zs ps (tr2 ps d 0) i) 0=_;rw[NB ps d i];rfl
theorem Dg (ps os:A'):∀(rs:C') (a k:Nat),wan ps os a (rs.take k)=(wan ps os a rs).take k
 | [],_,k=>by simp[wan]
 | r::rs,a,0=>rfl
 | r::rs,a,k + 1=>by
   show tr2 os a r::wan ps os (tr2 ps a r) (rs.take k)=_;rw[Dg ps os rs];rfl
end M
namespace Sx
open PySem L2
noncomputable def cps (p q k:Nat):C':=if k + 1 < p then [k + 1] else M.pl 1000 q
structure ChS (H:Hp) (S:eH) (p q:Nat) (rs:M'):Prop where
 at_:H S=a' (.lst (rs.map V.ref))
 len:rs.length=p
 get:∀(k:Nat) (r:eH),rs[k]? =a' r->H r=a' (.lst ((cps p q k).map nat))
structure ChT (H:Hp) (D S:eH) (ms:C') (p q:Nat):Prop where
 fs:M.Fst ms p
 sd:Sumd (ms.take p) (ms.getD p 0) q
 d:H D=a' (.lst ((ms.take p).map nat))
 s:∃rs,ChS H S p q rs
structure LA (K:dt) (H:Hp) (t n o rr:eH) (m:Nat) (nx os:eE Pr3) (rs:C') (a b:Nat):Prop where
 tt:TabT H t n o m nx os
 sq:SqL K H rr (rs.map nat)
 lr:rs.length=20
 br:∀r∈rs,r < 2 ^ m
 ln:nx.length<=16
 ha:a < 2 ^ nx.length
 hb:b < 2 ^ nx.length
structure ApA (H:Hp) (f:eH) (nx os:eE Pr3) (d k ans:Nat):Prop where
 f:H f=a' (.tup [.str "apart",nat k,nat ans.log2])
 hk:k < nx.length
 an:ans=M.tr2 (prs os) (M.zs (prs nx) d k) 0
 ne:ans≠0
 qu:∀j,j < k->M.tr2 (prs os) (M.zs (prs nx) d j) 0=0
structure ApL (H:Hp) (f D S:eH) (nx os:eE Pr3) (d p q:Nat):Prop where
 f:H f=a' (.tup [.str "alike",.ref D,.ref S])
 ct:ChT H D S (M.zl (prs nx) d nx.length) p q
 qu:∀j,j < p->M.tr2 (prs os) (M.zs (prs nx) d j) 0=0
end Sx
namespace M
noncomputable def bl (A:C') (s n:Nat):C':=(vu (n + 1)).map (bkI A s)
theorem JX (A:C') (s n:Nat):(bl A s n).length=n + 1:=by unfold bl;rw[bx,TC]
theorem Er {A:C'} {s n k:Nat} (h:k<=n):(bl A s n)[k]? =a' (bkI A s k):=by
 unfold bl;rw[gA,Ub @A];rfl
theorem Pd {A:C'} {s n k:Nat} (h:k<=n):(bl A s n).getD k 0=bkI A s k:=by rw[ec,Er h];rfl
theorem bkI_lt {A:C'} {s w:Nat} (G:∀x∈A,x < 2 ^ w) (h:s < 2 ^ w):∀k,bkI A s k < 2 ^ w
 | 0=>h
 | k + 1=>sm_lt _ G
theorem Te {A:C'} {s n w:Nat} (L:∀x∈A,x < 2 ^ w) (h:s < 2 ^ w):∀x∈bl A s n,x < 2 ^ w:=λx G=>by
 obtain⟨k,_,rfl⟩:=hF.mp G;exact bkI_lt L h k
theorem Oe (A:C'):∀(G:C') (F:Nat),sm A (sm G F)=sm (G.map (sm A)) F
 | [],_=>sm_zero A
 | r::G,F=>by
   show sm A ((if F.testBit 0 then r else 0)^^^sm G (F / 2))=(if F.testBit 0 then sm A r else 0)^^^sm (G.map (sm A)) (F / 2);rw[sm_xor,Oe A G];cases F.testBit 0<;>simp[sm_zero]
theorem Pe {A:C'} {s n p:Nat} (F:Fst (bl A s n) p):∀t,Span ((bl A s n).take p) (bkI A s t):=by
 have β:p<=n:=by have:=F.lt;rw[JX] at this;omega
 have Y:=F.in_;rw[Pd β] at Y;have L:∀k,k < p->Span ((bl A s n).take p) (bkI A s k):=λk hk=>oH (ee (i:=k) (by rw[UW hk];exact Er @A));intro t
 induction t with
 | zero=>
   by_cases δ:p=0
   ·subst δ;exact Y
   ·exact L 0 @A
 | succ t ih=>
   obtain⟨G,_,ε⟩:=jC ih;show Span _ (sm A (bkI A s t));rw[<-ε,Oe];refine BR _ (λx α=>?_) G;obtain⟨y,Z,rfl⟩:=hF.mp α;obtain⟨k,hk⟩:=Zs Z
   have φ:k < p:=by
    have:=(b'.mp hk).1;rw[wh] at this;omega
   rw[UW φ,Er @A] at hk;cases hk;show Span _ (bkI A s (k + 1));by_cases h1:k + 1 < p
   ·exact L _ h1
   ·have:k + 1=p:=by omega
    rw[this];exact Y
end M
namespace Sx
open PySem L2
structure CmA (H:Hp) (t D:eH) (m:Nat) (nx:eE Pr3) (st T q mk:Nat):Prop where
 f:H t=a' (.tup [.str "come",.ref D,nat mk])
 d:H D=a' (.lst ((M.upk m q T).map nat))
 hT:T<=nx.length
 no:∀j,j < T->¬M.Span (M.rch (prs nx) m j) st
 sd:Sumd (M.rch (prs nx) m T) st q
 br:(T=0/\mk=0)∨∃T',T=T' + 1/\Bard (M.rch (prs nx) m T') st mk
structure CmN (H:Hp) (t D S:eH) (m:Nat) (nx:eE Pr3) (st mk p q:Nat):Prop where
 f:H t=a' (.tup [.str "never",.ref D,.ref S])
 no:∀j,j<=nx.length->¬M.Span (M.rch (prs nx) m j) st
 bd:Bard (M.rch (prs nx) m nx.length) st mk
 ct:ChT H D S (M.bl (nA nx) mk nx.length) p q
structure LN (K:dt) (H:Hp) (n:eH) (m:Nat) (nx os:eE Pr3) (st:Nat):Prop where
 sq:SqL K H n (refs nx)
 pt:Prt H nx
 g:MaG m nx os
 ln:nx.length<=16
 hs:st < 2 ^ nx.length
end Sx
namespace M
noncomputable def fR (G:C'):C':=(fr G).map λi=>G.getD i 0
theorem fr_lt:∀i∈fr G,i < G.length:=by
 intro i hi;unfold fr at hi;exact U8.mp (UT.mp hi).1
theorem wG (G:C') (r:Nat):(fr G).map (λi=>(G++[r]).getD i 0)=fR G:=by
 unfold fR;refine UV λi hi=>?_;rw[ec,ec,kv (fr_lt i hi)]
theorem RM (h:Span G r):fR (G++[r])=fR G:=by
 rw[<-wG G r];unfold fR;rw[fr_in h]
theorem Nb (h:¬Span G r):fR (G++[r])=fR G++[r]:=by
 rw[<-wG G r];unfold fR;rw[fr_out h,ef];congr 1;simp
theorem zT:∀(G:C') (x:Nat),Span (fR G) x↔Span G x:=by
 refine mm ?_ λl w ih=>?_
 ·intro x;exact ZZ
 ·intro x;by_cases h:Span l w
  ·rw[RM h,ih,fU];exact⟨.inl,λz=>z.elim id λz=>by have:=span_xor z h;rwa [b9] at this⟩
  ·rw[Nb h,fU,fU,ih,ih]
theorem Inj.out {ws:C'} {w:Nat} (I:Inj ws) (h:¬Span ws w):Inj (ws++[w]):=by
 intro p L e;rw[iU] at e;by_cases hb:p.testBit ws.length=true
 ·rw[wb hb] at e;exfalso;apply h
  have:sm ws p=w:=by
   have:=T4 (·^^^w) e;simpa[UG] using this
  rw[<-this];exact sm_span _ _
 ·rw[qb hb,UJ] at e;refine I p ?_ e;rw[eP,Tu] at L;refine VZ p λi hi=>?_;by_cases G:i=ws.length
  ·rw[G];simpa using hb
  ·exact T9 (gm L (hJ @C @A))
theorem Jx:∀G:C',Inj (fR G):=by
 refine mm Inj.nil λl w ih=>?_;by_cases h:Span l w
 ·rw[RM h];exact ih
 ·rw[Nb h];exact ih.out λz=>h ((zT l w).mp z)
theorem Inj.out' {ws:C'} {w:Nat} (I:Inj (ws++[w])):Inj ws/\¬Span ws w:=by
 refine⟨λp G e=>I p (by rw[eP,Tu,W'];omega) (by rw[jv G];exact e),λh=>?_⟩;obtain⟨p,G,e⟩:=jC h;have:=I (p^^^2 ^ ws.length) (by rw[eP];exact Cv G) (by rw[BQ G,e,Vx]);exact(vW G).1 this
theorem LP:∀ws:C',Inj ws->(fr ws).length=ws.length:=by
 refine mm (λ_=>rfl) λl w ih h=>?_;have:=h.out';rw[fr_out this.2,eP,eP,ih this.1];rfl
theorem zL {ws:C'} {t:Nat} (I:Inj ws) (h:∀x∈ws,x < 2 ^ t):ws.length<=t:=by
 rw[<-LP ws I];exact HG h
theorem RF {ws:C'} (I:Inj ws) {p:Nat} (G:p < 2 ^ ws.length) (hq:q < 2 ^ ws.length) (e:sm ws p=sm ws q):p=q:=by
 have:=I (p^^^q) (xor_lt_pow G hq) (by rw[sm_xor,e,Vx]);have h:=T4 (·^^^q) this;simpa[UG] using h
noncomputable def ow (x:Nat) (L:C'):Nat:=pk (λk=>od (x&&&L.getD k 0)) 0 L.length
theorem ow_bit (x:Nat) (L:C') (k:Nat):(ow x L).testBit k=(decide (k < L.length)&&od (x&&&L.getD k 0)):=by unfold ow;rw[pk_bit,Vf]
theorem ow_lt (x:Nat) (L:C'):ow x L < 2 ^ L.length:=pk_lt _ _ _
theorem DR (x y:Nat) (L:C'):ow (x^^^y) L=ow x L^^^ow y L:=ix λk=>by
 rw[TH,ow_bit,ow_bit,ow_bit,uQ,od_xor];cases decide (k < L.length)<;>simp
theorem zc (L:C'):ow 0 L=0:=ix λk=>by
 rw[ow_bit,Vq,od_zero,U9,US]
theorem zd (L:C'):∀(G:C') (F:Nat),ow (sm G F) L=sm (G.map (ow · L)) F:=by
 refine mm ?_ λl w ih=>?_
 ·intro F;rw[sm,Yf,sm,zc]
 ·intro F;rw[ef,VG,iU,iU,DR,ih,bx];by_cases h:F.testBit l.length=true
  ·rw[wb h,wb h]
  ·rw[qb h,qb h,zc]
theorem lD {L:C'}:ow x L=0↔∀y∈L,od (x&&&y)=false:=by
 constructor
 ·intro h y G;obtain⟨k,hk,e⟩:=U6.mp G;have:=T4 (Nat.testBit · k) h;rw[ow_bit,U9,gB hk,U',ec,ed hk] at this;rw[<-e];exact this
 ·intro h;refine ix λk=>?_;rw[ow_bit,U9];by_cases hk:k < L.length
  ·rw[ec,ed hk,Zc,h _ (UL hk),US]
  ·rw[gn hk,U2]
theorem rC:∀(L:C'),(∀y∈L,od (x&&&y)=false)->∀z,Span L z->od (x&&&z)=false:=by
 refine mm ?_ λl w ih=>?_
 ·intro _ z hz;rw[show z=0 from hz,VD,od_zero]
 ·intro h z hz;have h1:=ih λy G=>h y (iv _ G);rcases(fU l w z).mp hz with hz | hz
  ·exact h1 z hz
  ·have h2:=h1 _ hz;rw[and_xor,od_xor,h w @E,VO] at h2;exact h2
theorem S5 (p x:Nat):∀(L:C'),L.length<=1000->od (p&&&ow x L)=od (sm L p&&&x):=by
 refine mm ?_ λl w ih=>?_
 ·intro _;rw[show ow x []=0 from rfl,VD,sm,Vq]
 ·intro hl;rw[eP,Tu] at hl
  have e:ow x (l++[w])=ow x l^^^(if od (x&&&w)=true then 2 ^ l.length else 0):=ix λk=>by
   rw[TH,ow_bit,ow_bit,eP,Tu];by_cases hk:k < l.length
   ·rw[ec,ec,kv hk,gB hk,gB (show k < l.length + 1 by omega)]
    have:(if od (x&&&w)=true then 2 ^ l.length else 0).testBit k=false:=by
     split
     ·rw[zt];exact gn @A
     ·exact U9 k
    rw[this,VO]
   ·by_cases Y:k=l.length
    ·subst Y;rw[gn hk,gB (UU _),U2,Wa,U'];rw[ec,lT (sb _),Xf];show od (x&&&w)=_;by_cases hw:od (x&&&w)=true
     ·rw[wb hw,Ud,hw]
     ·rw[qb hw,U9];simpa using hw
    ·rw[gn hk,gn (show ¬k < l.length + 1 by omega),U2,U2,Wa];split
     ·rw[zt];exact(gn @A).symm
     ·exact(U9 k).symm
  rw[e,and_xor,od_xor,ih @A,iU,uQ,od_xor];congr 1;by_cases hw:od (x&&&w)=true
  ·rw[wb hw,Up,od_pow @A];by_cases G:p.testBit l.length=true
   ·rw[wb G,G,Up,hw]
   ·rw[qb G,Vq,od_zero];simpa using G
  ·rw[qb hw,VD,od_zero];by_cases G:p.testBit l.length=true
   ·rw[wb G,Up];simpa using hw
   ·rw[qb G,Vq,od_zero]
theorem yr {n:Nat} (hb:∀x∈G,x < 2 ^ n) (hl:n < G.length):∃p,p<=n/\Fst G p:=by
 have L:∀j,(∃p,p < j/\Fst G p)∨∀k,k < j->k < G.length->¬Span (G.take k) (G.getD k 0):=λj=>by
  induction j with
  | zero=>exact .inr λk hk=>hD hk (VS k)
  | succ j ih=>
    rcases ih with ⟨p,Y,F⟩ | h
    ·exact .inl ⟨p,by omega,F⟩
    ·by_cases Z:j < G.length
     ·by_cases hs:Span (G.take j) (G.getD j 0)
      ·exact .inl ⟨j,by omega,Z,λk hk=>h k hk @A,hs⟩
      ·exact .inr λk hk ms=>by
        by_cases e:k=j
        ·rw[e];exact hs
        ·exact h k @A ms
     ·exact .inr λk hk ms=>h k @A ms
 rcases L (n + 1) with ⟨p,Y,F⟩ | h
 ·exact⟨p,@A,F⟩
 ·have:=CV hb (j:=n + 1) @A λk hk=>h k hk @A;omega
theorem qJ:∀{as:C'} {bs:C'},(∀x∈as,Span bs x)->∀z,Span as z->Span bs z:=λ{as bs} h z hz=>by
 obtain⟨p,_,e⟩:=jC hz;rw[<-e];exact BR as h p
theorem Pz {ps:A'} {d:Nat} (hd:d < 2 ^ ps.length) (h:∀k,k < ps.length->Span S (zs ps d k)) (t:Nat):Span S (zs ps d t):=by
 obtain⟨p,L,F⟩:=yr (Ss (n:=ps.length) hd) (by rw[GF];omega);refine qJ (λx G=>?_) _ (Nz F t);obtain⟨k,hk,e⟩:=U6.mp G;rw[wh] at hk;have φ:k < p:=by omega
 rw[WQ] at e;have:=Da (ps:=ps) (d:=d) (n:=ps.length) (k:=k) @A;rw[ed (by rw[GF];omega)] at this;rw[<-e,zx this];exact h k @A
theorem Sa {A:C'} {s n:Nat} (L:∀x∈A,x < 2 ^ n) (hs:s < 2 ^ n) (h:∀k,k < n->Span S (bkI A s k)) (t:Nat):Span S (bkI A s t):=by
 obtain⟨p,Y,F⟩:=yr (Te (n:=n) L hs) (by rw[JX];omega);refine qJ (λx G=>?_) _ (Pe F t);obtain⟨k,hk,e⟩:=U6.mp G;rw[wh] at hk;have φ:k < p:=by omega
 rw[WQ] at e;have:=Er (A:=A) (s:=s) (n:=n) (k:=k) @A;rw[ed (by rw[JX];omega)] at this;rw[<-e,zx this];exact h k @A
theorem MF (ps:A') (m w:Nat) (hw:w < m):∀j,(stj ps (sg0 ps m) j)[w]? =a' (zs ps (tr2 ps 0 (2 ^ w)) j)
 | 0=>by
   show(sg0 ps m)[w]? =_;unfold sg0;rw[gA,Ub hw];rfl
 | j + 1=>by
   show((stj ps (sg0 ps m) j).map λx=>tr2 ps x 0)[w]? =_;rw[gA,MF ps m w hw j];rfl
theorem P2 (ps:A') (m j:Nat) (h:x∈stj ps (sg0 ps m) j):∃w,w < m/\x=zs ps (tr2 ps 0 (2 ^ w)) j:=by
 obtain⟨w,hw,e⟩:=U6.mp h;have hm:w < m:=by rw[stj_len,sg0_len] at hw;exact hw
 have:=MF ps m w hm j;rw[ed hw,e] at this;exact⟨w,hm,zx this⟩
theorem MN (ps:A') (m:Nat):∀{T x:Nat},x∈rch ps m T->∃w j,w < m/\j < T/\x=zs ps (tr2 ps 0 (2 ^ w)) j
 | 0,x,h=>hD h (by unfold rch;simp)
 | T + 1,x,h=>by
   unfold rch at h;rcases gz.mp h with h | h
   ·obtain⟨w,hw,e⟩:=P2 ps m T h;exact⟨w,T,hw,@A,e⟩
   ·obtain⟨w,j,hw,G,e⟩:=MN ps m h;exact⟨w,j,hw,@A,e⟩
theorem Hz {ps:A'} {m w:Nat} (hw:w < m) (t:Nat):Span (rch ps m ps.length) (zs ps (tr2 ps 0 (2 ^ w)) t):=
 Pz (tr2_lt ps 0 (2 ^ w)) (λk hk=>oH (Hy ps m (GX ps m w hw k) hk)) t
theorem DL {ps:A'} {m:Nat} (hx:Span (rch ps m ps.length) x) (L:r < 2 ^ m):Span (rch ps m ps.length) (tr2 ps x r):=by
 have e:=yP ps x 0 0 r;rw[UJ,VR] at e;rw[e];refine span_xor ?_ ?_
 ·obtain⟨F,_,ζ⟩:=jC hx;rw[<-ζ,Dx];refine BR _ (λy G=>?_) F;obtain⟨z,hz,rfl⟩:=hF.mp G;obtain⟨w,j,hw,Y,rfl⟩:=MN ps m hz;exact Hz hw (j + 1)
 ·rw[yO ps r m L];refine BR _ (λy G=>?_) r;unfold sg0 at G;obtain⟨w,hw,rfl⟩:=hF.mp G;exact Hz (U8.mp hw) 0
noncomputable def lk1 (A os:C') (t:Nat):C':=os.map λs=>bkI A s t
noncomputable def lkm (A os:C'):Nat->C'
 | 0=>[]
 | T + 1=>lkm A os T++lk1 A os T
theorem lk1_len (A os:C') (t:Nat):(lk1 A os t).length=os.length:=by unfold lk1;rw[bx]
theorem lkm_len (A os:C'):∀T,(lkm A os T).length=T * os.length
 | 0=>by unfold lkm;simp
 | T + 1=>by unfold lkm;rw[eP,lk1_len,lkm_len A os T,XB]
theorem II {A os:C'} {s t:Nat} (hs:s∈os):∀{T},t < T->bkI A s t∈lkm A os T
 | 0,h=>hD h (VS t)
 | T + 1,h=>by
   unfold lkm;by_cases e:t=T
   ·rw[e];exact hW _ (hF.mpr ⟨s,hs,rfl⟩)
   ·exact iv _ (II hs @A)
theorem lkm_of {A os:C'}:∀{T x:Nat},x∈lkm A os T->∃s t,s∈os/\t < T/\x=bkI A s t
 | 0,x,h=>hD h (by unfold lkm;simp)
 | T + 1,x,h=>by
   unfold lkm at h;rcases gz.mp h with h | h
   ·obtain⟨s,t,hs,ht,e⟩:=lkm_of h;exact⟨s,t,hs,@A,e⟩
   ·obtain⟨s,hs,e⟩:=hF.mp h;exact⟨s,T,hs,@A,e.symm⟩
theorem IJ {A os:C'} {o s:Nat} (ho:os[o]? =a' s):∀{T t:Nat},t < T->(lkm A os T)[t * os.length + o]? =a' (bkI A s t)
 | 0,t,h=>hD h (VS t)
 | T + 1,t,h=>by
   have hl:=(b'.mp ho).1;unfold lkm;by_cases e:t=T
   ·rw[e,lT (by rw[lkm_len];omega),lkm_len,Nat.add_sub_cancel_left];unfold lk1;rw[gA,ho];rfl
   ·have hm:t * os.length + os.length<=T * os.length:=by
     have:=Xy os.length (show t + 1<=T by omega);rw[XB] at this;exact this
    rw[kv (by rw[lkm_len];omega)];exact IJ ho @A
theorem bkI_succ (A:C') (s t:Nat):sm A (bkI A s t)=bkI A s (t + 1):=by
 induction t generalizing s with
 | zero=>rfl
 | succ t ih=>first | rfl | (rw[<-JY,ih];rfl)
theorem IK {A os:C'} {n s:Nat} (G:∀x∈A,x < 2 ^ n) (ho:∀s∈os,s < 2 ^ n) (hs:s∈os) (t:Nat):Span (lkm A os n) (bkI A s t):=
 Sa G (ho s hs) (λk hk=>oH (II hs hk)) t
theorem LJ {A os:C'} {n:Nat} (G:∀x∈A,x < 2 ^ n) (ho:∀s∈os,s < 2 ^ n) (hx:x∈lkm A os n):Span (lkm A os n) (sm A x):=by
 obtain⟨s,t,hs,ht,rfl⟩:=lkm_of hx;rw[bkI_succ];exact IK G ho hs (t + 1)
section
variable (ps os:A') (m:Nat)
noncomputable def msk:C':=lkm (ps.map (·.1)) (os.map (·.1)) ps.length
noncomputable def ldp:C':=fr ((rch ps m ps.length).map (ow · (msk ps os)))
noncomputable def lst_:C':=(ldp ps os m).map λi=>(rch ps m ps.length).getD i 0
noncomputable def lkp:C':=fr ((msk ps os).map (ow · (lst_ ps os m)))
noncomputable def lkL:C':=(lkp ps os m).map λi=>(msk ps os).getD i 0
noncomputable def sen:C':=(lkL ps os m).map (ow · (lst_ ps os m))
end
theorem RL (X:C') (f:Nat->Nat):fR (X.map f)=((fr (X.map f)).map λi=>X.getD i 0).map f:=by
 unfold fR;rw[TU];refine UV λi hi=>?_;have h:=fr_lt i hi;rw[bx] at h;show(X.map f).getD i 0=f (X.getD i 0);rw[ec,gA,ed h,ec,ed h];rfl
theorem getD_mem {X:C'} (h:i < X.length):X.getD i 0∈X:=by
 rw[ec,ed h];exact UL h
section
variable {ps os:A'} {m:Nat}
theorem Nc:fR ((rch ps m ps.length).map (ow · (msk ps os)))=(lst_ ps os m).map (ow · (msk ps os)):=RL _ _
theorem Na:fR ((msk ps os).map (ow · (lst_ ps os m)))=sen ps os m:=RL _ _
theorem Oi:Inj (sen ps os m):=by rw[<-Na];exact Jx _
theorem ldp_lt:∀i∈ldp ps os m,i < (rch ps m ps.length).length:=λi hi=>by have:=fr_lt i hi;rwa [bx] at this
theorem lkp_lt:∀i∈lkp ps os m,i < (msk ps os).length:=λi hi=>by have:=fr_lt i hi;rwa [bx] at this
theorem M3:∀x∈lkL ps os m,x∈msk ps os:=λx G=>by
 obtain⟨i,hi,rfl⟩:=hF.mp G;exact getD_mem (lkp_lt i hi)
theorem lst_in:∀x∈lst_ ps os m,x∈rch ps m ps.length:=λx G=>by
 obtain⟨i,hi,rfl⟩:=hF.mp G;exact getD_mem (ldp_lt i hi)
theorem nZ:(lkL ps os m).length=(lkp ps os m).length:=bx ..
theorem sen_len:(sen ps os m).length=(lkp ps os m).length:=by unfold sen;rw[bx,nZ]
theorem lst_len:(lst_ ps os m).length=(ldp ps os m).length:=bx ..
theorem EG (h:Span (rch ps m ps.length) x):∃y,Span (lst_ ps os m) y/\ow x (msk ps os)=ow y (msk ps os):=by
 obtain⟨F,_,e⟩:=jC h;have hs:Span ((rch ps m ps.length).map (ow · (msk ps os))) (ow x (msk ps os)):=by rw[<-e,zd];exact sm_span _ _
 rw[<-zT,Nc] at hs;obtain⟨P,_,ν⟩:=jC hs;exact⟨sm (lst_ ps os m) P,sm_span _ _,by rw[zd,ν]⟩
theorem FZ {d:Nat} (hd:Span (msk ps os) d) (h:∀s∈lst_ ps os m,od (d&&&s)=false) (hx:Span (rch ps m ps.length) x):od (d&&&x)=false:=by
 obtain⟨y,L,e⟩:=EG (os:=os) hx;have h1:=rC _ h y L;have h2:ow (x^^^y) (msk ps os)=0:=by rw[DR,e,Vx]
 have G:=rC _ (lD.mp h2) d hd;rw[Up,and_xor,od_xor,h1,VO] at G;exact G
theorem span_sen {d:Nat} (hd:Span (msk ps os) d):Span (sen ps os m) (ow d (lst_ ps os m)):=by
 obtain⟨F,_,e⟩:=jC hd;rw[<-Na,zT,<-e,zd];exact sm_span _ _
theorem MI (p:Nat):sm (sen ps os m) p=ow (sm (lkL ps os m) p) (lst_ ps os m):=by unfold sen;rw[zd]
theorem Ec {d p:Nat} (hl:(lkL ps os m).length<=1000) (hd:Span (msk ps os) d) (L:sm (sen ps os m) p=ow d (lst_ ps os m)) (hx:Span (rch ps m ps.length) x):od (p&&&ow x (lkL ps os m))=od (d&&&x):=by
 rw[S5 p x _ hl];have hs:Span (msk ps os) (sm (lkL ps os m) p^^^d):=span_xor (BR _ (λy G=>oH (M3 y G)) p) hd;have δ:ow (sm (lkL ps os m) p^^^d) (lst_ ps os m)=0:=by rw[DR,<-MI,L,Vx]
 have:=FZ hs (lD.mp δ) hx;rw[uQ,od_xor] at this;revert this;cases od (sm (lkL ps os m) p&&&x)<;>cases od (d&&&x)<;>simp
theorem yY:Inj ((lst_ ps os m).map (ow · (lkL ps os m))):=by
 intro F L e;rw[bx] at L;rw[<-zd] at e;have α:=lD.mp e
 have G:ow (sm (lst_ ps os m) F) (msk ps os)=0:=by
  rw[lD];intro mk η;have hs:=span_sen (m:=m) (oH η);obtain⟨P,_,ν⟩:=jC hs;rw[MI] at ν;have δ:ow (sm (lkL ps os m) P^^^mk) (lst_ ps os m)=0:=by rw[DR,ν,Vx]
  have h1:=rC _ (lD.mp δ) _ (sm_span (lst_ ps os m) F);have h2:=rC _ α _ (sm_span (lkL ps os m) P);rw[uQ,od_xor,Up _ (sm (lst_ ps os m) F),h2,Wa] at h1;rw[Up];exact h1
 have hI:=Jx ((rch ps m ps.length).map (ow · (msk ps os)));rw[Nc] at hI;exact hI F (by rw[bx];exact L) (by rw[<-zd];exact G)
theorem many_eq:(lkp ps os m).length=(ldp ps os m).length:=by
 have h1:=zL (Oi (ps:=ps) (os:=os) (m:=m)) (t:=(lst_ ps os m).length) (λx G=>by
  obtain⟨y,_,rfl⟩:=hF.mp G;exact ow_lt _ _)
 have h2:=zL (yY (ps:=ps) (os:=os) (m:=m)) (t:=(lkL ps os m).length) (λx G=>by
  obtain⟨y,_,rfl⟩:=hF.mp G;exact ow_lt _ _)
 rw[sen_len,lst_len] at h1;rw[bx,lst_len,nZ] at h2;omega
theorem many_le:(lkp ps os m).length<=ps.length:=by
 have h:=zL (ws:=lst_ ps os m) (t:=ps.length) (λF L e=>?_) (λx G=>rch_lt ps m _ x (lst_in x G))
 ·rw[many_eq,<-lst_len];exact h
 ·refine yY (ps:=ps) (os:=os) (m:=m) F (by rw[bx];exact L) ?_;rw[<-zd,e,zc]
structure Lsr (ps os:A') (m:Nat) (nx' os':A'):Prop where
 ln:nx'.length=(lkp ps os m).length
 lo:os'.length=os.length
 n1:∀(j:Nat) (q:Nat×Nat),nx'[j]? =a' q->q.1 < 2 ^ (lkp ps os m).length/\sm (sen ps os m) q.1=ow (sm (ps.map (·.1)) ((lkL ps os m).getD j 0)) (lst_ ps os m)/\q.2=sm (ps.map (·.2)) ((lkL ps os m).getD j 0)
 o1:∀(j:Nat) (q:Nat×Nat),os'[j]? =a' q->q.1 < 2 ^ (lkp ps os m).length/\sm (sen ps os m) q.1=ow (os.getD j (0,0)).1 (lst_ ps os m)/\q.2=(os.getD j (0,0)).2
structure Fit (ps os:A') (m:Nat):Prop where
 ln:ps.length<=120
 bn:∀q∈ps++os,q.1 < 2 ^ ps.length
theorem Fit.A (f:Fit ps os m):∀x∈ps.map (·.1),x < 2 ^ ps.length:=λx G=>by
 obtain⟨q,L,rfl⟩:=hF.mp G;exact f.bn q (iv _ L)
theorem Fit.O (f:Fit ps os m):∀x∈os.map (·.1),x < 2 ^ ps.length:=λx G=>by
 obtain⟨q,L,rfl⟩:=hF.mp G;exact f.bn q (hW _ L)
theorem Fit.back (f:Fit ps os m) (h:x∈msk ps os):Span (msk ps os) (sm (ps.map (·.1)) x):=LJ f.A f.O h
theorem Fit.out (f:Fit ps os m) (h:x∈os.map (·.1)):Span (msk ps os) x:=IK f.A f.O h 0
theorem getD_at' {α:Type} {X:eE α} {d:α} (h:i < X.length):X[i]? =a' (X.getD i d):=by
 rw[ec,ed h];rfl
theorem Lsr.next (a:Lsr ps os m es Y) (f:Fit ps os m) (hx:Span (rch ps m ps.length) x):tr2 es (ow x (lkL ps os m)) r=ow (tr2 ps x r) (lkL ps os m):=ix λj=>by
 have hn:=many_le (ps:=ps) (os:=os) (m:=m);have α:=f.ln;rw[tr2_bit,ow_bit,a.ln,nZ];by_cases L:j < (lkp ps os m).length
 ·rw[gB L,U',U'];have Z:=a.n1 j _ (getD_at' (d:=(0,0)) (by rw[a.ln];exact L));have hm:(lkL ps os m).getD j 0∈msk ps os:=M3 _ (getD_mem (by rw[nZ];exact L));rw[Ec (by rw[nZ];omega) (f.back hm) Z.2.1 hx,Z.2.2,Up (tr2 ps x r),Iq _ _ _ _ @A]
 ·rw[gn L,U2,U2]
theorem Lsr.says (a:Lsr ps os m Y es) (f:Fit ps os m) (hx:Span (rch ps m ps.length) x):tr2 es (ow x (lkL ps os m)) r=tr2 os x r:=ix λj=>by
 have hn:=many_le (ps:=ps) (os:=os) (m:=m);have α:=f.ln;rw[tr2_bit,tr2_bit,a.lo];by_cases L:j < os.length
 ·rw[gB L,U',U'];have Z:=a.o1 j _ (getD_at' (d:=(0,0)) (by rw[a.lo];exact L));have hm:(os.getD j (0,0)).1∈os.map (·.1):=hF.mpr ⟨_,ee (getD_at' L),rfl⟩;rw[Ec (by rw[nZ];omega) (f.out hm) Z.2.1 hx,Z.2.2]
 ·rw[gn L,U2,U2]
theorem Lsr.walk {L:A'} (a:Lsr ps os m L Y) (f:Fit ps os m):∀(rs:C') (x:Nat),(∀r∈rs,r < 2 ^ m)->Span (rch ps m ps.length) x->wan L Y (ow x (lkL ps os m)) rs=wan ps os x rs
 | [],x,_,_=>rfl
 | r::rs,x,h,hx=>by
   show tr2 Y _ r::wan L Y (tr2 L _ r) rs=tr2 os x r::wan ps os (tr2 ps x r) rs;rw[a.says f hx,a.next f hx,a.walk f rs _ (λy G=>h y (p' _ G)) (DL hx (h r u'))]
theorem Lsr.alike {L:A'} (a:Lsr ps os m L Y) (f:Fit ps os m) {rs:C'} (h:∀r∈rs,r < 2 ^ m):wan L Y 0 rs=wan ps os 0 rs:=by
 have:=a.walk f rs 0 h (span_zero _);rwa [zc] at this
theorem OQ {t o:Nat} (hl:ps.length<=1000) (ho:o < os.length) (ht:t < ps.length) (hi:i=t * os.length + o):od (x&&&(msk ps os).getD i 0)=(tr2 os (zs ps x t) 0).testBit o:=by
 have G:(os.map (·.1))[o]? =a' (os.getD o (0,0)).1:=by rw[gA,getD_at' (d:=(0,0)) ho];rfl
 have:=IJ (A:=ps.map (·.1)) G ht;rw[bx] at this;unfold msk;rw[hi,ec,this,Zc,tr2_bit,gB ho,U',VD,od_zero,VO,Rf ps hl,Up]
end
end M
namespace Sx
open PySem L2
theorem OH {L:C'} {v:Nat} (h:L[i]? =a' v):M.ow x (L.take (i + 1))=M.ow x (L.take i)^^^(if M.od (x&&&v)=true then 2 ^ i else 0):=by
 have hi:=(b'.mp h).1;have hl:(L.take i).length=i:=by rw[wh];omega
 rw[take_succ h];refine ix λk=>?_;rw[TH,M.ow_bit,M.ow_bit,eP,Tu,hl];by_cases hk:k < i
 ·rw[ec,ec,kv (by rw[hl];exact hk),gB hk,gB (show k < i + 1 by omega)]
  have:(if M.od (x&&&v)=true then 2 ^ i else 0).testBit k=false:=by
   split
   ·rw[zt];exact gn @A
   ·exact U9 k
  rw[this,VO]
 ·by_cases G:k=i
  ·subst G;rw[gn hk,gB (UU _),U2,Wa,U'];rw[ec,lT @A,hl,Xf];show M.od (x&&&v)=_;by_cases hw:M.od (x&&&v)=true
   ·rw[wb hw,Ud,hw]
   ·rw[qb hw,U9];simpa using hw
  ·rw[gn hk,gn (show ¬k < i + 1 by omega),U2,U2,Wa];split
   ·rw[zt];exact(gn @A).symm
   ·exact(U9 k).symm
theorem Q0 {w k:Nat} (h:k < w):M.pl w (2 ^ k)=[k]:=by
 induction w with
 | zero=>omega
 | succ w ih=>
   rw[M.pl_next];by_cases hk:k=w
   ·subst hk;rw[Ud,wb rfl]
    have:M.pl k (2 ^ k)=[]:=by
     unfold M.pl;refine Xj.mpr λx G=>?_;have:=U8.mp G;simp[zt];omega
    rw[this];rfl
   ·rw[ih @A,zt,gn hk];rfl
def K4 (C:eH):Sp:=λvs H Q _=>∃(p:eH) (m:Nat) (nx os:eE Pr3),vs=[.ref p]/\MaA H C p m nx os/\MaG m nx os/\nx.length<=60/\∀(D:eH) (H2:Hp),H D=f'->Same H H2->H2 D=a' (.lst ((M.msk (prs nx) (prs os)).map nat))->Q (.ref D) H2
def NY:Sp:=λvs H Q _=>∃(r x:Nat) (L:C'),vs=[nat x,.ref r]/\H r=a' (.lst (L.map nat))/\L.length<=1000/\x < 2 ^ 1000/\∀H2,Same H H2->Q (nat (M.ow x L)) H2
def P3:Sp:=λvs H Q _=>∃(t Y L:eH) (a b:Nat) (S Z:C'),vs=[.ref t,.ref Y,.ref L]/\H t=a' (.tup [nat a,nat b])/\H Y=a' (.lst (S.map nat))/\H L=a' (.lst (Z.map nat))/\S.length<=1000/\Z.length<=1000/\(∀z∈Z,z < 2 ^ 1000)/\a < 2 ^ 1000/\M.Span Z (M.ow a S)/\∀(G:eH) (H2:Hp) (q:Nat),H G=f'->Same H H2->H2 G=a' (.tup [nat q,nat b])->Sumd Z (M.ow a S) q->Q (.ref G) H2
def Cp (G:eE Pr3->Prop) (H1:Hp) (D:eH) (i:Nat) (ys:eE V) (H:Hp):Prop:=∃qs:eE Pr3,ys=refs qs/\qs.length=i/\G qs/\Prt H qs/\Same H1 H/\H D=a' (.lst ys)
theorem Np {Z:eE Pr3->Prop} (γ:H1 D=f') (α:At.length=i) (pt:Prt H At) (s:Same H1 H) (Y:H D=a' (.lst (refs At))) (L:Same H H') (et:H' t=a' (.tup [nat x,nat y])) (hi:i < 1000) (pv:Z (At++[(t,x,y)])):H' D=a' (.lst (refs At))/\(refs At).length < hR/\Cp Z H1 D (i + 1) (refs At++[.ref t]) (upd H' D (.lst (refs At++[.ref t]))):=by
 refine⟨L.get Y,by rw[gU,α];exact aM @A,At++[(t,x,y)],by unfold refs;rw[ef];rfl,by rw[eP,α];rfl,pv,λq β=>?_,λb ob e=>?_,au⟩
 ·have ρ:H' q.1=a' (.tup [nat q.2.1,nat q.2.2]):=by
   rcases gz.mp β with h | h
   ·exact L.get (pt q h)
   ·rw[gs.mp h];exact et
  have n:q.1≠D:=λz=>by rw[z,L.get Y] at ρ;cases ρ
  rw[aF n];exact ρ
 ·rw[aF (ao e γ)];exact L.get (s.get e)
def Co (ob:Nat->HO) (H1:Hp) (D:eH) (i:Nat) (ys:eE V) (H:Hp):Prop:=∃ds:M',ys=ds.map V.ref/\ds.length=i/\(∀(j:Nat) (d:eH),ds[j]? =a' d->H d=a' (ob j))/\(∀d∈ds,H1 d=f'/\d≠D)/\Same H1 H/\H D=a' (.lst ys)
theorem qG (α:H1 D=f'):Co ob H1 D 0 [] (upd H1 D (.lst [])):=⟨[],rfl,rfl,λj d h=>(by simp at h),λ_ h=>(by cases h),aW α,au⟩
theorem JS {G:eE Pr3->Prop} (α:H1 D=f') (h:G []):Cp G H1 D 0 [] (upd H1 D (.lst [])):=⟨[],rfl,rfl,h,λ_ h=>(by cases h),aW α,au⟩
theorem wR {ys:eE V} (α:H1 D=f') (c:Co ob H1 D i ys H) (L:Same H γ) (ft:H t=f') (et:γ t=a' (ob i)) (hi:i < 1000):γ D=a' (.lst ys)/\ys.length < hR/\Co ob H1 D (i + 1) (ys++[.ref t]) (upd γ D (.lst (ys++[.ref t]))):=by
 obtain⟨ds,rfl,ld,ha,hf,s,β⟩:=c;have Z:t≠D:=λz=>by rw[z,β] at ft;cases ft
 refine⟨L.get β,by rw[bx,ld];exact aM @A,ds++[t],by rw[ef];rfl,by rw[eP,ld];rfl,λj d h=>?_,λd hd=>?_,λb o e=>?_,au⟩
 ·by_cases Y:j < ds.length
  ·rw[kv Y] at h;rw[aF (hf d (ee h)).2];exact L.get (ha j d h)
  ·rw[lT @A] at h
   have hz:j - ds.length=0:=by
    cases e:j - ds.length with
    | zero=>rfl
    | succ m=>rw[e] at h;simp at h
   rw[hz] at h;have h:d=t:=(zx h).symm;have Y:j=i:=by omega
   rw[h,aF Z,Y];exact et
 ·rcases gz.mp hd with h | h
  ·exact hf d h
  ·rw[gs.mp h];exact⟨s.free ft,Z⟩
 ·rw[aF (ao e α)];exact L.get (s.get e)
structure Lrl (H:Hp) (Dr Dl:eH) (ds es:M') (m:Nat) (nx os:eE Pr3):Prop where
 r:H Dr=a' (.lst (ds.map V.ref))
 l:H Dl=a' (.lst (es.map V.ref))
 dl:ds.length=(M.ldp (prs nx) (prs os) m).length
 el:es.length=(M.lkp (prs nx) (prs os) m).length
 da:∀(j:Nat) (d k:Nat),ds[j]? =a' d->(M.ldp (prs nx) (prs os) m)[j]? =a' k->H d=a' (.lst ((M.upk m (2 ^ k) nx.length).map nat))
 ea:∀(j:Nat) (e k:Nat),es[j]? =a' e->(M.lkp (prs nx) (prs os) m)[j]? =a' k->H e=a' (.tup [nat (k / os.length),nat (k % os.length)])
def K5 (C:eH):Sp:=λvs H Q _=>∃(p:eH) (m:Nat) (nx os:eE Pr3),vs=[.ref p]/\MaA H C p m nx os/\MaG m nx os/\nx.length<=60/\∀(t x ψ Y:eH) (ds es:M') (H2:Hp) (L G:eE Pr3),Same H H2->H2 t=a' (.tup [.ref x,.ref ψ,.ref Y])->MaA H2 C x m L G->MaG m L G->M.Lsr (prs nx) (prs os) m (prs L) (prs G)->Lrl H2 ψ Y ds es m nx os->H ψ=f'->H Y=f'->ψ≠Y->(∀d∈ds,H d=f'/\d≠ψ/\d≠Y)->Q (.ref t) H2
end Sx
namespace M
theorem upk_xor (w p q T:Nat):WB (·^^^·) (upk w p T) (upk w q T)=upk w (p^^^q) T:=by
 unfold upk;rw[List.zipWith_map,List.zipWith_self];refine UV λt _=>?_;rw[Nat.shiftRight_xor_distrib,Nat.and_xor_distrib_right]
theorem upk_zero (w T:Nat):upk w 0 T=lj T 0:=by
 unfold upk;simp only[Nat.zero_shiftRight,Vq];rw[List.map_const',TC]
section
variable {ps os:A'} {m:Nat}
noncomputable def chs (ps os:A') (m a i:Nat):Nat:=sm (((ldp ps os m).map (2 ^ ·)).take i) a
theorem chs_zero (a:Nat):chs ps os m a 0=0:=by unfold chs;rw[List.take_zero];rfl
theorem chs_succ {a k:Nat} (h:(ldp ps os m)[i]? =a' k):chs ps os m a (i + 1)=chs ps os m a i^^^(if a.testBit i then 2 ^ k else 0):=by
 unfold chs;exact Hj a (by rw[gA,h];rfl)
theorem R7 (a i:Nat):chs ps os m a i < 2 ^ (ps.length * m):=by
 unfold chs;refine sm_lt a λx G=>?_;obtain⟨k,hk,rfl⟩:=hF.mp (Zq G);have:=ldp_lt (ps:=ps) (os:=os) (m:=m) k hk;rw[rch_len] at this;exact U0 @C this
theorem chs_leads (a:Nat):wst ps 0 (upk m (chs ps os m a (ldp ps os m).length) ps.length)=sm (lst_ ps os m) a:=by
 rw[DK ps m _ (upk_lt m _ _),upk_len,HX m _ _ (R7 a _)];unfold chs;rw[UE (by rw[bx];exact sb _),Oe];congr 1;unfold lst_;rw[TU];refine UV λk hk=>?_;exact oI ..
noncomputable def shw (ps os:A') (m x:Nat):C':=(vu (lkp ps os m).length).map λj=>bn ((ow x (lkL ps os m)).testBit j)
theorem shw_one {a b:Nat} (ha:a < 2 ^ (lkp ps os m).length) (hb:b < 2 ^ (lkp ps os m).length) (h:shw ps os m (sm (lst_ ps os m) a)=shw ps os m (sm (lst_ ps os m) b)):a=b:=by
 have hl:((lst_ ps os m).map (ow · (lkL ps os m))).length=(lkp ps os m).length:=by rw[bx,lst_len,many_eq]
 refine RF yY (by rw[hl];exact ha) (by rw[hl];exact hb) ?_;rw[<-zd,<-zd];refine ix λj=>?_;by_cases G:j < (lkp ps os m).length
 ·have e:=T4 (·[j]?) h;unfold shw at e;simp only[gA,Ub G,YO,Option.some.injEq] at e;unfold bn at e;revert e;cases(ow (sm (lst_ ps os m) a) (lkL ps os m)).testBit j<;>cases(ow (sm (lst_ ps os m) b) (lkL ps os m)).testBit j<;>simp
 ·rw[ow_bit,ow_bit,nZ,gn G,U2,U2]
theorem shw_at {k:Nat} (hl:ps.length<=1000) (h:(lkp ps os m)[j]? =a' k):(ow x (lkL ps os m)).testBit j=(tr2 os (zs ps x (k / os.length)) 0).testBit (k % os.length):=by
 have G:=(b'.mp h).1;have hk:=lkp_lt (ps:=ps) (os:=os) (m:=m) k (ee h);have hm:(msk ps os).length=ps.length * os.length:=by unfold msk;rw[lkm_len,bx]
 rw[hm] at hk;have ho:0 < os.length:=ZU λz=>by rw[z,Nat.mul_zero] at hk;exact VS _ hk
 have hd:(lkL ps os m).getD j 0=(msk ps os).getD k 0:=by
  unfold lkL;rw[ec,gA,h];rfl
 rw[ow_bit,nZ,gB G,U',hd];exact OQ hl (ZY _ ho) (Wu (by rw[Yh];exact hk)) (Nat.div_add_mod' k os.length).symm
end
theorem wan_zeros92 (ps os:A'):∀(T x t:Nat),t < T->(wan ps os x (lj T 0))[t]? =a' (tr2 os (zs ps x t) 0)
 | 0,x,t,h=>hD h (VS _)
 | T + 1,x,0,h=>rfl
 | T + 1,x,t + 1,h=>by
   rw[Vi];show(wan ps os (tr2 ps x 0) (lj T 0))[t]? =_;rw[wan_zeros92 ps os T _ t @A,NB]
end M
namespace Sx
open PySem L2
noncomputable def low (c:Nat):Bool:=decide (97<=c)&&decide (c<=122)
noncomputable def fig (c:Nat):Bool:=decide (48<=c)&&decide (c<=57)
noncomputable def nm (l:C'):Bool:=match l with
 | []=>false
 | c::r=>decide ((c::r).length<=6)&&low c&&(c::r).all λc=>low c||fig c
noncomputable def S7 (x:V):Bool:=match x with
 | .str z=>nm z.cps.toList
 | _=>false
def Nm (z:T3):Prop:=nm z.cps.toList=true
def G5 (K:dt):Sp:=λvs H Q _=>∃x k,vs=[x]/\mH K H x k/\(∀z,x= .str z->z.length<=1000)/\∀H',Same H H'->Q (.bl (S7 x)) H'
theorem memL (c:Nat):decide (c∈("abcdefghijklmnopqrstuvwxyz":T3).cps.toList)=low c:=by
 have e:("abcdefghijklmnopqrstuvwxyz":T3).cps.toList=Ym 97 26:=by decide +kernel
 rw[e];unfold low;rw[Vn,TZ,Us,Us,Us,Y2];constructor
 ·rintro⟨i,h,rfl⟩;omega
 ·rintro⟨h1,h2⟩;exact⟨c - 97,@A,@A⟩
theorem memN (c:Nat):decide (c∈("abcdefghijklmnopqrstuvwxyz0123456789":T3).cps.toList)=(low c||fig c):=by
 have e:("abcdefghijklmnopqrstuvwxyz0123456789":T3).cps.toList=Ym 97 26++Ym 48 10:=by decide +kernel
 rw[e];unfold low fig;rw[Vn,Bool.or_eq_true,TZ,TZ,Us,Us,Us,Us,Us,gz,Y2,Y2];constructor
 ·rintro(⟨i,h,rfl⟩ | ⟨i,h,rfl⟩)
  ·left;omega
  ·right;omega
 ·rintro(⟨h1,h2⟩ | ⟨h1,h2⟩)
  ·exact .inl ⟨c - 97,by omega,by omega⟩
  ·exact .inr ⟨c - 48,by omega,by omega⟩
theorem oY (z:T3):z.cps.toList.length=z.length:=by simp[Str.length]
theorem BM:z=""↔z.cps.toList=[]:=by
 constructor
 ·rintro rfl;decide +kernel
 ·intro h;cases z with | mk c=>cases c with | mk l=>have h:l=[]:=h;subst h;decide +kernel
theorem Nm.len (h:Nm z):z.length<=6:=by
 have h:nm z.cps.toList=true:=h;have l:=oY z;cases e:z.cps.toList with
 | nil=>rw[e] at l;rw[<-l];decide
 | cons c r=>
   rw[e] at h l;unfold nm at h;rw[TZ,TZ] at h;have:=TF h.1.1;omega
theorem c_nm {K:dt} (h:Nm z) (q:∀H',Same H H'->Q (.bl true) H'):G5 K [.str z] H Q E:=⟨_,"str",rfl,rfl,λG e=>by cases e;have:=h.len;omega,λH' s=>by show Q (.bl (nm z.cps.toList)) H';rw[show nm z.cps.toList=true from h];exact q H' s⟩
def K9 (K:dt):Sp:=λvs H Q _=>∃x C dx nm,vs=[.ref x,nm]/\Cls K C/\cE K C "name"/\H x=a' (.ins C dx [])/\∀H2,Upd H H2 x (.ins C dx [("name",nm)])->Q .non H2
def K8 (C:eH):Sp:=λvs H Q _=>∃x dx nm k,vs=[.ref x,nm,k]/\H x=a' (.ins C dx [])/\∀H2,Upd H H2 x (.ins C dx [("name",nm),("number",k)])->Q .non H2
def K7 (C:eH):Sp:=λvs H Q _=>∃x dx nm w k,vs=[.ref x,nm,w,k]/\H x=a' (.ins C dx [])/\∀H2,Upd H H2 x (.ins C dx [("name",nm),("wire",w),("number",k)])->Q .non H2
def Oc (C:eH):Sp:=λvs H Q _=>∃p dx nm k G row st,vs=[.ref p,G,.int row,.int st]/\H p=a' (.ins C dx [("name",nm),("number",.int k)])/\0<=k/\Q (.int (V9 (row / 2 ^ k.toNat) 1)) H
def Oa (C:eH):Sp:=λvs H Q _=>∃p dx nm w k G row st,vs=[.ref p,G,.int row,.int st]/\H p=a' (.ins C dx [("name",nm),("wire",w),("number",.int k)])/\0<=k/\Q (.int (V9 (st / 2 ^ k.toNat) 1)) H
def Ob (K:dt) (C:eH):Sp:=λvs H Q _=>∃(p dx:eH) (nm:V) (δ d:eH) (ws:B') (kvs:eE (Key×V)) (f:T3->Int) (row st:Int),vs=[.ref p,.ref d,.int row,.int st]/\H p=a' (.ins C dx [("name",nm),("wires",.ref δ)])/\SqT K H δ (ws.map V.str)/\
 H d=a' (.dK kvs)/\(∀w∈ws,valV kvs (Tz w)=a' (.int (f w)))/\Q (.int ((ws.map f).foldl U5 0)) H
def Lf (C:eH):Sp:=λvs H Q _=>∃p dx nm k G,vs=[.ref p,G]/\H p=a' (.ins C dx [("name",nm),("number",.int k)])/\0<=k/\k<=1000/\∀t H2,Same H H2->H2 t=a' (.tup [.int 0,.int (1 * 2 ^ k.toNat)])->Q (.ref t) H2
def Ld (C:eH):Sp:=λvs H Q _=>∃p dx nm w k G,vs=[.ref p,G]/\H p=a' (.ins C dx [("name",nm),("wire",w),("number",.int k)])/\0<=k/\k<=1000/\∀t H2,Same H H2->H2 t=a' (.tup [.int (1 * 2 ^ k.toNat),.int 0])->Q (.ref t) H2
def Le (K:dt) (C:eH):Sp:=λvs H Q _=>∃(p dx:eH) (nm:V) (δ d:eH) (ws:B') (kvs:eE (Key×V)) (f g:T3->Int),vs=[.ref p,.ref d]/\H p=a' (.ins C dx [("name",nm),("wires",.ref δ)])/\SqT K H δ (ws.map V.str)/\
 H d=a' (.dK kvs)/\(∀w∈ws,∃t,valV kvs (Tz w)=a' (.ref t)/\SqT K H t [.int (f w),.int (g w)])/\∀t H2,Same H H2->H2 t=a' (.tup [.int ((ws.map f).foldl U5 0),.int ((ws.map g).foldl U5 0)])->Q (.ref t) H2
theorem wC {ws:B'} {f:T3->Int} {w:T3} (h:ws[i]? =a' w):((ws.take (i + 1)).map f).foldl U5 0=U5 (((ws.take i).map f).foldl U5 0) (f w):=by
 rw[Xv,h,ef,V1];rfl
structure Nt where
 ins:B'
 sums:eE (T3×eE T3)
 sts:eE (T3×T3)
 outs:B'
noncomputable def Nt.names (N:Nt):B':=N.ins++N.sums.map (·.1)++N.sts.map (·.1)
structure Gn (N:Nt):Prop where
 li:N.ins.length<=6
 ls:N.sums.length<=40
 lt:N.sts.length<=16
 lo:N.outs.length<=6
 lw:∀r∈N.sums,r.2.length<=24
 nm:∀z∈N.names,Nm z
 nd:N.names.Nodup
 ws:∀r∈N.sums,∀z∈r.2,z∈N.names
 ts:∀r∈N.sts,r.2∈N.names
 os:∀z∈N.outs,z∈N.names
 rk:∃rank:T3->Nat,∀r∈N.sums,∀z∈r.2,z∈N.sums.map (·.1)->rank z < rank r.1
structure Topo (sums:eE (T3×eE T3)) (od:B'):Prop where
 perm:od.Perm (sums.map (·.1))
 need:∀(i:Nat) z,od[i]? =a' z->∀ws,(z,ws)∈sums->∀y∈ws,y∈sums.map (·.1)->y∈od.take i
noncomputable abbrev Rw:=eH×eH×T3×eE T3
variable {rs:eE Rw}
noncomputable abbrev Qs:=eH×T3×T3
variable {Ch:eE Qs}
structure Hnd (H:Hp) (i s t o:eH) (rs:eE Rw) (qs:eE Qs) (N:Nt):Prop where
 i:H i=a' (.lst (N.ins.map V.str))
 s:H s=a' (.lst (rs.map λr=>V.ref r.1))
 sr:∀r∈rs,H r.1=a' (.tup [.str r.2.2.1,.ref r.2.1])/\H r.2.1=a' (.lst (r.2.2.2.map V.str))
 es:rs.map (·.2.2)=N.sums
 t:H t=a' (.lst (qs.map λq=>V.ref q.1))
 tr:∀q∈qs,H q.1=a' (.tup [.str q.2.1,.str q.2.2])
 et:qs.map (·.2)=N.sts
 o:H o=a' (.lst (N.outs.map V.str))
theorem Hnd.same {i s o:eH} {N:Nt} (x:Hnd H i s t o rs Ch N) (h:Same H H2):Hnd H2 i s t o rs Ch N:=⟨h.get x.i,h.get x.s,λr m=>⟨h.get (x.sr r m).1,h.get (x.sr r m).2⟩,x.es,h.get x.t,λq m=>h.get (x.tr q m),x.et,h.get x.o⟩
structure Kpt (H:Hp) (i s t o:eH) (rs:eE Rw) (qs:eE Qs) (N:Nt):Prop where
 i:H i=a' (.tup (N.ins.map V.str))
 s:H s=a' (.tup (rs.map λr=>V.ref r.1))
 sr:∀r∈rs,H r.1=a' (.tup [.str r.2.2.1,.ref r.2.1])/\H r.2.1=a' (.tup (r.2.2.2.map V.str))
 es:rs.map (·.2.2)=N.sums
 t:H t=a' (.tup (qs.map λq=>V.ref q.1))
 tr:∀q∈qs,H q.1=a' (.tup [.str q.2.1,.str q.2.2])
 et:qs.map (·.2)=N.sts
 o:H o=a' (.tup (N.outs.map V.str))
theorem Kpt.same {i s o:eH} {N:Nt} (x:Kpt H i s t o rs Ch N) (h:Same H H2):Kpt H2 i s t o rs Ch N:=⟨h.get x.i,h.get x.s,λr m=>⟨h.get (x.sr r m).1,h.get (x.sr r m).2⟩,x.es,h.get x.t,λq m=>h.get (x.tr q m),x.et,h.get x.o⟩
def Hf:Sp:=λvs H Q _=>∃(i s t o:eH) (rs:eE Rw) (qs:eE Qs) (N:Nt),vs=[.ref i,.ref s,.ref t,.ref o]/\Hnd H i s t o rs qs N/\Gn N/\∀H2,Same H H2->Q .non H2
def Hg:Sp:=λvs H Q _=>∃(l:eH) (zs:B'),vs=[.ref l]/\H l=a' (.lst (zs.map V.str))/\zs.length<=1000/\zs.Nodup/\(∀z∈zs,Nm z)/\∀H2,Same H H2->Q .non H2
def Knw (H:Hp) (d:eH) (zs:B'):Prop:=∃kvs:eE (Key×V),H d=a' (.dK kvs)/\kvs.map (·.1)=zs.map Tz
theorem Knw.same {zs:B'} (x:Knw H d zs) (h:Same H H2):Knw H2 d zs:=let ⟨k,e,f⟩:=x;⟨k,h.get e,f⟩
def Lg:Sp:=λvs H Q _=>∃(z:T3) (d:eH) (zs:B'),vs=[.str z,.ref d]/\Knw H d zs/\z∈zs/\Nm z/\∀H2,Same H H2->Q .non H2
def He:Sp:=λvs H Q _=>∃(i s t o d:eH) (rs:eE Rw) (qs:eE Qs) (N:Nt),vs=[.ref s,.ref t,.ref o,.ref d]/\Kpt H i s t o rs qs N/\Gn N/\Knw H d N.names/\∀H2,Same H H2->Q .non H2
theorem uG {zs:B'} (e:kvs.map (·.1)=zs.map Tz) (z:T3):(valV kvs (Tz z)).isSome=decide (z∈zs):=by
 cases h:valV kvs (Tz z) with
 | none=>
   have:=KG h;rw[e] at this;rw[gn λm=>this (hF.mpr ⟨z,m,rfl⟩)];rfl
 | some v=>
   have:=NM h;rw[e] at this;obtain⟨y,G,ey⟩:=hF.mp this;cases ey;rw[gB G];rfl
theorem B8 {zs:B'} (e:kvs.map (·.1)=zs.map Tz) (h:z∉zs) (v:V):putK kvs (Tz z) v=kvs++[(Tz z,v)]:=by
 refine DP ?_;rw[<-Option.not_isSome_iff_eq_none,uG e z,gn h];exact hB
inductive Wob (H:Hp) (CI CS CT:eH) (N:Nt) (z:T3) (w:eH):Prop where
 | i (k:Nat) (dx:eH) (hk:N.ins[k]? =a' z) (e:H w=a' (.ins CI dx [("name",.str z),("number",nat k)])):Wob H CI CS CT N z w
 | s (ws:B') (dx tw:eH) (hk:(z,ws)∈N.sums) (e:H w=a' (.ins CS dx [("name",.str z),("wires",.ref tw)])) (et:H tw=a' (.tup (ws.map V.str))):Wob H CI CS CT N z w
 | t (k:Nat) (y:T3) (dx:eH) (hk:N.sts[k]? =a' (z,y)) (e:H w=a' (.ins CT dx [("name",.str z),("wire",.str y),("number",nat k)])):Wob H CI CS CT N z w
theorem Wob.same {N:Nt} {w:eH} (x:Wob H φ υ τ N z w) (h:Same H H2):Wob H2 φ υ τ N z w:=by
 cases x with
 | i k dx hk e=>exact .i k dx hk (h.get e)
 | s ws dx δ hk e et=>exact .s ws dx δ hk (h.get e) (h.get et)
 | t k y dx hk e=>exact .t k y dx hk (h.get e)
theorem Wob.name {N:Nt} {w:eH} (x:Wob H φ υ τ N z w):∃C dx fs,H w=a' (.ins C dx (("name",.str z)::fs))/\(C=φ∨C=υ∨C=τ):=by
 cases x with
 | i k dx hk e=>exact⟨_,_,_,e,.inl rfl⟩
 | s ws dx δ hk e et=>exact⟨_,_,_,e,.inr (.inl rfl)⟩
 | t k y dx hk e=>exact⟨_,_,_,e,.inr (.inr rfl)⟩
structure WiA (H:Hp) (CI CS CT d:eH) (N:Nt) (ws:S'):Prop where
 d:H d=a' (.dK (ws.map λq=>(Tz q.1,V.ref q.2)))
 nm:ws.map (·.1)=N.names
 ob:∀q∈ws,Wob H CI CS CT N q.1 q.2
theorem WiA.same {N:Nt} (x:WiA H φ υ τ d N ws) (h:Same H H2):WiA H2 φ υ τ d N ws:=⟨h.get x.d,x.nm,λq m=>(x.ob q m).same h⟩
theorem WiA.knw {N:Nt} (x:WiA H φ υ τ d N ws):Knw H d N.names:=⟨_,x.d,by rw[TU,<-x.nm,TU];rfl⟩
def EI (φ υ τ:eH):Sp:=λvs H Q _=>∃(i s t o:eH) (rs:eE Rw) (qs:eE Qs) (N:Nt),vs=[.ref i,.ref s,.ref t]/\Kpt H i s t o rs qs N/\Gn N/\∀(d:eH) (H2:Hp) (ws:S'),H d=f'->Same H H2->WiA H2 φ υ τ d N ws->Q (.ref d) H2
noncomputable def hU (zs:B') (ws:B'):Bool:=ws.any λw=>decide (w∈zs)
def KP:Sp:=λvs H Q _=>∃(r:Rw) (d:eH) (zs:B'),vs=[.ref r.1,.ref d]/\H r.1=a' (.tup [.str r.2.2.1,.ref r.2.1])/\H r.2.1=a' (.tup (r.2.2.2.map V.str))/\r.2.2.2.length<=24/\Knw H d zs/\∀H2,Same H H2->Q (.bl (hU zs r.2.2.2)) H2
def EM:Sp:=λvs H Q _=>∃(s:eH) (rs:eE Rw) (N:Nt),vs=[.ref s]/\H s=a' (.tup (rs.map λr=>V.ref r.1))/\(∀r∈rs,H r.1=a' (.tup [.str r.2.2.1,.ref r.2.1])/\H r.2.1=a' (.tup (r.2.2.2.map V.str)))/\rs.map (·.2.2)=N.sums/\Gn N/\∀(D:eH) (H2:Hp) (od:B'),H D=f'->Same H H2->H2 D=a' (.lst (od.map V.str))->Topo N.sums od->Q (.ref D) H2
theorem ji {b:eH} {xs zs:eE V} (L:H l=a' (.lst xs)) (G:H b=a' (.lst zs)) (hl:xs.length + zs.length<=hR) (h:∀H2,Upd H H2 l (.lst (xs++zs))->Q .non H2):B6 (.ref l) [.ref b] H Q:=⟨l,b,xs,zs,rfl,rfl,L,G,hl,h _ Upd.of⟩
theorem Wob.keep {N:Nt} {w:eH} {xs:eE V} (x:Wob H φ υ τ N z w) (α:H D=a' (.lst xs)) (h:∀b o,b≠D->H b=a' o->H2 b=a' o):Wob H2 φ υ τ N z w:=by
 cases x with
 | i k dx hk e=>exact .i k dx hk (h _ _ (cC e α (λz=>by cases z)) e)
 | s ws dx δ hk e et=>exact .s ws dx δ hk (h _ _ (cC e α (λz=>by cases z)) e) (h _ _ (cC et α (λz=>by cases z)) et)
 | t k y dx hk e=>exact .t k y dx hk (h _ _ (cC e α (λz=>by cases z)) e)
structure WL (H0 H:Hp) (CI CS CT:eH) (N:Nt) (D:eH) (ys:eE V) (zs:B') (ws:S'):Prop where
 ey:ys=ws.map λq=>V.ref q.2
 nm:ws.map (·.1)=zs
 ob:∀q∈ws,Wob H CI CS CT N q.1 q.2
 same:Same H0 H
 d:H D=a' (.lst ys)
def Hd (K:dt) (C:eH):Sp:=λvs H Q _=>∃x dx nm δ ws,vs=[.ref x,nm,.ref δ]/\H δ=a' (.tup ws)/\H x=a' (.ins C dx [])/\
 ∀H2,Upd H H2 x (.ins C dx [("name",nm),("wires",.ref δ)])->Q .non H2
theorem WL.put {G:Hp} {N:Nt} {ys:eE V} {zs:B'} (c:WL γ H φ υ τ N D ys zs ws) (α:γ D=f') (s:Same H G) {x:eH} (β:Wob G φ υ τ N z x) (ε:zs.length<=900) {L:B'} (δ:L=zs++[z]):
  G D=a' (.lst ys)/\ys.length < hR/\∃ws,WL γ (upd G D (.lst (ys++[.ref x]))) φ υ τ N D (ys++[.ref x]) L ws:=by
 have Y:=s.get c.d;have k:∀b o,b≠D->G b=a' o->upd G D (.lst (ys++[.ref x])) b=a' o:=λb o n e=>by rw[aF n];exact e
 have lw:ys.length=zs.length:=by rw[c.ey,<-c.nm,bx,bx]
 refine⟨Y,aM @A,ws++[(z,x)],by rw[ef,c.ey];rfl,by rw[ef,c.nm,δ];rfl,λq Z=>?_,λb o e=>?_,au⟩
 ·rcases gz.mp Z with h | h
  ·exact((c.ob q h).same s).keep Y k
  ·rw[gs] at h;subst h;exact β.keep Y k
 ·exact k _ _ (ao e α) (s.get (c.same.get e))
theorem WL.join {N:Nt} {ys:eE V} {zs:B'} (c:WL H' H φ υ τ N D ys zs ws) (L:WL H H2 φ υ τ N C am ON hs) (α:H' D=f') (u:Upd H2 γ D (.lst (ys++am))):
  WL H' γ φ υ τ N D (ys++am) (zs++ON) (ws++hs):=by
 have β:=L.same.get c.d;refine⟨by rw[ef,c.ey,L.ey],by rw[ef,c.nm,L.nm],λq δ=>?_,λb o e=>u.oth _ _ (ao e α) (L.same.get (c.same.get e)),u.at'⟩;rcases gz.mp δ with h | h
 ·exact((c.ob q h).same L.same).keep β u.oth
 ·exact(L.ob q h).keep β u.oth
structure Otp (sums:eE (T3×eE T3)) (od:B') (lf:eE (T3×eE T3)):Prop where
 perm:(od++lf.map (·.1)).Perm (sums.map (·.1))
 sub:∀r∈lf,r∈sums
 need:∀(i:Nat) z,od[i]? =a' z->∀ws,(z,ws)∈sums->∀y∈ws,y∈sums.map (·.1)->y∈od.take i
theorem Otp.start (sums:eE (T3×eE T3)):Otp sums [] sums:=⟨List.Perm.refl _,λ_ h=>h,λi z h=>by simp at h⟩
theorem Otp.done (o:Otp sums N []):Topo sums N:=⟨by have:=o.perm;rwa [Yf,UZ] at this,o.need⟩
theorem Ik (nd:(sums.map (·.1)).Nodup) {ws:B'} (h:(z,ws)∈sums) (h':(z,N)∈sums):ws=N:=by
 induction sums with
 | nil=>cases h
 | cons r l ih=>
   rw[Uq,X0] at nd;rcases Tn.mp h with e | h
   ·rcases Tn.mp h' with L | h'
    ·rw[<-e] at L;exact(Prod.mk.inj L).2.symm
    ·exact hD (hF.mpr ⟨_,h',rfl⟩) (by rw[<-e] at nd;exact nd.1)
   ·rcases Tn.mp h' with L | h'
    ·exact hD (hF.mpr ⟨_,h,rfl⟩) (by rw[<-L] at nd;exact nd.1)
    ·exact ih nd.2 h h'
theorem Otp.step (nd:(sums.map (·.1)).Nodup) (o:Otp sums N D0):
  Otp sums (N++(D0.filter λr=> !hU (D0.map (·.1)) r.2).map (·.1)) (D0.filter λr=>hU (D0.map (·.1)) r.2):=by
 refine⟨?_,λr h=>o.sub r (UT.mp h).1,λi z hz ws hw y Y hs=>?_⟩
 ·refine X5 ?_ o.perm;rw[Wh,<-ef];refine YA _ (List.Perm.map _ ?_);refine X5 Zf ?_;exact Z1 _ _
 ·by_cases hi:i < N.length
  ·rw[kv hi] at hz;rw[Wq (Vh hi)];exact o.need i z hz ws hw y Y hs
  ·rw[lT @A] at hz;have hm:=ee hz;obtain⟨r,Z,rfl⟩:=hF.mp hm;obtain⟨L,G⟩:=UT.mp Z;have e:ws=r.2:=Ik nd hw (o.sub r L);subst e
   have hn:y∉D0.map (·.1):=λm=>by
    have:hU (D0.map (·.1)) r.2=true:=W7.mpr ⟨y,Y,gB m⟩;rw[this] at G;cases G
   have:=(o.perm.mem_iff (a:=y)).mpr hs;rcases gz.mp this with h | h
   ·rw[aa3,gz];left;rw[UE @A];exact h
   ·exact hD h hn
theorem ym {α:Type} (f:α->Nat):∀l:eE α,l≠[]->∃a∈l,∀b∈l,f a<=f b
 | [],h=>hD rfl h
 | [a],_=>⟨a,gs.mpr rfl,λb h=>by rw[gs.mp h];exact sb _⟩
 | a::b::l,_=>by
   obtain⟨c,G,h⟩:=ym f (b::l) @E;by_cases θ:f a<=f c
   ·exact⟨a,u' ..,λd hd=>(Tn.mp hd).elim (λe=>by rw[e];exact sb _) λe=>Vg θ (h d e)⟩
   ·exact⟨c,p' _ G,λd hd=>(Tn.mp hd).elim (λe=>by rw[e];omega) λe=>h d e⟩
theorem Otp.ready {N:Nt} (g:Gn N) (o:Otp N.sums ON D0) (h:D0≠[]):0 < (D0.filter λr=> !hU (D0.map (·.1)) r.2).length:=by
 obtain⟨G,α⟩:=g.rk;obtain⟨r,hm,hl⟩:=ym (λr:T3×eE T3=>G r.1) D0 h;refine List.length_pos_of_mem (UT.mpr ⟨hm,?_⟩);cases hw:hU (D0.map (·.1)) r.2 with
 | false=>rfl
 | true=>
   obtain⟨y,Z,Y⟩:=W7.mp hw;obtain⟨L,ψ,rfl⟩:=hF.mp (TF Y);have h1:=α r (o.sub r hm) _ Z (hF.mpr ⟨L,o.sub L ψ,rfl⟩);have h2:=hl L ψ;omega
theorem CN {α:Type} (p:α->UD):∀l:eE α,0 < (l.filter λx=> !p x).length->(l.filter p).length < l.length:=λl h=>by
 have:=(Z1 p l).length_eq;rw[eP] at this;omega
theorem Gn.nds {N:Nt} (g:Gn N):(N.sums.map (·.1)).Nodup:=by
 have:=g.nd;unfold Nt.names at this;rw[Ua,Ua] at this;exact this.1.2.1
structure NetA (H:Hp) (C CI CS CT p:eH) (N:Nt) (od:B'):Prop where
 ho:∃(dx i s t o d tq:eH) (rs:eE Rw) (qs:eE Qs) (ws:S'),H p=a' (.ins C dx [("ins",.ref i),("sums",.ref s),("kept_stores",.ref t),("outs",.ref o),("by_name",.ref d),("sum_order",.ref tq)])/\Kpt H i s t o rs qs N/\WiA H CI CS CT d N ws/\H tq=a' (.tup (od.map V.str))
 g:Gn N
 tp:Topo N.sums od
theorem NetA.same {N:Nt} (x:NetA H C φ υ τ p N ON) (h:Same H H2):NetA H2 C φ υ τ p N ON:=
 ⟨let ⟨dx,i,s,t,o,d,G,rs,qs,ws,a,b,c,e⟩:=x.ho;⟨dx,i,s,t,o,d,G,rs,qs,ws,h.get a,b.same h,c.same h,h.get e⟩,x.g,x.tp⟩
def P6 (C φ υ τ:eH):Sp:=λvs H Q _=>∃(x dx i s t o:eH) (rs:eE Rw) (qs:eE Qs) (N:Nt),vs=[.ref x,.ref i,.ref s,.ref t,.ref o]/\H x=a' (.ins C dx [])/\Hnd H i s t o rs qs N/\Gn N/\
 ∀(H2:Hp) (od:B'),(∀b ob,b≠x->H b=a' ob->H2 b=a' ob)->NetA H2 C φ υ τ x N od->Q .non H2
def Kx (x:eH) (H H2:Hp):Prop:=∀b ob,b≠x->H b=a' ob->H2 b=a' ob
theorem Kx.trans {x:eH} (a:Kx x H H2) (b:Kx x H2 γ):Kx x H γ:=λc o n e=>b c o n (a c o n e)
theorem Kx.same {x:eH} (s:Same H H2):Kx x H H2:=λ_ _ _ e=>s.get e
theorem Kx.upd {x:eH} (u:Upd H H2 x o):Kx x H H2:=u.oth
theorem Kx.tup {x:eH} (k:Kx x H H2) (hx:H x=a' (.ins C dx wE)) {b:eH} {xs:eE V} (e:H b=a' (.tup xs)):H2 b=a' (.tup xs):=k b _ (cC e hx λz=>by cases z) e
theorem Kx.lst {x:eH} (k:Kx x H H2) (hx:H x=a' (.ins C dx wE)) {b:eH} {xs:eE V} (e:H b=a' (.lst xs)):H2 b=a' (.lst xs):=k b _ (cC e hx λz=>by cases z) e
theorem Kx.hnd {x:eH} (k:Kx x H H2) (hx:H x=a' (.ins C dx wE)) {i s o:eH} {N:Nt} (h:Hnd H i s t o rs Ch N):Hnd H2 i s t o rs Ch N:=
 ⟨k.lst hx h.i,k.lst hx h.s,λr m=>⟨k.tup hx (h.sr r m).1,k.lst hx (h.sr r m).2⟩,h.es,k.lst hx h.t,λq m=>k.tup hx (h.tr q m),h.et,k.lst hx h.o⟩
def RwK (H:Hp) (rs:eE Rw):Prop:=∀r∈rs,H r.1=a' (.tup [.str r.2.2.1,.ref r.2.1])/\H r.2.1=a' (.tup (r.2.2.2.map V.str))
def QsK (H:Hp) (qs:eE Qs):Prop:=∀q∈qs,H q.1=a' (.tup [.str q.2.1,.str q.2.2])
theorem RwK.same (h:RwK H rs) (s:Same H H2):RwK H2 rs:=λr m=>⟨s.get (h r m).1,s.get (h r m).2⟩
theorem QsK.same (h:QsK H Ch) (s:Same H H2):QsK H2 Ch:=λq m=>s.get (h q m)
theorem Kx.rw{x:eH} (k:Kx x H H2) (hx:H x=a' (.ins C dx wE)) (h:RwK H rs):RwK H2 rs:=λr m=>⟨k.tup hx (h r m).1,k.tup hx (h r m).2⟩
theorem Kx.qs {x:eH} (k:Kx x H H2) (hx:H x=a' (.ins C dx wE)) (h:QsK H Ch):QsK H2 Ch:=λq m=>k.tup hx (h q m)
theorem RwK.updL (h:RwK H rs) {xs:eE V} (α:H D=a' (.lst xs)) (k:∀b o,b≠D->H b=a' o->H2 b=a' o):RwK H2 rs:=λr m=>⟨k _ _ (cC (h r m).1 α λz=>by cases z) (h r m).1,k _ _ (cC (h r m).2 α λz=>by cases z) (h r m).2⟩
theorem QsK.updL (h:QsK H Ch) {xs:eE V} (α:H D=a' (.lst xs)) (k:∀b o,b≠D->H b=a' o->H2 b=a' o):QsK H2 Ch:=λq m=>k _ _ (cC (h q m) α λz=>by cases z) (h q m)
theorem Kx.kpt {x:eH} (k:Kx x H H2) (hx:H x=a' (.ins C dx wE)) {i s o:eH} {N:Nt} (h:Kpt H i s t o rs Ch N):Kpt H2 i s t o rs Ch N:=
 ⟨k.tup hx h.i,k.tup hx h.s,λr m=>⟨k.tup hx (h.sr r m).1,k.tup hx (h.sr r m).2⟩,h.es,k.tup hx h.t,λq m=>k.tup hx (h.tr q m),h.et,k.tup hx h.o⟩
theorem Kx.wia {x:eH} (k:Kx x H H2) {N:Nt} (h:WiA H φ υ τ d N ws) (hd:d≠x) (hw:∀q∈ws,q.2≠x) (hx:H x=a' (.ins C dx wE)):WiA H2 φ υ τ d N ws:=
 ⟨k _ _ hd h.d,h.nm,λq m=>by
  cases h.ob q m with
  | i L θ hk e=>exact .i L θ hk (k _ _ (hw q m) e)
  | s G θ δ hk e et=>exact .s G θ δ hk (k _ _ (hw q m) e) (k.tup hx et)
  | t L y θ hk e=>exact .t L y θ hk (k _ _ (hw q m) e)⟩
noncomputable def xb (f:Q') (ws:B'):Bool:=ws.foldl (λa w=>a^^f w) false
theorem kL (f:Q') (ws:B') (w:T3):xb f (ws++[w])=(xb f ws^^f w):=by unfold xb;rw[V1];rfl
theorem uF {g:Q'}:∀{ws:B'},(∀w∈ws,f w=g w)->xb f ws=xb g ws:=by
 intro ws
 induction ws using M.rev_ind with
 | h0=>intro _;rfl
 | h1 l x ih=>intro h;rw[kL,kL,ih λw hw=>h w (iv _ hw),h x (hW _ (gs.mpr rfl))]
theorem PM (f g:Q'):∀ws:B',xb (λz=>f z^^g z) ws=(xb f ws^^xb g ws):=by
 intro ws
 induction ws using M.rev_ind with
 | h0=>rfl
 | h1 l x ih=>rw[kL,kL,kL,ih];cases xb f l<;>cases xb g l<;>cases f x<;>cases g x<;>rfl
structure Val (N:Nt) (row st:Nat) (f:Q'):Prop where
 i:∀(k:Nat) z,N.ins[k]? =a' z->f z=row.testBit k
 t:∀(k:Nat) z y,N.sts[k]? =a' (z,y)->f z=st.testBit k
 s:∀z ws,(z,ws)∈N.sums->f z=xb f ws
theorem Val.uniq {N:Nt} (g:Gn N) (tp:Topo N.sums ON) {s:Nat} (a:Val N r s f) (b:Val N r s EQ):∀z∈N.names,f z=EQ z:=by
 have L:∀z∈N.ins,f z=EQ z:=λz h=>by
  obtain⟨k,hk⟩:=U7.mp h;rw[a.i k z hk,b.i k z hk]
 have η:∀z∈N.sts.map (·.1),f z=EQ z:=λz h=>by
  obtain⟨q,γ,rfl⟩:=hF.mp h;obtain⟨k,hk⟩:=U7.mp γ;rw[a.t k q.1 q.2 hk,b.t k q.1 q.2 hk]
 have Z:∀n (k:Nat) z,k < n->ON[k]? =a' z->f z=EQ z:=by
  intro n
  induction n with
  | zero=>intro k z h;omega
  | succ n ih=>
    intro k z hk hz;obtain⟨row,G,e⟩:=hF.mp (tp.perm.mem_iff.mp (ee hz));have e:row.1=z:=e;subst e;rw[a.s row.1 row.2 G,b.s row.1 row.2 G];refine uF λw hw=>?_;have ω:=g.ws row G w hw;unfold Nt.names at ω;rcases gz.mp ω with h | h
    ·rcases gz.mp h with h | h
     ·exact L w h
     ·have:=tp.need k row.1 hz row.2 G w hw h;obtain⟨j,β⟩:=U7.mp this
      have α:j < k:=by
       have:=(b'.mp β).1;rw[wh] at this;omega
      rw[UW α] at β;exact ih j w @A β
    ·exact η w h
 intro z hz;unfold Nt.names at hz;rcases gz.mp hz with h | h
 ·rcases gz.mp h with h | h
  ·exact L z h
  ·obtain⟨k,hk⟩:=U7.mp (tp.perm.mem_iff.mpr h);exact Z (k + 1) k z (UU k) hk
 ·exact η z h
noncomputable def mat (f:Q') (ws:B'):Nat:=M.pk (λk=>f (ws.getD k "")) 0 ws.length
theorem zv (f:Q') (ws:B') (k:Nat):(mat f ws).testBit k=(decide (k < ws.length)&&f (ws.getD k "")):=by unfold mat;rw[M.pk_bit,Vf]
theorem Ru (f:Q') (ws:B'):mat f ws < 2 ^ ws.length:=M.pk_lt _ _ _
theorem AI {g:Q'} {ws:B'} (h:∀w∈ws,f w=g w):mat f ws=mat g ws:=by
 apply ix;intro k;rw[zv,zv];by_cases hk:k < ws.length
 ·have:ws.getD k ""∈ws:=by rw[ec,ed hk];exact UL hk
  rw[h _ this]
 ·rw[gn hk];rfl
noncomputable def fv (N:Nt) (row st:Nat):Q':=Zb (Val N row st)
noncomputable def nan (N:Nt) (row st:Nat):Nat:=mat (fv N row st) N.outs
noncomputable def nst (N:Nt) (row st:Nat):Nat:=mat (fv N row st) (N.sts.map (·.2))
theorem L0 {N:Nt} (g:Gn N) (tp:Topo N.sums ON) {s:Nat} (a:Val N r s f):∀z∈N.names,f z=fv N r s z:=a.uniq g tp (Yv ⟨f,a⟩)
theorem MY {N:Nt} (g:Gn N) (tp:Topo N.sums ON) {s:Nat} (a:Val N r s f):mat f N.outs=nan N r s:=AI λw h=>L0 g tp a w (g.os w h)
theorem MV {N:Nt} (g:Gn N) (tp:Topo N.sums ON) {s:Nat} (a:Val N r s f):mat f (N.sts.map (·.2))=nst N r s:=AI λw h=>L0 g tp a w (by obtain⟨q,G,rfl⟩:=hF.mp h;exact g.ts q G)
noncomputable def rst (N:Nt):Nat->C'->Nat
 | st,[]=>st
 | st,r::rs=>rst N (nst N r st) rs
noncomputable def ran (N:Nt):Nat->C'->C'
 | _,[]=>[]
 | st,r::rs=>nan N r st::ran N (nst N r st) rs
theorem DJ (N:Nt) (r:Nat):∀(rs:C') (st:Nat),rst N st (rs++[r])=nst N r (rst N st rs)
 | [],_=>rfl
 | q::rs,st=>DJ N r rs (nst N q st)
theorem DO (N:Nt) (r:Nat):∀(rs:C') (st:Nat),ran N st (rs++[r])=ran N st rs++[nan N r (rst N st rs)]
 | [],_=>rfl
 | q::rs,st=>by show nan N q st::ran N (nst N q st) (rs++[r])=_;rw[DO N r rs];rfl
theorem y4 (N:Nt):∀(rs:C') (st:Nat),(ran N st rs).length=rs.length
 | [],_=>rfl
 | q::rs,st=>by show(ran N (nst N q st) rs).length + 1=_;rw[y4 N rs];rfl
def Ti (N:Nt):Prop:=∀r s,∃f,Val N r s f
theorem HH (N:Nt):∀(rs qs:C') (s:Nat),ran N s (rs++qs)=ran N s rs++ran N (rst N s rs) qs
 | [],_,_=>rfl
 | r::rs,qs,s=>by show nan N r s::ran N (nst N r s) (rs++qs)=_;rw[HH N rs qs];rfl
noncomputable def need (N:Nt) (od:B'):B':=N.ins++N.sts.map (·.1)++od
structure Pre (N:Nt) (row st:Nat) (pre:B') (f:Q'):Prop where
 i:∀(k:Nat) z,N.ins[k]? =a' z->z∈pre->f z=row.testBit k
 t:∀(k:Nat) z y,N.sts[k]? =a' (z,y)->z∈pre->f z=st.testBit k
 s:∀z ws,(z,ws)∈N.sums->z∈pre->f z=xb f ws/\∀w∈ws,w∈pre
structure Bt (N:Nt) (row st:Nat) (pre:B') (f:Q') (z:T3) (v:UD):Prop where
 i:∀k:Nat,N.ins[k]? =a' z->v=row.testBit k
 t:∀(k:Nat) y,N.sts[k]? =a' (z,y)->v=st.testBit k
 s:∀ws,(z,ws)∈N.sums->v=xb f ws/\∀w∈ws,w∈pre
theorem Pre.nil (N:Nt) (row st:Nat) (f:Q'):Pre N row st [] f:=⟨λ_ _ _ h=>hD h @E,λ_ _ _ _ h=>hD h @E,λ_ _ _ h=>hD h @E⟩
theorem Pre.step {N:Nt} {st:Nat} (p:Pre N row st pre f) {v:UD} (hz:z∉pre) (b:Bt N row st pre f z v):Pre N row st (pre++[z]) (λy=>if y=z then v else f y):=by
 have G:∀y,y∈pre->(if y=z then v else f y)=f y:=λy L=>qb (λ(e:y=z)=>hz (e ▸ L));have Y:∀ws:B',(∀w∈ws,w∈pre)->xb (λy=>if y=z then v else f y) ws=xb f ws:=λws h=>uF λw hw=>G w (h w hw);refine⟨λk y hk L=>?_,λk y x hk L=>?_,λy ws hs L=>?_⟩
 ·rcases gz.mp L with h | h
  ·rw[G y h];exact p.i k y hk h
  ·rw[gs] at h;subst h;rw[wb rfl];exact b.i k hk
 ·rcases gz.mp L with h | h
  ·rw[G y h];exact p.t k y x hk h
  ·rw[gs] at h;subst h;rw[wb rfl];exact b.t k x hk
 ·rcases gz.mp L with h | h
  ·obtain⟨e,hw⟩:=p.s y ws hs h;rw[G y h,Y ws hw];exact⟨e,λw m=>iv _ (hw w m)⟩
  ·rw[gs] at h;subst h;obtain⟨e,hw⟩:=b.s ws hs;rw[wb rfl,Y ws hw];exact⟨e,λw m=>iv _ (hw w m)⟩
section
variable {N:Nt} (g:Gn N)
include g
theorem mG:N.ins.Nodup/\(N.sums.map (·.1)).Nodup/\(N.sts.map (·.1)).Nodup/\(∀z∈N.ins,z∉N.sums.map (·.1))/\(∀z∈N.ins,z∉N.sts.map (·.1))/\∀z∈N.sums.map (·.1),z∉N.sts.map (·.1):=by
 have h:=g.nd;unfold Nt.names at h;rw[Ua,Ua] at h;obtain⟨⟨a,b,c⟩,d,e⟩:=h;exact⟨a,b,d,λz h1 h2=>c z h1 z h2 rfl,λz h1 h2=>e z (iv _ h1) z h2 rfl,λz h1 h2=>e z (hW _ h1) z h2 rfl⟩
theorem R9 {st:Nat} {k:Nat} (h:N.ins[k]? =a' z):Bt N row st pre f z (row.testBit k):=by
 obtain⟨a,b,c,d,e,_⟩:=mG g;have hm:=ee h;refine⟨λj G=>?_,λj y G=>?_,λws hs=>?_⟩
 ·have:k=j:=(Y7 (b'.mp h).1 a).mp (h.trans G.symm);rw[this]
 ·exact hD (hF.mpr ⟨_,ee G,rfl⟩) (e z hm)
 ·exact hD (hF.mpr ⟨_,hs,rfl⟩) (d z hm)
theorem R8 {st:Nat} {k:Nat} {y:T3} (h:N.sts[k]? =a' (z,y)):Bt N row st pre f z (st.testBit k):=by
 obtain⟨a,b,c,d,e,L⟩:=mG g;have hm:z∈N.sts.map (·.1):=hF.mpr ⟨_,ee h,rfl⟩;refine⟨λj G=>?_,λj x G=>?_,λws hs=>?_⟩
 ·exact hD hm (e z (ee G))
 ·have h1:(N.sts.map (·.1))[k]? =a' z:=by rw[gA,h];rfl
  have h2:(N.sts.map (·.1))[j]? =a' z:=by rw[gA,G];rfl
  have:k=j:=(Y7 (b'.mp h1).1 c).mp (h1.trans h2.symm);rw[this]
 ·exact hD hm (L z (hF.mpr ⟨_,hs,rfl⟩))
theorem Nr {st:Nat} {ws:B'} (h:(z,ws)∈N.sums) (hw:∀w∈ws,w∈pre):Bt N row st pre f z (xb f ws):=by
 obtain⟨a,b,c,d,e,Y⟩:=mG g;have hm:z∈N.sums.map (·.1):=hF.mpr ⟨_,h,rfl⟩;refine⟨λj G=>?_,λj x G=>?_,λL hs=>?_⟩
 ·exact hD hm (d z (ee G))
 ·exact hD (hF.mpr ⟨_,ee G,rfl⟩) (Y z hm)
 ·have:=Ik b h hs;subst this;exact⟨rfl,hw⟩
variable {od:B'} (tp:Topo N.sums od)
include tp
theorem kC (z:T3):z∈need N od↔z∈N.names:=by
 unfold need Nt.names;rw[gz,gz,gz,gz,tp.perm.mem_iff];constructor
 ·rintro((h | h) | h)
  ·exact .inl (.inl h)
  ·exact .inr h
  ·exact .inl (.inr h)
 ·rintro((h | h) | h)
  ·exact .inl (.inl h)
  ·exact .inr h
  ·exact .inl (.inr h)
theorem OM:(need N od).Nodup:=by
 obtain⟨a,b,c,d,e,Y⟩:=mG g;unfold need;rw[Ua,Ua];refine⟨⟨a,c,λx L y G z=>e x L (z ▸ G)⟩,tp.perm.nodup_iff.mpr b,λx L y G z=>?_⟩;have G:=tp.perm.mem_iff.mp G;subst z;rcases gz.mp L with h | h
 ·exact d x h G
 ·exact Y x G h
theorem zq:(need N od).length<=62:=by
 have:=tp.perm.length_eq;have h1:=g.li;have h2:=g.ls;have G:=g.lt;unfold need;rw[bx] at this;rw[eP,eP,bx];omega
theorem Ck (h:(need N od)[i]? =a' z):∀ws,(z,ws)∈N.sums->∀w∈ws,w∈(need N od).take i:=by
 intro ws hs w hw;obtain⟨a,b,c,d,e,L⟩:=mG g;have hm:z∈N.sums.map (·.1):=hF.mpr ⟨_,hs,rfl⟩;unfold need at h ⊢
 have hi:(N.ins++N.sts.map (·.1)).length<=i:=by
  refine Yn λG=>?_;rw[kv G] at h;rcases gz.mp (ee h) with h | h
  ·exact d z h hm
  ·exact L z hm h
 rw[lT hi] at h;rw[aa3,gz,UE hi];have ω:=g.ws _ hs w hw;unfold Nt.names at ω;rcases gz.mp ω with h' | h'
 ·rcases gz.mp h' with h' | h'
  ·exact .inl (iv _ h')
  ·exact .inr (tp.need _ z h ws hs w hw h')
 ·exact .inl (hW _ h')
theorem Pc {st:Nat} (h:(need N od)[i]? =a' z):∃v,Bt N row st ((need N od).take i) f z v:=by
 have hm:=(kC g tp z).mp (ee h);unfold Nt.names at hm;rcases gz.mp hm with h' | h'
 ·rcases gz.mp h' with h' | h'
  ·obtain⟨k,hk⟩:=U7.mp h';exact⟨_,R9 g hk⟩
  ·obtain⟨r,G,rfl⟩:=hF.mp h';exact⟨_,Nr g (ws:=r.2) G (Ck g tp h r.2 G)⟩
 ·obtain⟨r,G,rfl⟩:=hF.mp h';obtain⟨k,hk⟩:=U7.mp G;exact⟨_,R8 g (y:=r.2) hk⟩
theorem vF (h:(need N od)[i]? =a' z):z∉(need N od).take i:=λm=>by
 have nd:=OM g tp;rw[<-VY i (need N od),Ua] at nd;exact nd.2.2 z m z (ee (i:=0) (by rw[Wt,Nat.add_zero];exact h)) rfl
theorem HV {st:Nat} (p:Pre N row st (need N od) f):Val N row st f:=by
 have G:∀z,z∈N.names->z∈need N od:=λz=>(kC g tp z).mpr;refine⟨λk z h=>p.i k z h (G z ?_),λk z y h=>p.t k z y h (G z ?_),λz ws h=>(p.s z ws h (G z ?_)).1⟩
 ·exact iv _ (iv _ (ee h))
 ·exact hW _ (hF.mpr ⟨_,ee h,rfl⟩)
 ·exact iv _ (hW _ (hF.mpr ⟨_,h,rfl⟩))
theorem KD:Ti N:=λrow st=>by
 have G:∀n,n<=(need N od).length->∃f,Pre N row st ((need N od).take n) f:=by
  intro n
  induction n with
  | zero=>intro _;exact⟨λ_=>false,Pre.nil ..⟩
  | succ n ih=>
    intro hn;obtain⟨f,hf⟩:=ih @A;obtain⟨z,hz⟩:∃z,(need N od)[n]? =a' z:=⟨_,ed @A⟩;obtain⟨v,L⟩:=Pc (row:=row) (st:=st) (f:=f) g tp hz;have:=hf.step (vF g tp hz) L;rw[<-take_succ hz] at this;exact⟨_,this⟩
 obtain⟨f,hf⟩:=G _ (sb _);rw[i'] at hf;exact⟨f,HV g tp hf⟩
end
noncomputable abbrev NP:=Hp->eH->Nt->B'->Prop
def EO (G:NP):Sp:=λvs H Q _=>∃(p:eH) (N:Nt) (od:B'),vs=[.ref p]/\G H p N od/\∀(D:eH) (H2:Hp),H D=f'->Same H H2->H2 D=a' (.lst (N.ins.map V.str))->Q (.ref D) H2
def NX (G:NP):Sp:=λvs H Q _=>∃(p:eH) (N:Nt) (od:B'),vs=[.ref p]/\G H p N od/\∀(D:eH) (H2:Hp),H D=f'->Same H H2->H2 D=a' (.lst (N.outs.map V.str))->Q (.ref D) H2
def G1 (G:NP):Sp:=λvs H Q _=>∃(p:eH) (N:Nt) (od:B'),vs=[.ref p]/\G H p N od/\∀(D:eH) (H2:Hp) (qs:eE Qs),H D=f'->Same H H2->H2 D=a' (.lst (qs.map λq=>V.ref q.1))->QsK H2 qs->qs.map (·.2)=N.sts->Q (.ref D) H2
def N3 (G:NP):Sp:=λvs H Q _=>∃(p:eH) (N:Nt) (od:B'),vs=[.ref p]/\G H p N od/\∀(D:eH) (H2:Hp),H D=f'->Same H H2->H2 D=a' (.lst ((need N od).map V.str))->Q (.ref D) H2
def GY (G:NP) (φ υ τ:eH):Sp:=λvs H Q _=>∃(p:eH) (N:Nt) (od:B') (z:T3),vs=[.ref p,.str z]/\G H p N od/\z∈N.names/\∀(w:eH) (H2:Hp),Same H H2->Wob H2 φ υ τ N z w->Q (.ref w) H2
noncomputable def bitK (f:Q') (zs:B'):eE (Key×V):=zs.map λz=>(Tz z,nat (M.bn (f z)))
def KQ (G:NP):Sp:=λvs H Q _=>∃(p:eH) (N:Nt) (od:B') (row st:Nat),vs=[.ref p,nat row,nat st]/\G H p N od/\∀(d:eH) (H2:Hp) (f:Q'),H d=f'->Same H H2->H2 d=a' (.dK (bitK f (need N od)))->Val N row st f->Q (.ref d) H2
def G8:Sp:=λvs H Q _=>∃(l d:eH) (ws zs:B') (f:Q'),vs=[.ref l,.ref d]/\H l=a' (.lst (ws.map V.str))/\H d=a' (.dK (bitK f zs))/\ws.length<=100/\(∀w∈ws,w∈zs)/\∀H2,Same H H2->Q (nat (mat f ws)) H2
theorem yL (f:Q') {z:T3}:∀{zs:B'},z∈zs->valV (bitK f zs) (Tz z)=a' (nat (M.bn (f z)))
 | [],h=>by cases h
 | y::zs,h=>by
   unfold bitK;rw[Uq];by_cases e:y=z
   ·subst e;exact mi rfl
   ·rw[mj λh2=>e (WN h2)];exact yL f ((Tn.mp h).resolve_left λh2=>e h2.symm)
theorem J0 (f:Q') (zs:B'):(bitK f zs).map (·.1)=zs.map Sum.inr:=by unfold bitK;rw[TU];rfl
theorem PJ (a b:UD):U5 ((M.bn a:Nat):Int) ((M.bn b:Nat):Int)=((M.bn (a^^b):Nat):Int):=by cases a<;>cases b<;>decide
theorem O6 (f:Q'):∀ws:B',(ws.map λw=>((M.bn (f w):Nat):Int)).foldl U5 0=((M.bn (xb f ws):Nat):Int):=by
 intro ws
 induction ws using M.rev_ind with
 | h0=>rfl
 | h1 l x ih=>rw[ef,V1,ih,kL];exact PJ _ _
theorem Rt (f:Q') (ws:B'):M.xm ((vu ws.length).filter λk=>f (ws.getD k ""))=mat f ws:=by
 have e:(vu ws.length).filter (λk=>f (ws.getD k ""))=M.pl ws.length (mat f ws):=by
  unfold M.pl;refine ZW λk hk=>?_;rw[zv,gB (U8.mp hk)];rfl
 rw[e,GH (Ru f ws)]
structure RunA (NA:NP) (H:Hp) (C p l n:eH) (N:Nt) (od:B') (st:Nat) (as:C'):Prop where
 ho:∃(dx d:eH),H p=a' (.ins C dx [("net",.ref n),("held",nat st),("bits",.ref d),("given",.ref l)])
 hl:H l=a' (.lst (as.map nat))
 na:NA H n N od
def K2 (p l:eH) (H H2:Hp):Prop:=∀b ob,b≠p->b≠l->H b=a' ob->H2 b=a' ob
def EK (G:NP) (C:eH):Sp:=λvs H Q _=>∃(x dx n:eH) (N:Nt) (od:B'),vs=[.ref x,.ref n]/\H x=a' (.ins C dx [])/\G H n N od/\∀(H2:Hp) (l:eH),Kx x H H2->H l=f'->RunA G H2 C x l n N od 0 []->Q .non H2
def KS (G:NP) (C:eH):Sp:=λvs H Q _=>∃(p l n:eH) (N:Nt) (od:B') (st row:Nat) (as:C'),vs=[.ref p,nat row]/\RunA G H C p l n N od st as/\row < 2 ^ N.ins.length/\as.length<=900/\∀(H2:Hp),K2 p l H H2->RunA G H2 C p l n N od (nst N row st) (as++[nan N row st])->Q (nat (nan N row st)) H2
def KW (G:NP) (C:eH):Sp:=λvs H Q _=>∃(p l n:eH) (N:Nt) (od:B') (st:Nat) (as:C'),vs=[.ref p]/\RunA G H C p l n N od st as/\∀(D:eH) (H2:Hp),H D=f'->Same H H2->H2 D=a' (.lst (as.map nat))->Q (.ref D) H2
def Hh (G:NP):Sp:=λvs H Q _=>∃(n r:eH) (N:Nt) (od:B') (rs:C'),vs=[.ref n,.ref r]/\G H n N od/\H r=a' (.lst (rs.map nat))/\rs.length<=900/\(∀x∈rs,x < 2 ^ N.ins.length)/\∀(D:eH) (H2:Hp),H D=f'->Same H H2->H2 D=a' (.lst ((ran N 0 rs).map nat))->Q (.ref D) H2
theorem NetA.keep {n:eH} {N:Nt} (x:NetA H C φ υ τ n N ON) (G:H p=a' (.ins D dx wE)) (hf:(∀(v:V) (r:eE (T3×V)),wE≠(("name":T3),v)::r)/\∀(v:V) (r:eE (T3×V)),wE≠(("ins":T3),v)::r) (k:Kx p H H2):NetA H2 C φ υ τ n N ON:=by
 obtain⟨θ,i,s,t,o,d,Z,rs,qs,ws,a,b,c,e⟩:=x.ho
 have Y:∀q∈ws,q.2≠p:=λq α z=>by
  obtain⟨ε,γ,β,L,_⟩:=(c.ob q α).name;rw[z,G] at L;injection L with L
  injection L with _ _ L
  exact hf.1 _ _ L
 have hn:n≠p:=λz=>by
  rw[z,G] at a;injection a with a
  injection a with _ _ a
  exact hf.2 _ _ a
 exact⟨⟨θ,i,s,t,o,d,Z,rs,qs,ws,k _ _ hn a,k.kpt G b,k.wia c (cC c.d G λz=>by cases z) Y G,k.tup G e⟩,x.g,x.tp⟩
theorem NetA.updL {n:eH} {N:Nt} (x:NetA H C φ υ τ n N ON) {xs:eE V} (hl:H l=a' (.lst xs)) (k:Kx l H H2):NetA H2 C φ υ τ n N ON:=by
 obtain⟨θ,i,s,t,o,d,G,rs,qs,ws,a,b,c,e⟩:=x.ho;have ρ:∀{b:eH} {ys:eE V},H b=a' (.tup ys)->H2 b=a' (.tup ys):=λe=>k _ _ (cC e hl λz=>by cases z) e;refine⟨⟨θ,i,s,t,o,d,G,rs,qs,ws,k _ _ (cC a hl λz=>by cases z) a,⟨ρ b.i,ρ b.s,λr m=>⟨ρ (b.sr r m).1,ρ (b.sr r m).2⟩,b.es,ρ b.t,λq m=>ρ (b.tr q m),b.et,ρ b.o⟩,⟨k _ _ (cC c.d hl λz=>by cases z) c.d,c.nm,λq m=>(c.ob q m).keep hl k⟩,ρ e⟩,x.g,x.tp⟩
noncomputable def mixV (c k:Int):Int:=((c % 2147483647 * 48271 + 7919 * k + 11) % 2147483647 * ((c % 2147483647 * 48271 + 7919 * k + 11) % 2147483647) % 2147483629) * ((c % 2147483647 * 48271 + 7919 * k + 11) % 2147483647 * ((c % 2147483647 * 48271 + 7919 * k + 11) % 2147483647) % 2147483629 + 48271 * k + 7) % 2147483587
def G6:Sp:=λvs H Q _=>∃(c k:Int),vs=[.int c,.int k]/\0<=k/\k < 100000/\Q (.int (mixV c k)) H
noncomputable def GQ:Str:=("cut x x0 x1 fresh new zero none nil tmp c c0 cut0 cut1 gnd off in out sum store":T3)++(" i0 i1 s0 s1 n0 n1 o0 o1 net wire a b z y0 t0 w w0 k dead open":T3)
noncomputable def W40:B':=Vo GQ " "
theorem Ae:W40.length=40:=by decide +kernel
theorem Sk:W40.Nodup:=by decide +kernel
theorem Sj:∀z∈W40,nm z.cps.toList=true:=by decide +kernel
noncomputable def dval (l:C'):Nat:=l.foldl (λa c=>10 * a + (c - 48)) 0
noncomputable def tx (n:Nat):Str:=(toString (n:Int):V7)
noncomputable def txB (n:Nat):Bool:=decide ((dval (tx n).cps.toList=n/\(tx n).cps.toList.all fig=true)/\(tx n).cps.toList.length<=4)
noncomputable def txR (k:Nat):Bool:=(vu 250).all λi=>txB (250*k+i)
theorem txk:∀k,k<10->txR k=true
 | 0,_=>by decide +kernel
 | 1,_=>by decide +kernel
 | 2,_=>by decide +kernel
 | 3,_=>by decide +kernel
 | 4,_=>by decide +kernel
 | 5,_=>by decide +kernel
 | 6,_=>by decide +kernel
 | 7,_=>by decide +kernel
 | 8,_=>by decide +kernel
 | 9,_=>by decide +kernel
 | k+10,h=>hD h @A
theorem Ao:∀n:Fin 2500,(dval (tx n.1).cps.toList=n.1/\(tx n.1).cps.toList.all fig=true)/\(tx n.1).cps.toList.length<=4:=λn=>by
 have h:=List.all_eq_true.mp (txk (n.1/250) @A) (n.1%250) (List.mem_range.mpr @A)
 rw[Xq] at h
 exact TF h
noncomputable def nmf (c k:Int):Str:=if mixV c 402 % 2=0 then W40.getD ((k + mixV c 403) % 40).toNat "" else (⟨#[97 + (mixV c 400 % 26).toNat]⟩:T3)++tx ((mixV c 401 % 1000).toNat + 37 * k.toNat)
theorem oE (x y:T3):(x++y).cps.toList=x.cps.toList++y.cps.toList:=by
 show(x.cps++y.cps).toList=_;rw[Array.toList_append]
theorem Rn (c:Int) {k:Int} (h0:0<=k) (h1:k < 40):Nm (nmf c k):=by
 unfold nmf;by_cases h:mixV c 402 % 2=0
 ·rw[wb h]
  have hi:((k + mixV c 403) % 40).toNat < W40.length:=by
   rw[Ae];have:=U3 (k + mixV c 403) (show(0:Int) < 40 by decide);have:=Uj (k + mixV c 403) (show(40:Int)≠0 by decide);omega
  rw[ec,ed hi];exact Sj _ (UL hi)
 ·rw[qb h]
  have hb:(mixV c 401 % 1000).toNat + 37 * k.toNat < 2500:=by
   have:=U3 (mixV c 401) (show(0:Int) < 1000 by decide);have:=Uj (mixV c 401) (show(1000:Int)≠0 by decide);omega
  obtain⟨⟨_,h2⟩,Y⟩:=Ao ⟨_,hb⟩
  have hd:low (97 + (mixV c 400 % 26).toNat)=true:=by
   have:=U3 (mixV c 400) (show(0:Int) < 26 by decide);have:=Uj (mixV c 400) (show(26:Int)≠0 by decide);unfold low;rw[gB @A,gB @A];rfl
  show nm _=true;rw[oE];show nm ((97 + (mixV c 400 % 26).toNat)::(tx ((mixV c 401 % 1000).toNat + 37 * k.toNat)).cps.toList)=true;generalize hl:(tx ((mixV c 401 % 1000).toNat + 37 * k.toNat)).cps.toList=l at h2 Y;generalize 97 + (mixV c 400 % 26).toNat=d at hd;show(decide ((d::l).length<=6)&&low d&&(d::l).all λc=>low c||fig c)=true;rw[hd,XF,hd]
  have G:l.all (λc=>low c||fig c)=true:=by
   rw[Va] at h2 ⊢;intro x L;rw[h2 x L,ad8]
  rw[G,U4,gB @A];rfl
theorem OL (c:Int) {j k:Int} (γ:0<=j) (ζ:j < 40) (k0:0<=k) (k1:k < 40) (e:nmf c j=nmf c k):j=k:=by
 unfold nmf at e;by_cases h:mixV c 402 % 2=0
 ·rw[wb h,wb h] at e;have η:=U3 (j + mixV c 403) (show(0:Int) < 40 by decide);have δ:=Uj (j + mixV c 403) (show(40:Int)≠0 by decide);have hk:=U3 (k + mixV c 403) (show(0:Int) < 40 by decide);have β:=Uj (k + mixV c 403) (show(40:Int)≠0 by decide);have L:((j + mixV c 403) % 40).toNat < W40.length:=by rw[Ae];omega
  have lk:((k + mixV c 403) % 40).toNat < W40.length:=by rw[Ae];omega
  rw[ec,ec,ed L,ed lk] at e;have G:W40[((j + mixV c 403) % 40).toNat]? =W40[((k + mixV c 403) % 40).toNat]? :=by rw[ed L,ed lk];exact T4 a' e
  have:=(Y7 L Sk).mp G;omega
 ·rw[qb h,qb h] at e;have hm:=U3 (mixV c 401) (show(0:Int) < 1000 by decide);have α:=Uj (mixV c 401) (show(1000:Int)≠0 by decide);have Y:(mixV c 401 % 1000).toNat + 37 * j.toNat < 2500:=by omega
  have ι:(mixV c 401 % 1000).toNat + 37 * k.toNat < 2500:=by omega
  have G:=T4 (λz:T3=>z.cps.toList) e;simp only[oE] at G;have ε:=List.append_cancel_left G;have Z:=T4 dval ε;rw[(Ao ⟨_,Y⟩).1.1,(Ao ⟨_,ι⟩).1.1] at Z;have Z:(mixV c 401 % 1000).toNat + 37 * j.toNat=(mixV c 401 % 1000).toNat + 37 * k.toNat:=Z;omega
def yh:Sp:=λvs H Q _=>∃(c k:Int),vs=[.int c,.int k]/\0<=k/\k < 40/\∀H2,Same H H2->Q (.str (nmf c k)) H2
def G9:Sp:=λvs H Q _=>∃(c:Int) (st:Int) (l:eH) (zs:B') (dg:UD),vs=[.int c,.int st,.ref l,.bl dg]/\0<=st/\st<=900/\H l=a' (.lst (zs.map V.str))/\zs.length<=50/\∀(D:eH) (H2:Hp) (ws:B'),H D=f'->Same H H2->H2 D=a' (.lst (ws.map V.str))->ws.length<=4->(∀w∈ws,w∈zs)->Q (.ref D) H2
theorem Fv (i:Int) (h0:0<=i) (h1:i < 26):atI ("abcdefghijklmnopqrstuvwxyz":T3).cps.toList i=a' (97 + i.toNat):=by
 have e:("abcdefghijklmnopqrstuvwxyz":T3).cps.toList=Ym 97 26:=by decide +kernel
 obtain⟨j,rfl⟩:=UH h0;rw[e];refine di ?_;rw[List.getElem?_range' @A];show a' (97 + 1 * j)=a' (97 + (j:Int).toNat);rw[YE,ov]
def RwL (H:Hp) (rs:eE Rw):Prop:=∀r∈rs,H r.1=a' (.tup [.str r.2.2.1,.ref r.2.1])/\H r.2.1=a' (.lst (r.2.2.2.map V.str))
theorem RwL.same (h:RwL H rs) (s:Same H H2):RwL H2 rs:=λr m=>⟨s.get (h r m).1,s.get (h r m).2⟩
noncomputable def nms (c:Int) (a n:Nat):B':=(vu n).map λk=>nmf c ((a + k:Nat):Int)
theorem fg (c:Int) (a n:Nat):(nms c a n).length=n:=by unfold nms;rw[bx,TC]
theorem rf (c:Int) (a n:Nat):nms c a (n + 1)=nms c a n++[nmf c ((a + n:Nat):Int)]:=by unfold nms;rw[Vs,ef];rfl
theorem nV {c:Int} {a n:Nat} (h:z∈nms c a n):∃k,k < n/\z=nmf c ((a + k:Nat):Int):=by
 obtain⟨k,hk,rfl⟩:=hF.mp h;exact⟨k,U8.mp hk,rfl⟩
theorem Rl {c:Int} {a n k:Nat} (h:k < n):nmf c ((a + k:Nat):Int)∈nms c a n:=hF.mpr ⟨k,U8.mpr h,rfl⟩
theorem zm (c:Int) {k:Nat} (G:j < 40) (k1:k < 40) (e:nmf c (j:Int)=nmf c (k:Int)):j=k:=by
 have:=OL c @A @A @A @A e;omega
structure Mk (c:Int) (ni nt:Nat) (rows:eE (T3×eE T3)):Prop where
 nm:rows.map (·.1)=nms c 22 rows.length
 ws:∀(k:Nat) r,rows[k]? =a' r->r.2.length<=4/\∀w∈r.2,w∈nms c 0 ni++nms c 6 nt++nms c 22 k
theorem Mk.nil (c:Int) (L G:Nat):Mk c L G []:=⟨rfl,λk r h=>by simp at h⟩
theorem Mk.put {c:Int} {L:Nat} (m:Mk c i L D0) {ws:B'} (l:ws.length<=4) (h:∀w∈ws,w∈nms c 0 i++nms c 6 L++nms c 22 D0.length):Mk c i L (D0++[(nmf c ((22 + D0.length:Nat):Int),ws)]):=by
 refine⟨by rw[ef,m.nm,eP,Tu,rf];rfl,λk r hk=>?_⟩;by_cases Z:k < D0.length
 ·rw[kv Z] at hk;exact m.ws k r hk
 ·rw[lT @A] at hk
  have:k - D0.length=0:=by
   have:=(b'.mp hk).1;rw[Tu] at this;omega
  rw[this] at hk;cases hk;rw[show k=D0.length by omega];exact⟨l,h⟩
noncomputable def xf (f:T3->Nat) (ws:B'):Nat:=ws.foldl (λa w=>a^^^f w) 0
theorem pX (f:T3->Nat) (ws:B') (w:T3):xf f (ws++[w])=xf f ws^^^f w:=by unfold xf;rw[V1];rfl
theorem Ms (f:T3->Nat) (j:Nat):∀ws:B',(xf f ws).testBit j=xb (λw=>(f w).testBit j) ws:=by
 intro ws
 induction ws using M.rev_ind with
 | h0=>show(0:Nat).testBit j=false;exact U9 j
 | h1 l x ih=>rw[pX,kL,TH,ih]
theorem Rg (f:T3->Nat) (y:Nat):∀ws:B',M.od (xf f ws&&&y)=xb (λw=>M.od (f w&&&y)) ws:=by
 intro ws
 induction ws using M.rev_ind with
 | h0=>show M.od (0&&&y)=false;rw[Vq];exact M.od_zero
 | h1 l x ih=>rw[pX,kL,Up,M.and_xor,M.od_xor,Up y,Up y,ih]
theorem Jv (f:T3->Nat):∀ws:B',(ws.map λw=>((f w:Nat):Int)).foldl U5 0=((xf f ws:Nat):Int):=by
 intro ws
 induction ws using M.rev_ind with
 | h0=>rfl
 | h1 l x ih=>rw[pX,ef,V1,ih];exact dB _ _
structure Hng (N:Nt) (p:T3->Nat×Nat):Prop where
 i:∀(k:Nat) z,N.ins[k]? =a' z->p z=(0,2 ^ k)
 t:∀(k:Nat) z y,N.sts[k]? =a' (z,y)->p z=(2 ^ k,0)
 s:∀z ws,(z,ws)∈N.sums->p z=(xf (λw=>(p w).1) ws,xf (λw=>(p w).2) ws)
noncomputable def hvl (p:T3->Nat×Nat) (row st:Nat):Q':=λz=>M.od ((p z).1&&&st)^^M.od ((p z).2&&&row)
theorem Hng.val {N:Nt} (g:Gn N) {p:T3->Nat×Nat} (h:Hng N p) (row st:Nat):Val N row st (hvl p row st):=by
 refine⟨λk z hk=>?_,λk z y hk=>?_,λz ws hz=>?_⟩
 ·have:=(b'.mp hk).1;have:=g.li;unfold hvl;rw[h.i k z hk,Vq,M.od_zero,M.od_pow @A];exact Wa _
 ·have:=(b'.mp hk).1;have:=g.lt;unfold hvl;rw[h.t k z y hk,Vq,M.od_zero,M.od_pow @A];exact VO _
 ·unfold hvl;rw[h.s z ws hz,Rg,Rg];exact(PM _ _ ws).symm
noncomputable def hgp (N:Nt) (z:T3):Nat×Nat:=(M.pk (λk=>fv N 0 (2 ^ k) z) 0 N.sts.length,M.pk (λk=>fv N (2 ^ k) 0 z) 0 N.ins.length)
theorem RK (N:Nt) (z:T3):(hgp N z).1 < 2 ^ N.sts.length:=M.pk_lt _ _ _
theorem RJ (N:Nt) (z:T3):(hgp N z).2 < 2 ^ N.ins.length:=M.pk_lt _ _ _
theorem Mu (b:UD) (f:Q'):∀ws:B',xb (λw=>b&&f w) ws=(b&&xb f ws):=by
 intro ws
 induction ws using M.rev_ind with
 | h0=>show false=(b&&false);rw[US]
 | h1 l x ih=>rw[kL,kL,ih];cases b<;>simp
theorem zM {N:Nt} (g:Gn N) (tp:Topo N.sums ON):Hng N (hgp N):=by
 have v:∀r s,Val N r s (fv N r s):=λr s=>Yv (KD g tp r s);refine⟨λk z hk=>?_,λk z y hk=>?_,λz ws hz=>?_⟩
 ·have hl:=(b'.mp hk).1;refine Yx (ix λj=>?_) (ix λj=>?_)
  ·show(M.pk _ 0 _).testBit j=(0:Nat).testBit j;rw[M.pk_bit,Vf,(v 0 (2 ^ j)).i k z hk,U9,U9,US]
  ·show(M.pk _ 0 _).testBit j=(2 ^ k:Nat).testBit j;rw[M.pk_bit,Vf,(v (2 ^ j) 0).i k z hk,zt,zt];by_cases e:k=j
   ·subst e;rw[gB hl,gB rfl];rfl
   ·rw[show decide (k=j)=false from gn e,show decide (j=k)=false from gn (λh=>e h.symm),US]
 ·have hl:=(b'.mp hk).1;refine Yx (ix λj=>?_) (ix λj=>?_)
  ·show(M.pk _ 0 _).testBit j=(2 ^ k:Nat).testBit j;rw[M.pk_bit,Vf,(v 0 (2 ^ j)).t k z y hk,zt,zt];by_cases e:k=j
   ·subst e;rw[gB hl,gB rfl];rfl
   ·rw[show decide (k=j)=false from gn e,show decide (j=k)=false from gn (λh=>e h.symm),US]
  ·show(M.pk _ 0 _).testBit j=(0:Nat).testBit j;rw[M.pk_bit,Vf,(v (2 ^ j) 0).t k z y hk,U9,U9,US]
 ·refine Yx (ix λj=>?_) (ix λj=>?_)
  ·show(M.pk _ 0 _).testBit j=(xf _ ws).testBit j;rw[M.pk_bit,Vf,(v 0 (2 ^ j)).s z ws hz,Ms,<-Mu];exact uF λw _=>by show _=(M.pk _ 0 _).testBit j;rw[M.pk_bit,Vf]
  ·show(M.pk _ 0 _).testBit j=(xf _ ws).testBit j;rw[M.pk_bit,Vf,(v (2 ^ j) 0).s z ws hz,Ms,<-Mu];exact uF λw _=>by show _=(M.pk _ 0 _).testBit j;rw[M.pk_bit,Vf]
theorem Ir (h:j < 1000):M.od (x&&&2 ^ j)=x.testBit j:=by rw[Up];exact M.od_pow h x
theorem M6 {N:Nt} (g:Gn N) (tp:Topo N.sums ON) {p:T3->Nat×Nat} (h:Hng N p) (hz:z∈N.names) (b1:(p z).1 < 2 ^ N.sts.length) (b2:(p z).2 < 2 ^ N.ins.length):hgp N z=p z:=by
 have li:=g.li;have lt:=g.lt;refine Yx (ix λj=>?_) (ix λj=>?_)
 ·show(M.pk _ 0 _).testBit j=(p z).1.testBit j;rw[M.pk_bit,Vf];by_cases G:j < N.sts.length
  ·rw[<-L0 g tp (h.val g 0 (2 ^ j)) z hz,gB G];unfold hvl;rw[VD,M.od_zero,Ir @A];simp
  ·rw[gn G,T9 (gm b1 (hJ @C @A))];rfl
 ·show(M.pk _ 0 _).testBit j=(p z).2.testBit j;rw[M.pk_bit,Vf];by_cases G:j < N.ins.length
  ·rw[<-L0 g tp (h.val g (2 ^ j) 0) z hz,gB G];unfold hvl;rw[VD,M.od_zero,Ir @A];simp
  ·rw[gn G,T9 (gm b2 (hJ @C @A))];rfl
theorem M0 (p:T3->Nat×Nat) (row st:Nat) (ws:B'):mat (hvl p row st) ws=M.tr2 (ws.map p) st row:=by
 apply ix;intro k;rw[zv,M.tr2_bit,bx];by_cases hk:k < ws.length
 ·have G:(ws.map p).getD k (0,0)=p (ws.getD k ""):=by rw[ec,gA,ec,ed hk];rfl
  rw[G];unfold hvl;exact Eq.refl _
 ·rw[gn hk,U2,U2]
section
variable {N:Nt} (g:Gn N) {od:B'} (tp:Topo N.sums od) {p:T3->Nat×Nat} (h:Hng N p)
include g tp h
theorem Ro (row st:Nat):nan N row st=M.tr2 (N.outs.map p) st row:=by rw[<-MY g tp (h.val g row st),M0]
theorem MU (row st:Nat):nst N row st=M.tr2 ((N.sts.map (·.2)).map p) st row:=by rw[<-MV g tp (h.val g row st),M0]
theorem Hv:∀(rs:C') (st:Nat),rst N st rs=M.wst ((N.sts.map (·.2)).map p) st rs
 | [],_=>rfl
 | r::rs,st=>by show rst N (nst N r st) rs=M.wst _ (M.tr2 _ st r) rs;rw[Hv rs,MU g tp h]
theorem DN:∀(rs:C') (st:Nat),ran N st rs=M.wan ((N.sts.map (·.2)).map p) (N.outs.map p) st rs
 | [],_=>rfl
 | r::rs,st=>by show nan N r st::ran N (nst N r st) rs=M.tr2 _ st r::M.wan _ _ (M.tr2 _ st r) rs;rw[DN rs,MU g tp h,Ro g tp h]
end
structure Hgd (H:Hp) (d:eH) (N:Nt) (zs:B') (hs:S'):Prop where
 d:H d=a' (.dK (hs.map λq=>(Tz q.1,V.ref q.2)))
 nm:hs.map (·.1)=zs
 ob:∀q∈hs,H q.2=a' (.tup [nat (hgp N q.1).1,nat (hgp N q.1).2])
theorem Hgd.same {N:Nt} {zs:B'} (x:Hgd H d N zs hs) (s:Same H H2):Hgd H2 d N zs hs:=⟨s.get x.d,x.nm,λq m=>s.get (x.ob q m)⟩
theorem KF:z∈hs.map (·.1)->∃t,(z,t)∈hs/\valV (hs.map λq=>((Tz q.1:Key),V.ref q.2)) (Tz z)=a' (.ref t):=by
 induction hs with
 | nil=>intro h;cases h
 | cons q hs ih=>
   intro h;by_cases e:q.1=z
   ·subst e;exact⟨q.2,u',by show valV ((Tz q.1,V.ref q.2)::_) (Tz q.1)=_;exact mi rfl⟩
   ·have h':z∈hs.map (·.1):=by
     rw[Uq,Tn] at h;exact h.resolve_left λG=>e G.symm
    obtain⟨t,m,v⟩:=ih h';refine⟨t,p' _ m,?_⟩;show valV ((Tz q.1,V.ref q.2)::_) (Tz z)=_;rw[mj λG=>e (WN G)];exact v
theorem Hgd.val {N:Nt} {zs:B'} (x:Hgd H d N zs hs) (h:z∈zs):∃t,valV (hs.map λq=>((Tz q.1:Key),V.ref q.2)) (Tz z)=a' (.ref t)/\H t=a' (.tup [nat (hgp N z).1,nat (hgp N z).2]):=by
 obtain⟨t,m,v⟩:=KF (hs:=hs) (z:=z) (by rw[x.nm];exact h);exact⟨t,v,x.ob _ m⟩
def Lc (G:NP):Sp:=λvs H Q _=>∃(p:eH) (N:Nt) (od:B'),vs=[.ref p]/\G H p N od/\∀(d:eH) (H2:Hp) (hs:S'),H d=f'->Same H H2->Hgd H2 d N (need N od) hs->Q (.ref d) H2
def KR (G:NP) (C:eH):Sp:=λvs H Q _=>∃(p:eH) (N:Nt) (od:B'),vs=[.ref p]/\G H p N od/\∀(x:eH) (H2:Hp) (nx os:eE Pr3),H x=f'->Same H H2->MaA H2 C x N.ins.length nx os->MaG N.ins.length nx os->prs nx=(N.sts.map (·.2)).map (hgp N)->prs os=N.outs.map (hgp N)->Q (.ref x) H2
theorem Lrl.same92 {ds:M'} {m:Nat} {os:eE Pr3} (x:Lrl H C D ds as m nx os) (s:Same H H2):Lrl H2 C D ds as m nx os:=
 ⟨s.get x.r,s.get x.l,x.dl,x.el,λj d k h1 h2=>s.get (x.da j d k h1 h2),λj e k h1 h2=>s.get (x.ea j e k h1 h2)⟩
def Hb:Sp:=λvs H Q _=>∃(ψ G:eH) (ds es:M') (m:Nat) (nx os:eE Pr3) (a:Nat),vs=[.ref ψ,nat a,nat nx.length]/\Lrl H ψ G ds es m nx os/\nx.length<=60/\ds.length<=60/\
 ∀(D:eH) (H2:Hp),H D=f'->Same H H2->H2 D=a' (.lst ((M.upk m (M.chs (prs nx) (prs os) m a (M.ldp (prs nx) (prs os) m).length) nx.length).map nat))->Q (.ref D) H2
def EN (L:NP):Sp:=λvs H Q _=>∃(n r ψ G:eH) (ds es:M') (N:Nt) (od:B') (rs:C') (nx os:eE Pr3),vs=[.ref n,.ref r,.ref G]/\L H n N od/\H r=a' (.lst (rs.map nat))/\rs.length<=100/\(∀x∈rs,x < 2 ^ N.ins.length)/\Lrl H ψ G ds es N.ins.length nx os/\es.length<=60/\nx.length<=60/\prs nx=(N.sts.map (·.2)).map (hgp N)/\prs os=N.outs.map (hgp N)/\
 ∀(D:eH) (H2:Hp),H D=f'->Same H H2->H2 D=a' (.lst ((M.shw (prs nx) (prs os) N.ins.length (rst N 0 rs)).map nat))->Q (.ref D) H2
noncomputable def nmb (l:T3) (n:Nat):B':=(vu n).map λk=>l++tx k
theorem bK (l:T3) (n:Nat):(nmb l n).length=n:=by unfold nmb;rw[bx,TC]
theorem LB (l:T3) (n:Nat):nmb l (n + 1)=nmb l n++[l++tx n]:=by unfold nmb;rw[Vs,ef];rfl
theorem zo {l:T3} {n k:Nat} (h:k < n):(nmb l n)[k]? =a' (l++tx k):=by unfold nmb;rw[gA,Ub h];rfl
theorem MX {l:T3} {n k:Nat} (h:k < n):l++tx k∈nmb l n:=ee (zo h)
theorem AH {l:T3} {n k:Nat} (h:(nmb l n)[k]? =a' z):k < n/\z=l++tx k:=by
 have hk:=(b'.mp h).1;rw[bK] at hk;rw[zo hk] at h;exact⟨hk,(zx h).symm⟩
theorem sI {l:T3} {n:Nat} (h:z∈nmb l n):∃k,k < n/\z=l++tx k:=by
 obtain⟨k,hk⟩:=U7.mp h;exact⟨k,AH hk⟩
theorem Bk:("s":T3).cps.toList=[115]:=by decide +kernel
theorem Bn:("i":T3).cps.toList=[105]:=by decide +kernel
theorem Bm:("n":T3).cps.toList=[110]:=by decide +kernel
theorem Bl:("o":T3).cps.toList=[111]:=by decide +kernel
theorem r6 {k:Nat} (h:k < 2500):dval (tx k).cps.toList=k:=(Ao ⟨k,h⟩).1.1
theorem Il {l:T3} {d k:Nat} (h1:l.cps.toList=[c]) (h2:hG.cps.toList=[d]) (L:j < 2500) (hk:k < 2500) (e:l++tx j=hG++tx k):c=d/\j=k:=by
 have G:=T4 (λz:T3=>z.cps.toList) e;simp only[oE] at G;rw[h1,h2,V0,V0] at G;injection G with a b
 have:=T4 dval b;rw[r6 L,r6 hk] at this;exact⟨a,this⟩
theorem DS {l:T3} {k:Nat} (h1:l.cps.toList=[c]) (hc:low c=true) (hk:k < 2500):Nm (l++tx k):=by
 obtain⟨⟨_,h2⟩,Y⟩:=Ao ⟨k,hk⟩;show nm _=true;rw[oE,h1,V0];generalize hl:(tx k).cps.toList=l at h2 Y;show(decide ((c::l).length<=6)&&low c&&(c::l).all λc=>low c||fig c)=true;rw[hc,XF,hc]
 have G:l.all (λc=>low c||fig c)=true:=by
  rw[Va] at h2 ⊢;intro x L;rw[h2 x L,ad8]
 rw[G,U4,gB @A];rfl
theorem DX {l:T3} {n:Nat} (h1:l.cps.toList=[c]) (hn:n<=2500):(nmb l n).Nodup:=by
 unfold nmb;rw[List.nodup_iff_pairwise_ne,Y6];refine Y1 (λ{a b} ha hb G e=>?_) (Z7 (n:=n));have:=(Il h1 h1 (by have:=U8.mp ha;omega) (by have:=U8.mp hb;omega) e).2;omega
theorem kZ {l:T3} {d n:Nat} (h1:l.cps.toList=[c]) (h2:hG.cps.toList=[d]) (G:c≠d) (hn:n<=2500) (ο:i<=2500) (hz:z∈nmb l n):z∉nmb hG i:=fun ψ=>by
 obtain⟨j,L,rfl⟩:=sI hz;obtain⟨k,hk,e⟩:=sI ψ;exact G (Il h1 h2 @A @A e).1
noncomputable def wr2 (q:Nat×Nat):B':=(M.pl 1000 q.1).map (λk=>("s":T3)++tx k)++(M.pl 1000 q.2).map (λk=>("i":T3)++tx k)
noncomputable def i9 (m:Nat) (ps os:A'):Nt:=⟨nmb "i" m,Vz (nmb "n" ps.length++nmb "o" os.length) ((ps++os).map wr2),Vz (nmb "s" ps.length) (nmb "n" ps.length),nmb "o" os.length⟩
structure Sml (m:Nat) (ps os:A'):Prop where
 m6:m<=6
 lp:ps.length<=16
 lo:os.length<=6
 bn:∀q∈ps++os,q.1 < 2 ^ ps.length/\q.2 < 2 ^ m
section
variable {m:Nat} {ps os:A'} (b:Sml m ps os)
include b
theorem GP {q:Nat×Nat} (hq:q∈ps++os) (h:z∈wr2 q):z∈nmb "s" ps.length∨z∈nmb "i" m:=by
 have hb:=b.bn q hq;rcases gz.mp h with h | h
 ·obtain⟨k,hk,rfl⟩:=hF.mp h;exact .inl (MX (M.pl_lt hb.1 k hk))
 ·obtain⟨k,hk,rfl⟩:=hF.mp h;exact .inr (MX (M.pl_lt hb.2 k hk))
theorem Ea:(i9 m ps os).sums.map (·.1)=nmb "n" ps.length++nmb "o" os.length:=by
 show(Vz _ _).map Zi=_;rw[XI];rw[eP,bK,bK,bx,eP];exact sb _
theorem DZ:(i9 m ps os).sts.map (·.1)=nmb "s" ps.length:=by
 show(Vz _ _).map Zi=_;rw[XI];rw[bK,bK];exact sb _
theorem DY:(i9 m ps os).sts.map (·.2)=nmb "n" ps.length:=by
 show(Vz _ _).map Prod.snd=_;rw[aa4];rw[bK,bK];exact sb _
theorem jW:(i9 m ps os).names=nmb "i" m++(nmb "n" ps.length++nmb "o" os.length)++nmb "s" ps.length:=by
 unfold Nt.names;rw[Ea b,DZ b];rfl
theorem vG {ws:B'} (h:(z,ws)∈(i9 m ps os).sums):∃q∈ps++os,ws=wr2 q:=by
 have:=(Xo (show(z,ws)∈Vz _ _ from h)).2;obtain⟨q,G,e⟩:=hF.mp this;exact⟨q,G,e.symm⟩
theorem sL:Gn (i9 m ps os) where
 li:=by show(nmb "i" m).length<=6;rw[bK];exact b.m6
 ls:=by
  show(Vz _ _).length<=40;have:=b.lp;have:=b.lo;rw[Wl,eP,bK,bK,bx,eP];omega
 lt:=by
  show(Vz _ _).length<=16;have:=b.lp;rw[Wl,bK,bK];omega
 lo:=by show(nmb "o" os.length).length<=6;rw[bK];exact b.lo
 lw:=λr L=>by
  obtain⟨q,Z,e⟩:=vG b (z:=r.1) (ws:=r.2) L;rw[e];unfold wr2;have hb:=b.bn q Z;have β:M.pl 1000 q.1=M.pl ps.length q.1:=M.pl_up hb.1 (by have:=b.lp;omega);have α:M.pl 1000 q.2=M.pl m q.2:=M.pl_up hb.2 (by have:=b.m6;omega);rw[eP,bx,bx,β,α];have:=M.pl_le ps.length q.1;have:=M.pl_le m q.2;have:=b.lp;have:=b.m6;omega
 nm:=λz hz=>by
  have:=b.lp;have:=b.lo;have:=b.m6;rw[jW b] at hz;rcases gz.mp hz with h | h
  ·rcases gz.mp h with h | h
   ·obtain⟨k,hk,rfl⟩:=sI h;exact DS Bn @C @A
   ·rcases gz.mp h with h | h
    ·obtain⟨k,hk,rfl⟩:=sI h;exact DS Bm @C @A
    ·obtain⟨k,hk,rfl⟩:=sI h;exact DS Bl @C @A
  ·obtain⟨k,hk,rfl⟩:=sI h;exact DS Bk @C @A
 nd:=by
  have:=b.lp;have:=b.lo;have:=b.m6;rw[jW b,Ua,Ua,Ua];refine⟨⟨DX Bn @A,⟨DX Bm @A,DX Bl @A,λx Y y G e=>kZ Bm Bl @C @A @A Y (e ▸ G)⟩,λx Y y G e=>?_⟩,DX Bk @A,λx Y y G e=>?_⟩
  ·subst e;rcases gz.mp G with h | h
   ·exact kZ Bn Bm @C @A @A Y h
   ·exact kZ Bn Bl @C @A @A Y h
  ·subst e;rcases gz.mp Y with h | h
   ·exact kZ Bn Bk @C @A @A h G
   ·rcases gz.mp h with h | h
    ·exact kZ Bm Bk @C @A @A h G
    ·exact kZ Bl Bk @C @A @A h G
 ws:=λr L z hz=>by
  obtain⟨q,Z,e⟩:=vG b (z:=r.1) (ws:=r.2) L;rw[e] at hz;rw[jW b];rcases GP b Z hz with h | h
  ·exact hW _ h
  ·exact iv _ (iv _ h)
 ts:=λr L=>by
  have:r.2∈(i9 m ps os).sts.map (·.2):=hF.mpr ⟨r,L,rfl⟩;rw[DY b] at this;rw[jW b];exact iv _ (hW _ (iv _ this))
 os:=λz hz=>by
  rw[jW b];exact iv _ (hW _ (hW _ hz))
 rk:=⟨λ_=>0,λr L z hz hs=>by
  have:=b.lp;have:=b.lo;have:=b.m6;obtain⟨q,Z,e⟩:=vG b (z:=r.1) (ws:=r.2) L;rw[e] at hz;rw[Ea b] at hs;rcases GP b Z hz with h | h
  ·rcases gz.mp hs with h' | h'
   ·exact hD h' (kZ Bk Bm @C @A @A h)
   ·exact hD h' (kZ Bk Bl @C @A @A h)
  ·rcases gz.mp hs with h' | h'
   ·exact hD h' (kZ Bn Bm @C @A @A h)
   ·exact hD h' (kZ Bn Bl @C @A @A h)⟩
end
noncomputable def dec (ps os:A') (z:T3):Nat×Nat:=match z.cps.toList with
 | []=>(0,0)
 | c::r=>if c=105 then (0,2 ^ dval r) else if c=115 then (2 ^ dval r,0) else if c=110 then ps.getD (dval r) (0,0) else os.getD (dval r) (0,0)
theorem Pa (ps os:A') {k:Nat} (h:k < 2500):dec ps os (("i":T3)++tx k)=(0,2 ^ k):=by
 unfold dec;rw[oE,Bn,V0];dsimp only;rw[wb rfl,r6 h]
theorem O9 (ps os:A') {k:Nat} (h:k < 2500):dec ps os (("s":T3)++tx k)=(2 ^ k,0):=by
 unfold dec;rw[oE,Bk,V0];dsimp only;rw[qb @C,wb rfl,r6 h]
theorem R3 (ps os:A') {k:Nat} (h:k < 2500):dec ps os (("n":T3)++tx k)=ps.getD k (0,0):=by
 unfold dec;rw[oE,Bm,V0];dsimp only;rw[qb @C,qb @C,wb rfl,r6 h]
theorem R1 (ps os:A') {k:Nat} (h:k < 2500):dec ps os (("o":T3)++tx k)=os.getD k (0,0):=by
 unfold dec;rw[oE,Bl,V0];dsimp only;rw[qb @C,qb @C,qb @C,r6 h]
theorem Mt (f:T3->Nat) (a c:B'):xf f (a++c)=xf f a^^^xf f c:=by
 induction c using M.rev_ind with
 | h0=>rw[UZ];exact(UJ _).symm
 | h1 l x ih=>rw[<-Wh,pX,pX,ih,UG]
theorem Mr (f:T3->Nat):∀(ws:B'),(∀w∈ws,f w=0)->xf f ws=0:=by
 intro ws
 induction ws using M.rev_ind with
 | h0=>intro _;rfl
 | h1 l x ih=>intro h;rw[pX,ih λw hw=>h w (iv _ hw),h x (hW _ (gs.mpr rfl))];rfl
theorem Mq (f:T3->Nat) (nm:Nat->T3):∀(l:C'),(∀k∈l,f (nm k)=2 ^ k)->xf f (l.map nm)=M.xm l:=by
 intro l
 induction l using M.rev_ind with
 | h0=>intro _;rfl
 | h1 l x ih=>intro h;rw[ef,VG,pX,M.xm_snoc,ih λw hw=>h w (iv _ hw),h x (hW _ (gs.mpr rfl))]
theorem O8 (ps os:A') {q:Nat×Nat} (h1:q.1 < 2 ^ 1000) (h2:q.2 < 2 ^ 1000):(xf (λw=>(dec ps os w).1) (wr2 q),xf (λw=>(dec ps os w).2) (wr2 q))=q:=by
 have hl:∀{x k:Nat},k∈M.pl 1000 x->k < 2500:=λ{x k} h=>by
  have:=U8.mp (UT.mp h).1;omega
 unfold wr2;rw[Mt,Mt];refine Yx ?_ ?_
 ·show _^^^_=q.1;rw[Mq _ _ _ (λk hk=>by rw[O9 _ _ (hl hk)]),Mr _ _ (λw hw=>by obtain⟨k,hk,rfl⟩:=hF.mp hw;rw[Pa _ _ (hl hk)]),GH h1,UJ]
 ·show _^^^_=q.2;rw[Mr _ (WK _ (M.pl 1000 q.1)) (λw hw=>by obtain⟨k,hk,rfl⟩:=hF.mp hw;rw[O9 _ _ (hl hk)]),Mq _ _ _ (λk hk=>by rw[Pa _ _ (hl hk)]),GH h2,VR]
section
variable {m:Nat} {ps os:A'} (b:Sml m ps os)
include b
theorem IC:Hng (i9 m ps os) (dec ps os) where
 i:=λk z h=>by
  have:=b.m6;obtain⟨hk,rfl⟩:=AH (show(nmb "i" m)[k]? =a' z from h);exact Pa _ _ @A
 t:=λk z y h=>by
  have:=b.lp;have h':=(V4 (l₁:=nmb "s" ps.length) (l₂:=nmb "n" ps.length)).mp h;obtain⟨hk,e⟩:=AH h'.1;have e:z=_:=e;rw[e];exact O9 _ _ @A
 s:=λz ws h=>by
  have:=b.lp;have:=b.lo;have:=b.m6;obtain⟨k,hk⟩:=U7.mp h;have h':=(V4 (l₁:=nmb "n" ps.length++nmb "o" os.length) (l₂:=(ps++os).map wr2)).mp hk;obtain⟨h1,h2⟩:=h';have h1:(nmb "n" ps.length++nmb "o" os.length)[k]? =a' z:=h1;have h2:((ps++os).map wr2)[k]? =a' ws:=h2;rw[gA] at h2;obtain⟨q,G,rfl⟩:=VF.mp h2;have hb:=b.bn q (ee G);rw[O8 ps os (gm hb.1 (hJ @C @A)) (gm hb.2 (hJ @C @A))];by_cases L:k < ps.length
  ·rw[kv (by rw[bK];exact L)] at h1;obtain⟨_,rfl⟩:=AH h1;rw[R3 _ _ @A,ec];rw[kv L] at G;rw[G];rfl
  ·rw[lT (by rw[bK];omega),bK] at h1;obtain⟨_,rfl⟩:=AH h1;rw[R1 _ _ @A,ec];rw[lT @A] at G;rw[G];rfl
theorem LD:(i9 m ps os).sts.length=ps.length:=by
 have:=T4 TX (DZ b);rw[bx,bK] at this;exact this
theorem Ni:((i9 m ps os).sts.map (·.2)).map (dec ps os)=ps:=by
 rw[DY b];have:=b.lp;apply Wg;intro k;rw[gA];by_cases hk:k < ps.length
 ·rw[zo hk,YO,R3 _ _ @A,ec,ed hk];rfl
 ·rw[Uw (by rw[bK];omega),Uw @A];rfl
theorem Nh:(i9 m ps os).outs.map (dec ps os)=os:=by
 show(nmb "o" os.length).map _=os;have:=b.lo;apply Wg;intro k;rw[gA];by_cases hk:k < os.length
 ·rw[zo hk,YO,R1 _ _ @A,ec,ed hk];rfl
 ·rw[Uw (by rw[bK];omega),Uw @A];rfl
theorem IB (tp:Topo (i9 m ps os).sums N):((i9 m ps os).sts.map (·.2)).map (hgp (i9 m ps os))=ps/\(i9 m ps os).outs.map (hgp (i9 m ps os))=os:=by
 have g:=sL b;have hn:=IC b
 have bd:∀q∈ps++os,q.1 < 2 ^ (i9 m ps os).sts.length/\q.2 < 2 ^ (i9 m ps os).ins.length:=λq G=>by
  rw[LD b,show(i9 m ps os).ins.length=m from bK _ _];exact b.bn q G
 constructor
 ·refine Eq.trans (UV λz hz=>?_) (Ni b);have hm:dec ps os z∈ps:=by have:=hF.mpr ⟨z,hz,(rfl:dec ps os z=_)⟩;rw[Ni b] at this;exact this
  have hb:=bd _ (iv _ hm);obtain⟨q,G,rfl⟩:=hF.mp hz;exact M6 g tp hn (g.ts q G) hb.1 hb.2
 ·refine Eq.trans (UV λz hz=>?_) (Nh b);have hm:dec ps os z∈os:=by have:=hF.mpr ⟨z,hz,(rfl:dec ps os z=_)⟩;rw[Nh b] at this;exact this
  have hb:=bd _ (hW _ hm);exact M6 g tp hn (g.os z hz) hb.1 hb.2
end
theorem Mj {k:Nat} (hk:k<=1000):((k:Int)).natAbs.log2 < 1920:=by
 rw[Y0];rcases ZV k with z | z
 ·rw[z];decide
 ·exact(Yg @A).mpr (gm (show k < 2 ^ 14 by omega) (hJ @C @C))
theorem JV {l:T3} {k:Nat} (hl:l.length<=10) (hk:k<=1000):l.length + (tx k).length<=sizeLine:=by
 have G:=Xw (Mj hk);rw[nr];show l.length + (toString (k:Int):T3).length<=_;omega
def N0:Sp:=λvs H Q _=>∃(l:T3) (n:Nat),vs=[.str l,nat n]/\l.length<=10/\n<=1000/\∀(D:eH) (H2:Hp),H D=f'->Same H H2->H2 D=a' (.lst ((nmb l n).map V.str))->Q (.ref D) H2
def N1:Sp:=λvs H Q _=>∃(z:T3) (t:eH) (x y:Nat),vs=[.str z,.ref t]/\H t=a' (.tup [nat x,nat y])/\x < 2 ^ 1000/\y < 2 ^ 1000/\∀(tt D:eH) (H2:Hp),H D=f'->Same H H2->H2 tt=a' (.tup [.str z,.ref D])->H2 D=a' (.lst ((wr2 (x,y)).map V.str))->Q (.ref tt) H2
def K0 (G:NP) (C:eH):Sp:=λvs H Q _=>∃(p:eH) (m:Nat) (nx os:eE Pr3),vs=[.ref p]/\MaA H C p m nx os/\Sml m (prs nx) (prs os)/\∀(n:eH) (H2:Hp) (od:B'),H n=f'->Same H H2->G H2 n (i9 m (prs nx) (prs os)) od->Q (.ref n) H2
end Sx
variable {Ch:eE Sx.Qs} {rs:eE Sx.Rw}
namespace M
structure Kern (R ms:C'):Prop where
 inj:Inj ms
 lt:∀m∈ms,m < 2 ^ R.length
 ev:∀m∈ms,sm R m=0
 all:∀z,z < 2 ^ R.length->sm R z=0->Span ms z
structure Lft (left rows:C'):Prop where
 nz:∀x∈left,x≠0
 pw:left.Pairwise λa b=>b.testBit a.log2=false
 sp:∀x,Span left x↔Span rows x
 len:left.length=(fr rows).length
noncomputable def bm (G:C') (b:Nat):Nat:=Zb (Bar G b)
noncomputable def act (ps:A') (x Q:Nat):Nat:=if Q=0 then 0 else (if Q % 2=1 then x else 0)^^^act ps (tr2 ps x 0) (Q / 2)
termination_by Q
decreasing_by omega
structure Lst (ps:A') (x P:Nat):Prop where
 nz:P≠0
 dv:∀Q,act ps x Q=0↔Dv P Q
structure Rng (ps:A') (x l n:Nat):Prop where
 pos:1<=n
 back:zs ps x (l + n)=zs ps x l
 least:∀e,1<=e->e < n->zs ps x (l + e)≠zs ps x l
 early:1<=l->zs ps x (l - 1 + n)≠zs ps x (l - 1)
end M
namespace Sx
open PySem L2
structure Sgl (H:Hp) (D:eH) (ds:M') (ps os:A') (n m:Nat):Prop where
 d:H D=a' (.lst (ds.map V.ref))
 len:ds.length=m
 at':∀(w:Nat) (d:eH),ds[w]? =a' d->H d=a' (.lst ((M.wan ps os 0 (M.pulse w n)).map nat))
structure TldA (H:Hp) (t D1 D2 D3 D4:eH) (rs:eE Rw) (qs:eE Qs) (N:Nt):Prop where
 t:H t=a' (.tup [.ref D1,.ref D2,.ref D3,.ref D4])
 i:H D1=a' (.lst (N.ins.map V.str))
 s:H D2=a' (.lst (rs.map λr=>V.ref r.1))
 sr:RwK H rs
 es:rs.map (·.2.2)=N.sums
 st:H D3=a' (.lst (qs.map λr=>V.ref r.1))
 tr:QsK H qs
 et:qs.map (·.2)=N.sts
 o:H D4=a' (.lst (N.outs.map V.str))
def NT (G:NP):Sp:=λvs H Q _=>∃(p:eH) (N:Nt) (od:B'),vs=[.ref p]/\G H p N od/\∀(D:eH) (H2:Hp) (rs:eE Rw),H D=f'->Same H H2->H2 D=a' (.lst (rs.map λr=>V.ref r.1))->RwK H2 rs->rs.map (·.2.2)=N.sums->Q (.ref D) H2
noncomputable def J (c:Nat):eE C'->C'
 | []=>[]
 | [x]=>x
 | x::y::r=>x++c::J c (y::r)
theorem Nn {c:Nat}:∀{x y a b:C'},c∉x->c∉y->x++c::a=y++c::b->x=y/\a=b
 | [],[],a,b,_,_,h=>⟨rfl,(Xr h).2⟩
 | [],d::y,a,b,_,hy,h=>hD (by rw[(Xr h).1];exact u') hy
 | d::x,[],a,b,hx,_,h=>hD (by rw[<-(Xr h).1];exact u') hx
 | d::x,e::y,a,b,hx,hy,h=>by
   obtain⟨h1,h2⟩:=Xr h;obtain⟨L,G⟩:=Nn (λz=>hx (p' _ z)) (λz=>hy (p' _ z)) h2;exact⟨by rw[h1,L],G⟩
theorem So {c:Nat}:∀(ws vs:eE C'),ws≠[]->vs≠[]->(∀w∈ws,c∉w)->(∀w∈vs,c∉w)->J c ws=J c vs->ws=vs
 | [],_,h,_,_,_,_=>hD rfl h
 | _,[],_,h,_,_,_=>hD rfl h
 | [x],[y],_,_,_,_,h=>by rw[show x=y from h]
 | [x],y::z::r,_,_,hx,_,h=>hD (by rw[show x=y++c::J c (z::r) from h];simp) (hx x u')
 | x::y::r,[z],_,_,_,hz,h=>hD (by rw[show z=x++c::J c (y::r) from h.symm];simp) (hz z u')
 | x::y::r,x'::G::r',_,_,hx,hz,h=>by
   obtain⟨h1,h2⟩:=Nn (hx x u') (hz x' u') (show x++c::J c (y::r)=x'++c::J c (G::r') from h);rw[h1,So (y::r) (G::r') @E @E (λw hw=>hx w (p' _ hw)) (λw hw=>hz w (p' _ hw)) h2]
theorem tK (c:Nat):∀ws:B',(Ws ⟨#[c]⟩ ws).cps.toList=J c (ws.map (·.cps.toList))
 | []=>rfl
 | [x]=>rfl
 | x::y::r=>by
   have ih:=tK c (y::r);show(x.cps++#[c]++(Ws ⟨#[c]⟩ (y::r)).cps).toList=x.cps.toList++c::J c ((y::r).map (·.cps.toList));rw[<-ih];simp
theorem yg {ws:B'} (h:ws≠[]) (hf:∀w∈ws,c∉w.cps.toList):Vo (Ws ⟨#[c]⟩ ws) ⟨#[c]⟩=ws:=by
 have α:=StrLaws.join_split (Ws ⟨#[c]⟩ ws) ⟨#[c]⟩;have Z:=StrLaws.split_free (Ws ⟨#[c]⟩ ws) c;have L:=PyProof.Rows.split_pos (Ws ⟨#[c]⟩ ws) ⟨#[c]⟩;generalize Vo (Ws ⟨#[c]⟩ ws) ⟨#[c]⟩=vs at α Z L ⊢;have Y:=tK c vs;rw[α,tK c ws] at Y;have β:=So (c:=c) _ _ (by simpa using h) (by intro z;rw[List.map_eq_nil_iff] at z;subst z;simp at L) (λw hw=>by obtain⟨v,G,rfl⟩:=hF.mp hw;exact hf v G) (λw hw=>by obtain⟨v,G,rfl⟩:=hF.mp hw;exact Z v G) Y;have inj:∀x y:T3,x.cps.toList=y.cps.toList->x=y:=λ⟨⟨a⟩⟩ ⟨⟨b⟩⟩ h=>by cases(show a=b from h);rfl
 exact(List.map_inj_right inj).mp β.symm
theorem Dj (y:T3) (l:B'):Zt y l=Ws y l:=StrLaws.glued_eq_join _ _
theorem yQ:(Vy " ")=⟨#[32]⟩:=by decide +kernel
theorem BO:(Vy "\n")=⟨#[10]⟩:=by decide +kernel
theorem Ra {K:dt} (h:X.K=K):OpR X (compareOp .In) (rIn K false):=by subst h;exact Ii
def Wd (z:T3):Prop:=(32:Nat)∉z.cps.toList/\(10:Nat)∉z.cps.toList
theorem Nm.wd (h:Nm z):Wd z:=by
 have h:nm z.cps.toList=true:=h
 have G:∀c:Nat,(low c||fig c)=false->c∉z.cps.toList:=λc L m=>by
  cases e:z.cps.toList with
  | nil=>rw[e] at m;cases m
  | cons d r=>
    rw[e] at h m;unfold nm at h;rw[TZ,Va] at h;have:=h.2 c m;rw[L] at this;cases this
 exact⟨G 32 @C,G 10 @C⟩
theorem SD:Wd "in":=by unfold Wd;decide +kernel
theorem PP:Wd "out":=by unfold Wd;decide +kernel
theorem PN:Wd "sum":=by unfold Wd;decide +kernel
theorem KC:Wd "store":=by unfold Wd;decide +kernel
theorem PQ:Wd "=":=by unfold Wd;decide +kernel
inductive Fm:B'->Prop where
 | i (z:T3) (h:Nm z):Fm ["in",z]
 | o (z:T3) (h:Nm z):Fm ["out",z]
 | s (z:T3) (ws:B') (h:Nm z) (hw:∀w∈ws,Nm w) (l:ws.length<=24):Fm ("sum"::z::"="::ws)
 | t (z y:T3) (h:Nm z) (hy:Nm y):Fm ["store",z,"=",y]
theorem Fm.wd {r:B'} (f:Fm r):∀w∈r,Wd w:=by
 cases f with
 | i z h=>intro w hw;simp at hw;rcases hw with rfl | rfl<;>first | exact SD | exact h.wd
 | o z h=>intro w hw;simp at hw;rcases hw with rfl | rfl<;>first | exact PP | exact h.wd
 | s z ws h G l=>
   intro w hw;simp at hw;rcases hw with rfl | rfl | rfl | hw<;>first | exact PN | exact h.wd | exact PQ | exact(G w hw).wd
 | t z y h L=>intro w hw;simp at hw;rcases hw with rfl | rfl | rfl | rfl<;>first | exact KC | exact h.wd | exact PQ | exact L.wd
theorem Fm.ne {r:B'} (f:Fm r):r≠[]:=by cases f<;>simp
theorem lenS:("in":T3).length=2/\("out":T3).length=3/\("sum":T3).length=3/\("store":T3).length=5/\("=":T3).length=1/\("":T3).length=0:=by decide +kernel
theorem Fm.len {r:B'} (f:Fm r):r.length<=27/\∀w∈r,w.length<=6:=by
 obtain⟨α,Z,δ,ξ,Y,_⟩:=lenS;cases f with
 | i z h=>exact⟨@E,λw hw=>by simp at hw;rcases hw with rfl | rfl<;>first | exact h.len | omega⟩
 | o z h=>exact⟨@E,λw hw=>by simp at hw;rcases hw with rfl | rfl<;>first | exact h.len | omega⟩
 | s z ws h G l=>
   refine⟨by simp only[U4];omega,λw hw=>?_⟩;simp at hw;rcases hw with rfl | rfl | rfl | hw<;>first | exact h.len | exact(G w hw).len | omega
 | t z y h L=>exact⟨@E,λw hw=>by simp at hw;rcases hw with rfl | rfl | rfl | rfl<;>first | exact h.len | exact L.len | omega⟩
noncomputable def rowT (r:B'):Str:=Ws ⟨#[32]⟩ r
noncomputable def txtR (G:eE B'):Str:=Ws ⟨#[10]⟩ (G.map rowT)
theorem Sn {c d:Nat} (G:c≠d):∀{ws:eE C'},(∀w∈ws,d∉w)->d∉J c ws
 | [],_=>by simp[J]
 | [x],h=>h x u'
 | x::y::r,h=>by
   show d∉x++c::J c (y::r);intro m;rcases gz.mp m with m | m
   ·exact h x u' m
   ·rcases Tn.mp m with m | m
    ·exact G m.symm
    ·exact Sn G (ws:=y::r) (λw hw=>h w (p' _ hw)) m
theorem Hw {r:B'} (h:∀w∈r,Wd w):(10:Nat)∉(rowT r).cps.toList:=by
 unfold rowT;rw[tK];exact Sn @C λw hw=>by obtain⟨v,G,rfl⟩:=hF.mp hw;exact(h v G).2
theorem EZ {r:B'} (h:∀w∈r,Wd w) (ne:r≠[]):Vo (rowT r) ⟨#[32]⟩=r:=yg ne λw hw=>(h w hw).1
theorem Ey (h:∀r∈Go,∀w∈r,Wd w) (ne:Go≠[]):Vo (txtR Go) ⟨#[10]⟩=Go.map rowT:=yg (by simpa using ne) λw hw=>by obtain⟨r,L,rfl⟩:=hF.mp hw;exact Hw (h r L)
theorem Pq (c:Nat) {n:Nat}:∀{ws:eE C'},(∀w∈ws,w.length<=n)->(J c ws).length<=ws.length * (n + 1)
 | [],_=>UY _
 | [x],h=>by have:=h x u';show x.length<=1 * (n + 1);omega
 | x::y::r,h=>by
   have h1:=h x u';have h2:=Pq c (n:=n) (ws:=y::r) λw hw=>h w (p' _ hw);show(x++c::J c (y::r)).length<=_;rw[eP,U4,U4,XB];omega
theorem y3 {r:B'} (h:∀w∈r,w.length<=6):(rowT r).length<=r.length * 7:=by
 rw[<-oY];unfold rowT;rw[tK];have:=Pq 32 (n:=6) (ws:=r.map (·.cps.toList)) λw hw=>by obtain⟨v,G,rfl⟩:=hF.mp hw;rw[oY];exact h v G
 rw[bx] at this;exact this
theorem KI (h:∀r∈Go,Fm r):(txtR Go).length<=Go.length * 190:=by
 rw[<-oY];unfold txtR;rw[tK]
 have:=Pq 10 (n:=189) (ws:=(Go.map rowT).map (·.cps.toList)) λw hw=>by
  obtain⟨v,L,rfl⟩:=hF.mp hw;obtain⟨r,Y,rfl⟩:=hF.mp L;rw[oY];have a:=(h r Y).len;have b:=y3 a.2;have:r.length * 7<=27 * 7:=Xy 7 a.1;omega
 rw[bx,bx] at this;exact this
theorem KN (h:z=""):z.cps.toList=[]:=BM.mp h
theorem J_ne (c:Nat):∀{ws:eE C'},(∃w∈ws,w≠[])->J c ws≠[]
 | [],⟨w,h,_⟩=>by cases h
 | [x],⟨w,h,n⟩=>by rw[gs.mp h] at n;exact n
 | x::y::r,_=>by show x++c::J c (y::r)≠[];simp
theorem Oz {r:B'} (f:Fm r):(rowT r).cps.toList≠[]:=by
 unfold rowT;rw[tK];refine J_ne 32 ?_;cases f with
 | i z h=>exact⟨("in":T3).cps.toList,@E,@H⟩
 | o z h=>exact⟨("out":T3).cps.toList,@E,@H⟩
 | s z ws h G l=>exact⟨("sum":T3).cps.toList,@E,@H⟩
 | t z y h L=>exact⟨("store":T3).cps.toList,@E,@H⟩
theorem NO (h:∀r∈Go,Fm r) (ne:Go≠[]):txtR Go≠"":=λe=>by
 have:=KN e;unfold txtR at this;rw[tK] at this;refine J_ne 10 ?_ this;cases Go with
 | nil=>exact hD rfl ne
 | cons r l=>exact⟨(rowT r).cps.toList,@E,Oz (h r u')⟩
noncomputable def kd (k:T3) (r:B'):Bool:=decide (r.getD 0 ""=k)
noncomputable def insR (G:eE B'):B':=(G.filter (kd "in")).map λr=>r.getD 1 ""
noncomputable def sumR (G:eE B'):eE (T3×eE T3):=(G.filter (kd "sum")).map λr=>(r.getD 1 "",r.drop 3)
noncomputable def stoR (G:eE B'):eE (T3×T3):=(G.filter (kd "store")).map λr=>(r.getD 1 "",r.getD 3 "")
noncomputable def outR (G:eE B'):B':=(G.filter (kd "out")).map λr=>r.getD 1 ""
noncomputable def netR (G:eE B'):Nt:=⟨insR G,sumR G,stoR G,outR G⟩
noncomputable def qP (N:Nt):eE B':=N.ins.map (λz=>[("in":T3),z])++N.sums.map (λr=>("sum":T3)::r.1::("=":T3)::r.2)++N.sts.map (λr=>[("store":T3),r.1,("=":T3),r.2])++N.outs.map (λz=>[("out":T3),z])
noncomputable def txtN (N:Nt):Str:=txtR (qP N)
theorem w_ne:("in":T3)≠"sum"/\("in":T3)≠"store"/\("in":T3)≠"out"/\("sum":T3)≠"in"/\("sum":T3)≠"store"/\("sum":T3)≠"out"/\("store":T3)≠"in"/\("store":T3)≠"sum"/\("store":T3)≠"out"/\("out":T3)≠"in"/\("out":T3)≠"sum"/\("out":T3)≠"store":=by decide +kernel
theorem uN {α:Type} (f:α->B') {k:T3} (h:∀x,kd k (f x)=true) (l:eE α):(l.map f).filter (kd k)=l.map f:=by
 rw[List.filter_eq_self];intro r G;obtain⟨x,_,rfl⟩:=hF.mp G;exact h x
theorem dX {α:Type} (f:α->B') {k:T3} (h:∀x,kd k (f x)=false) (l:eE α):(l.map f).filter (kd k)=[]:=by
 rw[Xj];intro r G;obtain⟨x,_,rfl⟩:=hF.mp G;rw[h x];exact hB
theorem kd_t {k:T3} {r:B'}:kd k (k::r)=true:=gB rfl
theorem kd_f {k j:T3} {r:B'} (h:j≠k):kd k (j::r)=false:=gn h
theorem yl (N:Nt):netR (qP N)=N:=by
 obtain⟨n1,β,υ,α,Z,ο,π,ξ,ν,Y,L,G⟩:=w_ne;cases N with
 | mk a b c d=>
 unfold netR insR sumR stoR outR qP;simp only[V2];rw[uN _ (λ_=>kd_t),dX _ (λ_=>kd_f α),dX _ (λ_=>kd_f π),dX _ (λ_=>kd_f Y)];rw[dX (λz=>[("in":T3),z]) (λ_=>kd_f n1),uN _ (λ_=>kd_t),dX _ (λ_=>kd_f ξ),dX _ (λ_=>kd_f L)];rw[dX (λz=>[("in":T3),z]) (λ_=>kd_f β),dX _ (λ_=>kd_f Z),uN _ (λ_=>kd_t),dX _ (λ_=>kd_f G)];rw[dX (λz=>[("in":T3),z]) (λ_=>kd_f υ),dX _ (λ_=>kd_f ο),dX _ (λ_=>kd_f ν),uN _ (λ_=>kd_t)];simp;exact⟨XA a,XA b,XA c,XA d⟩
theorem yZ {N:Nt} (g:Gn N):∀r∈qP N,Fm r:=by
 intro r Y;have ρ:∀z∈N.ins,z∈N.names:=λz h=>by unfold Nt.names;exact iv _ (iv _ h)
 have L:∀q∈N.sums,q.1∈N.names:=λq h=>by unfold Nt.names;exact iv _ (hW _ (hF.mpr ⟨q,h,rfl⟩))
 have π:∀q∈N.sts,q.1∈N.names:=λq h=>by unfold Nt.names;exact hW _ (hF.mpr ⟨q,h,rfl⟩)
 unfold qP at Y;rcases gz.mp Y with h | h
 ·rcases gz.mp h with h | h
  ·rcases gz.mp h with h | h
   ·obtain⟨z,hz,rfl⟩:=hF.mp h;exact .i z (g.nm z (ρ z hz))
   ·obtain⟨q,G,rfl⟩:=hF.mp h;exact .s q.1 q.2 (g.nm _ (L q G)) (λw hw=>g.nm w (g.ws q G w hw)) (g.lw q G)
  ·obtain⟨q,G,rfl⟩:=hF.mp h;exact .t q.1 q.2 (g.nm _ (π q G)) (g.nm _ (g.ts q G))
 ·obtain⟨z,hz,rfl⟩:=hF.mp h;exact .o z (g.nm z (g.os z hz))
theorem vj {N:Nt} (g:Gn N):(qP N).length<=68:=by
 have:=g.li;have:=g.ls;have:=g.lt;have:=g.lo;unfold qP;simp only[eP,bx];omega
def Lrw (L H:Hp) (D:eH) (ys:eE V) (G:eE B'):Prop:=∃ds:M',ys=ds.map V.ref/\ds.length=G.length/\(∀d∈ds,d≠D)/\(∀d∈ds,L d=f')/\∀(j:Nat) (d:eH) (r:B'),ds[j]? =a' d->G[j]? =a' r->H d=a' (.lst (r.map V.str))
theorem Lrw.nil:Lrw γ H D [] []:=⟨[],rfl,rfl,λ_ h=>(by cases h),λ_ h=>(by cases h),λj d r h=>(by simp at h)⟩
theorem Lrw.len {L:Hp} {ys:eE V} (x:Lrw L H D ys Go):ys.length=Go.length:=by obtain⟨ds,rfl,l,_⟩:=x;rw[bx,l]
theorem Lrw.base {L:Hp} {ys:eE V} (x:Lrw γ H D ys Go) (s:Same L γ):Lrw L H D ys Go:=by obtain⟨ds,e,l,n,f,h⟩:=x;exact⟨ds,e,l,n,λd hd=>s.free (f d hd),h⟩
theorem Lrw.put {ys:eE V} {r:B'} (x:Lrw γ H D ys Go) (δ:γ C=f') (e:H D=a' (.lst ys)) (f:H C=f') (s:Same H H') (ε:H' C=a' (.lst (r.map V.str))):Lrw γ (upd H' D (.lst (ys++[.ref C]))) D (ys++[.ref C]) (Go++[r]):=by
 obtain⟨ds,rfl,ld,nd,fd,hd⟩:=x;have τ:C≠D:=λz=>by rw[z,e] at f;cases f
 have k3:∀b ob,b≠D->H' b=a' ob->upd H' D (.lst (ds.map V.ref++[.ref C])) b=a' ob:=λb ob n e=>by rw[aF n];exact e
 refine⟨ds++[C],by rw[ef];rfl,by rw[eP,eP,ld];rfl,λd Z=>?_,λd Z=>?_,λj d r' α L=>?_⟩
 ·rcases gz.mp Z with h | h
  ·exact nd d h
  ·rw[gs.mp h];exact τ
 ·rcases gz.mp Z with h | h
  ·exact fd d h
  ·rw[gs.mp h];exact δ
 ·by_cases ω:j < ds.length
  ·rw[kv ω] at α;rw[kv @A] at L;exact k3 _ _ (nd d (ee α)) (s.get (hd j d r' α L))
  ·have hl:=(b'.mp α).1;rw[eP,Tu] at hl;rw[lT @A,show j - ds.length=0 by omega] at α;rw[lT @A,show j - Go.length=0 by omega] at L;cases α;cases L;exact k3 _ _ τ ε
theorem Lrw.join {ys:eE V} (x:Lrw γ H D ys Go) (e:H D=a' (.lst ys)) (ν:Same γ H) (s:Same H H2) (x2:Lrw H H2 C am Is) (u:Upd H2 H' D (.lst (ys++am))):Lrw γ H' D (ys++am) (Go++Is):=by
 obtain⟨ds,rfl,ld,nd,fd,hd⟩:=x;obtain⟨δ,rfl,ε,ξ,η,ζ⟩:=x2;have θ:∀d∈δ,d≠D:=λd L z=>by have:=η d L;rw[z,e] at this;cases this
 refine⟨ds++δ,by rw[ef],by rw[eP,eP,ld,ε],λd L=>(gz.mp L).elim (nd d) (θ d),λd L=>(gz.mp L).elim (fd d) (λh=>ν.free (η d h)),λj d r β Y=>?_⟩;by_cases ω:j < ds.length
 ·rw[kv ω] at β;rw[kv @A] at Y;exact u.oth _ _ (nd d (ee β)) (s.get (hd j d r β Y))
 ·rw[lT @A] at β;rw[lT @A,<-ld] at Y;exact u.oth _ _ (θ d (ee β)) (ζ _ d r β Y)
def NV (G:NP):Sp:=λvs H Q _=>∃(p:eH) (N:Nt) (od:B'),vs=[.ref p]/\G H p N od/\∀H2,Same H H2->Q (.str (txtN N)) H2
def N6:Sp:=λvs H Q _=>∃(l:eH) (r:B'),vs=[.ref l]/\H l=a' (.lst (r.map V.str))/\Fm r/\∀H2,Same H H2->Q (.bl true) H2
def EH:Sp:=λvs H Q _=>∃(z:T3),vs=[.str z]/\z.length<=100000/\∀(D:eH) (H2:Hp),H D=f'->Same H H2->H2 D=a' (.lst ((Vo z ⟨#[32]⟩).map V.str))->Q (.ref D) H2
def G3:Sp:=λvs H Q _=>∃(z:T3),vs=[.str z]/\z.length<=100000/\∀(D:eH) (H2:Hp),H D=f'->Same H H2->H2 D=a' (.lst ((if z="" then [] else Vo z ⟨#[10]⟩).map V.str))->Q (.ref D) H2
def NW (L:NP):Sp:=λvs H Q _=>∃(G:eE B'),vs=[.str (txtR G)]/\(∀r∈G,Fm r)/\G.length<=100/\Gn (netR G)/\∀(n:eH) (H2:Hp) (od:B'),H n=f'->Same H H2->L H2 n (netR G) od->Q (.ref n) H2
end Sx
namespace M
noncomputable def jn (p1 p2:A'):A':=p1++p2.map λq=>(q.1 <<< p1.length,q.2)
theorem jn_len (p1 p2:A'):(jn p1 p2).length=p1.length + p2.length:=by unfold jn;rw[eP,bx]
noncomputable def lo (n x:Nat):Nat:=x&&&(2 ^ n - 1)
theorem Rv (n x k:Nat):(lo n x).testBit k=(decide (k < n)&&x.testBit k):=by
 unfold lo;rw[Vr,Yz,Bool.and_comm]
theorem lo_lt (n x:Nat):lo n x < 2 ^ n:=by
 unfold lo;rw[Wj];exact ZY _ (T5 n)
theorem spl (n x:Nat):lo n x^^^((x>>>n) <<< n)=x:=ix λk=>by
 rw[TH,Rv,V5,We];by_cases h:k < n
 ·rw[gB h,gn @A];simp
 ·rw[gn h,gB (by omega:k≥n),show n + (k - n)=k by omega];simp
theorem hi_lt {n m:Nat} (h:x < 2 ^ (n + m)):x>>>n < 2 ^ m:=by
 rw[TR,Zn (T5 n),Yh,<-YD];exact h
structure Jo (p1 p2:A'):Prop where
 a1:∀q∈p1,q.1 < 2 ^ p1.length
 a2:∀q∈p2,q.1 < 2 ^ p2.length
 l:p1.length + p2.length<=500
theorem Jo.tr (j:Jo p1 p2) {a b:Nat} (ha:a < 2 ^ p1.length) (hb:b < 2 ^ p2.length):tr2 (jn p1 p2) (a^^^(b <<< p1.length)) r=tr2 p1 a r^^^(tr2 p2 b r <<< p1.length):=ix λk=>by
 have hl:=j.l;rw[tr2_bit,jn_len,TH,V5,tr2_bit,tr2_bit];by_cases h1:k < p1.length
 ·have e:(jn p1 p2).getD k (0,0)=p1.getD k (0,0):=by
   unfold jn;rw[ec,ec,kv h1]
  have hm:p1.getD k (0,0)∈p1:=by
   rw[ec,ed h1];exact UL h1
  have L:=j.a1 _ hm
  have ea:(p1.getD k (0,0)).1&&&(a^^^(b <<< p1.length))=(p1.getD k (0,0)).1&&&a:=by
   have:=Bz (p:=(p1.getD k (0,0)).1) (r:=a) (P:=0) (R:=b) L ha;rw[ZS,UJ,Vq,ZS,UJ] at this;exact this
  rw[e,ea,gB h1,gB (show k < p1.length + p2.length by omega),gn (show ¬k≥p1.length by omega)];simp
 ·by_cases h2:k < p1.length + p2.length
  ·have G:k - p1.length < p2.length:=by omega
   have e:(jn p1 p2).getD k (0,0)=((p2.getD (k - p1.length) (0,0)).1 <<< p1.length,(p2.getD (k - p1.length) (0,0)).2):=by
    unfold jn;rw[ec,lT @A,gA,ec,ed G];rfl
   have hm:p2.getD (k - p1.length) (0,0)∈p2:=by
    rw[ec,ed G];exact UL G
   have L:=j.a2 _ hm
   have ea:od (((p2.getD (k - p1.length) (0,0)).1 <<< p1.length)&&&(a^^^(b <<< p1.length)))=od ((p2.getD (k - p1.length) (0,0)).1&&&b):=by
    have:=Bz (p:=0) (r:=a) (P:=(p2.getD (k - p1.length) (0,0)).1) (R:=b) (T5 _) ha;rw[VR,Vq,VR] at this;rw[this];refine Rh (Uu X8 (gm L (hJ @C @A))) @A
   rw[e];show(decide (k < p1.length + p2.length)&&(od (((p2.getD (k - p1.length) (0,0)).1 <<< p1.length)&&&(a^^^(b <<< p1.length)))^^od ((p2.getD (k - p1.length) (0,0)).2&&&r)))=_;rw[ea,gB h2,gn h1,gB (show k≥p1.length by omega),gB G];simp
  ·rw[gn h2,gn h1,gn (show ¬k - p1.length < p2.length by omega)];simp
section
variable {p1 p2 o1 o2:A'} {m:Nat}
theorem Jo.tr' (j:Jo p1 p2) (hx:x < 2 ^ (p1.length + p2.length)):tr2 (jn p1 p2) x r=tr2 p1 (lo p1.length x) r^^^(tr2 p2 (x>>>p1.length) r <<< p1.length):=by
 have:=j.tr (r:=r) (lo_lt p1.length x) (hi_lt hx);rwa [spl] at this
noncomputable def sgl (p o:A') (w:Nat):Nat->Nat
 | 0=>tr2 o 0 (2 ^ w)
 | t + 1=>tr2 o (zs p (tr2 p 0 (2 ^ w)) t) 0
theorem Ak (p o:A'):∀(T x t:Nat),t < T->(wan p o x (lj T 0)).getD t 0=tr2 o (zs p x t) 0
 | 0,_,_,h=>hD h @A
 | T + 1,x,t,h=>by
   rw[Vi];show(tr2 o x 0::wan p o (tr2 p x 0) (lj T 0)).getD t 0=_
   match t with
   | 0=>rfl
   | t + 1=>
     show(wan p o (tr2 p x 0) (lj T 0)).getD t 0=_;rw[Ak p o T _ t @A,NB]
theorem wan_sgl (p o:A') (w T:Nat):∀t,t<=T->(wan p o 0 (2 ^ w::lj T 0)).getD t 0=sgl p o w t
 | 0,_=>rfl
 | t + 1,h=>by
   show(wan p o (tr2 p 0 (2 ^ w)) (lj T 0)).getD t 0=_;rw[Ak p o T _ t @A];rfl
theorem pulse_sgl (p o:A') (w:Nat) {T t:Nat} (h:t < T):(wan p o 0 (pulse w T)).getD t 0=sgl p o w t:=by
 rw[<-pulse_eq,Dg,ec,List.getElem?_take,wb h,<-ec,wan_sgl p o w T t @A]
def Al (p1 o1 p2 o2:A') (m T:Nat):Prop:=∀t,t < T->∀w,w < m->sgl p1 o1 w t=sgl p2 o2 w t
end
noncomputable def rcf (ps:A') (m:Nat):Nat->C'
 | 0=>[]
 | T + 1=>rcf ps m T++stj ps (sg0 ps m) T
theorem rcf_len (ps:A') (m:Nat):∀T,(rcf ps m T).length=T * m
 | 0=>by show 0=0 * m;omega
 | T + 1=>by
   show(rcf ps m T++stj ps (sg0 ps m) T).length=_;rw[eP,rcf_len ps m T,stj_len,sg0_len,XB]
theorem B4 (ps:A') (m:Nat) (x:Nat):∀T,x∈rcf ps m T↔x∈rch ps m T
 | 0=>ZZ
 | T + 1=>by
   show x∈rcf ps m T++stj ps (sg0 ps m) T↔x∈stj ps (sg0 ps m) T++rch ps m T;rw[gz,gz,B4 ps m x T,or_comm]
theorem mem_span:∀{L:C'} {x:Nat},x∈L->Span L x:=λ{L x} h=>by
 obtain⟨i,hi⟩:=U7.mp h;have:=sm_span L (2 ^ i);rwa [oI,ec,hi] at this
theorem Ln (ps:A') (m T x:Nat):Span (rcf ps m T) x↔Span (rch ps m T) x:=
 ⟨qJ (λy G=>mem_span ((B4 ps m y T).mp G)) x,qJ (λy G=>mem_span ((B4 ps m y T).mpr G)) x⟩
noncomputable def prs2 (p1 p2:A') (m:Nat):C':=fR (rcf (jn p1 p2) m (p1.length + p2.length))
theorem Az (p1 p2:A') (m x:Nat):Span (prs2 p1 p2 m) x↔Span (rch (jn p1 p2) m (p1.length + p2.length)) x:=by
 unfold prs2;rw[zT,Ln]
theorem prs2_next {m:Nat} (hx:Span (prs2 p1 p2 m) x) (G:r < 2 ^ m):Span (prs2 p1 p2 m) (tr2 (jn p1 p2) x r):=by
 rw[Az] at hx ⊢;have:=DL (ps:=jn p1 p2) (m:=m) (x:=x) (r:=r) (by rw[jn_len];exact hx) G;rwa [jn_len] at this
theorem prs2_lt {m:Nat} (hx:x∈prs2 p1 p2 m):x < 2 ^ (p1.length + p2.length):=by
 have h:=(Az p1 p2 m x).mp (mem_span hx);rw[<-jn_len];exact span_lt (rch_lt _ _ _) h
theorem prs2_few (p1 p2:A') (m:Nat):(prs2 p1 p2 m).length<=p1.length + p2.length:=zL (Jx _) λx G=>prs2_lt G
end M
namespace Sx
open PySem L2
noncomputable def less (H:Hp) (R:eH->Prop):Hp:=λb=>@ite _ (R b) (Vp _) f' (H b)
structure TwoA (H:Hp) (C p1 p2:eH) (m:Nat) (nx1 os1 nx2 os2:eE Pr3):Prop where
 a1:MaA H C p1 m nx1 os1
 g1:MaG m nx1 os1
 a2:MaA H C p2 m nx2 os2
 g2:MaG m nx2 os2
 lo:os1.length=os2.length
 l:nx1.length + nx2.length<=60
theorem TwoA.same {m:Nat} {L:eE Pr3} (x:TwoA H C D Z m At nx L zn) (s:Same H H2):TwoA H2 C D Z m At nx L zn:=⟨x.a1.same s,x.g1,x.a2.same s,x.g2,x.lo,x.l⟩
theorem TwoA.jo {m:Nat} {L:eE Pr3} (x:TwoA H C D a m L At nx zn):M.Jo (prs L) (prs nx) where
 a1:=λq α=>by
  obtain⟨r,Z,rfl⟩:=hF.mp α;rw[aE];exact(x.g1.bn r (iv _ Z)).1
 a2:=λq α=>by
  obtain⟨r,Z,rfl⟩:=hF.mp α;rw[aE];exact(x.g2.bn r (iv _ Z)).1
 l:=by rw[aE,aE];have:=x.l;omega
noncomputable abbrev jnp (L G:eE Pr3):A':=M.jn (prs L) (prs G)
theorem Jb (L G:eE Pr3):(jnp L G).length=L.length + G.length:=by rw[M.jn_len,aE,aE]
def KZ (C:eH):Sp:=λvs H Q _=>∃(p1 p2:eH) (m:Nat) (L β G Y:eE Pr3) (x r:Nat),vs=[.ref p1,.ref p2,nat x,nat r]/\TwoA H C p1 p2 m L β G Y/\x < 2 ^ (L.length + G.length)/\r < 2 ^ m/\∀H2,Same H H2->Q (nat (M.tr2 (jnp L G) x r)) H2
structure Fun2 (p1 o1 p2 o2:A') (m w t:Nat):Prop where
 hw:w < m
 ht:t<=p1.length + p2.length
 al:M.Al p1 o1 p2 o2 m t
 al':∀w',w' < w->M.sgl p1 o1 w' t=M.sgl p2 o2 w' t
 un:M.sgl p1 o1 w t≠M.sgl p2 o2 w t
theorem Fun2.not {m w t:Nat} (a:Fun2 p1 Y p2 es m w t) (b:M.Al p1 Y p2 es m (p1.length + p2.length + 1)):False:=a.un (b t (by have:=a.ht;omega) w a.hw)
def N5 (C:eH):Sp:=λvs H Q _=>∃(p1 p2:eH) (m:Nat) (L β G Y:eE Pr3),vs=[.ref p1,.ref p2]/\TwoA H C p1 p2 m L β G Y/\
 (M.Al (prs L) (prs β) (prs G) (prs Y) m (L.length + G.length + 1)->∀H2,Same H H2->Q .non H2)/\
 (∀w t,Fun2 (prs L) (prs β) (prs G) (prs Y) m w t->∀(tt:eH) (H2:Hp),Same H H2->H2 tt=a' (.tup [.str "apart",nat w,nat t])->Q (.ref tt) H2)
def P5 (C:eH):Sp:=λvs H Q _=>∃(p1 p2:eH) (m:Nat) (L β G Y:eE Pr3),vs=[.ref p1,.ref p2]/\TwoA H C p1 p2 m L β G Y/\∀(D:eH) (H2:Hp),H D=f'->Same H H2->H2 D=a' (.lst ((M.prs2 (prs L) (prs G) m).map nat))->Q (.ref D) H2
noncomputable def sfq (G:C') (x:Nat):Nat:=@dite _ (∃q,Sumd G x q) (Vp _) (λh=>h.choose) λ_=>0
theorem MH (h:Sumd G x q):q=sfq G x:=by
 unfold sfq;rw[dif_pos ⟨q,h⟩];exact h.uniq (Classical.choose_spec (⟨q,h⟩:∃q,Sumd G x q))
structure AlkA (H:Hp) (t Ds Db Du:eH) (ts bs us:M') (m:Nat) (p1 p2:A'):Prop where
 t:H t=a' (.tup [.str "alike",.ref Ds,.ref Db,.ref Du])
 s:H Ds=a' (.lst (ts.map V.ref))
 ls:ts.length=(M.prs2 p1 p2 m).length
 sa:∀(j:Nat) a,ts[j]? =a' a->H a=a' (.tup [nat (M.lo p1.length ((M.prs2 p1 p2 m).getD j 0)),nat ((M.prs2 p1 p2 m).getD j 0>>>p1.length)])
 b:H Db=a' (.lst (bs.map V.ref))
 lb:bs.length=m
 ba:∀(j:Nat) a,bs[j]? =a' a->H a=a' (.lst ((M.pl 1000 (sfq (M.prs2 p1 p2 m) (M.tr2 (M.jn p1 p2) 0 (2 ^ j)))).map nat))
 u:H Du=a' (.lst (us.map V.ref))
 lu:us.length=(M.prs2 p1 p2 m).length
 ua:∀(j:Nat) a,us[j]? =a' a->H a=a' (.lst ((M.pl 1000 (sfq (M.prs2 p1 p2 m) (M.tr2 (M.jn p1 p2) ((M.prs2 p1 p2 m).getD j 0) 0))).map nat))
def P9 (C:eH):Sp:=λvs H Q _=>∃(p1 p2:eH) (m:Nat) (L β G Y:eE Pr3),vs=[.ref p1,.ref p2]/\TwoA H C p1 p2 m L β G Y/\
 (M.Al (prs L) (prs β) (prs G) (prs Y) m (L.length + G.length + 1)->∀(t α γ Z:eH) (ts bs us:M') (H2:Hp),Same H H2->AlkA H2 t α γ Z ts bs us m (prs L) (prs G)->Q (.ref t) H2)/\
 (∀w t,Fun2 (prs L) (prs β) (prs G) (prs Y) m w t->∀(tt:eH) (H2:Hp),Same H H2->H2 tt=a' (.tup [.str "apart",nat w,nat t])->Q (.ref tt) H2)
theorem HU {m q:Nat} (hx:x=0∨x∈M.prs2 p1 p2 m) (G:r < 2 ^ m):M.Span (M.prs2 p1 p2 m) (M.tr2 (M.jn p1 p2) x r):=by
 refine M.prs2_next ?_ G;rcases hx with rfl | h
 ·exact M.span_zero _
 ·exact M.mem_span h
def Hc (K:dt):Sp:=λvs H Q _=>∃(p:eH) (ns:N') (st mo:Nat),vs=[.ref p,nat st,nat mo]/\SqL K H p (ns.map V.int)/\st<=900/\mo<=12/\∀(t i s u o:eH) (H2:Hp) (rs:eE Rw) (qs:eE Qs) (N:Nt),Same H H2->H2 t=a' (.tup [.ref i,.ref s,.ref u,.ref o])->Hnd H2 i s u o rs qs N->Gn N->N.ins.length<=3->N.sums.length<=mo->Q (.ref t) H2
theorem IF {c:Int} {Y α:Nat} {sts:eE (T3×T3)} (m:Mk c Y α D0) (h1:Y<=3) (h2:α<=12) (h3:D0.length<=12) (ν:sums.Perm D0) (hs:sts.map (·.1)=nms c 6 α) (h4:N.length<=6)
  (ht:∀q∈sts,q.2∈nms c 0 Y++nms c 6 α++nms c 22 D0.length) (ho:∀z∈N,z∈nms c 0 Y++nms c 6 α++nms c 22 D0.length):Gn ⟨nms c 0 Y,sums,sts,N⟩:=by
 have pn:(sums.map (·.1)).Perm (nms c 22 D0.length):=by rw[<-m.nm];exact ν.map _
 have δ:∀z,z∈nms c 0 Y++nms c 6 α++nms c 22 D0.length->z∈Nt.names ⟨nms c 0 Y,sums,sts,N⟩:=λz hz=>by
  unfold Nt.names;show z∈nms c 0 Y++sums.map (·.1)++sts.map (·.1);rw[hs];rcases gz.mp hz with h | h
  ·rcases gz.mp h with h | h
   ·exact iv _ (iv _ h)
   ·exact hW _ h
  ·exact iv _ (hW _ (pn.mem_iff.mpr h))
 have χ:sts.length=α:=by have:=T4 TX hs;rw[bx,fg] at this;exact this
 have L:∀r∈sums,∃k,D0[k]? =a' r:=λr γ=>U7.mp (ν.mem_iff.mp γ)
 have ι:∀z∈Nt.names ⟨nms c 0 Y,sums,sts,N⟩,∃k:Nat,k < 40/\z=nmf c (k:Int):=λz hz=>by
  unfold Nt.names at hz;have hz:z∈nms c 0 Y++sums.map (·.1)++sts.map (·.1):=hz;rw[hs] at hz;rcases gz.mp hz with h | h
  ·rcases gz.mp h with h | h
   ·obtain⟨k,hk,e⟩:=nV h;exact⟨_,@A,e⟩
   ·obtain⟨k,hk,e⟩:=nV (pn.mem_iff.mp h);exact⟨_,@A,e⟩
  ·obtain⟨k,hk,e⟩:=nV h;exact⟨_,@A,e⟩
 have β:∀(a n:Nat),a + n<=40->(nms c a n).Nodup:=λa n h=>by
  unfold nms;refine Y6.mpr (Y1 (λ{i j} hi ζ ω=>?_) Z7);intro e;have:=zm c (show a + i < 40 by have:=U8.mp hi;omega) (show a + j < 40 by have:=U8.mp ζ;omega) e;omega
 have Z:∀{a n b k:Nat},a + n<=40->b + k<=40->a + n<=b->∀x∈nms c a n,∀y∈nms c b k,x≠y:=λh1 h2 h3 x θ y η e=>by
  obtain⟨i,hi,rfl⟩:=nV θ;obtain⟨j,ζ,rfl⟩:=nV η;have:=zm c @A @A e;omega
 refine⟨by show(nms c 0 Y).length<=6;rw[fg];omega,by show sums.length<=40;rw[ν.length_eq];omega,by show sts.length<=16;omega,h4,λr γ=>?_,λz hz=>?_,?_,λr γ z hz=>?_,λr γ=>δ _ (ht r γ),λz hz=>δ _ (ho z hz),?_⟩
 ·obtain⟨k,hk⟩:=L r γ;have:=(m.ws k r hk).1;omega
 ·obtain⟨k,hk,rfl⟩:=ι z hz;exact Rn c @A @A
 ·unfold Nt.names;show(nms c 0 Y++sums.map (·.1)++sts.map (·.1)).Nodup;rw[hs,Ua,Ua];refine⟨⟨β _ _ @A,pn.nodup_iff.mpr (β _ _ @A),λx θ y η=>Z @A @A @A x θ y (pn.mem_iff.mp η)⟩,β _ _ @A,λx θ y η=>?_⟩;rcases gz.mp θ with h | h
  ·exact Z @A @A @A x h y η
  ·exactλe=>Z (a:=6) (n:=α) (b:=22) (k:=D0.length) @A @A @A y η x (pn.mem_iff.mp h) e.symm
 ·obtain⟨k,hk⟩:=L r γ;have ξ:=(b'.mp hk).1;refine δ z ?_;rcases gz.mp ((m.ws k r hk).2 z hz) with h | h
  ·exact iv _ h
  ·obtain⟨j,ζ,rfl⟩:=nV h;exact hW _ (Rl @A)
 ·refine⟨λz=>(nms c 22 D0.length).idxOf z,λr γ z hz ε=>?_⟩;obtain⟨k,hk⟩:=L r γ;have ξ:=(b'.mp hk).1;have er:(nms c 22 D0.length)[k]? =a' r.1:=by rw[<-m.nm,gA,hk];rfl
  have nd:=β 22 D0.length @A
  have ρ:∀(j:Nat) y,(nms c 22 D0.length)[j]? =a' y->(nms c 22 D0.length).idxOf y=j:=λj y ζ=>by
   obtain⟨υ,τ⟩:=b'.mp ζ;rw[<-τ];exact nd.idxOf_getElem j υ
  obtain⟨j,ζ,φ⟩:=nV (pn.mem_iff.mp ε)
  have ο:j < k:=by
   rcases gz.mp ((m.ws k r hk).2 z hz) with h | h
   ·exfalso;rcases gz.mp h with h | h
    ·exact Z (a:=0) (n:=Y) (b:=22) (k:=D0.length) @A @A @A z h z (pn.mem_iff.mp ε) rfl
    ·exact Z (a:=6) (n:=α) (b:=22) (k:=D0.length) @A @A @A z h z (pn.mem_iff.mp ε) rfl
   ·obtain⟨π,ψ,e'⟩:=nV h;have:=zm c (show 22 + j < 40 by omega) (show 22 + π < 40 by omega) (φ.symm.trans e');omega
  have ez:(nms c 22 D0.length)[j]? =a' z:=by unfold nms;rw[gA,Ub ζ,φ];rfl
  show(nms c 22 D0.length).idxOf z < (nms c 22 D0.length).idxOf r.1;rw[ρ j z ez,ρ k r.1 er];exact ο
end Sx
namespace My
open PySem L2 Sx
local macro_rules | `(tactic| walk_at "o") =>`(tactic| first | exact WA rfl | exact Wf rfl)
local macro_rules | `(tactic| walk_at "s") =>`(tactic| exact ⟨rfl,rfl,rfl,by decide +kernel,rfl,by decide +kernel,by decide +kernel⟩)
local macro_rules | `(tactic| walk_at "n") =>`(tactic| (intro vs H Q E h;repeat (first | (obtain ⟨e,_⟩:=h;subst e;rfl) | (obtain ⟨_,h⟩:=h))))
local macro_rules | `(tactic| walk_at "l2side") =>`(tactic| first | assumption | rfl | omega | decide | ((try dsimp only [CDiv,To,CPow,CMul]);first | omega | decide | (refine (⟨?_,?_⟩)<;>first | omega | decide) | (refine (⟨?_,?_,?_⟩)<;>first | omega | decide) | (left;refine (⟨?_,?_⟩)<;>first | omega | decide) | (right;refine (⟨?_,?_⟩)<;>first | omega | decide)))
local macro_rules | `(tactic| walk_at "l2len") =>`(tactic| ((with_reducible show _ + _≤hR);first | assumption | (rw [nr];omega) | omega))
local macro_rules | `(tactic| walk_at "l2at") =>`(tactic| first | assumption | exact au | (refine' Same.get (by assumption) ?h;(case h=>walk_at "l2at")))
local macro_rules | `(tactic| walk_at "l2hp") =>`(tactic| first | assumption | (refine' SqL.of ?h;(case h=>walk_at "l2at")) | (refine' SqT.of ?h;(case h=>walk_at "l2at")) | (refine' Same.seq (by assumption) ?h;(case h=>walk_at "l2hp")) | (refine' Same.tup (by assumption) ?h;(case h=>walk_at "l2hp")) | (refine' Rep.same (by assumption) ?h;(case h=>walk_at "l2hp")) | walk_at "l2at")
local macro_rules | `(tactic| walk_at "l2kind") =>`(tactic| first | assumption | exact rfl | (refine' WA ⟨rfl,_,?e⟩;(case e=>walk_at "l2hp")) | (refine' Wf (WA ⟨rfl,_,?e⟩);(case e=>walk_at "l2hp")) | (refine' Wf (Wf ⟨rfl,_,WA ?e⟩);(case e=>walk_at "l2hp")))
local macro_rules | `(tactic| walk_at "l2step") =>`(tactic| first
 | ((with_reducible refine Qg ?_);intro _ _) | (with_reducible refine Qi ?_)
 | ((with_reducible refine' SM ?e ?_);(case e=>repeat constructor))
 | (with_reducible refine Ox ?_)
 | (with_reducible refine SR ?_) | ((with_reducible refine' s_rI ?e ?_);(case e=>walk_at "l2side")) | (with_reducible refine s_rU ?_)
 | ((with_reducible refine' SS ?e ?_);(case e=>rfl)) | ((with_reducible refine' SQ ?e ?_);(case e=>rfl)) | (with_reducible refine s_leS ?_)
 | ((with_reducible refine' Os ?e ?_);(case e=>repeat constructor)) | (with_reducible refine Ot ?_) | (with_reducible refine Qv ?_) | ((with_reducible refine' Qu ?e ?l ?_);(case e=>walk_at "l2hp");(case l=>rfl))
 | (with_reducible refine SN ?_) | (with_reducible refine SU ?_) | ((with_reducible refine' Qk ?l ?_);(case l=>exact IL (Zm rfl))) | ((with_reducible refine' Qj ?l ?_);(case l=>exact IL (Zm rfl)))
 | ((with_reducible refine' SO ?e ?_);(case e=>walk_at "l2hp")) | ((with_reducible refine' s_slS ?e ?_);(case e=>walk_at "l2side"))
 | ((with_reducible refine' SW ?e ?a ?_);(case e=>walk_at "l2hp");(case a=>first | assumption | rfl)) | ((with_reducible refine' SV ?e ?a ?_);(case e=>walk_at "l2hp");(case a=>first | assumption | rfl))
 | ((with_reducible refine' s_ty ?e ?_);(case e=>first | exact rfl | (refine' WA ⟨rfl,_,?f⟩;(case f=>walk_at "l2hp")) | (refine' Wf (Wf (WA ⟨rfl,WA ⟨_,?f⟩⟩));(case f=>walk_at "l2hp"))))
 | (with_reducible refine QF ?_)
 | ((with_reducible refine' Qr ?e ?_);(case e=>walk_at "l2hp")) | ((with_reducible refine' Qp ?e ?_);(case e=>walk_at "l2hp")) | ((with_reducible refine' Qq ?e ?_);(case e=>walk_at "l2side"))
 | ((with_reducible refine' SX ?e ?m ?_);(case e=>walk_at "l2kind");(case m=>decide))
 | (with_reducible refine Qz ?_) | (with_reducible refine SY ?_)
 | (with_reducible refine SL ?_) | (with_reducible refine Qf ?_) | (with_reducible refine Ou ?_) | (with_reducible refine s_intB ?_) | (with_reducible refine s_inS ?_) | ((with_reducible refine' s_addS ?e ?_);(case e=>walk_at "l2side"))
 | (with_reducible refine QE ?_) | ((with_reducible refine' p9 ?e ?_);(case e=>first | rfl | decide | assumption)) | ((with_reducible refine' jh ?e ?_);(case e=>first | rfl | decide | assumption)) | ((with_reducible refine' Ll ?a ?b ?_);(case a=>omega);(case b=>omega))
 | (with_reducible refine(⟨_,_,rfl,rfl,?_⟩);(with_reducible refine(⟨?l,?_⟩));(case l=>walk_at "l2len")) | (with_reducible refine(⟨_,_,rfl,rfl,?_⟩)) | (with_reducible refine WA ⟨_,rfl,?_⟩) | (with_reducible refine Wf ⟨_,rfl,?_⟩)
 | (with_reducible refine(⟨_,rfl,?_⟩)) | (with_reducible refine(⟨rfl,?_⟩)) | ((with_reducible refine' (⟨⟨_,?e⟩,?_⟩));(case e=>walk_at "l2hp")) | ((with_reducible refine' s_go ?e ?_);(case e=>assumption)))
local macro_rules | `(tactic| walk_at "l2") =>`(tactic| repeat walk_at "l2step")
local macro_rules | `(tactic| walk_at "l2step") =>`(tactic| first
 | (with_reducible refine Li ?_) | (with_reducible refine SZ ?_) | (with_reducible refine Qn ?_) | (with_reducible refine Lj ?_) | (with_reducible refine Ql ?_) | (with_reducible refine Qx ?_) | (with_reducible refine QC ?_) | (with_reducible refine Ho ?_)
 | ((with_reducible refine' Oq ?e ?_);(case e=>walk_at "l2hp")) | ((with_reducible refine' Oo ?e ?_);(case e=>walk_at "l2hp")) | ((with_reducible refine' Qe ?e ?_);(case e=>walk_at "l2hp")) | ((with_reducible refine' Qd ?e ?_);(case e=>walk_at "l2hp")))
local macro_rules | `(tactic| walk_at "l2step") =>`(tactic| first
 | (with_reducible refine S0 ?_) | (with_reducible refine Qy ?_) | (with_reducible refine s_disp1I ?_) | ((with_reducible refine' s_listD ?e ?_);(case e=>walk_at "l2at")))
local macro_rules | `(tactic| walk_at "l2step") =>`(tactic| first | (with_reducible refine On ?_) | (with_reducible refine s_try0 ?_) | (with_reducible refine s_callX ?_))
noncomputable def top (i:Nat):Stmt:=PySem.Challenge.pw_sumwires_k92_whole_text_to_the_least.main.body.getD i (.Pass ⟨0,0,0,0⟩)
noncomputable abbrev sj:Stmt:=top 18
theorem BY:av ["thing"] ["thing"] (ag sj):=by walk_at "s"
noncomputable abbrev vi:Stmt:=top 19
theorem EX:av ["thing","width"] ["thing","width"] (ag vi):=by walk_at "s"
noncomputable abbrev qN:Stmt:=top 20
theorem EW:av ["thing"] ["thing"] (ag qN):=by walk_at "s"
noncomputable abbrev Hq:Stmt:=top 21
theorem uV:av ["number","width","half"] ["number"] (ag Hq):=by walk_at "s"
noncomputable abbrev qO:Stmt:=top 22
theorem EY:av ["mask"] ["mask"] (ag qO):=by walk_at "s"
noncomputable abbrev vg:Stmt:=top 23
theorem oK:av ["places","mask","place"] ["places"] (ag vg):=by walk_at "s"
noncomputable abbrev si:Stmt:=top 24
theorem BU:av ["row"] ["row"] (ag si):=by walk_at "s"
noncomputable abbrev oM:Stmt:=top 25
theorem BV:av ["whole","width","count"] ["whole","width","count"] (ag oM):=by walk_at "s"
noncomputable abbrev vh:Stmt:=top 30
theorem EV:av ["thing","stores","inputs"] ["thing","stores","inputs"] (ag vh):=by walk_at "s"
noncomputable abbrev jj:Stmt:=top 31
theorem xj:av ["inputs","nexts","outs"] ["inputs","nexts","outs"] (ag jj):=by walk_at "s"
noncomputable abbrev yX:Stmt:=top 32
theorem Hm:av ["pair","state","row"] ["pair","state","row"] (ag yX):=by walk_at "s"
noncomputable abbrev kr:Stmt:=top 33
theorem yS:av ["pairs","state","row"] ["pairs","state","row"] (ag kr):=by walk_at "s"
noncomputable abbrev gT:Stmt:=bH (top 34) 0
theorem p6:av ["self","inputs","nexts","outs"] ["self","inputs","nexts","outs"] (ag gT):=by walk_at "s"
noncomputable abbrev iZ:Stmt:=bH (top 34) 1
theorem sh:av ["self"] ["self"] (ag iZ):=by walk_at "s"
noncomputable abbrev hX:Stmt:=bH (top 34) 2
theorem qK:av ["self"] ["self"] (ag hX):=by walk_at "s"
noncomputable abbrev eV:Stmt:=bH (top 34) 4
theorem nq:av ["self","state"] ["self","state"] (ag eV):=by walk_at "s"
noncomputable abbrev kT:Stmt:=bH (top 34) 5
theorem vb:av ["self","state","row"] ["self","state","row"] (ag kT):=by walk_at "s"
noncomputable abbrev iY:Stmt:=bH (top 34) 6
theorem dq:av ["self","rows","state","answers","row","done"] ["self","rows","state"] (ag iY):=by walk_at "s"
noncomputable abbrev fJ:Stmt:=bH (top 34) 7
theorem xn:av ["self","rows","state"] ["self","rows","state"] (ag fJ):=by walk_at "s"
noncomputable abbrev i0:Stmt:=bH (top 34) 9
theorem ly:av ["self","which","turns","rows"] ["self","which","turns"] (ag i0):=by walk_at "s"
noncomputable abbrev kU:Stmt:=bH (top 34) 10
theorem du:av ["self","mask","store_mask","input_mask","place"] ["self","mask"] (ag kU):=by walk_at "s"
noncomputable abbrev iW:Stmt:=bH (top 36) 0
theorem hV:av ["self","rows","place","row"] ["self","rows"] (ag iW):=by walk_at "s"
noncomputable abbrev jM:Stmt:=bH (top 36) 1
theorem dS:av ["self","mask","places","found"] ["self","mask"] (ag jM):=by walk_at "s"
noncomputable abbrev qf:Stmt:=bH (top 36) 2
theorem nL:av ["self","place","row","found","places"] ["self","place","row"] (ag qf):=by walk_at "s"
noncomputable abbrev jN:Stmt:=bH (top 36) 3
theorem gf:av ["self","bit","mask","top"] ["self","bit"] (ag jN):=by walk_at "s"
noncomputable abbrev Ht:Stmt:=top 37
theorem Oj:av ["rows"] ["rows"] (ag Ht):=by walk_at "s"
noncomputable abbrev vc:Stmt:=top 38
theorem r9:av ["rows","wish","steps","found"] ["rows","wish"] (ag vc):=by walk_at "s"
noncomputable abbrev vf:Stmt:=top 40
theorem oJ:av ["machine","turns","states","told","turn"] ["machine","turns"] (ag vf):=by walk_at "s"
noncomputable abbrev ve:Stmt:=top 41
theorem ET:av ["machine","places","turns"] ["machine","places","turns"] (ag ve):=by walk_at "s"
noncomputable abbrev iJ:Stmt:=top 43
theorem gR:av ["machine","masks","told","turn"] ["machine"] (ag iJ):=by walk_at "s"
noncomputable abbrev oN:Stmt:=top 44
theorem BW:av ["mask","others"] ["mask","others"] (ag oN):=by walk_at "s"
noncomputable abbrev jF:Stmt:=top 45
theorem tV:av ["pair","states","seen"] ["pair","states","seen"] (ag jF):=by walk_at "s"
noncomputable abbrev jH:Stmt:=top 46
theorem iD:av ["machine","leads","masks","led","states","looks","seen","nexts","outs","rows"] ["machine"] (ag jH):=by walk_at "s"
noncomputable abbrev p8:Stmt:=top 48
theorem nI:av ["one","other","pair","row","width","low"] ["one","other","pair","row"] (ag p8):=by walk_at "s"
noncomputable abbrev fW:Stmt:=top 49
theorem cN:av ["one","other","turns","inputs","ones","others","turn","which"] ["one","other"] (ag fW):=by walk_at "s"
noncomputable abbrev dw:Stmt:=top 50
theorem dR:av ["one","other","pairs","told","turn"] ["one","other"] (ag dw):=by walk_at "s"
noncomputable abbrev jx:Stmt:=top 51
theorem gh:av ["one","other","apart","pairs","begins","sums","width","states"] ["one","other"] (ag jx):=by walk_at "s"
noncomputable abbrev jK:Stmt:=bH (top 53) 0
theorem tW:av ["self","name"] ["self","name"] (ag jK):=by walk_at "s"
noncomputable abbrev hZ:Stmt:=bH (top 54) 0
theorem qL:av ["self","name","number"] ["self","name","number"] (ag hZ):=by walk_at "s"
noncomputable abbrev nP:Stmt:=bH (top 54) 2
theorem yV:av ["self","known","row","state"] ["self","known","row","state"] (ag nP):=by walk_at "s"
noncomputable abbrev mB:Stmt:=bH (top 54) 3
theorem xp:av ["self","known"] ["self","known"] (ag mB):=by walk_at "s"
noncomputable abbrev gS:Stmt:=bH (top 55) 0
theorem p5:av ["self","name","wires"] ["self","name","wires"] (ag gS):=by walk_at "s"
noncomputable abbrev my:Stmt:=bH (top 55) 3
theorem iE:av ["self","known","row","state","total","wire"] ["self","known","row","state"] (ag my):=by walk_at "s"
noncomputable abbrev kO:Stmt:=bH (top 55) 4
theorem cO:av ["self","known","store_mask","input_mask","wire","pair"] ["self","known"] (ag kO):=by walk_at "s"
noncomputable abbrev fS:Stmt:=bH (top 56) 0
theorem nK:av ["self","name","wire","number"] ["self","name","wire","number"] (ag fS):=by walk_at "s"
noncomputable abbrev jL:Stmt:=bH (top 56) 2
theorem tX:av ["self","known","row","state"] ["self","known","row","state"] (ag jL):=by walk_at "s"
noncomputable abbrev iV:Stmt:=bH (top 56) 3
theorem se:av ["self","known"] ["self","known"] (ag iV):=by walk_at "s"
noncomputable abbrev jk:Stmt:=top 63
theorem xk:av ["ins","sums","stores","outs"] ["ins","sums","stores","outs"] (ag jk):=by walk_at "s"
noncomputable abbrev mw:Stmt:=top 64
theorem kN:av ["names","known","name"] ["names"] (ag mw):=by walk_at "s"
noncomputable abbrev nN:Stmt:=top 65
theorem yU:av ["wire","known"] ["wire","known"] (ag nN):=by walk_at "s"
noncomputable abbrev mr:Stmt:=top 66
theorem fV:av ["sums","stores","outs","known","row","wire"] ["sums","stores","outs","known"] (ag mr):=by walk_at "s"
noncomputable abbrev cP:Stmt:=top 67
theorem mU:av ["ins","sums","stores","wires"] ["ins","sums","stores"] (ag cP):=by walk_at "s"
noncomputable abbrev yW:Stmt:=top 68
theorem Lh:av ["row","waiting"] ["row","waiting"] (ag yW):=by walk_at "s"
noncomputable abbrev nM:Stmt:=top 70
theorem jw:av ["sums","names","left","waiting","ready"] ["sums"] (ag nM):=by walk_at "s"
noncomputable abbrev de:Stmt:=bH (top 71) 0
theorem va:av ["self","ins","sums","stores","outs"] ["self","ins","sums","stores","outs"] (ag de):=by walk_at "s"
noncomputable abbrev kS:Stmt:=bH (top 71) 1
theorem u0:av ["self"] ["self"] (ag kS):=by walk_at "s"
noncomputable abbrev kR:Stmt:=bH (top 71) 2
theorem uZ:av ["self"] ["self"] (ag kR):=by walk_at "s"
noncomputable abbrev iX:Stmt:=bH (top 71) 3
theorem sf:av ["self"] ["self"] (ag iX):=by walk_at "s"
noncomputable abbrev jO:Stmt:=bH (top 71) 4
theorem tY:av ["self"] ["self"] (ag jO):=by walk_at "s"
noncomputable abbrev mz:Stmt:=bH (top 71) 7
theorem xl:av ["self","name"] ["self","name"] (ag mz):=by walk_at "s"
noncomputable abbrev dH:Stmt:=bH (top 71) 9
theorem pq:av ["self"] ["self"] (ag dH):=by walk_at "s"
noncomputable abbrev oP:Stmt:=top 73
theorem BZ:av ["words"] ["words"] (ag oP):=by walk_at "s"
noncomputable abbrev vd:Stmt:=top 74
theorem ES:av ["text"] ["text"] (ag vd):=by walk_at "s"
noncomputable abbrev gK:Stmt:=top 75
theorem eU:av ["text","rows","number","words","ins","sums","stores","outs"] ["text"] (ag gK):=by walk_at "s"
noncomputable abbrev gJ:Stmt:=top 76
theorem uU:av ["net","rows"] ["net"] (ag gJ):=by walk_at "s"
noncomputable abbrev p7:Stmt:=top 78
theorem nH:av ["net","row","state","bits","name"] ["net","row","state"] (ag p7):=by walk_at "s"
noncomputable abbrev qM:Stmt:=top 79
theorem EU:av ["wires","bits"] ["wires","bits"] (ag qM):=by walk_at "s"
noncomputable abbrev kQ:Stmt:=bH (top 80) 0
theorem uY:av ["self","net"] ["self","net"] (ag kQ):=by walk_at "s"
noncomputable abbrev oR:Stmt:=bH (top 80) 1
theorem uW:av ["self","row","answer"] ["self","row"] (ag oR):=by walk_at "s"
noncomputable abbrev kP:Stmt:=bH (top 80) 4
theorem uX:av ["self"] ["self"] (ag kP):=by walk_at "s"
noncomputable abbrev nO:Stmt:=top 81
theorem mq:av ["net","rows","going","row"] ["net","rows"] (ag nO):=by walk_at "s"
noncomputable abbrev B2:Stmt:=top 83
theorem yT:av ["net","pairs","name"] ["net"] (ag B2):=by walk_at "s"
noncomputable abbrev lC:Stmt:=top 84
theorem mn:av ["net","pairs","nexts","outs"] ["net"] (ag lC):=by walk_at "s"
noncomputable abbrev oO:Stmt:=top 85
theorem BX:av ["letter","count"] ["letter","count"] (ag oO):=by walk_at "s"
noncomputable abbrev jG:Stmt:=top 86
theorem tG:av ["name","pair","stores"] ["name","pair"] (ag jG):=by walk_at "s"
noncomputable abbrev uI:Stmt:=top 87
theorem lh:av ["machine","next_names","out_names","pairs","sums","stores"] ["machine"] (ag uI):=by walk_at "s"
noncomputable abbrev qe:Stmt:=top 89
theorem Au:av ["_law_script","_law_k"] ["_law_script","_law_k"] (ag qe):=by walk_at "s"
noncomputable abbrev so:Stmt:=top 90
theorem p4:av ["_law_cell_here","_law_k","_law_number"] ["_law_cell_here","_law_k"] (ag so):=by walk_at "s"
noncomputable abbrev qd:Stmt:=top 91
theorem kq:av ["_law_cell_here","_law_k","_law_letters","_law_some"] ["_law_cell_here","_law_k"] (ag qd):=by walk_at "s"
noncomputable abbrev ku:Stmt:=top 92
theorem fI:av ["_law_cell_here","_law_start","_law_names","_law_digits","_law_left","_law_found","_law_k","_law_many"] ["_law_cell_here","_law_start","_law_names","_law_digits"] (ag ku):=by walk_at "s"
noncomputable abbrev jy:Stmt:=top 93
theorem bz:av ["_law_script","_law_start","_law_most","_law_cell_here","_law_sizes","_law_ins","_law_stores","_law_known","_law_sums","_law_k","_law_wires_here","_law_at","_law_ends","_law_name_here","_law_outs"] ["_law_script","_law_start","_law_most"] (ag jy):=by walk_at "s"
noncomputable abbrev oQ:Stmt:=top 94
theorem jE:av ["_law_lists","_law_choice","_law_many","_law_rows","_law_k","_law_one"] ["_law_lists","_law_choice","_law_many"] (ag oQ):=by walk_at "s"
noncomputable abbrev jJ:Stmt:=top 95
theorem nJ:av ["_law_net_one","_law_rows","_law_looks","_law_turns","_law_answers"] ["_law_net_one","_law_rows","_law_looks"] (ag jJ):=by walk_at "s"
noncomputable abbrev B1:Stmt:=top 96
theorem jD:av ["_law_script","_law_net_here","_law_net_one","_law_machine","_law_other","_law_lists","_law_looks","_law_many","_law_least_net","_law_rows","_law_cell_here","_law_one","_law_two","_law_left","_law_right"] ["_law_script"] (ag B1):=by walk_at "s"
noncomputable abbrev FR (K:dt) (x q:T3) (st:Wr) (f:eH):Prop:=∃(Z:sC) (od:P') (kV υ G:sC) (an:P') (L ct:sC) (Y:K'),K.lookup f=a' ⟨Z,od,.func (UN x q (iy st) (fz st) (ag st) .none kV υ G an L ct),Y⟩/\VH K L q=true/\UO K (.ref f)=true
theorem FR.mk {K:dt} {x q:T3} {st:Wr} {f:eH} {L:sC} {Y:K'} (h1:K.lookup f=a' ⟨u,ut,.func (UN x q (iy st) (fz st) (ag st) .none dv ic ii an L ct),Y⟩) (h2:VH K L q=true) (α:UO K (.ref f)=true):FR K x q st f:=⟨_,_,_,_,_,_,_,_,_,h1,h2,α⟩
structure FT (K:dt) (x q:T3) (st:Wr) (f:eH) (d:hN) (ps:B'):Prop where
 F:Fun K x q st f d
 b:qH K d ps []
theorem FR.ok {K:dt} {x q:T3} {st:Wr} {f:eH} {ps:B'} (h:FR K x q st f) (g:∀(kV υ G:sC) (an:P') (L ct:sC) (us:E'),us.length=ps.length->bindArgs (UN x q (iy st) (fz st) (ag st) .none kV υ G an L ct) ⟨us,[]⟩=pure (ps.zip us)):∃d,FT K x q st f d ps:=by
 obtain⟨_,_,_,_,_,_,_,_,_,h1,h2,Y⟩:=h;have F:=M7 (st:=st) h1 h2 Y;exact⟨_,F,F.binds g⟩
theorem aj {k:Nat} {f:eH} {ps:B'} {x n q:T3} {st:Wr} {p:Pos} {t:TA} (F:FnOk X.prog X.w X.K X.mg X.base CX k f fd ps sp) (L:Room j X.A) (hm:X.mg x=a' (.ref f)) (U:FT X.K n q st f fd ps)
  (ha:PA X (e::β) t) (Y:rS CX X E:=by exact b0) (Z:k<=j:=by decide) (α:Gl X x:=by rfl) (G:(x == ("__debug__":T3))=false:=by decide) (he:tu (e::β) X.env=(false,eval e X.env)::tu β X.env:=by rfl) (ψ:(backTo pos (tu β X.env)).any (·.1)=false:=by rfl):
  PE X (.Call (.Name x p) (e::β) [] pos) (GW sp [] E t):=OE F (L.mono Z) α hm U.1.2 U.2 .nil Y ha G he ψ
noncomputable abbrev NI (K:dt) (x:T3) (f:eH):Prop:=aa8 K TV x=a' (a' (.ref f))
noncomputable abbrev NN (K:dt) (x:T3):Prop:=aa8 K TV x=a' f'
noncomputable abbrev FI (K:dt) (c:eH) (x:T3) (f:eH):Prop:=TK K (.ref c) x=a' (a' (.ref f))
noncomputable abbrev FN (K:dt) (c:eH) (x:T3):Prop:=TK K (.ref c) x=a' f'
theorem bln0 {l:eE Uc} (h:l.length=0):l=[]:=Yr h
theorem bln1 {l:eE Uc} (h:l.length=1):∃a,l=[a]:=List.length_eq_one_iff.mp h
theorem bln2 {l:eE Uc} (h:l.length=2):∃a b,l=[a,b]:=by cases l with | nil=>cases h | cons a l=>obtain ⟨b,z⟩:=bln1 (Wp h);exact ⟨a,b,z ▸ rfl⟩
theorem bln3 {l:eE Uc} (h:l.length=3):∃a b c,l=[a,b,c]:=by cases l with | nil=>cases h | cons a l=>obtain ⟨b,c,z⟩:=bln2 (Wp h);exact ⟨a,b,c,z ▸ rfl⟩
theorem bln4 {l:eE Uc} (h:l.length=4):∃a b c d,l=[a,b,c,d]:=by cases l with | nil=>cases h | cons a l=>obtain ⟨b,c,d,z⟩:=bln3 (Wp h);exact ⟨a,b,c,d,z ▸ rfl⟩
theorem bln5 {l:eE Uc} (h:l.length=5):∃a b c d e,l=[a,b,c,d,e]:=by cases l with | nil=>cases h | cons a l=>obtain ⟨b,c,d,e,z⟩:=bln4 (Wp h);exact ⟨a,b,c,d,e,z ▸ rfl⟩
theorem bln6 {l:eE Uc} (h:l.length=6):∃a b c d e f,l=[a,b,c,d,e,f]:=by cases l with | nil=>cases h | cons a l=>obtain ⟨b,c,d,e,f,z⟩:=bln5 (Wp h);exact ⟨a,b,c,d,e,f,z ▸ rfl⟩
theorem bln7 {l:eE Uc} (h:l.length=7):∃a b c d e f g,l=[a,b,c,d,e,f,g]:=by cases l with | nil=>cases h | cons a l=>obtain ⟨b,c,d,e,f,g,z⟩:=bln6 (Wp h);exact ⟨a,b,c,d,e,f,g,z ▸ rfl⟩
local macro_rules | `(tactic| walk_at "b") =>`(tactic| first | (refine fun _ _ _ _ _ _ us hl=>?_;obtain ⟨_,hz⟩:=bln1 hl;subst hz;rfl) | (refine fun _ _ _ _ _ _ us hl=>?_;obtain ⟨_,_,hz⟩:=bln2 hl;subst hz;rfl) | (refine fun _ _ _ _ _ _ us hl=>?_;obtain ⟨_,_,_,hz⟩:=bln3 hl;subst hz;rfl) | (refine fun _ _ _ _ _ _ us hl=>?_;obtain ⟨_,_,_,_,hz⟩:=bln4 hl;subst hz;rfl) | (refine fun _ _ _ _ _ _ us hl=>?_;obtain ⟨_,_,_,_,_,hz⟩:=bln5 hl;subst hz;rfl) | (refine fun _ _ _ _ _ _ us hl=>?_;obtain ⟨_,_,_,_,_,_,hz⟩:=bln6 hl;subst hz;rfl) | (refine fun _ _ _ _ _ _ us hl=>?_;obtain ⟨_,_,_,_,_,_,_,hz⟩:=bln7 hl;subst hz;rfl))
abbrev n10:B':=["row"]
abbrev n11:B':=["words"]
abbrev n12:B':=["machine","leads","masks","led","states","looks","seen","nexts","outs","rows"]
abbrev n13:B':=["row","waiting"]
abbrev n14:B':=["text","rows","number","words","ins","sums","stores","outs"]
abbrev n15:B':=["net","rows"]
abbrev n16:B':=["ins","sums","stores","wires"]
abbrev n17:B':=["self","ins","sums","stores","outs"]
abbrev n18:B':=["place","machine"]
abbrev n19:B':=["_law_k","_law_cell_here"]
abbrev n20:B':=["place","pair","state","row"]
abbrev n21:B':=["place","other","mask"]
abbrev n22:B':=["one","other","pairs","told","turn"]
abbrev n23:B':=["one","other","apart","pairs","begins","sums","width","states"]
abbrev n24:B':=["_law_script","_law_start","_law_most","_law_cell_here","_law_sizes","_law_ins","_law_stores","_law_known","_law_sums","_law_k","_law_wires_here","_law_at","_law_ends","_law_name_here","_law_outs"]
abbrev n25:B':=["_law_left","_law_right"]
abbrev n26:B':=["one","other","turns","inputs","ones","others","turn","which"]
abbrev n27:B':=["_law_k","_law_names","_law_cell_here","_law_start"]
abbrev n28:B':=["_law_net_one","_law_rows","_law_looks","_law_turns","_law_answers"]
set_option genInjectivity false in
set_option genSizeOf false in
structure Ad where
 fN:eH
 o6:hN
 iM:eH
 wL:hN
 kc:eH
 Bi:hN
 wD:eH
 Nk:hN
 ke:eH
 Bj:hN
 j9:eH
 Bf:hN
 h9:eH
 yt:hN
 ia:eH
 yu:hN
 kb:eH
 Bh:hN
 dM:eH
 rE:hN
 mL:eH
 Ei:hN
 fj:eH
 tM:hN
 bw:eH
 kH:hN
 bQ:eH
 ng:hN
 bE:eH
 lR:hN
 aZ:eH
 iN:hN
 cv:eH
 pU:hN
 bP:eH
 nc:hN
 cw:eH
 mO:hN
 mM:sC
 bR:eH
 nh:hN
 cx:eH
 pV:hN
 bN:eH
 m8:hN
 b5:eH
 oA:hN
 dP:eH
 wQ:hN
 b7:eH
 oB:hN
 wF:eH
 Nl:hN
 j5:eH
 Bb:hN
 qz:eH
 JO:hN
 j7:eH
 Bd:hN
 fk:eH
 tN:hN
 ij:eH
 yy:hN
 cU:eH
 ox:hN
 qC:eH
 JP:hN
 gv:eH
 wJ:hN
 dh:eH
 pM:hN
 cV:eH
 oy:hN
 iq:eH
 yB:hN
 cB:eH
 dA:hN
 bF:eH
 lU:hN
 c9:eH
 tR:hN
 cK:eH
 rK:hN
 bu:eH
 kG:hN
 cI:eH
 rH:hN
 cf:eH
 pN:hN
 be:eH
 je:hN
 b4:eH
 oz:hN
 bM:eH
 mZ:hN
 dN:eH
 rF:hN
 dO:eH
 rG:hN
 fo:eH
 tO:hN
 dJ:eH
 rD:hN
 cT:eH
 ou:hN
 qy:eH
 JM:hN
 j8:eH
 Be:hN
 cu:eH
 pS:hN
 cq:eH
 pR:hN
 cn:eH
 pQ:hN
 bO:eH
 m9:hN
 b8:eH
 oC:hN
 cJ:eH
 rJ:hN
 bj:eH
 kg:hN
 ip:eH
 yA:hN
 j6:eH
 Bc:hN
 ig:eH
 yx:hN
 ie:eH
 yw:hN
 gu:eH
 wI:hN
 ka:eH
 Bg:hN
 ck:eH
 pP:hN
 fO:eH
 yF:hN
 cj:eH
 pO:hN
 fq:eH
 tP:hN
 qD:eH
 JQ:hN
 ib:eH
 yv:hN
 il:eH
 yz:hN
 gw:eH
 wK:hN
 mK:eH
 Eh:hN
 gE:eH
 wO:hN
 iw:eH
 yE:hN
 gD:eH
 wN:hN
 fw:eH
 tQ:hN
 iu:eH
 yD:hN
 ir:eH
 yC:hN
 gC:eH
 wM:hN
 FX:eH
 R5:hN
 ar:eH
 bG:eH
 rO:eH
 bc:eH
 aT:eH
 aB:eH
 cZ:eH
 fY:eH
 tF:eH
 wW:eH
 dY:eH
 jz:eH
 uT:Tok
 kM:Tok
 ml:Tok
 r8:Tok
 fQ:Tok
 iT:Tok
 eh:Tok
 gQ:Tok
 pZ:Tok
 nG:Tok
 nF:Tok
open PySem.W in
structure Tx (K:Frag) (mg:F') (a:Ad):Prop where
 jA:FT K "is_whole" "is_whole" sj a.fN a.o6 ["thing"]
 tj:mg "is_whole"=a' (.ref a.fN)
 iR:FT K "is_mask" "is_mask" vi a.iM a.wL ["thing","width"]
 oi:mg "is_mask"=a' (.ref a.iM)
 iQ:FT K "is_name" "is_name" qN a.kc a.Bi ["thing"]
 oh:mg "is_name"=a' (.ref a.kc)
 w9:FT K "even" "even" Hq a.wD a.Nk ["number"]
 Eg:mg "even"=a' (.ref a.wD)
 ki:FT K "bits_of" "bits_of" qO a.ke a.Bj ["mask"]
 rA:mg "bits_of"=a' (.ref a.ke)
 iP:FT K "mask_of" "mask_of" vg a.j9 a.Bf ["places"]
 og:mg "mask_of"=a' (.ref a.j9)
 o9:FT K "words_of" "words_of" si a.h9 a.yt ["row"]
 FP:mg "words_of"=a' (.ref a.h9)
 pd:FT K "unpacked" "unpacked" oM a.ia a.yu ["whole","width","count"]
 FQ:mg "unpacked"=a' (.ref a.ia)
 rX:FT K "is_pair" "is_pair" vh a.kb a.Bh ["thing","stores","inputs"]
 Jm:mg "is_pair"=a' (.ref a.kb)
 jr:FT K "check_table" "check_table" jj a.dM a.rE ["inputs","nexts","outs"]
 zO:mg "check_table"=a' (.ref a.dM)
 uP:FT K "is_odd" "is_odd" yX a.mL a.Ei ["pair","state","row"]
 LY:mg "is_odd"=a' (.ref a.mL)
 iO:FT K "odd_places" "odd_places" kr a.fj a.tM ["pairs","state","row"]
 tL:mg "odd_places"=a' (.ref a.fj)
 dc:FT K "__init__" "Machine.__init__" gT a.bw a.kH ["self","inputs","nexts","outs"]
 aQ:FT K "stores" "Machine.stores" iZ a.bQ a.ng ["self"]
 bW:FT K "outputs" "Machine.outputs" hX a.bE a.lR ["self"]
 bC:FT K "check_state" "Machine.check_state" eV a.aZ a.iN ["self","state"]
 cA:FT K "step" "Machine.step" kT a.cv a.pU ["self","state","row"]
 d3:FT K "walked" "Machine.walked" iY a.bP a.nc ["self","rows","state"]
 g6:FunD K "run" "Machine.run" fJ a.cw a.mO a.mM
 mT:qH K a.mO ["self","rows","state"] [a.mM]
 yM:RelV (.int 0) a.mM
 c7:FT K "single" "Machine.single" i0 a.bR a.nh ["self","which","turns"]
 eg:FT K "back" "Machine.back" kU a.cx a.pV ["self","mask"]
 d0:FT K "__init__" "Steps.__init__" iW a.bN a.m8 ["self","rows"]
 dC:FT K "lowered" "Steps.lowered" jM a.b5 a.oA ["self","mask"]
 kl:FT K "lay" "Steps.lay" qf a.dP a.wQ ["self","place","row"]
 fG:FT K "barring" "Steps.barring" jN a.b7 a.oB ["self","bit"]
 yK:FT K "base" "base" Ht a.wF a.Nl ["rows"]
 Jn:mg "base"=a' (.ref a.wF)
 l6:FT K "sum_for" "sum_for" vc a.j5 a.Bb ["rows","wish"]
 wy:mg "sum_for"=a' (.ref a.j5)
 Af:FT K "reach" "reach" vf a.qz a.JO ["machine","turns"]
 O0:mg "reach"=a' (.ref a.qz)
 rV:FT K "rows_at" "rows_at" ve a.j7 a.Bd ["machine","places","turns"]
 Jk:mg "rows_at"=a' (.ref a.j7)
 kJ:FT K "look_masks" "look_masks" iJ a.fk a.tN ["machine"]
 AY:mg "look_masks"=a' (.ref a.fk)
 iA:FT K "odd_with" "odd_with" oN a.ij a.yy ["mask","others"]
 oZ:mg "odd_with"=a' (.ref a.ij)
 fA:FT K "told_by_looks" "told_by_looks" jF a.cU a.ox ["pair","states","seen"]
 oa:mg "told_by_looks"=a' (.ref a.cU)
 Ag:FT K "least" "least" jH a.qC a.JP ["machine"]
 O1:mg "least"=a' (.ref a.qC)
 gF:FT K "next_pair" "next_pair" p8 a.gv a.wJ ["one","other","pair","row"]
 mI:mg "next_pair"=a' (.ref a.gv)
 iH:FT K "first_unlike" "first_unlike" fW a.dh a.pM ["one","other"]
 x8:mg "first_unlike"=a' (.ref a.dh)
 gZ:FT K "pairs_come_to" "pairs_come_to" dw a.cV a.oy ["one","other"]
 wz:mg "pairs_come_to"=a' (.ref a.cV)
 ph:FT K "compared" "compared" jx a.iq a.yB ["one","other"]
 FU:mg "compared"=a' (.ref a.iq)
 cW:FT K "__init__" "Wire.__init__" jK a.cB a.dA ["self","name"]
 fP:FT K "__init__" "InWire.__init__" hZ a.bF a.lU ["self","name","number"]
 iS:FT K "bit" "InWire.bit" nP a.c9 a.tR ["self","known","row","state"]
 g7:FT K "hang" "InWire.hang" mB a.cK a.rK ["self","known"]
 eM:FT K "__init__" "SumWire.__init__" gS a.bu a.kG ["self","name","wires"]
 g5:FT K "bit" "SumWire.bit" my a.cI a.rH ["self","known","row","state"]
 fZ:FT K "hang" "SumWire.hang" kO a.cf a.pN ["self","known"]
 dn:FT K "__init__" "StoreWire.__init__" fS a.be a.je ["self","name","wire","number"]
 fE:FT K "bit" "StoreWire.bit" jL a.b4 a.oz ["self","known","row","state"]
 dZ:FT K "hang" "StoreWire.hang" iV a.bM a.mZ ["self","known"]
 jt:FT K "check_sizes" "check_sizes" jk a.dN a.rF ["ins","sums","stores","outs"]
 zP:mg "check_sizes"=a' (.ref a.dN)
 ju:FT K "check_names" "check_names" mw a.dO a.rG ["names"]
 zQ:mg "check_names"=a' (.ref a.dO)
 fB:FT K "check_wire" "check_wire" nN a.fo a.tO ["wire","known"]
 kF:mg "check_wire"=a' (.ref a.fo)
 jq:FT K "check_wires" "check_wires" mr a.dJ a.rD ["sums","stores","outs","known"]
 zN:mg "check_wires"=a' (.ref a.dJ)
 gY:FT K "wires_by_name" "wires_by_name" cP a.cT a.ou ["ins","sums","stores"]
 wx:mg "wires_by_name"=a' (.ref a.cT)
 w8:FT K "waits" "waits" yW a.qy a.JM ["row","waiting"]
 Ji:mg "waits"=a' (.ref a.qy)
 rW:FT K "ordered" "ordered" nM a.j8 a.Be ["sums"]
 Jl:mg "ordered"=a' (.ref a.j8)
 d9:FT K "__init__" "Net.__init__" de a.cu a.pS ["self","ins","sums","stores","outs"]
 dj:FT K "in_names" "Net.in_names" kS a.cq a.pR ["self"]
 gc:FT K "sum_rows" "Net.sum_rows" kR a.cn a.pQ ["self"]
 cF:FT K "store_rows" "Net.store_rows" iX a.bO a.m9 ["self"]
 cX:FT K "out_wires" "Net.out_wires" jO a.b8 a.oC ["self"]
 cy:FT K "wire_of" "Net.wire_of" mz a.cJ a.rJ ["self","name"]
 cb:FT K "names_by_need" "Net.names_by_need" dH a.bj a.kg ["self"]
 pe:FT K "has_form" "has_form" oP a.ip a.yA ["words"]
 FS:mg "has_form"=a' (.ref a.ip)
 rT:FT K "rows_of" "rows_of" vd a.j6 a.Bc ["text"]
 Jj:mg "rows_of"=a' (.ref a.j6)
 md:FT K "read_net" "read_net" gK a.ig a.yx ["text"]
 yp:mg "read_net"=a' (.ref a.ig)
 l9:FT K "show_net" "show_net" gJ a.ie a.yw ["net"]
 yo:mg "show_net"=a' (.ref a.ie)
 mP:FT K "turn_bits" "turn_bits" p7 a.gu a.wI ["net","row","state"]
 CH:mg "turn_bits"=a' (.ref a.gu)
 oF:FT K "mask_at" "mask_at" qM a.ka a.Bg ["wires","bits"]
 AX:mg "mask_at"=a' (.ref a.ka)
 iI:FT K "__init__" "Run.__init__" kQ a.ck a.pP ["self","net"]
 mf:FT K "step" "Run.step" oR a.fO a.yF ["self","row"]
 gb:FT K "answered" "Run.answered" kP a.cj a.pO ["self"]
 gO:FT K "answers_of" "answers_of" nO a.fq a.tP ["net","rows"]
 oj:mg "answers_of"=a' (.ref a.fq)
 Ah:FT K "hangs" "hangs" B2 a.qD a.JQ ["net"]
 O2:mg "hangs"=a' (.ref a.qD)
 lW:FT K "table_of" "table_of" lC a.ib a.yv ["net"]
 yn:mg "table_of"=a' (.ref a.ib)
 iB:FT K "numbered" "numbered" oO a.il a.yz ["letter","count"]
 o4:mg "numbered"=a' (.ref a.il)
 mQ:FT K "named_sum" "named_sum" jG a.gw a.wK ["name","pair"]
 CJ:mg "named_sum"=a' (.ref a.gw)
 uO:FT K "net_of" "net_of" uI a.mK a.Eh ["machine"]
 LX:mg "net_of"=a' (.ref a.mK)
 iC:FT K "_law_cell" "_law_cell" qe a.gE a.wO ["_law_script","_law_k"]
 qx:mg "_law_cell"=a' (.ref a.gE)
 bU:FT K "_law_mix" "_law_mix" so a.iw a.yE ["_law_cell_here","_law_k"]
 cD:mg "_law_mix"=a' (.ref a.iw)
 gG:FT K "_law_name" "_law_name" qd a.gD a.wN ["_law_cell_here","_law_k"]
 mJ:mg "_law_name"=a' (.ref a.gD)
 kK:FT K "_law_wires" "_law_wires" ku a.fw a.tQ ["_law_cell_here","_law_start","_law_names","_law_digits"]
 AZ:mg "_law_wires"=a' (.ref a.fw)
 pj:FT K "_law_net" "_law_net" jy a.iu a.yD ["_law_script","_law_start","_law_most"]
 FV:mg "_law_net"=a' (.ref a.iu)
 me:FT K "_law_sum" "_law_sum" oQ a.ir a.yC ["_law_lists","_law_choice","_law_many"]
 yq:mg "_law_sum"=a' (.ref a.ir)
 kj:FT K "_law_seen" "_law_seen" jJ a.gC a.wM ["_law_net_one","_law_rows","_law_looks"]
 wA:mg "_law_seen"=a' (.ref a.gC)
 Mp:Fun K "law" "law" B1 a.FX a.R5
 A2:mg "Machine"=a' (.ref a.ar)
 ax:Cls K a.ar
 BH:Mk K a.ar a.bw
 bg:Meth K a.ar "stores" a.bQ
 fM:Meth K a.ar "outputs" a.bE
 fi:Meth K a.ar "check_state" a.aZ
 fX:Meth K a.ar "step" a.cv
 uj:Meth K a.ar "walked" a.bP
 zy:Meth K a.ar "run" a.cw
 mY:Meth K a.ar "single" a.bR
 pK:Meth K a.ar "back" a.cx
 bf:cE K a.ar "inputs"
 cS:cE K a.ar "nexts"
 d6:cE K a.ar "outs"
 Jr:mg "Steps"=a' (.ref a.bG)
 gH:Cls K a.bG
 Kh:Mk K a.bG a.bN
 nY:Meth K a.bG "lowered" a.b5
 Cq:Meth K a.bG "lay" a.dP
 vI:Meth K a.bG "barring" a.b7
 d5:cE K a.bG "by_top"
 gq:cE K a.bG "free_places"
 kE:cE K a.bG "null_masks"
 Jp:mg "Wire"=a' (.ref a.rO)
 LZ:mg "InWire"=a' (.ref a.bc)
 mS:Cls K a.bc
 Mo:Mk K a.bc a.bF
 AJ:Meth K a.bc "bit" a.c9
 zz:Meth K a.bc "hang" a.cK
 rh:cE K a.bc "name"
 jY:cE K a.bc "number"
 Jq:mg "SumWire"=a' (.ref a.aT)
 km:Cls K a.aT
 Kg:Mk K a.aT a.bu
 zw:Meth K a.aT "bit" a.cI
 xF:Meth K a.aT "hang" a.cf
 pJ:cE K a.aT "name"
 jX:cE K a.aT "wires"
 CK:mg "StoreWire"=a' (.ref a.aB)
 fH:Cls K a.aB
 C9:Mk K a.aB a.be
 vH:Meth K a.aB "bit" a.b4
 ui:Meth K a.aB "hang" a.bM
 mX:cE K a.aB "name"
 gW:cE K a.aB "number"
 uh:cE K a.aB "wire"
 O3:mg "Net"=a' (.ref a.cZ)
 dD:Cls K a.cZ
 Pp:Mk K a.cZ a.cu
 lg:Meth K a.cZ "in_names" a.cq
 xH:Meth K a.cZ "sum_rows" a.cn
 ja:Meth K a.cZ "store_rows" a.bO
 jZ:Meth K a.cZ "out_wires" a.b8
 fK:Meth K a.cZ "wire_of" a.cJ
 j2:Meth K a.cZ "names_by_need" a.bj
 jm:cE K a.cZ "by_name"
 rg:cE K a.cZ "ins"
 dy:cE K a.cZ "kept_stores"
 sN:cE K a.cZ "outs"
 nX:cE K a.cZ "sum_order"
 lM:cE K a.cZ "sums"
 Tb:mg "Run"=a' (.ref a.fY)
 oG:Cls K a.fY
 Tj:Mk K a.fY a.ck
 Fu:Meth K a.fY "step" a.fO
 xG:Meth K a.fY "answered" a.cj
 oW:cE K a.fY "bits"
 qo:cE K a.fY "given"
 sM:cE K a.fY "held"
 nW:cE K a.fY "net"
 dA:Ny K a.rO "__init__" a.cB
 wB:mg "BadMask"=a' (.ref a.dY)
 jB:excIn K a.dY [.type "ValueError",.type "Exception",.type "BaseException",.type "object"] "ValueError.__new__"=true
 o5:mg "BadTable"=a' (.ref a.jz)
 gI:excIn K a.jz [.type "ValueError",.type "Exception",.type "BaseException",.type "object"] "ValueError.__new__"=true
 Js:mg "LETTERS"=a' (.str "abcdefghijklmnopqrstuvwxyz" a.uT)
 x9:mg "LONGEST_NAME"=a' (.int 6 a.kM)
 zR:mg "MOST_INPUTS"=a' (.int 6 a.ml)
 FW:mg "MOST_INS"=a' (.int 6 a.r8)
 pG:mg "MOST_OUTS_machines"=a' (.int 6 a.fQ)
 uD:mg "MOST_OUTS_nets"=a' (.int 6 a.iT)
 nC:mg "MOST_STORES_machines"=a' (.int 120 a.eh)
 rB:mg "MOST_STORES_nets"=a' (.int 16 a.gQ)
 CL:mg "MOST_SUMS"=a' (.int 40 a.pZ)
 A3:mg "MOST_WIRES"=a' (.int 24 a.nG)
 A1:mg "NAME_SIGNS"=a' (.str "abcdefghijklmnopqrstuvwxyz0123456789" a.nF)
 OP:mg "all"=f'
 Rr:mg "any"=f'
 Rq:mg "bool"=f'
 MZ:mg "dict"=f'
 LG:mg "divmod"=f'
 dI:mg "enumerate"=f'
 Rp:mg "int"=f'
 gN:mg "isinstance"=f'
 eQ:mg "len"=f'
 g9:mg "list"=f'
 S8:mg "max"=f'
 fh:mg "range"=f'
 Fq:mg "reversed"=f'
 LF:mg "sorted"=f'
 IE:mg "str"=f'
 k4:mg "tuple"=f'
 OO:mg "zip"=f'
section
variable {P:Tv} {w:U1} {K:dt} {mg:F'} {base:Ui} {a:Ad}
section
theorem qj (T:Tx K mg a):FnOk P w K mg base CX0 1 a.fN a.o6 ["thing"] (uH K):=by
 refine T.jA.1.okA BY λL A outer s H vs Q E Y h=>?_;obtain⟨x,k,rfl,hk,q⟩:=h;refine⟨_,((ai (aL (vm (aK (lV (K:=K) rfl) @F T.gN Ux (!j 0 (aa (sv (v:= .ty "int") @F T.Rp Yp rfl) ae))) (yj (Q4 (aK (lV (K:=K) rfl) @F T.gN Ux (!j 0 (aa (sv (v:= .ty "bool") @F T.Rq PyProof.Rows.boot_bool rfl) ae))))))))),aw (σ':=[a' _]) rfl ?_⟩;lia;unfold GR at q;cases G:subB k "int"
 ·rw[G] at q;lia;exact q
 ·rw[G] at q;lia;exact q
local macro_rules | `(tactic| walk_at "l2step") =>`(tactic| ((with_reducible refine' fT ?e ?_);(case e=>walk_at "l2kind")))
theorem oU (T:Tx K mg a):FnOk P w K mg base CX0 2 a.iM a.wL ["thing","width"] (BN K):=by
 have G:FnOk P w K mg base CX0 1 a.fN a.o6 ["thing"] (uH K):=qj T;refine T.iR.1.okA EX λZ A outer s H vs Q E Y h=>?_;obtain⟨x,k,wd,rfl,hk,q⟩:=h;refine⟨_,((ai (aL (vm (aj G Y T.tj T.jA (!j 0 ae)) (vm (kX Rb (pv 0) ah (bh _)) (yj (kX S4 (qi (K:=K) rfl UP Um Ul qp (pv 0)) (pv 1) (bh _)))))))),aw (σ':=[a' _,a' _]) rfl ?_⟩;lia;cases x with
 | int i=>
   have hk:k="int":=hk;subst hk;lia;have q:Q (.bl (decide (0<=i)&&decide (((Tw i:Nat):Int)<=wd))) H:=q;cases L:decide (0<=i)
   ·rw[L] at q;lia;exact q
   ·rw[L] at q;lia;exact q
 | bl b=>have hk:k="bool":=hk;subst hk;lia;exact q
 | non=>have hk:k="NoneType":=hk;subst hk;lia;exact q
 | str z=>have hk:k="str":=hk;subst hk;lia;exact q
 | ref p=>
   rcases hk with ⟨rfl,_⟩ | ⟨rfl,_⟩ | ⟨rfl,_⟩<;>lia<;>exact q
 | _=>exact Uk hk
local macro_rules | `(tactic| walk_at "l2step") =>`(tactic| ((with_reducible refine' jf ?e ?_);(case e=>walk_at "l2kind")))
theorem zg (T:Tx K mg a):FnOk P w K mg base CX0 1 a.wD a.Nk ["number"] N7:=by
 refine T.w9.1.okA uV fun η A outer s H vs Q E θ h=>?_;obtain⟨m,rfl,hm,q⟩:=h
 refine⟨_,((af (aD (i:=1) uV.nd rfl @D (qi (K:=K) rfl UP Um Ul qp (pv 0)))
  (af (y6 xo (aU sx (pv 1) ah (bh _)) (af (aD (i:=2) uV.nd rfl @D (az Ij (az dk (pv 1) ah) ah))
  (af (aD (i:=0) uV.nd rfl @D (az lE (az qV (pv 0) (pv 2)) (az lF (pv 0) (az qU (az g8 ah (pv 2)) ah))))
  (ai (aD (i:=1) uV.nd rfl @D (pv 2))))))
  (ai (aL (kX nu (pv 0) ah (bh _))))))),aw (σ':=[a' _,f',f']) rfl ?_⟩
 lia;refine⟨fun μ σ' H'=>∃n hf,σ'=[a' (nat n),a' (nat μ),hf]/\H'=H/\n < 2 ^ μ/\μ<=1000/\M.od n=M.od m,⟨Tw (m:Int),m,f',rfl,rfl,CY m,CZ hm,rfl⟩,?_⟩;rintro μ σ' H' ⟨n,hf,rfl,rfl,hn,hw,β⟩;lia;refine iteB (λY=>?_) (λY=>?_)
 ·have Y:=TF Y;have Z:(μ + 1) / 2 < μ:=by omega
  refine⟨λG H2=>∃L hf,G=[a' (nat L),a' (nat ((μ + 1) / 2)),hf]/\H2=H'/\L < 2 ^ ((μ + 1) / 2)/\M.od L=M.od m,λG H2 ⟨L,α,ζ,ε,δ,γ⟩=>⟨(μ + 1) / 2,Z,L,α,ζ,ε,δ,@A,γ⟩,?_⟩;lia;refine⟨(n>>>((μ + 1) / 2))^^^(n&&&(2 ^ ((μ + 1) / 2) - 1)),a' (nat ((μ + 1) / 2)),?_,rfl,M.fold_lt μ _ n hn @A,?_⟩
  ·rw[Jh,Jy]
  ·rw[<-β];have f:=M.pb_fold μ ((μ + 1) / 2) n @A hn @A;show M.pb 1000 _=M.pb 1000 _;rw[M.pb_up (M.fold_lt μ _ n hn @A) @A,f,<-M.pb_up hn hw]
 ·have Y:=of_decide_eq_false Y;have φ:n < 2:=gm hn (hJ @C (show μ<=1 by omega));lia;rw[show decide (V.int (n:Int)=V.int 0)= !M.od n from Lz φ,β];exact q
theorem uc (T:Tx K mg a):FnOk P w K mg base CX0 2 a.b7 a.oB ["self","bit"] (Qb a.bG):=by
 refine T.fG.1.okA gf λa3 A outer s H vs Q E ν h=>?_;obtain⟨p,d,f,n,ι,b,rfl,st,hb,ζ,ρ,η,q⟩:=h;have τ:=rz ν;obtain⟨dx,ho⟩:=st.ho;obtain⟨es,hd,ht,g,l⟩:=st.he;have nd:(es.map λe=>e.m.log2).Nodup:=by have:=g.nd;rw[TU] at this;exact this
 refine⟨_,((af (aD (i:=2) gf.nd rfl @D (az g8 ah (pv 1)))
  (af (dE xo rfl (aG (K:=K) rfl (aK (Ga rfl) @F T.LF PyProof.Rows.boot_sorted (aa (aJ (K:=K) rfl (pv 0) rfl) ae))) (aq (i:=3) gf.nd rfl @D) (ai (dU (jb (gL (aj (zg T) ν T.Eg T.w9 (aa (az lF (pv 2) (!A @I (nR τ (aJ (K:=K) rfl (pv 0) rfl) (pv 3) (λ_ _=>rfl)) ah)) ae)))) (ai (aD (i:=2) gf.nd rfl @D (az lE (pv 2) (az g8 ah (pv 3))))) bo)))
  (ai (aL (pv 2)))))),aw (σ':=[a' _,a' _,f',f']) rfl ?_⟩
 lia;refine aI ho T.gH T.d5 rfl ?_;lia;refine Ol hd (LO es) (by unfold rq;rw[bx];omega) λL ns H1 G γ ο hp hw=>?_;obtain⟨ts,rfl,up,mem⟩:=BL hp hw nd;rw[<-ID] at ο;lia;rw[shl1];refine iF (xs:=ts.map nat) (λi σ H'=>∃(m:Nat) (v:T8 V),σ=[a' (.ref p),a' (nat b),a' (nat m),v]/\H'=H1/\M.BarI (es.map λe=>(e.m,e.p)) (ts.take i) b m) ⟨2 ^ b,f',rfl,rfl,M.BarI.zero _ b⟩ (λi σ H' _ ⟨_,_,_,e,_⟩=>by rw[e];exact SqL.of ο) ?_ ?_
 ·rintro i y σ H' π ⟨m,v,rfl,rfl,I⟩;obtain⟨t,β,rfl⟩:=ay π;obtain⟨hi,ω⟩:=b'.mp β;rcases uS es (t:Int) with ⟨e,he,δ,ev⟩ | ⟨ψ,_⟩
  ·have δ:e.m.log2=t:=by omega
   subst δ;have α:(e.m,e.p)∈es.map (λe=>(e.m,e.p)):=hF.mpr ⟨e,he,rfl⟩;have Z:e.m < 2 ^ 1000:=M.span_lt ζ (g.span α);have ε:e.m.log2 < 1000:=M.log2_under (g.nz _ α) Z;have a0:=γ.get (ht e he)
   have χ:∀t∈ts.take i,t < e.m.log2:=λt hm=>by
    obtain⟨j,hj,ξ⟩:=U6.mp hm;rw[wh] at hj;rw[WQ] at ξ;have:=YJ.mp up j i @A hi @A;rw[ξ,ω] at this;exact this
   have φ:e.m.log2≠b:=η e.m (g.span α) (g.nz _ α);have Y:=g.nd;lia;refine aI (γ.get ho) T.gH T.d5 rfl ?_;lia;refine Hs (γ.get hd) ev ?_;lia;rw[d8];refine⟨m&&&e.m,rfl,Uu ab2 Z,?_⟩;cases υ:M.od (m&&&e.m) with
   | true=>
     lia;refine⟨m^^^2 ^ e.m.log2,a' (nat e.m.log2),by rw[shl1,dB],rfl,?_⟩;rw[take_succ β];exact I.flip (e:=(e.m,e.p)) Y g.nz α υ χ φ ε
   | false=>
     lia;rw[take_succ β];exact I.keep (e:=(e.m,e.p)) Y α υ
  ·obtain⟨e,he,δ⟩:=(mem t).mp (ee β);exact hD (by rw[δ]) (ψ e he)
 ·rintro σ H' ⟨m,v,rfl,rfl,I⟩;rw[bx,i'] at I;lia;refine q m H' γ (I.done g λe he=>?_);obtain⟨e',θ,rfl⟩:=hF.mp he;exact(mem _).mpr ⟨e',θ,rfl⟩
theorem oV (T:Tx K mg a):FnOk P w K mg base CX0 1 a.ke a.Bj ["mask"] N9:=by
 refine T.ki.1.okA EY λG A outer s H vs Q E L h=>?_;obtain⟨m,rfl,hm,q⟩:=h;have hb:=CZ hm;refine⟨_,((ai (aL (bD (osc:=ag qO) (ON:=["mask"]) (N:=["place","mask"]) (n:=1) (fx:=[0]) rfl rfl rfl @H (cG @F T.fh (aa (qi (K:=K) rfl UP Um Ul qp (pv 0)) ae)) (aA @C) (λ_ _ _ _ _=>⟨(aq (i:=0) (show hH (["place","mask"]:B') from by decide +kernel) rfl @D),(jP (aU nu (az lF (az qV (pv 1) (pv 0)) ah) ah (bh _))),(pv 0)⟩))))),aw (σ':=[a' _]) rfl ?_⟩;lia;intro D α;refine d7 (λi ys H'=>Cs (λi ys=>ys=(M.pl i m).map nat) H D i ys H') (Cs.zero α rfl) (λi ys H' hi c=>?_) (λys H' c=>?_)
 ·lia;rw[Es];by_cases ht:m.testBit i=true
  ·rw[wb ht];lia;refine Cs.put α c.same c.at' c.len @A ?_;rw[c.pv,M.pl_next,wb ht,ef,VW];rfl
  ·rw[qb ht];lia;refine Cs.skip c.same c.at' c.len ?_;rw[c.pv,M.pl_next,qb ht,UZ]
 ·have e:=c.pv;rw[ov] at e;refine q D H' α c.same ?_;rw[c.at',e,M.pl_up (CY m) hb]
theorem lH (T:Tx K mg a):FnOk P w K mg base CX0 1 a.j9 a.Bf ["places"] G7:=by
 refine T.iP.1.okA oK λY A outer s H vs Q E Z h=>?_;obtain⟨r,ps,rfl,L,hl,q⟩:=h
 refine⟨_,((af (aD (i:=1) oK.nd rfl @D ah)
  (af (dE xo rfl (aG (K:=K) rfl (pv 0)) (aq (i:=2) oK.nd rfl @D) (ai (aD (i:=1) oK.nd rfl @D (az lE (pv 1) (az g8 ah (pv 2))))))
  (ai (aL (pv 1)))))),aw (σ':=[a' _,f',f']) rfl ?_⟩
 lia;refine iF (xs:=ps.map nat) (λi σ H'=>∃v,σ=[a' (.ref r),a' (nat (M.xm (ps.take i))),v]/\H'=H) ⟨f',rfl,rfl⟩ (λi σ H' _ ⟨_,_,e⟩=>by rw[e];exact SqL.of L) ?_ ?_
 ·rintro i y σ H' G ⟨v,rfl,rfl⟩;obtain⟨k,hk,rfl⟩:=ay G;have:=hl k (ee hk);lia;refine⟨a' (nat k),?_,rfl⟩;rw[shl1,dB,NH hk]
 ·rintro σ H' ⟨v,rfl,rfl⟩;rw[bx,i'];lia;exact q
end
theorem lI (T:Tx K mg a):FnOk P w K mg base CX0 1 a.kc a.Bi ["thing"] (G5 K):=by
 refine T.iQ.1.okA EW fun α A outer s H vs Q E β h=>?_;obtain⟨x,k,rfl,hk,hz,q⟩:=h;have γ:=q H (Same.refl H)
 refine⟨_,((af (dU (PW.pt (qg (jb (gL (aK (lV (K:=K) rfl) @F T.gN Ux (!j 0 (aa (sv (v:= .ty "str") @F T.IE Vv rfl) ae))))) (qg (aU nu (pv 0) bI (bh _)) (nQ (aU sx (aK (aP (K:=K) rfl) @F T.eQ ot (!j 0 ae)) (jS (v:= .int 6) @F T.x9 ⟨_,rfl⟩) (bh _)))))) (ai (aL za)) bo)
  (ai (aL (vm (kX AD (!A M4 (pv 0) ah) (jS (v:= .str "abcdefghijklmnopqrstuvwxyz") @F T.Js ⟨_,rfl⟩) @F) (yj (aK (wV (K:=K) rfl rfl) @F T.OP X2 (aa (bD (osc:=ag qN) (ON:=["thing"]) (N:=["sign"]) (n:=1) (fx:=[]) rfl rfl rfl @H (Q2 (pv 0)) (aA @C) (!C (aq (i:=0) (show hH (["sign"]:B') from by decide +kernel) rfl @D) (kX AD (pv 0) (jS (v:= .str "abcdefghijklmnopqrstuvwxyz0123456789") @F T.A1 ⟨_,rfl⟩) @F))) ae)))))))),aw (σ':=[a' _]) rfl ?_⟩
 lia;cases x with
 | int i=>have hk:k="int":=hk;subst hk;lia;exact γ
 | bl b=>have hk:k="bool":=hk;subst hk;lia;exact γ
 | non=>have hk:k="NoneType":=hk;subst hk;lia;exact γ
 | ref p=>rcases hk with ⟨rfl,_⟩ | ⟨rfl,_⟩ | ⟨rfl,_⟩<;>lia<;>exact γ
 | str z=>
   have hk:k="str":=hk;subst hk;have hz:=hz z rfl;have hs:z.length<=sizeLine:=Vh (aM hz);have q:∀H',Same H H'->Q (.bl (nm z.cps.toList)) H':=q;have γ:=q H (Same.refl H);lia;by_cases h1:z=""
   ·rw[BM.mp h1] at γ;refine p9 (by rw[gB];rw[h1]) ?_;lia;exact γ
   ·refine jh (by rw[gn];exactλz=>h1 (V.str.inj z)) ?_;lia
    obtain⟨c,r,G⟩:∃c r,z.cps.toList=c::r:=by
     cases hl:z.cps.toList with
     | nil=>exact hD (BM.mpr hl) h1
     | cons c r=>exact⟨c,r,rfl⟩
    have L:=oY z;rw[G] at γ L;have q:∀H',Same H H'->Q (.bl (decide ((c::r).length<=6)&&low c&&(c::r).all λc=>low c||fig c)) H':=λH' s=>by have:=q H' s;rw[G] at this;exact this
    by_cases h2:(6:Int) < z.length
    ·refine p9 (gB h2) ?_;lia;have:=q H (Same.refl H);rw[gn (show ¬(c::r).length<=6 by omega)] at this;exact this
    ·refine jh (gn h2) ?_;rw[gB (show(c::r).length<=6 by omega)] at q;lia;refine Qt hs (c:=c) (by rw[G];exact di (j:=0) rfl) ?_;lia;rw[Zj,memL];cases Y:low c
     ·rw[Y] at q;lia;exact q H (Same.refl H)
     ·rw[Y] at q;lia;intro D f;refine Mf (Cs (λi ys=>ys=(((c::r).take i).map λc=>low c||fig c).map V.bl) H D) (Cs.zero f rfl) (λi d ys H' hd ⟨e,s,at',len⟩=>?_) (λys H' ⟨e,s,at',len⟩=>?_)
      ·have hi:i < z.cps.size:=(Vb.mp hd).1;have Z:(c::r)[i]? =a' d:=by rw[<-G];simpa using hd
       lia;rw[Zj,memN];refine Cs.put f s at' len (by have:z.cps.size=z.length:=rfl;omega) ?_;rw[e,Xv,Z,ef,ef];rfl
      ·have hsz:z.cps.size=(c::r).length:=L.symm;rw[hsz,i'] at e;refine DH (SqL.of (by rw[at',e])) ?_;have:=q H' s;rw[ad5];exact this
 | _=>exact Uk hk
theorem i7 (T:Tx K mg a):FnOk P w K mg base CX0 1 a.cB a.dA ["self","name"] (K9 K):=by
 refine T.cW.1.okA tW λY A outer s H vs Q E Z h=>?_;obtain⟨x,C,dx,nm,rfl,L,hn,G,q⟩:=h;refine⟨_,((ai (cR (K:=K) rfl (pv 0) (pv 1) rfl))),aw (σ':=[a' _,a' _]) rfl ?_⟩;lia;exact cQ G L hn @C rfl q
theorem qX (T:Tx K mg a):FnOk P w K mg base CX0 2 a.bF a.lU ["self","name","number"] (K8 a.bc):=by
 refine T.fP.1.okA qL λZ A outer s H vs Q E Y h=>?_;obtain⟨x,dx,nm,k,rfl,L,q⟩:=h
 refine⟨_,((af (bT (vk @F T.Jp T.dA (i7 T) (Y.mono @C) T.cW.2 .nil b0 (!j 0 (!j 1 ae))))
  (ai (cR (K:=K) rfl (pv 0) (pv 2) rfl)))),aw (σ':=[a' _,a' _,a' _]) rfl ?_⟩
 lia;refine⟨x,_,dx,nm,rfl,T.mS,T.rh,L,λH2 u=>?_⟩;lia;exact cQ u.at' T.mS T.jY (by show 1 < 1000;decide) rfl fun α G=>q α (u.trans G)
theorem nT (T:Tx K mg a):FnOk P w K mg base CX0 2 a.be a.je ["self","name","wire","number"] (K7 a.aB):=by
 refine T.dn.1.okA nK fun α A outer s H vs Q E Z h=>?_;obtain⟨x,dx,nm,wr,k,rfl,Y,q⟩:=h
 refine⟨_,((af (bT (vk @F T.Jp T.dA (i7 T) (Z.mono @C) T.cW.2 .nil b0 (!j 0 (!j 1 ae))))
  (af (cR (K:=K) rfl (pv 0) (pv 2) rfl)
  (ai (cR (K:=K) rfl (pv 0) (pv 3) rfl))))),aw (σ':=[a' _,a' _,a' _,a' _]) rfl ?_⟩
 lia;refine⟨x,_,dx,nm,rfl,T.fH,T.mX,Y,λH2 u=>?_⟩;lia;refine cQ u.at' T.fH T.uh (by show 1 < 1000;decide) rfl fun γ G=>?_;lia;exact cQ G.at' T.fH T.gW (by show 2 < 1000;decide) rfl fun β L=>q β ((u.trans G).trans L)
theorem ql (T:Tx K mg a):FnOk P w K mg base CX0 2 a.bu a.kG ["self","name","wires"] (Hd K a.aT):=by
 refine T.eM.1.okA p5 fun β A outer s H vs Q E α h=>?_;obtain⟨x,dx,nm,δ,ws,rfl,hw,L,q⟩:=h;have G:δ≠x:=cC hw L λz=>by cases z
 refine⟨_,((af (bT (vk @F T.Jp T.dA (i7 T) (α.mono @C) T.cW.2 .nil b0 (!j 0 (!j 1 ae))))
  (ai (cR (K:=K) rfl (pv 0) (aX (dQ (K:=K) rfl) @F T.k4 TY (!j 2 ae)) rfl)))),aw (σ':=[a' _,a' _,a' _]) rfl ?_⟩
 lia;refine⟨x,_,dx,nm,rfl,T.km,T.pJ,L,λH2 u=>?_⟩;have Z:=u.oth _ _ G hw;lia;exact cQ u.at' T.km T.jX (by show 1 < 1000;decide) rfl fun γ Y=>q γ (u.trans Y)
theorem zi (T:Tx K mg a):FnOk P w K mg base CX0 1 a.c9 a.tR ["self","known","row","state"] (Oc a.bc):=by
 refine T.iS.1.okA yV λL A outer s H vs Q E Z h=>?_;obtain⟨p,dx,nm,k,Y,row,st,rfl,G,δ,q⟩:=h;refine⟨_,((ai (aL (az lF (az qV (pv 2) (aJ (K:=K) rfl (pv 0) rfl)) ah)))),aw (σ':=[a' _,a' _,a' _,a' _]) rfl ?_⟩;lia;refine aI G T.mS T.jY rfl ?_;lia;exact q
theorem ub (T:Tx K mg a):FnOk P w K mg base CX0 1 a.b4 a.oz ["self","known","row","state"] (Oa a.aB):=by
 refine T.fE.1.okA tX λL A outer s H vs Q E Z h=>?_;obtain⟨p,dx,nm,wr,k,Y,row,st,rfl,G,δ,q⟩:=h;refine⟨_,((ai (aL (az lF (az qV (pv 3) (aJ (K:=K) rfl (pv 0) rfl)) ah)))),aw (σ':=[a' _,a' _,a' _,a' _]) rfl ?_⟩;lia;refine aI G T.fH T.gW rfl ?_;lia;exact q
theorem xw (T:Tx K mg a):FnOk P w K mg base CX0 1 a.cI a.rH ["self","known","row","state"] (Ob K a.aT):=by
 refine T.g5.1.okA iE λZ A outer s H vs Q E L h=>?_;obtain⟨p,dx,nm,δ,d,ws,kvs,f,row,st,rfl,Y,ht,hd,hf,q⟩:=h;have τ:=rz L
 refine⟨_,((af (aD (i:=4) iE.nd rfl @D ah)
  (af (dE xo rfl (jQ (K:=K) rfl (aJ (K:=K) rfl (pv 0) rfl)) (aq (i:=5) iE.nd rfl @D) (ai (aD (i:=4) iE.nd rfl @D (az lE (pv 4) (nR τ (pv 1) (pv 5) (λ_ _=>rfl))))))
  (ai (aL (pv 4)))))),aw (σ':=[a' _,a' _,a' _,a' _,f',f']) rfl ?_⟩
 lia;refine aI Y T.km T.jX rfl ?_;lia;refine tz (λi σ H2=>∃v,σ=[a' (.ref p),a' (.ref d),a' (.int row),a' (.int st),a' (.int (((ws.take i).map f).foldl U5 0)),v]/\H2=H) ⟨f',rfl,rfl⟩ (λi σ H2 _ ⟨v,_,e⟩=>by rw[e];exact ht) ?_ ?_
 ·rintro i x σ H2 G ⟨v,rfl,rfl⟩;obtain⟨z,hz,rfl⟩:=ay G;lia;refine sk hd (hf z (ee hz)) ?_;lia;exact⟨_,by rw[wC hz],rfl⟩
 ·rintro σ H2 ⟨v,rfl,rfl⟩;lia;rw[bx,i'];exact q
theorem xy (T:Tx K mg a):FnOk P w K mg base CX0 1 a.cK a.rK ["self","known"] (Lf a.bc):=by
 refine T.g7.1.okA xp λL A outer s H vs Q E Z h=>?_;obtain⟨p,dx,nm,k,Y,rfl,G,δ,h1,q⟩:=h;refine⟨_,((ai (aL (dF (aa ah (aa (az g8 ah (aJ (K:=K) rfl (pv 0) rfl)) ae)))))),aw (σ':=[a' _,a' _]) rfl ?_⟩;lia;refine aI G T.mS T.jY rfl ?_;lia;exactλt H2 _ s e=>q t H2 s e
theorem sD (T:Tx K mg a):FnOk P w K mg base CX0 1 a.bM a.mZ ["self","known"] (Ld a.aB):=by
 refine T.dZ.1.okA se λL A outer s H vs Q E Z h=>?_;obtain⟨p,dx,nm,wr,k,Y,rfl,G,δ,h1,q⟩:=h;refine⟨_,((ai (aL (dF (aa (az g8 ah (aJ (K:=K) rfl (pv 0) rfl)) (aa ah ae)))))),aw (σ':=[a' _,a' _]) rfl ?_⟩;lia;refine aI G T.fH T.gW rfl ?_;lia;exactλt H2 _ s e=>q t H2 s e
theorem vx (T:Tx K mg a):FnOk P w K mg base CX0 1 a.cf a.pN ["self","known"] (Le K a.aT):=by
 refine T.fZ.1.okA cO fun β A outer s H vs Q E Y h=>?_;obtain⟨p,dx,nm,δ,d,ws,kvs,f,g,rfl,Z,ht,hd,hf,q⟩:=h;have L:=rz Y
 refine⟨_,((af (aD (i:=2) cO.nd rfl @D ah)
  (af (aD (i:=3) cO.nd rfl @D ah)
  (af (dE xo rfl (jQ (K:=K) rfl (aJ (K:=K) rfl (pv 0) rfl)) (aq (i:=4) cO.nd rfl @D) (af (aD (i:=5) cO.nd rfl @D (nR L (pv 1) (pv 4) (λ_ _=>rfl)))
  (af (aD (i:=2) cO.nd rfl @D (az lE (pv 2) (!A @I (pv 5) ah)))
  (ai (aD (i:=3) cO.nd rfl @D (az lE (pv 3) (!A @I (pv 5) ah)))))))
  (ai (aL (dF (!j 2 (!j 3 ae))))))))),aw (σ':=[a' _,a' _,f',f',f',f']) rfl ?_⟩
 lia;refine aI Z T.km T.jX rfl ?_;lia;refine tz (λi σ H2=>∃v τ,σ=[a' (.ref p),a' (.ref d),a' (.int (((ws.take i).map f).foldl U5 0)),a' (.int (((ws.take i).map g).foldl U5 0)),v,τ]/\H2=H) ⟨f',f',rfl,rfl⟩ (λi σ H2 _ ⟨v,τ,_,e⟩=>by rw[e];exact ht) ?_ ?_
 ·rintro i x σ H2 G ⟨v,τ,rfl,rfl⟩;obtain⟨z,hz,rfl⟩:=ay G;obtain⟨t,φ,α⟩:=hf z (ee hz);lia;refine sk hd φ ?_;lia;exact⟨_,_,by rw[wC hz,wC hz],rfl⟩
 ·rintro σ H2 ⟨v,τ,rfl,rfl⟩;lia;rw[bx,i'];exactλt γ _ s e=>q t γ s e
section
local macro_rules | `(tactic| walk_at "l2step") =>`(tactic| first | ((with_reducible refine' fT ?e ?_);(case e=>walk_at "l2kind")) | ((with_reducible refine' jf ?e ?_);(case e=>walk_at "l2kind")) | (with_reducible refine dm ?_) | (with_reducible refine gi ?_))
theorem xu (T:Tx K mg a):FnOk P w K mg base CX0 1 a.dN a.rF ["ins","sums","stores","outs"] Hf:=by
 refine T.jt.1.okA xk fun β A outer s H vs Q E γ h=>?_;obtain⟨i,s,t,o,rs,qs,N,rfl,hn,g,q⟩:=h;have hi:=hn.i;have hs:=hn.s;have ht:=hn.t;have ho:=hn.o;have li:=g.li;have ls:=g.ls;have lt:=g.lt;have lo:=g.lo;have Y:rs.length=N.sums.length:=by rw[<-hn.es,bx]
 have Z:qs.length=N.sts.length:=by rw[<-hn.et,bx]
 refine⟨_,((af (dU (aU sx (aK (aP (K:=K) rfl) @F T.eQ ot (!j 0 ae)) (jS (v:= .int 6) @F T.FW ⟨_,rfl⟩) (bh _)) (ai i5) bo)
  (af (dU (aU sx (aK (aP (K:=K) rfl) @F T.eQ ot (!j 1 ae)) (jS (v:= .int 40) @F T.CL ⟨_,rfl⟩) (bh _)) (ai i5) bo)
  (af (dU (aU sx (aK (aP (K:=K) rfl) @F T.eQ ot (!j 2 ae)) (jS (v:= .int 16) @F T.rB ⟨_,rfl⟩) (bh _)) (ai i5) bo)
  (af (dU (aU sx (aK (aP (K:=K) rfl) @F T.eQ ot (!j 3 ae)) (jS (v:= .int 6) @F T.uD ⟨_,rfl⟩) (bh _)) (ai i5) bo)
  (ai (dU (gL (aK (Br (K:=K) rfl rfl) @F T.Rr Yq (aa (bD (osc:=ag jk) (ON:=["ins","sums","stores","outs"]) (N:=n10) (n:=1) (fx:=[]) rfl rfl rfl @H (aG (K:=K) rfl (pv 1)) (aA @C) (!C (aq (i:=0) (show hH (n10:B') from by decide +kernel) rfl @D) (kX sx (aK (aP (K:=K) rfl) @F T.eQ ot (aa (!A @I (pv 0) ah) ae)) (jS (v:= .int 24) @F T.A3 ⟨_,rfl⟩) (bh _)))) ae))) (ai i5) bo))))))),aw (σ':=[a' _,a' _,a' _,a' _]) rfl ?_⟩
 lia;rw[bx];refine jh (gn @A) ?_;lia;rw[bx];refine jh (gn @A) ?_;lia;rw[bx];refine jh (gn @A) ?_;lia;rw[bx];refine jh (gn @A) ?_;lia;intro D α;refine aH (xs:=rs.map λr=>V.ref r.1) (λi ys H'=>Cs (λi ys=>ys=(lj i false).map V.bl) H D i ys H') (Cs.zero α rfl) (λi ys H' _ c=>SqL.of (c.same.get hs)) (λi x ys H' L c=>?_) (λys H' c=>?_)
 ·obtain⟨r,G,rfl⟩:=ay L;have hi:=(b'.mp G).1;have hm:=ee G;have δ:=c.same.get (hn.sr r hm).1;have ρ:=c.same.get (hn.sr r hm).2;have hw:=g.lw r.2.2 (by rw[<-hn.es];exact hF.mpr ⟨r,hm,rfl⟩);lia;rw[bx,gn (show ¬(24:Int) < (r.2.2.2.length:Int) by omega)];refine Cs.put α c.same c.at' c.len @A ?_;rw[c.pv,VE,ef];rfl
 ·have χ:=c.at';rw[c.pv] at χ;lia;refine MM (SqL.of χ) ?_;lia;refine jh @E ?_;lia;exact q H' c.same
theorem xv (T:Tx K mg a):FnOk P w K mg base CX0 2 a.dO a.rG ["names"] Hg:=by
 refine T.ju.1.okA kN fun θ A outer s H vs Q E δ h=>?_;obtain⟨l,zs,rfl,hl,ln,nd,hn,q⟩:=h;have τ:=rz δ
 refine⟨_,((af (aD (i:=1) kN.nd rfl @D qS)
  (ai (dE xo rfl (aG (K:=K) rfl (pv 0)) (aq (i:=2) kN.nd rfl @D) (af (dU (jb (gL (aj (lI T) δ T.oh T.iQ (!j 2 ae)))) (ai i5) bo)
  (af (dU (HQ (HZ τ (pv 2) (pv 1))) (ai i5) bo)
  (ai (y8 τ (pv 1) (pv 2) za rfl)))))))),aw (σ':=[a' _,f',f']) rfl ?_⟩
 lia;intro D H1 G γ η;have hl1:=γ.get hl;lia;refine iF (xs:=zs.map V.str) (λi σ H'=>∃v,σ=[a' (.ref l),a' (.ref D),v]/\Same H H'/\∃kvs:eE (Key×V),H' D=a' (.dK kvs)/\kvs.map (·.1)=(zs.take i).map Tz) ⟨f',rfl,γ,[],η,rfl⟩ (λi σ H' _ ⟨_,_,s',_⟩=>SqL.of (s'.get hl)) ?_ ?_
 ·rintro i y σ H' ε ⟨v,rfl,s',kvs,ζ,α⟩;obtain⟨z,hz,rfl⟩:=ay ε;have hi:=(b'.mp hz).1
  have L:z∉zs.take i:=λm=>by
   have h2:=nd;rw[<-VY i zs,Ua] at h2;exact h2.2.2 z m z (ee (i:=0) (by rw[Wt,Nat.add_zero];exact hz)) rfl
  have lk:kvs.length<=1000:=by have:=T4 TX α;rw[bx,bx,wh] at this;omega
  lia;refine c_nm (hn z (ee hz)) λH2 β=>?_;have Y:=β.get ζ;lia;refine ML Y ?_;rw[uG α z,gn L];lia;refine qc Y (aM lk) fun ι Z=>?_;rw[B8 α L] at Z;lia;refine⟨λb o e=>Z.oth _ _ (ao e G) (β.get (s'.get e)),_,Z.at',?_⟩;rw[ef,α,take_succ hz,ef];rfl
 ·rintro σ H' ⟨v,rfl,s',_⟩;lia;exact q H' s'
theorem jl (T:Tx K mg a):FnOk P w K mg base CX0 2 a.fo a.tO ["wire","known"] Lg:=by
 refine T.fB.1.okA yU fun β A outer s H vs Q E Y h=>?_;obtain⟨z,d,zs,rfl,⟨kvs,Z,α⟩,hz,hn,q⟩:=h;have τ:=rz Y;refine⟨_,((ai (dU (PW.pt (qg (jb (gL (aj (lI T) Y T.oh T.iQ (!j 0 ae)))) (nQ (HQ (HY τ (pv 0) (pv 1)))))) (ai i5) bo))),aw (σ':=[a' _,a' _]) rfl ?_⟩;lia;refine c_nm hn λH2 L=>?_;have G:=L.get Z;lia;refine Ow G ?_;rw[uG α z,gB hz];lia;exact q H2 L
theorem xr (T:Tx K mg a):FnOk P w K mg base CX0 3 a.dJ a.rD ["sums","stores","outs","known"] He:=by
 refine T.jq.1.okA fV fun π A outer s H vs Q E ν h=>?_;obtain⟨i,s,t,o,d,rs,qs,N,rfl,kp,g,θ,q⟩:=h;have hs:=kp.s;have ht:=kp.t;have ho:=kp.o
 refine⟨_,((af (dE xo rfl (jQ (K:=K) rfl (pv 0)) (aq (i:=4) fV.nd rfl @D) (ai (dE xo rfl (jQ (K:=K) rfl (!A @I (pv 4) ah)) (aq (i:=5) fV.nd rfl @D) (ai (bT (aj (jl T) ν T.kF T.fB (!j 5 (!j 3 ae))))))))
  (af (dE xo rfl (jQ (K:=K) rfl (pv 1)) (aq (i:=4) fV.nd rfl @D) (ai (bT (aj (jl T) ν T.kF T.fB (aa (!A @I (pv 4) ah) (!j 3 ae))))))
  (ai (dE xo rfl (jQ (K:=K) rfl (pv 2)) (aq (i:=5) fV.nd rfl @D) (ai (bT (aj (jl T) ν T.kF T.fB (!j 5 (!j 3 ae)))))))))),aw (σ':=[a' _,a' _,a' _,a' _,f',f']) rfl ?_⟩
 lia;refine tz (xs:=rs.map λr=>V.ref r.1) (λi σ H'=>∃α Z,σ=[a' (.ref s),a' (.ref t),a' (.ref o),a' (.ref d),α,Z]/\Same H H') ⟨f',f',rfl,Same.refl _⟩ (λi σ H' _ ⟨_,_,_,s'⟩=>SqT.of (s'.get hs)) ?_ ?_
 ·rintro i y σ H' γ ⟨α,Z,rfl,s'⟩;obtain⟨r,δ,rfl⟩:=ay γ;have hm:=ee δ;have ο:=s'.get (kp.sr r hm).1;have ρ:=s'.get (kp.sr r hm).2;have ε:r.2.2∈N.sums:=by rw[<-kp.es];exact hF.mpr ⟨r,hm,rfl⟩
  lia;refine tz (xs:=r.2.2.2.map V.str) (λj σ H2=>∃v,σ=[a' (.ref s),a' (.ref t),a' (.ref o),a' (.ref d),a' (.ref r.1),v]/\Same H' H2) ⟨_,rfl,Same.refl _⟩ (λj σ H2 _ ⟨_,_,L⟩=>SqT.of (L.get ρ)) ?_ ?_
  ·rintro j y σ H2 γ ⟨v,rfl,L⟩;obtain⟨z,hz,rfl⟩:=ay γ;have G:=g.ws r.2.2 ε z (ee hz);lia;refine⟨z,d,N.names,rfl,(θ.same s').same L,G,g.nm z G,fun η Y=>?_⟩;lia;exact L.trans Y
  ·rintro σ H2 ⟨v,rfl,L⟩;lia;exact⟨_,_,rfl,s'.trans L⟩
 ·rintro σ H' ⟨α,Z,rfl,s'⟩;have ι:=s'.get ht;lia;refine tz (xs:=qs.map λr=>V.ref r.1) (λi σ H2=>∃α,σ=[a' (.ref s),a' (.ref t),a' (.ref o),a' (.ref d),α,Z]/\Same H' H2) ⟨_,rfl,Same.refl _⟩ (λi σ H2 _ ⟨_,_,L⟩=>SqT.of (L.get ι)) ?_ ?_
  ·rintro i y σ H2 γ ⟨α,rfl,L⟩;obtain⟨r,δ,rfl⟩:=ay γ;have hm:=ee δ;have ο:=L.get (s'.get (kp.tr r hm));have ε:r.2∈N.sts:=by rw[<-kp.et];exact hF.mpr ⟨r,hm,rfl⟩
   have G:=g.ts r.2 ε;lia;refine⟨r.2.2,d,N.names,rfl,(θ.same s').same L,G,g.nm _ G,fun η Y=>?_⟩;lia;exact L.trans Y
  ·rintro σ H2 ⟨α,rfl,L⟩;have β:=s'.trans L;have ζ:=β.get ho;lia;refine tz (xs:=N.outs.map V.str) (λi σ η=>∃Z,σ=[a' (.ref s),a' (.ref t),a' (.ref o),a' (.ref d),α,Z]/\Same H2 η) ⟨_,rfl,Same.refl _⟩ (λi σ η _ ⟨_,_,Y⟩=>SqT.of (Y.get ζ)) ?_ ?_
   ·rintro i y σ η γ ⟨Z,rfl,Y⟩;obtain⟨z,hz,rfl⟩:=ay γ;have G:=g.os z (ee hz);lia;refine⟨z,d,N.names,rfl,(θ.same β).same Y,G,g.nm z G,fun τ ξ=>?_⟩;lia;exact Y.trans ξ
   ·rintro σ η ⟨Z,rfl,Y⟩;lia;exact q _ (β.trans Y)
theorem DT (T:Tx K mg a):FnOk P w K mg base CX0 1 a.qy a.JM ["row","waiting"] KP:=by
 refine T.w8.1.okA Lh fun γ A outer s H vs Q E L h=>?_;obtain⟨r,d,zs,rfl,δ,ρ,lw,⟨kvs,Z,Y⟩,q⟩:=h;have τ:=rz L;refine⟨_,((ai (aL (aK (Br (K:=K) rfl rfl) @F T.Rr Yq (aa (bD (osc:=ag yW) (ON:=n13) (N:=["wire","waiting"]) (n:=1) (fx:=[1]) rfl rfl rfl @H (jQ (K:=K) rfl (!A @I (pv 0) ah)) (aA @C) (!C (aq (i:=0) (show hH (["wire","waiting"]:B') from by decide +kernel) rfl @D) (Q6 (HZ τ (pv 0) (pv 1))))) ae))))),aw (σ':=[a' _,a' _]) rfl ?_⟩;lia;intro D α;refine rN (xs:=r.2.2.2.map V.str) (λi ys H'=>Cs (λi ys=>ys=((r.2.2.2.take i).map λw=>decide (w∈zs)).map V.bl) H D i ys H') (Cs.zero α rfl) (λi ys H' _ c=>SqT.of (c.same.get ρ)) (λi x ys H' G c=>?_) (λys H' c=>?_)
 ·obtain⟨z,hz,rfl⟩:=ay G;have hi:=(b'.mp hz).1;lia;refine ML (c.same.get Z) ?_;rw[uG Y z];refine Cs.put α c.same c.at' c.len @A ?_;rw[c.pv,take_succ hz,ef,ef];rfl
 ·have χ:=c.at';rw[c.pv,bx,i'] at χ;lia;refine MM (SqL.of χ) ?_;have β:(r.2.2.2.map λw=>decide (w∈zs)).any id=hU zs r.2.2.2:=by rw[List.any_map];rfl
  lia;rw[β];exact q H' c.same
theorem tZ (T:Tx K mg a):FnOk P w K mg base CX0 4 a.cT a.ou ["ins","sums","stores"] (EI a.bc a.aT a.aB):=by
 refine T.gY.1.okA mU λf8 A outer s H vs Q E hr h=>?_;obtain⟨i,s,t,o,rs,qs,N,rfl,kp,g,q⟩:=h;have hi:=kp.i;have hs:=kp.s;have ht:=kp.t;have li:=g.li;have ls:=g.ls;have lt:=g.lt;have f4:rs.length=N.sums.length:=by rw[<-kp.es,bx]
 have f5:qs.length=N.sts.length:=by rw[<-kp.et,bx]
 refine⟨_,((af (bJ (osc:=ag cP) (ON:=n16) (N:=["number","name"]) (n:=2) (fx:=[]) (i:=3) mU.nd rfl rfl rfl rfl rfl rfl @H (oS (K:=K) rfl @F T.dI (pv 0)) (wu (eK (aA @C) (eK (aA @C) qv))) (!C (qh (K:=K) (n:=2) rfl rfl (bL (aq (i:=0) (show hH (["number","name"]:B') from by decide +kernel) rfl @D) (bL (aq (i:=1) (show hH (["number","name"]:B') from by decide +kernel) rfl @D) i6))) (jR T.Mo (qX T) (hr.mono @C) @F T.LZ T.fP.2 .nil b0 (!j 1 (!j 0 ae)))))
  (af (bT (gM (K:=K) rfl T6 Uh Ug iK (pv 3) (aa (bD (osc:=ag cP) (ON:=n16) (N:=n10) (n:=1) (fx:=[]) rfl rfl rfl @H (jQ (K:=K) rfl (pv 1)) (aA @C) (!C (aq (i:=0) (show hH (n10:B') from by decide +kernel) rfl @D) (jR T.Kg (ql T) (hr.mono @C) @F T.Jq T.eM.2 .nil b0 (aa (!A @I (pv 0) ah) (aa (!A @I (pv 0) ah) ae))))) ae)))
  (af (bT (gM (K:=K) rfl T6 Uh Ug iK (pv 3) (aa (bD (osc:=ag cP) (ON:=n16) (N:=["number","row"]) (n:=2) (fx:=[]) rfl rfl rfl @H (oS (K:=K) rfl @F T.dI (pv 2)) (wu (eK (aA @C) (eK (aA @C) qv))) (!C (qh (K:=K) (n:=2) rfl rfl (bL (aq (i:=0) (show hH (["number","row"]:B') from by decide +kernel) rfl @D) (bL (aq (i:=1) (show hH (["number","row"]:B') from by decide +kernel) rfl @D) i6))) (jR T.C9 (nT T) (hr.mono @C) @F T.CK T.dn.2 .nil b0 (aa (!A @I (pv 1) ah) (aa (!A @I (pv 1) ah) (!j 0 ae)))))) ae)))
  (ai (aL (aX (yJ rfl) @F T.MZ Yk (aa (bD (osc:=ag cP) (ON:=n16) (N:=["wire"]) (n:=1) (fx:=[]) rfl rfl rfl @H (aG (K:=K) rfl (pv 3)) (aA @C) (!C (aq (i:=0) (show hH (["wire"]:B') from by decide +kernel) rfl @D) (dF (aa (aJ (K:=K) rfl (pv 0) rfl) (!j 0 ae))))) ae)))))))),aw (σ':=[a' _,a' _,a' _,f']) rfl ?_⟩
 lia;refine .inr ⟨⟨_,SqT.of hi⟩,?_⟩;intro D α;refine tD (xs:=N.ins.map V.str) (λi ys H'=>∃ws,WL H H' a.bc a.aT a.aB N D ys (N.ins.take i) ws) ⟨[],rfl,rfl,λ_ h=>hD h @E,aW α,au⟩ (λi ys H' _ ⟨ws,c⟩=>SqT.of (c.same.get hi)) (λi x ys H' pz H2 hx ⟨ws,c⟩ fp s2 e2=>?_) (λys H' ⟨ws,c⟩=>?_)
 ·obtain⟨z,hz,rfl⟩:=ay hx;have ψ:=(b'.mp hz).1;have lw:ws.length=i:=by have:=T4 TX c.nm;rw[bx,wh] at this;omega
  lia;intro x dx H3 f3 s3 e3;refine⟨x,dx,.str z,nat i,rfl,e3,λH4 u4=>⟨rfl,?_⟩⟩;have θ:Same H2 H4:=λb o e=>u4.oth _ _ (ao e f3) (s3.get e);exact c.put α (s2.trans θ) (.i i dx hz u4.at') (by rw[wh];omega) (take_succ hz)
 ·rw[bx,i'] at c;have a7:=c.same.get hs;have φ:=c.same.get ht;have c0:=c.d;lia;intro D2 a3;refine rN (xs:=rs.map λr=>V.ref r.1) (λi ys H2=>∃ws,WL H' H2 a.bc a.aT a.aB N D2 ys ((rs.take i).map (·.2.2.1)) ws) ⟨[],rfl,rfl,λ_ h=>hD h @E,aW a3,au⟩ (λi ys H2 _ ⟨ws,L⟩=>SqT.of (L.same.get a7)) (λi x ζ H2 hx ⟨a4,L⟩=>?_) (fun ζ H2 ⟨a4,L⟩=>?_)
  ·obtain⟨r,G,rfl⟩:=ay hx;have ψ:=(b'.mp G).1;have hm:=ee G;have a5:=c.same.trans L.same;have er:=a5.get (kp.sr r hm).1;have ρ:=a5.get (kp.sr r hm).2;lia;intro x dx H3 f3 s3 e3;refine⟨x,dx,.str r.2.2.1,r.2.1,_,rfl,s3.get ρ,e3,λH4 u4=>⟨rfl,?_⟩⟩;have θ:Same H2 H4:=λb o e=>u4.oth _ _ (ao e f3) (s3.get e);exact L.put a3 θ (.s r.2.2.2 dx r.2.1 (by rw[<-kp.es];exact hF.mpr ⟨r,hm,rfl⟩) u4.at' (θ.get ρ)) (by rw[bx,wh];omega) (by rw[take_succ G,ef];rfl)
  ·rw[bx,i'] at L;have χ:=L.same.get c0;have d2:=L.d;have a6:ys.length=N.ins.length:=by rw[c.ey,<-c.nm,bx,bx]
   have ν:ζ.length=rs.length:=by rw[L.ey,bx,<-bx (f:=(·.1)),L.nm,bx]
   lia;refine ji χ d2 (by rw[nr];omega) λH3 u3=>?_;have c3:=c.join L α u3;have b6:=c3.d;have ξ:=c3.same.get ht;have f0:(ys++ζ).length=N.ins.length + rs.length:=by rw[eP,a6,ν]
   clear c L χ d2 a7 φ c0 a6 ν a3;generalize ys++ζ=ys3 at *
   lia;refine .inr ⟨⟨_,SqT.of ξ⟩,?_⟩;intro D4 a0;refine tD (xs:=qs.map λq=>V.ref q.1) (λi ys H'=>∃ws,WL H3 H' a.bc a.aT a.aB N D4 ys ((qs.take i).map (·.2.1)) ws) ⟨[],rfl,rfl,λ_ h=>hD h @E,aW a0,au⟩ (λi ys H' _ ⟨ws,c⟩=>SqT.of (c.same.get ξ)) (λi x ys H4 pz H5 hx ⟨ws,c⟩ fp ι π=>?_) (λe0 H4 ⟨e1,c4⟩=>?_)
   ·obtain⟨r,G,rfl⟩:=ay hx;have ψ:=(b'.mp G).1;have hm:=ee G;have er:=ι.get (c.same.get (c3.same.get (kp.tr r hm)));lia;intro x dx H6 f6 s6 ω;refine⟨x,dx,.str r.2.1,.str r.2.2,nat i,rfl,ω,λH7 Y=>⟨rfl,?_⟩⟩;have η:Same H5 H7:=λb o e=>Y.oth _ _ (ao e f6) (s6.get e);exact c.put a0 (ι.trans η) (.t i r.2.2 dx (by rw[<-kp.et,gA,G];rfl) Y.at') (by rw[bx,wh];omega) (by rw[take_succ G,ef];rfl)
   ·rw[bx,i'] at c4;have τ:=c4.same.get b6;have d1:=c4.d;have e9:e0.length=qs.length:=by rw[c4.ey,bx,<-bx (f:=(·.1)),c4.nm,bx]
    lia;refine ji τ d1 (by rw[nr];omega) λH5 u5=>?_;have Z:=c3.join c4 α u5;have b3:=Z.d;have e8:=Z.ey
    have c1:N.ins++rs.map (·.2.2.1)++qs.map (·.2.1)=N.names:=by
     unfold Nt.names;rw[<-kp.es,<-kp.et,TU,TU];rfl
    rw[c1] at Z;clear c3 c4 τ d1 b6 ξ a0;rw[e8] at b3;generalize ws++a4++e1=wl at *
    have f2:wl.length<=100:=by rw[<-bx (f:=(·.1)),Z.nm,<-c1,eP,eP,bx,bx];omega
    lia;intro D6 a8;refine aH (xs:=wl.map λq=>V.ref q.2) (λi ys H'=>∃ps:eE (eH×Key×V),ys=ps.map (λq=>V.ref q.1)/\ps.map (·.2)=(wl.take i).map (λq=>((Tz q.1:Key),V.ref q.2))/\(∀q∈ps,H' q.1=a' (.tup [kV q.2.1,q.2.2]))/\Same H5 H'/\H' D6=a' (.lst ys)) ⟨[],rfl,rfl,λ_ h=>hD h @E,aW a8,au⟩ (λi ys H' _ ⟨_,_,_,_,s',_⟩=>SqL.of (s'.get b3)) ?_ ?_
    ·rintro i y ys H' hy ⟨ps,rfl,ε,hq,s',eD⟩;obtain⟨γ,ο,rfl⟩:=ay hy;have ψ:=(b'.mp ο).1;have f1:ps.length=i:=by have:=T4 TX ε;rw[bx,bx,wh] at this;omega
     have β:=(Z.ob γ (ee ο)).same s'
     have fld:∀{Q:VK},Q (.str γ.1) H'->Pr K (Vy "name") Q (V.ref γ.2) H':=λh=>by
      cases β with
      | i k dx hk e=>exact aI e T.mS T.rh rfl h
      | s ws dx δ hk e et=>exact aI e T.km T.pJ rfl h
      | t k y dx hk e=>exact aI e T.fH T.mX rfl h
     lia;refine fld ?_;lia;intro tt H6 f6 s6 ω;have e4:tt≠D6:=λz=>by rw[z,eD] at f6;cases f6
     refine⟨s6.get eD,by rw[bx];exact aM @A,ps++[(tt,Tz γ.1,.ref γ.2)],by rw[ef];rfl,by rw[ef,ε,take_succ ο,ef];rfl,λq' υ=>?_,λb o e=>?_,au⟩
     ·rcases gz.mp υ with h | h
      ·have e:=hq q' h;rw[aF (cC e eD λz=>by cases z)];exact s6.get e
      ·rw[gs] at h;subst h;rw[aF e4];exact ω
     ·rw[aF (ao e a8)];exact s6.get (s'.get e)
    ·rintro ys H6 ⟨ps,rfl,ε,hq,s',eD⟩;rw[bx,i'] at ε
     have ek:ps.map (λq=>q.2.1)=N.names.map Sum.inr:=by
      have:=T4 (WK (·.1)) ε;rw[TU,TU] at this;rw[<-Z.nm,TU];exact this
     lia;refine Hr eD hq (by rw[ek];exact Xn _ (λx y h z=>h (WN z)) g.nd) λd H7 f7 s7 e7=>?_;have η:=s'.trans s7;rw[ε] at e7;exact q d H7 wl ((Z.same.trans s').free f7) (Z.same.trans η) ⟨e7,Z.nm,λq' υ=>(Z.ob q' υ).same η⟩
theorem Fj (T:Tx K mg a):FnOk P w K mg base CX0 2 a.j8 a.Be ["sums"] EM:=by
 refine T.rW.1.okA jw λh3 A outer s H vs Q E φ h=>?_;obtain⟨s,rs,N,rfl,hs,ι,b6,g,q⟩:=h;have f9:rs.length=N.sums.length:=by rw[<-b6,bx]
 have ls:=g.ls
 refine⟨_,((af (aD (i:=1) jw.nd rfl @D (c6 ae))
  (af (aD (i:=2) jw.nd rfl @D (aX (cM (K:=K) rfl) @F T.g9 wq (!j 0 ae)))
  (af (y6 xo (aU sx (aK (aP (K:=K) rfl) @F T.eQ ot (!j 2 ae)) ah (bh _)) (af (aD (i:=3) jw.nd rfl @D (aX (yJ rfl) @F T.MZ Yk (!j 2 ae)))
  (af (bJ (osc:=ag nM) (ON:=["sums","names","left","waiting","ready"]) (N:=n13) (n:=1) (fx:=[3]) (i:=4) jw.nd rfl rfl rfl rfl rfl rfl @H (aG (K:=K) rfl (pv 2)) (aA @C) (λ_ _ _ _ _=>⟨(aq (i:=0) (show hH (n13:B') from by decide +kernel) rfl @D),(jP (jb (gL (aj (DT T) φ T.Ji T.w8 (!j 0 (!j 1 ae)))))),(!A @I (pv 0) ah)⟩))
  (af (dU (aU nu (aK (aP (K:=K) rfl) @F T.eQ ot (!j 4 ae)) ah (bh _)) (ai i5) bo)
  (af (bT (gM (K:=K) rfl T6 Uh Ug iK (pv 1) (!j 4 ae)))
  (ai (bJ (osc:=ag nM) (ON:=["sums","names","left","waiting","ready"]) (N:=n13) (n:=1) (fx:=[3]) (i:=2) jw.nd rfl rfl rfl rfl rfl rfl @H (aG (K:=K) rfl (pv 2)) (aA @C) (λ_ _ _ _ _=>⟨(aq (i:=0) (show hH (n13:B') from by decide +kernel) rfl @D),(jP (gL (aj (DT T) φ T.Ji T.w8 (!j 0 (!j 1 ae))))),(pv 0)⟩))))))))
  (ai (aL (pv 1))))))),aw (σ':=[a' _,f',f',f',f']) rfl ?_⟩
 lia;intro ω H1 f1 s1 e1;have g4:=s1.get hs;lia;intro ρ H2 f2 s2 e2;lia;have nd:=g.nds;refine⟨fun μ σ' H'=>∃(od:B') (lf:eE Rw) (ρ:eH) (α δ:T8 V),σ'=[a' (.ref s),a' (.ref ω),a' (.ref ρ),α,δ]/\Same H H'/\H' ω=a' (.lst (od.map V.str))/\H' ρ=a' (.lst (lf.map λr=>V.ref r.1))/\ρ≠ω/\(∀r∈lf,r∈rs)/\Otp N.sums od (lf.map (·.2.2))/\μ=lf.length,⟨rs.length,[],rs,ρ,f',f',rfl,s1.trans s2,s2.get e1,e2,λz=>(by rw[z,e1] at f2;cases f2),λ_ h=>h,by rw[b6];exact Otp.start _,rfl⟩,?_⟩;rintro μ σ' H3 ⟨od,lf,ρ,α,δ,rfl,s3,χ,el,d1,sub,η,rfl⟩;lia;rw[bx];by_cases h0:lf=[]
 ·subst h0;refine jh (gn @E) ?_;lia;exact q ω H3 od f1 s3 χ η.done
 ·have f7:0 < lf.length:=XN.mpr h0;refine p9 (gB @A) ?_;have υ:=η.perm.nodup_iff.mpr nd;rw[Ua] at υ;have d2:(lf.map (·.2.2.1)).Nodup:=by have:=υ.2.1;rw[TU] at this;exact this
  have g0:od.length + lf.length=N.sums.length:=by have:=η.perm.length_eq;rw[eP,bx,bx,bx] at this;exact this
  have τ:=η.ready g (by simpa using h0);have c1:(lf.map (·.2.2)).map (·.1)=lf.map (·.2.2.1):=by rw[TU];rfl
  rw[c1] at τ;have a0:∀r∈lf,∀{H'},Same H H'->H' r.1=a' (.tup [.str r.2.2.1,.ref r.2.1])/\H' r.2.1=a' (.tup (r.2.2.2.map V.str)):=λr φ H' s'=>⟨s'.get (ι r (sub r φ)).1,s'.get (ι r (sub r φ)).2⟩;have θ:∀r∈lf,r.2.2.2.length<=24:=λr φ=>g.lw r.2.2 (by rw[<-b6];exact hF.mpr ⟨r,sub r φ,rfl⟩);refine⟨fun σ' H'=>∃(od:B') (G:eE Rw) (ρ:eH) (α δ:T8 V),σ'=[a' (.ref s),a' (.ref ω),a' (.ref ρ),α,δ]/\Same H H'/\H' ω=a' (.lst (od.map V.str))/\H' ρ=a' (.lst (G.map λr=>V.ref r.1))/\ρ≠ω/\(∀r∈G,r∈rs)/\Otp N.sums od (G.map (·.2.2))/\G.length < lf.length,fun σ' H' ⟨od,G,ρ,α,δ,a1,a2,a3,a4,a5,a6,a7,a8⟩=>⟨G.length,a8,od,G,ρ,α,δ,a1,a2,a3,a4,a5,a6,a7,rfl⟩,?_⟩;lia;refine Hr (ps:=lf.map λr=>(r.1,Tz r.2.2.1,V.ref r.2.1)) (by rw[TU];exact el) (λq' e8=>?_) ?_ λd H4 f4 s4 e4=>?_
  ·obtain⟨r,ο,rfl⟩:=hF.mp e8;exact(a0 r ο s3).1
  ·rw[TU];have:=Xn (Tz:T3->Key) (S:=λa b=>a≠b) (λx y h z=>h (WN z)) d2;rw[TU] at this;exact this
  have kn:Knw H4 d (lf.map (·.2.2.1)):=⟨_,e4,by rw[TU,TU,TU];rfl⟩;have c5:=s4.get el;have ν:=s4.get χ;have c2:=s3.trans s4;lia;intro D5 c3;refine aH (xs:=lf.map λr=>V.ref r.1) (λi ys H'=>ys=(((lf.take i).filter λr=> !hU (lf.map (·.2.2.1)) r.2.2.2).map (·.2.2.1)).map V.str/\Same H4 H'/\H' D5=a' (.lst ys)) ⟨rfl,aW c3,au⟩ (λi ys H' _ ⟨_,s',_⟩=>SqL.of (s'.get c5)) (λi x ys H' hx ⟨ey,s',e'⟩=>?_) (λys H5 ⟨ey,s5,π⟩=>?_)
  ·obtain⟨r,ο,rfl⟩:=ay hx;have hm:=ee ο;have e9:=(b'.mp ο).1;have rr:=a0 r hm (c2.trans s');have Y:=rr.1;have fs:(lf.take (i + 1)).filter (λr=> !hU (lf.map (·.2.2.1)) r.2.2.2)=(lf.take i).filter (λr=> !hU (lf.map (·.2.2.1)) r.2.2.2)++(if (!hU (lf.map (·.2.2.1)) r.2.2.2)=true then [r] else []):=by rw[take_succ ο,V2,Wx];rfl
   lia;refine⟨r,d,lf.map (·.2.2.1),rfl,rr.1,rr.2,θ r hm,kn.same s',λH6 s6=>?_⟩;have f8:=s6.get Y;cases hw:hU (lf.map (·.2.2.1)) r.2.2.2 with
   | true=>
     lia;refine⟨?_,s'.trans s6,s6.get e'⟩;rw[fs,hw,ey];simp
   | false=>
     lia;refine⟨s6.get e',?_,?_,λb o e=>?_,au⟩
     ·rw[ey,bx,bx];have:=Vd (λr:Rw=> !hU (lf.map (·.2.2.1)) r.2.2.2) (lf.take i);rw[wh] at this;exact aM @A
     ·rw[fs,hw,ey];simp
     ·rw[aF (ao e c3)];exact s6.get (s'.get e)
  ·rw[bx,i'] at ey;have fm:((lf.map (·.2.2)).filter λr=> !hU (lf.map (·.2.2.1)) r.2)=(lf.filter λr=> !hU (lf.map (·.2.2.1)) r.2.2.2).map (·.2.2):=by rw[ab4];rfl
   have f0:((lf.map (·.2.2)).filter λr=>hU (lf.map (·.2.2.1)) r.2)=(lf.filter λr=>hU (lf.map (·.2.2.1)) r.2.2.2).map (·.2.2):=by rw[ab4];rfl
   rw[fm,bx] at τ;have e3:ys.length=(lf.filter λr=> !hU (lf.map (·.2.2.1)) r.2.2.2).length:=by rw[ey,bx,bx]
   have g3:=Vd (λr:Rw=> !hU (lf.map (·.2.2.1)) r.2.2.2) lf;have b3:=CN (λr:Rw=>hU (lf.map (·.2.2.1)) r.2.2.2) lf τ;have ζ:=η.step nd;rw[c1,fm,f0,TU] at ζ;have f6:=s5.get c5;have f3:=s5.get ν;lia;refine jh (gn λz=>by have:=V.int.inj z;omega) ?_;lia;refine ji f3 π (by rw[bx,e3,nr];omega) λH6 u6=>?_;have ε:∀b o,b≠ω->H4 b=a' o->H6 b=a' o:=λb o n e=>u6.oth _ _ n (s5.get e);have β:Same H H6:=λb o e=>ε b o (ao e f1) (c2.get e);have f5:=u6.oth _ _ d1 f6;have c0:=u6.at';rw[ey,<-ef] at c0
   have e6:Knw H6 d (lf.map (·.2.2.1)):=by
    obtain⟨kvs,Z,ek⟩:=kn;exact⟨kvs,ε _ _ (cC Z ν λz=>by cases z) Z,ek⟩
   lia;intro γ ψ;refine aH (xs:=lf.map λr=>V.ref r.1) (λi ys H'=>ys=((lf.take i).filter λr=>hU (lf.map (·.2.2.1)) r.2.2.2).map (λr=>V.ref r.1)/\Same H6 H'/\H' γ=a' (.lst ys)) ⟨rfl,aW ψ,au⟩ (λi ys H' _ ⟨_,s',_⟩=>SqL.of (s'.get f5)) (λi x ys H' hx ⟨ey,s',e'⟩=>?_) (λys H7 ⟨c4,L,e7⟩=>?_)
   ·obtain⟨r,ο,rfl⟩:=ay hx;have hm:=ee ο;have e9:=(b'.mp ο).1;have rr:=a0 r hm (β.trans s');have fs:(lf.take (i + 1)).filter (λr=>hU (lf.map (·.2.2.1)) r.2.2.2)=(lf.take i).filter (λr=>hU (lf.map (·.2.2.1)) r.2.2.2)++(if hU (lf.map (·.2.2.1)) r.2.2.2=true then [r] else []):=by rw[take_succ ο,V2,Wx];rfl
    lia;refine⟨r,d,lf.map (·.2.2.1),rfl,rr.1,rr.2,θ r hm,e6.same s',λH8 s8=>?_⟩;cases hw:hU (lf.map (·.2.2.1)) r.2.2.2 with
    | false=>
      lia;refine⟨?_,s'.trans s8,s8.get e'⟩;rw[fs,hw,ey];simp
    | true=>
      lia;refine⟨s8.get e',?_,?_,λb o e=>?_,au⟩
      ·rw[ey,bx];have:=Vd (λr:Rw=>hU (lf.map (·.2.2.1)) r.2.2.2) (lf.take i);rw[wh] at this;exact aM @A
      ·rw[fs,hw,ey];simp
      ·rw[aF (ao e ψ)];exact s8.get (s'.get e)
   ·rw[bx,i'] at c4;rw[c4] at e7;lia;have ξ:∀r∈lf.filter (λr=>hU (lf.map (·.2.2.1)) r.2.2.2),r∈rs:=λr φ=>sub r (UT.mp φ).1;have e0:γ≠ω:=λz=>(by rw[z,c0] at ψ;cases ψ);exact⟨_,_,γ,_,_,rfl,β.trans L,L.get c0,e7,e0,ξ,ζ,b3⟩
theorem jU (T:Tx K mg a):FnOk P w K mg base CX0 5 a.cu a.pS ["self","ins","sums","stores","outs"] (P6 a.cZ a.bc a.aT a.aB):=by
 refine T.d9.1.okA va λs5 A outer s H vs Q E hr h=>?_;obtain⟨x,dx,i,s,t,o,rs,qs,N,rfl,hx,hn,g,q⟩:=h;have li:=g.li;have ls:=g.ls;have lt:=g.lt;have lo:=g.lo;have Y:rs.length=N.sums.length:=by rw[<-hn.es,bx]
 have r4:qs.length=N.sts.length:=by rw[<-hn.et,bx]
 refine⟨_,((af (bT (aj (xu T) hr T.zP T.jt (!j 1 (!j 2 (!j 3 (!j 4 ae))))))
  (af (bT (aj (xv T) hr T.zQ T.ju (aa (az jc (az jc (aX (cM (K:=K) rfl) @F T.g9 wq (!j 1 ae)) (bD (osc:=ag de) (ON:=n17) (N:=n10) (n:=1) (fx:=[]) rfl rfl rfl @H (aG (K:=K) rfl (pv 2)) (aA @C) (!C (aq (i:=0) (show hH (n10:B') from by decide +kernel) rfl @D) (!A @I (pv 0) ah)))) (bD (osc:=ag de) (ON:=n17) (N:=n10) (n:=1) (fx:=[]) rfl rfl rfl @H (aG (K:=K) rfl (pv 3)) (aA @C) (!C (aq (i:=0) (show hH (n10:B') from by decide +kernel) rfl @D) (!A @I (pv 0) ah)))) ae)))
  (af (cR (K:=K) rfl (pv 0) (aX (dQ (K:=K) rfl) @F T.k4 TY (!j 1 ae)) rfl)
  (af (cR (K:=K) rfl (pv 0) (aX (dQ (K:=K) rfl) @F T.k4 TY (aa (bD (osc:=ag de) (ON:=n17) (N:=n10) (n:=1) (fx:=[]) rfl rfl rfl @H (aG (K:=K) rfl (pv 2)) (aA @C) (!C (aq (i:=0) (show hH (n10:B') from by decide +kernel) rfl @D) (dF (aa (!A @I (pv 0) ah) (aa (aX (dQ (K:=K) rfl) @F T.k4 TY (aa (!A @I (pv 0) ah) ae)) ae))))) ae)) rfl)
  (af (cR (K:=K) rfl (pv 0) (aX (dQ (K:=K) rfl) @F T.k4 TY (aa (bD (osc:=ag de) (ON:=n17) (N:=n10) (n:=1) (fx:=[]) rfl rfl rfl @H (aG (K:=K) rfl (pv 3)) (aA @C) (!C (aq (i:=0) (show hH (n10:B') from by decide +kernel) rfl @D) (dF (aa (!A @I (pv 0) ah) (aa (!A @I (pv 0) ah) ae))))) ae)) rfl)
  (af (cR (K:=K) rfl (pv 0) (aX (dQ (K:=K) rfl) @F T.k4 TY (!j 4 ae)) rfl)
  (af (cR (K:=K) rfl (pv 0) (aj (tZ T) hr T.wx T.gY (aa (aJ (K:=K) rfl (pv 0) rfl) (aa (aJ (K:=K) rfl (pv 0) rfl) (aa (aJ (K:=K) rfl (pv 0) rfl) ae)))) rfl)
  (af (bT (aj (xr T) hr T.zN T.jq (aa (aJ (K:=K) rfl (pv 0) rfl) (aa (aJ (K:=K) rfl (pv 0) rfl) (aa (aJ (K:=K) rfl (pv 0) rfl) (aa (aJ (K:=K) rfl (pv 0) rfl) ae))))))
  (ai (cR (K:=K) rfl (pv 0) (aX (dQ (K:=K) rfl) @F T.k4 TY (aa (aj (Fj T) hr T.Jl T.rW (aa (aJ (K:=K) rfl (pv 0) rfl) ae)) ae)) rfl))))))))))),aw (σ':=[a' _,a' _,a' _,a' _,a' _]) rfl ?_⟩
 lia;refine⟨i,s,t,o,rs,qs,N,rfl,hn,g,λH1 s1=>?_⟩;have b6:=hn.same s1;have q5:=b6.i;have n2:=b6.s;have m7:=b6.t;lia;intro D2 H2 f2 s2 e2;have n0:=s2.get n2;lia;intro D3 l3;refine aH (xs:=rs.map λr=>V.ref r.1) (λi ys H'=>Cs (λi ys=>ys=((rs.take i).map (·.2.2.1)).map V.str) H2 D3 i ys H') (Cs.zero l3 rfl) (λi ys H' _ c=>SqL.of (c.same.get n0)) (λi x ys H' hx c=>?_) (λys H3 c=>?_)
 ·obtain⟨r,α,rfl⟩:=ay hx;have l1:=(b'.mp α).1;have er:=c.same.get (s2.get (b6.sr r (ee α)).1);lia;refine Cs.put l3 c.same c.at' c.len @A ?_;rw[c.pv,take_succ α,ef,ef];rfl
 ·have e3:=c.at';rw[c.pv,bx,i'] at e3;have j3:=c.same;clear c;refine pA (j3.get e2) e3 (by rw[bx,bx,bx,nr];omega) λD4 H4 f4 s4 e4=>?_;have γ:=s2.trans (j3.trans s4);have m5:=γ.get m7;lia;intro D5 l2;refine aH (xs:=qs.map λr=>V.ref r.1) (λi ys H'=>Cs (λi ys=>ys=((qs.take i).map (·.2.1)).map V.str) H4 D5 i ys H') (Cs.zero l2 rfl) (λi ys H' _ c=>SqL.of (c.same.get m5)) (λi x ys H' hx c=>?_) (λys H5 c=>?_)
  ·obtain⟨r,α,rfl⟩:=ay hx;have l1:=(b'.mp α).1;have er:=c.same.get (γ.get (b6.tr r (ee α)));lia;refine Cs.put l2 c.same c.at' c.len @A ?_;rw[c.pv,take_succ α,ef,ef];rfl
  ·have e5:=c.at';rw[c.pv,bx,i'] at e5;have j1:=c.same;clear c
   have n8:N.ins++rs.map (·.2.2.1)++qs.map (·.2.1)=N.names:=by
    unfold Nt.names;rw[<-hn.es,<-hn.et,TU,TU];rfl
   have r5:N.names.length<=100:=by rw[<-n8,eP,eP,bx,bx];omega
   refine pA (j1.get e4) e5 (by rw[eP,bx,bx,bx,bx,bx,nr];omega) λD6 H6 f6 s6 e6=>?_;rw[<-ef,<-ef,n8] at e6;have ν:=γ.trans (j1.trans s6);lia;refine⟨D6,N.names,rfl,e6,@A,g.nd,g.nm,λH7 s7=>?_⟩;have f0:=s1.trans (ν.trans s7);have l0:=hn.same f0;have k8:=f0.get hx;clear e6 e5 e4 e3 e2 ν γ n0 m5 q5 n2 m7 b6 l3 l2 f2 f4 f6 s1 s2 j3 s4 j1 s6 s7;have q4:=l0.i;lia;intro ti ι f8 s8 Z;lia;refine cQ (s8.get k8) T.dD T.rg (by show 0 < 1000;decide) rfl λH9 u9=>?_;have k7:=s8.get k8;have d1:=(Kx.upd u9).hnd k7 (l0.same s8);have η:=(Kx.upd u9).tup k7 Z;have m2:=u9.at';have k9:Kx x H H9:=(Kx.same (f0.trans s8)).trans (Kx.upd u9);have τ:=d1.s;clear u9 k7 s8 Z f8 q4 k8 l0 f0;lia;intro π e0;refine aH (xs:=rs.map λr=>V.ref r.1) (λi ys H'=>∃a0:eE Rw,ys=a0.map (λr=>V.ref r.1)/\a0.map (·.2.2)=(rs.take i).map (·.2.2)/\RwK H' a0/\Same H9 H'/\H' π=a' (.lst ys)) ⟨[],rfl,rfl,λ_ h=>hD h @E,aW e0,au⟩ (λi ys H' _ ⟨_,_,_,_,s',_⟩=>SqL.of (s'.get τ)) ?_ ?_
   ·rintro i y ys H' hy ⟨a0,rfl,b3,hk,s',eD⟩;obtain⟨r,α,rfl⟩:=ay hy;have l1:=(b'.mp α).1;have hm:=ee α;have er:=s'.get (d1.sr r hm).1;have ew:=s'.get (d1.sr r hm).2;have n5:a0.length=i:=by have:=T4 TX b3;rw[bx,bx,wh] at this;omega
    lia;intro tw r3 f3 ο f9;lia;intro tr l4 n7 e7 f7;have k6:tr≠π:=λz=>(by rw[z,ο.get eD] at n7;cases n7);have q2:tw≠π:=λz=>(by rw[z,eD] at f3;cases f3);have i4:=e7.get (ο.get eD);refine⟨i4,by rw[bx];exact aM @A,a0++[(tr,tw,r.2.2)],by rw[ef];rfl,by rw[ef,b3,take_succ α,ef];rfl,λr2 h2=>?_,λb ob e=>?_,au⟩
    ·rcases gz.mp h2 with h2 | h2
     ·exact((hk.same ο).same e7).updL i4 (λb ob n e=>by rw[aF n];exact e) r2 h2
     ·rw[gs] at h2;subst h2;exact⟨by rw[aF k6];exact f7,by rw[aF q2];exact e7.get f9⟩
    ·rw[aF (ao e e0)];exact e7.get (ο.get (s'.get e))
   ·rintro ys t6 ⟨a0,rfl,b3,hk,l7,o0⟩;rw[bx,i',hn.es] at b3;lia;intro ts r3 f3 ο f9;have ξ:=l7.trans ο;have a5:=ξ.get m2;lia;refine cQ a5 T.dD T.lM (by show 1 < 1000;decide) rfl λl4 ε=>?_;have ζ:=(Kx.upd ε).hnd a5 (d1.same ξ);have j0:=(Kx.upd ε).tup a5 (ξ.get η);have f7:=(Kx.upd ε).tup a5 f9;have χ:=(Kx.upd ε).rw a5 (hk.same ο);have g4:=ε.at';have m1:Kx x H l4:=k9.trans ((Kx.same ξ).trans (Kx.upd ε));have h0:=ζ.t;clear ε a5 ξ l7 ο f9 f3 hk o0 e0 d1 τ m2 η k9;lia;intro p3 d2;refine aH (xs:=qs.map λr=>V.ref r.1) (λi ys H'=>∃δ:eE Qs,ys=δ.map (λr=>V.ref r.1)/\δ.map (·.2)=(qs.take i).map (·.2)/\QsK H' δ/\Same l4 H'/\H' p3=a' (.lst ys)) ⟨[],rfl,rfl,λ_ h=>hD h @E,aW d2,au⟩ (λi ys H' _ ⟨_,_,_,_,s',_⟩=>SqL.of (s'.get h0)) ?_ ?_
    ·rintro i y ys H' hy ⟨δ,rfl,c5,hk,s',eD⟩;obtain⟨r,α,rfl⟩:=ay hy;have l1:=(b'.mp α).1;have er:=s'.get (ζ.tr r (ee α));have n5:δ.length=i:=by have:=T4 TX c5;rw[bx,bx,wh] at this;omega
     lia;intro tr r1 f1 γ f5;have k6:tr≠p3:=λz=>(by rw[z,eD] at f1;cases f1);have i3:=γ.get eD;refine⟨i3,by rw[bx];exact aM @A,δ++[(tr,r.2)],by rw[ef];rfl,by rw[ef,c5,take_succ α,ef];rfl,λr2 h2=>?_,λb ob e=>?_,au⟩
     ·rcases gz.mp h2 with h2 | h2
      ·exact(hk.same γ).updL i3 (λb ob n e=>by rw[aF n];exact e) r2 h2
      ·rw[gs] at h2;subst h2;rw[aF k6];exact f5
     ·rw[aF (ao e d2)];exact γ.get (s'.get e)
    ·rintro ys t5 ⟨δ,rfl,c5,n3,l5,n9⟩;rw[bx,i',hn.et] at c5;lia;intro tk r1 f1 γ f5;have ρ:=l5.trans γ;have β:=ρ.get g4;lia;refine cQ β T.dD T.dy (by show 2 < 1000;decide) rfl λr0 a6=>?_;have h3:=(Kx.upd a6).hnd β (ζ.same ρ);have h6:=(Kx.upd a6).tup β (ρ.get j0);have h5:=(Kx.upd a6).tup β (ρ.get f7);have φ:=(Kx.upd a6).rw β (χ.same ρ);have h4:=(Kx.upd a6).tup β f5;have g0:=(Kx.upd a6).qs β (n3.same γ);have g3:=a6.at';have m0:Kx x H r0:=m1.trans ((Kx.same ρ).trans (Kx.upd a6));have n4:=h3.o;clear a6 β ρ l5 γ f5 f1 n3 n9 d2 ζ h0 g4 f7 j0 m1 χ;lia;intro to t4 q7 ν o3;have c4:=ν.get g3;lia;refine cQ c4 T.dD T.sN (by show 3 < 1000;decide) rfl λp0 e1=>?_;have c3:Kpt p0 ti ts tk to a0 δ N:=(Kx.upd e1).kpt c4 ⟨ν.get h6,ν.get h5,φ.same ν,b3,ν.get h4,g0.same ν,c5,o3⟩;have ψ:=e1.at';have l8:Kx x H p0:=m0.trans ((Kx.same ν).trans (Kx.upd e1));clear e1 c4 ν o3 q7 g3 m0 h6 h5 φ h4 g0 n4 h3;lia;refine aI ψ T.dD T.rg rfl ?_;lia;refine aI ψ T.dD T.lM rfl ?_;lia;refine aI ψ T.dD T.dy rfl ?_;lia;refine⟨ti,ts,tk,to,a0,δ,N,rfl,c3,g,λdb t3 ws q6 G wi=>?_⟩;have a4:=G.get ψ;lia;refine cQ a4 T.dD T.jm (by show 4 < 1000;decide) rfl λq9 c1=>?_;have n6:db≠x:=cC wi.d a4 λz=>by cases z
     have m4:∀q∈ws,q.2≠x:=λq hq z=>by
      obtain⟨C,θ,fs,e,_⟩:=(wi.ob q hq).name;rw[z,a4] at e;injection e with e
      injection e with _ _ e
      injection e with e _
      injection e with e _
      exact hD e @C
     have υ:=(Kx.upd c1).wia wi n6 m4 a4;have c2:=(Kx.upd c1).kpt a4 (c3.same G);have a3:=c1.at';have q3:Kx x H q9:=l8.trans ((Kx.same G).trans (Kx.upd c1));clear c1 wi c3 ψ a4 G l8 q6;lia;refine aI a3 T.dD T.lM rfl ?_;lia;refine aI a3 T.dD T.dy rfl ?_;lia;refine aI a3 T.dD T.sN rfl ?_;lia;refine aI a3 T.dD T.jm rfl ?_;lia;refine⟨ti,ts,tk,to,db,a0,δ,N,rfl,c2,g,υ.knw,λt2 j4=>?_⟩;have m3:=j4.get a3;have ω:=c2.same j4;lia;refine aI m3 T.dD T.lM rfl ?_;lia;refine⟨ts,a0,N,rfl,ω.s,ω.sr,b3,g,λDo t1 od s0 q1 s3 tp=>?_⟩;lia;intro tq s9 r7 q0 L;have a7:=j4.trans (q1.trans q0);have a8:=a7.get a3;lia;refine cQ a8 T.dD T.nX (by show 5 < 1000;decide) rfl λq8 c0=>?_;lia;exact q q8 od (q3.trans ((Kx.same a7).trans (Kx.upd c0))) ⟨⟨dx,ti,ts,tk,to,db,tq,a0,δ,ws,c0.at',(Kx.upd c0).kpt a8 (c2.same a7),(Kx.upd c0).wia (υ.same a7) n6 m4 a8,(Kx.upd c0).tup a8 L⟩,g,tp⟩
noncomputable abbrev NAof (a:Ad):NP:=λH p N od=>NetA H a.cZ a.bc a.aT a.aB p N od
theorem jT (T:Tx K mg a):FnOk P w K mg base CX0 1 a.cq a.pR ["self"] (EO (NAof a)):=by
 refine T.dj.1.okA u0 λL A outer s H vs Q E α h=>?_;obtain⟨p,N,od,rfl,na,q⟩:=h;obtain⟨dx,i,s,t,o,d,Z,rs,qs,ws,G,kp,Y,eq⟩:=na.ho;have hi:=kp.i;refine⟨_,((ai (aL (aX (cM (K:=K) rfl) @F T.g9 wq (aa (aJ (K:=K) rfl (pv 0) rfl) ae))))),aw (σ':=[a' _]) rfl ?_⟩;lia;refine aI G T.dD T.rg rfl ?_;lia;exact q
theorem i8 (T:Tx K mg a):FnOk P w K mg base CX0 1 a.b8 a.oC ["self"] (NX (NAof a)):=by
 refine T.cX.1.okA tY λL A outer s H vs Q E α h=>?_;obtain⟨p,N,od,rfl,na,q⟩:=h;obtain⟨dx,i,s,t,o,d,Z,rs,qs,ws,G,kp,Y,eq⟩:=na.ho;have ho:=kp.o;refine⟨_,((ai (aL (aX (cM (K:=K) rfl) @F T.g9 wq (aa (aJ (K:=K) rfl (pv 0) rfl) ae))))),aw (σ':=[a' _]) rfl ?_⟩;lia;refine aI G T.dD T.sN rfl ?_;lia;exact q
theorem h8 (T:Tx K mg a):FnOk P w K mg base CX0 1 a.bO a.m9 ["self"] (G1 (NAof a)):=by
 refine T.cF.1.okA sf fun α A outer s H vs Q E ε h=>?_;obtain⟨p,N,od,rfl,na,q⟩:=h;obtain⟨dx,i,s,t,o,d,δ,rs,qs,ws,L,kp,β,eq⟩:=na.ho;have ht:=kp.t;refine⟨_,((ai (aL (aX (cM (K:=K) rfl) @F T.g9 wq (aa (aJ (K:=K) rfl (pv 0) rfl) ae))))),aw (σ':=[a' _]) rfl ?_⟩;lia;refine aI L T.dD T.dy rfl ?_;lia;intro D H2 Y G Z;exact q D H2 qs Y G Z (fun γ m=>G.get (kp.tr γ m)) kp.et
theorem d4 (T:Tx K mg a):FnOk P w K mg base CX0 3 a.cJ a.rJ ["self","name"] (GY (NAof a) a.bc a.aT a.aB):=by
 refine T.cy.1.okA xl fun ζ A outer s H vs Q E α h=>?_;obtain⟨p,N,od,z,rfl,na,hz,q⟩:=h;have τ:=rz α;obtain⟨dx,i,s,t,o,d,η,rs,qs,ws,δ,kp,L,eq⟩:=na.ho;have g:=na.g
 refine⟨_,((af (bT (aj (jl T) α T.kF T.fB (!j 1 (aa (aJ (K:=K) rfl (pv 0) rfl) ae))))
  (ai (aL (nR τ (aJ (K:=K) rfl (pv 0) rfl) (pv 1) (λ_ _=>rfl)))))),aw (σ':=[a' _,a' _]) rfl ?_⟩
 lia;refine aI δ T.dD T.jm rfl ?_;lia;refine⟨z,d,N.names,rfl,L.knw,hz,g.nm z hz,λH2 Y=>?_⟩;have G:=L.same Y;lia;refine aI (Y.get δ) T.dD T.jm rfl ?_;lia
 have Z:∀ws:S',z∈ws.map (·.1)->∃q∈ws,q.1=z/\valV (ws.map λq=>((Tz q.1:Key),V.ref q.2)) (Tz z)=a' (.ref q.2):=by
  intro ws
  induction ws with
  | nil=>intro h;cases h
  | cons q l ih=>
    intro h;by_cases e:q.1=z
    ·exact⟨q,u' ..,e,mi (T4 Tz e)⟩
    ·rw[Uq] at h;obtain⟨γ,m,ε,v⟩:=ih ((Tn.mp h).resolve_left λh2=>e h2.symm);refine⟨γ,p' _ m,ε,?_⟩;rw[Uq,mj λh2=>e (WN h2)];exact v
 obtain⟨γ,m,e,v⟩:=Z ws (by rw[L.nm];exact hz);refine sk G.d v ?_;have β:=G.ob γ m;rw[e] at β;lia;exact q γ.2 H2 Y β
theorem jd (T:Tx K mg a):FnOk P w K mg base CX0 1 a.bj a.kg ["self"] (N3 (NAof a)):=by
 refine T.cb.1.okA pq λa0 A outer s H vs Q E hr h=>?_;obtain⟨p,N,od,rfl,na,q⟩:=h;obtain⟨dx,i,s,t,o,d,tq,rs,qs,ws,η,kp,wi,eq⟩:=na.ho;have g:=na.g;have ο:=zq g na.tp;have hi:=kp.i;have ht:=kp.t;have Z:qs.length=N.sts.length:=by rw[<-kp.et,bx]
 have δ:=ο;unfold need at δ;rw[eP,eP,bx] at δ;refine⟨_,((ai (aL (az jc (az jc (aX (cM (K:=K) rfl) @F T.g9 wq (aa (aJ (K:=K) rfl (pv 0) rfl) ae)) (bD (osc:=ag dH) (ON:=["self"]) (N:=n10) (n:=1) (fx:=[]) rfl rfl rfl @H (jQ (K:=K) rfl (aJ (K:=K) rfl (pv 0) rfl)) (aA @C) (!C (aq (i:=0) (show hH (n10:B') from by decide +kernel) rfl @D) (!A @I (pv 0) ah)))) (aX (cM (K:=K) rfl) @F T.g9 wq (aa (aJ (K:=K) rfl (pv 0) rfl) ae)))))),aw (σ':=[a' _]) rfl ?_⟩;lia;refine aI η T.dD T.rg rfl ?_;lia;intro D2 H2 f2 ζ e2;have α:=ζ.get ht;lia;refine aI (ζ.get η) T.dD T.dy rfl ?_;lia;intro D3 ε;refine rN (xs:=qs.map λr=>V.ref r.1) (λi ys H'=>Cs (λi ys=>ys=((qs.take i).map (·.2.1)).map V.str) H2 D3 i ys H') (Cs.zero ε rfl) (λi ys H' _ c=>SqT.of (c.same.get α)) (λi x ys H' ρ c=>?_) (λys H3 c=>?_)
 ·obtain⟨r,Y,rfl⟩:=ay ρ;have τ:=(b'.mp Y).1;have er:=c.same.get (ζ.get (kp.tr r (ee Y)));lia;refine Cs.put ε c.same c.at' c.len @A ?_;rw[c.pv,take_succ Y,ef,ef];rfl
 ·have θ:=c.at';rw[c.pv,bx,i'] at θ;have γ:=c.same;clear c;refine pA (γ.get e2) θ (by rw[bx,bx,bx,nr];omega) λD4 H4 f4 ξ φ=>?_;have L:=ζ.trans (γ.trans ξ);have G:=L.get eq;lia;refine aI (L.get η) T.dD T.nX rfl ?_;lia;intro D5 H5 ψ ι π;refine pA (ι.get φ) π (by rw[eP,bx,bx,bx,bx,nr];omega) λD6 H6 υ ν ω=>?_;have χ:N.ins++qs.map (·.2.1)++od=need N od:=by unfold need;rw[<-kp.et,TU];rfl
  rw[<-ef,<-ef,χ] at ω;have β:=L.trans ι;exact q D6 H6 (β.free υ) (β.trans ν) ω
theorem AE (T:Tx K mg a):FnOk P w K mg base CX0 4 a.gu a.wI ["net","row","state"] (KQ (NAof a)):=by
 refine T.mP.1.okA nH λb6 A outer s H vs Q E ξ h=>?_;obtain⟨p,N,od,row,st,rfl,na,q⟩:=h;have τ:=rz ξ;obtain⟨dx,i,s,t,o,d,tq,rs,qs,ws,hp,kp,wi,eq⟩:=na.ho;have g:=na.g;have tp:=na.tp;have nl:=zq g tp
 refine⟨_,((af (aD (i:=3) nH.nd rfl @D qS)
  (af (dE xo rfl (aG (K:=K) rfl (bp (pv 0) T.dD T.j2 (jd T) (ξ.mono @C) T.cb.2 .nil b0)) (aq (i:=4) nH.nd rfl @D) (ai (y8 τ (pv 3) (pv 4) (PE.or (eW (eW (pv 0) T.dD T.fK (d4 T) (ξ.mono @C) T.cy.2 .nil b0 (!j 4 ae)) T.mS T.AJ (zi T) (ξ.mono @C) T.iS.2 .nil b0 (!j 3 (!j 1 (!j 2 ae)))) (PE.or (eW (eW (pv 0) T.dD T.fK (d4 T) (ξ.mono @C) T.cy.2 .nil b0 (!j 4 ae)) T.km T.zw (xw T) (ξ.mono @C) T.g5.2 .nil b0 (!j 3 (!j 1 (!j 2 ae)))) (eW (eW (pv 0) T.dD T.fK (d4 T) (ξ.mono @C) T.cy.2 .nil b0 (!j 4 ae)) T.fH T.vH (ub T) (ξ.mono @C) T.fE.2 .nil b0 (!j 3 (!j 1 (!j 2 ae)))))) rfl)))
  (ai (aL (pv 3)))))),aw (σ':=[a' _,a' _,a' _,f',f']) rfl ?_⟩
 lia;intro π H1 G s1 e1;have a5:=s1.get hp;lia;refine aN a5 rfl ?_;lia;refine⟨p,N,od,rfl,na.same s1,λD2 H2 f2 s2 e2=>?_⟩;have a0:=s1.trans s2;lia;refine iF (xs:=(need N od).map V.str) (λi σ H'=>∃v f,σ=[a' (.ref p),a' (nat row),a' (nat st),a' (.ref π),v]/\Same H H'/\H' D2=a' (.lst ((need N od).map V.str))/\H' π=a' (.dK (bitK f ((need N od).take i)))/\Pre N row st ((need N od).take i) f) ⟨f',λ_=>false,rfl,a0,e2,s2.get e1,Pre.nil ..⟩ (λi σ H' _ ⟨_,_,_,_,e',_⟩=>SqL.of e') ?_ ?_
 ·rintro i y σ H' χ ⟨v,f,rfl,s',eD,φ,pr⟩;obtain⟨z,hz,rfl⟩:=ay χ;have b3:=(b'.mp hz).1;have ε:=(kC g tp z).mp (ee hz);have υ:=s'.get hp;have ρ:=na.same s';obtain⟨a8,a7,a6,x1,x2,x3⟩:=mG g;have Z:=vF g tp hz
  have fin:∀(b:UD) (H4 γ:Hp),Same H' H4->Upd H4 γ π (.dK (putK (bitK f ((need N od).take i)) (Tz z) (nat (M.bn b))))->Bt N row st ((need N od).take i) f z b->∃ο,Same H γ/\γ D2=a' (.lst ((need N od).map V.str))/\γ π=a' (.dK (bitK ο ((need N od).take (i + 1))))/\Pre N row st ((need N od).take (i + 1)) ο:=λb H4 γ s4 ι bt=>by
   have ek:putK (bitK f ((need N od).take i)) (Tz z) (nat (M.bn b))=bitK (λy=>if y=z then b else f y) ((need N od).take (i + 1)):=by
    rw[B8 (J0 f _) Z,take_succ hz];unfold bitK;rw[ef];congr 1
    ·exact UV λy χ=>by show(_,nat (M.bn (f y)))=(_,nat (M.bn (if y=z then b else f y)));rw[qb (λ(e:y=z)=>Z (e ▸ χ))]
    ·show[(_,nat (M.bn b))]=[(_,nat (M.bn (if z=z then b else f z)))];rw[wb rfl]
   rw[ek] at ι;refine⟨_,λbb o e=>ι.oth _ _ (ao e G) (s4.get (s'.get e)),ι.oth _ _ (cC (s4.get eD) (s4.get φ) λz=>by cases z) (s4.get eD),ι.at',by rw[take_succ hz];exact pr.step Z bt⟩
  have lk:(bitK f ((need N od).take i)).length<=1000:=by unfold bitK;rw[bx,wh];omega
  lia;have ν:=ε;unfold Nt.names at ν;rcases gz.mp ν with h' | h'
  ·rcases gz.mp h' with h' | h'
   ·refine WA ?_;lia;refine aN υ rfl ?_;lia;refine⟨p,N,od,z,rfl,ρ,ε,λw ω ζ β=>?_⟩;have L:=ζ.get φ;cases β with
    | i k θ hk e=>
      lia;refine aN e rfl ?_;lia;refine⟨w,θ,.str z,(k:Int),.ref π,(row:Int),(st:Int),rfl,e,@A,?_⟩;rw[rP,show(if row.testBit k=true then (1:Int) else 0)=((M.bn (row.testBit k):Nat):Int) by unfold M.bn;cases row.testBit k<;>rfl];lia;refine qc L (aM lk) fun γ ι=>?_;obtain⟨ο,a1,a2,ψ,α⟩:=fin (row.testBit k) ω γ ζ ι (R9 g hk);lia;exact⟨_,ο,rfl,a1,a2,ψ,α⟩
    | s Y θ δ hk e et=>exact hD (hF.mpr ⟨_,hk,rfl⟩) (x1 z h')
    | t k y θ hk e=>exact hD (hF.mpr ⟨_,ee hk,rfl⟩) (x2 z h')
   ·refine Wf (WA ?_);lia;refine aN υ rfl ?_;lia;refine⟨p,N,od,z,rfl,ρ,ε,λw ω ζ β=>?_⟩;have L:=ζ.get φ;cases β with
    | i k θ hk e=>exact hD h' (x1 z (ee hk))
    | s Y θ δ hk e et=>
      have η:=Ck g tp hz Y hk;lia;refine aN e rfl ?_;lia;refine⟨w,θ,.str z,δ,π,Y,_,λy=>((M.bn (f y):Nat):Int),(row:Int),(st:Int),rfl,e,SqT.of et,L,λy χ=>yL f (η y χ),?_⟩;rw[O6];lia;refine qc L (aM lk) fun γ ι=>?_;obtain⟨ο,a1,a2,ψ,α⟩:=fin (xb f Y) ω γ ζ ι (Nr g hk η);lia;exact⟨_,ο,rfl,a1,a2,ψ,α⟩
    | t k y θ hk e=>exact hD (hF.mpr ⟨_,ee hk,rfl⟩) (x3 z h')
  ·refine Wf (Wf ?_);lia;refine aN υ rfl ?_;lia;refine⟨p,N,od,z,rfl,ρ,ε,λw ω ζ β=>?_⟩;have L:=ζ.get φ;cases β with
   | i k θ hk e=>exact hD h' (x2 z (ee hk))
   | s Y θ δ hk e et=>exact hD h' (x3 z (hF.mpr ⟨_,hk,rfl⟩))
   | t k y θ hk e=>
     lia;refine aN e rfl ?_;lia;refine⟨w,θ,.str z,.str y,(k:Int),.ref π,(row:Int),(st:Int),rfl,e,@A,?_⟩;rw[rP,show(if st.testBit k=true then (1:Int) else 0)=((M.bn (st.testBit k):Nat):Int) by unfold M.bn;cases st.testBit k<;>rfl];lia;refine qc L (aM lk) fun γ ι=>?_;obtain⟨ο,a1,a2,ψ,α⟩:=fin (st.testBit k) ω γ ζ ι (R8 g hk);lia;exact⟨_,ο,rfl,a1,a2,ψ,α⟩
 ·rintro σ H' ⟨v,f,rfl,s',eD,φ,pr⟩;rw[bx,i'] at φ pr;lia;exact q π H' f G s' φ (HV g tp pr)
theorem yk (T:Tx K mg a):FnOk P w K mg base CX0 2 a.ka a.Bg ["wires","bits"] G8:=by
 refine T.oF.1.okA EU fun ζ A outer s H vs Q E β h=>?_;obtain⟨l,d,ws,zs,f,rfl,hl,hd,ln,sub,q⟩:=h;have τ:=rz β;refine⟨_,((ai (aL (aj (lH T) β T.og T.iP (aa (bD (osc:=ag qM) (ON:=["wires","bits"]) (N:=["place","wire","bits"]) (n:=2) (fx:=[1]) rfl rfl rfl @H (oS (K:=K) rfl @F T.dI (pv 0)) (wu (eK (aA @C) (eK (aA @C) qv))) (λ_ _ _ _ _=>⟨(qh (K:=K) (n:=2) rfl rfl (bL (aq (i:=0) (show hH (["place","wire","bits"]:B') from by decide +kernel) rfl @D) (bL (aq (i:=1) (show hH (["place","wire","bits"]:B') from by decide +kernel) rfl @D) i6))),(jP (aU nu (nR τ (pv 2) (pv 1) (λ_ _=>rfl)) ah (bh _))),(pv 0)⟩)) ae))))),aw (σ':=[a' _,a' _]) rfl ?_⟩;lia;refine .inl ⟨⟨_,SqL.of hl⟩,?_⟩;intro D α;refine yG (xs:=ws.map V.str) (λi ys H'=>ys=((vu i).filter λk=>f (ws.getD k "")).map nat/\Same H H'/\H' D=a' (.lst ys)) ⟨rfl,aW α,au⟩ (λi ys H' _ ⟨_,s',_⟩=>SqL.of (s'.get hl)) (λi x ys H' Z H2 γ ⟨ey,s',Y⟩ fp L η=>?_) (λys H' ⟨ey,s',Y⟩=>?_)
 ·obtain⟨z,hz,rfl⟩:=ay γ;have δ:=(b'.mp hz).1;have ε:ws.getD i ""=z:=by rw[ec,hz];rfl
  have fs:(vu (i + 1)).filter (λk=>f (ws.getD k ""))=(vu i).filter (λk=>f (ws.getD k ""))++(if f z=true then [i] else []):=by rw[Vs,V2,Wx,ε];rfl
  have G:=L.get Y;lia;refine sk (L.get (s'.get hd)) (yL f (sub z (ee hz))) ?_;cases hf:f z with
  | true=>
    lia;refine⟨G,?_,?_,λb o e=>?_,au⟩
    ·rw[ey,bx];have:=Vd (λk=>f (ws.getD k "")) (vu i);rw[TC] at this;exact aM @A
    ·rw[fs,hf,ey];simp
    ·rw[aF (ao e α)];exact L.get (s'.get e)
  | false=>
    lia;refine⟨?_,s'.trans L,G⟩;rw[fs,hf,ey];simp
 ·rw[bx] at ey;rw[ey] at Y;lia;refine⟨D,_,rfl,Y,λk hk=>?_,?_⟩
  ·have:=U8.mp (UT.mp hk).1;omega
  ·rw[Rt];exact q H' s'
theorem QH:(∀(v:V) (r:eE (T3×V)),([]:eE (T3×V))≠(("name":T3),v)::r)/\∀(v:V) (r:eE (T3×V)),([]:eE (T3×V))≠(("ins":T3),v)::r:=⟨λ_ _ h=>(by cases h),λ_ _ h=>(by cases h)⟩
theorem Hu (x:V) (fs:eE (T3×V)):(∀(v:V) (r:eE (T3×V)),(("net":T3),x)::fs≠(("name":T3),v)::r)/\∀(v:V) (r:eE (T3×V)),(("net":T3),x)::fs≠(("ins":T3),v)::r:=
 ⟨λ_ _ h=>(by injection h with h _;injection h with h _;exact hD h @C),λ_ _ h=>(by injection h with h _;injection h with h _;exact hD h @C)⟩
theorem vz (T:Tx K mg a):FnOk P w K mg base CX0 1 a.ck a.pP ["self","net"] (EK (NAof a) a.fY):=by
 refine T.iI.1.okA uY fun θ A outer s H vs Q E ν h=>?_;obtain⟨x,dx,n,N,od,rfl,γ,na,q⟩:=h
 refine⟨_,((af (cR (K:=K) rfl (pv 0) (pv 1) rfl)
  (af (cR (K:=K) rfl (pv 0) ah rfl)
  (af (cR (K:=K) rfl (pv 0) qS rfl)
  (ai (cR (K:=K) rfl (pv 0) (c6 ae) rfl)))))),aw (σ':=[a' _,a' _]) rfl ?_⟩
 lia;refine cQ γ T.oG T.nW (by show 0 < 1000;decide) rfl λH1 α=>?_;lia;refine cQ α.at' T.oG T.sM (by show 1 < 1000;decide) rfl λH2 η=>?_;have ε:=α.trans η;lia;intro d υ ξ Y ο;lia;refine cQ (Y.get ε.at') T.oG T.oW (by show 2 < 1000;decide) rfl fun τ L=>?_;lia;intro l ρ ψ ι π;lia;refine cQ (ι.get L.at') T.oG T.qo (by show 3 < 1000;decide) rfl fun ζ δ=>?_;lia;have β:Kx x H ζ:=(Kx.upd ε).trans ((Kx.same Y).trans ((Kx.upd L).trans ((Kx.same ι).trans (Kx.upd δ))));have G:l≠x:=λz=>(by rw[z,L.at'] at ψ;cases ψ)
 have Z:H l=none:=by
  cases e:H l with
  | none=>rfl
  | some o=>
    have:=L.oth _ _ G (Y.get (ε.oth _ _ G e));rw[ψ] at this;cases this
 exact q ζ l β Z ⟨⟨dx,d,δ.at'⟩,δ.oth _ _ G π,na.keep γ QH β⟩
theorem vy (T:Tx K mg a):FnOk P w K mg base CX0 1 a.cj a.pO ["self"] (KW (NAof a) a.fY):=by
 refine T.gb.1.okA uX λY A outer s H vs Q E Z h=>?_;obtain⟨p,l,n,N,od,st,as,rfl,G,q⟩:=h;obtain⟨dx,d,L⟩:=G.ho;have hl:=G.hl;refine⟨_,((ai (aL (aX (cM (K:=K) rfl) @F T.g9 wq (aa (aJ (K:=K) rfl (pv 0) rfl) ae))))),aw (σ':=[a' _]) rfl ?_⟩;lia;refine aI L T.oG T.qo rfl ?_;lia;exact q
theorem Cg (T:Tx K mg a):FnOk P w K mg base CX0 5 a.fO a.yF ["self","row"] (KS (NAof a) a.fY):=by
 refine T.mf.1.okA uW λf3 A outer s H vs Q E ξ h=>?_;obtain⟨p,l,n,N,od,st,row,as,rfl,ra,a3,e7,q⟩:=h;obtain⟨dx,d,τ⟩:=ra.ho;have hl:=ra.hl;have na:=ra.na;have g:=na.g;have tp:=na.tp;have υ:l≠p:=cC hl τ λz=>by cases z
 obtain⟨f0,ni,ns,nt,no,nd,L,e3,e6,e0,hn,_⟩:=na.ho
 refine⟨_,((af (dU (jb (gL (aj (oU T) ξ T.oi T.iR (!j 1 (aa (aK (aP (K:=K) rfl) @F T.eQ ot (aa (bp (aJ (K:=K) rfl (pv 0) rfl) T.dD T.lg (jT T) (ξ.mono @C) T.dj.2 .nil b0) ae)) ae))))) (ai i5) bo)
  (af (cR (K:=K) rfl (pv 0) (aj (AE T) ξ T.CH T.mP (aa (aJ (K:=K) rfl (pv 0) rfl) (!j 1 (aa (aJ (K:=K) rfl (pv 0) rfl) ae)))) rfl)
  (af (cR (K:=K) rfl (pv 0) (aj (yk T) ξ T.AX T.oF (aa (bD (osc:=ag oR) (ON:=["self","row","answer"]) (N:=["store"]) (n:=1) (fx:=[]) rfl rfl rfl @H (aG (K:=K) rfl (bp (aJ (K:=K) rfl (pv 0) rfl) T.dD T.ja (h8 T) (ξ.mono @C) T.cF.2 .nil b0)) (aA @C) (!C (aq (i:=0) (show hH (["store"]:B') from by decide +kernel) rfl @D) (!A @I (pv 0) ah))) (aa (aJ (K:=K) rfl (pv 0) rfl) ae))) rfl)
  (af (aD (i:=2) uW.nd rfl @D (aj (yk T) ξ T.AX T.oF (aa (bp (aJ (K:=K) rfl (pv 0) rfl) T.dD T.jZ (i8 T) (ξ.mono @C) T.cX.2 .nil b0) (aa (aJ (K:=K) rfl (pv 0) rfl) ae))))
  (af (bT (gM (K:=K) rfl T6 UC UB iL (aJ (K:=K) rfl (pv 0) rfl) (!j 2 ae)))
  (ai (aL (pv 2))))))))),aw (σ':=[a' _,a' _,f']) rfl ?_⟩
 lia;refine aI τ T.oG T.nW rfl ?_;lia;refine aN hn rfl ?_;lia;refine⟨n,N,od,rfl,na,λD1 H1 G s1 e1=>?_⟩;have a8:=s1.get τ;lia;rw[bx,cH a3];lia;refine aI a8 T.oG T.nW rfl ?_;lia;refine aI a8 T.oG T.sM rfl ?_;lia;refine⟨n,N,od,row,st,rfl,na.same s1,λdb H2 f f2 s2 e2 vl=>?_⟩;have χ:=s1.trans s2;have a7:=χ.get τ;lia;refine cQ a7 T.oG T.oW (by show 4 < 1000;decide) rfl λH3 u3=>?_;have α:=u3.at';have k3:Kx p H H3:=(Kx.same χ).trans (Kx.upd u3);have a0:=na.keep τ (Hu _ _) k3;have c5:=k3 _ _ υ hl
 have b3:n≠p:=λz=>by
  rw[z,τ] at hn;injection hn with hn
  injection hn with _ _ hn
  exact(Hu _ _).2 _ _ hn
 have b6:=k3 _ _ b3 hn;have θ:=u3.oth _ _ (cC e2 a7 λz=>by cases z) e2;lia;refine aI α T.oG T.nW rfl ?_;lia;refine aN b6 rfl ?_;lia;refine⟨n,N,od,rfl,a0,fun ω H4 qs f4 s4 e4 qk et=>?_⟩;have Z:qs.length<=16:=by have:=g.lt;rw[<-et,bx] at this;exact this
 lia;intro D5 φ;refine aH (xs:=qs.map λr=>V.ref r.1) (λi ys H'=>Cs (λi ys=>ys=((qs.take i).map (·.2.2)).map V.str) H4 D5 i ys H') (Cs.zero φ rfl) (λi ys H' _ c=>SqL.of (c.same.get e4)) (λi x ys H' hx c=>?_) (λys H5 c=>?_)
 ·obtain⟨r,ν,rfl⟩:=ay hx;have e9:=(b'.mp ν).1;have er:=c.same.get (qk r (ee ν));lia;refine Cs.put φ c.same c.at' c.len @A ?_;rw[c.pv,take_succ ν,ef,ef];rfl
 ·have π:=c.at';rw[c.pv,bx,i'] at π;have ι:=s4.trans c.same;clear c;have d1:qs.map (·.2.2)=N.sts.map (·.2):=by rw[<-et,TU];rfl
  rw[d1] at π;have a6:=ι.get α;lia;refine aI a6 T.oG T.oW rfl ?_;lia;refine⟨D5,db,_,need N od,f,rfl,π,ι.get θ,by rw[bx,<-et,bx];omega,λw hw=>(kC g tp w).mpr (by obtain⟨γ,c1,rfl⟩:=hF.mp hw;exact g.ts γ c1),λH6 s6=>?_⟩;rw[MV g tp vl];have ζ:=ι.trans s6;have a5:=ζ.get α;lia;refine cQ a5 T.oG T.sM (by show 4 < 1000;decide) rfl λH7 Y=>?_;have ο:=Y.at';have η:Kx p H3 H7:=(Kx.same ζ).trans (Kx.upd Y);have ρ:Kx p H H7:=k3.trans η;have ψ:=na.keep τ (Hu _ _) ρ;have c4:=ρ _ _ υ hl;have c3:=ρ _ _ b3 hn;have d2:=η _ _ (cC θ α λz=>by cases z) θ;clear Y a5 ζ s6 a6 π φ ι e4 qk et f4 s4 b6 a0 c5 η θ α;lia;refine aI ο T.oG T.nW rfl ?_;lia;refine aN c3 rfl ?_;lia;refine⟨n,N,od,rfl,ψ,λD8 H8 f8 s8 e8=>?_⟩;have c2:=s8.get ο;lia;refine aI c2 T.oG T.oW rfl ?_;lia;have lo:=g.lo;refine⟨D8,db,N.outs,need N od,f,rfl,e8,s8.get d2,@A,λw hw=>(kC g tp w).mpr (g.os w hw),λH9 s9=>?_⟩;rw[MY g tp vl];have δ:=s8.trans s9;have a4:=δ.get ο;have c0:=δ.get c4;lia;refine aI a4 T.oG T.qo rfl ?_;lia;refine mx c0 (by rw[bx,nr];omega) fun ε β=>?_;lia;refine q ε (λb ob n1 n2 e=>β.oth _ _ n2 (δ.get (ρ _ _ n1 e))) ⟨⟨dx,db,β.oth _ _ υ.symm a4⟩,by rw[β.at',ef];rfl,(ψ.same δ).updL c0 β.oth⟩
theorem mF (T:Tx K mg a):FnOk P w K mg base CX0 6 a.fq a.tP ["net","rows"] (Hh (NAof a)):=by
 refine T.gO.1.okA mq fun φ A outer s H vs Q E ε h=>?_;obtain⟨n,r,N,od,rs,rfl,na,δ,Y,hb,q⟩:=h
 refine⟨_,((af (aD (i:=2) mq.nd rfl @D (jR T.Tj (vz T) (ε.mono @C) @F T.Tb T.iI.2 .nil b0 (!j 0 ae)))
  (af (dE xo rfl (aG (K:=K) rfl (pv 1)) (aq (i:=3) mq.nd rfl @D) (ai (bT (eW (pv 2) T.oG T.Fu (Cg T) (ε.mono @C) T.mf.2 .nil b0 (!j 3 ae)))))
  (ai (aL (bp (pv 2) T.oG T.xG (vy T) (ε.mono @C) T.gb.2 .nil b0)))))),aw (σ':=[a' _,a' _,f',f']) rfl ?_⟩
 lia;intro x dx H1 G α υ;refine⟨x,dx,n,N,od,rfl,υ,na.same α,λH2 l k2 π ν=>⟨rfl,?_⟩⟩;have β:Same H H2:=λb ob e=>k2 _ _ (ao e G) (α.get e);have ζ:H l=none:=α.free π;lia;refine iF (xs:=rs.map nat) (λi σ H'=>∃v,σ=[a' (.ref n),a' (.ref r),a' (.ref x),v]/\Same H H'/\RunA (NAof a) H' a.fY x l n N od (rst N 0 (rs.take i)) (ran N 0 (rs.take i))) ⟨f',rfl,β,ν⟩ (λi σ H' _ ⟨_,_,s',_⟩=>SqL.of (s'.get δ)) ?_ ?_
 ·rintro i y σ H' ξ ⟨v,rfl,s',L⟩;obtain⟨z,hz,rfl⟩:=ay ξ;have ο:=(b'.mp hz).1;obtain⟨θ,d',Z⟩:=L.ho;lia;refine aN Z rfl ?_;lia;refine⟨x,l,n,N,od,_,z,_,rfl,L,hb z (ee hz),by rw[y4,wh];omega,fun η k3 γ=>?_⟩;lia;refine⟨λb ob e=>k3 _ _ (ao e G) (ao e ζ) (s'.get e),?_⟩;rw[take_succ hz,DJ,DO];exact γ
 ·rintro σ H' ⟨v,rfl,s',L⟩;rw[bx,i'] at L;obtain⟨θ,d',Z⟩:=L.ho;lia;refine aN Z rfl ?_;lia;refine⟨x,l,n,N,od,_,_,rfl,L,λD η ρ ι τ=>?_⟩;exact q D η (s'.free ρ) (s'.trans ι) τ
theorem Fk (T:Tx K mg a):FnOk P w K mg base CX0 3 a.kb a.Bh ["thing","stores","inputs"] KY:=by
 have G:FnOk P w K mg base CX0 2 a.iM a.wL ["thing","width"] (BN K):=oU T;refine T.rX.1.okA EV fun α A outer s H vs Q E L h=>?_;obtain⟨t,x,y,n,m,rfl,ht,Z,Y,q⟩:=h
 refine⟨_,((af (dU (PW.pt (qg (jb (gL (aK (lV (K:=K) rfl) @F T.gN Ux (!j 0 (aa (sv (v:= .ty "tuple") @F T.k4 TY rfl) ae))))) (nQ (aU ze (aK (aP (K:=K) rfl) @F T.eQ ot (!j 0 ae)) ah (bh _))))) (ai (aL za)) bo)
  (ai (aL (vm (aj G L T.oi T.iR (aa (!A @I (pv 0) ah) (!j 1 ae))) (yj (aj G L T.oi T.iR (aa (!A @I (pv 0) ah) (!j 2 ae))))))))),aw (σ':=[a' _,a' _,a' _]) rfl ?_⟩
 lia;refine p9 (cH Z) ?_;lia;rw[cH Y];exact q
theorem xt (T:Tx K mg a):FnOk P w K mg base CX0 4 a.dM a.rE ["inputs","nexts","outs"] N8:=by
 have G:FnOk P w K mg base CX0 1 a.fN a.o6 ["thing"] (uH K):=qj T;refine T.jr.1.okA xj fun ζ A outer s H vs Q E γ h=>?_;obtain⟨n,o,m,nx,os,rfl,t,q⟩:=h
 refine⟨_,((af (dU (PW.pt (qg (jb (gL (aj G γ T.tj T.jA (!j 0 ae)))) (qg (aU Ih (pv 0) ah (bh _)) (nQ (aU sx (pv 0) (jS (v:= .int 6) @F T.zR ⟨_,rfl⟩) (bh _)))))) (ai (mC Ur T.gI thr0 rfl @F T.o5 (aa bI ae))) bo)
  (af (dU (PW.pt (qg (jb (gL (aK (lV (K:=K) rfl) @F T.gN Ux (!j 1 (aa (sv (v:= .ty "list") @F T.g9 wq rfl) ae))))) (nQ (aU sx (aK (aP (K:=K) rfl) @F T.eQ ot (!j 1 ae)) (jS (v:= .int 120) @F T.nC ⟨_,rfl⟩) (bh _))))) (ai (mC Ur T.gI thr0 rfl @F T.o5 (aa bI ae))) bo)
  (af (dU (PW.pt (qg (jb (gL (aK (lV (K:=K) rfl) @F T.gN Ux (!j 2 (aa (sv (v:= .ty "list") @F T.g9 wq rfl) ae))))) (nQ (aU sx (aK (aP (K:=K) rfl) @F T.eQ ot (!j 2 ae)) (jS (v:= .int 6) @F T.pG ⟨_,rfl⟩) (bh _))))) (ai (mC Ur T.gI thr0 rfl @F T.o5 (aa bI ae))) bo)
  (ai (dU (jb (gL (aK (wV (K:=K) rfl rfl) @F T.OP X2 (aa (bD (osc:=ag jj) (ON:=["inputs","nexts","outs"]) (N:=["pair","nexts","inputs"]) (n:=1) (fx:=[1,0]) rfl rfl rfl @H (aG (K:=K) rfl (az jc (pv 1) (pv 2))) (aA @C) (!C (aq (i:=0) (show hH (["pair","nexts","inputs"]:B') from by decide +kernel) rfl @D) (aj (Fk T) γ T.Jm T.rX (!j 0 (aa (aK (aP (K:=K) rfl) @F T.eQ ot (!j 1 ae)) (!j 2 ae)))))) ae)))) (ai (mC Ur T.gI thr0 rfl @F T.o5 (aa bI ae))) bo)))))),aw (σ':=[a' _,a' _,a' _]) rfl ?_⟩
 lia;have m6:=t.m6;have ln:=t.ln;have lo:=t.lo;have hn:=t.n;have ho:=t.o;have δ:(refs nx).length=nx.length:=bx ..
 have θ:(refs os).length=os.length:=bx ..
 refine jh (gn @A) ?_;lia;refine jh (gn @A) ?_;lia;refine jh (gn @A) ?_;lia;refine pA hn ho (by rw[nr];omega) λp H2 η β ε=>?_;lia;intro D α;refine aH (xs:=refs nx++refs os) (λi ys H'=>Cs (λi ys=>ys=(lj i true).map V.bl) H2 D i ys H') (Cs.zero α rfl) (λi ys H' _ c=>SqL.of (c.same.get ε)) (λi x ys H' Z c=>?_) (λys H' c=>?_)
 ·have Z:(refs (nx++os))[i]? =a' x:=by unfold refs at Z ⊢;rw[ef];exact Z
  obtain⟨Y,L,rfl⟩:=ay Z;have hm:=ee L;have hi:=(b'.mp L).1;rw[eP] at hi;have hb:=t.bn Y hm;have ht:H Y.1=a' (.tup [nat Y.2.1,nat Y.2.2]):=(gz.mp hm).elim (t.pn Y) (t.po Y);have ο:=c.same.get (β.get hn);lia;rw[δ];refine⟨Y.1,Y.2.1,Y.2.2,nx.length,m,rfl,c.same.get (β.get ht),hb.1,hb.2,?_⟩;refine Cs.put α c.same c.at' c.len @A ?_;rw[c.pv,VE,ef];rfl
 ·have χ:=c.at';rw[c.pv] at χ;lia;refine DH (SqL.of χ) ?_;lia;refine jh (by rw[List.all_replicate];simp) ?_;lia;exact q H' (β.trans c.same)
theorem jV (T:Tx K mg a):FnOk P w K mg base CX0 5 a.bw a.kH ["self","inputs","nexts","outs"] (N4 a.ar):=by
 refine T.dc.1.okA p6 λa0 A outer s H vs Q E τ h=>?_;obtain⟨x,dx,n,o,m,nx,os,rfl,ε,t,q⟩:=h
 refine⟨_,((af (bT (aj (xt T) τ T.zO T.jr (!j 1 (!j 2 (!j 3 ae)))))
  (af (cR (K:=K) rfl (pv 0) (pv 1) rfl)
  (af (cR (K:=K) rfl (pv 0) (aX (dQ (K:=K) rfl) @F T.k4 TY (!j 2 ae)) rfl)
  (ai (cR (K:=K) rfl (pv 0) (aX (dQ (K:=K) rfl) @F T.k4 TY (!j 3 ae)) rfl)))))),aw (σ':=[a' _,a' _,a' _,a' _]) rfl ?_⟩
 lia;refine⟨n,o,m,nx,os,rfl,t,λH1 ζ=>?_⟩;have G:=cC t.n ε @E;have γ:=cC t.o ε @E;lia;refine cQ (ζ.get ε) T.ax T.bf @C rfl λH2 Y=>?_;have φ:=Y.oth _ _ G (ζ.get t.n);have ν:=Y.oth _ _ γ (ζ.get t.o);lia;intro ξ H3 ο θ ω;have α:ξ≠x:=λz=>by rw[z,Y.at'] at ο;cases ο
 lia;refine cQ (θ.get Y.at') T.ax T.cS (by show 1 < 1000;decide) rfl λH4 L=>?_;have υ:=L.oth _ _ γ (θ.get ν);have χ:=L.oth _ _ α ω;lia;intro to H5 ψ ι π;have η:to≠x:=λz=>by rw[z,L.at'] at ψ;cases ψ
 lia;refine cQ (ι.get L.at') T.ax T.d6 (by show 2 < 1000;decide) rfl fun ρ δ=>?_;have k:∀b ob,b≠x->H b=a' ob->ρ b=a' ob:=λb ob Z e=>δ.oth _ _ Z (ι.get (L.oth _ _ Z (θ.get (Y.oth _ _ Z (ζ.get e)))));lia;refine q ρ k ⟨⟨dx,ξ,to,δ.at',δ.oth _ _ α (ι.get χ),δ.oth _ _ η π⟩,fun β h=>k _ _ ?_ (t.pn β h),fun β h=>k _ _ ?_ (t.po β h)⟩
 ·exact cC (t.pn β h) ε @E
 ·exact cC (t.po β h) ε @E
theorem aV (T:Tx K mg a):FnOk P w K mg base CX0 1 a.bQ a.ng ["self"] (G0 a.ar):=by
 refine T.aQ.1.okA sh λG A outer s H vs Q E Y h=>?_;obtain⟨p,m,nx,os,rfl,ma,q⟩:=h;obtain⟨dx,L,to,ho,hn,Z⟩:=ma.ho;refine⟨_,((ai (aL (aK (aP (K:=K) rfl) @F T.eQ ot (aa (aJ (K:=K) rfl (pv 0) rfl) ae))))),aw (σ':=[a' _]) rfl ?_⟩;lia;refine aI ho T.ax T.cS rfl ?_;lia;unfold refs;rw[bx];exact q
theorem Io (T:Tx K mg a):FnOk P w K mg base CX0 2 a.mL a.Ei ["pair","state","row"] K6:=by
 refine T.uP.1.okA Hm λL A outer s H vs Q E G h=>?_;obtain⟨t,a1,b1,x,r,rfl,ht,ha,hb,q⟩:=h;refine⟨_,((ai (aL (kX ze (aj (zg T) G T.Eg T.w9 (aa (az lF (!A @I (pv 0) ah) (pv 1)) ae)) (aj (zg T) G T.Eg T.w9 (aa (az lF (!A @I (pv 0) ah) (pv 2)) ae)) (bh _))))),aw (σ':=[a' _,a' _,a' _]) rfl ?_⟩;lia;rw[d8];refine⟨a1&&&x,rfl,Uu X8 ha,?_⟩;lia;rw[d8];refine⟨b1&&&r,rfl,Uu X8 hb,?_⟩;lia;rw[GG];exact q
theorem qW (T:Tx K mg a):FnOk P w K mg base CX0 3 a.fj a.tM ["pairs","state","row"] (NZ K):=by
 refine T.iO.1.okA yS fun ζ A outer s H vs Q E γ h=>?_;obtain⟨r,ps,x,y,rfl,δ,pt,hl,hb,q⟩:=h;refine⟨_,((ai (aL (aj (lH T) γ T.og T.iP (aa (bD (osc:=ag kr) (ON:=["pairs","state","row"]) (N:=n20) (n:=2) (fx:=[1,2]) rfl rfl rfl @H (oS (K:=K) rfl @F T.dI (pv 0)) (wu (eK (aA @C) (eK (aA @C) qv))) (λ_ _ _ _ _=>⟨(qh (K:=K) (n:=2) rfl rfl (bL (aq (i:=0) (show hH (n20:B') from by decide +kernel) rfl @D) (bL (aq (i:=1) (show hH (n20:B') from by decide +kernel) rfl @D) i6))),(jP (gL (aj (Io T) γ T.LY T.uP (!j 1 (!j 2 (!j 3 ae)))))),(pv 0)⟩)) ae))))),aw (σ':=[a' _,a' _,a' _]) rfl ?_⟩;lia;refine .inr ⟨⟨_,δ⟩,?_⟩;intro D α;refine tD (xs:=refs ps) (λi ys H'=>Cs (λi ys=>∃qs:C',ys=qs.map nat/\(∀p∈qs,p < i)/\M.xm qs=M.tr2 (prs (ps.take i)) x y) H D i ys H') (Cs.zero α ⟨[],rfl,λ_ h=>hD h @E,rfl⟩) (λi ys H' _ c=>Same.tup c.same δ) (λi v ys H' p θ ε c fp Z η=>?_) (λys H' c=>?_)
 ·obtain⟨Y,L,rfl⟩:=ay ε;obtain⟨qs,G,β,ν⟩:=c.pv;have hm:=ee L;have hi:=(b'.mp L).1;have ht:=Z.get (c.same.get (pt Y hm));have ts:=KL x y L;lia;refine⟨Y.1,Y.2.1,Y.2.2,x,y,rfl,ht,(hb Y hm).1,(hb Y hm).2,?_⟩;cases υ:(M.od (Y.2.1&&&x)^^M.od (Y.2.2&&&y)) with
  | true=>
    rw[υ,wb rfl] at ts;lia;refine Cs.put α (c.same.trans Z) (Z.get c.at') c.len @A ⟨qs++[i],?_,λk hk=>?_,?_⟩
    ·rw[G,ef];rfl
    ·rcases gz.mp hk with h | h
     ·have:=β k h;omega
     ·rw[gs.mp h];omega
    ·rw[M.xm_snoc,ν,ts]
  | false=>
    rw[υ,qb hB,UJ] at ts;lia;refine Cs.skip (c.same.trans Z) (Z.get c.at') c.len ⟨qs,G,λk hk=>?_,?_⟩
    ·have:=β k hk;omega
    ·rw[ν,ts]
 ·obtain⟨qs,G,β,ν⟩:=c.pv;rw[gU] at β ν;have χ:=c.at';rw[G] at χ;lia;refine⟨D,qs,rfl,χ,λk hk=>by have:=β k hk;omega,?_⟩;rw[ν,i'];exact q _ c.same
theorem eG (T:Tx K mg a):FnOk P w K mg base (CX1 P w) 3 a.aZ a.iN ["self","state"] (Qa K a.ar a.dY):=by
 refine T.bC.1.okX nq (λvs H Q E h=>?_) (λY A outer s H vs Q E L h=>?_)
 ·obtain⟨p,m,nx,os,x,k,rfl,_⟩:=h;rfl
 ·obtain⟨p,m,nx,os,x,k,rfl,ma,hk,G,ζ⟩:=h;obtain⟨dx,α,to,ho,hn,Z⟩:=ma.ho;refine⟨_,((ai (dU (jb (gL (aj (oU T) L T.oi T.iR (!j 1 (aa (aK (aP (K:=K) rfl) @F T.eQ ot (aa (aJ (K:=K) rfl (pv 0) rfl) ae)) ae))))) (ai (mC Ur T.jB jg rfl @F T.wB (aa bI ae))) bo))),aw (σ':=[a' _,a' _]) rfl ?_⟩;lia;refine aI ho T.ax T.cS rfl ?_;lia;rw[gU];cases hm:pC x (nx.length:Int) with
  | false=>
    lia;exact⟨by rw[nr];decide,ζ hm⟩
  | true=>
    lia;exact G hm
theorem ff (T:Tx K mg a):FnOk P w K mg base (CX1 P w) 4 a.cv a.pU ["self","state","row"] (K1 K a.ar a.dY):=by
 refine T.cA.1.okX vb (λvs H Q E h=>?_) (fun ι A outer s H vs Q E L h=>?_)
 ·obtain⟨p,m,nx,os,x,y,kx,ε,rfl,_⟩:=h;rfl
 ·obtain⟨p,m,nx,os,x,y,kx,ε,rfl,ma,g,Y,η,δ,ζ⟩:=h;obtain⟨dx,α,to,ho,hn,Z⟩:=ma.ho;have ln:=g.ln;have lo:=g.lo
  refine⟨_,((af (bT (eI (pv 0) T.ax T.fi (eG T) (L.mono @C) T.bC.2 .nil jg (!j 1 ae)))
   (af (dU (jb (gL (aj (oU T) L T.oi T.iR (!j 2 (aa (aJ (K:=K) rfl (pv 0) rfl) ae))))) (ai (mC Ur T.jB jg rfl @F T.wB (aa bI ae))) bo)
   (ai (aL (dF (aa (aj (qW T) L T.tL T.iO (aa (aJ (K:=K) rfl (pv 0) rfl) (!j 1 (!j 2 ae)))) (aa (aj (qW T) L T.tL T.iO (aa (aJ (K:=K) rfl (pv 0) rfl) (!j 1 (!j 2 ae)))) ae)))))))),aw (σ':=[a' _,a' _,a' _]) rfl ?_⟩
  lia;refine c8 ho rfl ?_;lia;refine⟨p,m,nx,os,x,kx,rfl,ma,Y,λhm=>?_,λhm=>ζ (.inl hm)⟩;lia;refine aI ho T.ax T.bf rfl ?_;lia;cases ψ:pC y (m:Int) with
  | false=>
    lia;exact⟨by rw[nr];decide,ζ (.inr ψ)⟩
  | true=>
    obtain⟨a1,rfl,ha⟩:=uL hm;obtain⟨b1,rfl,hb⟩:=uL ψ;lia;refine aI ho T.ax T.d6 rfl ?_;lia;refine⟨to,os,a1,b1,rfl,SqT.of Z,ma.hs,@A,g.b2,λH2 G=>?_⟩;lia;refine aI (G.get ho) T.ax T.cS rfl ?_;lia;refine⟨α,nx,a1,b1,rfl,SqT.of (G.get hn),ma.hn.same G,@A,g.b1,fun ο γ=>?_⟩;lia;intro t ν ξ β θ;exact δ a1 b1 rfl rfl ha hb t ν (G.trans (γ.trans β)) θ
theorem sG (T:Tx K mg a):FnOk P w K mg base (CX1 P w) 5 a.bP a.nc ["self","rows","state"] (KO K a.ar a.dY):=by
 refine T.d3.1.okX dq (λvs H Q E h=>?_) (λa5 A outer s H vs Q E χ h=>?_)
 ·obtain⟨p,φ,m,nx,os,x,xs,rfl,_⟩:=h;rfl
 ·obtain⟨p,φ,m,nx,os,x,xs,rfl,α,qQ,ζ⟩:=h;obtain⟨dx,tn,to,ho,hn,Z⟩:=α.ma.ho;obtain⟨kx,υ⟩:=α.kx;have ln:=α.ln;have a4:=α.sq
  refine⟨_,((af (bT (eI (pv 0) T.ax T.fi (eG T) (χ.mono @C) T.bC.2 .nil jg (!j 2 ae)))
   (af (aD (i:=3) dq.nd rfl @D (c6 ae))
   (af (dE (vn ⟨rfl,rfl⟩) rfl (aG (K:=K) rfl (pv 1)) (aq (i:=4) dq.nd rfl @D) (af (aD (i:=5) dq.nd rfl @D (eI (pv 0) T.ax T.fX (ff T) (χ.mono @C) T.cA.2 .nil jg (!j 2 (!j 4 ae))))
   (af (bT (gM (K:=K) rfl T6 UC UB iL (pv 3) (aa (!A @I (pv 5) ah) ae)))
   (ai (aD (i:=2) dq.nd rfl @D (!A @I (pv 5) ah))))))
   (ai (aL (dF (!j 3 (!j 2 ae))))))))),aw (σ':=[a' _,a' _,a' _,f',f',f']) rfl ?_⟩
  lia;refine c8 ho rfl ?_;lia;refine⟨p,m,nx,os,x,kx,rfl,α.ma,υ,λhm=>?_,λhm=>ζ (.inl hm) H (Same.refl _)⟩;obtain⟨ρ,rfl,θ⟩:=uL hm;lia;intro D H1 G s1 e1;lia;refine iF (xs:=xs) (λi σ H'=>∃(rs:C') (v τ:T8 V),σ=[a' (.ref p),a' (.ref φ),a' (nat (M.wst (prs nx) ρ rs)),a' (.ref D),v,τ]/\Same H H'/\H' D=a' (.lst ((M.wan (prs nx) (prs os) ρ rs).map nat))/\xs.take i=rs.map nat/\∀r∈rs,r < 2 ^ m) ⟨[],f',f',rfl,s1,e1,rfl,λ_ h=>hD h @E⟩ (λi σ H' _ ⟨_,_,_,_,e,_⟩=>Same.seq e α.sq) ?_ ?_
  ·rintro i y σ H' ν ⟨rs,v,τ,rfl,β,ω,et,δ⟩;obtain⟨ky,π⟩:=α.ks y (ee ν);have hi:=(b'.mp ν).1;have a3:rs.length=i:=by have:=T4 TX et;rw[wh,bx] at this;omega
   have ε:M.wst (prs nx) ρ rs < 2 ^ nx.length:=by have:=M.wst_lt (ps:=prs nx) (rs:=rs) (x:=ρ) (by rw[aE];exact θ);rwa [aE] at this
   lia;refine c8 (β.get ho) rfl ?_;lia;refine⟨p,m,nx,os,nat (M.wst (prs nx) ρ rs),y,"int",ky,rfl,α.ma.same β,α.g,rfl,IY π β,λa1 b1 ea eb ha hb t ψ L ξ=>?_,fun η=>?_⟩
   ·have ea:=gj ea;subst ea;subst eb;lia;refine mx (L.get ω) (by rw[bx,M.wan_len,nr];omega) fun ι Y=>?_;have e8:=Y.oth _ _ (cC ξ (L.get ω) @E) ξ;lia;refine⟨rs++[b1],?_⟩;rw[M.wst_snoc,M.wan_snoc,ef];refine⟨_,_,rfl,λb o e=>Y.oth _ _ (ao e G) (L.get (β.get e)),Y.at',?_,λr ο=>?_⟩
    ·rw[Y5,et,ν,ef];rfl
    ·rcases gz.mp ο with h | h
     ·exact δ r h
     ·rw[gs.mp h];exact hb
   ·rcases η with h | h
    ·rw[cH ε] at h;cases h
    ·exact ζ (.inr ⟨y,ee ν,h⟩) H' β
  ·rintro σ H' ⟨rs,v,τ,rfl,β,ω,et,δ⟩;rw[i'] at et;lia;intro t ψ γ L ξ;exact qQ ρ rs ⟨rfl,et,θ,δ⟩ t D ψ G (β.trans L) ξ (L.get ω)
theorem xx (T:Tx K mg a):FnOk P w K mg base (CX1 P w) 6 a.cw a.mO ["self","rows","state"] (P4 K a.ar a.dY):=by
 refine T.g6.okX xn (λvs H Q E h=>?_) (fun ε A outer s H vs Q E γ h=>?_)
 ·obtain⟨p,G,m,nx,os,x,xs,rfl,_⟩:=h;rfl
 ·obtain⟨p,G,m,nx,os,x,xs,rfl,L,β,ζ⟩:=h;obtain⟨dx,η,to,ho,hn,Z⟩:=L.ma.ho;refine⟨_,((ai (aL (!A @I (eI (pv 0) T.ax T.uj (sG T) (γ.mono @C) T.d3.2 .nil jg (!j 1 (!j 2 ae))) ah)))),aw (σ':=[a' _,a' _,a' _]) rfl ?_⟩;lia;refine c8 ho rfl ?_;lia;refine⟨p,G,m,nx,os,x,xs,rfl,L,λa1 rs g t D H2 Y α et δ=>?_,ζ⟩;lia;exact β a1 rs g D H2 Y α δ
theorem lL (T:Tx K mg a):FnOk P w K mg base (CX1 P w) 7 a.bR a.nh ["self","which","turns"] (G2 K a.ar a.dY):=by
 refine T.c7.1.okX ly (λvs H Q E h=>?_) (λa0 A outer s H vs Q E ρ h=>?_)
 ·obtain⟨p,m,nx,os,x,k,α,rfl,_⟩:=h;rfl
 ·obtain⟨p,m,nx,os,x,k,α,rfl,ma,g,hk,hT,φ,ζ⟩:=h;obtain⟨dx,tn,to,ho,hn,Z⟩:=ma.ho;have m6:=g.m6
  refine⟨_,((af (dU (PW.pt (qg (jb (gL (aj (qj T) ρ T.tj T.jA (!j 1 ae)))) (qg (aU Ih (pv 1) ah (bh _)) (nQ (aU Rb (pv 1) (aJ (K:=K) rfl (pv 0) rfl) (bh _)))))) (ai (mC Ur T.jB jg rfl @F T.wB (aa bI ae))) bo)
   (af (aD (i:=3) ly.nd rfl @D (az jc (c6 (aa (az g8 ah (pv 1)) ae)) (az Ib (c6 (aa ah ae)) (pv 2))))
   (ai (aL (eI (dvs:=[.int 0]) (pv 0) T.ax T.zy (xx T) (ρ.mono @C) T.mT (.cons T.yM .nil) jg (aa (kz (ko (K:=K) rfl) (pv 3) su (kW (pv 2))) ae))))))),aw (σ':=[a' _,a' _,a' _,f']) rfl ?_⟩
  lia;cases x with
  | int i=>
    have hk:k="int":=hk;subst hk;lia;by_cases δ:i < 0
    ·refine p9 (gB δ) ?_;lia;exact⟨by rw[nr];decide,ζ (by show(decide ((0:Int)<=i)&&decide (i < (m:Int)))=false;rw[gn @A];rfl)⟩
    ·refine jh (gn δ) ?_;lia;refine aI ho T.ax T.bf rfl ?_;lia;by_cases h1:(m:Int)<=i
     ·refine p9 (gB h1) ?_;lia;exact⟨by rw[nr];decide,ζ (by show(decide ((0:Int)<=i)&&decide (i < (m:Int)))=false;rw[gn (show ¬i < (m:Int) by omega),US])⟩
     ·refine jh (gn h1) ?_;obtain⟨j,rfl⟩:=UH (show 0<=i by omega);lia;rw[shl1];intro D1 H1 G ο e1;lia;intro D2 H2 f2 γ e2;lia;refine Om e2 @A @A (by rw[nr,ov];simp;omega) λD3 H3 f3 β τ=>?_;rw[ov,List.flatten_replicate_singleton] at τ;refine pA (β.get (γ.get e1)) τ (by rw[Uv,nr];simp;omega) fun ω H4 f4 ν e4=>?_;have er:[nat (2 ^ j)]++lj α (V.int 0)=(2 ^ j::lj α 0).map nat:=by rw[Uq,List.map_replicate];rfl
      rw[er] at e4;lia;refine c8 (ν.get (β.get (γ.get (ο.get ho)))) rfl ?_;lia;intro D5 H5 ψ ι π;rw[Ej _ α (by rw[bx,U4,Uv];omega),<-YN,M.pulse_eq] at π;have ξ:=ο.trans (γ.trans (β.trans (ν.trans ι)));lia;refine⟨p,D5,m,nx,os,nat 0,(M.pulse j α).map nat,rfl,⟨ma.same ξ,g,⟨"int",rfl⟩,SqL.of π,Kj.nats _ _ _,by rw[bx,M.pulse_len];omega⟩,λa1 rs gd D H6 Y υ eD=>?_,fun θ=>?_⟩
      ·obtain⟨ea,L,_,_⟩:=gd;have ea:=gj ea;subst ea
       have L:rs=M.pulse j α:=by
        have:=T4 (WK λv:V=>match v with | .int i=>i.toNat | _=>0) L;rw[TU,TU] at this;exact(this.symm.trans (XA _)) ▸ (XA _).symm ▸ rfl
       subst L
       have η:H D=none:=by
        cases hx:H D with
        | none=>rfl
        | some v=>have:=ξ.get hx;rw[Y] at this;cases this
       exact φ j rfl @A D H6 η (ξ.trans υ) eD
      ·rcases θ with h | ⟨y,χ,h⟩
       ·rw[show pC (nat 0) (nx.length:Int)=true from cH (T5 _)] at h;cases h
       ·obtain⟨r,ε,rfl⟩:=hF.mp χ;rw[cH (M.pulse_lt (show j < m by omega) α r ε)] at h;cases h
  | bl b=>have hk:k="bool":=hk;subst hk;lia;exact⟨by rw[nr];decide,ζ rfl⟩
  | non=>have hk:k="NoneType":=hk;subst hk;lia;exact⟨by rw[nr];decide,ζ rfl⟩
  | str z=>have hk:k="str":=hk;subst hk;lia;exact⟨by rw[nr];decide,ζ rfl⟩
  | ref p2=>
    rcases hk with ⟨rfl,_⟩ | ⟨rfl,_⟩ | ⟨rfl,_⟩<;>lia<;>exact⟨by rw[nr];decide,ζ rfl⟩
  | _=>exact Uk hk
theorem nU (T:Tx K mg a):FnOk P w K mg base (CX1 P w) 4 a.cx a.pV ["self","mask"] (K3 K a.ar a.dY):=by
 refine T.eg.1.okX du (λvs H Q E h=>?_) (λa3 A outer s H vs Q E ε h=>?_)
 ·obtain⟨p,m,nx,os,x,k,rfl,_⟩:=h;rfl
 ·obtain⟨p,m,nx,os,x,k,rfl,ma,g,hk,δ,ζ⟩:=h;obtain⟨dx,tn,to,ho,hn,φ⟩:=ma.ho;have ln:=g.ln
  refine⟨_,((af (bT (eI (pv 0) T.ax T.fi (eG T) (ε.mono @C) T.bC.2 .nil jg (!j 1 ae)))
   (af (aD (i:=2) du.nd rfl @D ah)
   (af (aD (i:=3) du.nd rfl @D ah)
   (af (dE (vn ⟨rfl,rfl⟩) rfl (aG (K:=K) rfl (aj (oV T) ε T.rA T.ki (!j 1 ae))) (aq (i:=4) du.nd rfl @D) (af (aD (i:=2) du.nd rfl @D (az lE (pv 2) (!A @I (!A @I (aJ (K:=K) rfl (pv 0) rfl) (pv 4)) ah)))
   (ai (aD (i:=3) du.nd rfl @D (az lE (pv 3) (!A @I (!A @I (aJ (K:=K) rfl (pv 0) rfl) (pv 4)) ah))))))
   (ai (aL (dF (!j 2 (!j 3 ae)))))))))),aw (σ':=[a' _,a' _,f',f',f']) rfl ?_⟩
  lia;refine c8 ho rfl ?_;lia;refine⟨p,m,nx,os,x,k,rfl,ma,hk,λhm=>?_,ζ⟩;obtain⟨ρ,rfl,Y⟩:=uL hm;lia;refine⟨ρ,rfl,h7 Y @A,λD H1 G β ν=>?_⟩;rw[M.pl_up Y @A] at ν;generalize ι:nx.map (λq=>q.2.1)=As at δ;generalize θ:nx.map (λq=>q.2.2)=Bs at δ;have τ:As.length=nx.length:=by rw[<-ι,bx]
  have π:Bs.length=nx.length:=by rw[<-θ,bx]
  lia;refine iF (xs:=(M.pl nx.length ρ).map nat) (λi σ H'=>∃v,σ=[a' (.ref p),a' (nat ρ),a' (nat (((M.pl nx.length ρ).take i).foldl (λa p=>a^^^As.getD p 0) 0)),a' (nat (((M.pl nx.length ρ).take i).foldl (λa p=>a^^^Bs.getD p 0) 0)),v]/\H'=H1) ⟨f',rfl,rfl⟩ (λi σ H' _ ⟨_,_,e⟩=>by rw[e];exact SqL.of ν) ?_ ?_
  ·rintro i y σ H' υ ⟨v,rfl,rfl⟩;obtain⟨k,γ,rfl⟩:=ay υ;have Z:k < nx.length:=U8.mp (UT.mp (ee γ)).1;obtain⟨α,L⟩:∃α,nx[k]? =a' α:=⟨_,ed Z⟩;have η:atI (refs nx) (k:Int)=a' (.ref α.1):=di (by unfold refs;rw[gA,L];rfl);have ht:=β.get (ma.hn α (ee L));have ο:=β.get hn;have ψ:As.getD k 0=α.2.1:=by rw[<-ι,ec,gA,L];rfl
   have χ:Bs.getD k 0=α.2.2:=by rw[<-θ,ec,gA,L];rfl
   lia;refine aI (β.get ho) T.ax T.cS rfl ?_;lia;refine aI (β.get ho) T.ax T.cS rfl ?_;lia;refine⟨a' (nat k),?_,rfl⟩;rw[dB,dB,take_succ γ,V1,V1];show _=[_,_,a' (nat (_^^^As.getD k 0)),a' (nat (_^^^Bs.getD k 0)),_];rw[ψ,χ]
  ·rintro σ H' ⟨v,rfl,rfl⟩;rw[bx,i',M.sm_places As ρ (by rw[τ];exact Y) nx.length @A,M.sm_places Bs ρ (by rw[π];exact Y) nx.length @A];lia;intro t H2 f2 ξ ω;exact δ ρ rfl Y t H2 (β.trans ξ) ω
theorem eJ (T:Tx K mg a):FnOk P w K mg base CX0 1 a.bE a.lR ["self"] (EL a.ar):=by
 refine T.bW.1.okA qK λG A outer s H vs Q E Y h=>?_;obtain⟨p,m,nx,os,rfl,ma,q⟩:=h;obtain⟨dx,L,to,ho,hn,Z⟩:=ma.ho;refine⟨_,((ai (aL (aK (aP (K:=K) rfl) @F T.eQ ot (aa (aJ (K:=K) rfl (pv 0) rfl) ae))))),aw (σ':=[a' _]) rfl ?_⟩;lia;refine aI ho T.ax T.d6 rfl ?_;lia;unfold refs;rw[bx];exact q
end
theorem mW (T:Tx K mg a):FnOk P w K mg base CX0 1 a.b5 a.oA ["self","mask"] (P7 a.bG):=by
 refine T.dC.1.okA dS λa0 A outer s H vs Q E υ h=>?_;obtain⟨p,d,f,n,G,x,rfl,st,q⟩:=h;have τ:=rz υ;obtain⟨dx,ho⟩:=st.ho;obtain⟨es,hd,ht,g,l⟩:=st.he
 refine⟨_,((af (aD (i:=2) dS.nd rfl @D ah)
  (af (y6 xo (HQ (HZ τ (az qU (qi (K:=K) rfl UP Um Ul qp (pv 1)) ah) (aJ (K:=K) rfl (pv 0) rfl))) (af (aD (i:=3) dS.nd rfl @D (nR τ (aJ (K:=K) rfl (pv 0) rfl) (az qU (qi (K:=K) rfl UP Um Ul qp (pv 1)) ah) (λ_ _=>rfl)))
  (af (aD (i:=1) dS.nd rfl @D (az lE (pv 1) (!A @I (pv 3) ah)))
  (ai (aD (i:=2) dS.nd rfl @D (az lE (pv 2) (!A @I (pv 3) ah)))))))
  (ai (aL (dF (!j 1 (!j 2 ae)))))))),aw (σ':=[a' _,a' _,f',f']) rfl ?_⟩
 lia;refine⟨fun μ σ' H'=>∃Y v,σ'=[a' (.ref p),a' (nat (x^^^M.sm G Y)),a' (nat Y),v]/\H'=H/\Y < 2 ^ G.length/\μ=x^^^M.sm G Y/\M.Frs G Y,⟨x,0,f',?_,rfl,T5 _,?_,M.Frs.zero _⟩,?_⟩
 ·rw[M.sm_zero,UJ];rfl
 ·rw[M.sm_zero,UJ]
 rintro μ σ' H' ⟨Y,v,rfl,rfl,θ,rfl,β⟩;lia;refine aI ho T.gH T.d5 rfl ?_;refine QB hd ?_;lia;generalize hm:x^^^M.sm G Y=m;refine iteB (fun γ=>?_) (fun γ=>?_)
 ·rcases uS es ((Tw (m:Int):Nat) - 1:Int) with ⟨e,he,ε,ev⟩ | ⟨_,η⟩
  ·have α:m≠0:=λz=>by rw[z,Bu] at ε;omega
   have hl2:m.log2=e.m.log2:=by rw[o7 α] at ε;omega
   have L:(e.m,e.p)∈es.map (λe=>(e.m,e.p)):=hF.mpr ⟨e,he,rfl⟩;have e0:=g.nz _ L;refine⟨λZ H2=>∃χ v,Z=[a' (.ref p),a' (nat (x^^^M.sm G χ)),a' (nat χ),v]/\H2=H'/\χ < 2 ^ G.length/\x^^^M.sm G χ < m/\M.Frs G χ,λZ H2 ⟨χ,v,h1,h2,ω,ψ,φ⟩=>⟨_,ψ,χ,v,h1,h2,ω,rfl,φ⟩,?_⟩;lia;refine aI ho T.gH T.d5 rfl ?_;lia;refine Hs hd ev ?_;have ρ:=ht e he;lia;refine⟨Y^^^e.p,a' (.ref e.a),?_,rfl,M.xor_lt_pow θ (g.lt _ L),?_,β.xor (g.sub _ L)⟩
   ·rw[M.sm_xor,g.sm _ L,<-UG,hm,dB,dB]
   ·rw[M.sm_xor,g.sm _ L,<-UG,hm];exact M.xor_less α e0 hl2
  ·rw[η] at γ;cases γ
 ·lia;intro t H2 f2 ο e2;subst hm;refine q t H2 Y f2 ο e2 θ (fun ν y π ξ hl2=>?_) β;rcases uS es ((Tw ((x^^^M.sm G Y:Nat):Int):Nat) - 1:Int) with ⟨e,he,ε,ev⟩ | ⟨h1,η⟩
  ·rw[ev] at γ;cases γ
  ·obtain⟨e,he,ζ⟩:=g.all y π ξ;obtain⟨ι,δ,rfl⟩:=hF.mp he;refine h1 ι δ ?_;have ζ:ι.m.log2=y.log2:=ζ;rw[o7 ν,ζ,hl2];omega
theorem AG (T:Tx K mg a):FnOk P w K mg base CX0 2 a.dP a.wQ ["self","place","row"] (P8 a.bG):=by
 refine T.kl.1.okA nL fun ω A outer s H vs Q E θ h=>?_;obtain⟨p,d,f,n,G,r,rfl,st,hl,q⟩:=h;have υ:=rz θ;obtain⟨dx,ho⟩:=st.ho
 refine⟨_,((af (aD (i:=3) nL.nd rfl @D (eW (pv 0) T.gH T.nY (mW T) (θ.mono @C) T.dC.2 .nil b0 (!j 2 ae)))
  (af (aD (i:=4) nL.nd rfl @D (az lE (!A @I (pv 3) ah) (az g8 ah (pv 1))))
  (ai (dU (aU nu (!A @I (pv 3) ah) ah (bh _)) (ai (bT (gM (K:=K) rfl T6 UC UB iL (aJ (K:=K) rfl (pv 0) rfl) (!j 4 ae)))) (af (bT (gM (K:=K) rfl T6 UC UB iL (aJ (K:=K) rfl (pv 0) rfl) (!j 1 ae)))
  (ai (y8 υ (aJ (K:=K) rfl (pv 0) rfl) (az qU (qi (K:=K) rfl UP Um Ul qp (!A @I (pv 3) ah)) ah) (dF (aa (!A @I (pv 3) ah) (!j 4 ae))) rfl)))))))),aw (σ':=[a' _,a' _,a' _,f',f']) rfl ?_⟩
 lia;refine aN ho rfl ?_;lia;refine⟨p,d,f,n,G,r,rfl,st,λt H2 γ f2 β π ν hn ζ=>?_⟩;lia;rw[shl1,dB];have Z:=β.get ho;have δ:=st.same β;have lf:=M.fr_len G;refine iteB (fun ε=>?_) (fun ε=>?_)
 ·have hz:r^^^M.sm G γ=0:=by have:=V.int.inj (TF ε);omega
  obtain⟨nms,τ,ο⟩:=δ.hn;have ln:=ο.len;lia;refine aI Z T.gH T.kE rfl ?_;lia;refine mx τ (by rw[bx];exact aM @A) fun ρ L=>?_;lia;exact q ρ (λb o h1 h2 ξ e=>L.oth _ _ ξ (β.get e)) (δ.null ν hz ο τ L)
 ·have hz:r^^^M.sm G γ≠0:=λz=>by rw[z] at ε;exact hD ε @C
  obtain⟨es,hd,ht,g,le⟩:=δ.he;have φ:=δ.hf;lia;refine aI Z T.gH T.gq rfl ?_;lia;refine mx δ.hf (by rw[bx];exact aM @A) fun ρ L=>?_;have e3:=L.oth _ _ (cC π δ.hf @E) π;have α:=L.oth _ _ (cC Z δ.hf @E) Z;have η:=L.oth _ _ (cC hd δ.hf @E) hd;lia;intro t' H4 f4 Y ψ;lia;refine aI (Y.get α) T.gH T.d5 rfl ?_;lia;refine Ov (Y.get η) (by unfold rq;rw[bx];exact aM @A) λH5 ι=>?_;lia;refine q H5 (λb o h1 h2 ξ e=>ι.oth _ _ h1 (Y.get (L.oth _ _ h2 (β.get e)))) (δ.more ν hz (hn hz) ζ L Y ψ hd ht g le ?_);have χ:(((r^^^M.sm G γ).log2 + 1:Nat):Int) - 1=(((r^^^M.sm G γ).log2:Nat):Int):=by omega
  rw[o7 hz,χ] at ι;exact ι
theorem lK (T:Tx K mg a):FnOk P w K mg base CX0 3 a.bN a.m8 ["self","rows"] (NU a.bG):=by
 refine T.d0.1.okA hV λa3 A outer s H vs Q E hr h=>?_;obtain⟨x,dx,r,γ,rfl,hw,hl,υ,q⟩:=h;have hu:=rz hr;have rx:r≠x:=cC hw υ @E
 refine⟨_,((af (cR (K:=K) rfl (pv 0) qS rfl)
  (af (cR (K:=K) rfl (pv 0) (c6 ae) rfl)
  (af (cR (K:=K) rfl (pv 0) (c6 ae) rfl)
  (ai (dE xo rfl (B9 (K:=K) rfl @F T.dI (pv 1)) (yi rfl (bL (aq (i:=2) hV.nd rfl @D) (bL (aq (i:=3) hV.nd rfl @D) i6))) (ai (bT (eW (pv 0) T.gH T.Cq (AG T) (hr.mono @C) T.kl.2 .nil b0 (!j 2 (!j 3 ae))))))))))),aw (σ':=[a' _,a' _,f',f']) rfl ?_⟩
 lia;intro d H1 G s1 e1;lia;have L:d≠x:=λz=>by rw[z,υ] at G;cases G
 refine cQ (s1.get υ) T.gH T.d5 @C rfl λH2 θ=>?_;lia;intro f H3 f3 ο e3;lia;have ζ:f≠x:=λz=>by rw[z,θ.at'] at f3;cases f3
 refine cQ (ο.get θ.at') T.gH T.gq (by show 1 < 1000;decide) rfl λH4 ε=>?_;lia;intro n H5 ψ ι π;lia;have ρ:n≠x:=λz=>by rw[z,ε.at'] at ψ;cases ψ
 refine cQ (ι.get ε.at') T.gH T.kE (by show 2 < 1000;decide) rfl λH6 δ=>?_;have k1:∀b o,b≠x->H b=a' o->H2 b=a' o:=λb o Z e=>θ.oth _ _ Z (s1.get e);have k2:∀b o,b≠x->H b=a' o->H4 b=a' o:=λb o Z e=>ε.oth _ _ Z (ο.get (k1 b o Z e));have k3:∀b o,b≠x->H b=a' o->H6 b=a' o:=λb o Z e=>δ.oth _ _ Z (ι.get (k2 b o Z e));have nd:∀b o,H b=a' o->b≠d:=λb o e=>ao e G;have α:∀b o,b≠x->H b=a' o->b≠f:=λb o Z e=>ao (k1 b o Z e) f3;have nn:∀b o,b≠x->H b=a' o->b≠n:=λb o Z e=>ao (k2 b o Z e) ψ;have η:=ε.oth _ _ ζ e3;have fn:f≠n:=ao η ψ;have χ:H6 d=a' (.dK (rq [])):=δ.oth _ _ L (ι.get (ε.oth _ _ L (ο.get (θ.oth _ _ L e1))));have Y:=k3 _ _ rx hw;lia;refine uM (xs:=γ.map nat) (λi σ H'=>∃v τ,σ=[a' (.ref x),a' (.ref r),v,τ]/\StA H' a.bG x d f n (γ.take i)/\∀b o,b≠x->H b=a' o->H' b=a' o) ?_ ?_ ?_ ?_
 ·refine⟨f',f',rfl,⟨⟨dx,δ.at'⟩,⟨[],χ,λ_ h=>hD h @E,M.Ech.nil,rfl⟩,δ.oth _ _ ζ (ι.get η),⟨[],δ.oth _ _ ρ π,M.Nul.nil⟩,fn⟩,k3⟩
 ·rintro i σ H' _ ⟨v,τ,_,_,k⟩;exact SqL.of (k _ _ rx hw)
 ·rintro i y σ H' p H7 hy ⟨v,τ,rfl,st,k⟩ fp ξ e7;obtain⟨ri,β,rfl⟩:=ay hy;obtain⟨a0,φ⟩:=(st.same ξ).ho;lia;refine aN φ rfl ?_;lia;have tl:=Dy β;refine⟨x,d,f,n,γ.take i,ri,by rw[tl],st.same ξ,by rw[tl];have:=(b'.mp β).1;omega,λH8 ω ν=>?_⟩;lia;refine⟨_,_,rfl,by rw[take_succ β];exact ν,λb o Z e=>ω b o (nd b o e) (α b o Z e) (nn b o Z e) (ξ.get (k b o Z e))⟩
 ·rintro σ H' ⟨v,τ,rfl,st,k⟩;rw[bx,i'] at st;lia;exact q H' d f n k st
theorem Ce (T:Tx K mg a):FnOk P w K mg base CX0 5 a.wF a.Nl ["rows"] Od:=by
 refine T.yK.1.okA Oj fun ζ A outer s H vs Q E Z h=>?_;obtain⟨r,G,rfl,hw,hl,q⟩:=h;refine⟨_,((ai (aL (aX (cM (K:=K) rfl) @F T.g9 wq (aa (aJ (K:=K) rfl (jR T.Kh (lK T) (Z.mono @C) @F T.Jr T.d0.2 .nil b0 (!j 0 ae)) rfl) ae))))),aw (σ':=[a' _]) rfl ?_⟩;lia;intro x dx H2 β L δ;refine⟨x,dx,r,G,rfl,L.get hw,hl,δ,fun θ d f n k st=>⟨rfl,?_⟩⟩;obtain⟨ε,ho⟩:=st.ho;refine aI ho T.gH T.gq rfl ?_;have hf:=st.hf;lia;intro D η α Y γ;have hs:Same H θ:=λb o e=>k b o (ao e β) (L.get e);exact q D η (hs.free α) (hs.trans Y) γ
theorem sy (T:Tx K mg a):FnOk P w K mg base CX0 5 a.j5 a.Bb ["rows","wish"] EJ:=by
 refine T.l6.1.okA r9 λa3 A outer s H vs Q E θ h=>?_;obtain⟨r,G,x,rfl,hw,hl,γ,ο,ρ,α,Z⟩:=h
 refine⟨_,((af (aD (i:=2) r9.nd rfl @D (jR T.Kh (lK T) (θ.mono @C) @F T.Jr T.d0.2 .nil b0 (!j 0 ae)))
  (af (aD (i:=3) r9.nd rfl @D (eW (pv 2) T.gH T.nY (mW T) (θ.mono @C) T.dC.2 .nil b0 (!j 1 ae)))
  (af (dU (aU nu (!A @I (pv 3) ah) ah (bh _)) (ai (aL (dF (aa bI (aa (aj (oV T) θ T.rA T.ki (aa (!A @I (pv 3) ah) ae)) ae))))) bo)
  (ai (aL (dF (aa bI (aa (eW (pv 2) T.gH T.vI (uc T) (θ.mono @C) T.fG.2 .nil b0 (aa (az qU (qi (K:=K) rfl UP Um Ul qp (!A @I (pv 3) ah)) ah) ae)) ae))))))))),aw (σ':=[a' _,a' _,f',f']) rfl ?_⟩
 lia;intro p dx H2 f2 s2 e2;refine⟨p,dx,r,G,rfl,s2.get hw,hl,e2,λH3 d f n k st=>⟨rfl,?_⟩⟩;obtain⟨a0,ho⟩:=st.ho;have hs:Same H H3:=λb o e=>k b o (ao e f2) (s2.get e);lia;refine aN ho rfl ?_;lia;refine⟨p,d,f,n,G,x,rfl,st,λt H4 L f4 Y e4 hq hn υ=>?_⟩;lia;refine iteB (fun ν=>?_) (fun ν=>?_)
 ·have hz:x^^^M.sm G L=0:=by have:=V.int.inj (TF ν);omega
  have τ:M.sm G L=x:=by
   have:=T4 (x^^^·) hz;simp only[<-UG,Vx,VR,UJ] at this;exact this
  lia;refine⟨L,rfl,gm hq (hJ @C hl),λD H5 f5 ι π=>?_⟩;lia;intro t' χ f6 ζ φ;exact α t' D χ L (zS (hs.trans Y) f5) (hs.trans (Y.trans (ι.trans ζ))) φ (ζ.get π) ⟨hq,τ,υ⟩
 ·have hz:x^^^M.sm G L≠0:=λz=>by rw[z] at ν;exact hD ν @C
  have β:x^^^M.sm G L < 2 ^ 1000:=M.xor_lt_pow ο (M.span_lt γ (M.sm_span G L));have δ:=M.log2_under hz β;have ω:¬M.Span G x:=fun η=>hn hz _ (M.span_xor η (M.sm_span G L)) hz rfl;have ε:(M.fr G).length < 64:=ρ.resolve_left ω;have ez:(((x^^^M.sm G L).log2 + 1:Nat):Int) - 1=(((x^^^M.sm G L).log2:Nat):Int):=by omega
  lia;refine aN (Y.get ho) rfl ?_;lia;rw[o7 hz,ez];refine⟨p,d,f,n,G,(x^^^M.sm G L).log2,rfl,st.same Y,δ,γ,ε,hn hz,λm H5 ι B=>?_⟩;lia;intro t' χ f6 ζ φ;refine Z t' χ m (hs.trans (Y.trans (ι.trans ζ))) φ ⟨ω,⟨M.sm G L,M.sm_span _ _,hz,hn hz,B⟩,B.ev,B.odd hz rfl δ,λW ψ ξ=>B.lt W ψ ?_⟩;exact M.log2_under hz (M.xor_lt_pow ξ (M.span_lt ψ (M.sm_span G L)))
section
local macro_rules | `(tactic| walk_at "l2step") =>`(tactic| first | ((with_reducible refine' fT ?e ?_);(case e=>walk_at "l2kind")) | ((with_reducible refine' jf ?e ?_);(case e=>walk_at "l2kind")) | (with_reducible refine dm ?_) | (with_reducible refine gi ?_))
theorem Cb (T:Tx K mg a):FnOk P w K mg base CX0 1 a.ia a.yu ["whole","width","count"] GZ:=by
 refine T.pd.1.okA BV λY A outer s H vs Q E Z h=>?_;obtain⟨G,wd,β,rfl,hw,hT,q⟩:=h;have L:=T5 wd;have ω:(1:Int) * 2 ^ ((wd:Int).toNat) - 1=((2 ^ wd - 1:Nat):Int):=by rw[shl1];omega
 refine⟨_,((ai (aL (bD (osc:=ag oM) (ON:=["whole","width","count"]) (N:=["place","whole","width"]) (n:=1) (fx:=[0,1]) rfl rfl rfl @H (cG @F T.fh (!j 2 ae)) (aA @C) (!C (aq (i:=0) (show hH (["place","whole","width"]:B') from by decide +kernel) rfl @D) (az lF (az qV (pv 1) (az tI (pv 0) (pv 2))) (az qU (az g8 ah (pv 2)) ah))))))),aw (σ':=[a' _,a' _,a' _]) rfl ?_⟩;lia;intro D α;refine d7 (λi ys H'=>Cs (λi ys=>ys=((vu i).map λt=>(G>>>(t * wd))&&&(2 ^ wd - 1)).map nat) H D i ys H') (Cs.zero α rfl) (λi ys H' hi c=>?_) (λys H' c=>?_)
 ·have χ:((0:Int) + (i:Int)) * (wd:Int)=((i * wd:Nat):Int):=by rw[VW];push_cast;rfl
  lia;rw[χ];lia;rw[BS,ω,d8];refine Cs.put α c.same c.at' c.len @A ?_;rw[c.pv,Vs,ef,ef];rfl
 ·have χ:=c.at';rw[c.pv,ov] at χ;exact q D H' α c.same χ
theorem Lw (T:Tx K mg a):FnOk P w K mg base CX0 5 a.qz a.JO ["machine","turns"] (KU a.ar):=by
 refine T.Af.1.okA oJ λa0 A outer s H vs Q E τ h=>?_;obtain⟨p,m,nx,os,T',rfl,ma,g,hT,q⟩:=h;obtain⟨dx,tn,to,ho,hn,Z⟩:=ma.ho;have m6:=g.m6;have ln:=g.ln
 refine⟨_,((af (bJ (osc:=ag vf) (ON:=["machine","turns","states","told","turn"]) (N:=["which","machine"]) (n:=1) (fx:=[0]) (i:=2) oJ.nd rfl rfl rfl rfl rfl rfl @H (cG @F T.fh (aa (aJ (K:=K) rfl (pv 0) rfl) ae)) (aA @C) (!C (aq (i:=0) (show hH (["which","machine"]:B') from by decide +kernel) rfl @D) (!A @I (eI (pv 1) T.ax T.fX (ff T) (τ.mono @C) T.cA.2 .nil thr0 (aa ah (aa (az g8 ah (pv 0)) ae))) ah)))
  (af (aD (i:=3) oJ.nd rfl @D (c6 ae))
  (af (dE xo rfl (cG @F T.fh (!j 1 ae)) (aq (i:=4) oJ.nd rfl @D) (af (aD (i:=3) oJ.nd rfl @D (az jc (pv 2) (pv 3)))
  (ai (bJ (osc:=ag vf) (ON:=["machine","turns","states","told","turn"]) (N:=["state","machine"]) (n:=1) (fx:=[0]) (i:=2) oJ.nd rfl rfl rfl rfl rfl rfl @H (aG (K:=K) rfl (pv 2)) (aA @C) (!C (aq (i:=0) (show hH (["state","machine"]:B') from by decide +kernel) rfl @D) (!A @I (eI (pv 1) T.ax T.fX (ff T) (τ.mono @C) T.cA.2 .nil thr0 (!j 0 (aa ah ae))) ah))))))
  (ai (aL (pv 3))))))),aw (σ':=[a' _,a' _,f',f',f']) rfl ?_⟩
 lia;refine aI ho T.ax T.bf rfl ?_;lia;intro D α;refine d7 (λi ys H'=>Cs (λi ys=>ys=((vu i).map λw=>M.tr2 (prs nx) 0 (2 ^ w)).map nat) H D i ys H') (Cs.zero α rfl) (λi ys H' hi c=>?_) (λys H1 c=>?_)
 ·have ν:i < m:=by omega
  have ei:(0:Int) + (i:Int)=(i:Int):=VW _;lia;refine c8 (c.same.get ho) rfl ?_;lia;rw[ei];lia;rw[shl1];refine⟨p,m,nx,os,nat 0,nat (2 ^ i),"int","int",rfl,ma.same c.same,g,rfl,rfl,λa1 b1 ea Y _ _ t6 H6 G ω=>?_,fun δ=>?_⟩
  ·have ea:=gj ea;have Y:=gj Y;subst ea Y;lia;refine Cs.put α (c.same.trans G) (G.get c.at') c.len @A ?_;rw[c.pv,Vs,ef,ef];rfl
  ·rcases δ with h | h
   ·rw[cH (T5 _)] at h;cases h
   ·rw[cH (U0 @C ν)] at h;cases h
 ·have ψ:=c.at';rw[c.pv,ov] at ψ;have ρ:=c.same;lia;intro η H2 f2 π e2;lia;refine lQ (λi σ H'=>∃(v:T8 V) (β Dt:eH),σ=[a' (.ref p),a' (nat T'),a' (.ref β),a' (.ref Dt),v]/\Same H H'/\H' β=a' (.lst ((M.stj (prs nx) (M.sg0 (prs nx) m) i).map nat))/\H' Dt=a' (.lst ((M.rch (prs nx) m i).map nat))/\H Dt=f') ⟨f',D,η,rfl,ρ.trans π,π.get ψ,e2,zS ρ f2⟩ ?_ ?_
  ·rintro i σ H' hi ⟨v,β,Dt,rfl,G,es,et,ft⟩;have ls:(M.stj (prs nx) (M.sg0 (prs nx) m) i).length=m:=by rw[M.stj_len,M.sg0_len]
   have lr:=M.rch_len (prs nx) m i;have υ:i * m<=100 * 6:=Wk @A m6;lia;refine pA es et (by rw[bx,bx,nr];omega) λD7 H7 f7 L φ=>?_;rw[<-ef] at φ;have ξ:=L.get es;lia;intro D8 ι;refine aH (xs:=(M.stj (prs nx) (M.sg0 (prs nx) m) i).map nat) (λj ys H'=>Cs (λj ys=>ys=(((M.stj (prs nx) (M.sg0 (prs nx) m) i).take j).map λx=>M.tr2 (prs nx) x 0).map nat) H7 D8 j ys H') (Cs.zero ι rfl) (λj ys H' _ c=>SqL.of (c.same.get ξ)) (λj x ys H' hx c=>?_) (λys H' c=>?_)
   ·obtain⟨ο,γ,rfl⟩:=ay hx;have hj:=(b'.mp γ).1;have θ:=M.stj_lt (prs nx) m i ο (ee γ);rw[aE] at θ;have ζ:=G.trans (L.trans c.same);lia;refine c8 (ζ.get ho) rfl ?_;lia;refine⟨p,m,nx,os,nat ο,nat 0,"int","int",rfl,ma.same ζ,g,rfl,rfl,λa1 b1 ea Y _ _ t6 H6 ε ω=>?_,fun δ=>?_⟩
    ·have ea:=gj ea;have Y:=gj Y;subst ea Y;lia;refine Cs.put ι (c.same.trans ε) (ε.get c.at') c.len @A ?_;rw[c.pv,take_succ γ,ef,ef];rfl
    ·rcases δ with h | h
     ·rw[cH θ] at h;cases h
     ·rw[cH (T5 _)] at h;cases h
   ·have χ:=c.at';rw[c.pv,bx,i'] at χ;exact⟨_,D8,D7,rfl,G.trans (L.trans c.same),χ,c.same.get φ,zS G f7⟩
  ·rintro σ H' ⟨v,β,Dt,rfl,G,es,et,ft⟩;rw[ov] at et;lia;exact q Dt H' ft G et
theorem Fi (T:Tx K mg a):FnOk P w K mg base CX0 2 a.j7 a.Bd ["machine","places","turns"] (G4 a.ar):=by
 refine T.rV.1.okA ET fun γ A outer s H vs Q E L h=>?_;obtain⟨p,D,m,nx,os,G,δ,rfl,ma,g,α,Y,hT,q⟩:=h;obtain⟨dx,ε,to,ho,hn,Z⟩:=ma.ho;have m6:=g.m6;refine⟨_,((ai (aL (aj (Cb T) L T.FQ T.pd (aa (aj (lH T) L T.og T.iP (!j 1 ae)) (aa (aJ (K:=K) rfl (pv 0) rfl) (!j 2 ae))))))),aw (σ':=[a' _,a' _,a' _]) rfl ?_⟩;lia;refine⟨D,M.pl 1000 G,rfl,α,λx β=>M.pl_lt Y x β,?_⟩;rw[GH Y];lia;refine aI ho T.ax T.bf rfl ?_;lia;exact⟨G,m,δ,rfl,@A,hT,q⟩
theorem zf (T:Tx K mg a):FnOk P w K mg base CX0 5 a.fk a.tN ["machine"] (K4 a.ar):=by
 refine T.kJ.1.okA gR λa3 A outer s H vs Q E ε h=>?_;obtain⟨p,m,nx,os,rfl,ma,g,a0,q⟩:=h;obtain⟨dx,tn,to,ho,hn,Z⟩:=ma.ho;have lo:=g.lo;have ln:=g.ln
 have hA:∀x∈(prs nx).map (·.1),x < 2 ^ nx.length:=λx ν=>by
  obtain⟨q,φ,rfl⟩:=hF.mp ν;obtain⟨r,ε,rfl⟩:=hF.mp φ;exact(g.bn r (iv _ ε)).1
 have hO:∀x∈(prs os).map (·.1),x < 2 ^ nx.length:=λx ν=>by
  obtain⟨q,φ,rfl⟩:=hF.mp ν;obtain⟨r,ε,rfl⟩:=hF.mp φ;exact(g.bn r (hW _ ε)).1
 have eA:(nx.map λq=>q.2.1)=(prs nx).map (·.1):=by rw[TU];rfl
 have γ:((prs os).map (·.1)).length=os.length:=by rw[bx,bx]
 refine⟨_,((af (bJ (osc:=ag iJ) (ON:=["machine","masks","told","turn"]) (N:=["pair"]) (n:=1) (fx:=[]) (i:=1) gR.nd rfl rfl rfl rfl rfl rfl @H (jQ (K:=K) rfl (aJ (K:=K) rfl (pv 0) rfl)) (aA @C) (!C (aq (i:=0) (show hH (["pair"]:B') from by decide +kernel) rfl @D) (!A @I (pv 0) ah)))
  (af (aD (i:=2) gR.nd rfl @D (c6 ae))
  (af (dE xo rfl (cG @F T.fh (aa (bp (pv 0) T.ax T.bg (aV T) (ε.mono @C) T.aQ.2 .nil b0) ae)) (aq (i:=3) gR.nd rfl @D) (af (bT (gM (K:=K) rfl T6 Uh Ug iK (pv 2) (!j 1 ae)))
  (ai (bJ (osc:=ag iJ) (ON:=["machine","masks","told","turn"]) (N:=["mask","machine"]) (n:=1) (fx:=[0]) (i:=1) gR.nd rfl rfl rfl rfl rfl rfl @H (aG (K:=K) rfl (pv 1)) (aA @C) (!C (aq (i:=0) (show hH (["mask","machine"]:B') from by decide +kernel) rfl @D) (!A @I (eI (pv 1) T.ax T.pK (nU T) (ε.mono @C) T.eg.2 .nil thr0 (!j 0 ae)) ah))))))
  (ai (aL (pv 2))))))),aw (σ':=[a' _,f',f',f']) rfl ?_⟩
 lia;refine aI ho T.ax T.d6 rfl ?_;lia;intro D α;refine rN (xs:=refs os) (λi ys H'=>Cs (λi ys=>ys=(((prs os).map (·.1)).take i).map nat) H D i ys H') (Cs.zero α rfl) (λi ys H' _ c=>SqT.of (c.same.get Z)) (λi v ys H' υ c=>?_) (λys H1 c=>?_)
 ·obtain⟨pr,L,rfl⟩:=ay υ;have hi:=(b'.mp L).1;have ht:=c.same.get (ma.hs pr (ee L));lia;refine Cs.put α c.same c.at' c.len @A ?_;rw[c.pv,take_succ (show((prs os).map (·.1))[i]? =a' pr.2.1 by rw[gA,gA,L];rfl),ef];rfl
 ·have ψ:=c.at';rw[c.pv,gU,show os.length=((prs os).map (·.1)).length from γ.symm,i'] at ψ;have ζ:=c.same;clear c;lia;intro η H2 ρ π e2;lia;refine aN ((ζ.trans π).get ho) rfl ?_;lia;refine⟨p,m,nx,os,rfl,ma.same (ζ.trans π),?_⟩;lia;refine lQ (λi σ H'=>∃(v:T8 V) (θ:eH),σ=[a' (.ref p),a' (.ref θ),a' (.ref η),v]/\Same H H'/\H' θ=a' (.lst ((M.lk1 ((prs nx).map (·.1)) ((prs os).map (·.1)) i).map nat))/\H' η=a' (.lst ((M.lkm ((prs nx).map (·.1)) ((prs os).map (·.1)) i).map nat))/\θ≠η) ⟨f',D,rfl,ζ.trans π,?_,e2,?_⟩ ?_ ?_
  ·rw[π.get ψ];unfold M.lk1;rw[show(λs=>M.bkI ((prs nx).map (·.1)) s 0)=id from rfl,XA]
  ·exactλz=>by rw[<-z,ψ] at ρ;cases ρ
  ·rintro i σ H' hi ⟨v,θ,rfl,s',χ,et,nm⟩;have ll:=M.lkm_len ((prs nx).map (·.1)) ((prs os).map (·.1)) i;have l1:=M.lk1_len ((prs nx).map (·.1)) ((prs os).map (·.1)) i;have b6:i * ((prs os).map (·.1)).length<=60 * 6:=Wk @A @A;lia;refine ji et χ (by rw[bx,bx,ll,l1];exact Vh (aM @A)) nm.symm λH5 ι=>?_;have f0:H η=none:=ζ.free ρ;have s5:=ι.same f0 s';have δ:=ι.oth _ _ nm χ;have β:=ι.at';rw[<-ef] at β
   have bm:∀x∈M.lk1 ((prs nx).map (·.1)) ((prs os).map (·.1)) i,x < 2 ^ nx.length:=λx ν=>by
    obtain⟨y,G,rfl⟩:=hF.mp ν;exact M.bkI_lt hA (hO y G) i
   lia;intro D5 Y;refine aH (xs:=(M.lk1 ((prs nx).map (·.1)) ((prs os).map (·.1)) i).map nat) (λj ys H'=>Cs (λj ys=>ys=((M.lk1 ((prs nx).map (·.1)) ((prs os).map (·.1)) (i + 1)).take j).map nat) H5 D5 j ys H') (Cs.zero Y rfl) (λj ys H' _ c=>SqL.of (c.same.get δ)) (λj v ys H6 υ c=>?_) (λys H6 c=>?_)
   ·obtain⟨y,G,rfl⟩:=ay υ;have hj:=(b'.mp G).1;have τ:=bm y (ee G);have ο:=s5.trans c.same;lia;refine c8 (ο.get ho) rfl ?_;lia;refine⟨p,m,nx,os,nat y,"int",rfl,ma.same ο,g,rfl,λa1 ea ha t7 H7 s7 e7=>?_,fun ξ=>?_⟩
    ·have ea:=gj ea;subst ea;lia;refine Cs.put Y (c.same.trans s7) (s7.get c.at') c.len @A ?_;rw[c.pv,take_succ (show(M.lk1 ((prs nx).map (·.1)) ((prs os).map (·.1)) (i + 1))[j]? =a' (M.sm ((prs nx).map (·.1)) y) from ?_),ef,eA];rfl;unfold M.lk1 at G ⊢;rw[gA] at G ⊢;cases e:((prs os).map (·.1))[j]? with
     | none=>rw[e] at G;cases G
     | some z=>rw[e] at G;rw[<-zx G,M.bkI_succ];rfl
    ·rw[cH τ] at ξ;cases ξ
   ·have ω:=c.at';rw[c.pv,bx,l1,<-M.lk1_len ((prs nx).map (·.1)) ((prs os).map (·.1)) (i + 1),i'] at ω;have s6:=c.same;clear c;lia;exact⟨_,D5,rfl,s5.trans s6,ω,s6.get β,λz=>by rw[z,β] at Y;cases Y⟩
  ·rintro σ H' ⟨v,θ,rfl,s',χ,et,nm⟩;lia;refine q η H' (ζ.free ρ) s' ?_;unfold M.msk;rw[aE];exact et
theorem mD (T:Tx K mg a):FnOk P w K mg base CX0 3 a.ij a.yy ["mask","others"] NY:=by
 refine T.iA.1.okA BW fun θ A outer s H vs Q E δ h=>?_;obtain⟨r,x,L,rfl,α,ι,ζ,q⟩:=h;refine⟨_,((ai (aL (aj (lH T) δ T.og T.iP (aa (bD (osc:=ag oN) (ON:=["mask","others"]) (N:=n21) (n:=2) (fx:=[0]) rfl rfl rfl @H (oS (K:=K) rfl @F T.dI (pv 1)) (wu (eK (aA @C) (eK (aA @C) qv))) (λ_ _ _ _ _=>⟨(qh (K:=K) (n:=2) rfl rfl (bL (aq (i:=0) (show hH (n21:B') from by decide +kernel) rfl @D) (bL (aq (i:=1) (show hH (n21:B') from by decide +kernel) rfl @D) i6))),(jP (jb (gL (aj (zg T) δ T.Eg T.w9 (aa (az lF (pv 2) (pv 1)) ae))))),(pv 0)⟩)) ae))))),aw (σ':=[a' _,a' _]) rfl ?_⟩;lia;refine .inl ⟨⟨_,SqL.of α⟩,?_⟩;intro D ε;refine yG (xs:=L.map nat) (λi ys H'=>Cs (λi ys=>∃qs:C',ys=qs.map nat/\(∀p∈qs,p < i)/\M.xm qs=M.ow x (L.take i)) H D i ys H') (Cs.zero ε ⟨[],rfl,λ_ h=>hD h @E,rfl⟩) (λi ys H' _ c=>Same.seq c.same (SqL.of α)) (λi v ys H' p ο η c fp β ξ=>?_) (λys H' c=>?_)
 ·obtain⟨γ,Z,rfl⟩:=ay η;obtain⟨qs,G,Y,ν⟩:=c.pv;have hi:=(b'.mp Z).1;have ts:=OH (x:=x) Z;lia;rw[d8];refine⟨x&&&γ,rfl,Uu X8 ζ,?_⟩;cases υ:M.od (x&&&γ) with
  | true=>
    rw[υ,wb rfl] at ts;refine⟨false,rfl,?_⟩;dsimp only;rw[wb (show(!false)=true from rfl)];lia;refine Cs.put ε (c.same.trans β) (β.get c.at') c.len @A ⟨qs++[i],?_,λk hk=>?_,?_⟩
    ·rw[G,ef];rfl
    ·rcases gz.mp hk with h | h
     ·have:=Y k h;omega
     ·rw[gs.mp h];omega
    ·rw[M.xm_snoc,ν,ts]
  | false=>
    rw[υ,qb hB,UJ] at ts;refine⟨true,rfl,?_⟩;dsimp only;rw[qb @C];refine Cs.skip (c.same.trans β) (β.get c.at') c.len ⟨qs,G,λk hk=>?_,?_⟩
    ·have:=Y k hk;omega
    ·rw[ν,ts]
 ·obtain⟨qs,G,Y,ν⟩:=c.pv;rw[bx] at Y ν;have χ:=c.at';rw[G] at χ;lia;refine⟨D,qs,rfl,χ,λk hk=>by have:=Y k hk;omega,?_⟩;rw[ν,i'];exact q _ c.same
theorem mV (T:Tx K mg a):FnOk P w K mg base CX0 7 a.cU a.ox ["pair","states","seen"] P3:=by
 refine T.fA.1.okA tV fun ρ A outer s H vs Q E α h=>?_;obtain⟨t,D1,χ,x,b,S,Z,rfl,ht,h1,h2,ζ,γ,τ,ε,sp,q⟩:=h;refine⟨_,((ai (aL (dF (aa (aj (lH T) α T.og T.iP (aa (!A @I (aj (sy T) α T.wy T.l6 (!j 2 (aa (aj (mD T) α T.oZ T.iA (aa (!A @I (pv 0) ah) (!j 1 ae))) ae))) ah) ae)) (aa (!A @I (pv 0) ah) ae)))))),aw (σ':=[a' _,a' _,a' _]) rfl ?_⟩;lia;refine⟨D1,x,S,rfl,h1,ζ,ε,λH3 L=>?_⟩;lia;refine⟨χ,Z,_,rfl,L.get h2,γ,τ,gm (M.ow_lt _ _) (hJ @C ζ),.inl sp,fun θ ω φ Y f4 G ο β sd=>?_,fun θ φ mk G ο bd=>hD sp bd.ns⟩;have η:Y < 2 ^ 1000:=gm sd.lt (hJ @C γ);have ξ:=G.get (L.get ht);lia;refine⟨ω,M.pl 1000 Y,rfl,β,λx ν=>M.pl_lt η x ν,?_⟩;rw[GH η];lia;intro δ υ ψ ι π;exact q δ υ Y (L.free (G.free ψ)) (L.trans (G.trans ι)) π sd
theorem Lx (T:Tx K mg a):FnOk P w K mg base CX0 9 a.qC a.JP ["machine"] (K5 a.ar):=by
 refine T.Ag.1.okA iD λu1 A outer s H vs Q E hr h=>?_;obtain⟨p,m,nx,os,rfl,ma,g,f5,q⟩:=h;obtain⟨dx,tn,to,ho,hn,q6⟩:=ma.ho;have lo:=g.lo;have m6:=g.m6
 refine⟨_,((af (aD (i:=1) iD.nd rfl @D (aj (Lw T) hr T.O0 T.Af (!j 0 (aa (bp (pv 0) T.ax T.bg (aV T) (hr.mono @C) T.aQ.2 .nil b0) ae))))
  (af (aD (i:=2) iD.nd rfl @D (aj (zf T) hr T.AY T.kJ (!j 0 ae)))
  (af (aD (i:=3) iD.nd rfl @D (aj (Ce T) hr T.Jn T.yK (aa (bD (osc:=ag jH) (ON:=n12) (N:=["state","masks"]) (n:=1) (fx:=[2]) rfl rfl rfl @H (aG (K:=K) rfl (pv 1)) (aA @C) (!C (aq (i:=0) (show hH (["state","masks"]:B') from by decide +kernel) rfl @D) (aj (mD T) hr T.oZ T.iA (!j 0 (!j 1 ae))))) ae)))
  (af (aD (i:=4) iD.nd rfl @D (bD (osc:=ag jH) (ON:=n12) (N:=["place","leads"]) (n:=1) (fx:=[1]) rfl rfl rfl @H (aG (K:=K) rfl (pv 3)) (aA @C) (!C (aq (i:=0) (show hH (["place","leads"]:B') from by decide +kernel) rfl @D) (!A (a9 (K:=K) rfl) (pv 1) (pv 0)))))
  (af (aD (i:=5) iD.nd rfl @D (aj (Ce T) hr T.Jn T.yK (aa (bD (osc:=ag jH) (ON:=n12) (N:=["mask","states"]) (n:=1) (fx:=[4]) rfl rfl rfl @H (aG (K:=K) rfl (pv 2)) (aA @C) (!C (aq (i:=0) (show hH (["mask","states"]:B') from by decide +kernel) rfl @D) (aj (mD T) hr T.oZ T.iA (!j 0 (!j 1 ae))))) ae)))
  (af (aD (i:=6) iD.nd rfl @D (bD (osc:=ag jH) (ON:=n12) (N:=["place","masks","states"]) (n:=1) (fx:=[2,4]) rfl rfl rfl @H (aG (K:=K) rfl (pv 5)) (aA @C) (!C (aq (i:=0) (show hH (["place","masks","states"]:B') from by decide +kernel) rfl @D) (aj (mD T) hr T.oZ T.iA (aa (!A (a9 (K:=K) rfl) (pv 1) (pv 0)) (!j 2 ae))))))
  (af (bJ (osc:=ag jH) (ON:=n12) (N:=["place","machine","masks","states","seen"]) (n:=1) (fx:=[0,2,4,6]) (i:=7) iD.nd rfl rfl rfl rfl rfl rfl @H (aG (K:=K) rfl (pv 5)) (aA @C) (!C (aq (i:=0) (show hH (["place","machine","masks","states","seen"]:B') from by decide +kernel) rfl @D) (aj (mV T) hr T.oa T.fA (aa (eI (pv 1) T.ax T.pK (nU T) (hr.mono @C) T.eg.2 .nil thr0 (aa (!A (a9 (K:=K) rfl) (pv 2) (pv 0)) ae)) (!j 3 (!j 4 ae))))))
  (af (bJ (osc:=ag jH) (ON:=n12) (N:=["pair","states","seen"]) (n:=1) (fx:=[4,6]) (i:=8) iD.nd rfl rfl rfl rfl rfl rfl @H (jQ (K:=K) rfl (aJ (K:=K) rfl (pv 0) rfl)) (aA @C) (!C (aq (i:=0) (show hH (["pair","states","seen"]:B') from by decide +kernel) rfl @D) (aj (mV T) hr T.oa T.fA (!j 0 (!j 1 (!j 2 ae))))))
  (af (bJ (osc:=ag jH) (ON:=n12) (N:=n18) (n:=1) (fx:=[0]) (i:=9) iD.nd rfl rfl rfl rfl rfl rfl @H (aG (K:=K) rfl (pv 3)) (aA @C) (!C (aq (i:=0) (show hH (n18:B') from by decide +kernel) rfl @D) (aj (Fi T) hr T.Jk T.rV (!j 1 (aa (c6 (!j 0 ae)) (aa (bp (pv 1) T.ax T.bg (aV T) (hr.mono @C) T.aQ.2 .nil b0) ae))))))
  (ai (aL (dF (aa (jR T.BH (jV T) (hr.mono @C) @F T.A2 T.dc.2 .nil b0 (aa (aJ (K:=K) rfl (pv 0) rfl) (!j 7 (!j 8 ae)))) (!j 9 (aa (bD (osc:=ag jH) (ON:=n12) (N:=n18) (n:=1) (fx:=[0]) rfl rfl rfl @H (aG (K:=K) rfl (pv 5)) (aA @C) (!C (aq (i:=0) (show hH (n18:B') from by decide +kernel) rfl @D) (aK Gb @F T.LG PyProof.Rows.boot_divmod (!j 0 (aa (bp (pv 1) T.ax T.fM (eJ T) (hr.mono @C) T.bW.2 .nil b0) ae))))) ae)))))))))))))))),aw (σ':=[a' _,f',f',f',f',f',f',f',f',f']) rfl ?_⟩
 lia;refine aN ho rfl ?_;lia;refine⟨p,m,nx,os,rfl,ma,?_⟩;lia;refine⟨p,m,nx,os,_,rfl,ma,g,@A,λDl H1 f1 s1 e1=>?_⟩;lia;refine⟨p,m,nx,os,rfl,ma.same s1,g,f5,λDm H2 f2 s2 e2=>?_⟩;have d2:=s2.get e1;have q1:=s1.trans s2
 have a6:M.Fit (prs nx) (prs os) m:=⟨by rw[aE];omega,λq hq=>by
  rw[show prs nx++prs os=prs (nx++os) from(ef ..).symm] at hq;obtain⟨r,hr,rfl⟩:=hF.mp hq;rw[aE];exact(g.bn r hr).1⟩
 obtain⟨X,eX⟩:∃X,X=M.rch (prs nx) m (prs nx).length:=⟨_,rfl⟩;obtain⟨Y,φ⟩:∃Y,Y=M.msk (prs nx) (prs os):=⟨_,rfl⟩;have lX:X.length=nx.length * m:=by rw[eX,M.rch_len,aE]
 have lY:Y.length=nx.length * os.length:=by rw[φ];unfold M.msk;rw[M.lkm_len,aE,bx,aE]
 have t1:nx.length * m<=60 * 6:=Wk f5 m6;have s8:nx.length * os.length<=60 * 6:=Wk f5 lo;have pw:2 ^ nx.length<=2 ^ 1000:=hJ @C @A;have bX:∀x∈X,x < 2 ^ nx.length:=λx hx=>by rw[eX] at hx;have:=M.rch_lt (prs nx) m _ x hx;rwa [aE] at this
 have bY:∀x∈Y,x < 2 ^ nx.length:=λx hx=>by
  rw[φ] at hx;obtain⟨s,t,hs,ht,rfl⟩:=M.lkm_of hx;have:=M.bkI_lt a6.A (a6.O s hs) t;rwa [aE] at this
 rw[<-aE nx,<-eX] at d2;rw[<-φ] at e2;have c1:=e2;clear e1;lia;intro D3 l0;refine aH (xs:=X.map nat) (λj ys H'=>Cs (λj ys=>ys=((X.map (M.ow · Y)).take j).map nat) H2 D3 j ys H') (Cs.zero l0 rfl) (λj ys H' _ c=>SqL.of (c.same.get d2)) (λj v ys H6 hv c=>?_) (λys H3 c=>?_)
 ·obtain⟨y,hy,rfl⟩:=ay hv;have hj:=(b'.mp hy).1;have a4:=bX y (ee hy);lia;refine⟨Dm,y,Y,rfl,c.same.get e2,@A,gm a4 pw,λH7 L=>?_⟩;refine Cs.put l0 (c.same.trans L) (L.get c.at') c.len @A ?_;rw[c.pv,take_succ (show(X.map (M.ow · Y))[j]? =a' (M.ow y Y) by rw[gA,hy];rfl),ef];rfl
 have e3:=c.at';rw[c.pv,bx,<-bx (as:=X) (f:=(M.ow · Y)),i'] at e3;have q0:=q1.trans c.same;have m5:=c.same.get d2;have m4:=c.same.get e2;clear c c1 d2 e2;lia;refine⟨D3,X.map (M.ow · Y),rfl,e3,by rw[bx];omega,λDd H4 f4 s4 e4=>?_⟩;obtain⟨a5,π⟩:∃a5,a5=M.ldp (prs nx) (prs os) m:=⟨_,rfl⟩;have e4:H4 Dd=a' (.lst (a5.map nat)):=by rw[e4,π,eX,φ];rfl
 have e0:∀i∈a5,i < X.length:=λi hi=>by rw[π] at hi;have:=M.ldp_lt i hi;rw[eX];exact this
 have s6:a5.length<=360:=by
  have:=M.fr_len (X.map (M.ow · Y));rw[π];unfold M.ldp;rw[<-eX,<-φ];rw[bx] at this;omega
 have υ:=s4.get m5;have m3:=s4.get m4;have p3:=q0.trans s4;clear m5 m4 e3;lia;intro D5 k9;refine aH (xs:=a5.map nat) (λj ys H'=>Cs (λj ys=>ys=((a5.map λi=>X.getD i 0).take j).map nat) H4 D5 j ys H') (Cs.zero k9 rfl) (λj ys H' _ c=>SqL.of (c.same.get e4)) (λj v ys H6 hv c=>?_) (λys H5 c=>?_)
 ·obtain⟨y,hy,rfl⟩:=ay hv;have hj:=(b'.mp hy).1;have a4:=e0 y (ee hy);have t6:=c.same.get υ;have gx:atI (X.map nat) (y:Int)=a' (nat (X.getD y 0)):=di (by rw[gA,M.getD_at' (d:=0) a4];rfl);lia;refine Cs.put k9 c.same c.at' c.len @A ?_;rw[c.pv,take_succ (show(a5.map λi=>X.getD i 0)[j]? =a' (X.getD y 0) by rw[gA,hy];rfl),ef];rfl
 obtain⟨S,γ⟩:∃S,S=M.lst_ (prs nx) (prs os) m:=⟨_,rfl⟩;have e5:=c.at';rw[c.pv,bx,<-bx (as:=a5) (f:=λi=>X.getD i 0),i'] at e5;have e5:H5 D5=a' (.lst (S.map nat)):=by rw[e5,γ,π,eX];rfl
 have lS:S.length=a5.length:=by rw[γ,π,M.lst_len]
 have bS:∀x∈S,x < 2 ^ nx.length:=λx hx=>by rw[γ] at hx;have:=M.lst_in x hx;rw[<-eX] at this;exact bX x this
 have p0:=p3.trans c.same;have δ:=c.same.get υ;have τ:=c.same.get m3;have m0:=c.same.get e4;clear c υ m3 e4;lia;intro D6 k8;refine aH (xs:=Y.map nat) (λj ys H'=>Cs (λj ys=>ys=((Y.map (M.ow · S)).take j).map nat) H5 D6 j ys H') (Cs.zero k8 rfl) (λj ys H' _ c=>SqL.of (c.same.get τ)) (λj v ys H6 hv c=>?_) (λys H6 c=>?_)
 ·obtain⟨y,hy,rfl⟩:=ay hv;have hj:=(b'.mp hy).1;have a4:=bY y (ee hy);lia;refine⟨D5,y,S,rfl,c.same.get e5,@A,gm a4 pw,λH7 L=>?_⟩;refine Cs.put k8 (c.same.trans L) (L.get c.at') c.len @A ?_;rw[c.pv,take_succ (show(Y.map (M.ow · S))[j]? =a' (M.ow y S) by rw[gA,hy];rfl),ef];rfl
 have ω:=c.at';rw[c.pv,bx,<-bx (as:=Y) (f:=(M.ow · S)),i'] at ω;have o3:=p0.trans c.same;have m2:=c.same.get τ;have n0:=c.same.get e5;have l8:=c.same.get m0;clear c δ τ e5 m0;lia;refine⟨D6,Y.map (M.ow · S),rfl,ω,by rw[bx];omega,λDk H7 f7 L e7=>?_⟩;obtain⟨a0,a3⟩:∃a0,a0=M.lkp (prs nx) (prs os) m:=⟨_,rfl⟩;have e7:H7 Dk=a' (.lst (a0.map nat)):=by rw[e7,a3,φ,γ];rfl
 have c2:∀i∈a0,i < Y.length:=λi hi=>by rw[a3] at hi;have:=M.lkp_lt i hi;rw[φ];exact this
 have s5:a0.length<=nx.length:=by rw[a3,<-aE nx];exact M.many_le
 have g4:=L.get m2;have χ:=L.get n0;have l7:=L.get l8;have o0:=o3.trans L;clear m2 n0 l8 ω;lia;intro D8 k7;refine aH (xs:=a0.map nat) (λj ys H'=>Cs (λj ys=>ys=((a0.map λi=>M.ow (Y.getD i 0) S).take j).map nat) H7 D8 j ys H') (Cs.zero k7 rfl) (λj ys H' _ c=>SqL.of (c.same.get e7)) (λj v ys H8 hv c=>?_) (λys H8 c=>?_)
 ·obtain⟨y,hy,rfl⟩:=ay hv;have hj:=(b'.mp hy).1;have a4:=c2 y (ee hy);have ρ:=c.same.get g4;have gy:atI (Y.map nat) (y:Int)=a' (nat (Y.getD y 0)):=di (by rw[gA,M.getD_at' (d:=0) a4];rfl);lia;refine⟨D5,Y.getD y 0,S,rfl,c.same.get χ,@A,gm (bY _ (M.getD_mem a4)) pw,λH9 s9=>?_⟩;refine Cs.put k7 (c.same.trans s9) (s9.get c.at') c.len @A ?_;rw[c.pv,take_succ (show(a0.map λi=>M.ow (Y.getD i 0) S)[j]? =a' (M.ow (Y.getD y 0) S) by rw[gA,hy];rfl),ef];rfl
 obtain⟨Z,eZ⟩:∃Z,Z=M.sen (prs nx) (prs os) m:=⟨_,rfl⟩;have e8:=c.at';rw[c.pv,bx,<-bx (as:=a0) (f:=λi=>M.ow (Y.getD i 0) S),i'] at e8
 have e8:H8 D8=a' (.lst (Z.map nat)):=by
  rw[e8,eZ,a3,φ,γ];unfold M.sen M.lkL;rw[TU (l:=M.lkp _ _ _) (g:=λx=>M.ow x _)];rfl
 have lZ:Z.length=a0.length:=by rw[eZ,a3,M.sen_len]
 have bZ:∀x∈Z,x < 2 ^ 1000:=λx hx=>by
  rw[eZ] at hx;obtain⟨y,_,rfl⟩:=hF.mp hx;exact gm (M.ow_lt _ _) (hJ @C (by rw[<-γ];omega))
 have h5:=o0.trans c.same;have ρ:=c.same.get g4;have h0:=c.same.get χ;have l5:=c.same.get l7;have g3:=c.same.get e7;clear c g4 χ l7 e7;have eA:(nx.map λq=>q.2.1)=(prs nx).map (·.1):=by rw[TU];rfl
 have eB:(nx.map λq=>q.2.2)=(prs nx).map (·.2):=by rw[TU];rfl
 have bA:∀y,M.sm ((prs nx).map (·.1)) y < 2 ^ nx.length:=λy=>by have:=M.sm_lt y a6.A;rwa [aE] at this
 have bB:∀y,M.sm ((prs nx).map (·.2)) y < 2 ^ m:=λy=>M.sm_lt y λx hx=>by
  obtain⟨q,hq,rfl⟩:=hF.mp hx;obtain⟨r,hr,rfl⟩:=hF.mp hq;exact(g.bn r (iv _ hr)).2
 lia;intro D9 k6;refine aH (xs:=a0.map nat) (λj ys H'=>Cp (λqs=>∀(j:Nat) (q:Pr3),qs[j]? =a' q->q.2.1 < 2 ^ a0.length/\M.sm Z q.2.1=M.ow (M.sm ((prs nx).map (·.1)) (Y.getD (a0.getD j 0) 0)) S/\q.2.2=M.sm ((prs nx).map (·.2)) (Y.getD (a0.getD j 0) 0)) H8 D9 j ys H') (JS k6 λj q h=>by simp at h) (λj ys H' _ ⟨_,_,_,_,_,s',_⟩=>SqL.of (s'.get g3)) (λj v ys H9 hv c=>?_) (λys H9 c=>?_)
 ·obtain⟨y,hy,rfl⟩:=ay hv;obtain⟨qs,rfl,lq,pv,pt,s9,r4⟩:=c;have hj:=(b'.mp hy).1;have a4:=c2 y (ee hy);have f6:=M.getD_mem a4;have t5:=s9.get ρ;have a7:=h5.trans s9;have gy:atI (Y.map nat) (y:Int)=a' (nat (Y.getD y 0)):=di (by rw[gA,M.getD_at' (d:=0) a4];rfl);lia;refine c8 (a7.get ho) rfl ?_;lia;refine⟨p,m,nx,os,nat (Y.getD y 0),"int",rfl,ma.same a7,g,rfl,λa1 ea ha n8 u2 f0 n5=>?_,λn6=>?_⟩
  ·have ea:=gj ea;subst ea;rw[eA,eB] at n5;lia;refine⟨n8,D5,D8,_,_,S,Z,rfl,n5,f0.get (s9.get h0),f0.get (s9.get e8),@A,@A,bZ,gm (bA _) pw,?_,fun ε s3 qq q8 ο h3 sd=>?_⟩
   ·rw[eZ,γ];rw[φ] at f6;exact M.span_sen (a6.back (by rw[φ];exact f6))
   ·refine Np k6 lq pt s9 r4 (f0.trans ο) h3 @A λk q hk=>?_;by_cases f9:k < qs.length
    ·rw[kv f9] at hk;exact pv k q hk
    ·rw[lT @A] at hk
     have hz:k - qs.length=0:=by
      cases e:k - qs.length with
      | zero=>rfl
      | succ m=>rw[e] at hk;simp at hk
     rw[hz] at hk;have hk:q=(ε,qq,M.sm ((prs nx).map (·.2)) (Y.getD y 0)):=(zx hk).symm;have ν:k=j:=by omega
     have a8:a0.getD k 0=y:=by rw[ν,ec,hy];rfl
     rw[hk,a8];exact⟨by have:=sd.lt;rwa [lZ] at this,sd.sm,rfl⟩
  ·rw[cH (bY _ f6)] at n6;cases n6
 obtain⟨d1,rfl,ι,j0,i3,s9,e9⟩:=c;rw[bx] at ι;have a7:=h5.trans s9;have m7:=s9.get h0;have m1:=s9.get e8;have l4:=s9.get l5;have l2:=s9.get g3;clear ρ h0 e8 l5 g3;lia;refine aI (a7.get ho) T.ax T.d6 rfl ?_;have q5:=a7.get q6;lia;intro DA j4;refine rN (xs:=refs os) (λj ys H'=>Cp (λqs=>∀(j:Nat) (q:Pr3),qs[j]? =a' q->q.2.1 < 2 ^ a0.length/\M.sm Z q.2.1=M.ow ((prs os).getD j (0,0)).1 S/\q.2.2=((prs os).getD j (0,0)).2) H9 DA j ys H') (JS j4 λj q h=>by simp at h) (λj ys H' _ ⟨_,_,_,_,_,s',_⟩=>SqT.of (s'.get q5)) (λj v ys HA hv c=>?_) (λys HA c=>?_)
 ·obtain⟨pr,f8,rfl⟩:=ay hv;obtain⟨qs,rfl,lq,pv,pt,β,r3⟩:=c;have hj:=(b'.mp f8).1;have hm:=ee f8;have b3:=a7.trans β;have j3:(prs os)[j]? =a' pr.2:=HS f8;lia;refine⟨pr.1,D5,D8,pr.2.1,pr.2.2,S,Z,rfl,b3.get (ma.hs pr hm),β.get m7,β.get m1,@A,@A,bZ,gm (g.bn pr (hW _ hm)).1 pw,?_,fun ε s3 qq q8 ο h3 sd=>?_⟩
  ·rw[eZ,γ];exact M.span_sen (a6.out (hF.mpr ⟨pr.2,ee j3,rfl⟩))
  ·refine Np j4 lq pt β r3 ο h3 @A λk q hk=>?_;by_cases f9:k < qs.length
   ·rw[kv f9] at hk;exact pv k q hk
   ·rw[lT @A] at hk
    have hz:k - qs.length=0:=by
     cases e:k - qs.length with
     | zero=>rfl
     | succ m=>rw[e] at hk;simp at hk
    rw[hz] at hk;have hk:q=(ε,qq,pr.2.2):=(zx hk).symm;have ν:k=j:=by omega
    have a8:(prs os).getD k (0,0)=pr.2:=by rw[ν,ec,j3];rfl
    rw[hk,a8];exact⟨by have:=sd.lt;rwa [lZ] at this,sd.sm,rfl⟩
 obtain⟨c5,rfl,ψ,i4,q2,β,n3⟩:=c;rw[gU] at ψ;have b3:=a7.trans β;have l3:=β.get l4;have l1:=β.get l2;have n4:=β.get e9;have h6:=i3.same β;clear m7 m1 l4 l2 e9 i3;lia;intro DB ξ;refine aH (xs:=a5.map nat) (λj ys H'=>Co (λj=> .lst ((M.upk m (2 ^ a5.getD j 0) nx.length).map nat)) HA DB j ys H') (qG ξ) (λj ys H' _ ⟨_,_,_,_,_,s',_⟩=>SqL.of (s'.get l3)) (λj v ys HB hv c=>?_) (λys HB c=>?_)
 ·obtain⟨y,hy,rfl⟩:=ay hv;have c':=c;obtain⟨qs,q9,lq,pa,pf,η,t9⟩:=c';have hj:=(b'.mp hy).1;have a4:=e0 y (ee hy);have c4:=b3.trans η;lia;intro Dq HC fC α eC;have θ:=c4.trans α;lia;refine aN (θ.get ho) rfl ?_;lia;refine⟨p,m,nx,os,rfl,ma.same θ,?_⟩;lia;refine⟨p,Dq,m,nx,os,2 ^ y,_,rfl,ma.same θ,g,by rw[Q0 (show y < 1000 by omega)];exact eC,U0 @C @A,@A,λD2 s0 g0 ζ c1=>?_⟩;refine wR ξ c (α.trans ζ) (α.free g0) ?_ @A;rw[c1];have a8:a5.getD j 0=y:=by rw[ec,hy];rfl
  rw[a8]
 obtain⟨ds,rfl,j1,n7,q7,η,n2⟩:=c;rw[bx] at j1;have c4:=b3.trans η
 have tabB:Tab HB D9 DA m d1 c5:=⟨m6,η.get n4,η.get n3,h6.same η,q2.same η,@A,@A,λq hq=>by
  rw[ι];rcases gz.mp hq with h | h
  ·obtain⟨j,hj,ej⟩:=U6.mp h;have:=j0 j q (by rw[ed hj,ej]);exact⟨this.1,by rw[this.2.2];exact bB _⟩
  ·obtain⟨j,hj,ej⟩:=U6.mp h;have:=i4 j q (by rw[ed hj,ej]);refine⟨this.1,?_⟩;rw[this.2.2,ec];cases e:(prs os)[j]? with
   | none=>exact T5 m
   | some r=>
     obtain⟨r',q4,rfl⟩:=hF.mp (ee e);exact(g.bn r' (hW _ q4)).2⟩
 have r1:=η.get l1;clear l1 l3 n4 n3;lia;refine aI (c4.get ho) T.ax T.bf rfl ?_;lia;intro x r5 HC fC α eC;refine⟨x,r5,D9,DA,m,d1,c5,rfl,eC,tabB.same α,λHD kD q3=>⟨rfl,?_⟩⟩;have c0:Same HB HD:=λb ob e=>kD _ _ (ao e fC) (α.get e);have r0:=c0.get r1;have f3:=c4.trans c0;lia;intro DE b6;refine aH (xs:=a0.map nat) (λj ys H'=>Co (λj=> .tup [nat (a0.getD j 0 / os.length),nat (a0.getD j 0 % os.length)]) HD DE j ys H') (qG b6) (λj ys H' _ ⟨_,_,_,_,_,s',_⟩=>SqL.of (s'.get r0)) (λj v ys HE hv c=>?_) (λys HE c=>?_)
 ·obtain⟨y,hy,rfl⟩:=ay hv;have c':=c;obtain⟨qs,q9,lq,pa,pf,sE,t7⟩:=c';have hj:=(b'.mp hy).1;have a4:=c2 y (ee hy);have c3:=f3.trans sE;have t3:0 < os.length:=ZU λz=>by rw[lY,z,Nat.mul_zero] at a4;omega
  lia;refine aN (c3.get ho) rfl ?_;lia;refine⟨p,m,nx,os,rfl,ma.same c3,?_⟩;lia;refine QA @A @A λt2 s0 g0 ζ c1=>?_;refine wR b6 c ζ g0 ?_ @A;have a8:a0.getD j 0=y:=by rw[ec,hy];rfl
  rw[c1,a8];rfl
 obtain⟨es,rfl,G,r7,t4,sE,r2⟩:=c;rw[bx] at G;have c3:=f3.trans sE;have n9:=c0.trans sE;lia;intro t HF fF sF eF;have h4:=n9.trans sF;have gl:∀(l:C') (j k:Nat),l[j]? =a' k->l.getD j 0=k:=λl j k h=>by rw[ec,h];rfl
 refine q t x DB DE ds es HF d1 c5 (c3.trans sF) eF ((q3.same sE).same sF) ⟨m6,by omega,by omega,tabB.bn⟩ ?_ ⟨h4.get n2,sF.get r2,by rw[j1,π],by rw[G,a3],λj d k h1 h2=>?_,λj d k h1 h2=>?_⟩ (b3.free ξ) (f3.free b6) ?_ λd hd=>?_
 ·refine⟨by rw[aE,ι,a3],by rw[aE,aE,ψ],λj q hq=>?_,λj q hq=>?_⟩
  ·rw[gA] at hq;cases e:d1[j]? with
   | none=>rw[e] at hq;cases hq
   | some r=>
     rw[e] at hq;have hq:=zx hq;have hj:=(b'.mp e).1;have h:=j0 j r e
     have hL:(M.lkL (prs nx) (prs os) m).getD j 0=Y.getD (a0.getD j 0) 0:=by
      unfold M.lkL;rw[<-φ,<-a3,ec,gA,M.getD_at' (d:=0) (show j < a0.length by omega)];rfl
     rw[<-hq,hL,<-a3,<-eZ,<-γ];exact h
  ·rw[gA] at hq;cases e:c5[j]? with
   | none=>rw[e] at hq;cases hq
   | some r=>
     rw[e] at hq;have hq:=zx hq;have h:=i4 j r e;rw[<-hq,<-a3,<-eZ,<-γ];exact h
 ·rw[<-π] at h2;rw[<-gl _ _ _ h2];exact h4.get (n7 j d h1)
 ·rw[<-a3] at h2;rw[<-gl _ _ _ h2];exact sF.get (r7 j d h1)
 ·exactλz=>by rw[<-z,c0.get n2] at b6;cases b6
 ·have h:=q7 d hd;refine⟨b3.free h.1,h.2,λz=>?_⟩;obtain⟨j,hj,ej⟩:=U6.mp hd;have:=c0.get (n7 j d (by rw[ed hj,ej]));rw[z,b6] at this;cases this
section
local macro_rules | `(tactic| walk_at "l2step") =>`(tactic| first | (with_reducible refine Qo ?_))
theorem kA (T:Tx K mg a):FnOk P w K mg base CX0 6 a.gv a.wJ ["one","other","pair","row"] (KZ a.ar):=by
 refine T.gF.1.okA nI λa4 A outer s H vs Q E ι h=>?_;obtain⟨p1,p2,m,G,β,Y,η,x,r,rfl,δ,π,ε,q⟩:=h;obtain⟨L,υ,ρ,θ,ο,a0⟩:=δ.a1.ho;obtain⟨a3,τ,ω,Z,φ,ψ⟩:=δ.a2.ho;have ν:=M.lo_lt G.length x;have ξ:=M.hi_lt π;have ll:=δ.l;have e6:(1:Int) * 2 ^ ((G.length:Int).toNat) - 1=((2 ^ G.length - 1:Nat):Int):=by rw[shl1];have:=T5 G.length;omega
 have α:M.tr2 (jnp G Y) x r=M.tr2 (prs G) (M.lo G.length x) r^^^(M.tr2 (prs Y) (x>>>G.length) r * 2 ^ G.length):=by
  have:=δ.jo.tr' (x:=x) (r:=r) (by rw[aE,aE];exact π);rw[aE,ab0] at this;exact this
 have cp:CPow ((M.tr2 (prs Y) (x>>>G.length) r:Nat):Int) (G.length:Int):=⟨@A,@A,by
  rw[Y0];refine gm (M.tr2_lt _ _ _) (hJ @C ?_);rw[aE];omega⟩
 refine⟨_,((af (aD (i:=4) nI.nd rfl @D (bp (pv 0) T.ax T.bg (aV T) (ι.mono @C) T.aQ.2 .nil b0))
  (af (aD (i:=5) nI.nd rfl @D (az lF (pv 2) (az qU (az g8 ah (pv 4)) ah)))
  (ai (aL (az lE (!A @I (eI (pv 0) T.ax T.fX (ff T) (ι.mono @C) T.cA.2 .nil thr0 (!j 5 (!j 3 ae))) ah) (az g8 (!A @I (eI (pv 1) T.ax T.fX (ff T) (ι.mono @C) T.cA.2 .nil thr0 (aa (az qV (pv 2) (pv 4)) (!j 3 ae))) ah) (pv 4)))))))),aw (σ':=[a' _,a' _,a' _,a' _,f',f']) rfl ?_⟩
 lia;refine aN θ rfl ?_;lia;refine⟨p1,m,G,β,rfl,δ.a1,?_⟩;lia;rw[e6,d8];lia;refine c8 θ rfl ?_;lia;refine⟨p1,m,G,β,nat (M.lo G.length x),nat r,"int","int",rfl,δ.a1,δ.g1,rfl,rfl,λa1 b1 ea γ ha hb t2 H2 ζ e2=>?_,λbad=>?_⟩
 ·have ea:=gj ea;have γ:=gj γ;subst ea;subst γ;lia;refine c8 (ζ.get Z) rfl ?_;lia;rw[BS];refine⟨p2,m,Y,η,nat (x>>>G.length),nat r,"int","int",rfl,δ.a2.same ζ,δ.g2,rfl,rfl,λa1 b1 ea γ ha hb t3 H3 χ e3=>?_,λbad=>?_⟩
  ·have ea:=gj ea;have γ:=gj γ;subst ea;subst γ;lia;rw[Og,dB,<-α];exact q H3 (ζ.trans χ)
  ·rw[cH ξ,cH ε] at bad;rcases bad with bad | bad<;>cases bad
 ·rw[cH ν,cH ε] at bad;rcases bad with bad | bad<;>cases bad
theorem vv (T:Tx K mg a):FnOk P w K mg base CX0 8 a.dh a.pM ["one","other"] (N5 a.ar):=by
 refine T.iH.1.okA cN λg0 A outer s H vs Q E hr h=>?_;obtain⟨p1,p2,m,ι,β,ν,τ,rfl,δ,q1,χ⟩:=h;obtain⟨L,e8,e6,θ,f3,f2⟩:=δ.a1.ho;obtain⟨f8,e7,ω,Z,φ,f0⟩:=δ.a2.ho;have ll:=δ.l;have m6:=δ.g1.m6;obtain⟨υ,e2⟩:∃υ,υ=ι.length + ν.length + 1:=⟨_,rfl⟩;have eT:(ι.length:Int) + (ν.length:Int) + 1=(υ:Int):=by omega
 refine⟨_,((af (aD (i:=2) cN.nd rfl @D (az dk (az dk (bp (pv 0) T.ax T.bg (aV T) (hr.mono @C) T.aQ.2 .nil b0) (bp (pv 1) T.ax T.bg (aV T) (hr.mono @C) T.aQ.2 .nil b0)) ah))
  (af (aD (i:=3) cN.nd rfl @D (AB rfl @F @F T.g9 T.fh (aJ (K:=K) rfl (pv 0) rfl)))
  (af (bJ (osc:=ag fW) (ON:=n26) (N:=["which","one","turns"]) (n:=1) (fx:=[0,2]) (i:=4) cN.nd rfl rfl rfl rfl rfl rfl @H (aG (K:=K) rfl (pv 3)) (aA @C) (!C (aq (i:=0) (show hH (["which","one","turns"]:B') from by decide +kernel) rfl @D) (eI (pv 1) T.ax T.mY (lL T) (hr.mono @C) T.c7.2 .nil thr0 (!j 0 (!j 2 ae)))))
  (af (bJ (osc:=ag fW) (ON:=n26) (N:=["which","other","turns"]) (n:=1) (fx:=[1,2]) (i:=5) cN.nd rfl rfl rfl rfl rfl rfl @H (aG (K:=K) rfl (pv 3)) (aA @C) (!C (aq (i:=0) (show hH (["which","other","turns"]:B') from by decide +kernel) rfl @D) (eI (pv 1) T.ax T.mY (lL T) (hr.mono @C) T.c7.2 .nil thr0 (!j 0 (!j 2 ae)))))
  (af (dE xo rfl (cG @F T.fh (!j 2 ae)) (aq (i:=6) cN.nd rfl @D) (ai (dE xo rfl (aG (K:=K) rfl (pv 3)) (aq (i:=7) cN.nd rfl @D) (ai (dU (aU ze (!A (a9 (K:=K) rfl) (!A (a9 (K:=K) rfl) (pv 4) (pv 7)) (pv 6)) (!A (a9 (K:=K) rfl) (!A (a9 (K:=K) rfl) (pv 5) (pv 7)) (pv 6)) (bh _)) (ai (aL (dF (aa bI (!j 7 (!j 6 ae)))))) bo)))))
  (ai (aL MS)))))))),aw (σ':=[a' _,a' _,f',f',f',f',f',f']) rfl ?_⟩
 lia;refine aN θ rfl ?_;lia;refine⟨p1,m,ι,β,rfl,δ.a1,?_⟩;lia;refine aN Z rfl ?_;lia;refine⟨p2,m,ν,τ,rfl,δ.a2,?_⟩;lia;rw[eT];refine aI θ T.ax T.bf rfl ?_;lia;refine⟨m,rfl,@A,λD H1 G s1 e1=>?_⟩;have e1:H1 D=a' (.lst ((vu m).map nat)):=e1;lia;intro D1 c1;refine aH (xs:=(vu m).map nat) (λj ys H'=>Co (λj=> .lst ((M.wan (prs ι) (prs β) 0 (M.pulse j υ)).map nat)) H1 D1 j ys H') (qG c1) (λj ys H' _ ⟨_,_,_,_,_,s',_⟩=>SqL.of (s'.get e1)) (λj v ys γ hv c=>?_) (λys H2 c=>?_)
 ·obtain⟨α,ε,rfl⟩:=ay hv;have hj:=(b'.mp ε).1;rw[TC] at hj;rw[Ub hj] at ε;cases ε;have ξ:=c;obtain⟨_,_,_,_,_,sB,_⟩:=ξ;have ψ:=s1.trans sB;lia;refine c8 (ψ.get θ) rfl ?_;lia;refine⟨p1,m,ι,β,nat j,"int",υ,rfl,δ.a1.same ψ,δ.g1,rfl,@A,λi ei hi Dn H9 f9 s9 e9=>?_,λa0=>?_⟩
  ·have ei:=gj ei;subst ei;exact wR c1 c s9 f9 e9 @A
  ·unfold idxB at a0;simp at a0;omega
 obtain⟨a6,rfl,ο,a1,ρ,a8,c2⟩:=c;rw[bx,TC] at ο;have b3:=s1.trans a8;have c3:=a8.get e1;lia;intro D2 c0;refine aH (xs:=(vu m).map nat) (λj ys H'=>Co (λj=> .lst ((M.wan (prs ν) (prs τ) 0 (M.pulse j υ)).map nat)) H2 D2 j ys H') (qG c0) (λj ys H' _ ⟨_,_,_,_,_,s',_⟩=>SqL.of (s'.get c3)) (λj v ys γ hv c=>?_) (λys H3 c=>?_)
 ·obtain⟨α,ε,rfl⟩:=ay hv;have hj:=(b'.mp ε).1;rw[TC] at hj;rw[Ub hj] at ε;cases ε;have ξ:=c;obtain⟨_,_,_,_,_,sB,_⟩:=ξ;have ψ:=b3.trans sB;lia;refine c8 (ψ.get Z) rfl ?_;lia;refine⟨p2,m,ν,τ,nat j,"int",υ,rfl,δ.a2.same ψ,δ.g2,rfl,@A,λi ei hi Dn H9 f9 s9 e9=>?_,λa0=>?_⟩
  ·have ei:=gj ei;subst ei;exact wR c0 c s9 f9 e9 @A
  ·unfold idxB at a0;simp at a0;omega
 obtain⟨c4,rfl,e0,a2,e3,a4,e4⟩:=c;rw[bx,TC] at e0;have c5:=b3.trans a4;have e5:=a4.get c3;have c2:=a4.get c2;have a1:∀(j:Nat) d,a6[j]? =a' d->H3 d=a' (.lst ((M.wan (prs ι) (prs β) 0 (M.pulse j υ)).map nat)):=λj d h=>a4.get (a1 j d h);clear c3 e1 s1 a8 b3 ρ e3 c1 c0 G;lia;refine lQ (λi σ H'=>∃v6 v7,σ=[a' (.ref p1),a' (.ref p2),a' (nat υ),a' (.ref D),a' (.ref D1),a' (.ref D2),v6,v7]/\Same H3 H'/\M.Al (prs ι) (prs β) (prs ν) (prs τ) m i) ⟨f',f',rfl,Same.refl _,λt h=>hD h @A⟩ ?_ ?_
 ·rintro i σ H' hi ⟨v6,v7,rfl,s',al⟩;have hi:i < υ:=by omega
  have ei:(0:Int) + (i:Int)=(i:Int):=VW _;lia;rw[ei];refine iF (xs:=(vu m).map nat) (λj σ a7=>∃v7,σ=[a' (.ref p1),a' (.ref p2),a' (nat υ),a' (.ref D),a' (.ref D1),a' (.ref D2),a' (nat i),v7]/\Same H3 a7/\∀α,α < j->M.sgl (prs ι) (prs β) α i=M.sgl (prs ν) (prs τ) α i) ⟨v7,rfl,s',fun α h=>hD h @A⟩ (λj σ a7 _ ⟨_,_,ζ,_⟩=>SqL.of (ζ.get e5)) ?_ ?_
  ·rintro j y σ a7 hy ⟨v7,rfl,ζ,a3⟩;obtain⟨α,ε,rfl⟩:=ay hy;have hj:=(b'.mp ε).1;rw[TC] at hj;rw[Ub hj] at ε;cases ε;have π:=ed (l:=a6) (i:=j) @A;have b6:=ed (l:=c4) (i:=j) @A;generalize a6[j]=d1 at π;generalize c4[j]=d2 at b6;have f7:=ζ.get c2;have f6:=ζ.get e4;have f5:=ζ.get (a1 j d1 π);have f4:=ζ.get (a2 j d2 b6);have Y:atI (a6.map V.ref) (j:Int)=a' (.ref d1):=di (by rw[gA,π];rfl);have t2:atI (c4.map V.ref) (j:Int)=a' (.ref d2):=di (by rw[gA,b6];rfl)
   have sg:∀(p o:A'),atI ((M.wan p o 0 (M.pulse j υ)).map nat) (i:Int)=a' (nat (M.sgl p o j i)):=λp o=>di (by
    have hl:i < (M.wan p o 0 (M.pulse j υ)).length:=by rw[M.wan_len,M.pulse_len];exact hi
    rw[gA,ed hl,<-M.pulse_sgl p o j hi,ec,ed hl];rfl)
   have t3:=sg (prs ι) (prs β);have t4:=sg (prs ν) (prs τ);lia;by_cases hs:M.sgl (prs ι) (prs β) j i=M.sgl (prs ν) (prs τ) j i
   ·refine jh (by rw[hs];simp) ?_;lia;refine⟨ζ,fun η h2=>?_⟩;by_cases a5:η=j
    ·rw[a5];exact hs
    ·exact a3 η @A
   ·refine p9 (by rw[ZX,decide_eq_false_iff_not];intro e;exact hs (gj e)) ?_;lia;intro tt H9 f9 s9 e9;exact χ j i ⟨hj,by rw[aE,aE];omega,al,a3,hs⟩ tt H9 (c5.trans (ζ.trans s9)) e9
  ·rintro σ a7 ⟨v7,rfl,ζ,a3⟩;rw[bx,TC] at a3;lia;refine⟨_,_,rfl,ζ,λt ht η a5=>?_⟩;by_cases h:t=i
   ·rw[h];exact a3 η a5
   ·exact al t @A η a5
 ·rintro σ H' ⟨v6,v7,rfl,s',al⟩;rw[ov,e2] at al;lia;exact q1 al H' (c5.trans s')
theorem t8 (T:Tx K mg a):FnOk P w K mg base CX0 8 a.cV a.oy ["one","other"] (P5 a.ar):=by
 refine T.gZ.1.okA dR λe3 A outer s H vs Q E hr h=>?_;obtain⟨p1,p2,m,Y,β,G,τ,rfl,δ,q⟩:=h;obtain⟨e0,c1,b3,θ,ο,c4⟩:=δ.a1.ho;obtain⟨d2,c0,a8,Z,φ,c3⟩:=δ.a2.ho;have ll:=δ.l;have m6:=δ.g1.m6;obtain⟨ρ,ψ⟩:∃ρ,ρ=Y.length + G.length:=⟨_,rfl⟩;have eT:(Y.length:Int) + (G.length:Int)=(ρ:Int):=by omega
 have lJ:(jnp Y G).length=ρ:=by rw[Jb,ψ]
 have l0:=M.sg0_len (jnp Y G) m
 refine⟨_,((af (bJ (osc:=ag dw) (ON:=n22) (N:=["which","one","other"]) (n:=1) (fx:=[0,1]) (i:=2) dR.nd rfl rfl rfl rfl rfl rfl @H (cG @F T.fh (aa (aJ (K:=K) rfl (pv 0) rfl) ae)) (aA @C) (!C (aq (i:=0) (show hH (["which","one","other"]:B') from by decide +kernel) rfl @D) (aj (kA T) hr T.mI T.gF (!j 1 (!j 2 (aa ah (aa (az g8 ah (pv 0)) ae)))))))
  (af (aD (i:=3) dR.nd rfl @D (c6 ae))
  (af (dE xo rfl (cG @F T.fh (aa (az dk (bp (pv 0) T.ax T.bg (aV T) (hr.mono @C) T.aQ.2 .nil b0) (bp (pv 1) T.ax T.bg (aV T) (hr.mono @C) T.aQ.2 .nil b0)) ae)) (aq (i:=4) dR.nd rfl @D) (af (bT (gM (K:=K) rfl T6 Uh Ug iK (pv 3) (!j 2 ae)))
  (ai (bJ (osc:=ag dw) (ON:=n22) (N:=["pair","one","other"]) (n:=1) (fx:=[0,1]) (i:=2) dR.nd rfl rfl rfl rfl rfl rfl @H (aG (K:=K) rfl (pv 2)) (aA @C) (!C (aq (i:=0) (show hH (["pair","one","other"]:B') from by decide +kernel) rfl @D) (aj (kA T) hr T.mI T.gF (!j 1 (!j 2 (!j 0 (aa ah ae))))))))))
  (ai (aL (bD (osc:=ag dw) (ON:=n22) (N:=["place","told"]) (n:=1) (fx:=[3]) rfl rfl rfl @H (aG (K:=K) rfl (aj (Ce T) hr T.Jn T.yK (!j 3 ae))) (aA @C) (!C (aq (i:=0) (show hH (["place","told"]:B') from by decide +kernel) rfl @D) (!A (a9 (K:=K) rfl) (pv 1) (pv 0)))))))))),aw (σ':=[a' _,a' _,f',f',f']) rfl ?_⟩
 lia;refine aI θ T.ax T.bf rfl ?_;lia;rw[ov];intro D α;refine d7 (λi ys H'=>Cs (λi ys=>ys=((vu i).map λw=>M.tr2 (jnp Y G) 0 (2 ^ w)).map nat) H D i ys H') (Cs.zero α rfl) (λi ys H' hi c=>?_) (λys H1 c=>?_)
 ·lia;rw[VW,shl1];refine⟨p1,p2,m,Y,β,G,τ,0,2 ^ i,rfl,δ.same c.same,T5 _,U0 @C hi,λH6 s6=>?_⟩;refine Cs.put α (c.same.trans s6) (s6.get c.at') c.len @A ?_;rw[c.pv,Vs,ef,ef];rfl
 have e1:=c.at';rw[c.pv] at e1;have e1:H1 D=a' (.lst ((M.stj (jnp Y G) (M.sg0 (jnp Y G) m) 0).map nat)):=e1;have s1:=c.same;clear c;lia;intro η H2 f2 s2 e2;have ζ:=s1.trans s2;lia;refine aN (ζ.get θ) rfl ?_;lia;refine⟨p1,m,Y,β,rfl,δ.a1.same ζ,?_⟩;lia;refine aN (ζ.get Z) rfl ?_;lia;refine⟨p2,m,G,τ,rfl,δ.a2.same ζ,?_⟩;lia;rw[eT];have f0:H η=none:=s1.free f2;refine lQ (λi σ H'=>∃(v:T8 V) (Dm:eH),σ=[a' (.ref p1),a' (.ref p2),a' (.ref Dm),a' (.ref η),v]/\Same H H'/\H' Dm=a' (.lst ((M.stj (jnp Y G) (M.sg0 (jnp Y G) m) i).map nat))/\H' η=a' (.lst ((M.rcf (jnp Y G) m i).map nat))/\Dm≠η) ⟨f',D,rfl,ζ,s2.get e1,e2,λz=>by rw[<-z,e1] at f2;cases f2⟩ ?_ ?_
 ·rintro i σ H' hi ⟨v,Dm,rfl,s',em,et,υ⟩;have hi:i < ρ:=by omega
  have lr:=M.rcf_len (jnp Y G) m i;have a3:(M.stj (jnp Y G) (M.sg0 (jnp Y G) m) i).length=m:=by rw[M.stj_len,l0]
  have b6:i * m<=60 * 6:=Wk @A m6;lia;refine ji et em (by rw[bx,bx,lr,a3];exact Vh (aM @A)) υ.symm λH5 ι=>?_;have s5:=ι.same f0 s';have a7:=ι.oth _ _ υ em;have ξ:=ι.at';rw[<-ef] at ξ;have ξ:H5 η=a' (.lst ((M.rcf (jnp Y G) m (i + 1)).map nat)):=ξ;lia;intro D5 π;refine aH (xs:=(M.stj (jnp Y G) (M.sg0 (jnp Y G) m) i).map nat) (λj ys H'=>Cs (λj ys=>ys=(((M.stj (jnp Y G) (M.sg0 (jnp Y G) m) i).take j).map λx=>M.tr2 (jnp Y G) x 0).map nat) H5 D5 j ys H') (Cs.zero π rfl) (λj ys H' _ c=>SqL.of (c.same.get a7)) (λj v ys H6 hv c=>?_) (λys H6 c=>?_)
  ·obtain⟨y,χ,rfl⟩:=ay hv;have hj:=(b'.mp χ).1;have a4:=M.stj_lt (jnp Y G) m i y (ee χ);rw[lJ,ψ] at a4;lia;refine⟨p1,p2,m,Y,β,G,τ,y,0,rfl,δ.same (s5.trans c.same),a4,T5 _,λH7 L=>?_⟩;refine Cs.put π (c.same.trans L) (L.get c.at') c.len @A ?_;rw[c.pv,take_succ χ,ef,ef];rfl
  have ω:=c.at';rw[c.pv,bx,i'] at ω;have s6:=c.same;clear c;lia;exact⟨_,D5,rfl,s5.trans s6,ω,s6.get ξ,λz=>by rw[z,ξ] at π;cases π⟩
 ·rintro σ H' ⟨v,Dm,rfl,s',em,et,υ⟩;rw[ov] at et;have lr:=M.rcf_len (jnp Y G) m ρ;have b6:ρ * m<=60 * 6:=Wk @A m6;obtain⟨ε,ν⟩:∃ε,ε=M.rcf (jnp Y G) m ρ:=⟨_,rfl⟩;rw[<-ν] at et lr;lia;refine⟨η,ε,rfl,et,@A,λB H7 γ L e7=>?_⟩;have a6:=L.get et;lia;intro D8 a0;refine aH (xs:=(M.fr ε).map nat) (λj ys H'=>Cs (λj ys=>ys=(((M.fr ε).take j).map λi=>ε.getD i 0).map nat) H7 D8 j ys H') (Cs.zero a0 rfl) (λj ys H' _ c=>SqL.of (c.same.get e7)) (λj v ys H8 hv c=>?_) (λys H8 c=>?_)
  ·obtain⟨y,χ,rfl⟩:=ay hv;have hj:=(b'.mp χ).1;have a5:=M.fr_lt y (ee χ);have d1:=c.same.get a6;have c5:atI (ε.map nat) (y:Int)=a' (nat (ε.getD y 0)):=di (by rw[gA,ec,ed a5];rfl);have c2:=M.fr_len ε;lia;refine Cs.put a0 c.same c.at' c.len @A ?_;rw[c.pv,take_succ χ,ef,ef];rfl
  have e8:=c.at';rw[c.pv,bx,i'] at e8;refine q D8 H8 ((s'.trans L).free a0) ((s'.trans L).trans c.same) ?_;unfold M.prs2 M.fR;rw[aE,aE,<-ψ,<-ν];exact e8
theorem Cd (T:Tx K mg a):FnOk P w K mg base CX0 10 a.iq a.yB ["one","other"] (P9 a.ar):=by
 refine T.ph.1.okA gh λj3 A outer s H vs Q E hr h=>?_;obtain⟨p1,p2,m,Y,β,ν,a0,rfl,δ,q1,q2⟩:=h;obtain⟨j1,g3,f8,θ,h5,h3⟩:=δ.a1.ho;obtain⟨j0,g0,f5,Z,h4,h0⟩:=δ.a2.ho;have ll:=δ.l;have τ:=δ.lo;have m6:=δ.g1.m6;obtain⟨G,π⟩:∃G,G=M.prs2 (prs Y) (prs ν) m:=⟨_,rfl⟩;have g4:G.length<=60:=by rw[π];have:=M.prs2_few (prs Y) (prs ν) m;rw[aE,aE] at this;omega
 have e4:∀x∈G,x < 2 ^ (Y.length + ν.length):=λx hx=>by
  rw[π] at hx;have:=M.prs2_lt hx;rwa [aE,aE] at this
 have a3:∀x∈G,x < 2 ^ 1000:=λx hx=>gm (e4 x hx) (hJ @C @A);have ε:∀x r,M.tr2 (jnp Y ν) x r < 2 ^ 1000:=λx r=>gm (M.tr2_lt _ _ _) (hJ @C (by rw[Jb];omega))
 have a4:∀{x r:Nat},(x=0∨x∈G)->r < 2 ^ m->M.Span G (M.tr2 (jnp Y ν) x r):=λhx f0=>by
  rw[π] at hx ⊢;exact HU (q:=0) hx f0
 have e6:(1:Int) * 2 ^ ((Y.length:Int).toNat) - 1=((2 ^ Y.length - 1:Nat):Int):=by rw[shl1];have:=T5 Y.length;omega
 refine⟨_,((af (dU (PW.pt (qg (aU ze (aJ (K:=K) rfl (pv 0) rfl) (aJ (K:=K) rfl (pv 1) rfl) (bh _)) (nQ (aU ze (bp (pv 0) T.ax T.fM (eJ T) (hr.mono @C) T.bW.2 .nil b0) (bp (pv 1) T.ax T.fM (eJ T) (hr.mono @C) T.bW.2 .nil b0) (bh _))))) (ai i5) bo)
  (af (aD (i:=2) gh.nd rfl @D (aj (vv T) hr T.x8 T.iH (!j 0 (!j 1 ae))))
  (af (dU (aU OI (pv 2) MS (bh _)) (ai (aL (pv 2))) bo)
  (af (aD (i:=3) gh.nd rfl @D (aj (t8 T) hr T.wz T.gZ (!j 0 (!j 1 ae))))
  (af (bJ (osc:=ag jx) (ON:=n23) (N:=["which","pairs","one","other"]) (n:=1) (fx:=[3,0,1]) (i:=4) gh.nd rfl rfl rfl rfl rfl rfl @H (cG @F T.fh (aa (aJ (K:=K) rfl (pv 0) rfl) ae)) (aA @C) (!C (aq (i:=0) (show hH (["which","pairs","one","other"]:B') from by decide +kernel) rfl @D) (!A @I (aj (sy T) hr T.wy T.l6 (!j 1 (aa (aj (kA T) hr T.mI T.gF (!j 2 (!j 3 (aa ah (aa (az g8 ah (pv 0)) ae))))) ae))) ah)))
  (af (bJ (osc:=ag jx) (ON:=n23) (N:=["pair","pairs","one","other"]) (n:=1) (fx:=[3,0,1]) (i:=5) gh.nd rfl rfl rfl rfl rfl rfl @H (aG (K:=K) rfl (pv 3)) (aA @C) (!C (aq (i:=0) (show hH (["pair","pairs","one","other"]:B') from by decide +kernel) rfl @D) (!A @I (aj (sy T) hr T.wy T.l6 (!j 1 (aa (aj (kA T) hr T.mI T.gF (!j 2 (!j 3 (!j 0 (aa ah ae))))) ae))) ah)))
  (af (aD (i:=6) gh.nd rfl @D (bp (pv 0) T.ax T.bg (aV T) (hr.mono @C) T.aQ.2 .nil b0))
  (af (bJ (osc:=ag jx) (ON:=n23) (N:=["pair","width"]) (n:=1) (fx:=[6]) (i:=7) gh.nd rfl rfl rfl rfl rfl rfl @H (aG (K:=K) rfl (pv 3)) (aA @C) (!C (aq (i:=0) (show hH (["pair","width"]:B') from by decide +kernel) rfl @D) (dF (aa (az lF (pv 0) (az qU (az g8 ah (pv 1)) ah)) (aa (az qV (pv 0) (pv 1)) ae)))))
  (ai (aL (dF (aa bI (!j 7 (!j 4 (!j 5 ae)))))))))))))))),aw (σ':=[a' _,a' _,f',f',f',f',f',f']) rfl ?_⟩
 lia;refine aI θ T.ax T.bf rfl ?_;lia;refine aI Z T.ax T.bf rfl ?_;lia;dsimp only;rw[qb @E];lia;refine aN θ rfl ?_;lia;refine⟨p1,m,Y,β,rfl,δ.a1,?_⟩;lia;refine aN Z rfl ?_;lia;refine⟨p2,m,ν,a0,rfl,δ.a2,?_⟩;lia;dsimp only;rw[qb (by rw[τ];simp)];lia;refine⟨p1,p2,m,Y,β,ν,a0,rfl,δ,λal H1 s1=>?_,fun α t' fu tt H1 s1 e1=>?_⟩
 ·lia;refine⟨p1,p2,m,Y,β,ν,a0,rfl,δ.same s1,λD H2 f2 s2 e2=>?_⟩;rw[<-π] at e2;have b3:=s1.trans s2;lia;refine aI (b3.get θ) T.ax T.bf rfl ?_;lia;rw[ov];intro D3 e3;refine d7 (λj ys H'=>Co (λj=> .lst ((M.pl 1000 (sfq G (M.tr2 (jnp Y ν) 0 (2 ^ j)))).map nat)) H2 D3 j ys H') (qG e3) (λi ys H' hi c=>?_) (λys H3 c=>?_)
  ·have ξ:=c;obtain⟨_,_,_,_,_,η,_⟩:=ξ;have a7:=b3.trans η;have c1:2 ^ i < 2 ^ m:=U0 @C hi;lia;rw[VW,shl1];refine⟨p1,p2,m,Y,β,ν,a0,0,2 ^ i,rfl,δ.same a7,T5 _,c1,λH6 ρ=>?_⟩;lia;refine⟨D,G,_,rfl,ρ.get (η.get e2),@A,a3,ε _ _,.inl (a4 (.inl rfl) c1),λt7 D7 H7 qq γ L e7 c2 sd=>?_,λt7 H7 mk L e7 bd=>hD (a4 (.inl rfl) c1) bd.ns⟩;lia;exact wR e3 c (ρ.trans L) (ρ.free γ) (by rw[c2,MH sd]) @A
  obtain⟨bs,rfl,υ,e5,i4,c4,χ⟩:=c;have a8:=b3.trans c4;have c3:=c4.get e2;lia;intro D4 e0;refine aH (xs:=G.map nat) (λj ys H'=>Co (λj=> .lst ((M.pl 1000 (sfq G (M.tr2 (jnp Y ν) (G.getD j 0) 0))).map nat)) H3 D4 j ys H') (qG e0) (λj ys H' _ ⟨_,_,_,_,_,s',_⟩=>SqL.of (s'.get c3)) (λj v ys H' hv c=>?_) (λys H4 c=>?_)
  ·obtain⟨y,hy,rfl⟩:=ay hv;have hj:=(b'.mp hy).1;have b6:=ee hy;have c0:G.getD j 0=y:=by rw[ec,hy];rfl
   have ξ:=c;obtain⟨_,_,_,_,_,η,_⟩:=ξ;have a7:=a8.trans η;lia;refine⟨p1,p2,m,Y,β,ν,a0,y,0,rfl,δ.same a7,e4 y b6,T5 _,λH6 ρ=>?_⟩;lia;refine⟨D,G,_,rfl,ρ.get (η.get c3),@A,a3,ε _ _,.inl (a4 (.inr b6) (T5 _)),λt7 D7 H7 qq γ L e7 c2 sd=>?_,λt7 H7 mk L e7 bd=>hD (a4 (.inr b6) (T5 _)) bd.ns⟩;lia;exact wR e0 c (ρ.trans L) (ρ.free γ) (by rw[c2,MH sd,c0]) @A
  obtain⟨us,rfl,ζ,ω,h6,a6,f1⟩:=c;rw[bx] at ζ;have c5:=a8.trans a6;have f3:=a6.get c3;lia;refine aN (c5.get θ) rfl ?_;lia;refine⟨p1,m,Y,β,rfl,δ.a1.same c5,?_⟩;lia;intro D5 d2;refine aH (xs:=G.map nat) (λj ys H'=>Co (λj=> .tup [nat (M.lo Y.length (G.getD j 0)),nat (G.getD j 0>>>Y.length)]) H4 D5 j ys H') (qG d2) (λj ys H' _ ⟨_,_,_,_,_,s',_⟩=>SqL.of (s'.get f3)) (λj v ys H' hv c=>?_) (λys H5 c=>?_)
  ·obtain⟨y,hy,rfl⟩:=ay hv;have hj:=(b'.mp hy).1;have c0:G.getD j 0=y:=by rw[ec,hy];rfl
   lia;rw[e6,d8,BS];intro ι H9 f9 s9 e9;exact wR d2 c s9 f9 (by rw[e9,c0];rfl) @A
  obtain⟨ts,rfl,d1,f4,i3,e8,φ⟩:=c;rw[bx] at d1;lia;intro tt H6 f6 ρ ψ;have ο:=e8.trans ρ;have a5:=a6.trans ο;subst π;exact q1 al tt D5 D3 D4 ts bs us H6 (a8.trans a5) ⟨ψ,ρ.get φ,d1,λj d h=>by rw[aE];exact ρ.get (f4 j d h),a5.get χ,υ,λj d h=>a5.get (e5 j d h),ο.get f1,ζ,λj d h=>ο.get (ω j d h)⟩
 ·lia;exact q2 α t' fu tt H1 s1 e1
end
theorem Ly (T:Tx K mg a):FnOk P w K mg base CX0 4 a.qD a.JQ ["net"] (Lc (NAof a)):=by
 refine T.Ah.1.okA yT λc0 A outer s H vs Q E π h=>?_;obtain⟨p,N,od,rfl,na,q⟩:=h;have τ:=rz π;obtain⟨dx,i,s,t,o,d,tq,rs,qs,ws,hp,kp,wi,eq⟩:=na.ho;have g:=na.g;have tp:=na.tp;have nl:=zq g tp;have hg:=zM g tp
 refine⟨_,((af (aD (i:=1) yT.nd rfl @D qS)
  (af (dE xo rfl (aG (K:=K) rfl (bp (pv 0) T.dD T.j2 (jd T) (π.mono @C) T.cb.2 .nil b0)) (aq (i:=2) yT.nd rfl @D) (ai (y8 τ (pv 1) (pv 2) (PE.or (eW (eW (pv 0) T.dD T.fK (d4 T) (π.mono @C) T.cy.2 .nil b0 (!j 2 ae)) T.mS T.zz (xy T) (π.mono @C) T.g7.2 .nil b0 (!j 1 ae)) (PE.or (eW (eW (pv 0) T.dD T.fK (d4 T) (π.mono @C) T.cy.2 .nil b0 (!j 2 ae)) T.km T.xF (vx T) (π.mono @C) T.fZ.2 .nil b0 (!j 1 ae)) (eW (eW (pv 0) T.dD T.fK (d4 T) (π.mono @C) T.cy.2 .nil b0 (!j 2 ae)) T.fH T.ui (sD T) (π.mono @C) T.dZ.2 .nil b0 (!j 1 ae)))) rfl)))
  (ai (aL (pv 1)))))),aw (σ':=[a' _,f',f']) rfl ?_⟩
 lia;intro ρ H1 G s1 e1;have a5:=s1.get hp;lia;refine aN a5 rfl ?_;lia;refine⟨p,N,od,rfl,na.same s1,λD2 H2 f2 s2 e2=>?_⟩;have a4:=s1.trans s2;lia;refine iF (xs:=(need N od).map V.str) (λi σ H'=>∃v hs,σ=[a' (.ref p),a' (.ref ρ),v]/\Same H H'/\H' D2=a' (.lst ((need N od).map V.str))/\Hgd H' ρ N ((need N od).take i) hs) ⟨f',[],rfl,a4,e2,s2.get e1,rfl,λ_ h=>by cases h⟩ (λi σ H' _ ⟨_,_,_,_,e',_⟩=>SqL.of e') ?_ ?_
 ·rintro i y σ H' hy ⟨v,hs,rfl,s',eD,hd⟩;obtain⟨z,hz,rfl⟩:=ay hy;have b6:=(b'.mp hz).1;have ν:=(kC g tp z).mp (ee hz);have φ:=s'.get hp;have υ:=na.same s';obtain⟨b3,a8,a7,x1,x2,x3⟩:=mG g;have ω:=vF g tp hz
  have lk:(hs.map λq=>((Tz q.1:Key),V.ref q.2)).length<=1000:=by
   have:=T4 TX hd.nm;rw[bx,wh] at this;rw[bx];omega
  have fin:∀(t:eH) (α ζ:Hp),Same H' α->α t=a' (.tup [nat (hgp N z).1,nat (hgp N z).2])->Upd α ζ ρ (.dK (putK (hs.map λq=>((Tz q.1:Key),V.ref q.2)) (Tz z) (.ref t)))->∃L,Same H ζ/\ζ D2=a' (.lst ((need N od).map V.str))/\Hgd ζ ρ N ((need N od).take (i + 1)) L:=λt α ζ Z et ι=>by
   rw[B8 (zs:=(need N od).take i) (by rw[TU,<-hd.nm,TU];rfl) ω] at ι;have ψ:=Z.get hd.d;refine⟨hs++[(z,t)],λbb o e=>ι.oth _ _ (ao e G) (Z.get (s'.get e)),ι.oth _ _ (cC (Z.get eD) ψ λz=>by cases z) (Z.get eD),by rw[ef];exact ι.at',by rw[ef,hd.nm,take_succ hz];rfl,λq hq=>?_⟩;rcases gz.mp hq with h | h
   ·have e4:=Z.get (hd.ob q h);exact ι.oth _ _ (cC e4 ψ λz=>by cases z) e4
   ·rw[gs.mp h];exact ι.oth _ _ (cC et ψ λz=>by cases z) et
  lia;have ο:=ν;unfold Nt.names at ο;rcases gz.mp ο with h' | h'
  ·rcases gz.mp h' with h' | h'
   ·refine WA ?_;lia;refine aN φ rfl ?_;lia;refine⟨p,N,od,z,rfl,υ,ν,λw H3 ξ β=>?_⟩;cases β with
    | i k θ hk e=>
      have a6:=(b'.mp hk).1;have:=g.li;lia;refine aN e rfl ?_;lia;refine⟨w,θ,.str z,(k:Int),.ref ρ,rfl,e,@A,@A,λt α Z et=>?_⟩;rw[shl1] at et;have ε:α t=a' (.tup [nat (hgp N z).1,nat (hgp N z).2]):=by rw[hg.i k z hk];exact et
      lia;refine qc (Z.get (ξ.get hd.d)) (aM lk) fun ζ ι=>?_;obtain⟨L,a1,a2,a3⟩:=fin t α ζ (ξ.trans Z) ε ι;lia;exact⟨_,L,rfl,a1,a2,a3⟩
    | s γ θ δ hk e et=>exact hD (hF.mpr ⟨_,hk,rfl⟩) (x1 z h')
    | t k y θ hk e=>exact hD (hF.mpr ⟨_,ee hk,rfl⟩) (x2 z h')
   ·refine Wf (WA ?_);lia;refine aN φ rfl ?_;lia;refine⟨p,N,od,z,rfl,υ,ν,λw H3 ξ β=>?_⟩;cases β with
    | i k θ hk e=>exact hD h' (x1 z (ee hk))
    | s γ θ δ hk e et=>
      have η:=Ck g tp hz γ hk;have χ:=hd.same ξ;lia;refine aN e rfl ?_;lia;refine⟨w,θ,.str z,δ,ρ,γ,_,λy=>(((hgp N y).1:Nat):Int),λy=>(((hgp N y).2:Nat):Int),rfl,e,SqT.of et,χ.d,λy hy=>(by obtain⟨t,Y,t2⟩:=χ.val (η y hy);exact⟨t,Y,SqT.of t2⟩),λt α Z a0=>?_⟩;rw[Jv,Jv] at a0;have ε:α t=a' (.tup [nat (hgp N z).1,nat (hgp N z).2]):=by rw[hg.s z γ hk];exact a0
      lia;refine qc (Z.get χ.d) (aM lk) fun ζ ι=>?_;obtain⟨L,a1,a2,a3⟩:=fin t α ζ (ξ.trans Z) ε ι;lia;exact⟨_,L,rfl,a1,a2,a3⟩
    | t k y θ hk e=>exact hD (hF.mpr ⟨_,ee hk,rfl⟩) (x3 z h')
  ·refine Wf (Wf ?_);lia;refine aN φ rfl ?_;lia;refine⟨p,N,od,z,rfl,υ,ν,λw H3 ξ β=>?_⟩;cases β with
   | i k θ hk e=>exact hD h' (x2 z (ee hk))
   | s γ θ δ hk e et=>exact hD h' (x3 z (hF.mpr ⟨_,hk,rfl⟩))
   | t k y θ hk e=>
     have a6:=(b'.mp hk).1;have:=g.lt;lia;refine aN e rfl ?_;lia;refine⟨w,θ,.str z,.str y,(k:Int),.ref ρ,rfl,e,@A,@A,λt α Z et=>?_⟩;rw[shl1] at et;have ε:α t=a' (.tup [nat (hgp N z).1,nat (hgp N z).2]):=by rw[hg.t k z y hk];exact et
     lia;refine qc (Z.get (ξ.get hd.d)) (aM lk) fun ζ ι=>?_;obtain⟨L,a1,a2,a3⟩:=fin t α ζ (ξ.trans Z) ε ι;lia;exact⟨_,L,rfl,a1,a2,a3⟩
 ·rintro σ H' ⟨v,hs,rfl,s',eD,hd⟩;rw[bx,i'] at hd;lia;exact q ρ H' hs G s' hd
theorem vp (T:Tx K mg a):FnOk P w K mg base CX0 7 a.ib a.yv ["net"] (KR (NAof a) a.ar):=by
 refine T.lW.1.okA mn λc1 A outer s H vs Q E ο h=>?_;obtain⟨p,N,od,rfl,na,q⟩:=h;have τ:=rz ο;obtain⟨dx,i,s,t,o,d,tq,rs,qs,ws,hp,kp,wi,eq⟩:=na.ho;have g:=na.g;have tp:=na.tp;have lt:=g.lt;have lo:=g.lo;have li:=g.li
 refine⟨_,((af (aD (i:=1) mn.nd rfl @D (aj (Ly T) ο T.O2 T.Ah (!j 0 ae)))
  (af (bJ (osc:=ag lC) (ON:=["net","pairs","nexts","outs"]) (N:=["row","pairs"]) (n:=1) (fx:=[1]) (i:=2) mn.nd rfl rfl rfl rfl rfl rfl @H (aG (K:=K) rfl (bp (pv 0) T.dD T.ja (h8 T) (ο.mono @C) T.cF.2 .nil b0)) (aA @C) (!C (aq (i:=0) (show hH (["row","pairs"]:B') from by decide +kernel) rfl @D) (nR τ (pv 1) (!A @I (pv 0) ah) (λ_ _=>rfl))))
  (af (bJ (osc:=ag lC) (ON:=["net","pairs","nexts","outs"]) (N:=["wire","pairs"]) (n:=1) (fx:=[1]) (i:=3) mn.nd rfl rfl rfl rfl rfl rfl @H (aG (K:=K) rfl (bp (pv 0) T.dD T.jZ (i8 T) (ο.mono @C) T.cX.2 .nil b0)) (aA @C) (!C (aq (i:=0) (show hH (["wire","pairs"]:B') from by decide +kernel) rfl @D) (nR τ (pv 1) (pv 0) (λ_ _=>rfl))))
  (ai (aL (jR T.BH (jV T) (ο.mono @C) @F T.A2 T.dc.2 .nil b0 (aa (aK (aP (K:=K) rfl) @F T.eQ ot (aa (bp (pv 0) T.dD T.lg (jT T) (ο.mono @C) T.dj.2 .nil b0) ae)) (!j 2 (!j 3 ae)))))))))),aw (σ':=[a' _,f',f',f']) rfl ?_⟩
 lia;refine⟨p,N,od,rfl,na,λDd H1 hs f1 s1 hd=>?_⟩;lia;refine aN (s1.get hp) rfl ?_;lia;refine⟨p,N,od,rfl,na.same s1,λD2 H2 δ f2 s2 e2 qk et=>?_⟩;have a0:=s1.trans s2;have θ:=hd.same s2;have α:δ.length=N.sts.length:=by rw[<-et,bx]
 have υ:∀{k:Nat} {r:Qs},δ[k]? =a' r->(N.sts.map (·.2))[k]? =a' r.2.2:=λ{k r} h=>by rw[<-et,gA,gA,h];rfl
 lia;intro D3 ψ;refine aH (xs:=δ.map λr=>V.ref r.1) (λi ys H'=>∃nx:eE Pr3,ys=refs nx/\Same H2 H'/\H' D3=a' (.lst ys)/\Prt H2 nx/\prs nx=((N.sts.map (·.2)).take i).map (hgp N)) ⟨[],rfl,aW ψ,au,λ_ h=>(by cases h),rfl⟩ (λi ys H' _ ⟨_,_,s',_⟩=>SqL.of (s'.get e2)) ?_ ?_
 ·rintro i y ys H' hy ⟨nx,rfl,s',e',pt,ep⟩;obtain⟨r,ε,rfl⟩:=ay hy;have a7:=(b'.mp ε).1;have er:=s'.get (qk r (ee ε));have η:=υ ε;have ζ:r.2.2∈need N od:=(kC g tp _).mpr (by obtain⟨γ,Y,e'⟩:=hF.mp (ee η);rw[<-e'];exact g.ts γ Y);obtain⟨tt,v1,v2⟩:=θ.val ζ;have ln:nx.length=i:=by have:=T4 TX ep;rw[bx,bx,wh,bx] at this;omega
  lia;refine sk (s'.get θ.d) v1 ?_;lia;refine⟨e',by rw[gU];exact aM @A,nx++[(tt,hgp N r.2.2)],by unfold refs;rw[ef];rfl,λb ob e=>?_,au,fun γ Y=>?_,?_⟩
  ·rw[aF (ao e ψ)];exact s'.get e
  ·rcases gz.mp Y with h | h
   ·exact pt γ h
   ·rw[gs.mp h];exact v2
  ·show WK _ (nx++_)=_;rw[ef,show nx.map (·.2)=_ from ep,take_succ η,ef];rfl
 ·rintro ys H3 ⟨nx,rfl,s3,e3,pn,χ⟩;rw[bx,α,UE (by rw[bx];exact sb _)] at χ;have a5:=pn.same s3;have a8:=θ.same s3;have β:=a0.trans s3;clear e2 qk et υ pn f2;lia;refine aN (β.get hp) rfl ?_;lia;refine⟨p,N,od,rfl,na.same β,λD4 H4 f4 s4 e4=>?_⟩;have ν:=a8.same s4;lia;intro D5 φ;refine aH (xs:=N.outs.map V.str) (λi ys H'=>∃nx:eE Pr3,ys=refs nx/\Same H4 H'/\H' D5=a' (.lst ys)/\Prt H4 nx/\prs nx=(N.outs.take i).map (hgp N)) ⟨[],rfl,aW φ,au,λ_ h=>(by cases h),rfl⟩ (λi ys H' _ ⟨_,_,s',_⟩=>SqL.of (s'.get e4)) ?_ ?_
  ·rintro i y ys H' hy ⟨nx,rfl,s',e',pt,ep⟩;obtain⟨z,hz,rfl⟩:=ay hy;have a7:=(b'.mp hz).1;have ζ:z∈need N od:=(kC g tp _).mpr (g.os z (ee hz));obtain⟨tt,v1,v2⟩:=ν.val ζ;have ln:nx.length=i:=by have:=T4 TX ep;rw[bx,bx,wh] at this;omega
   lia;refine sk (s'.get ν.d) v1 ?_;lia;refine⟨e',by rw[gU];exact aM @A,nx++[(tt,hgp N z)],by unfold refs;rw[ef];rfl,λb ob e=>?_,au,fun γ Y=>?_,?_⟩
   ·rw[aF (ao e φ)];exact s'.get e
   ·rcases gz.mp Y with h | h
    ·exact pt γ h
    ·rw[gs.mp h];exact v2
   ·show WK _ (nx++_)=_;rw[ef,show nx.map (·.2)=_ from ep,take_succ hz,ef];rfl
  ·rintro ys H5 ⟨os,rfl,s5,π,po,eo⟩;rw[bx,i'] at eo;have ι:=s4.trans s5;have ρ:=β.trans ι;have a3:=po.same s5;have a4:=a5.same ι;have b3:=ι.get e3;have a6:nx.length=N.sts.length:=by have:=T4 TX χ;rw[bx,bx,bx] at this;exact this
   have c0:os.length=N.outs.length:=by have:=T4 TX eo;rw[bx,bx] at this;exact this
   have ξ:∀q∈nx++os,q.2.1 < 2 ^ nx.length/\q.2.2 < 2 ^ N.ins.length:=fun γ Y=>by
    have:∃z,γ.2=hgp N z:=by
     rcases gz.mp Y with h | h
     ·have:γ.2∈prs nx:=hF.mpr ⟨γ,h,rfl⟩;rw[χ] at this;obtain⟨z,_,e⟩:=hF.mp this;exact⟨z,e.symm⟩
     ·have:γ.2∈prs os:=hF.mpr ⟨γ,h,rfl⟩;rw[eo] at this;obtain⟨z,_,e⟩:=hF.mp this;exact⟨z,e.symm⟩
    obtain⟨z,e⟩:=this;rw[e,a6];exact⟨RK N z,RJ N z⟩
   clear e4 f4;lia;refine aN (ρ.get hp) rfl ?_;lia;refine⟨p,N,od,rfl,na.same ρ,λD6 H6 f6 s6 ω=>?_⟩;lia;rw[bx];intro x b6 H7 f7 L e7;have Z:=s6.trans L;refine⟨x,b6,D3,D5,N.ins.length,nx,os,rfl,e7,⟨li,Z.get b3,Z.get π,a4.same Z,a3.same Z,@A,@A,ξ⟩,λH8 k8 ma=>⟨rfl,?_⟩⟩;have G:Same H6 H8:=λb ob e=>k8 _ _ (ao e f7) (L.get e);exact q x H8 nx os (ρ.free (s6.free f7)) (ρ.trans (s6.trans G)) ma ⟨li,by omega,by omega,ξ⟩ χ eo
section
local macro_rules | `(tactic| walk_at "l2step") =>`(tactic| first | (with_reducible refine Hn ?_) | (with_reducible refine SK ?_))
theorem mE (T:Tx K mg a):FnOk P w K mg base CX0 1 a.il a.yz ["letter","count"] N0:=by
 refine T.iB.1.okA BX λG A outer s H vs Q E L h=>?_;obtain⟨l,n,rfl,hl,hn,q⟩:=h;refine⟨_,((ai (aL (bD (osc:=ag oO) (ON:=["letter","count"]) (N:=["number","letter"]) (n:=1) (fx:=[0]) rfl rfl rfl @H (cG @F T.fh (!j 1 ae)) (aA @C) (!C (aq (i:=0) (show hH (["number","letter"]:B') from by decide +kernel) rfl @D) (az lG (pv 1) (aX kI @F T.IE Vv (!j 0 ae)))))))),aw (σ':=[a' _,a' _]) rfl ?_⟩;lia;rw[ov];intro D α;refine d7 (λi ys H'=>Cs (λi ys=>ys=(nmb l i).map V.str) H D i ys H') (Cs.zero α rfl) (λi ys H' hi c=>?_) (λys H' c=>?_)
 ·lia;rw[VW];refine⟨Mj @A,l,tx i,rfl,rfl,JV hl @A,?_⟩;refine Cs.put α c.same c.at' c.len @A ?_;rw[c.pv,LB,ef];rfl
 ·have e:=c.at';rw[c.pv] at e;lia;exact q D H' α c.same e
theorem AF (T:Tx K mg a):FnOk P w K mg base CX0 2 a.gw a.wK ["name","pair"] N1:=by
 refine T.mQ.1.okA tG fun φ A outer s H vs Q E ε h=>?_;obtain⟨z,t,x,y,rfl,et,ρ,ο,q⟩:=h
 have pb:∀{m k i:Nat},(M.pl 1000 m)[i]? =a' k->k < 1000/\i < 1000:=λ{m k i} h=>by
  have a1:=U8.mp (UT.mp (ee h)).1;have a2:=(b'.mp h).1;have a3:=M.pl_le 1000 m;omega
 have l1:=M.pl_le 1000 x;have ξ:=M.pl_le 1000 y
 refine⟨_,((af (bJ (osc:=ag jG) (ON:=["name","pair","stores"]) (N:=["place"]) (n:=1) (fx:=[]) (i:=2) tG.nd rfl rfl rfl rfl rfl rfl @H (aG (K:=K) rfl (aj (oV T) ε T.rA T.ki (aa (!A @I (pv 1) ah) ae))) (aA @C) (!C (aq (i:=0) (show hH (["place"]:B') from by decide +kernel) rfl @D) (az lG bI (aX kI @F T.IE Vv (!j 0 ae)))))
  (ai (aL (dF (!j 0 (aa (az jc (pv 2) (bD (osc:=ag jG) (ON:=["name","pair","stores"]) (N:=["place"]) (n:=1) (fx:=[]) rfl rfl rfl @H (aG (K:=K) rfl (aj (oV T) ε T.rA T.ki (aa (!A @I (pv 1) ah) ae))) (aA @C) (!C (aq (i:=0) (show hH (["place"]:B') from by decide +kernel) rfl @D) (az lG bI (aX kI @F T.IE Vv (!j 0 ae)))))) ae))))))),aw (σ':=[a' _,a' _,f']) rfl ?_⟩
 lia;refine⟨x,rfl,ρ,λD1 H1 G ν υ=>?_⟩;lia;intro D2 α;refine aH (xs:=(M.pl 1000 x).map nat) (λi ys H'=>Cs (λi ys=>ys=(((M.pl 1000 x).take i).map λk=>("s":T3)++tx k).map V.str) H1 D2 i ys H') (Cs.zero α rfl) (λi ys H' _ c=>SqL.of (c.same.get υ)) (λi v ys H' γ c=>?_) (λys H2 c=>?_)
 ·obtain⟨k,hk,rfl⟩:=ay γ;have b1:=pb hk;lia;refine⟨Mj @A,"s",tx k,rfl,rfl,JV @H @A,?_⟩;refine Cs.put α c.same c.at' c.len @A ?_;rw[c.pv,take_succ hk,ef,ef];rfl
 ·have η:=c.at';rw[c.pv,bx,i'] at η;have β:=c.same;have Y:=ν.trans β;clear c;lia;refine⟨y,rfl,ο,λD3 H3 f3 θ τ=>?_⟩;lia;intro D4 Z;refine aH (xs:=(M.pl 1000 y).map nat) (λi ys H'=>Cs (λi ys=>ys=(((M.pl 1000 y).take i).map λk=>("i":T3)++tx k).map V.str) H3 D4 i ys H') (Cs.zero Z rfl) (λi ys H' _ c=>SqL.of (c.same.get τ)) (λi v ys H' γ c=>?_) (λys H4 c=>?_)
  ·obtain⟨k,hk,rfl⟩:=ay γ;have b1:=pb hk;lia;refine⟨Mj @A,"i",tx k,rfl,rfl,JV @H @A,?_⟩;refine Cs.put Z c.same c.at' c.len @A ?_;rw[c.pv,take_succ hk,ef,ef];rfl
  ·have ζ:=c.at';rw[c.pv,bx,i'] at ζ;have L:=θ.trans c.same;clear c;refine pA (L.get η) ζ (by rw[bx,bx,bx,bx,nr];omega) λD5 H5 ψ ι π=>?_;rw[<-ef] at π;lia;intro tt χ f6 δ ω;exact q tt D5 χ ((Y.trans L).free ψ) (Y.trans (L.trans (ι.trans δ))) ω (δ.get π)
theorem Im (T:Tx K mg a):FnOk P w K mg base CX0 7 a.mK a.Eh ["machine"] (K0 (NAof a) a.ar):=by
 refine T.uO.1.okA lh λl1 A outer s H vs Q E hr h=>?_;obtain⟨p,m,nx,os,rfl,ma,ξ,q⟩:=h;have lp:=ξ.lp;have lo:=ξ.lo;have m6:=ξ.m6;rw[aE] at lp lo;obtain⟨dx,tn,to,hp,hn,ho⟩:=ma.ho;have pn:=ma.hn;have po:=ma.hs;have g0:("n":T3).length<=10:=by decide +kernel
 have f7:("o":T3).length<=10:=by decide +kernel
 have f0:("s":T3).length<=10:=by decide +kernel
 have g3:("i":T3).length<=10:=by decide +kernel
 refine⟨_,((af (aD (i:=1) lh.nd rfl @D (aj (mE T) hr T.o4 T.iB (aa bI (aa (bp (pv 0) T.ax T.bg (aV T) (hr.mono @C) T.aQ.2 .nil b0) ae))))
  (af (aD (i:=2) lh.nd rfl @D (aj (mE T) hr T.o4 T.iB (aa bI (aa (bp (pv 0) T.ax T.fM (eJ T) (hr.mono @C) T.bW.2 .nil b0) ae))))
  (af (aD (i:=3) lh.nd rfl @D (az jc (aX (cM (K:=K) rfl) @F T.g9 wq (aa (aJ (K:=K) rfl (pv 0) rfl) ae)) (aX (cM (K:=K) rfl) @F T.g9 wq (aa (aJ (K:=K) rfl (pv 0) rfl) ae))))
  (af (bJ (osc:=ag uI) (ON:=["machine","next_names","out_names","pairs","sums","stores"]) (N:=["name","pair"]) (n:=2) (fx:=[]) (i:=4) lh.nd rfl rfl rfl rfl rfl rfl @H (MR (K:=K) rfl @F T.OO (az jc (pv 1) (pv 2)) (pv 3)) (wu (eK (aA @C) (eK (aA @C) qv))) (!C (qh (K:=K) (n:=2) rfl rfl (bL (aq (i:=0) (show hH (["name","pair"]:B') from by decide +kernel) rfl @D) (bL (aq (i:=1) (show hH (["name","pair"]:B') from by decide +kernel) rfl @D) i6))) (aj (AF T) hr T.CJ T.mQ (!j 0 (!j 1 ae)))))
  (af (aD (i:=5) lh.nd rfl @D (Fd (K:=K) rfl rfl @F @F T.g9 T.OO (aj (mE T) hr T.o4 T.iB (aa bI (aa (bp (pv 0) T.ax T.bg (aV T) (hr.mono @C) T.aQ.2 .nil b0) ae))) (pv 1)))
  (ai (aL (jR T.Pp (jU T) (hr.mono @C) @F T.O3 T.d9.2 .nil b0 (aa (aj (mE T) hr T.o4 T.iB (aa bI (aa (aJ (K:=K) rfl (pv 0) rfl) ae))) (!j 4 (!j 5 (!j 2 ae))))))))))))),aw (σ':=[a' _,f',f',f',f',f']) rfl ?_⟩
 lia;refine aN hp rfl ?_;lia;refine⟨p,m,nx,os,rfl,ma,?_⟩;lia;refine⟨"n",nx.length,rfl,g0,@A,λD1 H1 f1 s1 e1=>?_⟩;lia;refine aN (s1.get hp) rfl ?_;lia;refine⟨p,m,nx,os,rfl,ma.same s1,?_⟩;lia;refine⟨"o",os.length,rfl,f7,@A,λD2 H2 f2 s2 e2=>?_⟩;have a0:=s1.trans s2;have i3:=a0.get hn;have Z:=a0.get ho;have c2:=a0.get hp;lia;refine aI c2 T.ax T.cS rfl ?_;lia;intro D3 H3 f3 s3 e3;lia;refine aI (s3.get c2) T.ax T.d6 rfl ?_;have α:=s3.get Z;lia;intro D4 H4 f4 s4 e4;refine pA (s4.get e3) e4 (by rw[gU,gU,nr];omega) λD5 H5 ψ ι e5=>?_;have e5:H5 D5=a' (.lst (refs (nx++os))):=by unfold refs;rw[ef];exact e5
 have a5:=s3.trans (s4.trans ι);have k6:=a5.get (s2.get e1);have j3:=a5.get e2;lia;refine pA k6 j3 (by rw[bx,bx,bK,bK,nr];omega) λD6 H6 f6 s6 ω=>?_;rw[<-ef] at ω;have ρ:=s6.get e5;have a4:=a5.trans s6;have β:=a0.trans a4;have g4:Prt H6 (nx++os):=fun γ ν=>(gz.mp ν).elim (λh=>β.get (pn γ h)) (λh=>β.get (po γ h));have G:(nmb "n" nx.length++nmb "o" os.length).length=(nx++os).length:=by rw[eP,eP,bK,bK]
 clear f3 s3 e3 α f4 s4 e4 ψ ι e5 s6 Z i3;lia;refine⟨D6,D5,_,_,rfl,rfl,SqL.of ω,SqL.of ρ,by rw[gU,bx];exact G,?_⟩;intro D7 c3;refine El (xs:=(nmb "n" nx.length++nmb "o" os.length).map V.str) (ys:=refs (nx++os)) (by rw[gU,bx];exact G) (λi zs H'=>∃rs:eE Rw,zs=rs.map (λr=>V.ref r.1)/\Same H6 H'/\H' D7=a' (.lst zs)/\RwL H' rs/\(∀r∈rs,r.2.1≠D7)/\rs.map (·.2.2)=(Vz (nmb "n" nx.length++nmb "o" os.length) ((prs (nx++os)).map wr2)).take i) ⟨[],rfl,aW c3,au,λ_ h=>(by cases h),λ_ h=>(by cases h),rfl⟩ (λi zs H' _ ⟨_,_,s',_⟩=>⟨SqL.of (s'.get ω),SqL.of (s'.get ρ)⟩) (λi u v zs H8 pz H9 h4 hv ⟨rs,ez,s8,e8,rl,rd,er⟩ fp s9 l0=>?_) (λzs H7 ⟨rs,ez,L,e7,rl,rd,er⟩=>?_)
 ·obtain⟨z,hz,rfl⟩:=ay h4;obtain⟨r,a8,rfl⟩:=ay (f:=λq:Pr3=>V.ref q.1) hv;have i4:=(b'.mp a8).1;rw[eP] at i4;have hm:=ee a8;have bq:=ξ.bn r.2 (by rw[show prs nx++prs os=prs (nx++os) from(ef ..).symm];exact hF.mpr ⟨r,hm,rfl⟩);rw[aE] at bq;have j0:=s9.get (s8.get (g4 r hm));lia;refine⟨z,r.1,r.2.1,r.2.2,rfl,j0,h7 bq.1 @A,h7 bq.2 @A,λtt DD ε b3 φ a3 π=>?_⟩;have υ:=φ.get (s9.get e8);have τ:DD≠D7:=λz=>by rw[z,s9.get e8] at b3;cases b3
  have k9:rs.length=i:=by
   have:=T4 TX er;rw[bx,wh,Wl,bx,aE,G,eP] at this;omega
  have θ:∀b ob,b≠D7->ε b=a' ob->upd ε D7 (.lst (zs++[.ref tt])) b=a' ob:=λb ob n e=>by rw[aF n];exact e
  refine⟨υ,by rw[ez,bx];exact aM @A,rs++[(tt,DD,z,wr2 r.2)],by rw[ez,ef];rfl,λb ob e=>θ _ _ (ao e c3) (φ.get (s9.get (s8.get e))),au,λr' a7=>?_,λr' a7=>?_,?_⟩
  ·rcases gz.mp a7 with h | h
   ·have Y:=φ.get (s9.get (rl r' h).1);have t2:=φ.get (s9.get (rl r' h).2);exact⟨θ _ _ (cC Y υ λz=>by cases z) Y,θ _ _ (rd r' h) t2⟩
   ·rw[gs.mp h];exact⟨θ _ _ (cC a3 υ λz=>by cases z) a3,θ _ _ τ π⟩
  ·rcases gz.mp a7 with h | h
   ·exact rd r' h
   ·rw[gs.mp h];exact τ
  ·have c1:(Vz (nmb "n" nx.length++nmb "o" os.length) ((prs (nx++os)).map wr2))[i]? =a' (z,wr2 r.2):=V4.mpr ⟨hz,by rw[gA,HS a8];rfl⟩;rw[ef,er,take_succ c1];rfl
 ·subst ez;have ζ:=β.trans L;have lz:(Vz (nmb "n" nx.length++nmb "o" os.length) ((prs (nx++os)).map wr2)).length=(nmb "n" nx.length++nmb "o" os.length).length:=by rw[Wl,bx,aE,G];exact XC _
  rw[bx,<-lz,i'] at er;have j4:=L.get (a4.get (s2.get e1));have j1:=L.get (a4.get e2);lia;refine aN (ζ.get hp) rfl ?_;lia;refine⟨p,m,nx,os,rfl,ma.same ζ,?_⟩;lia;refine⟨"s",nx.length,rfl,f0,@A,λD8 H8 f8 s8 e8=>?_⟩;lia;refine⟨D8,D1,_,_,rfl,rfl,SqL.of e8,SqL.of (s8.get j4),by rw[bx,bx,bK,bK],λD9 qa H9 f9 s9 η h0 h5=>?_⟩;have c0:=s8.trans s9;have h6:=c0.get (ζ.get hp);lia;refine aI h6 T.ax T.bf rfl ?_;lia;refine⟨"i",m,rfl,g3,@A,λe0 ε b3 φ k8=>?_⟩;have χ:=c0.trans φ;lia;intro x c5 d2 c4 ο k7;have δ:=χ.trans ο;have lq:qa.length=nx.length:=by rw[h0,bx,bK]
  obtain⟨qs,b6⟩:∃qs:eE Qs,qs=Vz qa (Vz (nmb "s" nx.length) (nmb "n" nx.length)):=⟨_,rfl⟩
  have q1:qs.map (λq=>V.ref q.1)=qa.map V.ref:=by
   rw[b6,show(λq:Qs=>V.ref q.1)=V.ref ∘ Zi from rfl,<-TU,XI];rw[Wl,bK,bK,XC,lq];exact sb _
  have q2:qs.map (·.2)=Vz (nmb "s" nx.length) (nmb "n" nx.length):=by
   rw[b6];show WK Prod.snd _=_;rw[aa4];rw[Wl,bK,bK,XC,lq];exact sb _
  have q3:∀γ∈qs,H9 γ.1=a' (.tup [.str γ.2.1,.str γ.2.2]):=fun γ ν=>by
   obtain⟨j,hj⟩:=U7.mp ν;rw[b6] at hj;obtain⟨z1,z2⟩:=V4.mp hj;obtain⟨z3,z4⟩:=V4.mp z2;exact h5 j γ.1 _ _ z1 (by rw[gA,z3];rfl) (by rw[gA,z4];rfl)
  rw[<-q1] at η;have hnd:Hnd d2 e0 D7 D9 D2 rs qs (i9 m (prs nx) (prs os)):=⟨ο.get k8,δ.get e7,(rl.same δ),by rw[er];unfold i9;rw[aE,aE,show prs (nx++os)=prs nx++prs os from ef ..],ο.get (φ.get η),fun γ ν=>ο.get (φ.get (q3 γ ν)),by rw[q2];unfold i9;rw[aE],by show d2 D2=a' (.lst ((nmb "o" (prs os).length).map V.str));rw[aE];exact δ.get j1⟩;refine⟨x,c5,e0,D7,D9,D2,rs,qs,i9 m (prs nx) (prs os),rfl,k7,hnd,sL ξ,λd1 od h3 na=>⟨rfl,?_⟩⟩;have a6:Same ε d1:=λb ob e=>h3 _ _ (ao e c4) (ο.get e);exact q x d1 od (ζ.free (χ.free c4)) (ζ.trans (χ.trans a6)) na
end
theorem Ca (T:Tx K mg a):FnOk P w K mg base CX0 1 a.h9 a.yt ["row"] EH:=by
 refine T.o9.1.okA BU λZ A outer s H vs Q E α h=>?_;obtain⟨z,rfl,hl,q⟩:=h;refine⟨_,((ai (aL (gM (K:=K) rfl Vw Xd Xc zr (pv 0) (aa bI ae))))),aw (σ':=[a' _]) rfl ?_⟩;lia;refine B0 @H (by rw[nr];omega) λD H2 Y L G=>?_;rw[yQ] at G;exact q D H2 Y L G
theorem Fh (T:Tx K mg a):FnOk P w K mg base CX0 1 a.j6 a.Bc ["text"] G3:=by
 refine T.rT.1.okA ES λZ A outer s H vs Q E α h=>?_;obtain⟨z,rfl,hl,q⟩:=h;refine⟨_,((ai (aL (Lv (aU nu (pv 0) bI (bh _)) (c6 ae) (gM (K:=K) rfl Vw Xd Xc zr (pv 0) (aa bI ae)))))),aw (σ':=[a' _]) rfl ?_⟩;lia;by_cases hz:z=""
 ·refine p9 (gB (by rw[hz])) ?_;rw[wb hz] at q;lia;intro D H2 Y L G;exact q D H2 Y L G
 ·refine jh (gn λe=>hz (V.str.inj e)) ?_;rw[qb hz] at q;lia;refine B0 @H (by rw[nr];omega) λD H2 Y L G=>?_;rw[BO] at G;exact q D H2 Y L G
theorem Cc (T:Tx K mg a):FnOk P w K mg base CX0 2 a.ip a.yA ["words"] N6:=by
 refine T.pe.1.okA BZ λa4 A outer s H vs Q E υ h=>?_;obtain⟨l,r,rfl,hl,fm,q⟩:=h;have ρ:∀(z:T3) (xs:B'),atI ((z::xs).map V.str) 0=a' (.str z):=λz xs=>di (j:=0) rfl;have a1:∀(y z:T3) (xs:B'),atI ((y::z::xs).map V.str) 1=a' (.str z):=λy z xs=>di (j:=1) rfl;have a2:∀(x y z:T3) (xs:B'),atI ((x::y::z::xs).map V.str) 2=a' (.str z):=λx y z xs=>di (j:=2) rfl;have i1:inV (V.str "in") [V.str "in",V.str "out"]=true:=by decide +kernel
 have i2:inV (V.str "out") [V.str "in",V.str "out"]=true:=by decide +kernel
 have i3:inV (V.str "sum") [V.str "in",V.str "out"]=false:=by decide +kernel
 have i4:inV (V.str "store") [V.str "in",V.str "out"]=false:=by decide +kernel
 have j3:inV (V.str "sum") [V.str "sum",V.str "store"]=true:=by decide +kernel
 have j4:inV (V.str "store") [V.str "sum",V.str "store"]=true:=by decide +kernel
 have a3:("sum":T3)≠"store":=by decide +kernel
 refine⟨_,((af (dU (aU (Ra (K:=K) rfl) (!A (a9 (K:=K) rfl) (pv 0) ah) (dF (aa bI (aa bI ae))) @F) (ai (aL (vm (kX nu (aK (aP (K:=K) rfl) @F T.eQ ot (!j 0 ae)) ah (bh _)) (yj (aj (lI T) υ T.oh T.iQ (aa (!A (a9 (K:=K) rfl) (pv 0) ah) ae)))))) bo)
  (af (dU (PW.pt (qg (aU (Ic (K:=K) rfl) (!A (a9 (K:=K) rfl) (pv 0) ah) (dF (aa bI (aa bI ae))) @F) (qg (aU Ih (aK (aP (K:=K) rfl) @F T.eQ ot (!j 0 ae)) ah (bh _)) (nQ (aU ze (!A (a9 (K:=K) rfl) (pv 0) ah) bI (bh _)))))) (ai (aL za)) bo)
  (af (dU (PW.pt (HP (aU nu (!A (a9 (K:=K) rfl) (pv 0) ah) bI (bh _)) (B7 (aU ze (aK (aP (K:=K) rfl) @F T.eQ ot (!j 0 ae)) ah (bh _))))) (ai (aL za)) bo)
  (ai (aL (vm (aj (lI T) υ T.oh T.iQ (aa (!A (a9 (K:=K) rfl) (pv 0) ah) ae)) (yj (aK (wV (K:=K) rfl rfl) @F T.OP X2 (aa (bD (osc:=ag oP) (ON:=n11) (N:=["word"]) (n:=1) (fx:=[]) rfl rfl rfl @H (aG (K:=K) rfl (kz (ko (K:=K) rfl) (pv 0) (kW ah) su)) (aA @C) (!C (aq (i:=0) (show hH (["word"]:B') from by decide +kernel) rfl @D) (aj (lI T) υ T.oh T.iQ (!j 0 ae)))) ae)))))))))),aw (σ':=[a' _]) rfl ?_⟩
 cases fm with
 | i z h=>
   have hz:=ρ "in" [z];have γ:=a1 "in" z [];lia;intro ε H1 g1 G δ;refine⟨ε,_,rfl,.inr (SqT.of δ),rfl,rfl,?_⟩;rw[qb hB,i1];have hl1:=G.get hl;lia;exact c_nm h fun ι Z=>q ι (G.trans Z)
 | o z h=>
   have hz:=ρ "out" [z];have γ:=a1 "out" z [];lia;intro ε H1 g1 G δ;refine⟨ε,_,rfl,.inr (SqT.of δ),rfl,rfl,?_⟩;rw[qb hB,i2];have hl1:=G.get hl;lia;exact c_nm h fun ι Z=>q ι (G.trans Z)
 | s z ws h hw φ=>
   have hz:=ρ "sum" (z::"="::ws);have γ:=a1 "sum" z ("="::ws);have ξ:=a2 "sum" z "=" ws;lia;intro ε H1 g1 G δ;refine⟨ε,_,rfl,.inr (SqT.of δ),rfl,rfl,?_⟩;rw[qb hB,i3];have hl1:=G.get hl;lia;intro D2 H2 g2 η e2;refine⟨D2,_,rfl,.inr (SqT.of e2),rfl,rfl,?_⟩;rw[wb rfl,j3];have hl2:=η.get hl1;lia;refine c_nm h fun ι Z=>?_;have ψ:=Z.get hl2;lia;intro ω H4 f4 ν θ;rw[show cutV ((("sum":T3)::z::("=":T3)::ws).map V.str) (a' 3) f'=(ws).map V.str from(rL _ 3 @E).trans rfl] at θ;have β:=G.trans (η.trans (Z.trans ν));lia;intro D5 Y;refine aH (xs:=(ws).map V.str) (λi ys H'=>Cs (λi ys=>ys=(lj i true).map V.bl) H4 D5 i ys H') (Cs.zero Y rfl) (λi ys H' _ c=>SqL.of (c.same.get θ)) (λi x ys H' ο c=>?_) (λys H5 c=>?_)
   ·obtain⟨α,L,rfl⟩:=ay ο;have hi:=(b'.mp L).1;have χ:=φ;lia;refine c_nm (hw α (ee L)) λH6 ζ=>?_;refine Cs.put Y (c.same.trans ζ) (ζ.get c.at') c.len @A ?_;rw[c.pv,VE,ef];rfl
   ·have π:=c.at';rw[c.pv] at π;lia;refine DH (SqL.of π) ?_;rw[show(lj ((ws).map V.str).length true).all id=true from Va.mpr λb hb=>(ZK.mp hb).2];exact q _ (β.trans c.same)
 | t z y h hy=>
   have τ:∀w∈[y],Nm w:=λw hw=>by rw[gs.mp hw];exact hy
   have hz:=ρ "store" [z,"=",y];have γ:=a1 "store" z ["=",y];have ξ:=a2 "store" z "=" [y];lia;intro ε H1 g1 G δ;refine⟨ε,_,rfl,.inr (SqT.of δ),rfl,rfl,?_⟩;rw[qb hB,i4];have hl1:=G.get hl;lia;intro D2 H2 g2 η e2;refine⟨D2,_,rfl,.inr (SqT.of e2),rfl,rfl,?_⟩;rw[wb rfl,j4];have hl2:=η.get hl1;lia;refine c_nm h fun ι Z=>?_;have ψ:=Z.get hl2;lia;intro ω H4 f4 ν θ;rw[show cutV (([("store":T3),z,("=":T3),y]).map V.str) (a' 3) f'=([y]).map V.str from(rL _ 3 @E).trans rfl] at θ;have β:=G.trans (η.trans (Z.trans ν));lia;intro D5 Y;refine aH (xs:=([y]).map V.str) (λi ys H'=>Cs (λi ys=>ys=(lj i true).map V.bl) H4 D5 i ys H') (Cs.zero Y rfl) (λi ys H' _ c=>SqL.of (c.same.get θ)) (λi x ys H' ο c=>?_) (λys H5 c=>?_)
   ·obtain⟨α,L,rfl⟩:=ay ο;have hi:=(b'.mp L).1;have χ:=(show([y]:B').length<=24 by simp);lia;refine c_nm (τ α (ee L)) λH6 ζ=>?_;refine Cs.put Y (c.same.trans ζ) (ζ.get c.at') c.len @A ?_;rw[c.pv,VE,ef];rfl
   ·have π:=c.at';rw[c.pv] at π;lia;refine DH (SqL.of π) ?_;rw[show(lj (([y]).map V.str).length true).all id=true from Va.mpr λb hb=>(ZK.mp hb).2];exact q _ (β.trans c.same)
theorem vt (T:Tx K mg a):FnOk P w K mg base CX0 7 a.ig a.yx ["text"] (NW (NAof a)):=by
 refine T.md.1.okA eU λj3 A outer s H vs Q E hr h=>?_;obtain⟨ζ,rfl,fm,lr,g,q⟩:=h;have tl:=KI fm
 have e7:(if txtR ζ="" then [] else Vo (txtR ζ) ⟨#[10]⟩)=ζ.map rowT:=by
  by_cases e:ζ=[]
  ·subst e;rw[wb (show txtR []="" from rfl)];rfl
  ·rw[qb (NO fm e),Ey (λr η=>(fm r η).wd) e]
 have rl:∀r∈ζ,(rowT r).length<=1000:=λr η=>by
  have b1:=(fm r η).len;have b2:=y3 b1.2;omega
 have gd:∀(r:B') (k:Nat),k < r.length->atI (r.map V.str) (k:Int)=a' (.str (r.getD k "")):=λr k hk=>di (by rw[gA,ed hk,ec,ed hk];rfl);have fl:∀r∈ζ,2<=r.length:=λr η=>by cases fm r η<;>simp
 have f4:∀r∈ζ,kd "store" r=true->4<=r.length:=λr η hk=>by
  obtain⟨n1,n2,n3,n4,n5,n6,n7,ξ,ν,h0,c5,c4⟩:=w_ne;cases fm r η with
  | i z h=>exact hD (TF hk) n2
  | o z h=>exact hD (TF hk) c4
  | s z ws h hw h4=>exact hD (TF hk) n5
  | t z y h ρ=>simp
 have f3:∀r∈ζ,kd "sum" r=true->3<=r.length:=λr η hk=>by
  obtain⟨n1,n2,n3,n4,n5,n6,n7,ξ,ν,h0,c5,c4⟩:=w_ne;cases fm r η with
  | i z h=>exact hD (TF hk) n1
  | o z h=>exact hD (TF hk) c5
  | s z ws h hw h4=>simp
  | t z y h ρ=>simp
 have fs:∀(k:T3) (i:Nat) (r:B'),ζ[i]? =a' r->(ζ.take (i + 1)).filter (kd k)=(ζ.take i).filter (kd k)++(if kd k r=true then [r] else []):=λk i r h=>by
  rw[take_succ h,V2,Wx];rfl
 refine⟨_,((af (bJ (osc:=ag gK) (ON:=n14) (N:=n10) (n:=1) (fx:=[]) (i:=1) eU.nd rfl rfl rfl rfl rfl rfl @H (aG (K:=K) rfl (aj (Fh T) hr T.Jj T.rT (!j 0 ae))) (aA @C) (!C (aq (i:=0) (show hH (n10:B') from by decide +kernel) rfl @D) (aj (Ca T) hr T.FP T.o9 (!j 0 ae))))
  (af (dE xo rfl (B9 (K:=K) rfl @F T.dI (pv 1)) (yi rfl (bL (aq (i:=2) eU.nd rfl @D) (bL (aq (i:=3) eU.nd rfl @D) i6))) (ai (dU (jb (gL (aj (Cc T) hr T.FS T.pe (!j 3 ae)))) (ai i5) bo)))
  (af (bJ (osc:=ag gK) (ON:=n14) (N:=n11) (n:=1) (fx:=[]) (i:=4) eU.nd rfl rfl rfl rfl rfl rfl @H (aG (K:=K) rfl (pv 1)) (aA @C) (λ_ _ _ _ _=>⟨(aq (i:=0) (show hH (n11:B') from by decide +kernel) rfl @D),(jP (aU nu (!A (a9 (K:=K) rfl) (pv 0) ah) bI (bh _))),(!A (a9 (K:=K) rfl) (pv 0) ah)⟩))
  (af (bJ (osc:=ag gK) (ON:=n14) (N:=n11) (n:=1) (fx:=[]) (i:=5) eU.nd rfl rfl rfl rfl rfl rfl @H (aG (K:=K) rfl (pv 1)) (aA @C) (λ_ _ _ _ _=>⟨(aq (i:=0) (show hH (n11:B') from by decide +kernel) rfl @D),(jP (aU nu (!A (a9 (K:=K) rfl) (pv 0) ah) bI (bh _))),(dF (aa (!A (a9 (K:=K) rfl) (pv 0) ah) (aa (kz (ko (K:=K) rfl) (pv 0) (kW ah) su) ae)))⟩))
  (af (bJ (osc:=ag gK) (ON:=n14) (N:=n11) (n:=1) (fx:=[]) (i:=6) eU.nd rfl rfl rfl rfl rfl rfl @H (aG (K:=K) rfl (pv 1)) (aA @C) (λ_ _ _ _ _=>⟨(aq (i:=0) (show hH (n11:B') from by decide +kernel) rfl @D),(jP (aU nu (!A (a9 (K:=K) rfl) (pv 0) ah) bI (bh _))),(dF (aa (!A (a9 (K:=K) rfl) (pv 0) ah) (aa (!A (a9 (K:=K) rfl) (pv 0) ah) ae)))⟩))
  (af (bJ (osc:=ag gK) (ON:=n14) (N:=n11) (n:=1) (fx:=[]) (i:=7) eU.nd rfl rfl rfl rfl rfl rfl @H (aG (K:=K) rfl (pv 1)) (aA @C) (λ_ _ _ _ _=>⟨(aq (i:=0) (show hH (n11:B') from by decide +kernel) rfl @D),(jP (aU nu (!A (a9 (K:=K) rfl) (pv 0) ah) bI (bh _))),(!A (a9 (K:=K) rfl) (pv 0) ah)⟩))
  (ai (aL (jR T.Pp (jU T) (hr.mono @C) @F T.O3 T.d9.2 .nil b0 (!j 4 (!j 5 (!j 6 (!j 7 ae)))))))))))))),aw (σ':=[a' _,f',f',f',f',f',f',f']) rfl ?_⟩
 lia;refine⟨txtR ζ,rfl,@A,λD1 H1 f1 s1 e1=>?_⟩;rw[e7] at e1;lia;intro D2 e0;refine aH (xs:=(ζ.map rowT).map V.str) (λi ys H'=>∃ds:M',ys=ds.map V.ref/\Same H1 H'/\H' D2=a' (.lst ys)/\ds.length=i/\(∀d∈ds,d≠D2)/\∀(j:Nat) (d:eH) (r:B'),ds[j]? =a' d->ζ[j]? =a' r->H' d=a' (.lst (r.map V.str))) ⟨[],rfl,aW e0,au,rfl,λ_ h=>(by cases h),λj d r h=>(by simp at h)⟩ (λi ys H' _ ⟨_,_,s',_⟩=>SqL.of (s'.get e1)) ?_ ?_
 ·rintro i y ys H' ρ ⟨ds,rfl,s',e',ld,nd,hd⟩;obtain⟨z,hz,rfl⟩:=ay ρ;rw[gA] at hz;obtain⟨r,η,rfl⟩:=VF.mp hz;have a5:=(b'.mp η).1;have hm:=ee η;have j0:=rl r hm;lia;refine⟨rowT r,rfl,@A,λD3 H3 e4 s3 e3=>?_⟩;rw[EZ (fm r hm).wd (fm r hm).ne] at e3;have d2:D3≠D2:=λz=>by rw[z,e'] at e4;cases e4
  have k3:∀b ob,b≠D2->H3 b=a' ob->upd H3 D2 (.lst (ds.map V.ref++[.ref D3])) b=a' ob:=λb ob n e=>by rw[aF n];exact e
  refine⟨s3.get e',by rw[bx];exact aM @A,ds++[D3],by rw[ef];rfl,λb ob e=>k3 _ _ (ao e e0) (s3.get (s'.get e)),au,by rw[eP,ld];rfl,λd θ=>?_,λj d r' hj c1=>?_⟩
  ·rcases gz.mp θ with h | h
   ·exact nd d h
   ·rw[gs.mp h];exact d2
  ·by_cases h5:j < ds.length
   ·rw[kv h5] at hj;exact k3 _ _ (nd d (ee hj)) (s3.get (hd j d r' hj c1))
   ·have hl:=(b'.mp hj).1;rw[eP,Tu] at hl;rw[lT @A,show j - ds.length=0 by omega] at hj;cases hj;rw[show j=i by omega,η] at c1;cases c1;exact k3 _ _ d2 e3
 ·rintro ys H2 ⟨ds,rfl,s2,e2,ld,nd,hd⟩;rw[bx,bx] at ld;have a4:∀{j:Nat} {d:eH} {r:B'},ds[j]? =a' d->ζ[j]? =a' r->H2 d=a' (.lst (r.map V.str)):=λ{j d r}=>hd j d r
  have dr:∀{j:Nat} {d:eH},ds[j]? =a' d->∃r,ζ[j]? =a' r/\r∈ζ:=λ{j d} h=>by
   have hl:=(b'.mp h).1;exact⟨_,ed @A,UL _⟩
  have g4:=s1.trans s2;clear hd nd e1 s2 s1 f1;lia;refine uM (xs:=ds.map V.ref) (λi σ H'=>∃v2 α δ v5 v6 v7,σ=[a' (.str (txtR ζ)),a' (.ref D2),v2,α,δ,v5,v6,v7]/\Same H2 H') ⟨f',f',f',f',f',f',rfl,Same.refl _⟩ (λi σ H' _ ⟨_,_,_,_,_,_,_,s'⟩=>SqL.of (s'.get e2)) ?_ ?_
  ·rintro i y σ H' pz H3 ρ ⟨v2,α,δ,v5,v6,v7,rfl,s'⟩ fp s3 e3;obtain⟨d,θ,rfl⟩:=ay ρ;obtain⟨r,η,hm⟩:=dr θ;lia;refine⟨d,r,rfl,s3.get (s'.get (a4 θ η)),fm r hm,λH4 s4=>?_⟩;lia;exact⟨_,_,_,_,_,_,rfl,s'.trans (s3.trans s4)⟩
  ·rintro σ H3 ⟨v2,α,δ,v5,v6,v7,rfl,s3⟩;have j1:=s3.get e2;lia;intro Di ω;refine aH (xs:=ds.map V.ref) (λi ys H'=>Cs (λi ys=>ys=(((ζ.take i).filter (kd "in")).map λr=>r.getD 1 "").map V.str) H3 Di i ys H') (Cs.zero ω rfl) (λi ys H' _ c=>SqL.of (c.same.get (s3.get e2))) (λi y ys H' ρ c=>?_) (λys H4 c=>?_)
   ·obtain⟨d,θ,rfl⟩:=ay ρ;obtain⟨r,η,hm⟩:=dr θ;have a5:=(b'.mp η).1;have er:=c.same.get (s3.get (a4 θ η));have b6:=fl r hm;have g0:=gd r 0 @A;have g1:=gd r 1 @A;lia;by_cases hk:r.getD 0 ""="in"
    ·refine p9 (gB (by rw[hk])) ?_;lia;refine Cs.put ω c.same c.at' c.len @A ?_;rw[c.pv,fs "in" i r η,wb (show kd "in" r=true from gB hk),ef,ef];rfl
    ·refine jh (gn λe=>hk (V.str.inj e)) ?_;refine Cs.skip c.same c.at' c.len ?_;rw[c.pv,fs "in" i r η,qb (show ¬kd "in" r=true from λz=>hk (TF z)),UZ]
   ·have f0:=c.at';rw[c.pv,bx,ld,i'] at f0;have f9:=c.same;clear c;have b3:=s3.trans f9;lia;intro β χ;refine aH (xs:=ds.map V.ref) (λi ys H'=>∃rs:eE Rw,ys=rs.map (λr=>V.ref r.1)/\Same H4 H'/\H' β=a' (.lst ys)/\rs.length<=i/\RwL H' rs/\(∀r∈rs,r.2.1≠β)/\rs.map (·.2.2)=((ζ.take i).filter (kd "sum")).map λr=>(r.getD 1 "",r.drop 3)) ⟨[],rfl,aW χ,au,sb _,λ_ h=>(by cases h),λ_ h=>(by cases h),rfl⟩ (λi ys H' _ ⟨_,_,s',_⟩=>SqL.of (s'.get (b3.get e2))) ?_ ?_
    ·rintro i y ys H' ρ ⟨rs,ey,s',e',Y,rk,rd,L⟩;obtain⟨d,θ,rfl⟩:=ay ρ;obtain⟨r,η,hm⟩:=dr θ;have a5:=(b'.mp η).1;have er:=s'.get (b3.get (a4 θ η));have b6:=fl r hm;have g0:=gd r 0 @A;have g1:=gd r 1 @A;lia;by_cases hk:r.getD 0 ""="sum"
     ·have a3:kd "sum" r=true:=gB hk;refine p9 (gB (by rw[hk])) ?_;lia;intro Dw H5 f5 ι π;rw[show cutV (r.map V.str) (a' 3) f'=(r.drop 3).map V.str from(rL (r.map V.str) 3 (by rw[bx];exact f3 r hm a3)).trans (YQ ..).symm] at π;lia;intro tp H6 f6 s6 e6;have ο:=ι.trans s6;have a0:=ο.get e';have d1:Dw≠β:=λz=>by rw[z,e'] at f5;cases f5
      have k6:∀b ob,b≠β->H6 b=a' ob->upd H6 β (.lst (ys++[.ref tp])) b=a' ob:=λb ob n e=>by rw[aF n];exact e
      refine⟨a0,by rw[ey,bx];exact aM @A,rs++[(tp,Dw,r.getD 1 "",r.drop 3)],by rw[ey,ef];rfl,λb ob e=>k6 _ _ (ao e χ) (ο.get (s'.get e)),au,by rw[eP,Tu];omega,λr' c0=>?_,λr' c0=>?_,?_⟩
      ·rcases gz.mp c0 with h | h
       ·have t1:=ο.get (rk r' h).1;exact⟨k6 _ _ (cC t1 a0 λz=>by cases z) t1,k6 _ _ (rd r' h) (ο.get (rk r' h).2)⟩
       ·rw[gs.mp h];exact⟨k6 _ _ (cC e6 a0 λz=>by cases z) e6,k6 _ _ d1 (s6.get π)⟩
      ·rcases gz.mp c0 with h | h
       ·exact rd r' h
       ·rw[gs.mp h];exact d1
      ·rw[ef,L,fs "sum" i r η,wb a3,ef];rfl
     ·refine jh (gn λe=>hk (V.str.inj e)) ?_;exact⟨rs,ey,s',e',@A,rk,rd,by rw[L,fs "sum" i r η,qb (show ¬kd "sum" r=true from λz=>hk (TF z)),UZ]⟩
    ·rintro ys H5 ⟨rs,rfl,υ,i3,Y,rk,rd,L⟩;rw[bx,ld,i'] at L;have a8:=b3.trans υ;lia;intro Dt φ;refine aH (xs:=ds.map V.ref) (λi ys H'=>∃qs:eE Qs,ys=qs.map (λr=>V.ref r.1)/\Same H5 H'/\H' Dt=a' (.lst ys)/\qs.length<=i/\QsK H' qs/\qs.map (·.2)=((ζ.take i).filter (kd "store")).map λr=>(r.getD 1 "",r.getD 3 "")) ⟨[],rfl,aW φ,au,sb _,λ_ h=>(by cases h),rfl⟩ (λi ys H' _ ⟨_,_,s',_⟩=>SqL.of (s'.get (a8.get e2))) ?_ ?_
     ·rintro i y ys H' ρ ⟨qs,ey,s',e',Z,qk,eq0⟩;obtain⟨d,θ,rfl⟩:=ay ρ;obtain⟨r,η,hm⟩:=dr θ;have a5:=(b'.mp η).1;have er:=s'.get (a8.get (a4 θ η));have b6:=fl r hm;have g0:=gd r 0 @A;have g1:=gd r 1 @A;lia;by_cases hk:r.getD 0 ""="store"
      ·have a3:kd "store" r=true:=gB hk;have g3:=gd r 3 (by have:=f4 r hm a3;omega);refine p9 (gB (by rw[hk])) ?_;lia;intro tp H6 f6 s6 e6;have a0:=s6.get e';refine⟨a0,by rw[ey,bx];exact aM @A,qs++[(tp,r.getD 1 "",r.getD 3 "")],by rw[ey,ef];rfl,λb ob e=>?_,au,by rw[eP,Tu];omega,fun γ h3=>?_,?_⟩
       ·rw[aF (ao e φ)];exact s6.get (s'.get e)
       ·have:H6 γ.1=a' (.tup [.str γ.2.1,.str γ.2.2]):=by
         rcases gz.mp h3 with h | h
         ·exact s6.get (qk γ h)
         ·rw[gs.mp h];exact e6
        rw[aF (cC this a0 λz=>by cases z)];exact this
       ·rw[ef,eq0,fs "store" i r η,wb a3,ef];rfl
      ·refine jh (gn λe=>hk (V.str.inj e)) ?_;exact⟨qs,ey,s',e',@A,qk,by rw[eq0,fs "store" i r η,qb (show ¬kd "store" r=true from λz=>hk (TF z)),UZ]⟩
     ·rintro ys H6 ⟨qs,rfl,c2,h6,Z,qk,eq0⟩;rw[bx,ld,i'] at eq0;have a7:=a8.trans c2;lia;intro Do ψ;refine aH (xs:=ds.map V.ref) (λi ys H'=>Cs (λi ys=>ys=(((ζ.take i).filter (kd "out")).map λr=>r.getD 1 "").map V.str) H6 Do i ys H') (Cs.zero ψ rfl) (λi ys H' _ c=>SqL.of (c.same.get (a7.get e2))) (λi y ys H' ρ c=>?_) (λys H7 c=>?_)
      ·obtain⟨d,θ,rfl⟩:=ay ρ;obtain⟨r,η,hm⟩:=dr θ;have a5:=(b'.mp η).1;have er:=c.same.get (a7.get (a4 θ η));have b6:=fl r hm;have g0:=gd r 0 @A;have g1:=gd r 1 @A;lia;by_cases hk:r.getD 0 ""="out"
       ·refine p9 (gB (by rw[hk])) ?_;lia;refine Cs.put ψ c.same c.at' c.len @A ?_;rw[c.pv,fs "out" i r η,wb (show kd "out" r=true from gB hk),ef,ef];rfl
       ·refine jh (gn λe=>hk (V.str.inj e)) ?_;refine Cs.skip c.same c.at' c.len ?_;rw[c.pv,fs "out" i r η,qb (show ¬kd "out" r=true from λz=>hk (TF z)),UZ]
      ·have e9:=c.at';rw[c.pv,bx,ld,i'] at e9;have τ:=c.same;clear c;lia;intro x i4 H8 ε s8 e8;have G:=τ.trans s8;have a6:=c2.trans G;have f7:=υ.trans a6;refine⟨x,i4,Di,β,Dt,Do,rs,qs,netR ζ,rfl,e8,⟨f7.get f0,a6.get i3,rk.same a6,L,G.get h6,fun γ m=>G.get (qk γ m),eq0,s8.get e9⟩,g,λH9 od k9 na=>⟨rfl,?_⟩⟩;have f2:Same H7 H9:=λb ob e=>k9 _ _ (ao e ε) (s8.get e);have c3:=g4.trans (a7.trans τ);exact q x H9 od (c3.free ε) (c3.trans f2) na
theorem vA (T:Tx K mg a):FnOk P w K mg base CX0 1 a.cn a.pQ ["self"] (NT (NAof a)):=by
 refine T.gc.1.okA uZ fun α A outer s H vs Q E δ h=>?_;obtain⟨p,N,od,rfl,na,q⟩:=h;obtain⟨dx,i,s,t,o,d,γ,rs,qs,ws,L,kp,β,eq⟩:=na.ho;have hs:=kp.s;refine⟨_,((ai (aL (aX (cM (K:=K) rfl) @F T.g9 wq (aa (aJ (K:=K) rfl (pv 0) rfl) ae))))),aw (σ':=[a' _]) rfl ?_⟩;lia;refine aI L T.dD T.lM rfl ?_;lia;intro D H2 Y G Z;exact q D H2 rs Y G Z (RwK.same kp.sr G) kp.es
theorem vq (T:Tx K mg a):FnOk P w K mg base CX0 2 a.ie a.yw ["net"] (NV (NAof a)):=by
 refine T.l9.1.okA uU λl3 A outer s H vs Q E hr h=>?_;obtain⟨p,N,od,rfl,na,q⟩:=h;obtain⟨dx,i,s,t,o,d,tq,rs,qs,ws,hp,kp,wi,eq⟩:=na.ho;have g:=na.g;have li:=g.li;have ls:=g.ls;have lt:=g.lt;have lo:=g.lo;have fm:=yZ g;have l0:=vj g
 refine⟨_,((af (bJ (osc:=ag gJ) (ON:=n15) (N:=["name"]) (n:=1) (fx:=[]) (i:=1) uU.nd rfl rfl rfl rfl rfl rfl @H (aG (K:=K) rfl (bp (pv 0) T.dD T.lg (jT T) (hr.mono @C) T.dj.2 .nil b0)) (aA @C) (!C (aq (i:=0) (show hH (["name"]:B') from by decide +kernel) rfl @D) (c6 (aa bI (!j 0 ae)))))
  (af (bT (gM (K:=K) rfl T6 Uh Ug iK (pv 1) (aa (bD (osc:=ag gJ) (ON:=n15) (N:=n10) (n:=1) (fx:=[]) rfl rfl rfl @H (aG (K:=K) rfl (bp (pv 0) T.dD T.xH (vA T) (hr.mono @C) T.gc.2 .nil b0)) (aA @C) (!C (aq (i:=0) (show hH (n10:B') from by decide +kernel) rfl @D) (az jc (c6 (aa bI (aa (!A @I (pv 0) ah) (aa bI ae)))) (aX (cM (K:=K) rfl) @F T.g9 wq (aa (!A @I (pv 0) ah) ae))))) ae)))
  (af (bT (gM (K:=K) rfl T6 Uh Ug iK (pv 1) (aa (bD (osc:=ag gJ) (ON:=n15) (N:=n10) (n:=1) (fx:=[]) rfl rfl rfl @H (aG (K:=K) rfl (bp (pv 0) T.dD T.ja (h8 T) (hr.mono @C) T.cF.2 .nil b0)) (aA @C) (!C (aq (i:=0) (show hH (n10:B') from by decide +kernel) rfl @D) (c6 (aa bI (aa (!A @I (pv 0) ah) (aa bI (aa (!A @I (pv 0) ah) ae))))))) ae)))
  (af (bT (gM (K:=K) rfl T6 Uh Ug iK (pv 1) (aa (bD (osc:=ag gJ) (ON:=n15) (N:=["wire"]) (n:=1) (fx:=[]) rfl rfl rfl @H (aG (K:=K) rfl (bp (pv 0) T.dD T.jZ (i8 T) (hr.mono @C) T.cX.2 .nil b0)) (aA @C) (!C (aq (i:=0) (show hH (["wire"]:B') from by decide +kernel) rfl @D) (c6 (aa bI (!j 0 ae))))) ae)))
  (ai (aL (gM (K:=K) rfl Vw YX YW (Eb (K:=K) rfl) bI (aa (bD (osc:=ag gJ) (ON:=n15) (N:=n11) (n:=1) (fx:=[]) rfl rfl rfl @H (aG (K:=K) rfl (pv 1)) (aA @C) (!C (aq (i:=0) (show hH (n11:B') from by decide +kernel) rfl @D) (gM (K:=K) rfl Vw YX YW (Eb (K:=K) rfl) bI (!j 0 ae)))) ae))))))))),aw (σ':=[a' _,f']) rfl ?_⟩
 lia;refine aN hp rfl ?_;lia;refine⟨p,N,od,rfl,na,λD1 H1 f1 s1 e1=>?_⟩;lia;intro D2 ν;refine aH (xs:=N.ins.map V.str) (λi ys H'=>Same H1 H'/\H' D2=a' (.lst ys)/\Lrw H1 H' D2 ys ((N.ins.take i).map λz=>[("in":T3),z])) ⟨aW ν,au,Lrw.nil⟩ (λi ys H' _ ⟨s',_⟩=>SqL.of (s'.get e1)) ?_ ?_
 ·rintro i y ys H' hy ⟨s',τ,lr⟩;obtain⟨z,hz,rfl⟩:=ay hy;have a5:=(b'.mp hz).1;lia;intro D3 H3 f3 s3 e3;have β:=lr.len;rw[bx,wh] at β;refine⟨s3.get τ,aM @A,λb ob e=>?_,au,?_⟩
  ·rw[aF (ao e ν)];exact s3.get (s'.get e)
  ·rw[take_succ hz,ef];exact lr.put (s'.free f3) τ f3 s3 e3
 ·rintro ys H2 ⟨s2,e2,a3⟩;rw[bx,i'] at a3;have f0:=s1.trans s2;have l2:=a3.len;rw[bx] at l2;lia;refine aN (f0.get hp) rfl ?_;lia;refine⟨p,N,od,rfl,na.same f0,λD3 H3 f4 f3 s3 e3 rk es=>?_⟩;have j0:f4.length=N.sums.length:=by rw[<-es,bx]
  lia;intro D4 h0;refine aH (xs:=f4.map λr=>V.ref r.1) (λi ys H'=>Same H3 H'/\H' D4=a' (.lst ys)/\Lrw H3 H' D4 ys ((N.sums.take i).map λr=>("sum":T3)::r.1::("=":T3)::r.2)) ⟨aW h0,au,Lrw.nil⟩ (λi ys H' _ ⟨s',_⟩=>SqL.of (s'.get e3)) ?_ ?_
  ·rintro i y ys H' hy ⟨s',τ,lr⟩;obtain⟨r,α,rfl⟩:=ay hy;have a5:=(b'.mp α).1;obtain⟨k8,k6⟩:=rk r (ee α);have c1:=s'.get k8;have a4:N.sums[i]? =a' r.2.2:=by rw[<-es,gA,α];rfl
   have l1:=g.lw _ (ee a4);lia;intro D5 H5 ψ s5 π;have k7:=s5.get c1;have j4:=s5.get (s'.get k6);lia;intro D6 H6 f6 s6 ω;refine pA (s6.get π) ω (by rw[bx,nr];simp;omega) fun γ H7 f7 s7 e7=>?_;have δ:=s5.trans (s6.trans s7);have β:=lr.len;rw[bx,wh] at β;have h3:H' γ=none:=s5.free (s6.free f7);refine⟨δ.get τ,aM @A,λb ob e=>?_,au,?_⟩
   ·rw[aF (ao e h0)];exact δ.get (s'.get e)
   ·rw[take_succ a4,ef];exact lr.put (s'.free h3) τ h3 δ e7
  ·rintro c5 H4 ⟨s4,e4,L⟩;rw[bx,j0,i'] at L;have l4:=L.len;rw[bx] at l4;have c2:=s3.trans s4;have a8:Lrw H2 H4 D4 c5 _:=L.base s3;lia;refine ji (c2.get e2) e4 (by rw[nr];omega) λH5 u5=>?_;have c4:=a3.join e2 s2 c2 a8 u5;have ξ:Same H1 H5:=λb ob e=>u5.oth _ _ (ao e ν) (c2.get (s2.get e));have ρ:=s1.trans ξ;have l5:=c4.len;clear a3 L a8 e4 e3 rk es f3;have π:=u5.at';lia;refine aN (ρ.get hp) rfl ?_;lia;refine⟨p,N,od,rfl,na.same ρ,λD6 H6 g0 f6 s6 ω qk et=>?_⟩;have j1:g0.length=N.sts.length:=by rw[<-et,bx]
   lia;intro γ g4;refine aH (xs:=g0.map λr=>V.ref r.1) (λi ys H'=>Same H6 H'/\H' γ=a' (.lst ys)/\Lrw H6 H' γ ys ((N.sts.take i).map λr=>[("store":T3),r.1,("=":T3),r.2])) ⟨aW g4,au,Lrw.nil⟩ (λi ys H' _ ⟨s',_⟩=>SqL.of (s'.get ω)) ?_ ?_
   ·rintro i y ys H' hy ⟨s',τ,lr⟩;obtain⟨r,α,rfl⟩:=ay hy;have a5:=(b'.mp α).1;have c1:=s'.get (qk r (ee α));have a4:N.sts[i]? =a' r.2:=by rw[<-et,gA,α];rfl
    lia;intro D8 H8 ε s8 Z;have β:=lr.len;rw[bx,wh] at β;refine⟨s8.get τ,aM @A,λb ob e=>?_,au,?_⟩
    ·rw[aF (ao e g4)];exact s8.get (s'.get e)
    ·rw[take_succ a4,ef];exact lr.put (s'.free ε) τ ε s8 Z
   ·rintro i4 H7 ⟨s7,e7,a0⟩;rw[bx,j1,i'] at a0;have l7:=a0.len;rw[bx] at l7;have δ:=s6.trans s7;simp only[eP,bx] at l5;lia;refine ji (δ.get π) e7 (by rw[nr];simp only[eP];omega) λH8 u8=>?_;have c3:=c4.join π ξ δ (a0.base s6) u8;have G:Same H1 H8:=λb ob e=>u8.oth _ _ (ao e ν) (δ.get (ξ.get e));have e0:=s1.trans G;have l8:=c3.len;clear c4 a0 e7 ω qk et f6 π;have Z:=u8.at';lia;refine aN (e0.get hp) rfl ?_;lia;refine⟨p,N,od,rfl,na.same e0,λD9 H9 f9 s9 η=>?_⟩;lia;intro i3 c0;refine aH (xs:=N.outs.map V.str) (λi ys H'=>Same H9 H'/\H' i3=a' (.lst ys)/\Lrw H9 H' i3 ys ((N.outs.take i).map λz=>[("out":T3),z])) ⟨aW c0,au,Lrw.nil⟩ (λi ys H' _ ⟨s',_⟩=>SqL.of (s'.get η)) ?_ ?_
    ·rintro i y ys H' hy ⟨s',τ,lr⟩;obtain⟨z,hz,rfl⟩:=ay hy;have a5:=(b'.mp hz).1;lia;intro m2 a7 h4 ο a6;have β:=lr.len;rw[bx,wh] at β;refine⟨ο.get τ,aM @A,λb ob e=>?_,au,?_⟩
     ·rw[aF (ao e c0)];exact ο.get (s'.get e)
     ·rw[take_succ hz,ef];exact lr.put (s'.free h4) τ h4 ο a6
    ·rintro d1 m1 ⟨φ,h6,ι⟩;rw[bx,i'] at ι;have j3:=ι.len;rw[bx] at j3;have ζ:=s9.trans φ;simp only[eP,bx] at l8;lia;refine ji (ζ.get Z) h6 (by rw[nr];simp only[eP];omega) λa7 υ=>?_;have b6:Lrw H1 a7 D2 _ (qP N):=c3.join Z G ζ (ι.base s9) υ;have d2:Same H1 a7:=λb ob e=>υ.oth _ _ (ao e ν) (ζ.get (G.get e));have f2:=s1.trans d2;have a6:=υ.at';clear c3 ι h6 η f9 Z υ;generalize ys++c5++i4++d1=Y at b6 a6;obtain⟨ds,rfl,ld,_,_,hd⟩:=b6;lia;intro k9 χ;refine aH (xs:=ds.map V.ref) (λi ys H'=>Cs (λi ys=>ys=(((qP N).take i).map rowT).map V.str) a7 k9 i ys H') (Cs.zero χ rfl) (λi ys H' _ c=>SqL.of (c.same.get a6)) (λi y ys H' hy c=>?_) (λys m0 c=>?_)
     ·obtain⟨d,g3,rfl⟩:=ay hy;have a5:=(b'.mp g3).1;obtain⟨r,α⟩:∃r,(qP N)[i]? =a' r:=⟨_,ed @A⟩;have hm:=ee α;have er:=c.same.get (hd i d r g3 α);have b1:=(fm r hm).len
      have θ:∀(l:B'),(∀w∈l,w.length<=6)->(l.map (·.length)).sum<=l.length * 6:=λl=>by
       induction l with
       | nil=>intro _;simp
       | cons x l ih=>intro h;have:=ih λw hw=>h w (p' _ hw);have:=h x u';simp only[Uq,ac8,U4];omega
      have hs:=θ r b1.2;lia;refine MJ (SqL.of er) (by rw[yQ];show _ + r.length * 1<=_;omega) ?_;rw[Dj,yQ];refine Cs.put χ c.same c.at' c.len @A ?_;rw[c.pv,take_succ α,ef,ef];rfl
     ·have h5:=c.at';rw[c.pv,bx,ld,i'] at h5
      have θ:∀(l:eE B'),(∀r∈l,Fm r)->((l.map rowT).map (·.length)).sum<=l.length * 189:=λl=>by
       induction l with
       | nil=>intro _;simp
       | cons x l ih=>
         intro h;have:=ih λw hw=>h w (p' _ hw);have b1:=(h x u').len;have b2:=y3 b1.2;have b3:x.length * 7<=27 * 7:=Xy 7 b1.1;simp only[Uq,ac8,U4];omega
      have hs:=θ (qP N) fm;lia;refine MJ (SqL.of h5) (by rw[BO,bx];show _ + (qP N).length * 1<=_;omega) ?_;rw[Dj,BO];exact q _ (f2.trans c.same)
end
section
theorem nS (T:Tx K mg a):FnOk P w K mg base CX0 1 a.gE a.wO ["_law_script","_law_k"] (DG K):=by
 refine T.iC.1.okA Au λY A outer s H vs Q E Z h=>?_;obtain⟨p,ns,k,rfl,ν,δ,q⟩:=h
 refine⟨_,((af (dU (aU Ih (pv 1) (aK (aP (K:=K) rfl) @F T.eQ ot (!j 0 ae)) (bh _)) (ai (aL (!A (a9 (K:=K) rfl) (pv 0) (pv 1)))) bo)
  (ai (aL (az dk (az tI ah (pv 1)) ah))))),aw (σ':=[a' _,a' _]) rfl ?_⟩
 lia;rw[bx];unfold cell at q;refine ite2 (λG=>?_) (λG=>?_)
 ·have G:=TF G
  have ha:atI (ns.map V.int) k=a' (.int (ns.getD k.toNat 0)):=by
   obtain⟨j,rfl⟩:=UH δ;have L:j < ns.length:=by omega
   exact di (by rw[gA,ed L,ec,ov,ed L];rfl)
  rw[wb G] at q;lia;exact q
 ·have G:¬k < ns.length:=λz=>G (gB z);rw[qb G] at q;lia;exact q
theorem Ep {c k:Int} (h0:0<=k) (h1:k < 100000) (q:Q (.int (mixV c k)) H):G6 [.int c,.int k] H Q E:=⟨c,k,rfl,h0,h1,q⟩
local macro_rules | `(tactic| walk_at "l2step") =>`(tactic| first | ((with_reducible refine' Ep ?a ?b ?_);(case a=>walk_at "l2side");(case b=>walk_at "l2side")) | ((with_reducible refine' z6 ?e ?a ?_);(case e=>walk_at "l2hp");(case a=>walk_at "l2side")))
theorem fc (T:Tx K mg a):FnOk P w K mg base CX0 1 a.iw a.yE ["_law_cell_here","_law_k"] G6:=by
 refine T.bU.1.okA p4 λG A outer s H vs Q E L h=>?_;obtain⟨c,k,rfl,δ,h1,q⟩:=h
 refine⟨_,((af (aD (i:=2) p4.nd rfl @D (az dW (az dk (az dk (az tI (az dW (pv 0) ah) ah) (az tI ah (pv 1))) ah) ah))
  (af (aD (i:=2) p4.nd rfl @D (az dW (az tI (pv 2) (pv 2)) ah))
  (ai (aL (az dW (az tI (pv 2) (az dk (az dk (pv 2) (az tI ah (pv 1))) ah)) ah)))))),aw (σ':=[a' _,a' _,f']) rfl ?_⟩
 lia;exact q
theorem kB (T:Tx K mg a):FnOk P w K mg base CX0 2 a.gD a.wN ["_law_cell_here","_law_k"] yh:=by
 refine T.gG.1.okA kq fun ν A outer s H vs Q E Y h=>?_;obtain⟨c,k,rfl,δ,h1,q⟩:=h;have hk:decide (k < 40)=true:=gB h1
 refine⟨_,((af (aD (i:=2) kq.nd rfl @D bI)
  (af (aD (i:=3) kq.nd rfl @D bI)
  (af (aD (i:=3) kq.nd rfl @D (az lG (pv 3) bI))
  (af (dU (PW.pt (HP (aU Ih (pv 1) ah (bh _)) (B7 (aU nu (az dW (aj (fc T) Y T.cD T.bU (!j 0 (aa ah ae))) ah) ah (bh _))))) (ai (aL (!A (a9 (K:=K) rfl) (gM (K:=K) rfl Vw Xd Xc zr (pv 3) (aa bI ae)) (az dW (az dk (pv 1) (aj (fc T) Y T.cD T.bU (!j 0 (aa ah ae)))) ah)))) bo)
  (ai (aL (az lG (!A M4 (pv 2) (az dW (aj (fc T) Y T.cD T.bU (!j 0 (aa ah ae))) ah)) (aX kI @F T.IE Vv (aa (az dk (az dW (aj (fc T) Y T.cD T.bU (!j 0 (aa ah ae))) ah) (az tI ah (pv 1))) ae)))))))))),aw (σ':=[a' _,a' _,f',f']) rfl ?_⟩
 lia;refine⟨@H,?_⟩;lia;generalize hw:((_:T3)++_)=words;have hw:words=GQ:=hw.symm;by_cases h2:mixV c 402 % 2=0
 ·refine p9 (gB (by rw[h2])) ?_;lia;refine B0 @H (by rw[hw];decide +kernel) λD H2 ξ β Z=>?_;have hm:=U3 (k + mixV c 403) (show(0:Int) < 40 by decide);have L:=Uj (k + mixV c 403) (show(40:Int)≠0 by decide);rw[hw] at Z
  have η:atI (W40.map V.str) ((k + mixV c 403) % 40)=a' (.str (nmf c k)):=by
   obtain⟨j,ι⟩:=UH L;have ε:j < W40.length:=by rw[Ae];omega
   unfold nmf;rw[wb h2,ι];refine di ?_;rw[gA,ec,ov,ed ε];rfl
  have Z:H2 D=a' (.lst (W40.map V.str)):=Z;lia;exact q H2 β
 ·refine jh (gn λz=>h2 (V.int.inj z)) ?_;have hm:=U3 (mixV c 400) (show(0:Int) < 26 by decide);have L:=Uj (mixV c 400) (show(26:Int)≠0 by decide);have ζ:=U3 (mixV c 401) (show(0:Int) < 1000 by decide);have θ:=Uj (mixV c 401) (show(1000:Int)≠0 by decide);lia;refine Qt @H (Fv _ L hm) ?_;lia;have hn:(mixV c 401 % 1000 + 37 * k).natAbs < 10 ^ 4:=by omega
  have G:(mixV c 401 % 1000 + 37 * k).natAbs.log2 < 1920:=by
   rcases ZV (mixV c 401 % 1000 + 37 * k).natAbs with z | z
   ·rw[z];decide
   ·exact(Yg @A).mpr (gm hn (Vg (by decide:10 ^ 4<=2 ^ 14) (hJ @C @C)))
  have α:=Xw G;refine⟨G,?_⟩;lia;refine⟨by rw[nr];have:(⟨#[97 + (mixV c 400 % 26).toNat]⟩:T3).length=1:=rfl;omega,?_⟩;have e:(mixV c 401 % 1000 + 37 * k)=(((mixV c 401 % 1000).toNat + 37 * k.toNat:Nat):Int):=by omega
  have γ:=q H (Same.refl _);unfold nmf at γ;rw[qb h2] at γ;rw[e];exact γ
end
section
local macro_rules | `(tactic| walk_at "l2step") =>`(tactic| first | ((with_reducible refine' Ep ?a ?b ?_);(case a=>walk_at "l2side");(case b=>walk_at "l2side")) | ((with_reducible refine' z6 ?e ?a ?_);(case e=>walk_at "l2hp");(case a=>walk_at "l2side")))
theorem uJ {K:dt} {ws:B'} (h:H D=a' (.lst (ws.map V.str))):Rep K H (.ref D) (.lst (ws.map Dt.str)):= .lst (SqL.of h) (by rw[bx,bx]) (Hx V.str Dt.str (λz=> .str z) ws)
theorem zW:∀ws:B',CQ (ws.map Dt.str)=0
 | []=>rfl
 | w::ws=>by rw[Uq,CQ,zW ws];rfl
theorem JA (ws:B'):eqD (.lst (ws.map Dt.str)) (.lst [])=decide (ws=[]):=by
 cases ws with
 | nil=>rfl
 | cons w l=>rw[gn @E];rfl
theorem zh (T:Tx K mg a):FnOk P w K mg base CX0 2 a.fw a.tQ ["_law_cell_here","_law_start","_law_names","_law_digits"] G9:=by
 refine T.kK.1.okA fI λa6 A outer s H vs Q E τ h=>?_;obtain⟨c,st,l,zs,dg,rfl,a3,a0,hl,ll,q⟩:=h;have ρ:=B3 τ;have ψ:(((zs.map V.str).length:Nat):Int)=(zs.length:Int):=by rw[bx]
 refine⟨_,((af (dU (gL (pv 3)) (af (aD (i:=4) fI.nd rfl @D (az dW (pv 0) (az Q8 (az dk (aK (aP (K:=K) rfl) @F T.eQ ot (!j 2 ae)) ah) ah)))
  (af (aD (i:=5) fI.nd rfl @D (c6 ae))
  (af (dE xo rfl (cG @F T.fh (aa ah ae)) (aq (i:=6) fI.nd rfl @D) (HR (dU (aU sx (az dW (pv 4) (az dk (aK (aP (K:=K) rfl) @F T.eQ ot (!j 2 ae)) ah)) ah (bh _)) (ai (bT (gM (K:=K) rfl T6 UC UB iL (pv 5) (aa (!A (a9 (K:=K) rfl) (pv 2) (az qU (az dW (pv 4) (az dk (aK (aP (K:=K) rfl) @F T.eQ ot (!j 2 ae)) ah)) ah)) ae)))) bo)
  (ai (aD (i:=4) fI.nd rfl @D (az Ij (pv 4) (az dk (aK (aP (K:=K) rfl) @F T.eQ ot (!j 2 ae)) ah))))))
  (ai (aL (pv 5)))))) bo)
  (af (aD (i:=7) fI.nd rfl @D (az dW (aj (fc T) τ T.cD T.bU (!j 0 (!j 1 ae))) ah))
  (ai (aL (bD (osc:=ag ku) (ON:=["_law_cell_here","_law_start","_law_names","_law_digits","_law_left","_law_found","_law_k","_law_many"]) (N:=n27) (n:=1) (fx:=[2,0,1]) rfl rfl rfl @H (cG @F T.fh (!j 7 ae)) (aA @C) (λ_ _ _ _ _=>⟨(aq (i:=0) (show hH (n27:B') from by decide +kernel) rfl @D),(jP (aU (Ig (K:=K) rfl ρ) (pv 1) (c6 ae) (bh _))),(!A (a9 (K:=K) rfl) (pv 1) (az dW (aj (fc T) τ T.cD T.bU (!j 2 (aa (az dk (az dk (pv 3) ah) (pv 0)) ae))) (aK (aP (K:=K) rfl) @F T.eQ ot (!j 1 ae))))⟩))))))),aw (σ':=[a' _,a' _,a' _,a' _,f',f',f',f']) rfl ?_⟩
 have θ:(0:Int) < ((((zs.map V.str).length:Nat):Int) + 1) ^ (4:Int).toNat:=Int.pow_pos @A;have ο:(0:Int) < (((zs.map V.str).length:Nat):Int) + 1:=by omega
 lia;cases dg with
 | true=>
   lia;generalize c % ((((zs.map V.str).length:Nat):Int) + 1) ^ (4:Int).toNat=left;clear θ;intro D H1 G χ e1;have hl1:=χ.get hl;lia;refine lQ (λi σ H'=>∃(v:T8 V) (left:Int) (ws:B'),σ=[a' (V.int c),a' (V.int st),a' (V.ref l),a' (V.bl true),a' (V.int left),a' (V.ref D),v,f']/\Same H H'/\H' D=a' (.lst (ws.map V.str))/\ws.length<=i/\∀w∈ws,w∈zs) ⟨f',left,[],rfl,χ,e1,sb _,λ_ h=>hD h @E⟩ ?_ ?_
   ·rintro i σ H' hi ⟨v,left,ws,rfl,s',δ,lw,hw⟩;have ι:=s'.get hl;have a5:i < 4:=hi;lia;refine QD (fun σ H2=>∃L:B',σ=[a' (V.int c),a' (V.int st),a' (V.ref l),a' (V.bl true),a' (V.int left),a' (V.ref D),a' (V.int (0 + (i:Int))),f']/\Same H H2/\H2 D=a' (.lst (L.map V.str))/\L.length<=i + 1/\∀w∈L,w∈zs) ?_ ?_
    ·have ν:=Uj left (Int.ne_of_gt ο);have Y:=U3 left ο;lia;by_cases ζ:0 < left % ((((zs.map V.str).length:Nat):Int) + 1)
     ·refine p9 (gB ζ) ?_;obtain⟨j,υ⟩:=UH (show 0<=left % ((((zs.map V.str).length:Nat):Int) + 1) - 1 by omega);have ω:j < zs.length:=by omega
      have η:atI (zs.map V.str) (left % ((((zs.map V.str).length:Nat):Int) + 1) - 1)=a' (.str zs[j]):=by
       rw[υ];exact di (by rw[gA,ed ω];rfl)
      lia;refine mx δ (by rw[bx,nr];omega) λH3 φ=>?_;lia;refine⟨ws++[zs[j]],rfl,λb o e=>φ.oth _ _ (ao e G) (s'.get e),by rw[φ.at',ef];rfl,by rw[eP];show _ + 1<=_;omega,λw Z=>?_⟩;rcases gz.mp Z with h | h
      ·exact hw w h
      ·rw[gs.mp h];exact UL ω
     ·refine jh (gn ζ) ?_;lia;exact⟨ws,rfl,s',δ,@A,hw⟩
    ·rintro σ H2 ⟨L,rfl,ε,γ,ξ,Z⟩;have hl2:=ε.get hl;lia;exact⟨_,_,L,rfl,ε,γ,ξ,Z⟩
   ·rintro σ H' ⟨v,left,ws,rfl,s',δ,lw,hw⟩;lia;exact q D H' ws G s' δ lw hw
 | false=>
   have m0:=Uj (mixV c st) (show(5:Int)≠0 by decide);have β:=U3 (mixV c st) (show(0:Int) < 5 by decide);lia;intro D α;refine d7 (λi ys H'=>∃ws:B',ys=ws.map V.str/\Same H H'/\H' D=a' (.lst ys)/\ws.length<=i/\∀w∈ws,w∈zs) ⟨[],rfl,aW α,au,sb _,λ_ h=>hD h @E⟩ ?_ ?_
   ·rintro i ys H' hi ⟨ws,rfl,s',δ,lw,hw⟩;have ι:=s'.get hl;lia;intro L2 H2 f2 ε e2;have hl2:=ε.get ι;have γ:=ε.get δ;refine Qw (uJ hl2) (uJ (ws:=[]) e2) (by rw[depD,zW];decide) ?_;rw[show(WK Dt.str [])=[] from rfl,JA];by_cases hz:zs=[]
    ·rw[gB hz];lia;exact⟨s'.trans ε,γ,@A,hw⟩
    ·rw[gn hz];have a4:0 < zs.length:=XN.mpr hz;have π:(0:Int) < (((zs.map V.str).length:Nat):Int):=by omega
     lia;obtain⟨j,υ,ω⟩:=iG (c:=mixV c (st + 1 + (0 + (i:Int)))) π;have ω:j < zs.length:=by omega
     have η:atI (zs.map V.str) (mixV c (st + 1 + (0 + (i:Int))) % (((zs.map V.str).length:Nat):Int))=a' (.str zs[j]):=by
      rw[υ];exact di (by rw[gA,ed ω];rfl)
     lia;refine⟨γ,by rw[bx];exact aM @A,ws++[zs[j]],by rw[ef];rfl,λb o e=>?_,au,by rw[eP];show _ + 1<=_;omega,λw Z=>?_⟩
     ·rw[aF (ao e α)];exact ε.get (s'.get e)
     ·rcases gz.mp Z with h | h
      ·exact hw w h
      ·rw[gs.mp h];exact UL ω
   ·rintro ys H' ⟨ws,rfl,s',δ,lw,hw⟩;exact q D H' ws α s' δ @A hw
end
section
theorem zZ {c k:Int} (h0:0<=k) (h1:k < 40) (q:∀H2,Same H H2->Q (.str (nmf c k)) H2):yh [.int c,.int k] H Q E:=⟨c,k,rfl,h0,h1,q⟩
local macro_rules | `(tactic| walk_at "l2step") =>`(tactic| first | (with_reducible refine dm ?_) | ((with_reducible refine' Ep ?a ?b ?_);(case a=>omega);(case b=>omega)) | ((with_reducible refine' z6 ?e ?a ?_);(case e=>walk_at "l2hp");(case a=>walk_at "l2side")))
theorem Cf (T:Tx K mg a):FnOk P w K mg base CX0 3 a.iu a.yD ["_law_script","_law_start","_law_most"] (Hc K):=by
 have iz:=@fc P w K mg base a T;refine T.pj.1.okA bz λu3 A outer s H vs Q E Y h=>?_;obtain⟨p,ns,st,mo,rfl,ν,t3,t4,q⟩:=h;have q2:=B3 Y
 refine⟨_,((af (aD (i:=3) bz.nd rfl @D (aj (nS T) Y T.qx T.iC (!j 0 (!j 1 ae))))
  (af (aD (i:=4) bz.nd rfl @D (c6 (aa (az dW (aj iz Y T.cD T.bU (!j 3 (aa ah ae))) ah) (aa (az dW (aj iz Y T.cD T.bU (!j 3 (aa ah ae))) (az dk (pv 2) ah)) (aa (az dW (aj iz Y T.cD T.bU (!j 3 (aa ah ae))) (az dk (pv 2) ah)) ae)))))
  (af (bJ (osc:=ag jy) (ON:=n24) (N:=n19) (n:=1) (fx:=[3]) (i:=5) bz.nd rfl rfl rfl rfl rfl rfl @H (cG @F T.fh (aa (!A (a9 (K:=K) rfl) (pv 4) ah) ae)) (aA @C) (!C (aq (i:=0) (show hH (n19:B') from by decide +kernel) rfl @D) (aj (kB T) Y T.mJ T.gG (!j 1 (!j 0 ae)))))
  (af (bJ (osc:=ag jy) (ON:=n24) (N:=n19) (n:=1) (fx:=[3]) (i:=6) bz.nd rfl rfl rfl rfl rfl rfl @H (cG @F T.fh (aa (!A (a9 (K:=K) rfl) (pv 4) ah) ae)) (aA @C) (!C (aq (i:=0) (show hH (n19:B') from by decide +kernel) rfl @D) (aj (kB T) Y T.mJ T.gG (!j 1 (aa (az dk ah (pv 0)) ae)))))
  (af (aD (i:=7) bz.nd rfl @D (az jc (pv 5) (pv 6)))
  (af (aD (i:=8) bz.nd rfl @D (c6 ae))
  (af (dE xo rfl (cG @F T.fh (aa (!A (a9 (K:=K) rfl) (pv 4) ah) ae)) (aq (i:=9) bz.nd rfl @D) (af (aD (i:=10) bz.nd rfl @D (aj (zh T) Y T.AZ T.kK (aa (aj (nS T) Y T.qx T.iC (!j 0 (aa (az dk (az dk (pv 1) ah) (pv 9)) ae))) (aa ah (!j 7 (aa (kX nu (az dW (pv 3) ah) ah (bh _)) ae))))))
  (af (bT (gM (K:=K) rfl T6 UC UB iL (pv 8) (aa (dF (aa (aj (kB T) Y T.mJ T.gG (!j 3 (aa (az dk ah (pv 9)) ae))) (!j 10 ae))) ae)))
  (ai (aD (i:=7) bz.nd rfl @D (az jc (pv 7) (c6 (aa (aj (kB T) Y T.mJ T.gG (!j 3 (aa (az dk ah (pv 9)) ae))) ae))))))))
  (af (aD (i:=11) bz.nd rfl @D (az dW (aj iz Y T.cD T.bU (!j 3 (aa ah ae))) (az dk (aK (aP (K:=K) rfl) @F T.eQ ot (!j 8 ae)) ah)))
  (af (aD (i:=8) bz.nd rfl @D (az jc (kz (ko (K:=K) rfl) (pv 8) (kW (pv 11)) su) (Fe @F @F T.g9 T.Fq rfl (kz (ko (K:=K) rfl) (pv 8) su (kW (pv 11))))))
  (af (aD (i:=12) bz.nd rfl @D (c6 ae))
  (af (dE xo rfl (oS (K:=K) rfl @F T.dI (pv 6)) (yi rfl (bL (aq (i:=9) bz.nd rfl @D) (bL (aq (i:=13) bz.nd rfl @D) i6))) (ai (bT (gM (K:=K) rfl T6 UC UB iL (pv 12) (aa (dF (!j 13 (aa (!A (a9 (K:=K) rfl) (pv 7) (az dW (aj iz Y T.cD T.bU (!j 3 (aa (az dk ah (pv 9)) ae))) (aK (aP (K:=K) rfl) @F T.eQ ot (!j 7 ae)))) ae))) ae)))))
  (af (aD (i:=14) bz.nd rfl @D (c6 ae))
  (HR (dU (aU (Ig (K:=K) rfl q2) (pv 7) (c6 ae) (bh _)) (ai (bJ (osc:=ag jy) (ON:=n24) (N:=["_law_k","_law_known","_law_cell_here"]) (n:=1) (fx:=[7,3]) (i:=14) bz.nd rfl rfl rfl rfl rfl rfl @H (cG @F T.fh (aa (az dW (aj iz Y T.cD T.bU (!j 3 (aa ah ae))) ah) ae)) (aA @C) (!C (aq (i:=0) (show hH (["_law_k","_law_known","_law_cell_here"]:B') from by decide +kernel) rfl @D) (!A (a9 (K:=K) rfl) (pv 1) (az dW (aj iz Y T.cD T.bU (!j 2 (aa (az dk ah (pv 0)) ae))) (aK (aP (K:=K) rfl) @F T.eQ ot (!j 1 ae))))))) bo)
  (ai (aL (dF (!j 5 (!j 8 (!j 12 (!j 14 ae))))))))))))))))))))),aw (σ':=[a' _,a' _,a' _,f',f',f',f',f',f',f',f',f',f',f',f']) rfl ?_⟩
 lia;generalize cell ns ((st:Nat):Int)=c;intro Z H1 G s1 e1;obtain⟨ni,l0,q0⟩:=iG (c:=mixV c 1) (m:=4) @C;obtain⟨nt,k9,p3⟩:=iG (c:=mixV c 2) (m:=(mo:Int) + 1) @A;obtain⟨nz,k7,p0⟩:=iG (c:=mixV c 3) (m:=(mo:Int) + 1) @A;rw[l0,k9,k7] at e1;have f0:ni<=3:=by omega
 have k8:nt<=12:=by omega
 have k6:nz<=12:=by omega
 have j4:nz<=mo:=by omega
 have l3:=Same.seq s1 ν;clear l0 k9 k7 q0 p3 p0;lia;intro D2 h3;refine d7 (λi ys H'=>Cs (λi ys=>ys=(nms c 0 i).map V.str) H1 D2 i ys H') (Cs.zero h3 rfl) (λi ys H' hi cs=>?_) (λys H2 cs=>?_)
 ·have t7:i < 3:=by omega
  lia;refine zZ @A @A λH3 s3=>?_;refine Cs.put h3 (cs.same.trans s3) (s3.get cs.at') cs.len @A ?_;rw[cs.pv,rf,ef,show(0:Int) + (i:Int)=((0 + i:Nat):Int) by push_cast;rfl];rfl
 ·have e2:=cs.at';rw[cs.pv,ov] at e2;have θ:=cs.same;clear cs;have χ:=θ.get e1;lia;intro D3 h0;refine d7 (λi ys H'=>Cs (λi ys=>ys=(nms c 6 i).map V.str) H2 D3 i ys H') (Cs.zero h0 rfl) (λi ys H' hi cs=>?_) (λys H3 cs=>?_)
  ·have q4:i < 12:=by omega
   lia;refine zZ @A @A λH4 s4=>?_;refine Cs.put h0 (cs.same.trans s4) (s4.get cs.at') cs.len @A ?_;rw[cs.pv,rf,ef,show(6:Int) + (0 + (i:Int))=((6 + i:Nat):Int) by push_cast;omega];rfl
  ·have e3:=cs.at';rw[cs.pv,ov] at e3;have c1:=cs.same;clear cs;lia;refine pA (c1.get e2) e3 (by rw[bx,bx,fg,fg,nr];omega) λD4 H4 f4 s4 e4=>?_;rw[<-ef] at e4;have c2:=θ.trans (c1.trans s4);have ζ:=c2.get e1;have n4:=s4.get (c1.get e2);have n0:=s4.get e3;have g3:=Same.seq c2 l3;have c3:=s1.trans c2;clear χ h3 h0 G f4 θ c1 s4 c2 e1 e2 e3 l3 s1;lia;intro D5 H5 ψ ι e5;have r3:=ι.get ζ;have ρ:=c3.trans ι;have q5:H D5=none:=c3.free ψ;lia;refine lQ (λi σ H'=>∃(v9 a8:T8 V) (δ:eH) (rs:eE Rw),σ=[a' (V.ref p),a' (nat st),a' (nat mo),a' (V.int c),a' (V.ref Z),a' (V.ref D2),a' (V.ref D3),a' (V.ref δ),a' (V.ref D5),v9,a8,f',f',f',f']/\Same H4 H'/\H' δ=a' (.lst ((nms c 0 ni++nms c 6 nt++nms c 22 i).map V.str))/\δ≠D5/\H' D5=a' (.lst (rs.map λr=>V.ref r.1))/\RwL H' rs/\(∀r∈rs,r.2.1≠D5)/\Mk c ni nt (rs.map (·.2.2))/\rs.length=i) ⟨f',f',D4,[],rfl,ι,by rw[show nms c 22 0=[] from rfl,UZ];exact ι.get e4,ao e4 ψ,e5,λ_ h=>hD h @E,λ_ h=>hD h @E,Mk.nil ..,rfl⟩ ?_ ?_
   ·rintro i σ H' hi ⟨v9,a8,δ,rs,rfl,s',α,nk,eD,rl,υ,mk,lr⟩;have q4:i < 12:=by omega
    have g4:=Same.seq s' g3;lia;refine⟨_,10,δ,_,_,rfl,@C,@C,α,by rw[eP,eP,fg,fg,fg];omega,λDw H6 ws f6 s6 ω l4 hw=>?_⟩;have d1:=s6.get eD;lia;refine zZ @A @A λH7 L=>?_;lia;intro tr H8 ε s8 e8;have a3:=L.trans s8;have c5:=a3.get d1;have m3:=a3.get (s6.get α);have l7:=a3.get ω;lia;refine mx c5 (by rw[bx,nr];omega) λH9 u9=>?_;have nw:Dw≠D5:=(ao eD f6).symm;have a4:Same H4 H9:=λb o e=>u9.oth _ _ (ao e ψ) (a3.get (s6.get (s'.get e)));have b6:=u9.oth _ _ nk m3;have l8:=u9.oth _ _ (cC e8 c5 λz=>by cases z) e8;have q8:=u9.oth _ _ nw l7;have c4:RwL H9 rs:=λr Y=>⟨u9.oth _ _ (cC ((rl.same s6).same a3 r Y).1 c5 λz=>by cases z) ((rl.same s6).same a3 r Y).1,u9.oth _ _ (υ r Y) ((rl.same s6).same a3 r Y).2⟩;have m5:=u9.at';clear u9 e8 l7 m3 c5 a3 L s8 ε d1 ω g4;lia;refine zZ @A @A λt1 φ=>?_;lia;intro n7 s0 q6 ο h6;have ξ:=φ.trans ο;refine pA (ξ.get b6) h6 (by rw[bx,eP,eP,fg,fg,fg,nr];show _ + 1<=_;omega) λt2 i3 l5 θ χ=>?_;have a0:=ξ.trans θ;have ei:(22:Int) + (0 + (i:Int))=((22 + i:Nat):Int):=by push_cast;omega
    rw[ei] at χ l8
    have q9:(nms c 0 ni++nms c 6 nt++nms c 22 i).map V.str++[V.str (nmf c ((22 + i:Nat):Int))]=(nms c 0 ni++nms c 6 nt++nms c 22 (i + 1)).map V.str:=by
     rw[rf,<-Wh,ef (l₂:=[_])];rfl
    rw[q9] at χ;lia;refine⟨_,_,t2,rs++[(tr,Dw,nmf c ((22 + i:Nat):Int),ws)],rfl,a4.trans a0,χ,(ao (ξ.get m5) l5).symm,by rw[a0.get m5,ef];rfl,λr Y=>?_,λr Y=>?_,?_,by rw[eP,lr];rfl⟩
    ·rcases gz.mp Y with h | h
     ·exact c4.same a0 r h
     ·rw[gs] at h;subst h;exact⟨a0.get l8,a0.get q8⟩
    ·rcases gz.mp Y with h | h
     ·exact υ r h
     ·rw[gs] at h;subst h;exact nw
    ·have lm:(rs.map (·.2.2)).length=i:=by rw[bx,lr]
     have:=mk.put (ws:=ws) l4 (by rw[lm];exact hw);rw[lm] at this;rw[ef];exact this
   ·rintro σ H' ⟨v9,a8,δ,rs,rfl,s',α,nk,eD,rl,υ,mk,lr⟩;rw[ov] at lr;rw[ov] at α;have d2:=s'.get n4;have n3:=s'.get n0;have g4:=Same.seq s' g3;have i4:=c3.trans s';obtain⟨j,hj,t5⟩:=iG (c:=mixV c 4) (m:=(((rs.map λr=>V.ref r.1).length:Nat):Int) + 1) @A;have j0:(rs.map λr=>V.ref r.1).length=rs.length:=bx ..
    have l2:j<=rs.length:=by omega
    clear ζ n4 n0 e4 e5 g3 c3 ρ ι ψ q5 r3;lia;rw[hj];intro D6 H6 f6 s6 ω;rw[rL _ j (by rw[j0];exact l2),<-YQ] at ω;have d1:=s6.get eD;lia;refine Qh ?_;lia;intro D7 H7 f7 L e7;rw[Ej _ j (by rw[j0];exact l2),<-YN] at e7;refine⟨D7,_,rfl,SqL.of e7,λD8 ε=>?_⟩;rw[<-List.map_reverse];have s8:=aW (o:=HO.lst ((rs.take j).reverse.map λr=>V.ref r.1)) ε;have e8:upd H7 D8 (HO.lst ((rs.take j).reverse.map λr=>V.ref r.1)) D8=a' (HO.lst ((rs.take j).reverse.map λr=>V.ref r.1)):=au;generalize upd H7 D8 (HO.lst ((rs.take j).reverse.map λr=>V.ref r.1))=H8 at s8 e8 ⊢;refine pA (s8.get (L.get ω)) e8 (by rw[bx,bx,Zz,Ww,wh,nr];omega) λD9 H9 f9 s9 e9=>?_;rw[<-ef] at e9;have a4:=s6.trans (L.trans (s8.trans s9));have r2:=a4.get d2;have m7:=a4.get n3;have b6:=a4.get α;have c4:=rl.same a4;have n8:=i4.trans a4
    have perm:(rs.drop j++(rs.take j).reverse).Perm rs:=by
     refine X5 (YA _ (List.reverse_perm _)) ?_;refine X5 Zf ?_;rw[VY]
    generalize j1:rs.drop j++(rs.take j).reverse=rs' at e9 perm;have o0:RwL H9 rs':=λr Y=>c4 r (perm.mem_iff.mp Y);clear c4 rl s8 e8 e7 f7 ε L ω f6 s6 s9 f9 a4 d2 n3 eD d1 υ nk s' i4 g4 α j1;lia;intro π t1 q7 φ r5;have n2:=φ.get m7;lia;refine .inl ⟨⟨_,SqL.of n2⟩,?_⟩;have lk:(nms c 0 ni++nms c 6 nt++nms c 22 nz).length=ni + nt + nz:=by rw[eP,eP,fg,fg,fg]
    generalize q3:nms c 0 ni++nms c 6 nt++nms c 22 nz=τ at b6 lk;refine uM (xs:=(nms c 6 nt).map V.str) (λi σ H'=>∃(v9 c0:T8 V) (qs:eE Qs),σ=[a' (V.ref p),a' (nat st),a' (nat mo),a' (V.int c),a' (V.ref Z),a' (V.ref D2),a' (V.ref D3),a' (V.ref δ),a' (V.ref D9),v9,a8,a' (V.int j),a' (V.ref π),c0,f']/\Same H9 H'/\H' π=a' (.lst (qs.map λq=>V.ref q.1))/\QsK H' qs/\qs.map (·.2.1)=nms c 6 i/\∀q∈qs,q.2.2∈τ) ⟨_,f',[],rfl,φ,r5,λ_ h=>hD h @E,rfl,λ_ h=>hD h @E⟩ (λi σ H' _ ⟨_,_,_,_,s',_⟩=>SqL.of (s'.get m7)) ?_ ?_
    ·rintro i y σ H' pz H7 hy ⟨v9,c0,qs,rfl,s',eq,qk,qn,qw⟩ fp L e7;obtain⟨z,hz,rfl⟩:=ay hy;have l1:=(b'.mp hz).1;rw[fg] at l1
     have ez:z=nmf c ((6 + i:Nat):Int):=by
      unfold nms at hz;rw[gA,Ub l1] at hz;exact(zx hz).symm
     have lq:qs.length=i:=by have:=T4 TX qn;rw[bx,fg] at this;exact this
     have u1:=L.get (s'.get b6);have m2:(τ.map V.str).length=ni + nt + nz:=by rw[bx,lk]
     have h4:=L.get eq;lia;obtain⟨m,hm,a6⟩:=iG (c:=mixV c (50 + (i:Int))) (m:=(((τ.map V.str).length:Nat):Int)) @A;have a6:m < τ.length:=by rw[bx] at a6;omega
     have η:atI (τ.map V.str) (mixV c (50 + (i:Int)) % (((τ.map V.str).length:Nat):Int))=a' (.str τ[m]):=by
      rw[hm];exact di (by rw[gA,ed a6];rfl)
     lia;intro tq H8 ε s8 e8;lia;refine mx (s8.get h4) (by rw[bx,nr];omega) λu5 u9=>?_;lia;refine⟨_,_,qs++[(tq,z,τ[m])],rfl,λb o e=>u9.oth _ _ (ao e q7) (s8.get (L.get (s'.get e))),by rw[u9.at',ef];rfl,?_,?_,fun γ a7=>?_⟩
     ·intro γ a7;rcases gz.mp a7 with h | h
      ·exact((qk.same L).same s8).updL (s8.get h4) u9.oth γ h
      ·rw[gs] at h;subst h;exact u9.oth _ _ (cC e8 (s8.get h4) λz=>by cases z) e8
     ·rw[ef,qn,rf,ez];rfl
     ·rcases gz.mp a7 with h | h
      ·exact qw γ h
      ·rw[gs] at h;subst h;exact UL a6
    ·rintro σ H' ⟨v9,c0,qs,rfl,s',eq,qk,qn,qw⟩;rw[bx,fg] at qn;have r0:=s'.get b6;have d2:=s'.get r2;have r1:=s'.get e9;have n9:=o0.same s';lia;intro n7 s0 q6 ο h6;lia;refine QD (fun σ H2=>∃(Do:eH) (outs:B'),σ=[a' (V.ref p),a' (nat st),a' (nat mo),a' (V.int c),a' (V.ref Z),a' (V.ref D2),a' (V.ref D3),a' (V.ref δ),a' (V.ref D9),v9,a8,a' (V.int j),a' (V.ref π),c0,a' (V.ref Do)]/\Same H' H2/\H2 Do=a' (.lst (outs.map V.str))/\outs.length<=3/\∀z∈outs,z∈τ) ?_ ?_
     ·have m4:=ο.get r0;lia;intro u4 i3 l5 θ χ;have f3:=θ.get m4;refine Qw (uJ f3) (uJ (ws:=[]) χ) (by rw[depD,zW];decide) ?_;rw[show(WK Dt.str [])=[] from rfl,JA];have e0:=ο.trans θ;have h5:=θ.get h6;by_cases hz:τ=[]
      ·rw[gB hz];lia;exact⟨n7,[],rfl,e0,h5,UY _,λ_ h=>hD h @E⟩
      ·rw[gn hz];have m0:=Uj (mixV c 5) (show(4:Int)≠0 by decide);have β:=U3 (mixV c 5) (show(0:Int) < 4 by decide);have b3:1<=τ.length:=XN.mpr hz;have m2:(τ.map V.str).length=τ.length:=bx ..
       lia;intro n6 f2;refine d7 (λi ys H2=>∃ws:B',ys=ws.map V.str/\Same i3 H2/\H2 n6=a' (.lst ys)/\ws.length=i/\∀w∈ws,w∈τ) ⟨[],rfl,aW f2,au,rfl,λ_ h=>hD h @E⟩ ?_ ?_
       ·rintro i ys H2 hi ⟨ws,rfl,s2,eD,lw,hw⟩;have u2:=s2.get f3;have t6:i < 4:=by omega
        lia;obtain⟨m,hm,a6⟩:=iG (c:=mixV c (80 + (0 + (i:Int)))) (m:=(((τ.map V.str).length:Nat):Int)) @A;have a6:m < τ.length:=by omega
        have η:atI (τ.map V.str) (mixV c (80 + (0 + (i:Int))) % (((τ.map V.str).length:Nat):Int))=a' (.str τ[m]):=by
         rw[hm];exact di (by rw[gA,ed a6];rfl)
        lia;refine⟨eD,by rw[bx];exact aM @A,ws++[τ[m]],by rw[ef];rfl,λb o e=>?_,au,by rw[eP,lw];rfl,λw q1=>?_⟩
        ·rw[aF (ao e f2)];exact s2.get e
        ·rcases gz.mp q1 with h | h
         ·exact hw w h
         ·rw[gs.mp h];exact UL a6
       ·rintro ys H2 ⟨ws,rfl,s2,eD,lw,hw⟩;lia;exact⟨n6,ws,rfl,e0.trans s2,eD,@A,hw⟩
     ·rintro σ i3 ⟨Do,outs,rfl,θ,χ,lo,ho⟩;have n5:=θ.get d2;lia;intro tt r7 t9 g0 r4;have a5:=θ.trans g0;have b3:(rs.map (·.2.2)).length=nz:=by rw[bx,lr]
      subst q3;refine q tt D2 D9 π Do r7 rs' qs ⟨nms c 0 ni,rs'.map (·.2.2),qs.map (·.2),outs⟩ (n8.trans (s'.trans a5)) r4 ⟨g0.get n5,a5.get r1,λr Y=>n9.same a5 r Y,rfl,a5.get eq,fun γ a7=>qk.same a5 γ a7,rfl,g0.get χ⟩ (IF mk f0 k8 (by rw[b3];exact k6) (perm.map _) (by rw[TU];exact qn) @A (fun γ a7=>?_) (by rw[b3];exact ho)) (by show(nms c 0 ni).length<=3;rw[fg];exact f0) (by show(rs'.map (·.2.2)).length<=mo;rw[(perm.map _).length_eq,b3];exact j4);obtain⟨o3,j3,rfl⟩:=hF.mp a7;rw[b3];exact qw o3 j3
end
section
local macro_rules | `(tactic| walk_at "l2step") =>`(tactic| first | ((with_reducible refine' fT ?e ?_);(case e=>walk_at "l2kind")) | ((with_reducible refine' jf ?e ?_);(case e=>walk_at "l2kind")) | (with_reducible refine dm ?_) | (with_reducible refine gi ?_))
section
local macro_rules | `(tactic| walk_at "l2step") =>`(tactic| first | (with_reducible refine Ho ?_) | (with_reducible refine Hn ?_))
theorem vw (T:Tx K mg a):FnOk P w K mg base CX0 2 a.ir a.yC ["_law_lists","_law_choice","_law_many"] Hb:=by
 refine T.me.1.okA jE λa5 A outer s H vs Q E hr h=>?_;obtain⟨ψ,Dl,ds,es,m,nx,os,ρ,rfl,lr,hl,a3,q⟩:=h;have eR:=lr.r
 refine⟨_,((af (aD (i:=3) jE.nd rfl @D (az Ib (c6 (aa ah ae)) (pv 2)))
  (af (dE xo rfl (B9 (K:=K) rfl @F T.dI (pv 0)) (yi rfl (bL (aq (i:=4) jE.nd rfl @D) (bL (aq (i:=5) jE.nd rfl @D) i6))) (ai (dU (aU nu (az lF (az qV (pv 1) (pv 4)) ah) ah (bh _)) (ai (bJ (osc:=ag oQ) (ON:=["_law_lists","_law_choice","_law_many","_law_rows","_law_k","_law_one"]) (N:=n25) (n:=2) (fx:=[]) (i:=3) jE.nd rfl rfl rfl rfl rfl rfl @H (MR (K:=K) rfl @F T.OO (pv 3) (pv 5)) (wu (eK (aA @C) (eK (aA @C) qv))) (!C (qh (K:=K) (n:=2) rfl rfl (bL (aq (i:=0) (show hH (n25:B') from by decide +kernel) rfl @D) (bL (aq (i:=1) (show hH (n25:B') from by decide +kernel) rfl @D) i6))) (az lE (pv 0) (pv 1))))) bo)))
  (ai (aL (pv 3)))))),aw (σ':=[a' _,a' _,a' _,f',f',f']) rfl ?_⟩
 lia;intro L1 H1 G s1 e1;lia;refine Om e1 @A @A (by rw[nr,ov];simp;omega) λL2 H2 f2 s2 χ=>?_;have χ:H2 L2=a' (.lst ((M.upk m (M.chs (prs nx) (prs os) m ρ 0) nx.length).map nat)):=by rw[χ,M.chs_zero,M.upk_zero];simp
 have ν:=s1.trans s2;lia;refine uM (xs:=ds.map V.ref) (λi σ H'=>∃(L:eH) (δ η:T8 V),σ=[a' (.ref ψ),a' (nat ρ),a' (nat nx.length),a' (.ref L),δ,η]/\Same H H'/\H L=f'/\H' L=a' (.lst ((M.upk m (M.chs (prs nx) (prs os) m ρ i) nx.length).map nat))) ⟨L2,f',f',rfl,ν,s1.free f2,χ⟩ (λi σ H' _ ⟨_,_,_,_,s',_⟩=>SqL.of (s'.get eR)) ?_ ?_
 ·rintro i v σ H3 p3 H4 ο ⟨L,δ,η,rfl,θ,φ,ζ⟩ fp sp ep;obtain⟨d,hd,rfl⟩:=ay ο;have hi:=(b'.mp hd).1;have hk:(M.ldp (prs nx) (prs os) m)[i]? =a' (M.ldp (prs nx) (prs os) m)[i]! :=by rw[lr.dl] at hi;simp[hi]
  generalize (M.ldp (prs nx) (prs os) m)[i]! =k at hk;have ε:=θ.trans sp;have Z:=ε.get (lr.da i d k hd hk);have α:=sp.get ζ;have hz:=M.chs_succ (a:=ρ) hk;lia;rw[rP];by_cases hb:ρ.testBit i=true
  ·rw[wb hb] at hz ⊢;lia;refine⟨L,d,_,_,rfl,rfl,SqL.of α,SqL.of Z,by rw[bx,bx,M.upk_len,M.upk_len],?_⟩;intro D5 Y;refine El (xs:=(M.upk m (M.chs (prs nx) (prs os) m ρ i) nx.length).map nat) (ys:=(M.upk m (2 ^ k) nx.length).map nat) (by rw[bx,bx,M.upk_len,M.upk_len]) (λj zs H'=>Cs (λj zs=>zs=((WB (·^^^·) (M.upk m (M.chs (prs nx) (prs os) m ρ i) nx.length) (M.upk m (2 ^ k) nx.length)).take j).map nat) H4 D5 j zs H') (Cs.zero Y rfl) (λj zs H' _ c=>⟨SqL.of (c.same.get α),SqL.of (c.same.get Z)⟩) (λj u v zs ι pz H9 π ο ξ fp ω a4=>?_) (λzs a6 ξ=>?_)
   ·obtain⟨r,β,rfl⟩:=ay π;obtain⟨l,υ,rfl⟩:=ay ο;have τ:=(b'.mp β).1;rw[M.upk_len] at τ;lia;rw[dB];refine Cs.put Y (ξ.same.trans ω) (ω.get ξ.at') ξ.len @A ?_;have hz:(WB (·^^^·) (M.upk m (M.chs (prs nx) (prs os) m ρ i) nx.length) (M.upk m (2 ^ k) nx.length))[j]? =a' (r^^^l):=by rw[List.getElem?_zipWith,β,υ]
    rw[ξ.pv,take_succ hz,ef];rfl
   ·have γ:=ξ.at';rw[ξ.pv,bx,M.upk_len,M.upk_xor,<-hz,UE (by rw[M.upk_len];exact sb _)] at γ;lia;exact⟨D5,_,_,rfl,ε.trans ξ.same,ε.free Y,γ⟩
  ·rw[qb hb] at hz ⊢;rw[UJ] at hz;lia;exact⟨L,_,_,rfl,ε,φ,by rw[hz];exact α⟩
 ·rintro σ H3 ⟨L,δ,η,rfl,θ,φ,ζ⟩;rw[bx,lr.dl] at ζ;lia;exact q L H3 φ θ ζ
theorem tJ (T:Tx K mg a):FnOk P w K mg base CX0 7 a.gC a.wM ["_law_net_one","_law_rows","_law_looks"] (EN (NAof a)):=by
 refine T.kj.1.okA nJ λc3 A outer s H vs Q E hr h=>?_;obtain⟨n,r,Dr,Dl,ds,es,N,od,rs,nx,os,rfl,na,er,a8,hb,lr,b3,hl,χ,eo,q⟩:=h;have eL:=lr.l;have g:=na.g;have tp:=na.tp;have hh:=zM g tp;have b6:∀rs st,rst N st rs=M.wst (prs nx) st rs:=λrs st=>by rw[χ];exact Hv g tp hh rs st
 have a5:∀rs st,ran N st rs=M.wan (prs nx) (prs os) st rs:=λrs st=>by rw[χ,eo];exact DN g tp hh rs st
 have a0:∀j,j < es.length->(M.lkp (prs nx) (prs os) N.ins.length)[j]? =a' (M.lkp (prs nx) (prs os) N.ins.length)[j]! :=λj τ=>by rw[lr.el] at τ;simp[τ]
 refine⟨_,((af (aD (i:=3) nJ.nd rfl @D (aK (JT rfl) @F T.S8 PyProof.Rows.boot_max (aa (az jc (c6 (aa ah ae)) (bD (osc:=ag jJ) (ON:=n28) (N:=["_law_look"]) (n:=1) (fx:=[]) rfl rfl rfl @H (aG (K:=K) rfl (pv 2)) (aA @C) (!C (aq (i:=0) (show hH (["_law_look"]:B') from by decide +kernel) rfl @D) (az dk (!A @I (pv 0) ah) ah)))) ae)))
  (af (aD (i:=4) nJ.nd rfl @D (kz (ko (K:=K) rfl) (aj (mF T) hr T.oj T.gO (!j 0 (aa (az jc (pv 1) (az Ib (c6 (aa ah ae)) (pv 3))) ae))) (kW (aK (aP (K:=K) rfl) @F T.eQ ot (!j 1 ae))) su))
  (ai (aL (bD (osc:=ag jJ) (ON:=n28) (N:=["_law_look","_law_answers"]) (n:=1) (fx:=[4]) rfl rfl rfl @H (aG (K:=K) rfl (pv 2)) (aA @C) (!C (aq (i:=0) (show hH (["_law_look","_law_answers"]:B') from by decide +kernel) rfl @D) (az lF (az qV (!A (a9 (K:=K) rfl) (pv 1) (!A @I (pv 0) ah)) (!A @I (pv 0) ah)) ah)))))))),aw (σ':=[a' _,a' _,a' _,f',f']) rfl ?_⟩
 lia;intro L1 H1 f1 s1 e1;have ε:=s1.get eL;lia;intro E2 f2;refine aH (xs:=es.map V.ref) (λj ys H'=>ys=(((M.lkp (prs nx) (prs os) N.ins.length).take j).map λk=>k / os.length + 1).map nat/\Same H1 H'/\H' E2=a' (.lst ys)) ⟨by simp,aW f2,au⟩ (λj ys H' _ ⟨_,s',_⟩=>SqL.of (s'.get ε)) (λj v ys H' hv c=>?_) (λys H2 c=>?_)
 ·obtain⟨e,he,rfl⟩:=ay hv;have τ:=(b'.mp he).1;obtain⟨rfl,υ,ο⟩:=c;have hk:=a0 j τ;generalize (M.lkp (prs nx) (prs os) N.ins.length)[j]! =k at hk;have et:=(s1.trans υ).get (lr.ea j e k he hk);lia;refine⟨ο,by rw[bx,bx,wh];exact aM @A,?_,λb ob h=>?_,au⟩
  ·rw[Y5,hk,ef,ef];rfl
  ·rw[aF (ao h f2)];exact υ.get h
 ·obtain⟨rfl,υ,ο⟩:=c;rw[bx,UE (by rw[<-lr.el];exact sb _)] at ο;have a6:=υ.get e1;have ξ:(M.lkp (prs nx) (prs os) N.ins.length).length=es.length:=lr.el.symm;lia;refine pA a6 ο (by rw[bx,bx,ξ];exact Vh (aM (by show 1 + es.length<=1000;omega))) fun ζ H3 f3 s3 e3=>?_;have e3:H3 ζ=a' (.lst ((0::(M.lkp (prs nx) (prs os) N.ins.length).map λk=>k / os.length + 1).map nat)):=e3;lia;refine Qm e3 @E λtn Y α=>?_
  have a7:tn<=60:=by
   rcases Tn.mp Y with z | z
   ·omega
   ·obtain⟨k,hk,rfl⟩:=hF.mp z;have a3:=M.lkp_lt k hk;have hm:(M.msk (prs nx) (prs os)).length=nx.length * os.length:=by unfold M.msk;rw[M.lkm_len,aE,bx,aE]
    rw[hm] at a3;have:=Wu (m:=k) (n:=os.length) (k:=nx.length) (by rw[Yh];exact a3);omega
  have ν:=s1.trans (υ.trans s3);have a4:=na.same ν;have G:=ν.get er;have c1:=ν.get eL;lia;intro L4 H4 f4 s4 e4;have γ:=s4.get G;lia;refine Om e4 @A @A (by rw[nr,ov];simp;omega) λL5 H5 ψ ι π=>?_;have π:H5 L5=a' (.lst ((lj tn 0).map nat)):=by rw[π];simp
  refine pA (ι.get γ) π (by rw[bx,bx,Uv];exact Vh (aM @A)) λL6 H6 f6 s6 ω=>?_;rw[<-ef] at ω;have ρ:=s4.trans (ι.trans s6);lia;refine⟨n,L6,N,od,_,rfl,a4.same ρ,ω,by rw[eP,Uv];omega,λx hx=>?_,λD7 H7 f7 L e7=>?_⟩
  ·rcases gz.mp hx with h | h
   ·exact hb x h
   ·rw[YY h];exact T5 _
  have c0:=(ρ.trans L).get G;lia;rw[bx];intro D8 H8 f8 s8 e8;rw[rL _ _ (by rw[bx,y4,eP];omega),HH,ef,List.drop_left' (by rw[bx,y4]),a5] at e8;have θ:=ν.trans (ρ.trans (L.trans s8));have δ:=θ.get eL;lia;intro E9 f9;refine aH (xs:=es.map V.ref) (λj ys H'=>ys=((M.shw (prs nx) (prs os) N.ins.length (rst N 0 rs)).take j).map nat/\Same H8 H'/\H' E9=a' (.lst ys)) ⟨by simp,aW f9,au⟩ (λj ys H' _ ⟨_,s',_⟩=>SqL.of (s'.get δ)) (λj v ys H' hv c=>?_) (λys Ha c=>?_)
  ·obtain⟨e,he,rfl⟩:=ay hv;have τ:=(b'.mp he).1;obtain⟨rfl,sa,ο⟩:=c;have hk:=a0 j τ;generalize (M.lkp (prs nx) (prs os) N.ins.length)[j]! =k at hk;have et:=(θ.trans sa).get (lr.ea j e k he hk)
   have β:k / os.length < tn:=by
    have:=α (k / os.length + 1) (p' _ (hF.mpr ⟨k,ee hk,rfl⟩));omega
   have c2:=sa.get e8;have η:atI ((M.wan (prs nx) (prs os) (rst N 0 rs) (lj tn 0)).map nat) ((k / os.length:Nat):Int)=a' (nat (M.tr2 (prs os) (M.zs (prs nx) (rst N 0 rs) (k / os.length)) 0)):=di (by rw[gA,M.wan_zeros92 _ _ _ _ _ β];rfl);have φ:=M.shw_at (x:=rst N 0 rs) (ps:=prs nx) (os:=prs os) (m:=N.ins.length) (by rw[aE];omega) hk;rw[aE] at φ;lia;rw[rP,<-φ]
   have Z:(M.shw (prs nx) (prs os) N.ins.length (rst N 0 rs))[j]? =a' (M.bn ((M.ow (rst N 0 rs) (M.lkL (prs nx) (prs os) N.ins.length)).testBit j)):=by
    unfold M.shw;rw[gA,Ub (by rw[ξ];exact τ)];rfl
   refine⟨ο,by rw[bx,wh];unfold M.shw;rw[bx,TC,ξ];exact aM @A,?_,λb ob h=>?_,au⟩
   ·rw[take_succ Z,ef];refine T4 (_++·) ?_;unfold M.bn;split<;>rfl
   ·rw[aF (ao h f9)];exact sa.get h
  ·obtain⟨rfl,sa,ο⟩:=c;rw[bx,UE (by unfold M.shw;rw[bx,TC,ξ];exact sb _)] at ο;lia;exact q E9 Ha (θ.free f9) (θ.trans sa) ο
end
section
local macro_rules | `(tactic| walk_at "l2step") =>`(tactic| first | ((with_reducible refine' Ep ?a ?b ?_);(case a=>omega);(case b=>omega)) | ((with_reducible refine' z6 ?e ?a ?_);(case e=>walk_at "l2hp");(case a=>walk_at "l2side")) | (with_reducible refine Hn ?_))
theorem CO {l:C'} (h:eqVs (l.map nat) (G.map nat)=true):l=G:=by
 unfold eqVs at h;rw[TZ,X6,bx,bx,Va] at h;refine XM h.1 λi h1 h2=>?_;have:=h.2 i (U8.mpr h1);rw[ec,ec,gA,gA,ed h1,ed h2] at this;have hi:((l[i]:Nat):Int)=G[i]:=by simpa[eqV] using this
 exact Int.ofNat.inj hi
theorem Lk {K:dt} {q:eH} {ns:C'} (e:SqL K H p (ns.map nat)) (G:SqL K H q (S.map nat)) (n:ns≠S) (h:Q (.bl false) H):rEqL K false (.ref p) (.ref q) H Q:=by
 refine⟨p,q,_,_,rfl,rfl,e,G,om ns,om S,?_⟩;rw[Bool.eq_false_iff.mpr λh=>n (CO h)];exact h
theorem Re (T:Tx K mg a):FnOk P w K mg base CX0 14 a.FX a.R5 ["_law_script"] (DF K):=by
 refine T.Mp.okA jD λcdv A outer s H vs Q E hr h=>?_;obtain⟨p0,ns,rfl,hS,hlen,q⟩:=h;have o3:=RI hr;have hu1:=B3 hr
 refine⟨_,((af (aD (i:=1) jD.nd rfl @D (aj (Cf T) hr T.FV T.pj (!j 0 (aa ah (aa (!A (a9 (K:=K) rfl) (c6 (aa ah (aa ah ae))) (aX JU @F T.Rp Yp (aa (kX nu (az dW (aj (nS T) hr T.qx T.iC (!j 0 (aa ah ae))) ah) ah (bh _)) ae))) ae)))))
  (af (aD (i:=2) jD.nd rfl @D (aj (vt T) hr T.yp T.md (aa (aj (vq T) hr T.yo T.l9 (aa (jR T.Pp (jU T) (hr.mono @C) @F T.O3 T.d9.2 .nil b0 (aa (!A @I (pv 1) ah) (aa (!A @I (pv 1) ah) (aa (!A @I (pv 1) ah) (aa (!A @I (pv 1) ah) ae))))) ae)) ae)))
  (af (aD (i:=3) jD.nd rfl @D (aj (vp T) hr T.yn T.lW (!j 2 ae)))
  (af (QY (aj (Lx T) hr T.O1 T.Ag (!j 3 ae)) (yi rfl (bL (aq (i:=4) jD.nd rfl @D) (bL (aq (i:=5) jD.nd rfl @D) (bL (aq (i:=6) jD.nd rfl @D) i6)))))
  (af (aD (i:=7) jD.nd rfl @D (bp (pv 4) T.ax T.bg (aV T) (hr.mono @C) T.aQ.2 .nil b0))
  (af (aD (i:=8) jD.nd rfl @D (aj (vt T) hr T.yp T.md (aa (aj (vq T) hr T.yo T.l9 (aa (aj (Im T) hr T.LX T.uO (!j 4 ae)) ae)) ae)))
  (af (bJ (osc:=ag B1) (ON:=["_law_script","_law_net_here","_law_net_one","_law_machine","_law_other","_law_lists","_law_looks","_law_many","_law_least_net","_law_rows","_law_cell_here","_law_one","_law_two","_law_left","_law_right"]) (N:=["_law_cell_here","_law_net_here"]) (n:=1) (fx:=[1]) (i:=9) jD.nd rfl rfl rfl rfl rfl rfl @H (aG (K:=K) rfl (kz (ko (K:=K) rfl) (pv 0) (kW ah) (kW ah))) (aA @C) (!C (aq (i:=0) (show hH (["_law_cell_here","_law_net_here"]:B') from by decide +kernel) rfl @D) (az dW (pv 0) (az g8 ah (aK (aP (K:=K) rfl) @F T.eQ ot (aa (!A @I (pv 1) ah) ae))))))
  (af (dU (PW.pt (qg (aU (Ie (K:=K) rfl o3) (aj (mF T) hr T.oj T.gO (!j 8 (!j 9 ae))) (aj (mF T) hr T.oj T.gO (!j 2 (!j 9 ae))) (bh _)) (nQ (aU sx (pv 7) (aK (aP (K:=K) rfl) @F T.eQ ot (aa (!A @I (pv 1) ah) ae)) (bh _))))) (ai (aL za)) bo)
  (af (dU (PW.pt (qg (aU ze (!A @I (aj (Cd T) hr T.FU T.ph (!j 3 (aa (aj (vp T) hr T.yn T.lW (!j 8 ae)) ae))) ah) bI (bh _)) (nQ (aU (Ie (K:=K) rfl o3) (c6 (aa (aK (aP (K:=K) rfl) @F T.eQ ot (!j 5 ae)) (aa (aK (aP (K:=K) rfl) @F T.eQ ot (!j 6 ae)) ae))) (c6 (!j 7 (!j 7 ae))) (bh _))))) (ai (aL za)) bo)
  (af (dE xo rfl (aG (K:=K) rfl (kz (ko (K:=K) rfl) (pv 0) (kW ah) (kW ah))) (aq (i:=10) jD.nd rfl @D) (af (aD (i:=11) jD.nd rfl @D (az dW (pv 10) (az g8 ah (pv 7))))
  (af (aD (i:=12) jD.nd rfl @D (az dW (aj (fc T) hr T.cD T.bU (!j 10 (aa ah ae))) (az g8 ah (pv 7))))
  (af (aD (i:=13) jD.nd rfl @D (aj (tJ T) hr T.wA T.kj (!j 2 (aa (aj (vw T) hr T.yq T.me (!j 5 (!j 11 (aa (aK (aP (K:=K) rfl) @F T.eQ ot (aa (!A @I (pv 1) ah) ae)) ae)))) (!j 6 ae)))))
  (af (aD (i:=14) jD.nd rfl @D (aj (tJ T) hr T.wA T.kj (!j 2 (aa (aj (vw T) hr T.yq T.me (!j 5 (!j 12 (aa (aK (aP (K:=K) rfl) @F T.eQ ot (aa (!A @I (pv 1) ah) ae)) ae)))) (!j 6 ae)))))
  (ai (dU (PW.pt (HP (aU ze (pv 11) (pv 12) (bh _)) (B7 (aU (OJ (K:=K) rfl o3) (pv 13) (pv 14) (bh _))))) (ai (aL za)) bo)))))))
  (ai (aL za))))))))))))),aw (σ':=[a' _,f',f',f',f',f',f',f',f',f',f',f',f',f',f']) rfl ?_⟩
 lia;intro Dm H0 f0 s0 e0;have q1:=Same.seq s0 hS;lia
 obtain⟨mo,x5,hat⟩:∃mo:Nat,mo<=12/\atI [V.int 6,V.int 12] (if decide (V.int (cell ns 1 % 8)=V.int 1)=true then 1 else 0)=a' (nat mo):=by
  by_cases hc:V.int (cell ns 1 % 8)=V.int 1
  ·exact⟨12,@C,by rw[wb (gB hc)];rfl⟩
  ·exact⟨6,@C,by rw[qb (by simpa using hc)];rfl⟩
 lia;refine⟨p0,ns,2,mo,rfl,q1,@C,x5,λt i s u o H1 rs qs N s1 et hn g li _=>?_⟩;have u8:=Same.seq s1 q1;lia;intro x dx H2 f2 s2 e2;refine⟨x,dx,i,s,u,o,rs,qs,N,rfl,e2,hn.same s2,g,λH3 θ k3 r4=>⟨rfl,?_⟩⟩;have a7:Same H1 H3:=λb ob e=>k3 _ _ (ao e f2) (s2.get e);have u6:=Same.seq a7 u8;have v1:=a7.get et;have t9:=a7.get hn.i;have w6:=a7.get hn.t;have s3:qs.length=N.sts.length:=by rw[<-hn.et,bx]
 clear k3 e2 s2 f2 hn et u8 s1 hS a7 q1 e0 s0 f0;have fm:=yZ g;have lrw:=vj g;have eN:=yl N;lia;refine⟨x,N,θ,rfl,r4,λH4 s4=>?_⟩;lia;refine⟨qP N,rfl,fm,@A,by rw[eN];exact g,λn1 H5 od f5 s5 na=>?_⟩;rw[eN] at na;have tp:=na.tp;have ι:=s4.trans s5;lia;refine⟨n1,N,od,rfl,na,λxm H6 nx os f6 s6 ma π en eo=>?_⟩;have e8:=ι.trans s6;have u5:=Same.seq e8 u6;have v0:=e8.get v1;have t7:=e8.get t9;have r3:=na.same s6;have f4:nx.length=N.sts.length:=by have:=T4 TX en;rw[aE,bx,bx] at this;exact this
 have t1:os.length=N.outs.length:=by have:=T4 TX eo;rw[aE,bx] at this;exact this
 have sl:Sml N.ins.length (prs nx) (prs os):=⟨@A,by rw[aE,f4];exact g.lt,by rw[aE,t1];exact g.lo,λq' c2=>by
  rw[show prs nx++prs os=prs (nx++os) from(ef ..).symm] at c2;obtain⟨r,c1,rfl⟩:=hF.mp c2;rw[aE];exact π.bn r c1⟩
 have hh:=zM g tp;have z4:∀rs st,ran N st rs=M.wan (prs nx) (prs os) st rs:=λrs st=>by rw[en,eo];exact DN g tp hh rs st
 have v2:∀rs st,rst N st rs=M.wst (prs nx) st rs:=λrs st=>by rw[en];exact Hv g tp hh rs st
 have bd0:0 < 2 ^ nx.length:=T5 _;have w7:=T5 N.ins.length;have t3:=(s4.trans (s5.trans s6)).get w6;clear e8 ι s4 s5 s6 f5 f6 v1 t9 r4 na u6;have k9:M.Fit (prs nx) (prs os) N.ins.length:=⟨by have:=g.lt;rw[aE,f4];omega,λq' c2=>(sl.bn q' c2).1⟩;have t5:=M.many_le (ps:=prs nx) (os:=prs os) (m:=N.ins.length);rw[aE] at t5;have lt16:=g.lt;lia;refine⟨xm,N.ins.length,nx,os,rfl,ma,π,@A,λtl x2 ψ Dl ds es H7 a0 b3 s7 z2 f1 x6 f3 r7 _ _ _ _=>?_⟩;have f7:a0.length=(M.lkp (prs nx) (prs os) N.ins.length).length:=by have:=f3.ln;rwa [aE] at this
 have w5:b3.length=os.length:=by have:=f3.lo;rwa [aE,aE] at this
 have n0:Sml N.ins.length (prs a0) (prs b3):=⟨@A,by rw[aE];omega,by rw[aE,w5,t1];exact g.lo,λq' c2=>by
  rw[show prs a0++prs b3=prs (a0++b3) from(ef ..).symm] at c2;obtain⟨r,c1,rfl⟩:=hF.mp c2;rw[aE];exact x6.bn r c1⟩
 have u9:=s7.get v0;have t6:=s7.get t7;have t2:=s7.get t3;have u4:=Same.seq s7 u5;have r2:=r3.same s7;have r5:=ma.same s7;clear v0 t7 t3 u5 r3 ma;lia;obtain⟨dxm,tn,to,hm,_⟩:=f1.ho;refine aN hm rfl ?_;lia;refine⟨x2,_,a0,b3,rfl,f1,?_⟩;lia;refine⟨x2,N.ins.length,a0,b3,rfl,f1,n0,λn2 H8 η f8 s8 n9=>?_⟩;obtain⟨N2,e6⟩:∃N2,N2=i9 N.ins.length (prs a0) (prs b3):=⟨_,rfl⟩;rw[<-e6] at n9;have g2:Gn N2:=by rw[e6];exact sL n0
 have v4:=yl N2;have lrw2:=vj g2;lia;refine⟨n2,N2,η,rfl,n9,λH9 s9=>?_⟩;lia;refine⟨qP N2,rfl,yZ g2,@A,by rw[v4];exact g2,fun υ H10 r1 z0 φ e9=>?_⟩;rw[v4] at e9;have χ:=s8.trans (s9.trans φ);have h6:N2.ins.length=N.ins.length:=by rw[e6];exact bK _ _
 have c3:(N2.sts.map (·.2)).map (hgp N2)=prs a0/\N2.outs.map (hgp N2)=prs b3:=by
  have q6:=e9.tp;rw[e6] at q6 ⊢;exact IB n0 q6
 have e7:=χ.get u9;have k8:=χ.get t6;have k6:=χ.get t2;have l3:=Same.seq χ u4;have h5:=r2.same χ;have j0:=r5.same χ;have e5:=r7.same92 χ;clear n9 e6 s8 s9 φ f8 z0 u9 t6 t2 u4 r2 r5 r7 hm f1 χ z2 s7;lia;intro Ds H11 y7 ο q5;obtain⟨cs,v3,w4⟩:=Ek ns (a' 15) (a' 63);rw[v3] at q5;have m1:=ο.get e7;have k7:=ο.get k8;lia;intro ε q2;refine aH (xs:=cs.map V.int) (λi ys H'=>∃rs:C',ys=rs.map nat/\Same H11 H'/\H' ε=a' (.lst ys)/\rs.length=i/\∀r∈rs,r < 2 ^ N.ins.length) ⟨[],rfl,aW q2,au,rfl,λ_ h=>hD h @E⟩ (λi ys H' _ ⟨_,_,s',_⟩=>SqL.of (s'.get q5)) ?_ ?_
 ·rintro i y ys H' hy ⟨w1,rfl,s',eD,lr,hb⟩;obtain⟨cc,hc,rfl⟩:=ay hy;have hlt:=(b'.mp hc).1;have z3:=s'.get m1;have hi':=s'.get k7;lia;rw[bx];lia;rw[shl1];lia;obtain⟨m,hm,t5⟩:=iG (c:=cc) (m:=((2 ^ N.ins.length:Nat):Int)) @A;rw[hm];refine⟨eD,by rw[bx];exact aM @A,w1++[m],by rw[ef];rfl,λb ob e=>?_,au,by rw[eP,lr];rfl,λr c1=>?_⟩
  ·rw[aF (ao e q2)];exact s'.get e
  ·rcases gz.mp c1 with h | h
   ·exact hb r h
   ·rw[gs.mp h];omega
 ·rintro ys H12 ⟨n6,rfl,r0,er,lr,p3⟩;rw[bx] at lr;have l63:n6.length<=63:=by omega
  have δ:=ο.trans r0;have d2:=h5.same δ;have a3:=e9.same δ;have G:=j0.same δ;have e4:=e5.same92 δ;have m0:=δ.get e7;have ω:=δ.get k6;have l2:=Same.seq δ l3;clear q5 m1 k7 v3 w4 lr ο r0 y7 q2 e7 k8 k6 l3 h5 e9 j0 e5 δ;lia;refine⟨υ,ε,N2,r1,n6,rfl,a3,er,@A,by rw[h6];exact p3,λD13 H13 y5 a7 q4=>?_⟩;rw[DN a3.g a3.tp (zM a3.g a3.tp),c3.1,c3.2,f3.alike k9 p3] at q4;have h4:=d2.same a7;have Z:=a7.get er;lia;refine⟨n1,ε,N,od,n6,rfl,h4,Z,@A,p3,λD14 H14 y2 n5 ζ=>?_⟩;rw[z4] at ζ;lia;refine MK (SqL.of (n5.get q4)) (SqL.of ζ) ?_;have ρ:=a7.trans n5;have l8:=ρ.get m0;have L:=ρ.get ω;have i4:=G.same ρ;have h3:=d2.same ρ;have d1:=a3.same ρ;have e3:=e4.same92 ρ;have l1:=Same.seq ρ l2;clear q4 ζ y5 y2 a7 n5 Z h4 m0 ω G d2 a3 e4 l2 ρ;lia;rw[bx];lia;dsimp only;rw[qb (by rw[decide_eq_true_iff];omega)];lia;refine⟨υ,N2,r1,rfl,d1,λx3 H15 n8 n7 τ ξ o0 q3 g0 f9=>?_⟩;rw[c3.1] at g0;rw[c3.2] at f9;rw[h6] at o0 q3;have l3x:n8.length=a0.length:=by have:=T4 TX g0;rwa [aE,aE] at this
  have l3o:n7.length=b3.length:=by have:=T4 TX f9;rwa [aE,aE] at this
  have i3:=i4.same ξ
  have u3:∀T,M.Al (prs nx) (prs os) (prs n8) (prs n7) N.ins.length T:=λT t ht w' hw=>by
   have hz:=f3.alike k9 (rs:=2 ^ w'::lj t 0) λr c1=>by
    rcases Tn.mp c1 with rfl | h
    ·exact U0 @C hw
    ·rw[YY h];exact w7
   rw[g0,f9,<-M.wan_sgl _ _ w' t t (sb _),<-M.wan_sgl _ _ w' t t (sb _),hz]
  lia;refine⟨xm,x3,N.ins.length,nx,os,n8,n7,rfl,⟨i3,π,o0,q3,@A,@A⟩,λal tt Ds2 Db Du ts bs us H16 ν ak=>?_,λw' t' fn=>(fn.not (u3 _)).elim⟩;have z1:=ak.t;have a5:=ξ.trans ν;have l7:=a5.get l8;have j4:=a5.get L;have h0:=h3.same a5;have a6:=e3.same92 a5;have l0:=Same.seq a5 l1;clear o0 q3 g0 f9 i3 u3 ξ ν τ l8 L h3 d1 e3 l1 i4 a5 al ak;have z7:=a6.r;have z8:=a6.l;have w3:ds.length=a0.length:=by rw[a6.dl,<-M.many_eq,f7]
  have w2:es.length=a0.length:=by rw[a6.el,f7]
  lia;intro La H17 y1 q9 v7;lia;intro Lb H18 y0 n4 γ;lia;refine MK (ns:=[a0.length,a0.length]) (SqL.of (by rw[n4.get v7,bx,bx,w3,w2];rfl)) (SqL.of γ) ?_;have a4:=q9.trans n4;have l5:=a4.get l7;have j3:=a4.get j4;have g4:=h0.same a4;have e1:=a6.same92 a4;have u7:=Same.seq a4 l0;clear v7 γ q9 n4 y1 y0 l7 j4 h0 a6 l0 a4 z7 z8 z1;lia;intro Dz H19 x7 c5 β;obtain⟨cz,z5,lcz⟩:=Ek ns (a' 15) (a' 23);rw[z5] at β;have l4:=c5.get l5;have j1:=c5.get j3;have g3:=g4.same c5;have Y:=e1.same92 c5;clear l5 j3 g4 e1 u7 c5 x7;have t4:(0:Int) < ((2 ^ a0.length:Nat):Int):=by have:=T5 a0.length;omega
  lia;refine iF (xs:=cz.map V.int) (λi σ H'=>∃m7 m5 m4 m3 m2,σ=[a' (.ref p0),a' (.ref t),a' (.ref n1),a' (.ref xm),a' (.ref x2),a' (.ref ψ),a' (.ref Dl),a' (nat a0.length),a' (.ref υ),a' (.ref ε),m7,m5,m4,m3,m2]/\Same H19 H') ⟨f',f',f',f',f',rfl,Same.refl _⟩ (λi σ H' _ ⟨_,_,_,_,_,_,s'⟩=>SqL.of (s'.get β)) ?_ ?_
  ·rintro i y σ H' hy ⟨m7,m5,m4,m3,m2,rfl,s'⟩;obtain⟨cc,hc,rfl⟩:=ay hy;have z3:=s'.get l4;have ht':=s'.get j1;lia;rw[shl1];lia;obtain⟨o1,x4,lo1⟩:=iG (c:=cc) t4;rw[x4];lia;rw[shl1];lia;obtain⟨o2,x0,lo2⟩:=iG (c:=mixV cc 9) t4;rw[x0];lia;rw[bx,s3,<-f4];refine⟨ψ,Dl,ds,es,N.ins.length,nx,os,o1,rfl,Y.same92 s',@A,@A,λL1 H20 f20 v9 e20=>?_⟩;have c0:=s'.trans v9;lia;refine⟨n1,L1,ψ,Dl,ds,es,N,od,_,nx,os,rfl,g3.same c0,e20,by rw[M.upk_len];omega,M.upk_lt _ _ _,Y.same92 c0,@A,@A,en,eo,λL2 H21 f21 v8 v6=>?_⟩;have u2:=M.chs_leads (ps:=prs nx) (os:=prs os) (m:=N.ins.length) o1;rw[aE] at u2;rw[v2,u2] at v6;have a8:=c0.trans v8;have et21:=a8.get l4;have ht21:=a8.get j1;lia;rw[bx,s3,<-f4];refine⟨ψ,Dl,ds,es,N.ins.length,nx,os,o2,rfl,Y.same92 a8,@A,@A,λL3 H22 f22 q8 z9=>?_⟩;have b6:=a8.trans q8;lia;refine⟨n1,L3,ψ,Dl,ds,es,N,od,_,nx,os,rfl,g3.same b6,z9,by rw[M.upk_len];omega,M.upk_lt _ _ _,Y.same92 b6,@A,@A,en,eo,λL4 H23 f23 q7 v5=>?_⟩;have u1:=M.chs_leads (ps:=prs nx) (os:=prs os) (m:=N.ins.length) o2;rw[aE] at u1;rw[v2,u1] at v5;have c4:=b6.trans q7;have α:=(q8.trans q7).get v6;lia;by_cases q0:o1=o2
   ·subst q0;rw[qb @E];lia;exact⟨_,_,_,_,_,rfl,c4⟩
   dsimp only
   ·rw[wb (by rw[gn λh=>q0 (by have:=V.int.inj h;omega)];rfl)];lia;refine Lk (SqL.of α) (SqL.of v5) (λh=>q0 (M.shw_one (by rw[<-f7];omega) (by rw[<-f7];omega) h)) ?_;lia;exact⟨_,_,_,_,_,rfl,c4⟩
  ·rintro σ H20 ⟨m7,m5,m4,m3,m2,rfl,s'⟩;lia;exact q _
end
end
end
open PySem.W in
theorem all_mk {l:ZM} {w:U1} {K:Frag} {h:Ui} {mg:F'} {fa:eH} (X:K.In h) (G:h.Ns TV mg) (hfa:mg "law"=a' (.ref fa)){fN iM kc wD ke j9 h9 ia kb dM mL fj bw bQ bE aZ cv bP rR:eH}{xh:sC}{xg:P'}{xc:Nat}{xa:K'}{pL:Tok}{xA yc:P'}{xi:K'}{xB x6 ya xq pW yb:sC}{cw bR cx bN b5 dP b7 wF j5 qz j7 fk ij cU qC gv dh cV iq cB bF c9 cK bu cI cf be b4 bM dN dO fo dJ cT qy j8 cu cq cn bO b8 cJ bj ip j6 ig ie gu ka ck fO cj fq qD ib il gw mK gE iw gD fw iu ir gC:eH}{Ri Sd:P'}{Qc:K'}{Rj Rz R4 QZ Nq R6:sC}{FX ar:eH}(Kc:NI K "Machine" ar){bG:eH}(Pl:NI K "Steps" bG){rO:eH}(Sh:NI K "Wire" rO){bc:eH}(Mn:NI K "InWire" bc){aT:eH}(Kb:NI K "SumWire" aT){aB:eH}(C7:NI K "StoreWire" aB){cZ:eH}(Th:NI K "Net" cZ){fY:eH}(Tg:NI K "Run" fY)(Gk:NI K "is_whole" fN)(FE:FR K "is_whole" "is_whole" sj fN)(J9:NI K "is_mask" iM)(IW:FR K "is_mask" "is_mask" vi iM)(J8:NI K "is_name" kc)(IV:FR K "is_name" "is_name" qN kc)(Sf:NI K "even" wD)(Rx:FR K "even" "even" Hq wD)(Ka:NI K "bits_of" ke)(IX:FR K "bits_of" "bits_of" qO ke)(J5:NI K "mask_of" j9)(IS:FR K "mask_of" "mask_of" vg j9)(Gd:NI K "words_of" h9)(Fw:FR K "words_of" "words_of" si h9)(Ge:NI K "unpacked" ia)(Fx:FR K "unpacked" "unpacked" oM ia)(J7:NI K "is_pair" kb)(IU:FR K "is_pair" "is_pair" vh kb)(z9:NI K "check_table" dM)(zD:FR K "check_table" "check_table" jj dM)(Mm:NI K "is_odd" mL)(LM:FR K "is_odd" "is_odd" yX mL)(BA:NI K "odd_places" fj)(AM:FR K "odd_places" "odd_places" kr fj)(Df:FI K ar "__init__" bw)(rp:FR K "__init__" "Machine.__init__" gT bw)(GD:FI K ar "stores" bQ)(uB:FR K "stores" "Machine.stores" iZ bQ)(Ew:FI K ar "outputs" bE)(sY:FR K "outputs" "Machine.outputs" hX bE)(Aj:FI K ar "check_state" aZ)(n0:FR K "check_state" "Machine.check_state" eV aZ)(Kt:FI K ar "step" cv)(x4:FR K "step" "Machine.step" kT cv)(GC:FI K ar "walked" bP)(uA:FR K "walked" "Machine.walked" iY bP)(KA:FI K ar "run" cw)(zI:K.lookup cw=a' ⟨xB,xA,.func (fnOf "run" "Machine.run" (iy fJ) (fz fJ) (ag fJ) (.ref rR) x6 ya xq yc pW yb),xi⟩)(xR:K.lookup rR=a' ⟨xh,xg,.seq #[.int 0 pL] xc,xa⟩)(z7:codeIn K pW "Machine.run"=true)(qT:keepIn K (.ref cw)=true)(GE:FI K ar "single" bR)(uC:FR K "single" "Machine.single" i0 bR)(Ku:FI K ar "back" cx)(x5:FR K "back" "Machine.back" kU cx)(GA:FI K bG "__init__" bN)(uy:FR K "__init__" "Steps.__init__" iW bN)(GK:FI K bG "lowered" b5)(wj:FR K "lowered" "Steps.lowered" jM b5)(NL:FI K bG "lay" dP)(CF:FR K "lay" "Steps.lay" qf dP)(GL:FI K bG "barring" b7)(wk:FR K "barring" "Steps.barring" jN b7)(Sg:NI K "base" wF)(Ry:FR K "base" "base" Ht wF)(J1:NI K "sum_for" j5)(IM:FR K "sum_for" "sum_for" vc j5)(Pi:NI K "reach" qz)(OU:FR K "reach" "reach" vf qz)(J3:NI K "rows_at" j7)(IQ:FR K "rows_at" "rows_at" ve j7)(BB:NI K "look_masks" fk)(AN:FR K "look_masks" "look_masks" iJ fk)(Gi:NI K "odd_with" ij)(FC:FR K "odd_with" "odd_with" oN ij)(w4:NI K "told_by_looks" cU)(wa:FR K "told_by_looks" "told_by_looks" jF cU)(Pj:NI K "least" qC)(OV:FR K "least" "least" jH qC)(C2:NI K "next_pair" gv)(Cz:FR K "next_pair" "next_pair" p8 gv)(yd:NI K "first_unlike" dh)(xS:FR K "first_unlike" "first_unlike" fW dh)(w6:NI K "pairs_come_to" cV)(wc:FR K "pairs_come_to" "pairs_come_to" dw cV)(Gp:NI K "compared" iq)(FG:FR K "compared" "compared" jx iq)(GI:FI K rO "__init__" cB)(we:FR K "__init__" "Wire.__init__" jK cB)(Ex:FI K bc "__init__" bF)(sZ:FR K "__init__" "InWire.__init__" hZ bF)(Mw:FI K bc "bit" c9)(AS:FR K "bit" "InWire.bit" nP c9)(KB:FI K bc "hang" cK)(zJ:FR K "hang" "InWire.hang" mB cK)(De:FI K aT "__init__" bu)(ro:FR K "__init__" "SumWire.__init__" gS bu)(Ky:FI K aT "bit" cI)(zG:FR K "bit" "SumWire.bit" my cI)(Kn:FI K aT "hang" cf)(xT:FR K "hang" "SumWire.hang" kO cf)(BI:FI K aB "__init__" be)(pF:FR K "__init__" "StoreWire.__init__" fS be)(GJ:FI K aB "bit" b4)(wg:FR K "bit" "StoreWire.bit" jL b4)(Gz:FI K aB "hang" bM)(ux:FR K "hang" "StoreWire.hang" iV bM)(Aa:NI K "check_sizes" dN)(zE:FR K "check_sizes" "check_sizes" jk dN)(Ab:NI K "check_names" dO)(zF:FR K "check_names" "check_names" mw dO)(BC:NI K "check_wire" fo)(AO:FR K "check_wire" "check_wire" nN fo)(z8:NI K "check_wires" dJ)(zC:FR K "check_wires" "check_wires" mr dJ)(wZ:NI K "wires_by_name" cT)(v8:FR K "wires_by_name" "wires_by_name" cP cT)(Ph:NI K "waits" qy)(OT:FR K "waits" "waits" yW qy)(J4:NI K "ordered" j8)(IR:FR K "ordered" "ordered" nM j8)(Ks:FI K cZ "__init__" cu)(xZ:FR K "__init__" "Net.__init__" de cu)(Kr:FI K cZ "in_names" cq)(xX:FR K "in_names" "Net.in_names" kS cq)(Kq:FI K cZ "sum_rows" cn)(xW:FR K "sum_rows" "Net.sum_rows" kR cn)(GB:FI K cZ "store_rows" bO)(uz:FR K "store_rows" "Net.store_rows" iX bO)(GM:FI K cZ "out_wires" b8)(wm:FR K "out_wires" "Net.out_wires" jO b8)(Kz:FI K cZ "wire_of" cJ)(zH:FR K "wire_of" "Net.wire_of" mz cJ)(BK:FI K cZ "names_by_need" bj)(qt:FR K "names_by_need" "Net.names_by_need" dH bj)(Gm:NI K "has_form" ip)(FF:FR K "has_form" "has_form" oP ip)(J2:NI K "rows_of" j6)(IP:FR K "rows_of" "rows_of" vd j6)(Gh:NI K "read_net" ig)(FA:FR K "read_net" "read_net" gK ig)(Gg:NI K "show_net" ie)(Fz:FR K "show_net" "show_net" gJ ie)(C1:NI K "turn_bits" gu)(Cy:FR K "turn_bits" "turn_bits" p7 gu)(J6:NI K "mask_at" ka)(IT:FR K "mask_at" "mask_at" qM ka)(Kp:FI K fY "__init__" ck)(xV:FR K "__init__" "Run.__init__" kQ ck)(Pw:FI K fY "step" fO)(FL:FR K "step" "Run.step" oR fO)(Ko:FI K fY "answered" cj)(xU:FR K "answered" "Run.answered" kP cj)(BD:NI K "answers_of" fq)(AQ:FR K "answers_of" "answers_of" nO fq)(Pk:NI K "hangs" qD)(OW:FR K "hangs" "hangs" B2 qD)(Gf:NI K "table_of" ib)(Fy:FR K "table_of" "table_of" lC ib)(Gj:NI K "numbered" il)(FD:FR K "numbered" "numbered" oO il)(C3:NI K "named_sum" gw)(CA:FR K "named_sum" "named_sum" jG gw)(Ml:NI K "net_of" mK)(LL:FR K "net_of" "net_of" uI mK)(C6:NI K "_law_cell" gE)(CD:FR K "_law_cell" "_law_cell" qe gE)(Gs:NI K "_law_mix" iw)(FK:FR K "_law_mix" "_law_mix" so iw)(C5:NI K "_law_name" gD)(CC:FR K "_law_name" "_law_name" qd gD)(BE:NI K "_law_wires" fw)(AR:FR K "_law_wires" "_law_wires" ku fw)(Gr:NI K "_law_net" iu)(FJ:FR K "_law_net" "_law_net" jy iu)(Gq:NI K "_law_sum" ir)(FH:FR K "_law_sum" "_law_sum" oQ ir)(C4:NI K "_law_seen" gC)(CB:FR K "_law_seen" "_law_seen" jJ gC)(Tf:NI K "law" FX)(S9:K.lookup FX=a' ⟨Rj,Ri,.func (fnOf "law" "law" (iy B1) (fz B1) (ag B1) .none Rz R4 QZ Sd Nq R6),Qc⟩)(Td:codeIn K Nq "law"=true)(S3:keepIn K (.ref FX)=true)(Fb:plainGet K ar WM=true)(E7:hasDictIn K ar=true)(E5:plainOver K ar=true)(E3:findIn K (.ref ar) "__setattr__"=a' (a' (.builtin "object.__setattr__")))(F7:makesIn K ar=true)(F5:FI K ar "__init__" bw)(F3:isFn K (.ref bw)=true)(F1:keepIn K (.ref ar)=true)(sW:FI K ar "stores" bQ)(sR:isFn K (.ref bQ)=true)(rn:FI K ar "outputs" bE)(rm:isFn K (.ref bE)=true)(ny:FI K ar "check_state" aZ)(nv:isFn K (.ref aZ)=true)(vT:FI K ar "step" cv)(vN:isFn K (.ref cv)=true)(sV:FI K ar "walked" bP)(sQ:isFn K (.ref bP)=true)(xP:FI K ar "run" cw)(xK:isFn K (.ref cw)=true)(sX:FI K ar "single" bR)(sS:isFn K (.ref bR)=true)(vU:FI K ar "back" cx)(vO:isFn K (.ref cx)=true)(uf:FN K ar "inputs")(vD:FN K ar "nexts")(xE:FN K ar "outs")(Ls:plainGet K bG WM=true)(Lr:hasDictIn K bG=true)(Lq:plainOver K bG=true)(Lp:findIn K (.ref bG) "__setattr__"=a' (a' (.builtin "object.__setattr__")))(Md:makesIn K bG=true)(Mc:FI K bG "__init__" bN)(Mb:isFn K (.ref bN)=true)(Ma:keepIn K (.ref bG)=true)(uu:FI K bG "lowered" b5)(um:isFn K (.ref b5)=true)(AL:FI K bG "lay" dP)(AK:isFn K (.ref dP)=true)(uv:FI K bG "barring" b7)(uo:isFn K (.ref b7)=true)(xD:FN K bG "by_top")(qm:FN K bG "free_places")(qZ:FN K bG "null_masks")(HN:plainGet K bc WM=true)(HM:hasDictIn K bc=true)(HL:plainOver K bc=true)(HK:findIn K (.ref bc) "__setattr__"=a' (a' (.builtin "object.__setattr__")))(JE:makesIn K bc=true)(JD:FI K bc "__init__" bF)(JC:isFn K (.ref bF)=true)(JB:keepIn K (.ref bc)=true)(zB:FI K bc "bit" c9)(zA:isFn K (.ref c9)=true)(xQ:FI K bc "hang" cK)(xM:isFn K (.ref cK)=true)(zk:FN K bc "name")(vE:FN K bc "number")(E8:plainGet K aT WM=true)(E6:hasDictIn K aT=true)(E4:plainOver K aT=true)(E1:findIn K (.ref aT) "__setattr__"=a' (a' (.builtin "object.__setattr__")))(F6:makesIn K aT=true)(F4:FI K aT "__init__" bu)(F2:isFn K (.ref bu)=true)(F0:keepIn K (.ref aT)=true)(xN:FI K aT "bit" cI)(xI:isFn K (.ref cI)=true)(vP:FI K aT "hang" cf)(vJ:isFn K (.ref cf)=true)(xC:FN K aT "name")(vB:FN K aT "wires")(Ay:plainGet K aB WM=true)(Ax:hasDictIn K aB=true)(Aw:plainOver K aB=true)(Av:findIn K (.ref aB) "__setattr__"=a' (a' (.builtin "object.__setattr__")))(Ba:makesIn K aB=true)(A9:FI K aB "__init__" be)(A8:isFn K (.ref be)=true)(A7:keepIn K (.ref aB)=true)(ur:FI K aB "bit" b4)(uk:isFn K (.ref b4)=true)(sT:FI K aB "hang" bM)(sO:isFn K (.ref bM)=true)(ue:FN K aB "name")(qY:FN K aB "number")(ud:FN K aB "wire")(QW:plainGet K cZ WM=true)(QU:hasDictIn K cZ=true)(QS:plainOver K cZ=true)(QQ:findIn K (.ref cZ) "__setattr__"=a' (a' (.builtin "object.__setattr__")))(RX:makesIn K cZ=true)(RV:FI K cZ "__init__" cu)(RT:isFn K (.ref cu)=true)(RQ:keepIn K (.ref cZ)=true)(vS:FI K cZ "in_names" cq)(vM:isFn K (.ref cq)=true)(vR:FI K cZ "sum_rows" cn)(vL:isFn K (.ref cn)=true)(sU:FI K cZ "store_rows" bO)(sP:isFn K (.ref bO)=true)(uw:FI K cZ "out_wires" b8)(uq:isFn K (.ref b8)=true)(xO:FI K cZ "wire_of" cJ)(xJ:isFn K (.ref cJ)=true)(pE:FI K cZ "names_by_need" bj)(pD:isFn K (.ref bj)=true)(zj:FN K cZ "by_name")(Iv:FN K cZ "ins")(sH:FN K cZ "kept_stores")(Fp:FN K cZ "outs")(vC:FN K cZ "sum_order")(Fo:FN K cZ "sums")(QV:plainGet K fY WM=true)(QT:hasDictIn K fY=true)(QR:plainOver K fY=true)(QP:findIn K (.ref fY) "__setattr__"=a' (a' (.builtin "object.__setattr__")))(RW:makesIn K fY=true)(RU:FI K fY "__init__" ck)(RS:isFn K (.ref ck)=true)(RP:keepIn K (.ref fY)=true)(Cu:FI K fY "step" fO)(Ct:isFn K (.ref fO)=true)(vQ:FI K fY "answered" cj)(vK:isFn K (.ref cj)=true)(Fn:FN K fY "bits")(Ci:FN K fY "given")(Fl:FN K fY "held")(Iu:FN K fY "net"){tF:eH}(Px:NI K "BadSizes" tF){wW:eH}(Si:NI K "TooMany" wW){dY:eH}(Ke:NI K "BadMask" dY){jz:eH}(Gv:NI K "BadTable" jz)(jB:excIn K dY [.type "ValueError",.type "Exception",.type "BaseException",.type "object"] "ValueError.__new__"=true)(gI:excIn K jz [.type "ValueError",.type "Exception",.type "BaseException",.type "object"] "ValueError.__new__"=true)(tU:specialIn K (.ref rO) "__getattribute__"=a' (a' (.builtin "type.__getattribute__")))(tT:readsIn K rO (.type "type")=true)(tS:findCls K (.ref rO) (.type "type") "__init__"=a' (.val (.ref cB))){uT:Tok}(Kd:nsIn K TV "LETTERS"=a' (a' (.str "abcdefghijklmnopqrstuvwxyz" uT))){kM:Tok}(ye:nsIn K TV "LONGEST_NAME"=a' (a' (.int 6 kM))){ml:Tok}(Ac:nsIn K TV "MOST_INPUTS"=a' (a' (.int 6 ml))){r8:Tok}(Gu:nsIn K TV "MOST_INS"=a' (a' (.int 6 r8))){fQ:Tok}(pI:nsIn K TV "MOST_OUTS_machines"=a' (a' (.int 6 fQ))){iT:Tok}(uE:nsIn K TV "MOST_OUTS_nets"=a' (a' (.int 6 iT))){eh:Tok}(nE:nsIn K TV "MOST_STORES_machines"=a' (a' (.int 120 eh))){gQ:Tok}(rQ:nsIn K TV "MOST_STORES_nets"=a' (a' (.int 16 gQ))){pZ:Tok}(C8:nsIn K TV "MOST_SUMS"=a' (a' (.int 40 pZ))){nG:Tok}(BG:nsIn K TV "MOST_WIRES"=a' (a' (.int 24 nG))){nF:Tok}(BF:nsIn K TV "NAME_SIGNS"=a' (a' (.str "abcdefghijklmnopqrstuvwxyz0123456789" nF)))(SC:NN K "all")(SB:NN K "any")(PF:NN K "bool")(PD:NN K "dict")(Kw:NN K "divmod")(BJ:NN K "enumerate")(SA:NN K "int")(Ai:NN K "isinstance")(Sy:NN K "len")(PB:NN K "list")(Sw:NN K "max")(NF:NN K "range")(Eu:NN K "reversed")(Kv:NN K "sorted")(Sv:NN K "str")(ND:NN K "tuple")(Su:NN K "zip"):∃fd:hN,(∀(s:px) (v:sC),BindsTo s fd ⟨[v],[]⟩ [("_law_script",v)])/\∀base:Ui,K.In base->base.Ns TV mg->FnOk l.prog w K mg base CX0 14 fa fd ["_law_script"] (DF K):=by
 have e:=hfa.symm.trans (TM X G Tf);cases e;obtain⟨_,jA⟩:=FE.ok (ps:=["thing"]) @G;obtain⟨_,iR⟩:=IW.ok (ps:=["thing","width"]) @G;obtain⟨_,iQ⟩:=IV.ok (ps:=["thing"]) @G;obtain⟨_,w9⟩:=Rx.ok (ps:=["number"]) @G;obtain⟨_,ki⟩:=IX.ok (ps:=["mask"]) @G;obtain⟨_,iP⟩:=IS.ok (ps:=["places"]) @G;obtain⟨_,o9⟩:=Fw.ok (ps:=["row"]) @G;obtain⟨_,pd⟩:=Fx.ok (ps:=["whole","width","count"]) @G;obtain⟨_,rX⟩:=IU.ok (ps:=["thing","stores","inputs"]) @G;obtain⟨_,jr⟩:=zD.ok (ps:=["inputs","nexts","outs"]) @G;obtain⟨_,uP⟩:=LM.ok (ps:=["pair","state","row"]) @G;obtain⟨_,iO⟩:=AM.ok (ps:=["pairs","state","row"]) @G;obtain⟨_,dc⟩:=rp.ok (ps:=["self","inputs","nexts","outs"]) @G;obtain⟨_,aQ⟩:=uB.ok (ps:=["self"]) @G;obtain⟨_,bW⟩:=sY.ok (ps:=["self"]) @G;obtain⟨_,bC⟩:=n0.ok (ps:=["self","state"]) @G;obtain⟨_,cA⟩:=x4.ok (ps:=["self","state","row"]) @G;obtain⟨_,d3⟩:=uA.ok (ps:=["self","rows","state"]) @G;have g6:=O5 (st:=fJ) zI xR z7 qT;have b_Machine_run:=g6.binds (ps:=["self","rows","state"]) (ds:=[]) λ_ _ _ _ _ _ _ us hl=>match us,hl with | [_,_,_],_=>⟨_,rfl,rfl⟩
 have mT:=g6.binds (ps:=["self","rows","state"]) (ds:=[.int 0 pL]) λ_ _ _ _ _ _ _ us hl=>match us,(show us.length=2 by simpa using hl) with | [_,_],_=>⟨_,rfl,rfl⟩
 obtain⟨_,c7⟩:=uC.ok (ps:=["self","which","turns"]) @G;obtain⟨_,eg⟩:=x5.ok (ps:=["self","mask"]) @G;obtain⟨_,d0⟩:=uy.ok (ps:=["self","rows"]) @G;obtain⟨_,dC⟩:=wj.ok (ps:=["self","mask"]) @G;obtain⟨_,kl⟩:=CF.ok (ps:=["self","place","row"]) @G;obtain⟨_,fG⟩:=wk.ok (ps:=["self","bit"]) @G;obtain⟨_,yK⟩:=Ry.ok (ps:=["rows"]) @G;obtain⟨_,l6⟩:=IM.ok (ps:=["rows","wish"]) @G;obtain⟨_,Af⟩:=OU.ok (ps:=["machine","turns"]) @G;obtain⟨_,rV⟩:=IQ.ok (ps:=["machine","places","turns"]) @G;obtain⟨_,kJ⟩:=AN.ok (ps:=["machine"]) @G;obtain⟨_,iA⟩:=FC.ok (ps:=["mask","others"]) @G;obtain⟨_,fA⟩:=wa.ok (ps:=["pair","states","seen"]) @G;obtain⟨_,Ag⟩:=OV.ok (ps:=["machine"]) @G;obtain⟨_,gF⟩:=Cz.ok (ps:=["one","other","pair","row"]) @G;obtain⟨_,iH⟩:=xS.ok (ps:=["one","other"]) @G;obtain⟨_,gZ⟩:=wc.ok (ps:=["one","other"]) @G;obtain⟨_,ph⟩:=FG.ok (ps:=["one","other"]) @G;obtain⟨_,cW⟩:=we.ok (ps:=["self","name"]) @G;obtain⟨_,fP⟩:=sZ.ok (ps:=["self","name","number"]) @G;obtain⟨_,iS⟩:=AS.ok (ps:=["self","known","row","state"]) @G;obtain⟨_,g7⟩:=zJ.ok (ps:=["self","known"]) @G;obtain⟨_,eM⟩:=ro.ok (ps:=["self","name","wires"]) @G;obtain⟨_,g5⟩:=zG.ok (ps:=["self","known","row","state"]) @G;obtain⟨_,fZ⟩:=xT.ok (ps:=["self","known"]) @G;obtain⟨_,dn⟩:=pF.ok (ps:=["self","name","wire","number"]) @G;obtain⟨_,fE⟩:=wg.ok (ps:=["self","known","row","state"]) @G;obtain⟨_,dZ⟩:=ux.ok (ps:=["self","known"]) @G;obtain⟨_,jt⟩:=zE.ok (ps:=["ins","sums","stores","outs"]) @G;obtain⟨_,ju⟩:=zF.ok (ps:=["names"]) @G;obtain⟨_,fB⟩:=AO.ok (ps:=["wire","known"]) @G;obtain⟨_,jq⟩:=zC.ok (ps:=["sums","stores","outs","known"]) @G;obtain⟨_,gY⟩:=v8.ok (ps:=["ins","sums","stores"]) @G;obtain⟨_,w8⟩:=OT.ok (ps:=["row","waiting"]) @G;obtain⟨_,rW⟩:=IR.ok (ps:=["sums"]) @G;obtain⟨_,d9⟩:=xZ.ok (ps:=["self","ins","sums","stores","outs"]) @G;obtain⟨_,dj⟩:=xX.ok (ps:=["self"]) @G;obtain⟨_,gc⟩:=xW.ok (ps:=["self"]) @G;obtain⟨_,cF⟩:=uz.ok (ps:=["self"]) @G;obtain⟨_,cX⟩:=wm.ok (ps:=["self"]) @G;obtain⟨_,cy⟩:=zH.ok (ps:=["self","name"]) @G;obtain⟨_,cb⟩:=qt.ok (ps:=["self"]) @G;obtain⟨_,pe⟩:=FF.ok (ps:=["words"]) @G;obtain⟨_,rT⟩:=IP.ok (ps:=["text"]) @G;obtain⟨_,md⟩:=FA.ok (ps:=["text"]) @G;obtain⟨_,l9⟩:=Fz.ok (ps:=["net"]) @G;obtain⟨_,mP⟩:=Cy.ok (ps:=["net","row","state"]) @G;obtain⟨_,oF⟩:=IT.ok (ps:=["wires","bits"]) @G;obtain⟨_,iI⟩:=xV.ok (ps:=["self","net"]) @G;obtain⟨_,mf⟩:=FL.ok (ps:=["self","row"]) @G;obtain⟨_,gb⟩:=xU.ok (ps:=["self"]) @G;obtain⟨_,gO⟩:=AQ.ok (ps:=["net","rows"]) @G;obtain⟨_,Ah⟩:=OW.ok (ps:=["net"]) @G;obtain⟨_,lW⟩:=Fy.ok (ps:=["net"]) @G;obtain⟨_,iB⟩:=FD.ok (ps:=["letter","count"]) @G;obtain⟨_,mQ⟩:=CA.ok (ps:=["name","pair"]) @G;obtain⟨_,uO⟩:=LL.ok (ps:=["machine"]) @G;obtain⟨_,iC⟩:=CD.ok (ps:=["_law_script","_law_k"]) @G;obtain⟨_,bU⟩:=FK.ok (ps:=["_law_cell_here","_law_k"]) @G;obtain⟨_,gG⟩:=CC.ok (ps:=["_law_cell_here","_law_k"]) @G;obtain⟨_,kK⟩:=AR.ok (ps:=["_law_cell_here","_law_start","_law_names","_law_digits"]) @G;obtain⟨_,pj⟩:=FJ.ok (ps:=["_law_script","_law_start","_law_most"]) @G;obtain⟨_,me⟩:=FH.ok (ps:=["_law_lists","_law_choice","_law_many"]) @G;obtain⟨_,kj⟩:=CB.ok (ps:=["_law_net_one","_law_rows","_law_looks"]) @G;have Mp:=M7 (st:=B1) S9 Td S3;have b_law:=Mp.binds (ps:=["_law_script"]) λ_ _ _ _ _ _ us hl=>match us,hl with | [_],_=>rfl
 have T:Tx K mg ⟨fN,_,iM,_,kc,_,wD,_,ke,_,j9,_,h9,_,ia,_,kb,_,dM,_,mL,_,fj,_,bw,_,bQ,_,bE,_,aZ,_,cv,_,bP,_,cw,_,_,bR,_,cx,_,bN,_,b5,_,dP,_,b7,_,wF,_,j5,_,qz,_,j7,_,fk,_,ij,_,cU,_,qC,_,gv,_,dh,_,cV,_,iq,_,cB,_,bF,_,c9,_,cK,_,bu,_,cI,_,cf,_,be,_,b4,_,bM,_,dN,_,dO,_,fo,_,dJ,_,cT,_,qy,_,j8,_,cu,_,cq,_,cn,_,bO,_,b8,_,cJ,_,bj,_,ip,_,j6,_,ig,_,ie,_,gu,_,ka,_,ck,_,fO,_,cj,_,fq,_,qD,_,ib,_,il,_,gw,_,mK,_,gE,_,iw,_,gD,_,fw,_,iu,_,ir,_,gC,_,fa,_,ar,bG,rO,bc,aT,aB,cZ,fY,tF,wW,dY,jz,_,_,_,_,_,_,_,_,_,_,_⟩:=⟨jA,TM X G Gk,iR,TM X G J9,iQ,TM X G J8,w9,TM X G Sf,ki,TM X G Ka,iP,TM X G J5,o9,TM X G Gd,pd,TM X G Ge,rX,TM X G J7,jr,TM X G z9,uP,TM X G Mm,iO,TM X G BA,dc,aQ,bW,bC,cA,d3,g6,mT,⟨_,rfl⟩,c7,eg,d0,dC,kl,fG,yK,TM X G Sg,l6,TM X G J1,Af,TM X G Pi,rV,TM X G J3,kJ,TM X G BB,iA,TM X G Gi,fA,TM X G w4,Ag,TM X G Pj,gF,TM X G C2,iH,TM X G yd,gZ,TM X G w6,ph,TM X G Gp,cW,fP,iS,g7,eM,g5,fZ,dn,fE,dZ,jt,TM X G Aa,ju,TM X G Ab,fB,TM X G BC,jq,TM X G z8,gY,TM X G wZ,w8,TM X G Ph,rW,TM X G J4,d9,dj,gc,cF,cX,cy,cb,pe,TM X G Gm,rT,TM X G J2,md,TM X G Gh,l9,TM X G Gg,mP,TM X G C1,oF,TM X G J6,iI,mf,gb,gO,TM X G BD,Ah,TM X G Pk,lW,TM X G Gf,iB,TM X G Gj,mQ,TM X G C3,uO,TM X G Ml,iC,TM X G C6,bU,TM X G Gs,gG,TM X G C5,kK,TM X G BE,pj,TM X G Gr,me,TM X G Gq,kj,TM X G C4,Mp,TM X G Kc,⟨Fb,E7,E5,E3⟩,⟨F7,F5,F3,F1⟩,⟨sW,sR,aQ.1.2⟩,⟨rn,rm,bW.1.2⟩,⟨ny,nv,bC.1.2⟩,⟨vT,vN,cA.1.2⟩,⟨sV,sQ,d3.1.2⟩,⟨xP,xK,qT⟩,⟨sX,sS,c7.1.2⟩,⟨vU,vO,eg.1.2⟩,uf,vD,xE,TM X G Pl,⟨Ls,Lr,Lq,Lp⟩,⟨Md,Mc,Mb,Ma⟩,⟨uu,um,dC.1.2⟩,⟨AL,AK,kl.1.2⟩,⟨uv,uo,fG.1.2⟩,xD,qm,qZ,TM X G Sh,TM X G Mn,⟨HN,HM,HL,HK⟩,⟨JE,JD,JC,JB⟩,⟨zB,zA,iS.1.2⟩,⟨xQ,xM,g7.1.2⟩,zk,vE,TM X G Kb,⟨E8,E6,E4,E1⟩,⟨F6,F4,F2,F0⟩,⟨xN,xI,g5.1.2⟩,⟨vP,vJ,fZ.1.2⟩,xC,vB,TM X G C7,⟨Ay,Ax,Aw,Av⟩,⟨Ba,A9,A8,A7⟩,⟨ur,uk,fE.1.2⟩,⟨sT,sO,dZ.1.2⟩,ue,qY,ud,TM X G Th,⟨QW,QU,QS,QQ⟩,⟨RX,RV,RT,RQ⟩,⟨vS,vM,dj.1.2⟩,⟨vR,vL,gc.1.2⟩,⟨sU,sP,cF.1.2⟩,⟨uw,uq,cX.1.2⟩,⟨xO,xJ,cy.1.2⟩,⟨pE,pD,cb.1.2⟩,zj,Iv,sH,Fp,vC,Fo,TM X G Tg,⟨QV,QT,QR,QP⟩,⟨RW,RU,RS,RP⟩,⟨Cu,Ct,mf.1.2⟩,⟨vQ,vK,gb.1.2⟩,Fn,Ci,Fl,Iu,⟨tU,tT,tS,@F,cW.1.2⟩,TM X G Ke,jB,TM X G Gv,gI,TM X G Kd,TM X G ye,TM X G Ac,TM X G Gu,TM X G pI,TM X G uE,TM X G nE,TM X G rQ,TM X G C8,TM X G BG,TM X G BF,UM X G SC,UM X G SB,UM X G PF,UM X G PD,UM X G Kw,UM X G BJ,UM X G SA,UM X G Ai,UM X G Sy,UM X G PB,UM X G Sw,UM X G NF,UM X G Eu,UM X G Kv,UM X G Sv,UM X G ND,UM X G Su⟩;exact⟨_,λs v=> .of_eq rfl,λbase _ _=>Re T⟩
open PySem.W in
theorem walk {l:ZM} {q:Tv} {loose:B'} {XP:F'->Ui->Prop} {YP:U1->Ui->Prop} {d:DefRec} {K:Params->Frag} (hn:l.most=a' 63) (hdf:d.params.defaults=[])
  (hY:∀(w:U1) (h:Ui),YP w h->(K w.params).In h)
  (F:∀(w:U1) (mg:F') (fa:eH) (h:Ui),(K w.params).In h->h.Ns TV mg->mg d.name=a' (.ref fa)->
   ∃fd:hN,(∀(s:px) (u:sC),BindsTo s fd ⟨[u],[]⟩ [("_law_script",u)])/\∀base:Ui,(K w.params).In base->base.Ns TV mg->FnOk l.prog w (K w.params) mg base CX0 14 fa fd ["_law_script"] (DF (K w.params))):
  WalkO q loose XP YP l.row.toRowW d [] (λf vs=>Zx f vs):=
 L2.walk_of (n:=63) (k:=14) (x:="_law_script") (CX:=λ_=>CX0) (sp:=λw=>DF (K w.params)) hn @C hdf ⟨rfl,@C,@C⟩ hY F (λ_ _ a ns hl _ hS=>⟨a,ns,rfl,hS,hl,λ_=>rfl⟩) λ_ _ _ _ _ z=>z
end My
structure PySem.W.Fast:Prop where(tw10020301902437582683 tw10025623016212559785 tw10044553570382181319 tw10052938908043554945 tw10066703087709515233 tw10093473050855903969 tw10105209602715426008 tw1013812416326593209 tw1016859035760214532 tw1018373011226073267 tw1023470632664279511 tw10271830257729745101 tw10290524880624383707 tw10296366116536215512 tw10395007700378906963 tw1040159621695616380 tw10431448420701406051 tw10466298291649675013 tw10524637673769057624 tw10524895093674982417 tw10545941435334665429 tw10555514381304064840 tw10560982543430856522 tw10567419576679295956 tw10582174628455711156 tw10632691159792927823 tw10679271933887090950 tw10718792740066032037 tw1073514824609340240 tw10769575246246734544 tw10827410800057809603 tw10864764263640479590 tw10897230997404476906 tw110070317153845203 tw11015342969012432437 tw110255757380480476 tw11050296100065429983 tw11096743564962213798 tw11112953504730900941 tw11119183083683209555 tw11128184957901271726 tw11169116666309815484 tw11219310103516382383 tw11227767862808318164 tw11271925004034446504 tw11281437486049112072 tw11286720488552809636 tw11318241200048753727 tw1132032056161085633 tw11329132227337431652 tw11405865924072003802 tw11532347428484370461 tw11532585289460619900 tw1155018773760732168 tw11598300301984251265 tw11600799562379229108 tw11625778998146076957 tw11654387984589535954 tw11697921683088051260 tw11701872306730041285 tw11708891019674868251 tw11765399149442730378 tw11780911566235778616 tw11781647719284429249 tw1180630512230662753 tw11873431723034623241 tw11878119013554659596 tw11892375063815950121 tw11931842328176808099 tw11957273713450226651 tw11972751379910592804 tw12126181014771919387 tw122775685697135565 tw12285115989418496029 tw1229004582997487025 tw12292851018172940454 tw1229578513952605291 tw12297473803927852488 tw12344067112021744432 tw12359656819037306292 tw12361321271451399091 tw12435216365294729839 tw12454474129896787565 tw12456884858604800918 tw12461917342667783318 tw12467782753271533372 tw12493822767904396032 tw12522504967544735586 tw12524504486053328570 tw12557910821232844616 tw12592841816147975040 tw12646895197687802476 tw12652562616181608231 tw12669627932958437036 tw12684659952654220780 tw12712715511653712358 tw12762592334178150238 tw12766345845160213762 tw12822779464976108666 tw12867778084730444507 tw12912459514450685111 tw12913353910473166252 tw12993709374454562318 tw13001547956061292928 tw13004038590506766996 tw13072790464931975063 tw13110466872044969130 tw13132577403184826906 tw13148896391227844400 tw13210139086374864560 tw13240626423906221187 tw1325338314280498829 tw13274683659963242002 tw13316997675751510936 tw13330562084773702554 tw13360419355979329491 tw13372430510267461196 tw1337761085234957763 tw13384081144350426607 tw1345900467690745352 tw13499022340959229165 tw13504789491175493908 tw13606759442628817462 tw13645699464749286278 tw13669662893676138198 tw1368892148345238045 tw1373309123180340919 tw13739316970191035736 tw13771782882395418300 tw13800659209248179707 tw13815943728325997127 tw13835009533735018100 tw1384805715771500695 tw13848590777453242059 tw13877171710812360465 tw13886758931143592829 tw13895143595880667338 tw13925072421479555359 tw13934002807273131058 tw13943446764907628971 tw13982937572790696344 tw14007232061992141101 tw14170009432618760167 tw14192080825300849333 tw14214393596585694721 tw14222543550647909881 tw1427917822649551419 tw14281163450468017001 tw14335672229849999120 tw14354867417901474077 tw14358766515902715328 tw14360512749610530787 tw14483976979151748216 tw14552566433639646106 tw14581195409704877614 tw14605543008938849229 tw14608613634886274955 tw14638111693875231416 tw14652099642122569096 tw14656366385977548181 tw14664780239365410798 tw147245076729257111 tw14732972356497584528 tw14814584856283518929 tw14819743172978874445 tw14854644347166658567 tw14869898002528829137 tw14882549177801539928 tw14939148541668753176 tw15003293599072105210 tw15033753691254164924 tw15140276683184645046 tw15147629461583618537 tw15152353766825519154 tw15174678324973617231 tw1521635154802693500 tw1521711794018106504 tw15239005512656384216 tw15258449699910469835 tw15283171854736989999 tw15327215495920204601 tw15348214064297183550 tw15357797603715897497 tw15362972000314598681 tw15428249668940103507 tw15429798403554485714 tw15472910728011750199 tw1551210169298398733 tw15524683813222018062 tw15551068582250807930 tw15553488230861111938 tw15562751953493256486 tw15586671661120501407 tw15590810587924525697 tw1563897079003757817 tw15643883485487970588 tw15668725809432439343 tw15683184386171246242 tw15702089779112015966 tw15727508395689657252 tw15754635125197230732 tw15768271817336187100 tw15810855597823888579 tw15827372291436399069 tw15865776908158915433 tw15875254864364178821 tw15885585643102753581 tw15917041221755897357 tw15928495380648159522 tw16009272201545370403 tw16048239466540763763 tw16136727568971971034 tw1616027933737139522 tw16180563684898506153 tw16246924387665942268 tw16277664109764535275 tw16319193409478644069 tw1633449322729568490 tw16349050752819981613 tw16349906394179918722 tw16367587443236623942 tw16438329810934533387 tw16527267993629571612 tw16533650433046931926 tw16546336587950922538 tw16575532704775609518 tw16583369767554377985 tw16592917166999044008 tw16595204783196997543 tw16624771709945598912 tw16643437852161315122 tw16655916616459771690 tw16705822550529750527 tw16723040448850767695 tw16743703041769281813 tw16787521468305602074 tw16789063212650935775 tw16795819322433107548 tw16812645602138319804 tw16819285313709002769 tw16830482889691168890 tw16831682757446181371 tw16860280990173623868 tw16886858687174364851 tw169015413293898259 tw16907092712845675108 tw16937518440982419083 tw16949351096629183072 tw16949896717166566922 tw16989020099714315291 tw16989192008981254495 tw17048363450822044489 tw1712883310876143475 tw1717611684157210245 tw17208257019702901819 tw17246120106891546358 tw17248066057365399832 tw17271817304814535371 tw17273014447761620505 tw17321806660043840741 tw1733657459961490457 tw1740005450965426603 tw17462984734428350086 tw17501994641350293840 tw17504309915289533861 tw17520049463844660786 tw17529185403832023950 tw17547134887238184321 tw17551251551417637560 tw17579516916973309482 tw17600320004953130982 tw17633693295629712049 tw17636683786344382502 tw17650654234429884796 tw1768492055651991997 tw17731337780711414107 tw17814846665994388598 tw17864595589092247774 tw17927588224733837246 tw17960576636336949435 tw17967782792452695377 tw18069702774338066935 tw18108016652880758380 tw18112857924498848895 tw18128891415769358124 tw18147429130712947915 tw18165297858534748374 tw18168967917230102131 tw18177329356810261394 tw1819360533917982197 tw18195276042130319970 tw18205859565490181621 tw18211208472747192837 tw18274956539123986545 tw18278403159973551031 tw1827925247569001133 tw18303281883903488122 tw183309617848794015 tw18337300608596994746 tw18338829897740754760 tw18339034603349826596 tw1839128217005198520 tw18407760245214054867 tw18426104664536000108 tw185193257489704538 tw1852499127557184760 tw1862247253254913869 tw1929609007792579065 tw1943529305618915170 tw1958784020326301347 tw2024501296275966067 tw2052540840671366239 tw2157837182892645063 tw2166780784301977924 tw2189700714671709931 tw2221866562997499676 tw2221996723894204653 tw2307806578835862559 tw2370448783498859384 tw2388029314820684731 tw2434249413204310109 tw2525019447953903604 tw2550558553314146141 tw2562928606682432385 tw2579376366265774308 tw2590822712946302985 tw2594695184628107320 tw261051237686875270 tw2612490939324661615 tw2638096318472674647 tw2648816511919705235 tw2652119886339196430 tw2658182845356959800 tw2660543434675288568 tw2698496017961097648 tw2719206357466410860 tw2808438011509177987 tw2816464713165210236 tw2854815120570827311 tw2859899191874184814 tw2892465520290063256 tw2915049415565538377 tw291801312203380786 tw2978224429638121672 tw2982550672621392237 tw3034507105472450068 tw3053391688928736417 tw305398568839748660 tw3055854814446114484 tw3058606334641008022 tw3095976934985915371 tw3097942062579281256 tw3127131975492888862 tw3127782583408852033 tw3135975922781967189 tw3141265613425307114 tw3153738511178798704 tw3153752412396741945 tw3199645206096831255 tw3223305693963173520 tw3268122428878110823 tw3301430450639995479 tw3316128589737663824 tw3344409114750299915 tw3363795703464520348 tw3434435286325360826 tw3434539589274598054 tw3454986475150814829 tw3492509341660290579 tw3496859140508353322 tw3509822622893652664 tw3520361633052715195 tw3538176923475124308 tw3719166820414279976 tw3738978063680552345 tw3777740477789515131 tw3824411129100068007 tw3838547748198995373 tw3862346009453885631 tw3887720727593858166 tw3888478808583465960 tw3895356800333979323 tw3902765887403478822 tw3914703702017412525 tw394017475985641543 tw3942577062653012562 tw3946296604508650345 tw3958248070598870251 tw3971384064013075134 tw3972173789541093399 tw3984835743438456603 tw4007698934745010058 tw4008991761466899833 tw40225727751797311 tw4035237333865334632 tw4037406459131398788 tw4065283131962145470 tw4083607574371335954 tw4100821267254728808 tw4110090457283638347 tw4113968013224770205 tw4155834869882662846 tw4178286397780759962 tw4204419234547470425 tw4209044929563165009 tw4258342448372694061 tw4339817682415124009 tw4402274798374467267 tw4435238667439270384 tw4485088468023137309 tw4499383392182490658 tw4522793372189199823 tw4534407593050324643 tw4566729828420111224 tw4573784354990997087 tw4587982518660426058 tw4628693523190947799 tw4647829675347977202 tw4650876033498274004 tw4659944727250800905 tw4666561743385648005 tw4681161090264167762 tw46994715243905522 tw4699684413802027877 tw4716598196463110396 tw4716907101931264242 tw4753844167208565278 tw4785921717743814687 tw4788579984102714712 tw4799145781321400272 tw4831800470081628351 tw4839932591048724861 tw4854971369294487041 tw4913126109731501382 tw4936905646538295832 tw4962662588804679276 tw4995460543631136104 tw5010292016515022354 tw5050107922952762652 tw5072901331662191700 tw5148400361317489559 tw5156272379373615882 tw5174367502345725354 tw5222196951537981029 tw5224012394541495057 tw5225193240345593515 tw5240673664533385994 tw5272514051320610837 tw5273742282624387680 tw5330218756625174743 tw5343308807311082700 tw5428367467766398484 tw5437214953223442957 tw5457672233560031030 tw546977206957870307 tw5484820918356500488 tw549024049191565285 tw5492154354913781393 tw5543683863582559603 tw5561673598464573629 tw5590886690331400120 tw5610758636988559724 tw5644529756609386645 tw5660824750813312172 tw5674033204560305774 tw5693814242741769743 tw5695595866625166947 tw5723386713909845720 tw572602127045562977 tw5758742647517237080 tw575927258917886006 tw5762112314522790696 tw5767658676751437616 tw5804033236920983962 tw5912643265372554510 tw5921938165960389926 tw603307212038837457 tw6076779088737451325 tw6226957630043852606 tw6263968603998561259 tw6330115068201509655 tw6347876206901391757 tw6361788632387264213 tw6374569428836254672 tw6383617731634089342 tw6387250715312179610 tw6390045587032598208 tw6391476323196364921 tw63983284444987718 tw6426693070961253375 tw6477291865596991431 tw6479302327361770747 tw6498362244613258411 tw6499171312827501320 tw6553254640172562080 tw655734993882867689 tw6562020599539264209 tw6568414221273874493 tw6596303520140161374 tw6599223523458301878 tw6600552105117072952 tw6618212357701496960 tw6628309197118626509 tw6634606507450054023 tw6689264109942864676 tw6689395649772178326 tw6729290165540325244 tw677320280900378591 tw6896766086293903099 tw6899396674657372725 tw6901883748247632120 tw6958779265960152496 tw6962846384674224109 tw6991338599641285283 tw7016311946446356178 tw7026530840932887622 tw7053702889202519761 tw705529588150996082 tw7057912920237071203 tw7084134756233593463 tw7176031730607293252 tw7202918852091056668 tw7234927986624315775 tw7330290050122016119 tw7348606415152784766 tw7381644298388506560 tw7396142616776990468 tw7401356564529820756 tw7447525150064199302 tw7497137973548937979 tw7565430753713186824 tw7613091050251824151 tw7626526622748314411 tw7668117122510165374 tw7673831029522584382 tw7686484641332448778 tw7728032543299261409 tw7740396669319797791 tw7788984458608807873 tw7791504086022255516 tw7841542627397478463 tw7857686590721228676 tw7886657956118287675 tw7903315930991337182 tw7918925959712235129 tw7930633734267691779 tw7932774457683813310 tw7941167557659541318 tw7950551181640751020 tw796808833154101025 tw8018632086115276183 tw8021222275825264615 tw8029736370338118861 tw8091343680719937995 tw8095492557132157781 tw8102324199496121032 tw8107519595609737182 tw8109217044919630680 tw8185823044087150383 tw8210138714996375207 tw8223847353619718347 tw829763724337868586 tw8305956115459715960 tw8317844682270317653 tw8432465077710341220 tw8473065960306783050 tw8492161544630844336 tw8534093434926770994 tw8549713570577371017 tw8600988390140647532 tw8613060841071118230 tw8618834802734989481 tw8625227917485582860 tw8637465028041898114 tw8646869800726579157 tw8679120767447773202 tw8697020842869833263 tw8701104587251545675 tw8731265713354563529 tw8791864305283370194 tw8815728740573989033 tw8838083395303268916 tw8856446973552229753 tw8871426064412486668 tw8874657149588847988 tw8932778926073418173 tw8945931562359229002 tw8972465459475864602 tw9018749417005472926 tw9027376529340532525 tw9107478717053279540 tw9109683043328553973 tw9140251449828593229 tw918158384075971434 tw9189652343254320863 tw9227841535725608472 tw9231605048358454125 tw9244775253609600513 tw9250725694890837069 tw9251035097112950989 tw9295607191255573326 tw9306427632688538856 tw931893769756801198 tw9327492713209608002 tw9361074614184552151 tw9367730325790992220 tw9497937306256817603 tw9509486761580893976 tw9523816766169829296 tw9528973873386079363 tw9607514316124297242 tw9610405703504254388 tw9640740581308246658 tw9654045596705892862 tw9690302112969150205 tw9713091986491364179 tw9762967071234805477 tw9848762742836068515 tw9895766904120282358 tw989595214666161043 tw9902682690898988513 tw9978529684270575282 tw9990228433533235116 tw9993616126976110630:True)
open PySem PySem.W PyProof.Rows
set_option maxRecDepth 100000 in
set_option maxHeartbeats 0 in
theorem PySem.Challenge.cw_sumwires_k92_whole_text_to_the_least_holds : PySem.Challenge.rw_sumwires_k92_whole_text_to_the_least.Holds := by
 w_on;o_law;k_head;(case hw=>w_witness2)
 k_fill
 refine My.walk (l:=PySem.Challenge.rw_sumwires_k92_whole_text_to_the_least) rfl rfl (λw h Y=>PySem.W.kIn_of Y) ?F
 case F=>
  intro w mg fa h KX G hmg;refine' My.all_mk KX G hmg _ _ _ _ _ _ _ _ _ _ _ _ _ _ _ _ _ _ _ _ _ _ _ _ _ _ _ _ _ _ _ _ _ _ _ _ _ _ _ _ _ _ _ _ _ _ _ _ _ _ _ _ _ _ _ _ _ _ _ _ _ _ _ _ _ _ _ _ _ _ _ _ _ _ _ _ _ _ _ _ _ _ _ _ _ _ _ _ _ _ _ _ _ _ _ _ _ _ _ _ _ _ _ _ _ _ _ _ _ _ _ _ _ _ _ _ _ _ _ _ _ _ _ _ _ _ _ _ _ _ _ _ _ _ _ _ _ _ _ _ _ _ _ _ _ _ _ _ _ _ _ _ _ _ _ _ _ _ _ _ _ _ _ _ _ _ _ _ _ _ _ _ _ _ _ _ _ _ _ _ _ _ _ _ _ _ _ _ _ _ _ _ _ _ _ _ _ _ _ _ _ _ _ _ _ _ _ _ _ _ _ _ _ _ _ _ _ _ _ _ _ _ _ _ _ _ _ _ _ _ _ _ _ _ _ _ _ _ _ _ _ _ _ _ _ _ _ _ _ _ _ _ _ _ _ _ _ _ _ _ _ _ _ _ _ _ _ _ _ _ _ _ _ _ _ _ _ _ _ _ _ _ _ _ _ _ _ _ _ _ _ _ _ _ _ _ _ _ _ _ _ _ _ _ _ _ _ _ _ _ _ _ _ _ ?jB ?gI _ _ _ _ _ _ _ _ _ _ _ _ _ _ _ _ _ _ _ _ _ _ _ _ _ _ _ _ _ _ _
  any_goals ((with_reducible show _=_);k_is)
  any_goals (refine' My.FR.mk ?u ?v ?w;(case u=>k_is);(case v=>k_is);(case w=>k_is))
  (case jB=>k_exc)
  (case gI=>k_exc)
