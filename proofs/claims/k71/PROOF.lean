import PyProof.Rows.All
import Wide.FinOn
import Lean
import KE.KDictOf
import KE.KFromBytes
import KE.KIsAll
import KE.KItem
import KE.KItemsList
import KE.KRevIter
import PySem.Challenge.RW_sumwires_k71_told_back_or_never
section
variable {α β γ δ ε ζ η θ ι : Sort _}{G:Prop}
theorem exx2{P:α→β→Prop}(h:∃a b,P a b)(k:∀a b,P a b→G):G:=h.elim fun a h=>Exists.elim h (k a)
theorem eyy2{P:α→β→Prop}(a:α)(b:β)(h:P a b):∃a b,P a b:=⟨a,b,h⟩
theorem exx3{P:α→β→γ→Prop}(h:∃a b c,P a b c)(k:∀a b c,P a b c→G):G:=h.elim fun a h=>exx2 h (k a)
theorem eyy3{P:α→β→γ→Prop}(a:α)(b:β)(c:γ)(h:P a b c):∃a b c,P a b c:=⟨a,b,c,h⟩
theorem exx4{P:α→β→γ→δ→Prop}(h:∃a b c d,P a b c d)(k:∀a b c d,P a b c d→G):G:=h.elim fun a h=>exx3 h (k a)
theorem eyy4{P:α→β→γ→δ→Prop}(a:α)(b:β)(c:γ)(d:δ)(h:P a b c d):∃a b c d,P a b c d:=⟨a,b,c,d,h⟩
theorem exx5{P:α→β→γ→δ→ε→Prop}(h:∃a b c d e,P a b c d e)(k:∀a b c d e,P a b c d e→G):G:=h.elim fun a h=>exx4 h (k a)
theorem eyy5{P:α→β→γ→δ→ε→Prop}(a:α)(b:β)(c:γ)(d:δ)(e:ε)(h:P a b c d e):∃a b c d e,P a b c d e:=⟨a,b,c,d,e,h⟩
theorem exx6{P:α→β→γ→δ→ε→ζ→Prop}(h:∃a b c d e f,P a b c d e f)(k:∀a b c d e f,P a b c d e f→G):G:=h.elim fun a h=>exx5 h (k a)
theorem eyy6{P:α→β→γ→δ→ε→ζ→Prop}(a:α)(b:β)(c:γ)(d:δ)(e:ε)(f:ζ)(h:P a b c d e f):∃a b c d e f,P a b c d e f:=⟨a,b,c,d,e,f,h⟩
theorem exx7{P:α→β→γ→δ→ε→ζ→η→Prop}(h:∃a b c d e f g,P a b c d e f g)(k:∀a b c d e f g,P a b c d e f g→G):G:=h.elim fun a h=>exx6 h (k a)
theorem eyy7{P:α→β→γ→δ→ε→ζ→η→Prop}(a:α)(b:β)(c:γ)(d:δ)(e:ε)(f:ζ)(g:η)(h:P a b c d e f g):∃a b c d e f g,P a b c d e f g:=⟨a,b,c,d,e,f,g,h⟩
theorem exx8{P:α→β→γ→δ→ε→ζ→η→θ→Prop}(h:∃a b c d e f g i,P a b c d e f g i)(k:∀a b c d e f g i,P a b c d e f g i→G):G:=h.elim fun a h=>exx7 h (k a)
theorem eyy8{P:α→β→γ→δ→ε→ζ→η→θ→Prop}(a:α)(b:β)(c:γ)(d:δ)(e:ε)(f:ζ)(g:η)(i:θ)(h:P a b c d e f g i):∃a b c d e f g i,P a b c d e f g i:=⟨a,b,c,d,e,f,g,i,h⟩
theorem exx9{P:α→β→γ→δ→ε→ζ→η→θ→ι→Prop}(h:∃a b c d e f g i j,P a b c d e f g i j)(k:∀a b c d e f g i j,P a b c d e f g i j→G):G:=h.elim fun a h=>exx8 h (k a)
theorem eyy9{P:α→β→γ→δ→ε→ζ→η→θ→ι→Prop}(a:α)(b:β)(c:γ)(d:δ)(e:ε)(f:ζ)(g:η)(i:θ)(j:ι)(h:P a b c d e f g i j):∃a b c d e f g i j,P a b c d e f g i j:=⟨a,b,c,d,e,f,g,i,j,h⟩
end
section
variable {G A B C D E F H I J K L M:Prop}
theorem axx3(h:A∧B∧C)(k:A→B→C→G):G:=k h.1 h.2.1 h.2.2
theorem ayy3(a:A)(b:B)(c:C):A∧B∧C:=⟨a,b,c⟩
theorem axx4(h:A∧B∧C∧D)(k:A→B→C→D→G):G:=axx3 h.2 (k h.1)
theorem ayy4(a:A)(b:B)(c:C)(d:D):A∧B∧C∧D:=⟨a,b,c,d⟩
theorem axx5(h:A∧B∧C∧D∧E)(k:A→B→C→D→E→G):G:=axx4 h.2 (k h.1)
theorem ayy5(a:A)(b:B)(c:C)(d:D)(e:E):A∧B∧C∧D∧E:=⟨a,b,c,d,e⟩
theorem axx6(h:A∧B∧C∧D∧E∧F)(k:A→B→C→D→E→F→G):G:=axx5 h.2 (k h.1)
theorem ayy6(a:A)(b:B)(c:C)(d:D)(e:E)(f:F):A∧B∧C∧D∧E∧F:=⟨a,b,c,d,e,f⟩
theorem axx7(h:A∧B∧C∧D∧E∧F∧H)(k:A→B→C→D→E→F→H→G):G:=axx6 h.2 (k h.1)
theorem ayy7(a:A)(b:B)(c:C)(d:D)(e:E)(f:F)(g:H):A∧B∧C∧D∧E∧F∧H:=⟨a,b,c,d,e,f,g⟩
theorem axx8(h:A∧B∧C∧D∧E∧F∧H∧I)(k:A→B→C→D→E→F→H→I→G):G:=axx7 h.2 (k h.1)
theorem ayy8(a:A)(b:B)(c:C)(d:D)(e:E)(f:F)(g:H)(i:I):A∧B∧C∧D∧E∧F∧H∧I:=⟨a,b,c,d,e,f,g,i⟩
theorem axx9(h:A∧B∧C∧D∧E∧F∧H∧I∧J)(k:A→B→C→D→E→F→H→I→J→G):G:=axx8 h.2 (k h.1)
theorem ayy9(a:A)(b:B)(c:C)(d:D)(e:E)(f:F)(g:H)(i:I)(j:J):A∧B∧C∧D∧E∧F∧H∧I∧J:=⟨a,b,c,d,e,f,g,i,j⟩
theorem axx10(h:A∧B∧C∧D∧E∧F∧H∧I∧J∧K)(k:A→B→C→D→E→F→H→I→J→K→G):G:=axx9 h.2 (k h.1)
theorem ayy10(a:A)(b:B)(c:C)(d:D)(e:E)(f:F)(g:H)(i:I)(j:J)(l:K):A∧B∧C∧D∧E∧F∧H∧I∧J∧K:=⟨a,b,c,d,e,f,g,i,j,l⟩
theorem axx11(h:A∧B∧C∧D∧E∧F∧H∧I∧J∧K∧L)(k:A→B→C→D→E→F→H→I→J→K→L→G):G:=axx10 h.2 (k h.1)
theorem ayy11(a:A)(b:B)(c:C)(d:D)(e:E)(f:F)(g:H)(i:I)(j:J)(l:K)(m:L):A∧B∧C∧D∧E∧F∧H∧I∧J∧K∧L:=⟨a,b,c,d,e,f,g,i,j,l,m⟩
theorem axx12(h:A∧B∧C∧D∧E∧F∧H∧I∧J∧K∧L∧M)(k:A→B→C→D→E→F→H→I→J→K→L→M→G):G:=axx11 h.2 (k h.1)
theorem ayy12(a:A)(b:B)(c:C)(d:D)(e:E)(f:F)(g:H)(i:I)(j:J)(l:K)(m:L)(n:M):A∧B∧C∧D∧E∧F∧H∧I∧J∧K∧L∧M:=⟨a,b,c,d,e,f,g,i,j,l,m,n⟩
end
open Lean in
local macro_rules
  | `(tactic| obtain ⟨$ps,*⟩ := $t:term) => do
    let ps := ps.getElems
    let n := ps.size
    if n < 3 then Macro.throwUnsupported
    -- what a pattern is bound to, and what is done behind
    let one (i : Nat) (p : TSyntax `Lean.Parser.Tactic.rcasesPatLo) : MacroM (TSyntax `term × Option (TSyntax `tactic)) := do
      let z := mkIdent (Name.mkSimple s!"zz{i}")
      match p with
      | `(Lean.Parser.Tactic.rcasesPatLo| $x:ident) => if x.getId == `rfl then return (z, some (← `(tactic| subst $z:term))) else return (x, none)
      | `(Lean.Parser.Tactic.rcasesPatLo| _) => return (← `(_), none)
      | `(Lean.Parser.Tactic.rcasesPatLo| $q:rcasesPatMed) => return (z, some (← `(tactic| obtain $q:rcasesPatMed := $z:term)))
      | _ => Macro.throwUnsupported
    let mut alts : Array (TSyntax ``Lean.Parser.Tactic.tacticSeq) := #[]
    let clr : TSyntax `tactic ← if t.raw.isIdent then `(tactic| try clear $(⟨t.raw⟩):ident) else `(tactic| skip)
    let w := mkIdent `ww
    for ex in [true, false] do
      for k in [0:n] do
        let i := if ex then n - 1 - k else n - k
        if i < 1 || i > (if ex then 9 else 12) || (!ex && i < 3) then continue
        let f := mkIdent (if ex then if i == 1 then `Exists.elim else Name.mkSimple s!"exx{i}" else Name.mkSimple s!"axx{i}")
        let m := if ex then i else if i == n then i else i - 1
        let mut bs : Array (TSyntax `term) := #[]
        let mut post : Array (TSyntax `tactic) := #[]
        for j in [0:m] do
          let (b, q) ← one j ps[j]!
          bs := bs.push b
          if let some q := q then post := post.push q
        if m < n then
          if m + 1 == n then
            let (b, q) ← one m ps[m]!
            bs := bs.push b
            if let some q := q then post := post.push q
          else
            bs := bs.push w
            let rest := ps.extract m n
            post := post.push (← `(tactic| obtain ⟨$rest,*⟩ := $w:term))
        alts := alts.push (← `(Lean.Parser.Tactic.tacticSeq| refine $f $t ?_; $clr:tactic; intro $bs*; $post;*))
    alts := alts.push (← `(Lean.Parser.Tactic.tacticSeq| rcases $t:term with ⟨$ps,*⟩))
    `(tactic| first $[| $alts]*)
open Lean in
local macro_rules
  | `(tactic| rintro $rs:rintroPat*) => do
    let mut out : Array (TSyntax `tactic) := #[]
    let mut any := false
    for r in rs do
      match r with
      | `(rintroPat| $x:ident) => if x.getId == `rfl then out := out.push (← `(tactic| (intro zz; subst zz))) else out := out.push (← `(tactic| intro $x:ident))
      | `(rintroPat| _) => out := out.push (← `(tactic| intro _))
      | `(rintroPat| ⟨$ps,*⟩) =>
        if ps.getElems.size ≥ 3 then any := true
        out := out.push (← `(tactic| (intro zz; obtain ⟨$ps,*⟩ := zz)))
      | _ => Macro.throwUnsupported
    if !any then Macro.throwUnsupported
    `(tactic| ($[$out:tactic];*))
open Lean in
local macro_rules
  | `(tactic| refine ⟨$xs,*⟩) => do
    let xs := xs.getElems
    let n := xs.size
    if n < 4 then Macro.throwUnsupported
    let mut alts : Array (TSyntax ``Lean.Parser.Tactic.tacticSeq) := #[]
    for k in [0:n] do
      let i := n - 1 - k
      if i > 9 then continue
      let ws := xs.extract 0 i
      let rs := xs.extract i n
      let m := n - i
      let cs : List (TSyntax `term) ← if m == 1 then pure [rs[0]!] else if m == 2 || m > 12 then pure [← `(⟨$rs,*⟩)] else pure [← `($(mkIdent (Name.mkSimple s!"ayy{m}")) $rs*), ← `(⟨$rs,*⟩)]
      for c in cs do
        if i == 0 then
          if m > 2 then alts := alts.push (← `(Lean.Parser.Tactic.tacticSeq| refine ($c)))
        else if i == 1 then alts := alts.push (← `(Lean.Parser.Tactic.tacticSeq| refine Exists.intro $(ws[0]!) $c))
        else alts := alts.push (← `(Lean.Parser.Tactic.tacticSeq| refine $(mkIdent (Name.mkSimple s!"eyy{i}")) $ws* $c))
    alts := alts.push (← `(Lean.Parser.Tactic.tacticSeq| refine (⟨$xs,*⟩)))
    `(tactic| first $[| $alts]*)
  | `(tactic| exact ⟨$xs,*⟩) => do
    let xs := xs.getElems
    if xs.size < 4 then Macro.throwUnsupported
    `(tactic| (refine ⟨$xs,*⟩))
open Option renaming some→ak,none→hB,map_eq_some_iff→KY,isSome_map→Pb,getD_some→QC,getD_none→QD
open PySem.W renaming Frag→aS,findIn→Kh,mg_of→L8,fnOf→Li,keepIn→Lj,mroIn→Lw,emptyDict→LL,mg_none_of→LQ,instObj→LZ,specialIn→Mp,codeIn→Mz,callWith_K→NG,plainGet→NZ,isClsIn→O6,methodCall_KW→O7,lookIn→Ol,kitOne→Om,plainGet_of→Ox,excIn→OA,isFn→OT,methodObj→OU,hasDictIn→OV,handedIn→P2,takesIn→Pj,takerIn→Pk,typeIn→Pw,cellsFrom_some→Q7,plainOver→QK,readsIn→QY,makesIn→QZ,findCls→R1,OpenLaw→R7,nsIn→RF
open PySem renaming wpAny_bind→cc,Addr→gn,wpAny_pure→hF,Value→ia,Shared→ib,wpAny→ka,sizeLine→lx,FuncData→mu,model→oD,starEach→px,Program→qc,sizeLine_eq→qq,World→y3,boot_len→Kd,Heap→Ke,wpAny_field→Kg,Around→Kj,Expr→Ko,Str→Kz,wpAny_newObj_type→KR,mem_of_lookup→KZ,wpAny_call_entry→L1,mainGlobals→La,Value→Ld,wpAny_holding→Le,wpAny_callSpecial?_slot→Lm,wpAny_seqItems→Lv,codeAny_builtin→Lx,wpAny_truthy_bool→Mb,wpAny_pyIter_enum→Mc,Scope→Mj,wpAny_setField→Ml,wpAny_mono→Mt,wpAny_setField_rec→MB,wpAny_nextOf_list_item→MC,Spec→MF,wpAny_passesOwn→MG,wpAny_pyIter_list→MP,wpAny_pyIter_zip→MX,Stmt→N9,wpAny_Call_Name_kw→Nc,codeAny_mono→Nq,builtinLookup_eq_fast→NF,wpAny_updateSeq→NR,wpAny_loadPart'→NS,wpAny_pyIter_tuple→O3,tupleKind_room_in1→O4,wpAny_setState_of→Oc,wpAny_isInstance→Ov,wpAny_rule→OG,wpAny_specialOf→OO,wpAny_execs_nil→OP,typeLookup_type→OQ,wpAny_of_eq→P1,Obj→P8,Str→Pf,wpAny_onRaise→Po,wpAny_newList→Pp,wpAny_attempt→Pq,plainId_quiet→Pr,Addr→PL,wpAny_execs_cons→Q5,wpAny_askSetting→Q6,wpAny_letGo→Qd,Within→Ql,Shared→Qm,wpAny_call→Qw,intKind_is→Qx,call_meets→Qy,wpAny_runValue→Qz,isSubtype_type→QA,isSubtype_stop→QB,wpAny_standAt→QP,signature?_of→QQ,call→QS,wpAny_comprehension_free→QU,wpAny_typeOf→R8,seqIndex_neg→R9,wpAny_nextOf_list_end→Rq,wpAny_isTrue_Compare1→Rr,seqIndex_of→RB,layNew_perm→RC,wpAny_setEntries_of→RL,call_enumerate_list→RM,wpAny_load→RV,wpAny_Name→RW,typeIs_int→RX,wpAny_pyIter_slot→S3,wpAny_assign_Name→S4
open List renaming length_map→dt,getD_eq_getElem?_getD→eh,getElem?_eq_some_iff→eH,getElem?_eq_getElem→fy,replicate→gB,length_append→hC,map_append→hH,mem_singleton→hL,mem_of_getElem?→hQ,mem_cons_self→kb,mem_cons_of_mem→ky,getElem?_map→lz,range→lA,mem_append_right→nv,mem_map→oi,mem_append→oT,mem_cons→qn,mem_append_left→qB,getElem?_append_left→u',getElem?_append_right→vr,size_toArray→vu,length_replicate→wh,length_range→wq,Nodup→y',take_length→z9,length_cons→za,length_singleton→Kb,not_mem_nil→Ks,length_take→Kt,mem_range→Kw,map_cons→KF,pairwise_iff_getElem→KG,mem_iff_getElem→KW,eq_of_mem_replicate→L6,map_map→Lc,getElem?_eq_none→Lg,range_succ→LB,mem_filter→LC,append_nil→LD,foldl_append→LS,getElem_mem→LU,filter_append→LV,mem_iff_getElem?→LW,map_congr_left→LY,zipWith→M0,replicate_succ→Mh,eq_nil_of_length_eq_zero→Mi,append_assoc→Mo,pairwise_cons→Mw,map_singleton→Mx,length_drop→MM,filter_cons→MN,getElem?_range→MQ,filterMap_cons→MR,getElem?_zip_eq_some→MT,length→M',length_set→N3,getElem_map→N4,take_of_length_le→N8,map_take→Nh,pairwise_map→Nk,getElem_take→Nl,nodup_cons→Nv,forIn_cons→Nw,find?_cons→Nx,lookup→Ny,lookup_cons→NC,all_eq_true→ND,take_add_one→NK,nodup_append→NL,flatten_cons→NM,ext_getElem?→NO,foldl_cons→NX,nodup_range→O1,ext_getElem→O2,range_succ_eq_map→Of,pairwise_lt_range→Og,getElem?_set_self→Oh,length_filter_le→Ou,pairwise_append→OC,mem_of_mem_take→OD,getElem?_set_ne→OE,forIn_nil→OR,mem_filterMap→OY,findIdx?_eq_some_iff_getElem→P6,of_mem_zip→P9,length_zip→Pa,take_sublist→Pc,take_append_of_le_length→PB,take_left→PD,foldl_nil→PF,drop_zero→PJ,map_nil→Q2,findIdx?_eq_none_iff→Q9,any_cons→Qf,length_erase_of_mem→Qk,pairwise_singleton→Qo,getElem?_replicate→Qp,take_append_drop→QF,getElem?_toArray→QG,reverse_reverse→QM,replicate_succ'→QN,mem_of_mem_drop→QO,foldl→QW,count→QX,getElem_range→R3,getElem?_drop→R4,reverse_cons→Ri,getElem_drop→Rj,map_id→Rn,zipIdx_cons→Rv,take_append→Rx,zipIdx_nil→RI,length_nil→RJ,take_zero→RQ,map_drop→S1,map_id'→S9
open Nat renaming lt_of_lt_of_le→f',pow_le_pow_right→gA,two_pow_pos→lh,testBit_lt_two_pow→lB,eq_of_testBit_eq→oe,lt_of_le_of_lt→qE,le_refl→ri,testBit_xor→so,testBit_two_pow→z0,shiftRight_eq_div_pow→z3,pow_lt_pow_right→Kf,testBit_shiftLeft→Kk,ne_of_lt→Kn,testBit_mod_two_pow→Kv,ne_of_gt→KJ,xor_assoc→KP,testBit_and→KU,le_of_lt→L9,and_comm→Lb,le_trans→Lf,mod_two_eq_zero_or_one→Lp,xor_zero→Lq,shiftLeft_eq→Lr,and_two_pow_sub_one_eq_mod→Ly,lt_irrefl→Lz,mul_le_mul_right→LF,testBit_shiftRight→LG,zero_le→LI,lt_succ_self→LJ,not_lt_zero→LO,lt_pow_two_of_testBit→L',and_zero→M5,zero_testBit→M6,and_le_right→M7,testBit_two_pow_self→M9,lt_succ_of_lt→Ma,xor_self→Mg,add_mul→Mm,lt_log2_self→Mn,sub_self→Ms,mul_le_mul→MK,min_eq_left→ML,and_le_left→MO,one_mul→MU,le_add_right→MV,lt_trichotomy→MZ,le_mul_of_pos_left→Nd,pow_add→Nf,zero_and→Ng,add_comm→Ni,testBit_zero→Nj,mod_lt→Nu,testBit_div_two→NH,two_pow_add_eq_or_of_lt→NJ,xor_comm→NV,pow_succ→NW,exists_eq_add_of_le→O8,add_sub_cancel_left→O9,zero_xor→Oa,le_succ→Oq,div_lt_iff_lt_mul→Oy,div_lt_of_lt_mul→OI,succ_mul→OK,le_of_eq→OL,zero_shiftLeft→P3,zero_mul→Pm,mul_comm→Pn,mod_eq_of_lt→Px,le_of_not_lt→Py,strongRecOn→PP,div_add_mod→PQ,mul_lt_mul_of_pos_right→PZ,log2_lt→Q3,zero_mod→Qb,zero_add→Qc,sub_zero→Qe,pow_le_pow_iff_right→Qn,le_of_ble_eq_true→QL,or_comm→QT,xor_lt_two_pow→Rf,lt_or_gt_of_ne→Rg,lt_or_eq_of_le→Rh,shiftLeft_add→Ru,lt_of_not_le→RG,log2_self_le→RH,le_antisymm→RP,testBit_or→R'
open _root_ renaming List→gs,absurd→kv,if_neg→ov,decide_eq_true→pB,decide_eq_false→qa,if_pos→qb,Option→rl,congrArg→zt,decide_eq_true_iff→Kc,beq_eq_false_iff_ne→Kr,Bool→KS,beq_self_eq_true→L3,String→Lh,Array→Ll,or_false→Lu,of_decide_eq_true→Md,beq_iff_eq→Mu,if_true→OF,decide_eq_true_eq→PN,if_false→RA
open PySem.Heap renaming get?_push_of_some→hE,lt_size→hJ,get?_push_size→lT,get?_update_self→Ku,get?_update_other→KH,size_push→LK,SameBut→LP,get?_none_of_le→NB,IsList→QJ
open Array renaming length_toList→ic,getElem?_eq_getElem→KC,getElem?_toList→L7,getElem?_eq_some_iff→MH,toList_push→N5,toList_filterMap→N6,getElem?_eq_none→N7,size_push→Oe,getD→OS,forIn_toList→QV,replicate→Rz,toList→S2
open Bool renaming false_ne_true→iv,true_and→KB,and_eq_true→KL,false_and→Ln,false_xor→Me,xor_false→MI,eq_iff_iff→MY,and_false→OB,false_eq_true→R6,eq_false_iff→Rl,not_eq_true→Ry,xor_assoc→RU
open Option.some renaming inj→kf
open Int renaming toNat_natCast→pT,eq_ofNat_of_zero_le→Mf,natCast_nonneg→N0,zero_add→Na,one_mul→OH,toNat→OM,natAbs_natCast→P4,fdiv_eq_ediv_of_nonneg→Qa,emod_lt_of_pos→Rk,emod_nonneg→RS
open PySem.PassesOwn renaming never→y2
open PySem.Value renaming ref→y7,none→KQ,type→MW,int→Pe,str→Qg,bool→QR,isStrOf→RN,isInt→S6,float→S7,bytes→S8
open PyProof.Rows renaming boot_isinstance→z1,boot_list→Kl,callWith_type1→Km,boot_tuple→MJ,boot_zip→NY,slot_tuple_getitem→Oz,boot_bool→Pt,boot_int→Pz,Call_→Qv,subscriptTail_builtinR→Rc,entry_proto_collect'→RE,Subscript_→RY
open PySem.Builtin.Int renaming intBits→z4
open PySem.F renaming plainAttrs_list→z5,type_list_append→Kp,slot_list_append→Kq,type_int_bit_length→KM,slot_int_bit_length→KN,excBase_ValueError→KO,plainAttrs_int→Lk,type_list_extend→NT,slot_list_extend→NU,args_tuple_add_2→PU,entry_tuple_add→PY,slot_tuple_add→Q8
open PySem.Builtin.SmallTypes renaming nextOf→zx,ownedTupleIsFree→Ky,ownedTupleHandOut→NQ
open Ne renaming symm→Ka
open PySem.Heap.SameBut renaming update→Ki
open False renaming elim→KD
open PySem.Obj renaming mapSeq→KI,data_mapFields→LX,mapFields→M8,isFreed_of_fields→Np,cls_mapFields→O0,putSet→Ra
open PySem.NameKind renaming free→L0,cell→Nb
open Sum renaming inl→L5,inr→Oj
open Classical renaming byContradiction→Lo,propDecidable→M4,epsilon→Qu
open PySem.Around renaming under_plainId→LH,under→Qh
open PySem.Builtin.List renaming listExtendWith→LM,listTooLong→ME,listLengthHint→Nn,listSameRef→Pd,listUpdate→Pl,listItems→Pu
open PySem.Builtin renaming bitNot→LR,bitAnd→MA,bitXor→On,bitOr→PR
open PySem.Str renaming ofString→M3,empty→RD
open PySem.Builtin.Slice renaming slicePlaces→Mq,sliceAdjust→Nr,sliceApplied→OX
open PySem.WalksT renaming enumerateD→Mr,zip2→Pg
open PySem.Builtin.Tuple renaming tupleExact→MD
open ForInStep renaming yield→MS
open List.Pairwise renaming filter→N1,imp_of_mem→P7,nil→P',imp→Q0
open Nat.succ renaming inj→Nz
open Or renaming inl→O5,inr→Oo
open True renaming intro→Ob
open PySem.SetTable renaming fresh→Od,orStandIn→Qt,freeSlot→QE,fits→Re,put→Rt
open PySem.EntryCells renaming newEntry→Oi
open Int.ofNat renaming inj→Ot
open PySem.Heap.IsList renaming push→OJ
open PySem.Calls renaming spliced_cons→OW,spliced_nil→P5,Name_function_global→PV,call_function_entry→Q1,callWith_builtin→Qq,evalArgs_plain→QH
open PySem.Code renaming quiet_builtin→OZ,isFrame→Qr,builtin→Sb
open PySem.Shared renaming heap→Ph
open PySem.pickOrder renaming go→PM
open PySem.Paired renaming length→PX,snoc→RZ
open Except renaming ok→Q4,error→RT
open PySem.SeqAt.EqAt renaming str_int→Qi,int_str→Qj,same→Rp,of_refs→Sa
open Prod renaming fst→QI
open List.cons renaming inj→R5
open PyProof.Rows.IsTup renaming new→Rb
open Iff renaming rfl→Ro
open PySem.Flow renaming ret→RK
open Sum.inl renaming inj→RO
open PySem.W.WShape renaming has→S5
abbrev A':=gs (Nat×Nat)
abbrev C':=gs Pf
abbrev D':=gs Nat
abbrev DL:=Ld->Qm->Prop
abbrev Dc:=gs (PL×PySem.Obj)
abbrev E':=gs Ld
abbrev F':=Pf->rl Ld
abbrev G':=Ll Ld
abbrev HB:=Ll (rl Ld)
abbrev J9:=Unit->Qm->Prop
abbrev K0:=gs PL
abbrev K3:=gs Int
abbrev K4:=rl PL
abbrev K6:=Pf->KS
abbrev K8:=PySem.Result->Qm->Prop
abbrev K9:=gs (Pf×PL)
abbrev K':=gs (Pf×Ld)
abbrev KA:=rl Ld
set_option Elab.async false
set_option hygiene false in
local macro_rules
|`(@A)=>`((by omega))
|`(@E)=>`((by walk_at "o"))
|`(@C)=>`((by decide))
|`(@D)=>`((by simp))
|`(@G)=>`((av (K:=K) rfl))
|`(@F)=>`((prs nx))
set_option hygiene false in
local macro_rules
|`(!A $a $b $c)=>`((aH $a $b $c (λ_ _=>rfl)))
|`(!j $a $b)=>`((aa (pv $a) $b))
local macro_rules | `(tactic| lia) => `(tactic| walk_at "l2")
set_option linter.all false
set_option maxRecDepth 100000
namespace L2
open PySem PySem.Spec PyProof.Rows
noncomputable abbrev Key:=Sum Int Kz
noncomputable def vd:Key->ia->KS
 | .inl k,v=>S6 k v
 | .inr x,v=>RN x v
noncomputable def keyH (w:y3):Key->Int
 | .inl k=>hashInt k
 | .inr x=>hashStr w x
theorem b6:∀{k:Key} {v:ia},vd k v=true->(∃i t,k=L5 i/\v=Pe i t)∨(∃x t,k=Oj x/\v=Qg x t)
 | .inl i,v,h=>by
   obtain⟨t,e⟩:=Value.isInt_shape (k:=i) (v:=v) h;exact .inl ⟨i,t,rfl,e⟩
 | .inr x,v,h=>by
   obtain⟨t,e⟩:=Value.isStrOf_shape (x:=x) (v:=v) h;exact .inr ⟨x,t,rfl,e⟩
theorem AY (i:Int) (t:Tok):vd (.inl i) (.int i t)=true:=by simp[vd,S6]
theorem AX (x:Kz) (t:Tok):vd (.inr x) (.str x t)=true:=by simp[vd,RN]
theorem Iz (a b:Int):decide ((L5 a:Key)=L5 b)=(a == b):=by
 by_cases e:a=b
 ·subst e;simp
 ·have h:¬(L5 a:Key)=L5 b:=λq=>e (RO q);rw[qa h];exact(Kr.mpr e).symm
theorem Iv (a b:Kz):decide ((Oj a:Key)=Oj b)=decide (a=b):=by
 by_cases e:a=b
 ·subst e;simp
 ·have h:¬(Oj a:Key)=Oj b:=λq=>e (Sum.inr.inj q);rw[qa h,qa e]
theorem Iy (a:Int) (b:Kz):decide ((L5 a:Key)=Oj b)=false:=qa (λq=>nomatch q)
theorem Iw (a:Kz) (b:Int):decide ((Oj a:Key)=L5 b)=false:=qa (λq=>nomatch q)
noncomputable def dk (prog:qc) (w:y3):PySem.KeyKind prog w Key where
 is:=vd
 hash:=keyH w
 inj:=λv a b ha hb=>by
  rcases b6 ha with ⟨i,t,rfl,rfl⟩ | ⟨x,t,rfl,rfl⟩
  ·rcases b6 hb with ⟨j,u,rfl,e⟩ | ⟨y,u,rfl,e⟩
   ·injection e with O _;rw[O]
   ·exact nomatch e
  ·rcases b6 hb with ⟨j,u,rfl,e⟩ | ⟨y,u,rfl,e⟩
   ·exact nomatch e
   ·injection e with O _;rw[O]
 byValue:=λk v h=>by
  rcases b6 h with ⟨i,t,rfl,rfl⟩ | ⟨x,t,rfl,rfl⟩<;>rfl
 pyHash:=λY h=>by
  rcases b6 Y with ⟨i,t,rfl,rfl⟩ | ⟨x,t,rfl,rfl⟩
  ·exact wpAny_pyHash_int h
  ·exact wpAny_pyHash_str h
 eqBool:=λhu Y h=>by
  rcases b6 hu with ⟨i,t,rfl,rfl⟩ | ⟨x,t,rfl,rfl⟩
  ·rcases b6 Y with ⟨j,u,rfl,rfl⟩ | ⟨y,u,rfl,rfl⟩
   ·rw[Iz] at h;exact wpAny_eqBool_int h
   ·rw[Iy] at h;exact Qj i t y u _ _ _ _ h
  ·rcases b6 Y with ⟨j,u,rfl,rfl⟩ | ⟨y,u,rfl,rfl⟩
   ·rw[Iw] at h;exact Qi x t j u _ _ _ _ h
   ·rw[Iv] at h;exact wpAny_eqBool_str h
 «strs»:=λk x t v h=>by
  rcases b6 h with ⟨i,u,rfl,e⟩ | ⟨y,u,rfl,e⟩
  ·exact nomatch e
  ·injection e with O _
   subst O
   cases v<;>rfl
theorem wk (prog:qc) (w:y3) (i:Int) (t:Tok):(dk prog w).is (.inl i) (.int i t)=true:=AY i t
theorem wj (prog:qc) (w:y3) (x:Kz) (t:Tok):(dk prog w).is (.inr x) (.str x t)=true:=AX x t
inductive V where
 | non | bl (b:KS) | int (i:Int) | str (x:Kz) | byt (b:Ll UInt8) | flt (b:UInt64) | ref (a:gn) | ty (n:Lh)
 deriving DecidableEq
noncomputable def RelV:V->ia->Prop
 | .non,u=>u=KQ
 | .bl b,u=>u=QR b
 | .int i,u=>∃t,u=Pe i t
 | .str x,u=>∃t,u=Qg x t
 | .byt b,u=>∃t,u=S8 b t
 | .flt b,u=>∃t,u=S7 b t
 | .ref a,u=>u=y7 a
 | .ty n,u=>u=MW n
noncomputable abbrev Vals:gs V->E'->Prop:=Paired RelV
theorem Vals.length {xs:gs V} {us:E'} (r:Vals xs us):xs.length=us.length:=PX r
theorem Vals.get:∀{xs:gs V} {us:E'} {i:Nat} {x:V},Vals xs us->xs[i]? =ak x->∃u,us[i]? =ak u/\RelV x u
 | _,_,_,_,.nil,e=>by simp at e
 | _,_,0,_,.cons r _,e=>by simp at e;subst e;exact⟨_,rfl,r⟩
 | _,_,i + 1,x,.cons _ t,e=>by
   obtain⟨u,h1,h2⟩:=Vals.get (i:=i) (x:=x) t (by simpa using e);exact⟨u,by simpa using h1,h2⟩
theorem Vals.set {x:V} {u:ia} (r:RelV x u):∀{xs:gs V} {us:E'} (i:Nat),Vals xs us->Vals (xs.set i x) (us.set i u)
 | _,_,_,.nil=> .nil
 | _,_,0,.cons _ t=> .cons r t
 | _,_,i + 1,.cons q t=> .cons q (Vals.set r i t)
theorem Vals.append:∀{xs ys:gs V} {us ws:E'},Vals xs us->Vals ys ws->Vals (xs++ys) (us++ws)
 | _,_,_,_,.nil,s=>s
 | _,_,_,_,.cons r t,s=> .cons r (Vals.append t s)
theorem Vals.take:∀{xs:gs V} {us:E'} (n:Nat),Vals xs us->Vals (xs.take n) (us.take n)
 | _,_,0,_=> .nil
 | _,_,_ + 1,.nil=> .nil
 | _,_,n + 1,.cons r t=> .cons r (Vals.take n t)
theorem Vals.drop:∀{xs:gs V} {us:E'} (n:Nat),Vals xs us->Vals (xs.drop n) (us.drop n)
 | _,_,0,r=>r
 | _,_,_ + 1,.nil=> .nil
 | _,_,n + 1,.cons _ t=>Vals.drop n t
noncomputable def RelO:rl V->KA->Prop
 | some v,ak u=>RelV v u
 | none,hB=>True
 | _,_=>False
noncomputable def KV {κ:Type}:gs (κ×V)->gs (κ×ia)->Prop:=Paired λ(p:κ×V) (q:κ×ia)=>p.1=q.1/\RelV p.2 q.2
noncomputable def kV:Key->V
 | .inl i=> .int i
 | .inr x=> .str x
inductive HO where
 | lst (xs:gs V)
 | tup (xs:gs V)
 | dK (kvs:gs (Key×V)) | dT (kvs:gs (gs Key×V))
 | set (S:Int->KS) (n:Nat)
 | ins (C dx:gn) (fs:gs (Kz×V))
 | own (x:gn)
 | xd (fs:gs (Kz×V))
 | met (f x:gn)
 | rng (lo hi:Int)
 | frz (o:P8) (u:HO)
 | tbl (ps:G')
 | ext (φ:Ke->Prop)
noncomputable abbrev Hp:=gn->rl HO
noncomputable def upd (H:Hp) (a:gn) (o:HO):Hp:=λb=>if b=a then ak o else H b
theorem aP {H:Hp} {a:gn} {o:HO}:upd H a o a=ak o:=by unfold upd;rw[qb rfl]
theorem aJ {H:Hp} {a b:gn} {o:HO} (h:b≠a):upd H a o b=H b:=by unfold upd;rw[ov h]
theorem i4 {H:Hp} {a b:gn} {o u:HO} (h:H a=ak o) (h':H b=ak u) (d:o≠u):a≠b:=by
 intro e;subst e;rw[h] at h';exact d (kf h')
theorem ay {H:Hp} {a b:gn} {o:HO} (h:H a=ak o) (h':H b=hB):a≠b:=by
 intro e;subst e;rw[h] at h';cases h'
section
variable (P:qc) (w:y3)
noncomputable def fM (H:Hp) (h:Ke) (a:gn):HO->Prop
 | .lst xs=>xs.length<=lx/\∃(its:E') (n:Nat),Vals xs its/\h.get? a=ak {cls:= .type "list",data:= .seq its.toArray n}
 | .tup xs=>xs.length<=lx/\∃its:E',Vals xs its/\IsTup h a its.toArray
 | .dK kvs=>kvs.length<=lx/\(a == sysModules)=false/\∃vs,KV kvs vs/\h.DictOf (dk P w) a vs
 | .dT kvs=>kvs.length<=lx/\(a == sysModules)=false/\∃xs:gs (gs Key×gn×ia),
   Paired (λ(p:gs Key×V) (q:gs Key×gn×ia)=>p.1=q.1/\H q.2.1=ak (.tup (p.1.map kV))/\RelV p.2 q.2.2) kvs xs/\
   ∃o es ep,h.get? a=ak o/\o.ExactDict/\o.data= .dict es ep/\es.toList=xs.map (entryOfKey (tupleKind (dk P w)))/\(xs.map (·.1)).Nodup
 | .set S n=>h.SetOf (intKind P w) a S n
 | .ins C dx fs=>H dx=ak (.own a)/\fs.length<=1000/\dx≠a/\h.get? a=ak (LZ C dx)/\
   ∃mA,h.Ns1 dx mA/\(∀f,RelO (fs.lookup f) (mA f))/\Ql mA (fs.map (·.1))
 | .own _=>∃o,h.get? a=ak o
 | .xd fs=>∃mA,h.Ns1 a mA/\∀f,RelO (fs.lookup f) (mA f)
 | .rng lo hi=>∃t u v,h.get? a=ak {cls:= .type "range",data:= .fields #[.int lo t,.int hi u,.int 1 v]}
 | .frz o u=>h.get? a=ak o/\fM H h a u
 | .tbl ps=>h.get? a=ak {cls:= .none,data:= .fields ps}
 | .met f x=>h.get? a=ak (OU (.ref f) (.ref x))
 | .ext φ=>φ h/\(∃o,h.get? a=ak o)/\∀h1 h2:Ke,φ h1->(∀o,h1.get? a=ak o->h2.get? a=ak o)->φ h2
def HOk (H:Hp) (h:Ke):Prop:=∀a o,H a=ak o->fM P w H h a o
end
section
variable {P:qc} {w:y3} {H H':Hp} {h h':Ke} {a:gn} {o:HO}
theorem fM.lt (x:fM P w H h a o):a < h.objs.size:=by
 cases o with
 | lst xs=>obtain⟨_,_,_,_,e⟩:=x;exact hJ e
 | tup xs=>obtain⟨_,_,_,p⟩:=x;exact p.lt
 | dK kvs=>obtain⟨_,_,_,_,o,_,_,e,_⟩:=x;exact hJ e
 | dT kvs=>obtain⟨_,_,_,_,o,_,_,e,_⟩:=x;exact hJ e
 | set S n=>obtain⟨o,_,_,_,e,_⟩:=x;exact hJ e
 | ins C dx fs=>obtain⟨_,_,_,e,_⟩:=x;exact hJ e
 | own y=>obtain⟨_,e⟩:=x;exact hJ e
 | xd fs=>obtain⟨_,⟨_,_,_,e,_⟩,_⟩:=x;exact hJ e
 | rng lo hi=>obtain⟨_,_,_,e⟩:=x;exact hJ e
 | frz ob u=>obtain⟨e,_⟩:=x;exact hJ e
 | tbl ps=>exact hJ (show h.get? a=ak _ from x)
 | met f y=>exact hJ (show h.get? a=ak _ from x)
 | ext φ=>obtain⟨_,⟨_,e⟩,_⟩:=x;exact hJ e
theorem Paired.mapP {α β:Type} {F G:α->β->Prop}:∀{ω:gs α} {ψ:gs β},Paired F ω ψ->(∀a b,F a b->G a b)->Paired G ω ψ
 | _,_,.nil,_=> .nil
 | _,_,.cons r t,f=> .cons (f _ _ r) (Paired.mapP t f)
theorem fM.stay (x:fM P w H h a o) (k:∀b u,(b=a∨H b=ak (.own a))->h.get? b=ak u->h'.get? b=ak u)
  (ho:∀b,H b=ak (.own a)->H' b=ak (.own a)) (ht:∀b xs,H b=ak (.tup xs)->H' b=ak (.tup xs)):fM P w H' h' a o:=by
 induction o with
 | lst xs=>obtain⟨z,its,n,r,e⟩:=x;exact⟨z,its,n,r,k _ _ (.inl rfl) e⟩
 | tup xs=>obtain⟨z,its,r,ob,e,c⟩:=x;exact⟨z,its,r,ob,k _ _ (.inl rfl) e,c⟩
 | dK kvs=>obtain⟨z,y,vs,r,ob,es,ep,e,c⟩:=x;exact⟨z,y,vs,r,ob,es,ep,k _ _ (.inl rfl) e,c⟩
 | dT kvs=>
   obtain⟨z,y,xs,r,ob,es,ep,e,c⟩:=x;exact⟨z,y,xs,Paired.mapP r λp q z=>⟨z.1,ht _ _ z.2.1,z.2.2⟩,ob,es,ep,k _ _ (.inl rfl) e,c⟩
 | set S n=>obtain⟨ob,es,ep,t,e,c⟩:=x;exact⟨ob,es,ep,t,k _ _ (.inl rfl) e,c⟩
 | ins C dx fs=>
   obtain⟨d,z,ne,e,mA,⟨od,es,ep,O,c⟩,r⟩:=x;exact⟨ho _ d,z,ne,k _ _ (.inl rfl) e,mA,⟨od,es,ep,k _ _ (.inr d) O,c⟩,r⟩
 | own y=>obtain⟨ob,e⟩:=x;exact⟨ob,k _ _ (.inl rfl) e⟩
 | xd fs=>obtain⟨mA,⟨od,es,ep,e,c⟩,r⟩:=x;exact⟨mA,⟨od,es,ep,k _ _ (.inl rfl) e,c⟩,r⟩
 | rng lo hi=>obtain⟨t,u,v,e⟩:=x;exact⟨t,u,v,k _ _ (.inl rfl) e⟩
 | frz ob u ih=>obtain⟨e,q⟩:=x;exact⟨k _ _ (.inl rfl) e,ih q⟩
 | tbl ps=>
   have e:h.get? a=ak {cls:= .none,data:= .fields ps}:=x;show h'.get? a=ak {cls:= .none,data:= .fields ps};exact k a _ (.inl rfl) e
 | met f y=>
   have e:h.get? a=ak (OU (.ref f) (.ref y)):=x;show h'.get? a=ak (OU (.ref f) (.ref y));exact k a _ (.inl rfl) e
 | ext φ=>obtain⟨p,⟨o,e⟩,st⟩:=x;exact⟨st _ _ p λo q=>k _ _ (.inl rfl) q,⟨o,k _ _ (.inl rfl) e⟩,st⟩
theorem HOk.lt (x:HOk P w H h) (e:H a=ak o):a < h.objs.size:=(x a o e).lt
theorem HOk.fresh (x:HOk P w H h) (e:h.objs.size<=a):H a=none:=by
 cases q:H a with
 | none=>rfl
 | some u=>exact kv (f' (x.lt q) e) (Lz _)
theorem HOk.kept (x:HOk P w H h) (k:∀b u,h.get? b=ak u->h'.get? b=ak u):HOk P w H h':=λa o e=>
 (x a o e).stay (λb u _ q=>k b u q) (λ_ q=>q) λ_ _ q=>q
theorem HOk.laid (x:HOk P w H h) (k:∀b u,h.get? b=ak u->h'.get? b=ak u) (O:h.objs.size<=a) (new:fM P w (upd H a o) h' a o):HOk P w (upd H a o) h':=λb u e=>by
 have hn:=x.fresh O;by_cases hb:b=a
 ·subst hb;rw[aP] at e;cases e;exact new
 ·rw[aJ hb] at e;exact(x b u e).stay (λc v _ q=>k c v q) (λc q=>by rw[aJ (ay q hn)];exact q) λc xs q=>by rw[aJ (ay q hn)];exact q
end
def Rd (H:Hp) (a:gn) (u:HO):Prop:=H a=ak u∨∃o,H a=ak (.frz o u)
theorem Rd.ok {P:qc} {w:y3} {H:Hp} {h:Ke} {a:gn} {u:HO} (r:Rd H a u) (x:HOk P w H h):fM P w H h a u:=by
 rcases r with r | ⟨o,r⟩
 ·exact x a u r
 ·obtain⟨_,q⟩:=x a _ r;exact q
noncomputable def Mut:rl HO->Prop
 | some (.lst _)=>True
 | some (.dK _)=>True
 | some (.dT _)=>True
 | some (.set _ _)=>True
 | some (.ins _ _ _)=>True
 | some (.ext _)=>True
 | _=>False
section
variable {P:qc} {w:y3} {H:Hp} {h h':Ke} {x e:gn} {o':HO}
theorem HOk.write (ok:HOk P w H h) (α:Mut (H x)) (he:e=x∨H e=ak (.own x)) (k:∀b u,b≠e->h.get? b=ak u->h'.get? b=ak u) (Y:∃u,h'.get? e=ak u)
  (new:fM P w (upd H x o') h' x o'):HOk P w (upd H x o') h':=λb u q=>by
 have Z:∀c y,H c=ak (.own y)->c≠x:=λc y r z=>by subst z;rw[r] at α;exact α
 have ν:∀c xs,H c=ak (.tup xs)->c≠x:=λc xs r z=>by subst z;rw[r] at α;exact α
 by_cases hb:b=x
 ·subst hb;rw[aP] at q;cases q;exact new
 ·rw[aJ hb] at q;by_cases O:b=e
  ·have β:H b=ak (.own x):=by
    rcases he with z | z
    ·exact kv (O.trans z) hb
    ·rw[O];exact z
   rw[q] at β;cases β;obtain⟨v,γ⟩:=Y;exact⟨v,by rw[O];exact γ⟩
  ·refine(ok b u q).stay (λc v hc r=>k c v ?_ r) (λc r=>by rw[aJ (Z c b r)];exact r) λc xs r=>by rw[aJ (ν c xs r)];exact r
   rcases hc with rfl | hc
   ·exact O
   ·rintro rfl;rcases he with z | z
    ·exact Z c b hc z
    ·rw[hc] at z;cases z;exact hb rfl
end
structure Un (fs ex:K0) (H H':Hp) (h h':Ke):Prop where
 keep:∀b o,h.get? b=ak o->H b=hB->b∉fs->b∉ex->h'.get? b=ak o
 slot:∀b o,h.get? b=ak o->H b=hB->b∈fs->b∉ex->∃sl,h'.get? b=ak {o with slots:=sl}
 free:∀b o,h.get? b=ak o->H b=hB->b∉ex->H' b=hB
 there:∀b o,h.get? b=ak o->b∉ex->∃o',h'.get? b=ak o'
 tups:∀b xs,H b=ak (.tup xs)->H' b=ak (.tup xs)
 frzs:∀b o u,H b=ak (.frz o u)->H' b=ak (.frz o u)
 tbls:∀b ps,H b=ak (.tbl ps)->∃more,H' b=ak (.tbl (ps++more))
section
variable {fs fs' ex ex':K0} {H H1 H2:Hp} {h h1 h2 h':Ke} {a x e:gn} {o:HO}
theorem Un.any (u:Un fs ex H H1 h h1) {b:gn} {ob:P8} (q:h.get? b=ak ob) (n:H b=hB) (hx:b∉ex):∃O,h1.get? b=ak {ob with slots:=O}:=by
 by_cases hb:b∈fs
 ·exact u.slot b ob q n hb hx
 ·exact⟨ob.slots,u.keep b ob q n hb hx⟩
theorem Un.kept (k:∀b u,h.get? b=ak u->h'.get? b=ak u):Un fs ex H H h h':=
 ⟨λb ob q _ _ _=>k b ob q,λb ob q _ _ _=>⟨ob.slots,k b ob q⟩,λ_ _ _ n _=>n,λb ob q _=>⟨ob,k b ob q⟩,λ_ _ q=>q,λ_ _ _ q=>q,λ_ ps q=>⟨#[],by rw[q];simp⟩⟩
theorem Un.refl:Un fs ex H H h h:=Un.kept λ_ _ q=>q
theorem Un.laid (k:∀b u,h.get? b=ak u->h'.get? b=ak u) (O:h.objs.size<=a) (hn:H a=hB):Un fs ex H (upd H a o) h h' where
 keep:=λb u q _ _ _=>k b u q
 slot:=λb u q _ _ _=>⟨u.slots,k b u q⟩
 free:=λb u q n _=>by rw[aJ (Kn (f' (hJ q) O))];exact n
 there:=λb u q _=>⟨u,k b u q⟩
 tups:=λb xs q=>by rw[aJ (ay q hn)];exact q
 frzs:=λb u xs q=>by rw[aJ (ay q hn)];exact q
 tbls:=λb ps q=>⟨#[],by rw[aJ (ay q hn),q];simp⟩
theorem Un.write (Z:Mut (H x)) (he:e=x∨H e=ak (.own x)) (k:∀b u,b≠e->h.get? b=ak u->h'.get? b=ak u) (Y:∃u,h'.get? e=ak u):Un fs ex H (upd H x o) h h':=by
 have α:∀b,H b=hB->b≠x:=λb n z=>by subst z;rw[n] at Z;exact Z
 have hb:∀b,H b=hB->b≠e:=λb n z=>by
  subst z;rcases he with r | r
  ·exact α b n r
  ·rw[n] at r;cases r
 have hm:∀b u,H b=ak u->¬Mut (ak u)->b≠x:=λb u q nm z=>by subst z;rw[q] at Z;exact nm Z
 refine⟨λb u q n _ _=>k b u (hb b n) q,λb u q n _ _=>⟨u.slots,k b u (hb b n) q⟩,λb u q n _=>by rw[aJ (α b n)];exact n,λb u q _=>?_,
  λb xs q=>by rw[aJ (hm b _ q λz=>z)];exact q,λb u xs q=>by rw[aJ (hm b _ q λz=>z)];exact q,λb ps q=>⟨#[],by rw[aJ (hm b _ q λz=>z),q];simp⟩⟩
 by_cases O:b=e
 ·subst O;exact Y
 ·exact⟨u,k b u O q⟩
end
noncomputable def trk (h:Ke) (H:Hp):K0:=(lA h.objs.size).filter λa=>(H a).isSome
noncomputable def hidT (h:Ke) (H:Hp):Heap:=PySem.W.hideAll h (trk h H)
theorem A7 (h:Ke) (H:Hp):(hidT h H).objs.size=h.objs.size:=PySem.W.hideAll_size _ _
theorem Dh {h:Ke} {H:Hp} {b:gn} {o:P8} (e:h.get? b=ak o) (n:H b=hB):(hidT h H).get? b=ak o:=
 PySem.W.hideAll_get _ e λhm=>by
  have q:(H b).isSome=true:=(LC.mp hm).2;rw[n] at q;simp at q
theorem F4 {h:Ke} {H:Hp} {b:gn} {o:P8} (e:(hidT h H).get? b=ak o):h.get? b=ak o/\H b=none:=by
 have O:h.get? b=ak o:=PySem.W.of_hideAll (trk h H) e;refine⟨O,?_⟩;cases q:H b with
 | none=>rfl
 | some x=>
   have hm:b∈trk h H:=LC.mpr ⟨Kw.mpr (hJ O),by simp[q]⟩;have z:(hidT h H).get? b=none:=PySem.W.hideAll_none (trk h H) hm;rw[z] at e;cases e
noncomputable def Gw (g h:Ke) (L:gn):Dc:=(lA h.objs.size).filterMap λa=>if a=L∨(g.get? a).isSome=true then hB else (h.get? a).map λo=>(a,o)
noncomputable def rest (g h:Ke) (L d:gn):Dc:=(Gw g h L).filter λp=>decide (p.1≠d)
structure Mod (K:aS) (mg:F') (base:Ke):Prop where
 kin:K.In base
 glob:base.Ns La mg
 blt:∃mb,base.Ns builtinsNs mb/\∀x:Kz,x≠"__name__"->mb x=bootBuiltins x
 nolimit:base.NoLimit
structure Cx where
 prog:qc
 w:y3
 K:aS
 mg:F'
 base:Ke
 A:Kj
 N:C'
 s₀:ib
 H₀:Hp
 env:Env
 outer:gs Env
 stack:gs Env
 ex:K0
 fn:K6
 calm:KS
 pn:Dc
 xe:DL
noncomputable def frs (l:gs Env):K0:=l.filterMap (·.frame)
noncomputable abbrev Cx.fs (X:Cx):K0:=frs X.outer
def Vis (O:Mj) (x:Kz):Prop:=O.names.lookup x=ak .local∨O.names.lookup x=ak .cell∨O.names.lookup x=ak .free
def Loc (O:Mj) (x:Kz):Prop:=O.names.lookup x=ak .local∨O.names.lookup x=ak .cell
def Look (env:Env) (h:Ke) (m:F') (x:Kz) (u:ia):Prop:=
 (env.kindOf x=ak .local/\m x=ak u)∨((env.kindOf x=ak .cell∨env.kindOf x=ak .free)/\∃c,env.cells.lookup x=ak c/\h.IsCell c (ak u))
structure Cx.Ok (X:Cx):Prop where
 mod:Mod X.K X.mg X.base
 kind:X.env.scope.kind= .function
 glob:X.env.globals=La
 blt:X.env.builtins=builtinsNs
 above:X.s₀.heap.objs.size<=X.env.locals
 inj:∀x y c,X.env.cells.lookup x=ak c->X.env.cells.lookup y=ak c->x=y
 has:∀x,(X.env.kindOf x=ak .cell∨X.env.kindOf x=ak .free)->∃c,X.env.cells.lookup x=ak c
 cab:∀x c,X.fn x=true->X.env.cells.lookup x=ak c->X.s₀.heap.objs.size<=c
 hd:X.calm=true->X.A.handled=hB
 frames:X.A.frames=ak X.stack
 stk:X.stack=X.outer∨(X.stack=X.env::X.outer/\X.env.frame=ak X.env.locals)
 exf:∀b∈X.ex,b≠X.env.locals/\∀x c,X.env.cells.lookup x=ak c->c≠b
 bs:∀b o,X.base.get? b=ak o->X.s₀.heap.get? b=ak o/\X.H₀ b=hB
 bsz:X.base.objs.size<=X.s₀.heap.objs.size
 noex:∀b o,X.base.get? b=ak o->b∉X.ex
 exfs:∀b∈X.ex,b∉X.fs
 funs:X.s₀.heap.FunFrames X.base X.outer
 frf:∀b∈X.fs,X.H₀ b=hB
structure Inv (X:Cx) (pins:Dc) (σ:gs (rl V)) (H:Hp) (s:ib):Prop where
 ok:X.Ok
 os:s.os=X.s₀.os
 bare:AllBare s.gens
 base:Un X.fs X.ex X.H₀ H X.s₀.heap s.heap
 loc:∃m,s.heap.Ns X.env.locals m/\∀(i:Nat) (x:Kz) (v:V),X.N[i]? =ak x->σ[i]? =ak (ak v)->Vis X.env.scope x->∃u,RelV v u/\Look X.env s.heap m x u
 cell:∀x c,X.env.cells.lookup x=ak c->∃v,s.heap.IsCell c v
 free:H X.env.locals=hB
 freeC:∀x c,X.env.cells.lookup x=ak c->H c=hB
 pin:∀p∈X.pn++pins,s.heap.get? p.1=ak p.2/\H p.1=hB/\p.1≠X.env.locals/\p.1∉X.fs/\∀v,p.2.data≠.cell v
 hok:HOk X.prog X.w H s.heap
 len:σ.length=X.N.length
section
variable {X:Cx} {pins:Dc} {σ:gs (rl V)} {H H':Hp} {s:ib} {h':Ke}
theorem Cx.Ok.nofr (ok:X.Ok) {b:gn} {o:P8} (e:X.base.get? b=ak o):b∉X.fs:=λhb=>by
 have:=(ok.funs.mem hb).1;rw[e] at this;cases this
theorem Inv.bs (I:Inv X pins σ H s):∀b o,X.base.get? b=ak o->s.heap.get? b=ak o/\H b=none:=λb o e=>
 ⟨I.base.keep b o (I.ok.bs b o e).1 (I.ok.bs b o e).2 (I.ok.nofr e) (I.ok.noex b o e),I.base.free b o (I.ok.bs b o e).1 (I.ok.bs b o e).2 (I.ok.noex b o e)⟩
theorem Inv.bk (I:Inv X pins σ H s):∀b o,X.base.get? b=ak o->s.heap.get? b=ak o:=λb o e=>(I.bs b o e).1
theorem Inv.mod (I:Inv X pins σ H s):Mod X.K X.mg X.base:=I.ok.mod
theorem Inv.kIn (I:Inv X pins σ H s):X.K.In s.heap:=I.ok.mod.kin.keeps I.bk
theorem Inv.lt (I:Inv X pins σ H s):X.env.locals < s.heap.objs.size:=let ⟨_,hn,_⟩:=I.loc;hn.lt
theorem Inv.sz (I:Inv X pins σ H s):X.s₀.heap.objs.size<=s.heap.objs.size:=Lf I.ok.above (L9 I.lt)
theorem Inv.nofs (I:Inv X pins σ H s) {a:gn} (h:s.heap.objs.size<=a):a∉X.fs:=λhb=>by
 obtain⟨_,o,ho,_⟩:=I.ok.funs.mem hb;exact kv (f' (hJ ho) (Lf I.sz h)) (Lz _)
theorem Inv.cne (I:Inv X pins σ H s):∀x c,X.env.cells.lookup x=ak c->c≠X.env.locals:=λx c e z=>by
 obtain⟨v,o,ho,hd⟩:=I.cell x c e;obtain⟨m,⟨o',es,ep,O,Z,_⟩,_⟩:=I.loc;rw[z,O] at ho;cases ho;rw[Z] at hd;cases hd
theorem Inv.funs (I:Inv X pins σ H s):s.heap.FunFrames X.base X.outer:=by
 have all:∀(l:gs Env),(∀b∈frs l,b∈X.fs)->X.s₀.heap.FunFrames X.base l->s.heap.FunFrames X.base l:=by
  intro l
  induction l with
  | nil=>intro _ _;trivial
  | cons env r ih=>
    intro hs hl;obtain⟨hk,⟨L,o,hf,hn,ho,hd⟩,O⟩:=hl;have χ:L∈X.fs:=hs L (by unfold frs;rw[MR,hf];exact kb);obtain⟨Y,e⟩:=I.base.slot L o ho (I.ok.frf L χ) χ λz=>I.ok.exfs L z χ;exact⟨hk,⟨L,_,hf,hn,e,hd⟩,ih (λb hb=>hs b (by unfold frs;rw[MR,hf];exact ky _ hb)) O⟩
 exact all X.outer (λ_ hb=>hb) I.ok.funs
theorem Inv.stack (I:Inv X pins σ H s):s.heap.FunFrames X.base X.stack:=by
 rcases I.ok.stk with e | ⟨e,hf⟩
 ·rw[e];exact I.funs
 ·rw[e];obtain⟨m,hn,_⟩:=I.loc;refine .cons (by rw[I.ok.kind];decide) hf hn ?_ I.funs;exact NB (Lf I.ok.bsz I.ok.above)
theorem Inv.stkSub (I:Inv X pins σ H s):∀b∈frs X.stack,b∈X.env.locals::X.fs:=λb hb=>by
 rcases I.ok.stk with e | ⟨e,hf⟩
 ·rw[e] at hb;exact ky _ hb
 ·rw[e] at hb;unfold frs at hb;rw[MR,hf] at hb;exact hb
theorem Inv.stkFree (I:Inv X pins σ H s):∀b∈frs X.stack,H b=none:=λb hb=>by
 rcases qn.mp (I.stkSub b hb) with e | hb
 ·rw[e];exact I.free
 ·obtain⟨_,o,ho,_⟩:=I.ok.funs.mem hb;exact I.base.free b o ho (I.ok.frf b hb) λz=>I.ok.exfs b z hb
theorem Inv.step {g':Ll GenState} {t':Nat} {d':Drawn} {ch:K0} (I:Inv X pins σ H s)
  (Z:∀b∈ch,(b∈X.ex∨X.s₀.heap.objs.size<=b)/\b≠X.env.locals/\(∀x c,X.env.cells.lookup x=ak c->c≠b)/\∀p∈X.pn++pins,p.1≠b)
  (keep:∀b o,b≠X.env.locals->b∉X.fs->b∉ch->s.heap.get? b=ak o->H b=hB->h'.get? b=ak o)
  (slot:∀b o,b≠X.env.locals->b∈X.fs->b∉ch->s.heap.get? b=ak o->H b=hB->∃ζ,h'.get? b=ak {o with slots:=ζ}) (free:∀b o,b∉ch->s.heap.get? b=ak o->H b=hB->H' b=hB)
  (there:∀b o,b∉ch->s.heap.get? b=ak o->∃o',h'.get? b=ak o')
  (tups:∀b xs,H b=ak (.tup xs)->H' b=ak (.tup xs)) (frzs:∀b o u,H b=ak (.frz o u)->H' b=ak (.frz o u)) (tbls:∀b ps,H b=ak (.tbl ps)->∃more,H' b=ak (.tbl (ps++more)))
  (ns:∀m,s.heap.Ns X.env.locals m->h'.Ns X.env.locals m) (hok:HOk X.prog X.w H' h') (ο:AllBare g'):
  Inv X pins σ H' {s with heap:=h',gens:=g',drawn:=d',toks:=t'}:=by
 have ξ:∀b o,X.s₀.heap.get? b=ak o->b≠X.env.locals:=λb o e=>Kn (f' (hJ e) I.ok.above)
 have β:∀b o,X.s₀.heap.get? b=ak o->b∉X.ex->b∉ch:=λb o e O hb=>by
  rcases(Z b hb).1 with z | z
  ·exact O z
  ·exact kv (f' (hJ e) z) (Lz _)
 have α:∀x c,X.env.cells.lookup x=ak c->∀v,s.heap.IsCell c v->h'.IsCell c v:=λx c e v ⟨o,ho,hd⟩=>by
  have Y:c∉ch:=λz=>(Z c z).2.2.1 x c e rfl;by_cases θ:c∈X.fs
  ·obtain⟨ζ,q⟩:=slot c o (I.cne x c e) θ Y ho (I.freeC x c e);exact⟨_,q,hd⟩
  ·exact⟨o,keep c o (I.cne x c e) θ Y ho (I.freeC x c e),hd⟩
 refine⟨I.ok,I.os,ο,⟨λb o e n hb O=>?_,λb o e n hb O=>?_,λb o e n O=>?_,λb o e O=>?_,λb xs e=>tups b xs (I.base.tups b xs e),λb o xs e=>frzs b o xs (I.base.frzs b o xs e),λb ps e=>?_⟩,?_,λx c e=>?_,?_,λx c e=>?_,λp η=>?_,hok,I.len⟩
 ·exact keep b o (ξ b o e) hb (β b o e O) (I.base.keep b o e n hb O) (I.base.free b o e n O)
 ·obtain⟨ζ,γ⟩:=I.base.slot b o e n hb O;obtain⟨ε,δ⟩:=slot b _ (ξ b o e) hb (β b o e O) γ (I.base.free b o e n O);exact⟨ε,δ⟩
 ·obtain⟨o',γ⟩:=I.base.there b o e O;exact free b o' (β b o e O) γ (I.base.free b o e n O)
 ·obtain⟨o',γ⟩:=I.base.there b o e O;exact there b o' (β b o e O) γ
 ·obtain⟨ν,γ⟩:=I.base.tbls b ps e;obtain⟨ι,δ⟩:=tbls b _ γ;exact⟨ν++ι,by rw[δ,Array.append_assoc]⟩
 ·obtain⟨m,hn,hl⟩:=I.loc;refine⟨m,ns m hn,λi x v γ δ π=>?_⟩;obtain⟨u,r,l⟩:=hl i x v γ δ π;refine⟨u,r,?_⟩;rcases l with l | ⟨k,c,e,z⟩
  ·exact .inl l
  ·exact .inr ⟨k,c,e,α x c e _ z⟩
 ·obtain⟨v,z⟩:=I.cell x c e;exact⟨v,α x c e v z⟩
 ·obtain⟨m,⟨o,_,_,ho,_⟩,_⟩:=I.loc;exact free _ o (λz=>(Z _ z).2.1 rfl) ho I.free
 ·obtain⟨v,o,ho,hd⟩:=I.cell x c e;exact free c o (λz=>(Z c z).2.2.1 x c e rfl) ho (I.freeC x c e)
 ·obtain⟨e,n,ne,nf,d⟩:=I.pin p η;have Y:p.1∉ch:=λz=>(Z p.1 z).2.2.2 p η rfl;exact⟨keep p.1 p.2 ne nf Y e n,free p.1 p.2 Y e n,ne,nf,d⟩
theorem Inv.un {t':Nat} (I:Inv X pins σ H s) (u:Un X.fs [] H H' s.heap h') (hok:HOk X.prog X.w H' h'):Inv X pins σ H' {s with heap:=h',toks:=t'}:=by
 obtain⟨m,⟨o,es,ep,ho,r⟩,_⟩:=id I.loc;obtain⟨α,χ⟩:=u.any ho I.free @D
 exact I.step (g':=s.gens) (d':=s.drawn) (ch:=[]) (λ_ z=>nomatch z) (λb o _ hb _ e n=>u.keep b o e n hb @D) (λb o _ hb _ e n=>u.slot b o e n hb @D) (λb o _ e n=>u.free b o e n @D) (λb o _ e=>u.there b o e @D) u.tups u.frzs u.tbls (fun β hm=>by
  obtain⟨o',Y,Z,O,r'⟩:=hm;rw[ho] at O;cases O;exact⟨_,Y,Z,χ,r'⟩) hok I.bare
theorem Inv.call {g':Ll GenState} {t':Nat} {d':Drawn} {ch:K0} (I:Inv X pins σ H s) (u:Un (frs X.stack) ch H H' s.heap h') (hok:HOk X.prog X.w H' h') (γ:AllBare g')
  (Z:∀b∈ch,(b∈X.ex∨X.s₀.heap.objs.size<=b)/\b≠X.env.locals/\(∀x c,X.env.cells.lookup x=ak c->c≠b)/\∀p∈X.pn++pins,p.1≠b):
  Inv X pins σ H' {s with heap:=h',gens:=g',drawn:=d',toks:=t'}:=by
 obtain⟨m,⟨o,es,ep,ho,r⟩,_⟩:=id I.loc;obtain⟨δ,χ⟩:=u.any ho I.free λz=>(Z _ z).2.1 rfl
 exact I.step (ch:=ch) Z (λb o χ hb O e n=>u.keep b o e n (λz=>(qn.mp (I.stkSub b z)).elim χ hb) O) (λb o _ _ O e n=>u.any e n O) (λb o O e n=>u.free b o e n O) (λb o O e=>u.there b o e O) u.tups u.frzs u.tbls (fun ε hm=>by
  obtain⟨o',α,β,Y,r'⟩:=hm;rw[ho] at Y;cases Y;exact⟨_,α,β,χ,r'⟩) hok γ
theorem Inv.turned {t':Nat} {it:gn} (I:Inv X pins σ H s) (k:∀b o,b≠it->s.heap.get? b=ak o->h'.get? b=ak o) (hn:H it=hB) (χ:it≠X.env.locals)
  (h1:it∈X.ex∨X.s₀.heap.objs.size<=it) (h2:∀x c,X.env.cells.lookup x=ak c->c≠it) (Y:∀p∈X.pn++pins,p.1≠it):Inv X pins σ H {s with heap:=h',toks:=t'}:=by
 have δ:∀b u,H b=ak u->b≠it:=λb u e z=>by rw[z,hn] at e;cases e
 refine I.step (g':=s.gens) (d':=s.drawn) (ch:=[it]) (λb hb=>?_) (λb o _ _ O e _=>k b o (λz=>O (by simp[z])) e) (λb o _ _ O e _=>⟨o.slots,k b o (λz=>O (by simp[z])) e⟩) (λ_ _ _ _ n=>n)
  (λb o O e=>⟨o,k b o (λz=>O (by simp[z])) e⟩) (λ_ _ e=>e) (λ_ _ _ e=>e) (λb ps e=>⟨#[],by rw[e];simp⟩) (λm hm=>?_) (λb u e=>?_) I.bare
 ·have e:b=it:=by simpa using hb
  subst e;exact⟨h1,χ,h2,Y⟩
 ·obtain⟨o,es,ep,ho,r⟩:=hm;exact⟨o,es,ep,k _ o (Ka χ) ho,r⟩
 ·refine(I.hok b u e).stay (λc v O q=>k c v ?_ q) (λ_ q=>q) λ_ _ q=>q;rcases O with z | z
  ·rw[z];exact δ b u e
  ·exact δ c _ z
theorem Inv.tok (I:Inv X pins σ H s) (t:Nat):Inv X pins σ H {s with toks:=t}:=I.un (h':=s.heap) (t':=t) Un.refl I.hok
theorem Inv.kept {t':Nat} (I:Inv X pins σ H s) (k:∀b u,s.heap.get? b=ak u->h'.get? b=ak u):Inv X pins σ H {s with heap:=h',toks:=t'}:=I.un (Un.kept k) (I.hok.kept k)
theorem Inv.laid {a:gn} {o:HO} {t':Nat} (I:Inv X pins σ H s) (k:∀b u,s.heap.get? b=ak u->h'.get? b=ak u) (O:s.heap.objs.size<=a) (new:fM X.prog X.w (upd H a o) h' a o):
  Inv X pins σ (upd H a o) {s with heap:=h',toks:=t'}:=I.un (Un.laid k O (I.hok.fresh O)) (I.hok.laid k O new)
theorem Inv.write {x e:gn} {o:HO} {t':Nat} (I:Inv X pins σ H s) (O:Mut (H x)) (he:e=x∨H e=ak (.own x)) (k:∀b u,b≠e->s.heap.get? b=ak u->h'.get? b=ak u) (Y:∃u,h'.get? e=ak u)
  (new:fM X.prog X.w (upd H x o) h' x o):Inv X pins σ (upd H x o) {s with heap:=h',toks:=t'}:=I.un (Un.write O he k Y) (I.hok.write O he k Y new)
theorem Inv.weak {σ':gs (rl V)} (I:Inv X pins σ H s) (hl:σ'.length=σ.length) (w:∀(i:Nat) v,σ'[i]? =ak (ak v)->σ[i]? =ak (ak v)):Inv X pins σ' H s:=
 ⟨I.ok,I.os,I.bare,I.base,let ⟨m,hn,O⟩:=I.loc;⟨m,hn,λi x v α Z Y=>O i x v α (w i v Z) Y⟩,I.cell,I.free,I.freeC,I.pin,I.hok,hl.trans I.len⟩
theorem Inv.pins_of {O:Dc} (I:Inv X pins σ H s) (h:∀p∈O,s.heap.get? p.1=ak p.2/\H p.1=hB/\p.1≠X.env.locals/\p.1∉X.fs/\∀v,p.2.data≠.cell v):Inv X O σ H s:=
 ⟨I.ok,I.os,I.bare,I.base,I.loc,I.cell,I.free,I.freeC,λp Y=>(oT.mp Y).elim (λz=>I.pin p (qB _ z)) (h p),I.hok,I.len⟩
theorem xr {N:C'} (O:N.Nodup) {i j:Nat} {x:Kz} (a:N[i]? =ak x) (b:N[j]? =ak x):i=j:=by
 obtain⟨h1,Z⟩:=eH.mp a;obtain⟨h2,Y⟩:=eH.mp b;exact(List.getElem_inj O).mp (Z.trans Y.symm)
theorem uE {M:Model} {A:Kj} {E:DL} {i:Nat} {x:Kz} {v:V} {u:ia} {Q:J9} (I:Inv X pins σ H s) (ω:X.N.Nodup) (hi:X.N[i]? =ak x) (hx:Loc X.env.scope x) (r:RelV v u)
  (h:∀s',Inv X pins (σ.set i (ak v)) H s'->(∃a,LP a s.heap s'.heap/\(a=X.env.locals∨X.env.cells.lookup x=ak a))->Q () s') (hf:X.fn x=true∨X.env.scope.names.lookup x=ak .local:=by first | exact .inl rfl | exact .inr rfl | assumption):ka M A (storeName X.env x u) Q E s:=by
 obtain⟨m,hn,hl⟩:=id I.loc;have ρ:(X.env.scope.kind == .class||(X.env.scope.kind == .module&&X.env.locals != X.env.globals))=false:=by rw[I.ok.kind];rfl
 have γ:i < σ.length:=by rw[I.len];exact(eH.mp hi).1
 have cne:=I.cne
 have O:∀{a:gn} {h':Ke},(∃o,s.heap.get? a=ak o/\H a=hB)->LP a s.heap h'->HOk X.prog X.w H h':=λ{a h'} ha hs b ob e=>by
  obtain⟨_,_,Z⟩:=ha;refine(I.hok b ob e).stay (λc θ hc q=>(hs.2 c ?_).trans q) (λ_ q=>q) λ_ _ q=>q;rintro rfl;rcases hc with rfl | hc
  ·rw[Z] at e;cases e
  ·rw[Z] at hc;cases hc
 rcases hx with hk | hk
 ·refine wpAny_storeName_local hk hn (λh' φ hs=>?_) ρ;obtain⟨oL,_,_,υ,_⟩:=id hn;refine h _ ⟨I.ok,I.os,I.bare,⟨λb o e n hb hx=>?_,λb o e n hb hx=>?_,I.base.free,λb o e hx=>?_,I.base.tups,I.base.frzs,I.base.tbls⟩,⟨_,φ,λj y ν Y β χ=>?_⟩,λy c e=>?_,I.free,I.freeC,λp τ=>?_,O ⟨oL,υ,I.free⟩ hs,by simpa using I.len⟩ ⟨_,hs,.inl rfl⟩
  ·exact(hs.2 b (Kn (f' (hJ e) I.ok.above))).trans (I.base.keep b o e n hb hx)
  ·obtain⟨ξ,Y⟩:=I.base.slot b o e n hb hx;exact⟨ξ,(hs.2 b (Kn (f' (hJ e) I.ok.above))).trans Y⟩
  ·obtain⟨o',Y⟩:=I.base.there b o e hx;exact⟨o',(hs.2 b (Kn (f' (hJ e) I.ok.above))).trans Y⟩
  ·by_cases δ:j=i
   ·subst δ;rw[hi] at Y;cases Y;rw[Oh γ] at β;cases β;exact⟨u,r,.inl ⟨hk,by simp⟩⟩
   ·rw[OE (Ka δ)] at β;obtain⟨α,r',q⟩:=hl j y ν Y β χ;refine⟨α,r',?_⟩;rcases q with ⟨k,e⟩ | ⟨k,c,e,z⟩
    ·refine .inl ⟨k,?_⟩;have:y≠x:=λe=>δ (xr ω Y (e ▸ hi));simp[this,e]
    ·exact .inr ⟨k,c,e,z.sameBut hs (cne y c e)⟩
  ·obtain⟨θ,z⟩:=I.cell y c e;exact⟨θ,z.sameBut hs (cne y c e)⟩
  ·obtain⟨e,n,ne,nf,d⟩:=I.pin p τ;exact⟨(hs.2 p.1 ne).trans e,n,ne,nf,d⟩
 ·have ε:X.fn x=true:=by
   rcases hf with z | z
   ·exact z
   ·rw[z] at hk;cases hk
  obtain⟨c,hc⟩:=I.ok.has x (.inl hk);obtain⟨θ,z⟩:=I.cell x c hc;refine wpAny_storeName_cell I.ok.kind hk hc z (λh' η hs=>?_);obtain⟨ψ,π,ο⟩:=id z;refine h {s with heap:=h'} ⟨I.ok,I.os,I.bare,⟨λb o e n hb hx=>?_,λb o e n hb hx=>?_,I.base.free,λb o e hx=>?_,I.base.tups,I.base.frzs,I.base.tbls⟩,⟨m,hn.sameBut hs (Ka (cne x c hc)),λj y ν Y β χ=>?_⟩,λy ι e=>?_,I.free,I.freeC,λp τ=>?_,O ⟨ψ,π,I.freeC x c hc⟩ hs,by simpa using I.len⟩ ⟨c,hs,.inr hc⟩
  ·exact(hs.2 b (Kn (f' (hJ e) (I.ok.cab x c ε hc)))).trans (I.base.keep b o e n hb hx)
  ·obtain⟨ξ,Y⟩:=I.base.slot b o e n hb hx;exact⟨ξ,(hs.2 b (Kn (f' (hJ e) (I.ok.cab x c ε hc)))).trans Y⟩
  ·obtain⟨o',Y⟩:=I.base.there b o e hx;exact⟨o',(hs.2 b (Kn (f' (hJ e) (I.ok.cab x c ε hc)))).trans Y⟩
  ·by_cases δ:j=i
   ·subst δ;rw[hi] at Y;cases Y;rw[Oh γ] at β;cases β;exact⟨u,r,.inr ⟨.inl hk,c,hc,η⟩⟩
   ·rw[OE (Ka δ)] at β;obtain⟨α,r',q⟩:=hl j y ν Y β χ;refine⟨α,r',?_⟩;rcases q with q | ⟨k,ι,e,z'⟩
    ·exact .inl q
    ·refine .inr ⟨k,ι,e,z'.sameBut hs ?_⟩;rintro rfl;exact δ (xr ω Y (I.ok.inj _ _ _ e hc ▸ hi))
  ·by_cases ζ:ι=c
   ·subst ζ;exact⟨_,η⟩
   ·obtain⟨w2,z2⟩:=I.cell y ι e;exact⟨w2,z2.sameBut hs ζ⟩
  ·obtain⟨e,n,ne,nf,d⟩:=I.pin p τ;refine⟨(hs.2 p.1 ?_).trans e,n,ne,nf,d⟩;intro q;rw[q,π] at e;have q':ψ=p.2:=kf e;exact d θ (by rw[<-q'];exact ο)
theorem wZ {M:Model} {A:Kj} {E:DL} {i:Nat} {x:Kz} {v:V} {u:ia} {Q:J9} (I:Inv X pins σ H s) (O:X.N.Nodup) (hi:X.N[i]? =ak x) (hx:Loc X.env.scope x) (r:RelV v u)
  (h:∀s',Inv X pins (σ.set i (ak v)) H s'->Q () s') (hf:X.fn x=true∨X.env.scope.names.lookup x=ak .local:=by first | exact .inl rfl | exact .inr rfl | assumption):ka M A (storeName X.env x u) Q E s:=
 uE I O hi hx r (λs' Y _=>h s' Y) hf
theorem Inv.call' {s':ib} {ch:K0} (I:Inv X pins σ H s) (ho:s'.os=s.os) (u:Un (frs X.stack) ch H H' s.heap s'.heap) (hok:HOk X.prog X.w H' s'.heap) (Y:AllBare s'.gens)
  (O:∀b∈ch,(b∈X.ex∨X.s₀.heap.objs.size<=b)/\b≠X.env.locals/\(∀x c,X.env.cells.lookup x=ak c->c≠b)/\∀p∈X.pn++pins,p.1≠b):Inv X pins σ H' s':=by
 obtain⟨h',g',d',t',o'⟩:=s';have e:o'=s.os:=ho;subst e;exact I.call (g':=g') (t':=t') (d':=d') u hok Y O
end
noncomputable abbrev XK:=ia->K4->Hp->Prop
noncomputable abbrev St:=gs (rl V)
noncomputable abbrev VK:=V->Hp->Prop
noncomputable abbrev TE:=St->Hp->VK->Prop
noncomputable abbrev TT:=St->Hp->(KS->Hp->Prop)->Prop
noncomputable abbrev TA:=St->Hp->(gs V->Hp->Prop)->Prop
structure Ends where
 nx:St->Hp->Prop
 rt:VK
 bk:St->Hp->Prop:=λ_ _=>False
 ct:St->Hp->Prop:=λ_ _=>False
noncomputable abbrev TS:=Ends->St->Hp->Prop
def EP (X:Cx) (pins:Dc) (σ:St) (Q:VK) (u:ia) (s':ib):Prop:=∃v H',Inv X pins σ H' s'/\RelV v u/\Q v H'
def TP (X:Cx) (pins:Dc) (σ:St) (Q:KS->Hp->Prop) (b:KS) (s':ib):Prop:=∃H',Inv X pins σ H' s'/\Q b H'
def AP (X:Cx) (pins:Dc) (σ:St) (Q:gs V->Hp->Prop) (us:E') (s':ib):Prop:=∃vs H',Inv X pins σ H' s'/\Vals vs us/\Q vs H'
def SP (X:Cx) (pins:Dc) (D:Ends) (f:Flow) (s':ib):Prop:=
 match f with
 | .next=>∃σ' H',Inv X pins σ' H' s'/\D.nx σ' H'
 | .brk=>∃σ' H',Inv X pins σ' H' s'/\D.bk σ' H'
 | .cont=>∃σ' H',Inv X pins σ' H' s'/\D.ct σ' H'
 | .ret u=>∃v σ' H',Inv X pins σ' H' s'/\RelV v u/\D.rt v H'
def PE (X:Cx) (e:Ko) (t:TE):Prop:=
 ∀(pins:Dc) (s:ib) (σ:St) (H:Hp) (Q:VK),Inv X pins σ H s->t σ H Q->ka (oD X.prog X.w) X.A (eval e X.env) (EP X pins σ Q) X.xe s
def PT (X:Cx) (e:Ko) (t:TT):Prop:=
 ∀(pins:Dc) (s:ib) (σ:St) (H:Hp) (Q:KS->Hp->Prop),Inv X pins σ H s->t σ H Q->ka (oD X.prog X.w) X.A (isTrue e X.env (eval e X.env)) (TP X pins σ Q) X.xe s
def PW (X:Cx) (e:Ko) (t:TT):Prop:=
 ∀(O:Sem ia) (pins:Dc) (s:ib) (σ:St) (H:Hp) (Q:KS->Hp->Prop),Inv X pins σ H s->t σ H Q->ka (oD X.prog X.w) X.A (isTrue e X.env O) (TP X pins σ Q) X.xe s
theorem PW.pt {X:Cx} {e:Ko} {t:TT} (h:PW X e t):PT X e t:=h _
def PA (X:Cx) (es:gs Ko) (t:TA):Prop:=
 ∀(pos:Pos) (pins:Dc) (s:ib) (σ:St) (H:Hp) (Q:gs V->Hp->Prop),Inv X pins σ H s->t σ H Q->ka (oD X.prog X.w) X.A (spliced (backTo pos (px es X.env))) (AP X pins σ Q) X.xe s
def PS (X:Cx) (st:N9) (t:TS):Prop:=
 ∀(pins:Dc) (s:ib) (σ:St) (H:Hp) (D:Ends),Inv X pins σ H s->t D σ H->ka (oD X.prog X.w) X.A (exec st X.env) (SP X pins D) X.xe s
def PSs (X:Cx) (st:gs N9) (t:TS):Prop:=
 ∀(pins:Dc) (s:ib) (σ:St) (H:Hp) (D:Ends),Inv X pins σ H s->t D σ H->ka (oD X.prog X.w) X.A (execs st X.env) (SP X pins D) X.xe s
theorem thn {α:Type} {t:Sem α} {Q Q':α->ib->Prop} {M:Model} {A:Kj} {E:DL} {s:ib} (h:ka M A t Q E s) (υ:∀a s,Q a s->Q' a s):ka M A t Q' E s:=Mt h υ λ_ _ x=>x
section
variable {X:Cx}
noncomputable def tVar (i:Nat):TE:=fun σ H Q=>∃v,σ[i]? =ak (ak v)/\Q v H
noncomputable abbrev tC (v:V):TE:=λ_ H Q=>Q v H
theorem HX {i:Nat} {x:Kz} {pos:Pos} (α:X.N[i]? =ak x) (Z:Vis X.env.scope x) (hd:(x == ("__debug__":Kz))=false:=by decide) (η:(x == ("__classdict__":Kz))=false:=by decide):PE X (.Name x pos) (tVar i):=by
 intro pins s σ H Q I h;obtain⟨v,e,h⟩:=h;obtain⟨m,hn,hl⟩:=I.loc;obtain⟨u,r,l⟩:=hl i x v α e Z;have fin:EP X pins σ Q u s:=⟨v,H,I,r,h⟩;rcases l with ⟨hk,hm⟩ | ⟨hk,c,Y,O⟩
 ·exact RW (wpAny_loadName_local I.ok.kind hk hn hm fin) hd
 ·rcases hk with hk | hk
  ·exact RW (wpAny_loadName_cell I.ok.kind hk Y O fin) hd
  ·exact RW (wpAny_loadName_free I.ok.kind hk Y O fin η) hd
theorem af {i j pos}:PE X (.Constant (.int i) j pos) (tC (.int i)):=λ_ _ _ H _ I h=>wpAny_Constant_int ⟨.int i,H,I.tok _,⟨_,rfl⟩,h⟩
theorem lg {b j pos}:PE X (.Constant (.bool b) j pos) (tC (.bl b)):=λ_ _ _ H _ I h=>Constant_bool ⟨.bl b,H,I,rfl,h⟩
theorem Es {j pos}:PE X (.Constant .none j pos) (tC .non):=λ_ _ _ H _ I h=>Constant_none ⟨.non,H,I,rfl,h⟩
theorem gC {x j pos}:PE X (.Constant (.str x) j pos) (tC (.str x)):=λ_ _ _ H _ I h=>Calls.Constant_str ⟨.str x,H,I.tok _,⟨_,rfl⟩,h⟩
def Gl (X:Cx) (x:Kz):Prop:=X.env.kindOf x=ak .globalImplicit
theorem tL {E:DL} {pins:Dc} {s:ib} {σ:St} {H:Hp} {x:Kz} {u:ia} {pos:Pos} {Q:DL} (I:Inv X pins σ H s) (O:Gl X x) (hm:X.mg x=ak u) (h:Q u s)
  (hd:(x == ("__debug__":Kz))=false:=by decide):ka (oD X.prog X.w) X.A (eval (.Name x pos) X.env) Q E s:=
 PV I.ok.kind O (Calls.loadGlobal_global (by rw[I.ok.glob];exact I.mod.glob.keeps I.bk) hm h) hd
theorem i6 {E:DL} {pins:Dc} {s:ib} {σ:St} {H:Hp} {x:Kz} {u:ia} {pos:Pos} {Q:DL} (I:Inv X pins σ H s) (Y:Gl X x) (hm:X.mg x=hB) (O:bootBuiltins x=ak u) (h:Q u s)
  (hn:x≠"__name__":=by decide) (hd:(x == ("__debug__":Kz))=false:=by decide):ka (oD X.prog X.w) X.A (eval (.Name x pos) X.env) Q E s:=by
 obtain⟨Z,h1,h2⟩:=I.mod.blt;exact PV I.ok.kind Y (Calls.loadGlobal_builtin (by rw[I.ok.glob];exact I.mod.glob.keeps I.bk) hm (by rw[I.ok.blt];exact h1.keeps I.bk) ((h2 x hn).trans O) h) hd
theorem tz {x:Kz} {v:V} {u:ia} {pos:Pos} (O:Gl X x) (hm:X.mg x=ak u) (r:RelV v u) (hd:(x == ("__debug__":Kz))=false:=by decide):PE X (.Name x pos) (tC v):=
 λ_ _ _ H _ I h=>tL I O hm ⟨v,H,I,r,h⟩ hd
theorem iQ {x:Kz} {v:V} {u:ia} {pos:Pos} (Y:Gl X x) (hm:X.mg x=hB) (O:bootBuiltins x=ak u) (r:RelV v u) (hn:x≠"__name__":=by decide) (hd:(x == ("__debug__":Kz))=false:=by decide):PE X (.Name x pos) (tC v):=
 λ_ _ _ H _ I h=>i6 I Y hm O ⟨v,H,I,r,h⟩ hn hd
variable {a b:Ko} {ta tb:TE} {pos:Pos}
def PC (X:Cx) (φ:CmpOp) (a b:Ko) (t:TE):Prop:=
 ∀(pins:Dc) (s:ib) (σ:St) (H:Hp) (Q:VK),Inv X pins σ H s->t σ H Q->
  ka (oD X.prog X.w) X.A (eval a X.env) (λv Y=>ka (oD X.prog X.w) X.A (eval b X.env) (λu O=>ka (oD X.prog X.w) X.A (compareOp φ v u) (EP X pins σ Q) X.xe O) X.xe Y) X.xe s
noncomputable abbrev tB (t:TE):TT:=fun σ H Q=>t σ H λx H1=>∃c,x= .bl c/\Q c H1
theorem Eo {φ:CmpOp} {t:TE} (h:PC X φ a b t) (h1:behindInMarks φ b=false:=by first | exact nobehind _ (by decide) (by decide) | rfl):PT X (.Compare a [φ] [b] pos) (tB t):=by
 intro pins s σ H Q I hw;refine Rr (thn (h pins s σ H _ I hw) λv γ h1=>thn h1 λu β h2=>thn h2 λc α ⟨x,H1,Z,O,Y⟩=>?_) h1;obtain⟨d,rfl,q⟩:=Y;cases O;exact Mb ⟨H1,Z,q⟩
theorem cw {e:Ko} {t:TE} (h:PE X e t) (he:∀O,isTrue e X.env O=(do let v <-O;standAt e.pos;holding [v] (truthy v)):=by intro _;rfl):PT X e (tB t):=by
 intro pins s σ H Q I hw;refine isTrue_plain (thn (h pins s σ H _ I hw) λv β ⟨x,H1,α,Y,Z⟩=>?_) (he _);obtain⟨d,rfl,q⟩:=Z;cases Y;exact Mb ⟨H1,α,q⟩
variable {tA tB':TT} {rest:gs Ko}
noncomputable abbrev tAnd (t u:TT):TT:=fun σ H Q=>t σ H λc H1=>if c=true then u σ H1 Q else Q false H1
noncomputable abbrev tOr (t u:TT):TT:=fun σ H Q=>t σ H λc H1=>if c=true then Q true H1 else u σ H1 Q
noncomputable abbrev tNot (t:TT):TT:=fun σ H Q=>t σ H λc H1=>Q (!c) H1
theorem v5 (ha:PT X a tA):PW X (.BoolOp .And [a] pos) tA:=by
 intro O pins s σ H Q I h;refine isTrue_and (thn (ha pins s σ H Q I h) λc Y e=>?_);cases c with
 | true=>exact isTrue_and_nil e
 | false=>exact e
theorem ij (ha:PT X a tA):PW X (.BoolOp .Or [a] pos) tA:=by
 intro O pins s σ H Q I h;refine isTrue_or (thn (ha pins s σ H Q I h) λc Y e=>?_);cases c with
 | false=>exact isTrue_or_nil e
 | true=>exact e
theorem Ap (ha:PT X a tA) (hb:PW X (.BoolOp .And (b::rest) pos) tB'):PW X (.BoolOp .And (a::b::rest) pos) (tAnd tA tB'):=by
 intro Z pins s σ H Q I h;refine isTrue_and (thn (ha pins s σ H _ I h) λc α ⟨H1,Y,O⟩=>?_);cases c with
 | true=>exact hb Z pins α σ H1 Q Y O
 | false=>exact⟨H1,Y,O⟩
theorem iE (ha:PT X a tA) (hb:PW X (.BoolOp .Or (b::rest) pos) tB'):PW X (.BoolOp .Or (a::b::rest) pos) (tOr tA tB'):=by
 intro Z pins s σ H Q I h;refine isTrue_or (thn (ha pins s σ H _ I h) λc α ⟨H1,Y,O⟩=>?_);cases c with
 | true=>exact⟨H1,Y,O⟩
 | false=>exact hb Z pins α σ H1 Q Y O
theorem cS (ha:PT X a tA):PT X (.UnaryOp .Not a pos) (tNot tA):=by
 intro pins s σ H Q I h;exact isTrue_not (ha pins s σ H (λc H1=>Q (!c) H1) I h)
noncomputable abbrev Ju (ta tb:TE):TE:=fun σ H Q=>ta σ H λx H1=>∃c,x= .bl c/\if c=true then tb σ H1 Q else Q (.bl false) H1
noncomputable abbrev Jr (ta:TE):TE:=fun σ H Q=>ta σ H λx H1=>∃c,x= .bl c/\Q (.bl (!c)) H1
theorem uQ {op} {t:TE} (h:PE X a t):PE X (.BoolOp op [a] pos) t:=λpins s σ H Q I hw=>BoolOp_one (h pins s σ H Q I hw)
theorem nP (ha:PE X a ta) (hb:PE X (.BoolOp .And (b::rest) pos) tb):PE X (.BoolOp .And (a::b::rest) pos) (Ju ta tb):=by
 intro pins s σ H Q I h;refine BoolOp_and (thn (ha pins s σ H _ I h) λv Z ⟨x,H1,Y,α,O⟩=>?_);obtain⟨c,rfl,O⟩:=O;cases α;refine Mb ?_;cases c with
 | true=>exact hb pins Z σ H1 Q Y O
 | false=>exact⟨.bl false,H1,Y,rfl,O⟩
theorem Er (ha:PE X a ta):PE X (.UnaryOp .Not a pos) (Jr ta):=by
 intro pins s σ H Q I h;refine UnaryOp_ (thn (ha pins s σ H _ I h) λv α ⟨x,H1,Z,Y,O⟩=>?_);obtain⟨c,rfl,O⟩:=O;cases Y;exact not_of (Mb ⟨.bl (!c),H1,Z,rfl,O⟩)
noncomputable abbrev tIf (t:TT) (ta tb:TE):TE:=fun σ H Q=>t σ H λc H1=>if c=true then ta σ H1 Q else tb σ H1 Q
theorem CU {c:Ko} (hc:PT X c tA) (ha:PE X a ta) (hb:PE X b tb):PE X (.IfExp c a b pos) (tIf tA ta tb):=by
 intro pins s σ H Q I h;refine wpAny_IfExp (thn (hc pins s σ H _ I h) λd O ⟨H1,Z,Y⟩=>?_);cases d with
 | true=>exact ha pins O σ H1 Q Z Y
 | false=>exact hb pins O σ H1 Q Z Y
end
def SqL (K:aS) (H:Hp) (a:gn) (xs:gs V):Prop:=
 Rd H a (.lst xs)∨
  ∃(o:P8) (its:G') (n:Nat),K.lookup a=ak o/\o.cls= .type "list"/\o.dict=hB/\o.data= .seq its n/\its.size<=lx/\Vals xs its.toList
def SqT (K:aS) (H:Hp) (a:gn) (xs:gs V):Prop:=
 Rd H a (.tup xs)∨
  ∃(o:P8) (its:G') (n:Nat),K.lookup a=ak o/\o.cls= .type "tuple"/\o.data= .seq its n/\its.size<=lx/\Vals xs its.toList
noncomputable def absV:ia->rl V
 | .none=>ak .non
 | .bool b=>ak (.bl b)
 | .int i _=>ak (.int i)
 | .str x _=>ak (.str x)
 | .bytes b _=>ak (.byt b)
 | .float b _=>ak (.flt b)
 | .ref a=>ak (.ref a)
 | .type n=>ak (.ty n)
 | _=>hB
theorem RelV.abs {x:V} {u:ia} (r:RelV x u):absV u=ak x:=by
 cases x with
 | non=>cases r;rfl
 | bl _=>cases r;rfl
 | int _=>obtain⟨t,rfl⟩:=r;rfl
 | str _=>obtain⟨t,rfl⟩:=r;rfl
 | byt _=>obtain⟨t,rfl⟩:=r;rfl
 | flt _=>obtain⟨t,rfl⟩:=r;rfl
 | ref _=>cases r;rfl
 | ty _=>cases r;rfl
theorem RelV.inj {x y:V} {u:ia} (r:RelV x u) (q:RelV y u):x=y:=kf (r.abs.symm.trans q.abs)
theorem Vals.inj:∀{xs ys:gs V} {us:E'},Vals xs us->Vals ys us->xs=ys
 | _,_,_,.nil,.nil=>rfl
 | _,_,_,.cons r t,.cons r' t'=>by rw[r.inj r',Vals.inj t t']
section
variable {X:Cx} {pins:Dc} {σ:St} {H:Hp} {s:ib} {a:gn} {xs ys:gs V}
theorem SqL.of {K:aS} (h:H a=ak (.lst xs)):SqL K H a xs:= .inl (.inl h)
theorem SqT.of {K:aS} (h:H a=ak (.tup xs)):SqT K H a xs:= .inl (.inl h)
theorem Inv.list (I:Inv X pins σ H s) (h:SqL X.K H a xs):∃its:E',Vals xs its/\PlainL s.heap a its.toArray/\xs.length<=sizeLine:=by
 rcases h with h | ⟨o,its,n,hk,O,hd,hs,hz,r⟩
 ·obtain⟨z,its,n,r,e⟩:=h.ok I.hok;exact⟨its,r,⟨_,n,e,rfl,rfl,rfl⟩,z⟩
 ·refine⟨its.toList,r,⟨o,n,I.kIn a o hk,O,hd,by simpa using hs⟩,?_⟩;have e:=r.length;simp only[ic] at e;omega
theorem Inv.tuple (I:Inv X pins σ H s) (h:SqT X.K H a xs):∃its:E',Vals xs its/\IsTup s.heap a its.toArray/\xs.length<=sizeLine:=by
 rcases h with h | ⟨o,its,n,hk,O,hs,hz,r⟩
 ·obtain⟨z,its,r,p⟩:=h.ok I.hok;exact⟨its,r,p,z⟩
 ·refine⟨its.toList,r,⟨o,I.kIn a o hk,O,n,by simpa using hs⟩,?_⟩;have e:=r.length;simp only[ic] at e;omega
theorem Inv.list_inj (I:Inv X pins σ H s) (h:SqL X.K H a xs) (h':SqL X.K H a ys):xs=ys:=by
 obtain⟨its,r,⟨o,n,e,_,_,d⟩,_⟩:=I.list h;obtain⟨its',r',⟨o',Z,O,_,_,d'⟩,_⟩:=I.list h';rw[e] at O;cases O;rw[d] at d';injection d' with Y _
 have:its=its':=by simpa using zt S2 Y
 subst this;exact r.inj r'
theorem Inv.tuple_inj (I:Inv X pins σ H s) (h:SqT X.K H a xs) (h':SqT X.K H a ys):xs=ys:=by
 obtain⟨its,r,⟨o,e,_,n,d⟩,_⟩:=I.tuple h;obtain⟨its',r',⟨o',O,_,Z,d'⟩,_⟩:=I.tuple h';rw[e] at O;cases O;rw[d] at d';injection d' with Y _
 have:its=its':=by simpa using zt S2 Y
 subst this;exact r.inj r'
end
noncomputable abbrev Cx.wish (X:Cx) (E:DL):Cx:={X with xe:=E}
noncomputable abbrev Cx.nox (X:Cx):Cx:=X.wish λ_ _=>False
theorem Cx.Ok.wish {X:Cx} (ok:X.Ok) (E:DL):(X.wish E).Ok:=
 ⟨ok.mod,ok.kind,ok.glob,ok.blt,ok.above,ok.inj,ok.has,ok.cab,ok.hd,ok.frames,ok.stk,ok.exf,ok.bs,ok.bsz,ok.noex,ok.exfs,ok.funs,ok.frf⟩
theorem Cx.Ok.unwish {X:Cx} {E:DL} (ok:(X.wish E).Ok):X.Ok:=
 ⟨ok.mod,ok.kind,ok.glob,ok.blt,ok.above,ok.inj,ok.has,ok.cab,ok.hd,ok.frames,ok.stk,ok.exf,ok.bs,ok.bsz,ok.noex,ok.exfs,ok.funs,ok.frf⟩
section
variable {X:Cx} {pins:Dc} {σ:St} {H:Hp} {s:ib} {E:DL}
theorem Inv.wish (I:Inv X pins σ H s) (E:DL):Inv (X.wish E) pins σ H s:=⟨I.ok.wish E,I.os,I.bare,I.base,I.loc,I.cell,I.free,I.freeC,I.pin,I.hok,I.len⟩
theorem Inv.unwish (I:Inv (X.wish E) pins σ H s):Inv X pins σ H s:=⟨I.ok.unwish,I.os,I.bare,I.base,I.loc,I.cell,I.free,I.freeC,I.pin,I.hok,I.len⟩
theorem SP.unwish {D:Ends} {f:Flow} {s':ib} (h:SP (X.wish E) pins D f s'):SP X pins D f s':=by
 cases f with
 | next=>obtain⟨σ',H',I,q⟩:=h;exact⟨σ',H',I.unwish,q⟩
 | brk=>obtain⟨σ',H',I,q⟩:=h;exact⟨σ',H',I.unwish,q⟩
 | cont=>obtain⟨σ',H',I,q⟩:=h;exact⟨σ',H',I.unwish,q⟩
 | ret u=>obtain⟨v,σ',H',I,r,q⟩:=h;exact⟨v,σ',H',I.unwish,r,q⟩
theorem PSs.nox {st:gs N9} {t:TS} (h:PSs X.nox st t):PSs X st t:=λpins s σ H D I hw=>
 Mt (h pins s σ H D (I.wish _) hw) (λ_ _ q=>q.unwish) λ_ _ z=>KD z
end
section
variable {X:Cx} {st:N9} {rest:gs N9} {t u:TS} {e:Ko} {te:TE} {pos:Pos}
noncomputable def GO:TS:=λD σ H=>D.nx σ H
noncomputable def tSeq (t u:TS):TS:=λD σ H=>t {D with nx:=u D} σ H
theorem aL:PSs X [] GO:=λ_ _ σ H _ I h=>OP ⟨σ,H,I,h⟩
theorem ae (h1:PS X st t) (h2:PSs X rest u):PSs X (st::rest) (tSeq t u):=by
 intro pins s σ H D I h;refine Q5 (thn (h1 pins s σ H {D with nx:=u D} I h) λf O q=>?_);cases f with
 | next=>
   obtain⟨σ',H',Y,q⟩:=q;exact h2 pins O σ' H' D Y q
 | ret v=>exact q
 | brk=>exact q
 | cont=>exact q
theorem ai (h1:PS X st t):PSs X [st] t:=by
 intro pins s σ H D I h;refine Q5 (thn (h1 pins s σ H D I h) λf O q=>?_);cases f with
 | next=>exact OP q
 | ret v=>exact q
 | brk=>exact q
 | cont=>exact q
theorem Inv.quiet {pins:Dc} {σ:St} {H:Hp} {s:ib} (I:Inv X pins σ H s):interactive X.env=false:=by simp[interactive,I.ok.kind]
noncomputable abbrev Js (te:TE):TS:=λD σ H=>te σ H λ_ H1=>D.nx σ H1
theorem c6 (he:PE X e te) (hs:swapsWith e hB pos.line X.env=pure false:=by rfl):PS X (.Expr e pos) (Js te):=by
 intro pins s σ H D I h;exact wpAny_Expr_any (thn (he pins s σ H _ I h) λv Z ⟨x,H1,Y,α,O⟩=>⟨σ,H1,Y,O⟩) I.quiet hs
noncomputable abbrev tRet (te:TE):TS:=λD σ H=>te σ H D.rt
theorem aC (he:PE X e te):PS X (.Return (ak e) pos) (tRet te):=by
 intro pins s σ H D I h;exact wpAny_Return_some (thn (he pins s σ H _ I h) λv α ⟨x,H1,Z,O,Y⟩=>⟨x,σ,H1,Z,O,Y⟩)
noncomputable abbrev tIfS (c:TT) (t u:TS):TS:=λD σ H=>c σ H λb H1=>if b=true then t D σ H1 else u D σ H1
theorem cI {c:Ko} {a b:gs N9} {tc:TT} (hc:PT X c tc) (ha:PSs X a t) (hb:PSs X b u):PS X (.If c a b pos) (tIfS tc t u):=by
 intro pins s σ H D I h;refine wpAny_If (thn (hc pins s σ H _ I h) λd O ⟨H1,Z,Y⟩=>?_);cases d with
 | true=>exact ha pins O σ H1 D Z Y
 | false=>exact hb pins O σ H1 D Z Y
end
noncomputable abbrev TG:=V->St->Hp->(St->Hp->Prop)->Prop
noncomputable abbrev TGs:=gs V->St->Hp->(St->Hp->Prop)->Prop
def PG (X:Cx) (O:Ko) (t:TG):Prop:=
 ∀(pins:Dc) (s:ib) (σ:St) (H:Hp) (v:V) (u:ia) (Q:St->Hp->Prop),Inv X pins σ H s->RelV v u->t v σ H Q->
  ka (oD X.prog X.w) X.A (assign O X.env u) (λ_ s'=>∃σ' H',Inv X pins σ' H' s'/\Q σ' H') X.xe s
def PGs (X:Cx) (ts:gs Ko) (t:TGs):Prop:=
 ∀(pins:Dc) (s:ib) (σ:St) (H:Hp) (vs:gs V) (us:E') (Q:St->Hp->Prop),Inv X pins σ H s->Vals vs us->t vs σ H Q->
  ka (oD X.prog X.w) X.A (assignInOrder ((assignEach ts X.env).map (·.2)) us) (λ_ s'=>∃σ' H',Inv X pins σ' H' s'/\Q σ' H') X.xe s
noncomputable abbrev TSet:=V->V->V->Hp->(Hp->Prop)->Prop
def PSet (X:Cx) (t:TSet):Prop:=
 ∀(pins:Dc) (s:ib) (σ:St) (H:Hp) (o i v:V) (O Y u:ia) (Q:Hp->Prop),Inv X pins σ H s->RelV o O->RelV i Y->RelV v u->t o i v H Q->
  ka (oD X.prog X.w) X.A (setItem O Y u) (λ_ s'=>∃H',Inv X pins σ H' s'/\Q H') X.xe s
section
variable {X:Cx} {pos:Pos}
noncomputable def Bc (i:Nat):TG:=λv σ H Q=>Q (σ.set i (ak v)) H
theorem ax {i:Nat} {x:Kz} (O:X.N.Nodup) (hi:X.N[i]? =ak x) (hx:Loc X.env.scope x) (hf:X.fn x=true∨X.env.scope.names.lookup x=ak .local:=by first | exact .inl rfl | exact .inr rfl | assumption):PG X (.Name x pos) (Bc i):=by
 intro pins s σ H v u Q I r h;exact S4 (wZ I O hi hx r (λs' Y=>⟨_,H,Y,h⟩) hf)
noncomputable def gNil:TGs:=λvs σ H Q=>vs=[]/\Q σ H
noncomputable def Gi (t:TG) (u:TGs):TGs:=λvs σ H Q=>∃v r,vs=v::r/\t v σ H fun σ' H'=>u r σ' H' Q
theorem ik:PGs X [] gNil:=by
 intro pins s σ H vs us Q I r h;obtain⟨e,h⟩:=h;subst e;cases r;exact assignInOrder_nil ⟨σ,H,I,h⟩
theorem aM {e:Ko} {es:gs Ko} {t:TG} {u:TGs} (h1:PG X e t) (h2:PGs X es u)
  (hs:(assignEach (e::es) X.env).map (·.2)=assign e X.env::(assignEach es X.env).map (·.2):=by rfl):PGs X (e::es) (Gi t u):=by
 intro pins s σ H vs us Q I r h;obtain⟨v,γ,α,h⟩:=h;subst α;cases r with
 | cons r Y=>
   rw[hs];refine assignInOrder_cons (thn (h1 pins s σ H _ _ _ I r h) λ_ O ⟨ε,H1,β,Z⟩=>?_);exact h2 pins O ε H1 _ _ Q β Y Z
noncomputable def gTup (K:aS) (n:Nat) (t:TGs):TG:=λv σ H Q=>∃a xs,v= .ref a/\SqT K H a xs/\xs.length=n/\t xs σ H Q
theorem nO {es:gs Ko} {k:Nat} {t:TGs} {n:Nat} (hc:X.calm=true) (h:PGs X es t)
  (hn:(assignEach es X.env).length=n:=by rfl) (η:(assignEach es X.env).findIdx? (·.1)=none:=by rfl):PG X (.Tuple es k pos) (gTup X.K n t):=by
 intro pins s σ H v u Q I r hw;obtain⟨a,xs,α,Z,hl,hw⟩:=hw;subst α;cases r;obtain⟨its,O,ht,hz⟩:=I.tuple Z;refine assign_Tuple_tuple (I.ok.hd hc) ht (by simp[hn,<-hl,O.length]) η λh' Y=>?_;have β:Inv X pins σ H {s with heap:=h'}:=I.kept (t':=s.toks) λb o e=>Y b o (Kn (hJ e)) e;exact h pins _ σ H xs _ Q β (by simpa using O) hw
noncomputable def gSub (to ti:TE) (t:TSet):TG:=λv σ H Q=>to σ H λo H1=>ti σ H1 λi H2=>t o i v H2 λO=>Q σ O
theorem HW {o i:Ko} {to ti:TE} {t:TSet} (ho:PE X o to) (hi:PE X i ti) (hs:PSet X t)
  (ha:∀v,assign (.Subscript o i pos) X.env v=(do
   let O <-holding [v] (eval o X.env)
   let Y <-holding [v,O] (eval i X.env)
   standAt pos
   holding [v,O,Y] (setItem O Y v)
   release [v,O,Y] []):=by intro _;rfl):PG X (.Subscript o i pos) (gSub to ti t):=by
 intro pins s σ H v u Q I r h;rw[ha];refine cc (Le (thn (ho pins s σ H _ I h) λO α ⟨x,H1,θ,γ,ζ⟩=>?_));refine cc (Le (thn (hi pins α σ H1 _ θ ζ) λY Z ⟨y,H2,ω,β,δ⟩=>?_));refine cc (QP (cc (Le (thn (hs pins Z σ H2 x y v O Y u _ ω γ β r δ) λ_ ν ⟨ι,η,ε⟩=>?_))));exact wpAny_release ⟨σ,ι,η,ε⟩
noncomputable abbrev tAsg (te:TE) (g:TG):TS:=λD σ H=>te σ H λx H1=>g x σ H1 D.nx
theorem Aq {tg e:Ko} {te:TE} {g:TG} (he:PE X e te) (α:PG X tg g) (hs:swapsWithSole [tg] e pos.line X.env=pure false:=by rfl) (hw:swappedStores [tg] e X.env=pure none:=by rfl)
  (h1:(assignEach [tg] X.env).map (·.2)=[assign tg X.env]:=by rfl):PS X (.Assign [tg] e pos) (tAsg te g):=by
 intro pins s σ H D I h;refine wpAny_Assign_stores (thn (he pins s σ H _ I h) λv O ⟨x,H1,β,Y,Z⟩=>?_) hs hw;rw[h1];exact thn (α pins O σ H1 x v _ β Y Z) λ_ γ q=>q
theorem au {i:Nat} {x:Kz} {e:Ko} {te:TE} {pos':Pos} (Z:X.N.Nodup) (hi:X.N[i]? =ak x) (hx:Loc X.env.scope x) (he:PE X e te) (hs:swapsWith e (ak (.Name x pos')) pos.line X.env=pure false:=by rfl) (hf:X.fn x=true∨X.env.scope.names.lookup x=ak .local:=by first | exact .inl rfl | exact .inr rfl | assumption):
  PS X (.Assign [.Name x pos'] e pos) (tAsg te (Bc i)):=by
 intro pins s σ H D I h;refine wpAny_Assign_Name (thn (he pins s σ H _ I h) λv γ ⟨y,H1,α,O,Y⟩=>?_) hs;exact wZ α Z hi hx O (fun β ω=>⟨_,H1,ω,Y⟩) hf
end
section
variable {X:Cx} {pos:Pos}
noncomputable def GM (c:TT) (tb:TS):TS:=λD σ H=>∃W:Nat->St->Hp->Prop,(∃m,W m σ H)/\∀m σ H,W m σ H->
 c σ H λb H1=>if b=true then ∃N:St->Hp->Prop,(∀σ' H',N σ' H'->∃O,O < m/\W O σ' H')/\tb {D with nx:=N,ct:=N,bk:=D.nx} σ H1 else D.nx σ H1
theorem lO {c:Ko} {O:gs N9} {tc:TT} {tb:TS} (θ:PassesOwn (oD X.prog X.w) X.A X.env X.xe) (hc:PT X c tc) (hb:PSs X O tb):PS X (.While c O [] pos) (GM tc tb):=by
 intro pins s σ H D I h;obtain⟨W,⟨π,w0⟩,Y⟩:=h;refine wpAny_While (codeAny_whileLoop (λn s'=>∃σ' H',Inv X pins σ' H' s'/\W n σ' H') ?_ π ⟨σ,H,I,w0⟩);rintro n ο ⟨ε,H1,ρ,ν⟩;refine MG θ (thn (hc pins ο ε H1 _ ρ (Y n ε H1 ν)) λb ξ ⟨H2,ω,δ⟩=>?_);cases b with
 | true=>
   obtain⟨N,ι,δ⟩:=δ;rw[qb rfl];refine MG θ (thn (hb pins ξ ε H2 _ ω δ) λf υ α=>?_);cases f with
   | next=>
     obtain⟨ζ,Z,η,β⟩:=α;obtain⟨γ,hm,τ⟩:=ι ζ Z β;exact⟨γ,hm,ζ,Z,η,τ⟩
   | cont=>
     obtain⟨ζ,Z,η,β⟩:=α;obtain⟨γ,hm,τ⟩:=ι ζ Z β;exact⟨γ,hm,ζ,Z,η,τ⟩
   | brk=>exact α
   | ret v=>exact α
 | false=>
   rw[ov iv];exact OP ⟨ε,H2,ω,δ⟩
end
structure It where
 go:Nat->Hp->Prop
 yld:Nat->Hp->V->Hp->Prop
 stop:Nat->Hp->Prop
def FpOk (X:Cx) (pins:Dc) (H:Hp) (b:gn):Prop:=
 H b=hB/\b≠X.env.locals/\b∉X.fs/\(b∈X.ex∨X.s₀.heap.objs.size<=b)/\(∀x c,X.env.cells.lookup x=ak c->c≠b)/\∀p∈X.pn++pins,p.1≠b
theorem Inv.fpOk {X:Cx} {pins:Dc} {σ:St} {H H':Hp} {s:ib} {b:gn} (I:Inv X pins σ H s) (hb:s.heap.objs.size<=b) (hn:H' b=hB):FpOk X pins H' b:=by
 refine⟨hn,KJ (f' I.lt hb),I.nofs hb,.inr (Lf I.sz hb),λx c e z=>?_,λp O z=>?_⟩
 ·obtain⟨v,q⟩:=I.cell x c e;exact kv (f' q.lt (by rw[z];exact hb)) (Lz _)
 ·exact kv (f' (hJ (I.pin p O).1) (by rw[z];exact hb)) (Lz _)
structure Turn (P:qc) (w:y3) (K:aS) (tg:Ko) (J:It) (fp:K0) (it:gn) (tn:Nat->Ke->Prop):Prop where
 mem:it∈fp
 obj:∀i h,tn i h->∀b∈fp,∃o,h.get? b=ak o/\∀v,o.data≠.cell v
 keep:∀i h h',tn i h->(∀b∈fp,∀o,h.get? b=ak o->h'.get? b=ak o)->tn i h'
 item:∀(X:Cx),X.prog=P->X.w=w->X.K=K->X.calm=true->∀(i:Nat) (pins:Dc) (s:ib) (σ:St) (H:Hp) (E:DL),Inv X pins σ H s->(∀b∈fp,FpOk X pins H b)->tn i s.heap->J.go i H->
  ka (oD P w) X.A (pyNext (.ref it)) (λr s1=>∃u,r=ak u/\
   ka (oD P w) X.A (letOwnedTupleGo tg (.ref it) u) (λ_ s2=>∃x H',Inv X pins σ H' s2/\RelV x u/\J.yld i H x H'/\tn (i + 1) s2.heap/\∀b∈fp,H' b=hB) E s1) E s
 done:∀(X:Cx),X.prog=P->X.w=w->X.K=K->X.calm=true->∀(i:Nat) (pins:Dc) (s:ib) (σ:St) (H:Hp) (E:DL),Inv X pins σ H s->(∀b∈fp,FpOk X pins H b)->tn i s.heap->J.stop i H->
  ka (oD P w) X.A (pyNext (.ref it)) (λr s1=>r=hB/\Inv X pins σ H s1) E s
 self:∀(A:Kj) (i:Nat) (s:ib) (Q:DL) (E:DL),tn i s.heap->Q (.ref it) s->ka (oD P w) A (pyIter (.ref it)) Q E s
noncomputable abbrev TI:=St->Hp->(It->Hp->Prop)->Prop
def PIE (X:Cx) (pins:Dc) (σ:St) (tg:Ko) (R:It->Hp->Prop) (O:ia) (Y:ib):Prop:=
 ∃(it:gn) (fp:K0) (δ:Nat->Ke->Prop) (J:It) (H':Hp),O= .ref it/\Inv X pins σ H' Y/\Turn X.prog X.w X.K tg J fp it δ/\δ 0 Y.heap/\(∀b∈fp,FpOk X pins H' b)/\R J H'
def PI (X:Cx) (tg iter:Ko) (O:TI):Prop:=
 ∀(pins:Dc) (s:ib) (σ:St) (H:Hp) (R:It->Hp->Prop),Inv X pins σ H s->O σ H R->
  ka (oD X.prog X.w) X.A (eval iter X.env) (λv Y=>ka (oD X.prog X.w) X.A (pyIter v) (PIE X pins σ tg R) X.xe Y) X.xe s
theorem Gh {M:Model} {A:Kj} {E:DL} {s:ib} {tg:Ko} {it:gn} {u:ia} {o:P8} {n:Lh} {vs:G'} {Q:J9} (ho:s.heap.get? it=ak o) (hc:o.cls= .type n) (hd:o.data= .fields vs)
  (hn:["enumerate","zip","dict_itemiterator","dict_reverseitemiterator","odict_iterator","itertools.zip_longest","itertools.pairwise"].contains n=false) (υ:Q () s):ka M A (letOwnedTupleGo tg (.ref it) u) Q E s:=by
 unfold letOwnedTupleGo
 cases tg<;>first
  | exact hF υ
  | (cases u<;>first
    | exact hF υ
    | (refine cc (RV ho ?_)
       rw[hc,hd];show ka M A (if (["enumerate","zip","dict_itemiterator","dict_reverseitemiterator","odict_iterator","itertools.zip_longest","itertools.pairwise"].contains n&&vs[0]? == ak (rawInt _))=true then _ else _) Q E s;rw[ov (by intro h;rw[hn,Ln] at h;cases h)];exact hF υ))
noncomputable def Itl (K:aS) (a:gn):It:=
 ⟨λi H=>∃xs x,SqL K H a xs/\xs[i]? =ak x,λi H x H'=>H'=H/\∀xs,SqL K H a xs->xs[i]? =ak x,λi H=>∃xs,SqL K H a xs/\xs.length<=i⟩
noncomputable def Itt (K:aS) (a:gn):It:=
 ⟨λi H=>∃xs x,SqT K H a xs/\xs[i]? =ak x,λi H x H'=>H'=H/\∀xs,SqT K H a xs->xs[i]? =ak x,λi H=>∃xs,SqT K H a xs/\xs.length<=i⟩
noncomputable def Itr (lo:Int) (n:Nat):It:=⟨λi _=>i < n,λi H x H'=>H'=H/\x= .int (lo + i),λi _=>n<=i⟩
theorem zB {P:qc} {w:y3} {K:aS} {tg:Ko} (a it:gn):Turn P w K tg (Itl K a) [it] it (λi h=>h.IsListIter it a i) where
 mem:=by simp
 obj:=λi h st b hb=>by
  have e:b=it:=by simpa using hb
  subst e;obtain⟨o,e,c,d⟩:=st;exact⟨o,e,λv z=>by rw[d] at z;cases z⟩
 keep:=λi h h' st k=>st.at λo e=>k it @D o e
 item:=by
  intro X γ hw δ ν i pins s σ H E I hf st β;subst γ hw δ;obtain⟨xs,x,Y,α⟩:=β;obtain⟨its,Z,p,hz⟩:=I.list Y;obtain⟨u,hu,ξ⟩:=Z.get α;obtain⟨π,ι,ρ,θ,η,ζ⟩:=hf it @D;refine wpAny_pyNext_list_item st p.isList (x:=u) (by simpa using hu) λh' O ε=>?_;have υ:Inv X pins σ H {s with heap:=h'}:=I.turned (t':=s.toks) (λb o hb e=>(ε.2 b hb).trans e) π ι θ η ζ;obtain⟨o,e,c,d⟩:=id O;exact⟨u,rfl,Gh (s:={s with heap:=h'}) e c d @C ⟨x,H,υ,ξ,⟨rfl,λys ο=>by rw[I.list_inj ο Y];exact α⟩,O,λb hb=>(hf b hb).1⟩⟩
 done:=by
  intro X γ hw δ ν i pins s σ H E I hf st β;subst γ hw δ;obtain⟨xs,Y,α⟩:=β;obtain⟨its,Z,p,hz⟩:=I.list Y;obtain⟨π,ι,ρ,θ,η,ζ⟩:=hf it @D;have hl:=Z.length;exact wpAny_pyNext_list_end (I.ok.hd ν) st p.isList (by simp;omega) λh' τ=>⟨rfl,I.turned (t':=s.toks) (λb o hb e=>τ b o hb e) π ι θ η ζ⟩
 self:=λ_ _ _ _ _ st h=>wpAny_pyIter_listiter st h
theorem xW {P:qc} {w:y3} {K:aS} {tg:Ko} (a it:gn):Turn P w K tg (Itt K a) [it] it (λi h=>h.IsTupleIter it a i) where
 mem:=by simp
 obj:=λi h st b hb=>by
  have e:b=it:=by simpa using hb
  subst e;obtain⟨o,e,c,d⟩:=st;exact⟨o,e,λv z=>by rw[d] at z;cases z⟩
 keep:=λi h h' st k=>st.at λo e=>k it @D o e
 item:=by
  intro X γ hw δ ν i pins s σ H E I hf st β;subst γ hw δ;obtain⟨xs,x,Y,α⟩:=β;obtain⟨its,Z,p,hz⟩:=I.tuple Y;obtain⟨u,hu,ξ⟩:=Z.get α;obtain⟨π,ι,ρ,θ,η,ζ⟩:=hf it @D;refine wpAny_pyNext_tuple_item st (show s.heap.IsTuple a its.toArray from p) (x:=u) (by simpa using hu) λh' O ε=>?_;have υ:Inv X pins σ H {s with heap:=h'}:=I.turned (t':=s.toks) (λb o hb e=>(ε.2 b hb).trans e) π ι θ η ζ;obtain⟨o,e,c,d⟩:=id O;exact⟨u,rfl,Gh (s:={s with heap:=h'}) e c d @C ⟨x,H,υ,ξ,⟨rfl,λys ο=>by rw[I.tuple_inj ο Y];exact α⟩,O,λb hb=>(hf b hb).1⟩⟩
 done:=by
  intro X γ hw δ ν i pins s σ H E I hf st β;subst γ hw δ;obtain⟨xs,Y,α⟩:=β;obtain⟨its,Z,p,hz⟩:=I.tuple Y;obtain⟨π,ι,ρ,θ,η,ζ⟩:=hf it @D;have hl:=Z.length;exact wpAny_pyNext_tuple_end (I.ok.hd ν) st (show s.heap.IsTuple a its.toArray from p) (by simp;omega) λh' τ=>⟨rfl,I.turned (t':=s.toks) (λb o hb e=>τ b o hb e) π ι θ η ζ⟩
 self:=λ_ _ _ _ _ st h=>wpAny_pyIter_tupleiter st h
theorem xX {P:qc} {w:y3} {K:aS} {tg:Ko} (it:gn) (lo:Int) (n:Nat):Turn P w K tg (Itr lo n) [it] it (λi h=>IsRangeIter h it (lo + (i:Nat) * 1) ((n:Int) - (i:Nat)) 1) where
 mem:=by simp
 obj:=λi h st b hb=>by
  have e:b=it:=by simpa using hb
  subst e
  exact⟨_,st,λv z=>by
   have η:Data.fields _=Data.cell v:=z;cases η⟩
 keep:=λi h h' st k=>k it @D _ st
 item:=by
  intro X α hw β Z i pins s σ H E I hf st Y;subst α hw β;obtain⟨π,ζ,ν,ε,δ,γ⟩:=hf it @D;have W:=Walks.range (prog:=X.prog) (w:=X.w) (I.ok.hd Z) it lo 1 n;refine W.item i s _ _ Y st λv h' tk ι O θ=>?_;obtain⟨t,rfl⟩:=ι;have ο:Inv X pins σ H {s with heap:=h',toks:=tk}:=I.turned (λb o hb e=>θ b o (by simpa using hb) e) π ζ ε δ γ;refine⟨_,rfl,Gh (s:={s with heap:=h',toks:=tk}) (n:="range_iterator") O rfl rfl @C ⟨.int (lo + i),H,ο,⟨t,?_⟩,⟨rfl,rfl⟩,O,λb hb=>(hf b hb).1⟩⟩;rw[Int.mul_one]
 done:=by
  intro X α hw β Z i pins s σ H E I hf st Y;subst α hw β;obtain⟨π,ζ,ν,ε,δ,γ⟩:=hf it @D;exact wpAny_pyNext_range_end (I.ok.hd Z) st (by have:n<=i:=Y;omega) λh' ξ=>⟨rfl,I.turned (t':=s.toks) (λb o hb e=>ξ b o hb e) π ζ ε δ γ⟩
 self:=λ_ _ _ _ _ st h=>wpAny_pyIter_rangeiter st h
section
variable {X:Cx} {tg:Ko}
noncomputable abbrev ID (K:aS) (tl:TE):TI:=fun σ H R=>tl σ H λx H1=>∃a,x= .ref a/\(∃xs,SqL K H1 a xs)/\R (Itl K a) H1
noncomputable abbrev iTup (K:aS) (tl:TE):TI:=fun σ H R=>tl σ H λx H1=>∃a,x= .ref a/\(∃xs,SqT K H1 a xs)/\R (Itt K a) H1
theorem FV {l:Ko} {tl:TE} (hl:PE X l tl):PI X tg l (ID X.K tl):=by
 intro pins s σ H R I h;refine thn (hl pins s σ H _ I h) λv O ⟨x,H1,I1,Y,Z⟩=>?_;obtain⟨a,e,⟨xs,α⟩,q⟩:=Z;subst e;cases Y;obtain⟨its,β,p,hz⟩:=I1.list α;refine MP p.isList ?_;refine⟨O.heap.objs.size,[O.heap.objs.size],_,_,H1,rfl,I1.kept (t':=O.toks) λb o e=>hE _ e,zB a _,⟨_,lT _ rfl,rfl,rfl⟩,λb hb=>?_,q⟩;have e:b=O.heap.objs.size:=by simpa using hb
 subst e;exact I1.fpOk (ri _) (I1.hok.fresh (ri _))
theorem HV {l:Ko} {tl:TE} (hl:PE X l tl):PI X tg l (iTup X.K tl):=by
 intro pins s σ H R I h;refine thn (hl pins s σ H _ I h) λv O ⟨x,H1,I1,Y,Z⟩=>?_;obtain⟨a,e,⟨xs,α⟩,q⟩:=Z;subst e;cases Y;obtain⟨its,β,p,hz⟩:=I1.tuple α;refine O3 (show O.heap.IsTuple a its.toArray from p) ?_;refine⟨O.heap.objs.size,[O.heap.objs.size],_,_,H1,rfl,I1.kept (t':=O.toks) λb o e=>hE _ e,xW a _,⟨_,lT _ rfl,rfl,rfl⟩,λb hb=>?_,q⟩;have e:b=O.heap.objs.size:=by simpa using hb
 subst e;exact I1.fpOk (ri _) (I1.hok.fresh (ri _))
theorem xh {pins:Dc} {σ:St} {H:Hp} {s:ib} {R:It->Hp->Prop} {E:DL} {lo hi:Int} {t u v:Tok} {tk:Nat} (I:Inv X pins σ H s) (h1: -(2 ^ 62)<=lo) (h2:lo < 2 ^ 62) (O: -(2 ^ 62)<=hi) (θ:hi < 2 ^ 62)
  (q:R (Itr lo (hi - lo).toNat) H):ka (oD X.prog X.w) X.A (pyIter (.ref s.heap.objs.size)) (PIE X pins σ tg R) E {s with heap:=s.heap.push {cls:= .type "range",data:= .fields #[.int lo t,.int hi u,.int 1 v]},toks:=tk}:=by
 refine wpAny_pyIter_range (IsRange.new ..) (small_one h1 h2 O θ) ?_;have I1:Inv X pins σ H {s with heap:=s.heap.push {cls:= .type "range",data:= .fields #[.int lo t,.int hi u,.int 1 v]},toks:=tk}:=I.kept λb o e=>hE _ e
 refine⟨(s.heap.push {cls:= .type "range",data:= .fields #[.int lo t,.int hi u,.int 1 v]}).objs.size,[(s.heap.push {cls:= .type "range",data:= .fields #[.int lo t,.int hi u,.int 1 v]}).objs.size],_,_,H,rfl,
  I1.kept (t':=tk) λb o e=>hE _ e,xX _ lo (hi - lo).toNat,?_,λb hb=>?_,q⟩
 ·have Z:lo + ((0:Nat):Int) * 1=lo:=by simp
  have Y:(((hi - lo).toNat:Nat):Int) - ((0:Nat):Int)=Builtin.Range.rangeSize lo hi 1:=by rw[rangeSize_one];split<;>omega
  show IsRangeIter _ _ (lo + ((0:Nat):Int) * 1) ((((hi - lo).toNat:Nat):Int) - ((0:Nat):Int)) 1;rw[Z,Y];exact lT _ rfl
 ·have e:b=(s.heap.push {cls:= .type "range",data:= .fields #[.int lo t,.int hi u,.int 1 v]}).objs.size:=by simpa using hb
  subst e;exact I1.fpOk (ri _) (I1.hok.fresh (ri _))
noncomputable abbrev JX (ta:TA):TI:=fun σ H R=>ta σ H λvs H1=>∃j:Int,vs=[.int j]/\-(2 ^ 62)<=j/\j < 2 ^ 62/\R (Itr 0 j.toNat) H1
noncomputable abbrev JW (ta:TA):TI:=fun σ H R=>ta σ H λvs H1=>∃i j:Int,vs=[.int i,.int j]/\(-(2 ^ 62)<=i/\i < 2 ^ 62/\-(2 ^ 62)<=j/\j < 2 ^ 62)/\R (Itr i (j - i).toNat) H1
theorem fg {a:Ko} {ta:TA} {p pos:Pos} (α:Gl X "range") (hm:X.mg "range"=hB) (ha:PA X [a] ta) (hs:px [a] X.env=[(false,eval a X.env)]:=by rfl):PI X tg (.Call (.Name "range" p) [a] [] pos) (JX ta):=by
 intro pins s σ H R I h;refine Qv (i6 I α hm boot_range (Km (thn (ha pos pins s σ H _ I h) λus γ ⟨vs,H1,β,Z,O⟩=>?_) hs rfl));obtain⟨j,e,O,δ,q⟩:=O;subst e;cases Z with
 | cons r Y=>
   cases Y;obtain⟨t,rfl⟩:=r;exact call_range_1 (xh β @A @A O δ (by simpa using q))
theorem Aw {a b:Ko} {ta:TA} {p pos:Pos} (ε:Gl X "range") (hm:X.mg "range"=hB) (ha:PA X [a,b] ta) (hs:px [a,b] X.env=[(false,eval a X.env),(false,eval b X.env)]:=by rfl) (O:px [b] X.env=[(false,eval b X.env)]:=by rfl):
  PI X tg (.Call (.Name "range" p) [a,b] [] pos) (JW ta):=by
 intro pins s σ H R I h;refine Qv (i6 I ε hm boot_range (Km (thn (ha pos pins s σ H _ I h) λus η ⟨vs,H1,ζ,α,Z⟩=>?_) (by rw[hs,O]) (by rw[O];rfl)));obtain⟨i,j,e,⟨Z,δ,γ,β⟩,q⟩:=Z;subst e;cases α with
 | cons r Y=>
   cases Y with
   | cons r' Y=>
     cases Y;obtain⟨t,rfl⟩:=r;obtain⟨t',rfl⟩:=r';exact call_range_2 (xh ζ Z δ γ β q)
noncomputable def tFor (Y:TI) (g:TG) (tb:TS):TS:=λD σ H=>Y σ H λJ H1=>∃W:Nat->Nat->St->Hp->Prop,(∃m,W 0 m σ H1)/\∀i m σ H,W i m σ H->
 (J.stop i H/\D.nx σ H)∨(J.go i H/\∃N:St->Hp->Prop,(∀σ' H',N σ' H'->∃O,O < m/\W (i + 1) O σ' H')/\∀x H',J.yld i H x H'->g x σ H' fun ν H2=>tb {D with nx:=N,ct:=N,bk:=D.nx} ν H2)
noncomputable def uP (fp:K0) (h:Ke):Dc:=fp.filterMap λb=>(h.get? b).map λo=>(b,o)
theorem kn {fp:K0} {h:Ke} {b:gn} {o:P8} (hb:b∈fp) (e:h.get? b=ak o):(b,o)∈uP fp h:=OY.mpr ⟨b,hb,by rw[e];rfl⟩
theorem AF {fp:K0} {h:Ke} {p:gn×P8} (O:p∈uP fp h):p.1∈fp/\h.get? p.1=ak p.2:=by
 obtain⟨b,hb,e⟩:=OY.mp O;cases q:h.get? b with
 | none=>rw[q] at e;cases e
 | some o=>
   rw[q] at e;have Y:(b,o)=p:=kf e;subst Y;exact⟨hb,q⟩
theorem Inv.pinned {pins:Dc} {σ:St} {H:Hp} {s:ib} {fp:K0} (I:Inv X pins σ H s) (hf:∀b∈fp,FpOk X pins H b) (ho:∀b∈fp,∃o,s.heap.get? b=ak o/\∀v,o.data≠.cell v):Inv X (pins++uP fp s.heap) σ H s:=
 I.pins_of λp Y=>(oT.mp Y).elim (λz=>I.pin p (nv _ z)) λz=>by
  obtain⟨hb,e⟩:=AF z;obtain⟨π,α,Z,_⟩:=hf p.1 hb;obtain⟨o,O,d⟩:=ho p.1 hb;rw[e] at O;cases O;exact⟨e,π,α,Z,d⟩
theorem Inv.unpinned {pins pl:Dc} {σ:St} {H:Hp} {s:ib} (I:Inv X (pins++pl) σ H s):Inv X pins σ H s:=I.pins_of λp O=>I.pin p (nv _ (qB _ O))
theorem eX {iter:Ko} {O:gs N9} {wi:TI} {g:TG} {tb:TS} {pos:Pos} (γ:PassesOwn (oD X.prog X.w) X.A X.env X.xe) (hc:X.calm=true) (hi:PI X tg iter wi) (hg:PG X tg g) (hb:PSs X O tb)
  (hs:∀x,foldedSetIterable iter X.env x=pure x:=by intro _;rfl):PS X (.For tg iter O [] pos) (tFor wi g tb):=by
 intro pins s σ H D I h;refine wpAny_For (thn (hi pins s σ H _ I h) λv s1 h1=>thn h1 λa0 s2 h2=>?_) hs;obtain⟨it,fp,δ,J,H2,e,I2,T,ν,f2,W,⟨m0,w0⟩,Y⟩:=h2;subst e;have θ:∀{H':Hp},(∀b∈fp,H' b=hB)->∀b∈fp,FpOk X pins H' b:=λhn b hb=>⟨hn b hb,(f2 b hb).2⟩;refine codeAny_forLoop_any (λn s'=>∃i σ' H',Inv X pins σ' H' s'/\δ i s'.heap/\(∀b∈fp,H' b=hB)/\W i n σ' H') ?_ m0 ⟨0,σ,H2,I2,ν,λb hb=>(f2 b hb).1,w0⟩;rintro n s3 ⟨i,ζ,ε,I3,υ,χ,τ⟩;rcases Y i n ζ ε τ with ⟨stop,ω⟩ | ⟨go,N,hN,step⟩
 ·refine MG γ (thn (T.done X rfl rfl rfl hc i pins s3 ζ ε X.xe I3 (θ χ) υ stop) λr s4 ⟨ο,I4⟩=>?_);subst ο;exact OP ⟨ζ,ε,I4,ω⟩
 ·refine MG γ (thn (T.item X rfl rfl rfl hc i pins s3 ζ ε X.xe I3 (θ χ) υ go) λr s4 ⟨u,ο,h4⟩=>?_);subst ο;refine MG γ (thn h4 λ_ s5 ⟨x,H5,I5,ψ,y5,β,π⟩=>?_);have ρ:=I5.pinned (θ π) (T.obj _ _ β);refine MG γ (thn (hg _ s5 ζ H5 x u _ ρ ψ (step x H5 y5)) λ_ s6 ⟨ι,H6,I6,q6⟩=>?_);refine MG γ (thn (hb _ s6 ι H6 _ I6 q6) λf ξ α=>?_)
  have again:∀{η:St} {Z:Hp},Inv X (pins++uP fp s5.heap) η Z ξ->N η Z->∃m,m < n/\∃i σ' H',Inv X pins σ' H' ξ/\δ i ξ.heap/\(∀b∈fp,H' b=hB)/\W i m σ' H':=λ{η Z} I7 φ=>by
   obtain⟨m',hm,w7⟩:=hN η Z φ;refine⟨m',hm,i + 1,η,Z,I7.unpinned,T.keep _ _ _ β λb hb o e=>(I7.pin (b,o) (nv _ (nv _ (kn hb e)))).1,λb hb=>?_,w7⟩;obtain⟨o,e,d⟩:=T.obj _ _ β b hb;exact(I7.pin (b,o) (nv _ (nv _ (kn hb e)))).2.1
  cases f with
  | next=>obtain⟨η,Z,I7,φ⟩:=α;exact again I7 φ
  | cont=>obtain⟨η,Z,I7,φ⟩:=α;exact again I7 φ
  | brk=>obtain⟨η,Z,I7,α⟩:=α;exact⟨η,Z,I7.unpinned,α⟩
  | ret v=>obtain⟨x7,η,Z,I7,r7,α⟩:=α;exact⟨x7,η,Z,I7.unpinned,r7,α⟩
end
theorem fu {K:aS} {a:gn} {xs:gs V} {g:TG} {tb:TS} {D:Ends} {σ:St} {H:Hp} (O:Nat->St->Hp->Prop) (h0:O 0 σ H) (hl:∀i σ H,i<=xs.length->O i σ H->SqL K H a xs)
  (hs:∀i x σ H,xs[i]? =ak x->O i σ H->g x σ H fun ν H2=>tb {D with nx:=O (i + 1),ct:=O (i + 1),bk:=D.nx} ν H2) (hd:∀σ H,O xs.length σ H->D.nx σ H):
  ∃W:Nat->Nat->St->Hp->Prop,(∃m,W 0 m σ H)/\∀i m σ H,W i m σ H->
    ((Itl K a).stop i H/\D.nx σ H)∨((Itl K a).go i H/\∃N:St->Hp->Prop,(∀σ' H',N σ' H'->∃Z,Z < m/\W (i + 1) Z σ' H')/\∀x H',(Itl K a).yld i H x H'->g x σ H' fun ν H2=>tb {D with nx:=N,ct:=N,bk:=D.nx} ν H2):=by
 refine⟨λi m σ H=>m=xs.length - i/\i<=xs.length/\O i σ H,⟨xs.length,@D,LI _,h0⟩,?_⟩;rintro i m σ H ⟨rfl,hi,p⟩;have q:=hl i σ H hi p;by_cases Y:i < xs.length
 ·refine .inr ⟨⟨xs,xs[i],q,by simp[Y]⟩,O (i + 1),fun σ' H' ρ=>⟨xs.length - (i + 1),by omega,rfl,Y,ρ⟩,λx H' y=>?_⟩;obtain⟨e,y⟩:=y;subst e;exact hs i x σ _ (y xs q) p
 ·have e:i=xs.length:=by omega
  subst e;exact .inl ⟨⟨xs,q,ri _⟩,hd σ H p⟩
theorem qh {lo:Int} {n:Nat} {g:TG} {tb:TS} {D:Ends} {σ:St} {H:Hp} (Y:Nat->St->Hp->Prop) (h0:Y 0 σ H)
  (hs:∀i σ H,i < n->Y i σ H->g (.int (lo + i)) σ H fun ν H2=>tb {D with nx:=Y (i + 1),ct:=Y (i + 1),bk:=D.nx} ν H2) (hd:∀σ H,Y n σ H->D.nx σ H):
  ∃W:Nat->Nat->St->Hp->Prop,(∃m,W 0 m σ H)/\∀i m σ H,W i m σ H->
    ((Itr lo n).stop i H/\D.nx σ H)∨((Itr lo n).go i H/\∃N:St->Hp->Prop,(∀σ' H',N σ' H'->∃Z,Z < m/\W (i + 1) Z σ' H')/\∀x H',(Itr lo n).yld i H x H'->g x σ H' fun ν H2=>tb {D with nx:=N,ct:=N,bk:=D.nx} ν H2):=by
 refine⟨λi m σ H=>m=n - i/\i<=n/\Y i σ H,⟨n,@D,LI _,h0⟩,?_⟩;rintro i m σ H ⟨rfl,hi,p⟩;by_cases O:i < n
 ·refine .inr ⟨O,Y (i + 1),fun σ' H' ρ=>⟨n - (i + 1),by omega,rfl,O,ρ⟩,λx H' y=>?_⟩;obtain⟨e,y⟩:=y;subst e y;exact hs i σ _ O p
 ·have e:i=n:=by omega
  subst e;exact .inl ⟨ri _,hd σ H p⟩
noncomputable abbrev R2:=V->V->Hp->VK->Prop
def OpR (X:Cx) (f:ia->ia->Sem ia) (r:R2):Prop:=
 ∀(pins:Dc) (s:ib) (σ:St) (H:Hp) (x y:V) (v u:ia) (Q:VK),Inv X pins σ H s->RelV x v->RelV y u->r x y H Q->
  ka (oD X.prog X.w) X.A (f v u) (EP X pins σ Q) X.xe s
def UnR (X:Cx) (f:ia->Sem ia) (r:V->Hp->VK->Prop):Prop:=
 ∀(pins:Dc) (s:ib) (σ:St) (H:Hp) (x:V) (v:ia) (Q:VK),Inv X pins σ H s->RelV x v->r x H Q->
  ka (oD X.prog X.w) X.A (f v) (EP X pins σ Q) X.xe s
def lJ (X:Cx) (f:ia) (r:gs V->Hp->VK->Prop):Prop:=
 ∀(pins:Dc) (s:ib) (σ:St) (H:Hp) (xs:gs V) (us:E') (Q:VK),Inv X pins σ H s->Vals xs us->r xs H Q->
  ka (oD X.prog X.w) X.A (call f us) (EP X pins σ Q) X.xe s
noncomputable abbrev tOp (r:R2) (ta tb:TE):TE:=fun σ H Q=>ta σ H λx H1=>tb σ H1 λy H2=>r x y H2 Q
noncomputable abbrev tUn (r:V->Hp->VK->Prop) (ta:TE):TE:=fun σ H Q=>ta σ H λx H1=>r x H1 Q
noncomputable def rI (C:Int->Int->Prop) (g:Int->Int->V):R2:=λx y H Q=>∃i j,x= .int i/\y= .int j/\C i j/\Q (g i j) H
noncomputable def rI0 (g:Int->Int->V):R2:=λx y H Q=>∃i j,x= .int i/\y= .int j/\Q (g i j) H
noncomputable def rU (g:Int->V):V->Hp->VK->Prop:=λx H Q=>∃i,x= .int i/\Q (g i) H
section
variable {X:Cx} {a b c:Ko} {ta tb tc:TE} {pos:Pos}
theorem binT (ha:PE X a ta) (hb:PE X b tb) {pins:Dc} {s:ib} {σ:St} {H:Hp} {R:V->V->Hp->Prop} (I:Inv X pins σ H s)
  (h:ta σ H λx H1=>tb σ H1 λy H2=>R x y H2) {Q:DL} {f:ia->ia->Sem ia}
  (hf:∀v u Z x y H2,Inv X pins σ H2 Z->RelV x v->RelV y u->R x y H2->ka (oD X.prog X.w) X.A (f v u) Q X.xe Z):
  ka (oD X.prog X.w) X.A (eval a X.env) (λv Y=>ka (oD X.prog X.w) X.A (eval b X.env) (λu O=>ka (oD X.prog X.w) X.A (f v u) Q X.xe O) X.xe Y) X.xe s:=by
 refine thn (ha pins s σ H _ I h) λv α ⟨x,H1,ζ,γ,ε⟩=>?_;refine thn (hb pins α σ H1 _ ζ ε) λu Z ⟨y,H2,ω,β,δ⟩=>?_;exact hf v u Z x y H2 ω γ β δ
theorem ar {φ:Operator} {r:R2} (ho:OpR X (binaryOp φ) r) (ha:PE X a ta) (hb:PE X b tb):PE X (.BinOp a φ b pos) (tOp r ta tb):=by
 intro pins s σ H Q I h;exact wpAny_BinOp (binT ha hb I h λv u O x y H2 ω Z Y q=>ho pins O σ H2 x y v u Q ω Z Y q)
theorem Ax {φ:UnaryOp} {r:V->Hp->VK->Prop} (ho:UnR X (unaryOp φ) r) (ha:PE X a ta):PE X (.UnaryOp φ a pos) (tUn r ta):=by
 intro pins s σ H Q I h;exact UnaryOp_ (thn (ha pins s σ H _ I h) λv O ⟨x,H1,α,Y,Z⟩=>ho pins O σ H1 x v Q α Y Z)
theorem opI {f:ia->ia->Sem ia} {C:Int->Int->Prop} {g:Int->Int->Int}
  (rule:∀(i j:Int) (t u:Tok) (s:ib) (Q:DL) (E:DL),C i j->Q (.int (g i j) s.toks) {s with toks:=s.toks + 1}->ka (oD X.prog X.w) X.A (f (.int i t) (.int j u)) Q E s):
  OpR X f (rI C λi j=> .int (g i j)):=by
 intro pins s σ H x y v u Q I Y O h;obtain⟨i,j,rfl,rfl,Z,q⟩:=h;obtain⟨t,rfl⟩:=Y;obtain⟨t',rfl⟩:=O;exact rule i j t t' s _ _ Z ⟨.int (g i j),H,I.tok _,⟨_,rfl⟩,q⟩
theorem opI0 {f:ia->ia->Sem ia} {g:Int->Int->Int}
  (rule:∀(i j:Int) (t u:Tok) (s:ib) (Q:DL) (E:DL),Q (.int (g i j) s.toks) {s with toks:=s.toks + 1}->ka (oD X.prog X.w) X.A (f (.int i t) (.int j u)) Q E s):
  OpR X f (rI0 λi j=> .int (g i j)):=by
 intro pins s σ H x y v u Q I Y O h;obtain⟨i,j,rfl,rfl,q⟩:=h;obtain⟨t,rfl⟩:=Y;obtain⟨t',rfl⟩:=O;exact rule i j t t' s _ _ ⟨.int (g i j),H,I.tok _,⟨_,rfl⟩,q⟩
theorem opB0 {f:ia->ia->Sem ia} {g:Int->Int->KS}
  (rule:∀(i j:Int) (t u:Tok) (s:ib) (Q:DL) (E:DL),Q (.bool (g i j)) s->ka (oD X.prog X.w) X.A (f (.int i t) (.int j u)) Q E s):
  OpR X f (rI0 λi j=> .bl (g i j)):=by
 intro pins s σ H x y v u Q I Y O h;obtain⟨i,j,rfl,rfl,q⟩:=h;obtain⟨t,rfl⟩:=Y;obtain⟨t',rfl⟩:=O;exact rule i j t t' s _ _ ⟨.bl (g i j),H,I,rfl,q⟩
def CDiv (i j:Int):Prop:=0 < j/\j < 1073741824
def J5 (i j:Int):Prop:=j≠0/\j.natAbs < 1073741824
def CPow (i j:Int):Prop:=0<=j/\j<=1000000/\i.natAbs < 2 ^ 64
def CMul (i j:Int):Prop:=(-(2 ^ 64) < i/\i < 2 ^ 64)∨(-(2 ^ 64) < j/\j < 2 ^ 64)
theorem CMul.ok {i j:Int} (h:CMul i j):IntMulOk i j:=by
 rcases h with ⟨h1,h2⟩ | ⟨h1,h2⟩
 ·exact .of_left (intBits_le_64 h1 h2)
 ·exact .of_right (intBits_le_64 h1 h2)
theorem xV (k:Nat):(0:Int)<=2 ^ k:=by
 rw[two_pow_cast];exact N0 _
theorem cx:OpR X (binaryOp .Add) (rI0 λi j=> .int (i + j)):=opI0 λ_ _ _ _ _ _ _ q=>add_int q
theorem eJ:OpR X (binaryOp .Sub) (rI0 λi j=> .int (i - j)):=opI0 λ_ _ _ _ _ _ _ q=>sub_int q
theorem iG:OpR X (binaryOp .Mult) (rI CMul λi j=> .int (i * j)):=opI λ_ _ _ _ _ _ _ hc q=>mul_int q hc.ok
theorem lj:OpR X (binaryOp .FloorDiv) (rI CDiv λi j=> .int (i / j)):=opI λi j _ _ _ _ _ hc q=>by
 have h1:(0:Int) < j:=hc.1;have h2:j < 1073741824:=hc.2;exact floordiv_int @A (by rw[Qa i @A];exact q) (.inl (PyProof.noPylong_small @A))
theorem fj:OpR X (binaryOp .Mod) (rI (λ_ j=>0 < j) λi j=> .int (i % j)):=opI λi j _ _ _ _ _ hc q=>by
 have h1:(0:Int) < j:=hc;exact mod_int' @A (by rw[Int.fmod_eq_emod_of_nonneg i @A];exact q)
theorem cE:OpR X (binaryOp .LShift) (rI CPow λi j=> .int (i * 2 ^ j.toNat)):=opI λ_ _ _ _ _ _ _ hc q=>lshift_int_small hc.1 hc.2.1 hc.2.2 q
theorem uR:OpR X (binaryOp .RShift) (rI (λ_ j=>0<=j) λi j=> .int (i / 2 ^ j.toNat)):=opI λi j _ _ _ _ _ hc q=>
 rshift_int hc (by rw[Qa i (xV _)];exact q)
theorem fN:OpR X (binaryOp .BitAnd) (rI0 λi j=> .int (MA i j)):=opI0 λ_ _ _ _ _ _ _ q=>and_int q
theorem JP:OpR X (binaryOp .BitOr) (rI0 λi j=> .int (PR i j)):=opI0 λ_ _ _ _ _ _ _ q=>or_int q
theorem gP:OpR X (binaryOp .BitXor) (rI0 λi j=> .int (On i j)):=opI0 λ_ _ _ _ _ _ _ q=>xor_int q
theorem unI {f:ia->Sem ia} {g:Int->Int}
  (rule:∀(i:Int) (t:Tok) (s:ib) (Q:DL) (E:DL),Q (.int (g i) s.toks) {s with toks:=s.toks + 1}->ka (oD X.prog X.w) X.A (f (.int i t)) Q E s):
  UnR X f (rU λi=> .int (g i)):=by
 intro pins s σ H x v Q I O h;obtain⟨i,rfl,q⟩:=h;obtain⟨t,rfl⟩:=O;exact rule i t s _ _ ⟨.int (g i),H,I.tok _,⟨_,rfl⟩,q⟩
theorem uB:UnR X (unaryOp .USub) (rU λi=> .int (-i)):=unI λ_ _ _ _ _ q=>neg_int q
end
noncomputable def scal:V->V->KS
 | .non,.non=>true | .non,.int _=>true | .int _,.non=>true | .non,.bl _=>true | .bl _,.non=>true | .non,.str _=>true | .str _,.non=>true
 | .int _,.int _=>true | .bl _,.bl _=>true | .str _,.str _=>true | .byt _,.byt _=>true
 | .int _,.str _=>true | .str _,.int _=>true | .bl _,.str _=>true | .str _,.bl _=>true
 | _,_=>false
noncomputable def rEq:R2:=λx y H Q=>scal x y=true/\Q (.bl (decide (x=y))) H
noncomputable def rNe:R2:=λx y H Q=>scal x y=true/\Q (.bl (!decide (x=y))) H
theorem Bw {i j:Int}:decide (V.int i=V.int j)=(i == j):=by
 rw[MY];simp
theorem EE {i j:KS}:decide (V.bl i=V.bl j)=(i == j):=by
 rw[MY];simp
theorem Bv {i j:Kz}:decide (V.str i=V.str j)=(i == j):=by
 rw[MY];simp
theorem Bx {i j:Ll UInt8}:decide (V.byt i=V.byt j)=(i.toList == j.toList):=by
 rw[MY];cases i;cases j;simp
section
variable {X:Cx} {a b c:Ko} {ta tb tc:TE} {pos:Pos}
theorem bO {pins:Dc} {σ:St} {H:Hp} {s:ib} {Q:VK} {k O:KS} (I:Inv X pins σ H s) (q:Q (.bl k) H) (e:k=O):EP X pins σ Q (.bool O) s:=by
 subst e;exact⟨.bl k,H,I,rfl,q⟩
theorem kB:OpR X (compareOp .Eq) rEq:=by
 intro pins s σ H x y v u Q I Y O h;obtain⟨hs,q⟩:=h;cases x with
 | non=>
   cases Y;cases y with
   | non=>cases O;exact PySem.EqNone.eq_none_none (bO I q @D)
   | bl j=>cases O;exact PySem.EqNone.eq_none_bool (bO I q @D)
   | int j=>obtain⟨t',rfl⟩:=O;exact PySem.EqNone.eq_none_int (bO I q @D)
   | str j=>obtain⟨t',rfl⟩:=O;exact PySem.EqNone.eq_none_str (bO I q @D)
   | _=>exact kv (show false=true from hs) iv
 | bl i=>
   cases Y;cases y with
   | non=>cases O;exact PySem.EqNone.eq_bool_none (bO I q @D)
   | bl j=>cases O;exact eq_bool (bO I q EE)
   | str j=>obtain⟨t',rfl⟩:=O;exact PySem.EqMixed.eq_bool_str (bO I q @D)
   | _=>exact kv (show false=true from hs) iv
 | int i=>
   obtain⟨t,rfl⟩:=Y;cases y with
   | non=>cases O;exact PySem.EqNone.eq_int_none (bO I q @D)
   | int j=>obtain⟨t',rfl⟩:=O;exact eq_int (bO I q Bw)
   | str j=>obtain⟨t',rfl⟩:=O;exact PySem.EqMixed.eq_int_str (bO I q @D)
   | _=>exact kv (show false=true from hs) iv
 | str i=>
   obtain⟨t,rfl⟩:=Y;cases y with
   | non=>cases O;exact PySem.EqNone.eq_str_none (bO I q @D)
   | bl j=>cases O;exact PySem.EqMixed.eq_str_bool (bO I q @D)
   | int j=>obtain⟨t',rfl⟩:=O;exact PySem.EqMixed.eq_str_int (bO I q @D)
   | str j=>obtain⟨t',rfl⟩:=O;exact eq_str (bO I q Bv)
   | _=>exact kv (show false=true from hs) iv
 | byt i=>
   obtain⟨t,rfl⟩:=Y;cases y with
   | byt j=>obtain⟨t',rfl⟩:=O;exact PySem.W.eq_bytes (bO I q Bx)
   | _=>exact kv (show false=true from hs) iv
 | _=>cases y<;>exact kv (show false=true from hs) iv
theorem ph:OpR X (compareOp .NotEq) rNe:=by
 intro pins s σ H x y v u Q I Y O h;obtain⟨hs,q⟩:=h;cases x with
 | non=>
   cases Y;cases y with
   | non=>cases O;exact PySem.EqNone.ne_none_none (bO I q @D)
   | bl j=>cases O;exact PySem.EqNone.ne_none_bool (bO I q @D)
   | int j=>obtain⟨t',rfl⟩:=O;exact PySem.EqNone.ne_none_int (bO I q @D)
   | str j=>obtain⟨t',rfl⟩:=O;exact PySem.EqNone.ne_none_str (bO I q @D)
   | _=>exact kv (show false=true from hs) iv
 | bl i=>
   cases Y;cases y with
   | non=>cases O;exact PySem.EqNone.ne_bool_none (bO I q @D)
   | bl j=>cases O;exact ne_bool (bO I q (zt not EE))
   | str j=>obtain⟨t',rfl⟩:=O;exact PySem.EqMixed.ne_bool_str (bO I q @D)
   | _=>exact kv (show false=true from hs) iv
 | int i=>
   obtain⟨t,rfl⟩:=Y;cases y with
   | non=>cases O;exact PySem.EqNone.ne_int_none (bO I q @D)
   | int j=>obtain⟨t',rfl⟩:=O;exact ne_int (bO I q (zt not Bw))
   | str j=>obtain⟨t',rfl⟩:=O;exact PySem.EqMixed.ne_int_str (bO I q @D)
   | _=>exact kv (show false=true from hs) iv
 | str i=>
   obtain⟨t,rfl⟩:=Y;cases y with
   | non=>cases O;exact PySem.EqNone.ne_str_none (bO I q @D)
   | bl j=>cases O;exact PySem.EqMixed.ne_str_bool (bO I q @D)
   | int j=>obtain⟨t',rfl⟩:=O;exact PySem.EqMixed.ne_str_int (bO I q @D)
   | str j=>obtain⟨t',rfl⟩:=O;exact ne_str (bO I q (zt not Bv))
   | _=>exact kv (show false=true from hs) iv
 | byt i=>
   obtain⟨t,rfl⟩:=Y;cases y with
   | byt j=>obtain⟨t',rfl⟩:=O;exact PySem.W.ne_bytes (bO I q (zt not Bx))
   | _=>exact kv (show false=true from hs) iv
 | _=>cases y<;>exact kv (show false=true from hs) iv
theorem CZ:OpR X (compareOp .Lt) (rI0 λi j=> .bl (decide (i < j))):=opB0 λ_ _ _ _ _ _ _ q=>lt_int q
theorem F1:OpR X (compareOp .LtE) (rI0 λi j=> .bl (decide (i<=j))):=opB0 λ_ _ _ _ _ _ _ q=>le_int q
theorem nY:OpR X (compareOp .Gt) (rI0 λi j=> .bl (decide (j < i))):=opB0 λ_ _ _ _ _ _ _ q=>gt_int q
theorem Ie:OpR X (compareOp .GtE) (rI0 λi j=> .bl (decide (j<=i))):=opB0 λ_ _ _ _ _ _ _ q=>ge_int q
theorem FZ:OpR X (compareOp .IsNot) (λx y H Q=>y= .non/\Q (.bl (!decide (x= .non))) H):=by
 intro pins s σ H x y v u Q I O Y h;obtain⟨rfl,q⟩:=h;cases Y;refine isnot_none_gen (bO I q ?_)
 cases x<;>first
  | (cases O;rfl)
  | (obtain⟨t,rfl⟩:=O;rfl)
theorem aI (b:Ko) {φ:CmpOp} (h:φ≠.In:=by decide) (h2:φ≠.NotIn:=by decide):behindInMarks φ b=false:=by
 have Y:(φ == CmpOp.In)=false:=by cases φ<;>first | rfl | exact kv rfl h
 have O:(φ == CmpOp.NotIn)=false:=by cases φ<;>first | rfl | exact kv rfl h2
 cases b<;>simp[behindInMarks,Y,O]
theorem il {φ:CmpOp} {r:R2} (ho:OpR X (compareOp φ) r) (ha:PE X a ta) (hb:PE X b tb) (hm:behindInMarks φ b=false):PE X (.Compare a [φ] [b] pos) (tOp r ta tb):=by
 intro pins s σ H Q I h;exact wpAny_Compare1 (binT ha hb I h λv u O x y H2 ω Z Y q=>ho pins O σ H2 x y v u Q ω Z Y q) hm
noncomputable abbrev Jp (t:TE):TT:=fun σ H Q=>t σ H λx H'=>∃k,x= .bl k/\Q k H'
theorem aD {φ:CmpOp} {r:R2} (ho:OpR X (compareOp φ) r) (ha:PE X a ta) (hb:PE X b tb) (hm:behindInMarks φ b=false):PT X (.Compare a [φ] [b] pos) (Jp (tOp r ta tb)):=by
 intro pins s σ H Q I h
 refine Rr (thn (ha pins s σ H _ I h) λv Z ⟨x,H1,η,β,ε⟩=>thn (hb pins Z σ H1 _ η ε) λu Y ⟨y,H2,ω,α,δ⟩=>
  thn (ho pins Y σ H2 x y v u _ ω β α δ) λc ι ⟨z,θ,ζ,O,k,e,γ⟩=>?_) hm
 subst e;cases O;exact Mb ⟨θ,ζ,γ⟩
noncomputable abbrev GR (r r':R2) (ta tb tc:TE):TE:=fun σ H Q=>ta σ H λx H1=>tb σ H1 λy H2=>r x y H2 λz O=>∃k,z= .bl k/\
 (if k=true then tc σ O λY Z=>r' y Y Z Q else Q (.bl false) O)
theorem CW {φ O:CmpOp} {r r':R2} (ho:OpR X (compareOp φ) r) (α:OpR X (compareOp O) r') (ha:PE X a ta) (hb:PE X b tb) (hc:PE X c tc)
  (hm:lastMarks [φ,O] [b,c]=false:=by with_unfolding_all rfl):PE X (.Compare a [φ,O] [b,c] pos) (GR r r' ta tb tc):=by
 intro pins s σ H Q I h
 refine Compare_chain (thn (ha pins s σ H _ I h) λv ξ ⟨x,H1,ψ,ρ,υ⟩=>chain_link (thn (hb pins ξ σ H1 _ ψ υ) λu ν ⟨y,H2,ω,β,δ⟩=>
  thn (ho pins ν σ H2 x y v u _ ω ρ β δ) λd ι ⟨z,ζ,ε,π,k,e,γ⟩=>?_)) hm
 subst e;cases π;refine Mb ?_;cases k with
 | false=>exact ite_ff ⟨.bl false,ζ,ε,rfl,γ⟩
 | true=>exact ite_tt (chain_last (thn (hc pins ι σ ζ _ ε γ) fun θ Y ⟨η,Z,χ,ο,τ⟩=>α pins Y σ Z y η u θ Q χ β ο τ))
theorem xx:(lx:Nat) < 2 ^ 63:=by rw[qq];decide
theorem zz {x:V} {us:E'} (r:Vals [x] us):∃u,us=[u]/\RelV x u:=by
 cases r with
 | cons Y O=>cases O;exact⟨_,rfl,Y⟩
theorem B5 {x y:V} {us:E'} (r:Vals [x,y] us):∃u Y,us=[u,Y]/\RelV x u/\RelV y Y:=by
 cases r with
 | cons β α=>
   cases α with
   | cons O Z=>cases Z;exact⟨_,_,rfl,β,O⟩
theorem BE (hc:X.calm=true):lJ X (.builtin "max") (λxs H Q=>∃i j,xs=[.int i,.int j]/\Q (.int (if j > i then j else i)) H):=by
 intro pins s σ H xs us Q I r h;obtain⟨i,j,rfl,q⟩:=h;obtain⟨u,Y,rfl,⟨t,rfl⟩,⟨t',rfl⟩⟩:=B5 r;refine max_two_ints (I.ok.hd hc) λh' tk k=>⟨_,H,I.kept k,?_,q⟩;by_cases O:j > i
 ·rw[qb O,qb O];exact⟨_,rfl⟩
 ·rw[ov O,ov O];exact⟨_,rfl⟩
def LenV (K:aS) (x:V) (H:Hp) (n:Nat):Prop:=
 match x with
 | .str y=>y.length<=lx/\n=y.length
 | .byt y=>y.size<=lx/\n=y.size
 | .ref p=>(∃xs,SqL K H p xs/\n=xs.length)∨∃xs,SqT K H p xs/\n=xs.length
 | _=>False
theorem DR:lJ X (.builtin "len") (λxs H Q=>∃x n,xs=[x]/\LenV X.K x H n/\Q (.int n) H):=by
 intro pins s σ H xs us Q I r h;obtain⟨x,n,rfl,e,q⟩:=h;obtain⟨u,rfl,Z⟩:=zz r;have hl:=xx;have hs:lx=16777216:=qq;cases x with
 | str y=>
   obtain⟨t,rfl⟩:=Z;obtain⟨β,Y⟩:y.length<=lx/\n=y.length:=e;subst Y;exact len_str @A ⟨.int _,H,I.tok _,⟨_,rfl⟩,q⟩
 | byt y=>
   obtain⟨t,rfl⟩:=Z;obtain⟨β,Y⟩:y.size<=lx/\n=y.size:=e;subst Y;exact PySem.W.len_bytes @A ⟨.int _,H,I.tok _,⟨_,rfl⟩,q⟩
 | ref p=>
   cases Z;have Y:(∃xs,SqL X.K H p xs/\n=xs.length)∨∃xs,SqT X.K H p xs/\n=xs.length:=e;rcases Y with ⟨xs,α,Y⟩ | ⟨xs,α,Y⟩
   ·subst Y;obtain⟨its,r',pl,hz⟩:=I.list α;have O:=r'.length;exact Calls.call_len_list pl.isList (by simp only[vu];omega) ⟨.int xs.length,H,I.tok _,⟨_,by simp only[vu];rw[O]⟩,q⟩
   ·subst Y;obtain⟨its,r',pl,hz⟩:=I.tuple α;have O:=r'.length;exact len_tuple pl (by simp only[vu];omega) ⟨.int xs.length,H,I.tok _,⟨_,by simp only[vu];rw[O]⟩,q⟩
 | _=>exact(show False from e).elim
end
structure ObjM (h:Ke) (x dx C:gn) (mA:F'):Prop where
 obj:h.get? x=ak (LZ C dx)
 ns:h.Ns1 dx mA
 ne:dx≠x
theorem AK {h:Ke} {dx:gn} {mA:F'} (n:h.Ns1 dx mA):∃od,h.get? dx=ak od/\∀name,Ol name od=ak (mA name):=by
 obtain⟨o,es,ep,ho,hd,hk,_,hm⟩:=n;refine⟨o,ho,λname=>?_⟩;have e:=hm name;unfold nsFind findBy at e;rw[<-Array.find?_toList] at e;unfold Ol;rw[hd];dsimp only;split
 ·rename_i y q;rw[q] at e;exact zt ak e
 ·rename_i q;rw[q] at e
  have a:es.toList.any (·.refKey)=false:=by
   rw[List.any_eq_false];intro y Y;obtain⟨z,t,O⟩:=hk y (Array.mem_toList_iff.mp Y);simp[DictEntry.refKey,O]
  have Z:¬es.toList.any (·.refKey)=true:=by rw[a];exact iv
  rw[ov Z];exact zt ak e
theorem ObjM.look {h:Ke} {x dx C:gn} {mA:F'} (I:ObjM h x dx C mA):∃od,PySem.W.InstAt h x (LZ C dx) C (ak od)/\∀name,Ol name od=ak (mA name):=
 let ⟨od,ho,hl⟩:=AK I.ns
 ⟨od,⟨I.obj,rfl,rfl,ho⟩,hl⟩
section
variable {prog:qc} {w:y3} {A:Kj} {E:DL} {s:ib} {K:aS} {x dx C f:gn} {mA:F'} {name:Kz} {v:ia}
theorem aK {O:KS} {Q:DL} (X:K.In s.heap) (I:ObjM s.heap x dx C mA) (α:NZ K C name=true) (τ:OV K C=true)
  (ha:Kh K (.ref C) name=ak hB) (Y:mA name=ak v) (Z:P2 v=true) (h:Q v {s with toks:=s.toks + 1}):
  ka (oD prog w) A (getAttr (.ref x) name O) Q E s:=by
 obtain⟨od,J,hl⟩:=I.look;exact PySem.W.get_value X J (Ox α).1 (PySem.W.findObj_own τ ha rfl (by rw[hl,Y])) Z h
theorem Di {pl:Sem KS} {Q:ia×gs ia->ib->Prop} (X:K.In s.heap) (I:ObjM s.heap x dx C mA) (O:NZ K C name=true)
  (hf:Kh K (.ref C) name=ak (ak (.ref f))) (ht:OT K (.ref f)=true) (Y:mA name=hB) (h:Q (.ref f,[.ref x]) s):
  ka (oD prog w) A (getMethod (.ref x) name pl) Q E s:=by
 obtain⟨od,J,hl⟩:=I.look;exact PySem.W.method_fn X J (Ox O).1 (Ox O).2 hf (Mu.mp ht) (by show(Ol name od).map (·.isSome)=ak false;rw[hl,Y];rfl) h
theorem Fo {ns:C'} {Q:J9} (X:K.In s.heap) (I:ObjM s.heap x dx C mA)
  (hs:Kh K (.ref C) "__setattr__"=ak (ak (.builtin "object.__setattr__"))) (ε:QK K C=true) (ht:Pk K C name=ak hB) (τ:OV K C=true)
  (hw:Ql mA ns) (hsz:ns.length<=lx)
  (h:∀h',ObjM h' x dx C (λy=>if y=name then ak v else mA y)->LP dx s.heap h'->Q () {s with heap:=h',toks:=s.toks + 2}):
  ka (oD prog w) A (setAttr (.ref x) name v) Q E s:=by
 obtain⟨od,J,hl⟩:=I.look;refine PySem.W.set_plain X J hs (PySem.W.osa_open (s:={s with toks:=s.toks + 1}) (r:=hB) X J ε ht λb=>?_);obtain⟨ψ,ζ,Z⟩:=PySem.W.any_some τ;have δ:s.heap.get? x=ak ⟨.ref C,ak dx,.plain,#[]⟩:=I.obj;refine cc (hF (cc (cc (wpAny_loadPart δ (cc (PySem.W.Looks.here (s:={s with toks:=s.toks + 1}) (PySem.W.looks_clsIn X ζ) ?_))))));rw[Z];refine hF (a:=ak dx) (cc (hF (cc ?_)));refine wpAny_nsSet1 (s:={s with toks:=s.toks + 1}) I.ns λh' Y O=>?_;obtain⟨ι,η,θ,α,β,γ⟩:=Y.count (PySem.Within.cons name v hw);refine cc (wpAny_lookBehind α (by rw[β];exact pastItsLine_dict (Lf γ (by rw[za];omega))) ?_);exact hF (h _ ⟨(O.2 _ (Ka I.ne)).trans I.obj,Y,I.ne⟩ O)
theorem C4 {R:K8} {vs:E'} {O:K'} (X:K.In s.heap) (hm:QZ K C=true)
  (hi:Kh K (.ref C) "__init__"=ak (ak (.ref f))) (hf:Pw K (.ref f)=ak (.type "function"))
  (h:codeAny (oD prog w) (A.under (.builtin "type.__call__" ⟨.ref C::vs,O⟩)) (.call (.ref f) ⟨.ref (s.heap.objs.size + 1)::vs,O⟩) (PySem.W.InitBack (s.heap.objs.size + 1) R)
   {s with heap:=(s.heap.push LL).push (LZ C s.heap.objs.size)}):
  codeAny (oD prog w) A (.call (.ref C) ⟨vs,O⟩) R s:=by
 obtain⟨τ,g,d,t,os⟩:=s;exact PySem.W.make_core (PySem.W.makes_of X hm) (PySem.W.looks_findIn X hi) (λself=>PySem.W.bind_fn X self hf) (.inl rfl) h
end
noncomputable def putF (f:Kz) (v:V):gs (Kz×V)->gs (Kz×V)
 | []=>[(f,v)]
 | (g,x)::r=>if g=f then (g,v)::r else (g,x)::putF f v r
theorem pS (f g:Kz) (v:V):∀fs:gs (Kz×V),(putF f v fs).lookup g=if g=f then ak v else fs.lookup g
 | []=>by
   show Ny g [(f,v)]=_;by_cases h:g=f
   ·have hb:(g == f)=true:=Mu.mpr h;simp only[Ny,hb,qb h]
   ·have hb:(g == f)=false:=Kr.mpr h;simp only[Ny,hb,ov h]
 | (k,x)::r=>by
   have ih:=pS f g v r;rw[show putF f v ((k,x)::r)=(if k=f then (k,v)::r else (k,x)::putF f v r) from rfl];by_cases hk:k=f
   ·rw[qb hk];by_cases h:g=k
    ·have hb:(g == k)=true:=Mu.mpr h;simp only[Ny,hb,qb (h.trans hk)]
    ·have hb:(g == k)=false:=Kr.mpr h;simp only[Ny,hb,ov (λe:g=f=>h (e.trans hk.symm))]
   ·rw[ov hk];by_cases h:g=k
    ·have hb:(g == k)=true:=Mu.mpr h;simp only[Ny,hb,ov (λe:g=f=>hk (h.symm.trans e))]
    ·have hb:(g == k)=false:=Kr.mpr h;simp only[Ny,hb];exact ih
theorem p7 (f:Kz) (v:V):∀fs:gs (Kz×V),f∈(putF f v fs).map (·.1)/\∀g,g∈fs.map (·.1)->g∈(putF f v fs).map (·.1)
 | []=>⟨by simp[putF],λg h=>by simp at h⟩
 | (k,x)::r=>by
   obtain⟨i1,i2⟩:=p7 f v r;rw[show putF f v ((k,x)::r)=(if k=f then (k,v)::r else (k,x)::putF f v r) from rfl];by_cases hk:k=f
   ·rw[qb hk];subst hk;exact⟨@D,λg h=>by simpa using h⟩
   ·rw[ov hk];refine⟨?_,λg h=>?_⟩
    ·rw[KF];exact ky _ i1
    ·rw[KF] at h ⊢;rcases qn.mp h with e | e
     ·exact qn.mpr (.inl e)
     ·exact ky _ (i2 g e)
theorem pX (f:Kz) (v:V):∀fs:gs (Kz×V),(putF f v fs).length<=fs.length + 1
 | []=>by simp[putF]
 | (k,x)::r=>by
   have ih:=pX f v r;rw[show putF f v ((k,x)::r)=(if k=f then (k,v)::r else (k,x)::putF f v r) from rfl];by_cases hk:k=f
   ·rw[qb hk,za,za];omega
   ·rw[ov hk,za,za];omega
theorem RelO.some_of {v:V} {o:KA} (r:RelO (ak v) o):∃u,o=ak u/\RelV v u:=by
 cases o with
 | none=>exact(show False from r).elim
 | some u=>exact⟨u,rfl,r⟩
theorem RelO.none_of {o:KA} (r:RelO hB o):o=none:=by
 cases o with
 | none=>rfl
 | some u=>exact(show False from r).elim
theorem A8 {v:V} {u:ia} (r:RelV v u):P2 u=true:=by
 cases v with
 | non=>cases(show u=KQ from r);rfl
 | bl b=>cases(show u=QR b from r);rfl
 | int i=>obtain⟨t,e⟩:=(show ∃t,u=Pe i t from r);cases e;rfl
 | str x=>obtain⟨t,e⟩:=(show ∃t,u=Qg x t from r);cases e;rfl
 | byt b=>obtain⟨t,e⟩:=(show ∃t,u=S8 b t from r);cases e;rfl
 | flt b=>obtain⟨t,e⟩:=(show ∃t,u=S7 b t from r);cases e;rfl
 | ref a=>cases(show u=y7 a from r);rfl
 | ty n=>cases(show u=MW n from r);rfl
section
variable {P:qc} {w:y3} {H H':Hp} {h h':Ke} {a C dx:gn} {fs fs':gs (Kz×V)}
theorem tS (hok:HOk P w H h) (e:H a=ak (.ins C dx fs)):∃mA,ObjM h a dx C mA/\(∀f,RelO (fs.lookup f) (mA f))/\Ql mA (fs.map (·.1))/\fs.length<=1000/\H dx=ak (.own a):=by
 obtain⟨d,z,ne,ob,mA,n,r,q⟩:=(show fM P w H h a (.ins C dx fs) from hok a _ e);exact⟨mA,⟨ob,n,ne⟩,r,q,z,d⟩
end
structure Cls (K:aS) (C:gn):Prop where
 pg:NZ K C RD=true
 hd:OV K C=true
 po:QK K C=true
 sa:Kh K (.ref C) "__setattr__"=ak (ak (.builtin "object.__setattr__"))
theorem Cls.get {K:aS} {C:gn} (c:Cls K C) (f:Kz):NZ K C f=true:=c.pg
def gQ (K:aS) (C:gn) (f:Kz):Prop:=Kh K (.ref C) f=ak hB
theorem gQ.taker {K:aS} {C:gn} {f:Kz} (n:gQ K C f):Pk K C f=ak none:=by
 unfold Pk;rw[show Kh K (.ref C) f=ak hB from n];rfl
structure Con (K:aS) (C:gn) (f:Kz) (v:V) (u:ia):Prop where
 at_:Kh K (.ref C) f=ak (ak u)
 rel:RelV v u
 get:Mp K u "__get__"=ak hB
 cp:PySem.W.copiedNames.contains f=false
structure Meth (K:aS) (C:gn) (m:Kz) (f:gn):Prop where
 at_:Kh K (.ref C) m=ak (ak (.ref f))
 fn:OT K (.ref f)=true
 kp:Lj K (.ref f)=true
section
variable {X:Cx} {pins:Dc} {σ:St} {H:Hp} {s:ib} {a C dx:gn} {fs:gs (Kz×V)} {f:Kz} {v:V} {A:Kj} {E:DL}
theorem yK {b:KS} {Q:DL} (I:Inv X pins σ H s) (e:H a=ak (.ins C dx fs)) (c:Cls X.K C) (n:gQ X.K C f) (l:fs.lookup f=ak v)
  (h:∀u s',Inv X pins σ H s'->RelV v u->Q u s'):ka (oD X.prog X.w) A (getAttr (.ref a) f b) Q E s:=by
 obtain⟨mA,O,r,_,_,_⟩:=tS I.hok e;obtain⟨u,hu,Y⟩:=RelO.some_of (v:=v) (o:=mA f) (by rw[<-l];exact r f);exact aK I.kIn O (c.get f) c.hd n hu (A8 Y) (h u _ (I.tok _) Y)
theorem ny {m:Kz} {g:gn} {pl:Sem KS} {Q:ia×gs ia->ib->Prop} (I:Inv X pins σ H s) (e:H a=ak (.ins C dx fs)) (c:Cls X.K C) (k:Meth X.K C m g) (l:fs.lookup m=hB)
  (h:Q (.ref g,[.ref a]) s):ka (oD X.prog X.w) A (getMethod (.ref a) m pl) Q E s:=by
 obtain⟨mA,O,r,_,_,_⟩:=tS I.hok e;have hn:mA m=none:=RelO.none_of (by rw[<-l];exact r m);exact Di I.kIn O (c.get m) k.at_ k.fn hn h
theorem ym {y:V} {u:ia} {Q:J9} (I:Inv X pins σ H s) (e:H a=ak (.ins C dx fs)) (c:Cls X.K C) (n:gQ X.K C f) (hl:fs.length < 1000) (Z:RelV y u)
  (h:∀s',Inv X pins σ (upd H a (.ins C dx (putF f y fs))) s'->Q () s'):ka (oD X.prog X.w) A (setAttr (.ref a) f u) Q E s:=by
 obtain⟨mA,O,r,Y,_,ho⟩:=tS I.hok e;have hz:(fs.map (·.1)).length<=sizeLine:=by rw[dt,qq];omega
 refine Fo I.kIn O c.sa c.po n.taker c.hd Y hz λh' O' ε=>h _ ?_;have hd:∃o,h'.get? dx=ak o:=let ⟨o,_,_,β,_⟩:=O'.ns;⟨o,β⟩
 refine I.write (x:=a) (e:=dx) (by rw[e];exact Ob) (.inr ho) (λb q hb z=>(ε.2 b hb).trans z) hd ?_;refine⟨by rw[aJ O.ne];exact ho,?_,O.ne,O'.obj,_,O'.ns,λg=>?_,λg α=>?_⟩
 ·have:=pX f y fs;omega
 ·show RelO ((putF f y fs).lookup g) (if g=f then ak u else mA g);rw[pS];by_cases q:g=f
  ·rw[qb q,qb q];exact Z
  ·rw[ov q,ov q];exact r g
 ·by_cases q:g=f
  ·rw[q];exact(p7 f y fs).1
  ·refine(p7 f y fs).2 g (Y g λz=>α ?_);show(if g=f then ak u else mA g)=hB;rw[ov q];exact z
theorem Inv.made (I:Inv X pins σ H s):Inv X pins σ (upd (upd H s.heap.objs.size (.own (s.heap.objs.size + 1))) (s.heap.objs.size + 1) (.ins C s.heap.objs.size []))
  {s with heap:=(s.heap.push LL).push (LZ C s.heap.objs.size)}:=by
 have O:(s.heap.push LL).get? s.heap.objs.size=ak PySem.W.emptyDict:=lT s.heap rfl
 have α:((s.heap.push LL).push (LZ C s.heap.objs.size)).get? (s.heap.objs.size + 1)=ak (LZ C s.heap.objs.size):=by
  have:=lT (s.heap.push LL) (o:=LZ C s.heap.objs.size) rfl;rwa [LK] at this
 have Z:(s.heap.push LL).Ns s.heap.objs.size (λ_=>hB):=⟨LL,#[],_,O,rfl,(λe he=>kv he @D),λ_=>rfl⟩;have I1:=I.laid (a:=s.heap.objs.size) (o:= .own (s.heap.objs.size + 1)) (h':=s.heap.push LL) (t':=s.toks) (λb u q=>hE _ q) (ri _) ⟨_,O⟩;refine I1.laid (a:=s.heap.objs.size + 1) (o:= .ins C s.heap.objs.size []) (t':=s.toks) (λb u q=>hE _ q) (OL (LK _ _)) ?_;have ne:s.heap.objs.size≠s.heap.objs.size + 1:=Kn (LJ _);refine⟨by rw[aJ ne,aP],LI _,ne,α,λ_=>hB,(Heap.Ns1.of_empty Z).at λo q=>hE _ q,λ_=>Ob,λy Y=>kv rfl Y⟩
theorem Gv {prog:qc} {w:y3} {env:Env} {e:Ko} {f:Kz} {pos:Pos} {s:ib} {Q:DL} (hb:attributeBase e f env (eval e env)=eval e env)
  (h:ka (oD prog w) A (eval e env) (λo O=>ka (oD prog w) A (getAttr o f true) Q E O) E s):ka (oD prog w) A (eval (.Attribute e f pos) env) Q E s:=
 Attribute_any_ h (by rw[arm_eval_Attribute,hb])
end
noncomputable def tFld (K:aS) (ta:TE) (f:Kz):TE:=fun σ H Q=>ta σ H λx H1=>∃a C dx fs v,x= .ref a/\H1 a=ak (.ins C dx fs)/\Cls K C/\gQ K C f/\fs.lookup f=ak v/\Q v H1
noncomputable def sFld (K:aS) (ta tv:TE) (f:Kz):TS:=λD σ H=>tv σ H λy H1=>ta σ H1 λx H2=>∃a C dx fs,x= .ref a/\H2 a=ak (.ins C dx fs)/\Cls K C/\gQ K C f/\fs.length < 1000/\
 D.nx σ (upd H2 a (.ins C dx (putF f y fs)))
section
variable {X:Cx} {o e value:Ko} {f:Kz} {pos pos' tpos:Pos} {ta tv:TE}
theorem HY (he:PE X e ta) (hb:attributeBase e f X.env (eval e X.env)=eval e X.env):PE X (.Attribute e f pos) (tFld X.K ta f):=by
 intro pins s σ H Q I h;refine Gv hb (thn (he pins s σ H _ I h) λu γ ⟨x,H1,Z,O,a,C,dx,fs,v,ex,ea,c,n,l,q⟩=>?_);subst ex;obtain rfl:u=y7 a:=O;exact yK Z ea c n l fun α β ω Y=>⟨v,H1,ω,Y,q⟩
theorem HQ (ha:PE X o ta) (β:PE X value tv) (hs:swapsWith value (ak (.Attribute o f pos')) pos.line X.env=pure false):PS X (.Assign [.Attribute o f pos'] value pos) (sFld X.K ta tv f):=by
 intro pins s σ H D I h;refine plainObj_wpAny_Assign_Attribute (thn (β pins s σ H _ I h) λu O ⟨y,H1,ε,Y,q⟩=>thn (ha pins O σ H1 _ ε q) fun α η ⟨x,H2,ω,Z,a,C,dx,fs,ex,ea,c,n,l,δ⟩=>?_) hs;subst ex;obtain rfl:α=y7 a:=Z;exact ym ω ea c n l Y fun ζ γ=>⟨σ,_,γ,δ⟩
end
section
variable {X:Cx} {pins:Dc} {σ:St} {H:Hp} {s:ib} {A:Kj} {E:DL} {Q:DL} {c:ia} {b:KS}
inductive TyOf (K:aS) (H:Hp):V->ia->Prop where
 | non:TyOf K H .non (.type "NoneType")
 | bl (x:KS):TyOf K H (.bl x) (.type "bool")
 | int (i:Int):TyOf K H (.int i) (.type "int")
 | str (x:Kz):TyOf K H (.str x) (.type "str")
 | flt (x:UInt64):TyOf K H (.flt x) (.type "float")
 | lst {a:gn} {xs:gs V} (e:H a=ak (.lst xs)):TyOf K H (.ref a) (.type "list")
 | frz {a:gn} {o:P8} {xs:gs V} (e:H a=ak (.frz o (.lst xs))):TyOf K H (.ref a) (.type "list")
 | tup {a:gn} {xs:gs V} (e:H a=ak (.tup xs)):TyOf K H (.ref a) (.type "tuple")
 | dK {a:gn} {kvs:gs (Key×V)} (e:H a=ak (.dK kvs)):TyOf K H (.ref a) (.type "dict")
 | dT {a:gn} {kvs:gs (gs Key×V)} (e:H a=ak (.dT kvs)):TyOf K H (.ref a) (.type "dict")
 | ins {a C dx:gn} {fs:gs (Kz×V)} (e:H a=ak (.ins C dx fs)) (cl:Cls K C) (ha:Kh K (.ref C) "__class__"=ak (ak (.builtin "object.__class__")))
   (hn:Mp K (.builtin "object.__class__") "__get__"=ak (ak (.builtin "getset_descriptor.__get__"))) (htk:Pj K (.builtin "object.__class__")=ak true)
   (hm:Lw K C (.type "object")=ak true):TyOf K H (.ref a) (.ref C)
end
structure Room (k:Nat) (A:Kj):Prop where
 hd:A.handled=hB
 dp:A.depth + 3 * k + 5 < recursionLimit
 un:A.units + 16 * k + 200 < cLine
theorem Room.mono {j k:Nat} {A:Kj} (r:Room k A) (h:j<=k):Room j A:=⟨r.hd,by have:=r.dp;omega,by have:=r.un;omega⟩
theorem Room.deeper {k:Nat} {A:Kj} (r:Room (k + 1) A) (env:Env):Room k (A.deeper env):=
 ⟨r.hd,by have:=r.dp;show A.depth + 1 + 3 * k + 5 < _;omega,by have:=r.un;show A.units + 3 + 16 * k + 200 < _;omega⟩
theorem yE {A:Kj} {C:gn} {us:E'} {O:K'}:(A.under (.builtin "type.__call__" ⟨.ref C::us,O⟩)).depth=A.depth + 1:=by
 first | rfl | simp[Qh,Code.weight,Code.isCreation,Code.isGuard,Code.isCaller,Code.frames,Qr,guardIds]
theorem yD {A:Kj} {C:gn} {us:E'} {O:K'}:(A.under (.builtin "type.__call__" ⟨.ref C::us,O⟩)).units=A.units + 1:=by
 first | rfl | simp[Qh,Code.cUnits,Code.frames,Qr]
theorem Room.make {k:Nat} {A:Kj} (r:Room (k + 1) A) (C:gn) (us:E') (O:K'):Room k (A.under (.builtin "type.__call__" ⟨.ref C::us,O⟩)):=
 ⟨r.hd,by have:=r.dp;rw[yE];omega,by have:=r.un;rw[yD];omega⟩
theorem Room.depth {k:Nat} {A:Kj} (r:Room k A):A.depth < recursionLimit:=by have:=r.dp;omega
theorem Room.units {k:Nat} {A:Kj} (r:Room k A):A.units + 64 < cLine:=by have:=r.un;omega
noncomputable abbrev tNil:TA:=λ_ H Q=>Q [] H
noncomputable abbrev Jt (ta:TE) (tr:TA):TA:=fun σ H Q=>ta σ H λx H1=>tr σ H1 λxs H2=>Q (x::xs) H2
section
variable {X:Cx} {e:Ko} {es:gs Ko} {te:TE} {t:TA} {pos:Pos}
theorem ag:PA X [] tNil:=λ_ _ _ _ H Q I h=>P5 ⟨[],H,I,.nil,h⟩
theorem aa (ha:PE X e te) (β:PA X es t) (hs:px (e::es) X.env=(false,eval e X.env)::px es X.env:=by rfl):PA X (e::es) (Jt te t):=by
 intro pos pins s σ H Q I h;rw[hs];show ka _ _ (spliced ((false,eval e X.env)::backTo pos (px es X.env))) _ _ s;refine OW (thn (ha pins s σ H _ I h) λu O ⟨x,H1,γ,Z,α⟩=>?_);exact thn (β pos pins O σ H1 _ γ α) λus ε ⟨xs,H2,ω,Y,δ⟩=>⟨x::xs,H2,ω,.cons Z Y,δ⟩
noncomputable def tTup (t:TA):TE:=fun σ H Q=>t σ H λxs H1=>xs.length<=lx/\∀p,H1 p=hB->Q (.ref p) (upd H1 p (.tup xs))
noncomputable def tLst (t:TA):TE:=fun σ H Q=>t σ H λxs H1=>xs.length<=lx/\∀p,H1 p=hB->Q (.ref p) (upd H1 p (.lst xs))
theorem fh {x1} (h:PA X es t):PE X (.Tuple es x1 pos) (tTup t):=by
 intro pins s σ H Q I Y;refine wpAny_Tuple_spliced (thn (h pos pins s σ H _ I Y) λus O ⟨xs,H1,I1,r,z,q⟩=>⟨by rw[<-r.length];exact z,?_⟩);have hf:H1 O.heap.objs.size=none:=I1.hok.fresh (ri _);refine⟨.ref O.heap.objs.size,upd H1 O.heap.objs.size (.tup xs),I1.laid (t':=O.toks) (λb u e=>hE _ e) (ri _) ?_,rfl,q _ hf⟩;exact⟨z,us,r,⟨_,lT _ rfl,rfl,_,rfl⟩⟩
theorem de (h:PA X es t):PE X (.List es pos) (tLst t):=by
 intro pins s σ H Q I Y;refine wpAny_List_spliced (thn (h pos pins s σ H _ I Y) λus O ⟨xs,H1,I1,r,z,q⟩=>⟨by rw[<-r.length];exact z,?_⟩);have hf:H1 O.heap.objs.size=none:=I1.hok.fresh (ri _);refine⟨.ref O.heap.objs.size,upd H1 O.heap.objs.size (.lst xs),I1.laid (t':=O.toks) (λb u e=>hE _ e) (ri _) ?_,rfl,q _ hf⟩;exact⟨z,us,0,r,lT _ rfl⟩
end
noncomputable abbrev Sp:=gs V->Hp->VK->XK->Prop
noncomputable abbrev CXT:=gs Env->Hp->ib->XK->DL
structure Env0 (P:qc) (w:y3) (K:aS) (mg:F') (base:Ke) (A:Kj) (outer:gs Env) (s:ib) (H:Hp):Prop where
 frames:A.frames=ak outer
 mod:Mod K mg base
 bs:∀b o,base.get? b=ak o->s.heap.get? b=ak o/\H b=hB
 bsz:base.objs.size<=s.heap.objs.size
 funs:s.heap.FunFrames base outer
 frf:∀b∈frs outer,H b=hB
 hok:HOk P w H s.heap
 bare:AllBare s.gens
def CE (outer:gs Env) (P:qc) (w:y3) (H:Hp) (s:ib) (Q:VK) (u:ia) (s':ib):Prop:=
 ∃v H',s'.os=s.os/\AllBare s'.gens/\Un (frs outer) [] H H' s.heap s'.heap/\HOk P w H' s'.heap/\RelV v u/\Q v H'
def CR (CX:CXT) (outer:gs Env) (P:qc) (w:y3) (H:Hp) (s:ib) (Q:VK) (E:XK) (r:Result) (s':ib):Prop:=
 match r with
 | .ok (.ret u)=>CE outer P w H s Q u s'
 | .ok _=>False
 | .error e=>CX outer H s E e s'
structure FnOk (P:qc) (w:y3) (K:aS) (mg:F') (base:Ke) (CX:CXT) (k:Nat) (f:gn) (fd:mu) (ps:C') (sp:Sp):Prop where
 len:∀vs H Q E,sp vs H Q E->vs.length=ps.length
 run:∀(A:Kj) (outer:gs Env) (s:ib) (H:Hp) (args:Args) (us:E') (vs:gs V) (Q:VK) (E:XK),Room k A->Env0 P w K mg base A outer s H->BindsTo s fd args (ps.zip us)->Vals vs us->sp vs H Q E->
  codeAny (oD P w) A (.call (.ref f) args) (CR CX outer P w H s Q E) s
theorem Env0.make {P:qc} {w:y3} {K:aS} {mg:F'} {base:Ke} {A:Kj} {outer:gs Env} {s:ib} {H:Hp} (e:Env0 P w K mg base A outer s H) (C:gn) (us:E') (O:K'):
  Env0 P w K mg base (A.under (.builtin "type.__call__" ⟨.ref C::us,O⟩)) outer s H:=⟨by first | exact e.frames | (simpa[Qh,Code.envs,Qr,pushEnvs] using e.frames),e.mod,e.bs,e.bsz,e.funs,e.frf,e.hok,e.bare⟩
section
variable {X:Cx} {pins:Dc} {σ:St} {H:Hp} {s s':ib}
theorem Inv.env0 (I:Inv X pins σ H s):Env0 X.prog X.w X.K X.mg X.base X.A X.stack s H:=
 ⟨I.ok.frames,I.ok.mod,I.bs,Lf I.ok.bsz I.sz,I.stack,I.stkFree,I.hok,I.bare⟩
theorem Inv.after {Q:VK} {u:ia} (I:Inv X pins σ H s) (h:CE X.stack X.prog X.w H s Q u s'):EP X pins σ Q u s':=by
 obtain⟨v,H',os,bare,un,hok,r,q⟩:=h;obtain⟨τ,g,d,t,O⟩:=s';obtain rfl:O=s.os:=os;exact⟨v,H',I.call (h':=τ) (g':=g) (d':=d) (t':=t) (ch:=[]) un hok bare (λb z=>kv z @D),r,q⟩
end
noncomputable def Ce (sp:Sp) (dvs:gs V) (E:XK) (t:TA):TE:=fun σ H Q=>t σ H λvs H1=>sp (vs++dvs) H1 Q E
noncomputable def E8 (C:gn) (m:Kz) (sp:Sp) (dvs:gs V) (E:XK) (ta:TE) (t:TA):TE:=fun σ H Q=>ta σ H λx H1=>∃a dx fs,x= .ref a/\H1 a=ak (.ins C dx fs)/\fs.lookup m=hB/\
 t σ H1 λvs H2=>sp (x::(vs++dvs)) H2 Q E
noncomputable def GP (C:gn) (sp:Sp) (dvs:gs V) (E:XK) (t:TA):TE:=fun σ H Q=>t σ H λvs H1=>∀x dx,H1 x=hB->H1 dx=hB->dx≠x->
 sp (.ref x::(vs++dvs)) (upd (upd H1 dx (.own x)) x (.ins C dx [])) (λv H2=>v= .non/\Q (.ref x) H2) E
def mF (K:aS) (fd:mu) (ps:C') (ds:E'):Prop:=
 ∀(s:ib) (us:E'),K.In s.heap->(us++ds).length=ps.length->BindsTo s fd ⟨us,[]⟩ (ps.zip (us++ds))
theorem mF.all {K:aS} {fd:mu} {ps:C'} (h:∀us:E',us.length=ps.length->bindArgs fd ⟨us,[]⟩=pure (ps.zip us)):mF K fd ps []:=λs us _ hl=>by
 rw[LD] at hl ⊢;exact .of_eq (h us hl)
def nW (CX:CXT) (X:Cx) (E:XK):Prop:=∀(pins:Dc) (σ:St) (H:Hp) (s:ib) (e:ia) (s':ib),Inv X pins σ H s->CX X.stack H s E e s'->X.xe e s'
section
variable {X:Cx} {CX:CXT} {k:Nat} {f C:gn} {fd:mu} {ps:C'} {sp:Sp} {dvs:gs V} {ds:E'} {E:XK} {x m:Kz} {p pos apos:Pos} {e o:Ko} {es:gs Ko} {ta:TE} {t:TA}
theorem Ai {pins:Dc} {σ:St} {H:Hp} {s:ib} {Q:VK} {us:E'} {vs:gs V} (F:FnOk X.prog X.w X.K X.mg X.base CX k f fd ps sp) (Z:Room k X.A) (hb:mF X.K fd ps ds) (hd:Vals dvs ds) (hx:nW CX X E)
  (I:Inv X pins σ H s) (r:Vals vs us) (h:sp (vs++dvs) H Q E):ka (oD X.prog X.w) X.A (call (.ref f) us) (EP X pins σ Q) X.xe s:=by
 have Y:Vals (vs++dvs) (us++ds):=r.append hd;have hl:(us++ds).length=ps.length:=by rw[<-Y.length];exact F.len _ _ _ _ h
 refine Qw (Nq (F.run X.A X.stack s H ⟨us,[]⟩ (us++ds) (vs++dvs) Q E Z I.env0 (hb s us I.kIn hl) Y h) λr s' O=>?_);cases r with
 | error e=>exact hx pins σ H s e s' I O
 | ok α=>
   cases α with
   | ret u=>exact I.after O
   | next=>exact KD O
   | brk=>exact KD O
   | cont=>exact KD O
theorem FW (F:FnOk X.prog X.w X.K X.mg X.base CX k f fd ps sp) (Y:Room k X.A) (Z:Gl X x) (hm:X.mg x=ak (.ref f)) (hk:Lj X.K (.ref f)=true) (hb:mF X.K fd ps ds) (hd:Vals dvs ds) (hx:nW CX X E)
  (ha:PA X (e::es) t) (ι:(x == ("__debug__":Kz))=false:=by decide) (he:px (e::es) X.env=(false,eval e X.env)::px es X.env:=by rfl) (O:(backTo pos (px es X.env)).any (·.1)=false:=by rfl):
  PE X (.Call (.Name x p) (e::es) [] pos) (Ce sp dvs E t):=by
 intro pins s σ H Q I h;refine Nc (tL I Z hm ?_ ι);refine NG (h₀:=X.base) I.ok.mod.kin hk (thn (ha pos pins s σ H _ I h) λus α ⟨vs,H1,I1,r,q⟩=>⟨I1.kIn,?_⟩) he O;exact Ai F Y hb hd hx I1 r q
theorem o9 {pl:Sem KS} (he:PE X o ta) (c:Cls X.K C) (hm:Meth X.K C m f) (F:FnOk X.prog X.w X.K X.mg X.base CX k f fd ps sp) (γ:Room k X.A) (hb:mF X.K fd ps ds) (hd:Vals dvs ds) (hx:nW CX X E) (ha:PA X (e::es) t)
  (η:px (e::es) X.env=(false,eval e X.env)::px es X.env:=by rfl) (O:(backTo pos (px es X.env)).any (·.1)=false:=by rfl)
  (ht:eval (.Call (.Attribute o m apos) (e::es) [] pos) X.env=(do
   let Y <-eval o X.env
   standAt apos.atName
   let (f,first) <-holding [Y] (getMethod Y m pl)
   callWith pos f first (backTo pos (px (e::es) X.env)) (backToKw pos (keywordEach [] X.env))):=by rfl):
  PE X (.Call (.Attribute o m apos) (e::es) [] pos) (E8 C m sp dvs E ta t):=by
 intro pins s σ H Q I h;refine O7 (pl:=pl) (thn (he pins s σ H _ I h) λu α ⟨x,H1,Z,β,a,dx,fs,ex,ea,l,q⟩=>?_) ht;subst ex;obtain rfl:u=y7 a:=β;refine ny Z ea c hm l ?_;refine NG (first:=[.ref a]) (h₀:=X.base) I.ok.mod.kin hm.kp (thn (ha pos pins α σ H1 _ Z q) λus ε ⟨vs,H2,I2,r,δ⟩=>⟨I2.kIn,?_⟩) η O;exact Ai (us:= .ref a::us) (vs:= .ref a::vs) F γ hb hd hx I2 (.cons rfl r) δ
theorem dE {pl:Sem KS} (he:PE X o ta) (c:Cls X.K C) (hm:Meth X.K C m f) (F:FnOk X.prog X.w X.K X.mg X.base CX k f fd ps sp) (Z:Room k X.A) (hb:mF X.K fd ps ds) (hd:Vals dvs ds) (hx:nW CX X E)
  (ht:eval (.Call (.Attribute o m apos) [] [] pos) X.env=(do
   let O <-eval o X.env
   standAt apos.atName
   let (f,first) <-holding [O] (getMethod O m pl)
   callWith pos f first (backTo pos (px [] X.env)) (backToKw pos (keywordEach [] X.env))):=by rfl):
  PE X (.Call (.Attribute o m apos) [] [] pos) (E8 C m sp dvs E ta tNil):=by
 intro pins s σ H Q I h;refine O7 (pl:=pl) (thn (he pins s σ H _ I h) λu α ⟨x,H1,I1,Y,a,dx,fs,ex,ea,l,q⟩=>?_) ht;subst ex;obtain rfl:u=y7 a:=Y;refine ny I1 ea c hm l ?_;exact PySem.W.callWith_K0 (first:=[.ref a]) I1.kIn hm.kp (Ai (us:=[.ref a]) (vs:=[.ref a]) F Z hb hd hx I1 (.cons rfl .nil) q)
structure Mk (K:aS) (C f:gn):Prop where
 makes:QZ K C=true
 init:Kh K (.ref C) "__init__"=ak (ak (.ref f))
 fn:OT K (.ref f)=true
 kp:Lj K (.ref C)=true
theorem CC {pins:Dc} {σ:St} {H:Hp} {s:ib} {Q:VK} {us:E'} {vs:gs V} (M:Mk X.K C f) (F:FnOk X.prog X.w X.K X.mg X.base CX k f fd ps sp) (γ:Room (k + 1) X.A) (hb:mF X.K fd ps ds) (hd:Vals dvs ds)
  (β:nW CX X E) (I:Inv X pins σ H s) (r:Vals vs us)
  (h:∀x dx,H x=hB->H dx=hB->dx≠x->sp (.ref x::(vs++dvs)) (upd (upd H dx (.own x)) x (.ins C dx [])) (λv H2=>v= .non/\Q (.ref x) H2) E):
  ka (oD X.prog X.w) X.A (call (.ref C) us) (EP X pins σ Q) X.xe s:=by
 have Y:=h (s.heap.objs.size + 1) s.heap.objs.size (I.hok.fresh (Oq _)) (I.hok.fresh (ri _)) (Kn (LJ _));have I2:=Inv.made (C:=C) I;have O:Vals (V.ref (s.heap.objs.size + 1)::(vs++dvs)) (y7 (s.heap.objs.size + 1)::(us++ds)):= .cons rfl (r.append hd)
 have hl:(y7 (s.heap.objs.size + 1)::us++ds).length=ps.length:=by
  have e:=O.length;rw[F.len _ _ _ _ Y] at e;exact e.symm
 refine Qw (C4 (f:=f) I.kIn M.makes M.init (Mu.mp M.fn) (Nq (F.run _ X.stack _ _ ⟨y7 (s.heap.objs.size + 1)::us,[]⟩ (y7 (s.heap.objs.size + 1)::(us++ds)) _ _ E (γ.make C us [])
  (I2.env0.make C us []) (hb _ (y7 (s.heap.objs.size + 1)::us) I2.kIn hl) O Y) λr s' θ=>?_))
 cases r with
 | error e=>exact β pins σ _ _ e s' I2 θ
 | ok δ=>
   cases δ with
   | ret u=>
     obtain⟨v,H',ε,Z,ev,α⟩:=I2.after θ;subst ev;exact⟨Z,⟨V.ref (s.heap.objs.size + 1),H',ε,rfl,α⟩⟩
   | next=>exact KD θ
   | brk=>exact KD θ
   | cont=>exact KD θ
theorem pd (M:Mk X.K C f) (F:FnOk X.prog X.w X.K X.mg X.base CX k f fd ps sp) (Y:Room (k + 1) X.A) (Z:Gl X x) (hm:X.mg x=ak (.ref C)) (hb:mF X.K fd ps ds) (hd:Vals dvs ds) (hx:nW CX X E)
  (ha:PA X (e::es) t) (ι:(x == ("__debug__":Kz))=false:=by decide) (he:px (e::es) X.env=(false,eval e X.env)::px es X.env:=by rfl) (O:(backTo pos (px es X.env)).any (·.1)=false:=by rfl):
  PE X (.Call (.Name x p) (e::es) [] pos) (GP C sp dvs E t):=by
 intro pins s σ H Q I h;refine Nc (tL I Z hm ?_ ι);refine NG (h₀:=X.base) I.ok.mod.kin M.kp (thn (ha pos pins s σ H _ I h) λus α ⟨vs,H1,I1,r,q⟩=>⟨I1.kIn,?_⟩) he O;exact CC M F Y hb hd hx I1 r q
end
section
variable {X:Cx} {CX:CXT} {k:Nat} {f C:gn} {fd:mu} {ps ks:C'} {sp:Sp} {E:XK} {x m:Kz} {p pos apos kpos:Pos} {e o:Ko} {es:gs Ko} {kws:gs Keyword} {te ta:TE} {t tk:TA} {nm:rl Kz}
structure J6 (K:aS) (fd:mu) (ps ks:C') (g:E'->E'->E') (gV:gs V->gs V->gs V):Prop where
 to:∀(s:ib) (us ws:E'),K.In s.heap->(g us ws).length=ps.length->BindsTo s fd ⟨us,ks.zip ws⟩ (ps.zip (g us ws))
 rel:∀{vs:gs V} {us:E'} {zs:gs V} {ws:E'},Vals vs us->Vals zs ws->Vals (gV vs zs) (g us ws)
variable {g:E'->E'->E'} {gV:gs V->gs V->gs V}
end
structure az (N P:C') (sc:Mj):Prop where
 kind:sc.kind= .function
 co:sc.isCoroutine=false
 gen:sc.isGenerator=false
 nd:N.Nodup
 pre:N.take P.length=P
 par:∀x∈P,sc.names.lookup x=ak .local∨sc.names.lookup x=ak .cell
 nofree:∀y∈sc.names,y.2≠.free
theorem vA {kindOf:Kz->rl NameKind} {x:Kz}:∀{binds:K'} {m:F'},(∀v,(x,v)∉binds)->bindL kindOf binds m x=m x
 | [],_,_=>rfl
 | (n,v)::r,m,h=>by
   unfold bindL;rw[vA λw hw=>h w (ky _ hw)];split
   ·have:x≠n:=by rintro rfl;exact h v kb
    simp[this]
   ·rfl
theorem vC {kindOf:Kz->rl NameKind} {x:Kz}:∀{binds:K'} {m:F'},(∀v,(x,v)∉binds)->bindC kindOf binds m x=m x
 | [],_,_=>rfl
 | (n,v)::r,m,h=>by
   unfold bindC;rw[vC λw hw=>h w (ky _ hw)];split
   ·rfl
   ·have:x≠n:=by rintro rfl;exact h v kb
    simp[this]
theorem vB {kindOf:Kz->rl NameKind} {x:Kz} {v:ia}:∀{P:C'} {vs:E'} {i:Nat} {m:F'},P.Nodup->P[i]? =ak x->vs[i]? =ak v->kindOf x=ak .local->
  bindL kindOf (P.zip vs) m x=ak v
 | [],_,_,_,_,h,_,_=>by simp at h
 | _::_,[],_,_,_,_,h,_=>by simp at h
 | p::P,w::vs,0,m,nd,h1,h2,hk=>by
   simp at h1 h2;subst h1;subst h2;show bindL kindOf ((p,w)::P.zip vs) m p=_;unfold bindL;rw[vA λv O=>(Nv.mp nd).1 (P9 O).1,qb hk];simp
 | p::P,w::vs,i + 1,m,nd,h1,h2,hk=>by
   show bindL kindOf ((p,w)::P.zip vs) m x=_;unfold bindL;exact vB (i:=i) (Nv.mp nd).2 (by simpa using h1) (by simpa using h2) hk
theorem vD {kindOf:Kz->rl NameKind} {x:Kz} {v:ia}:∀{P:C'} {vs:E'} {i:Nat} {m:F'},P.Nodup->P[i]? =ak x->vs[i]? =ak v->kindOf x≠ak .local->
  bindC kindOf (P.zip vs) m x=ak v
 | [],_,_,_,_,h,_,_=>by simp at h
 | _::_,[],_,_,_,_,h,_=>by simp at h
 | p::P,w::vs,0,m,nd,h1,h2,hk=>by
   simp at h1 h2;subst h1;subst h2;show bindC kindOf ((p,w)::P.zip vs) m p=_;unfold bindC;rw[vC λv O=>(Nv.mp nd).1 (P9 O).1,ov hk];simp
 | p::P,w::vs,i + 1,m,nd,h1,h2,hk=>by
   show bindC kindOf ((p,w)::P.zip vs) m x=_;unfold bindC;exact vD (i:=i) (Nv.mp nd).2 (by simpa using h1) (by simpa using h2) hk
noncomputable def start (N:C') (vs:gs V):St:=vs.map ak++gB (N.length - vs.length) hB
noncomputable def cxOf (CX:CXT) (P:qc) (w:y3) (K:aS) (mg:F') (base:Ke) (N:C') (O:Kz) (scope:Mj) (f:gn) (ψ:ia) (A:Kj) (outer:gs Env) (s:ib) (H:Hp) (E:XK):Cx where
 prog:=P
 w:=w
 K:=K
 mg:=mg
 base:=base
 A:=A.deeper (envOfC O scope s.heap.objs.size f ψ)
 N:=N
 s₀:=s
 H₀:=H
 env:=envOfC O scope s.heap.objs.size f ψ
 outer:=outer
 stack:=envOfC O scope s.heap.objs.size f ψ::outer
 ex:=[]
 calm:=true
 fn:=λ_=>true
 pn:=[]
 xe:=λe s'=>ka (oD P w) (A.deeper (envOfC O scope s.heap.objs.size f ψ)) (leaving (envOfC O scope s.heap.objs.size f ψ) e) (λ_ Y=>CX outer H s E e Y) (λZ Y=>CX outer H s E Z Y) s'
theorem xP {O:Mj} {n:Nat} {x:Kz} (h:O.names.lookup x=ak .cell):∃c,(cellsFrom n O.names []).lookup x=ak c:=by
 have q:=Q7 O.names n [] (.inl h);exact Option.isSome_iff_exists.mp q
theorem A3 {CX:CXT} {P:qc} {w:y3} {K:aS} {mg:F'} {base:Ke} {N ps:C'} {O:Kz} {scope:Mj} {f:gn} {ψ:ia} {A:Kj} {outer:gs Env} {s γ:ib} {H:Hp} {E:XK} {us:E'} {vs:gs V}
  (S:az N ps scope) (hd:A.handled=hB) (Y:Env0 P w K mg base A outer s H) (hl:vs.length=ps.length) (r:Vals vs us)
  (x:InCallC s s.heap.objs.size (bindL (envOfC O scope s.heap.objs.size f ψ).kindOf (ps.zip us) λ_=>hB) (cellsFrom (s.heap.objs.size + 1) scope.names []) (bindC (envOfC O scope s.heap.objs.size f ψ).kindOf (ps.zip us) λ_=>hB) γ):
  Inv (cxOf CX P w K mg base N O scope f ψ A outer s H E) [] (start N vs) H γ:=by
 have ε:ps.length<=N.length:=by have:=zt M' S.pre;rw[Kt] at this;omega
 obtain⟨h1,tk,rfl,hk⟩:=x.done;have Z:∀b:gn,b∉(cxOf CX P w K mg base N O scope f ψ A outer s H E).ex:=λb z=>kv (show b∈([]:K0) from z) @D
 refine⟨⟨Y.mod,S.kind,rfl,rfl,ri _,λy z c h1 h2=>?_,λy hy=>?_,λy c _ h=>?_,λ_=>hd,Around.frames_deeper Y.frames,.inr ⟨rfl,rfl⟩,λb z=>kv z (Z b),Y.bs,Y.bsz,λb _ _=>Z b,λb z=>kv z (Z b),Y.funs,Y.frf⟩,
  rfl,Y.bare,Un.kept hk,⟨_,x.toInCall.ns,λi y v h1 h2 ζ=>?_⟩,λy c h=>⟨_,x.cell y c h⟩,Y.hok.fresh (ri _),λy c h=>?_,λp β=>kv (show p∈([]:Dc) from β) @D,Y.hok.kept hk,?_⟩
 ·exact name_of_addr x.apart (KZ h1) (KZ h2)
 ·have hy:scope.names.lookup y=ak .cell∨scope.names.lookup y=ak .free:=hy;rcases hy with hy | hy
  ·exact xP hy
  ·exact kv rfl (S.nofree _ (KZ hy))
 ·exact L9 (x.above y c (KZ h))
 ·have hi:i < vs.length:=by
   unfold start at h2;by_cases hi:i < vs.length
   ·exact hi
   ·rw[vr (by simpa using hi)] at h2;rw[Qp] at h2;split at h2<;>cases h2
  have ha:vs[i]? =ak v:=by
   unfold start at h2;rw[u' (by simpa using hi),lz] at h2;cases e:vs[i]? with
   | none=>rw[e] at h2;cases h2
   | some a=>rw[e] at h2;cases h2;rfl
  obtain⟨u,hu,δ⟩:=r.get ha
  have β:ps[i]? =ak y:=by
   rw[<-S.pre,List.getElem?_take_of_lt @A];exact h1
  have α:ps.Nodup:=by rw[<-S.pre];exact S.nd.sublist (Pc _ _)
  refine⟨u,δ,?_⟩;rcases S.par y (hQ β) with k | k
  ·exact .inl ⟨k,vB α β hu k⟩
  ·obtain⟨c,e⟩:=xP (n:=s.heap.objs.size + 1) k;refine .inr ⟨.inl k,c,e,?_⟩;have q:=x.cell y c e;rw[vD α β hu (by show scope.names.lookup y≠_;rw[k];decide)] at q;exact q
 ·exact Y.hok.fresh (L9 (x.above y c (KZ h)))
 ·unfold start;show _=N.length;rw[hC,dt,wh];omega
theorem Gm {CX:CXT} {P:qc} {w:y3} {K:aS} {mg:F'} {base:Ke} {k:Nat} {f:gn} {name Y:Kz} {α:Arguments} {O:gs N9} {scope:Mj} {dV kV ε π Z ct τ:ia} {an od:K4}
  {ι:HB} {N ps:C'} {sp:Sp} (lk:K.lookup f=ak ⟨τ,od,.func (Li name Y α O scope dV kV ε π an Z ct),ι⟩) (η:Mz K Z Y=true) (S:az N ps scope)
  (len:∀vs H Q E,sp vs H Q E->vs.length=ps.length)
  (γ:∀(A:Kj) (outer:gs Env) (s:ib) (H:Hp) (vs:gs V) (Q:VK) (E:XK),Room k (A.deeper (envOfC Y scope s.heap.objs.size f Z))->sp vs H Q E->
   ∃t,PSs (cxOf CX P w K mg base N Y scope f Z A outer s H E) O t/\t {nx:=λ_ H'=>Q .non H',rt:=Q} (start N vs) H):
  FnOk P w K mg base CX (k + 1) f (Li name Y α O scope dV kV ε π an Z ct) ps sp:=by
 refine⟨len,λA outer s H args us vs Q E ξ θ hb r ζ=>?_⟩;have hl:=len _ _ _ _ ζ;have ρ:K.In s.heap:=θ.mod.kin.keeps λb o e=>(θ.bs b o e).1;have δ:s.heap.NoLimit:=θ.mod.nolimit.keeps λb o e=>(θ.bs b o e).1
 have β:∀y∈ps.zip us,scope.names.lookup y.1=ak .local∨(scope.names.lookup y.1=ak .cell/\((cellsFrom (s.heap.objs.size + 1) scope.names []).lookup y.1).isSome=true):=λ⟨n,v⟩ υ=>by
  rcases S.par n (P9 υ).1 with q | q
  ·exact .inl q
  ·exact .inr ⟨q,Q7 _ _ _ (.inl q)⟩
 refine codeAny_call_function ξ.depth (ρ _ _ lk) rfl S.co S.gen rfl (PySem.W.codeRec_of ρ η) (hb _ _ _ _ ?_);refine wpAny_newFunctionEnv_cells S.kind β λenv he ο x=>?_;subst he;refine⟨δ.keeps x.toInCall.keep,codeAny_func ?_⟩;obtain⟨t,ht,φ⟩:=γ A outer s H vs Q E (ξ.deeper _) ζ;have I:Inv (cxOf CX P w K mg base N Y scope f Z A outer s H E) [] (start N vs) H ο:=A3 S ξ.hd θ hl r x;refine Mt (ht [] ο (start N vs) H _ I φ) (fun χ s' hs=>?_) λe s' hs=>hs
 have fin:∀{σ':St} {H':Hp} {v:V} {u:ia},Inv (cxOf CX P w K mg base N Y scope f Z A outer s H E) [] σ' H' s'->RelV v u->Q v H'->CE outer P w H s Q u s':=
  λ{σ' H' v u} J ν q=>⟨v,H',J.os,J.bare,J.base,J.hok,ν,q⟩
 cases χ with
 | ret u=>
   obtain⟨v,σ',H',J,ν,q⟩:=hs;exact fin J ν q
 | next=>
   obtain⟨σ',H',J,q⟩:=hs;exact fin (v:=V.non) (u:=KQ) J rfl q
 | brk=>
   obtain⟨_,_,_,q⟩:=hs;exact KD q
 | cont=>
   obtain⟨_,_,_,q⟩:=hs;exact KD q
section
variable {X:Cx} {x:Kz} {p pos:Pos} {e:Ko} {es:gs Ko} {t:TA} {id T:Lh} {r:gs V->Hp->VK->Prop}
noncomputable abbrev tCB (r:gs V->Hp->VK->Prop) (t:TA):TE:=fun σ H Q=>t σ H λvs H1=>r vs H1 Q
theorem aF (hc:lJ X (.builtin id) r) (γ:Gl X x) (hm:X.mg x=hB) (β:bootBuiltins x=ak (.builtin id)) (ha:PA X (e::es) t) (hn:x≠"__name__":=by decide) (ι:(x == ("__debug__":Kz))=false:=by decide)
  (he:px (e::es) X.env=(false,eval e X.env)::px es X.env:=by rfl) (O:(backTo pos (px es X.env)).any (·.1)=false:=by rfl):PE X (.Call (.Name x p) (e::es) [] pos) (tCB r t):=by
 intro pins s σ H Q I h;refine Nc (i6 I γ hm β ?_ hn ι);exact PyProof.Rows.callWith_builtin1 (thn (ha pos pins s σ H _ I h) λus Y ⟨vs,H1,δ,Z,α⟩=>hc pins Y σ H1 vs us Q δ Z α) he O
theorem gD (hc:lJ X (.type T) r) (γ:Gl X x) (hm:X.mg x=hB) (β:bootBuiltins x=ak (.type T)) (ha:PA X (e::es) t) (hn:x≠"__name__":=by decide) (ι:(x == ("__debug__":Kz))=false:=by decide)
  (he:px (e::es) X.env=(false,eval e X.env)::px es X.env:=by rfl) (O:(backTo pos (px es X.env)).any (·.1)=false:=by rfl):PE X (.Call (.Name x p) (e::es) [] pos) (tCB r t):=by
 intro pins s σ H Q I h;refine Nc (i6 I γ hm β ?_ hn ι);exact Km (thn (ha pos pins s σ H _ I h) λus Y ⟨vs,H1,δ,Z,α⟩=>hc pins Y σ H1 vs us Q δ Z α) he O
end
end L2
namespace HT
open PySem PyProof.Rows
section
variable {prog:qc} {w:y3} {A:Kj} {E:DL} {s:ib}
theorem cat_tup {t b:gn} {vs ws:E'} {Q:DL} (ht:IsTup s.heap t vs.toArray) (hb:IsTup s.heap b ws.toArray) (ε:vs≠[])
  (h1:ws=[]->Q (.ref t) s) (h2:ws≠[]->Q (.ref s.heap.objs.size) {s with heap:=s.heap.push {cls:= .type "tuple",data:= .seq (vs++ws).toArray}})
  (hsz:vs.length + ws.length<=lx):ka (oD prog w) A (binaryOp .Add (.ref t) (.ref b)) Q E s:=by
 obtain⟨⟨cls,dd,data,β⟩,ho,ζ,n,hd⟩:=id ht;obtain⟨⟨ο,α,data2,Y⟩,O,γ,δ,Z⟩:=id hb;simp only at ζ hd γ Z;subst ζ hd γ Z;have e:vs.toArray++ws.toArray=(vs++ws).toArray:=by simp
 by_cases hw:ws=[]
 ·exact concat_meets ⟨_,ho,rfl⟩ ⟨_,O,rfl⟩ noFill_tuple_add seq_tuple_add Q8 PY (PU _ _)
   (tuple_addW1 t b vs.toArray ws.toArray n δ dd α β Y (by simpa using ε) (by simp[hw])) ⟨ho,O,h1 hw⟩
 ·refine concat_meets ⟨_,ho,rfl⟩ ⟨_,O,rfl⟩ noFill_tuple_add seq_tuple_add Q8 PY (PU _ _)
   (tuple_addW2 t b vs.toArray ws.toArray n δ dd α β Y (by simpa using ε) (by simpa using hw) (by rw[vu,vu];exact hsz)) ⟨ho,O,?_⟩
  rw[e];exact h2 hw
noncomputable def sIx (n d:Nat):rl Int->Nat
 | none=>d
 | some v=>if v < 0 then (v + (n:Int)).toNat else min v.toNat n
theorem sIx_none (n d:Nat):sIx n d hB=d:=rfl
theorem sIx_nat (n d k:Nat):sIx n d (ak (k:Int))=min k n:=by
 show(if (k:Int) < 0 then ((k:Int) + (n:Int)).toNat else min (k:Int).toNat n)=min k n;rw[ov @A,pT]
theorem HI (n d:Nat) (hd:d<=n) (o:rl Int):sIx n d o<=n:=by
 cases o with
 | none=>exact hd
 | some v=>
   show(if v < 0 then (v + (n:Int)).toNat else min v.toNat n)<=n;by_cases O:v < 0
   ·rw[qb O];omega
   ·rw[ov O];exact Nat.min_le_right _ _
theorem BC (v:Int) (n d:Nat):(if v < 0 then max (v + (n:Int)) 0 else min v (n:Int))=((sIx n d (ak v):Nat):Int):=by
 show(if v < 0 then max (v + (n:Int)) 0 else min v (n:Int))=(((if v < 0 then (v + (n:Int)).toNat else min v.toNat n):Nat):Int);by_cases O:v < 0
 ·simp only[qb O];omega
 ·simp only[ov O];omega
theorem yY (lo hi:rl Int) (n:Nat):Nr lo hi 1 (n:Int)=(((sIx n 0 lo:Nat):Int),((sIx n n hi:Nat):Int)):=by
 have h1:¬((1:Int) < 0):=by omega
 unfold Nr;simp only[h1,RA];refine Prod.ext ?_ ?_
 ·cases lo with
  | none=>rfl
  | some v=>exact BC v n 0
 ·cases hi with
  | none=>rfl
  | some v=>exact BC v n n
theorem yx (i j:Nat):Mq (i:Int) (j:Int) 1=j - i:=by
 unfold Mq;have h1:(1:Int) > 0:=by omega
 simp only[h1,OF,Int.ediv_one];split<;>omega
theorem rR {v:ia} {o:rl Int} {Q:rl Int->ib->Prop} (p:IsPart v o) (h:Q o s):ka (oD prog w) A (Builtin.Slice.slicePartIndex v) Q E s:=by
 cases p with
 | none=>exact slicePart_none h
 | int i t=>exact slicePart_int h
theorem nX {β:gn} {α Y:ia} {lo hi:rl Int} {n:Nat} {Q:Int×Int×Nat->ib->Prop} (hs:s.heap.IsSliceOf β α Y .none) (pl:IsPart α lo) (γ:IsPart Y hi)
  (h:Q (((sIx n 0 lo:Nat):Int),1,sIx n n hi - sIx n 0 lo) s):ka (oD prog w) A (OX (.ref β) (pure (n:Int))) Q E s:=by
 obtain⟨os,O,δ,Z⟩:=id hs;unfold OX Builtin.Slice.sliceFields;refine cc (cc (Kg O Z (x:=α) rfl (cc (Kg O Z (x:=Y) rfl (cc (Kg O Z (x:= .none) rfl (hF ?_)))))));refine cc (slicePart_none ?_);show ka _ _ (if ((1:Int) == 0)=true then _ else _) _ _ s;rw[ov @C];refine cc (rR pl (cc (rR γ (cc (hF ?_)))));show ka _ _ (match Nr lo hi 1 (n:Int) with | (lo,hi)=>pure (lo,(1:Int),Mq lo hi 1)) _ _ s;rw[yY lo hi n];show ka _ _ (pure (((sIx n 0 lo:Nat):Int),(1:Int),Mq ((sIx n 0 lo:Nat):Int) ((sIx n n hi:Nat):Int) 1)) _ _ s;rw[yx];exact hF h
theorem CP (xs:G') (i k:Nat):((lA k).filterMap λ(m:Nat)=>xs[((i:Int) + (m:Int) * 1).toNat]?).toArray=((xs.toList.drop i).take k).toArray:=by
 have e:(λ(m:Nat)=>xs[((i:Int) + (m:Int) * 1).toNat]?)=λm=>xs[i + m]? :=by
  funext m;have:((i:Int) + (m:Int) * 1).toNat=i + m:=by omega
  rw[this]
 rw[e];have:=pick_run xs i k;rw[List.filterMap_map] at this;have O:((λx=>xs[x]?) ∘ λx=>i + x)=λm=>xs[i + m]? :=rfl;rw[O] at this;rw[this]
theorem getItem_tuple_cut {t α:gn} {O:G'} {η ζ:ia} {lo hi:rl Int} {Q:DL} (ht:IsTup s.heap t O) (hs:s.heap.IsSliceOf α η ζ .none) (pl:IsPart η lo) (θ:IsPart ζ hi)
  (hw:¬(sIx O.size 0 lo=0/\sIx O.size O.size hi=O.size))
  (h:Q (.ref s.heap.objs.size) {s with heap:=s.heap.push {cls:= .type "tuple",data:= .seq ((O.toList.drop (sIx O.size 0 lo)).take (sIx O.size O.size hi - sIx O.size 0 lo)).toArray}})
  (hsz:O.size<=lx):ka (oD prog w) A (getItem (.ref t) (.ref α)) Q E s:=by
 have Y:sizeOk (.seq ((O.toList.drop (sIx O.size 0 lo)).take (sIx O.size O.size hi - sIx O.size 0 lo)).toArray):=by
  show((O.toList.drop (sIx O.size 0 lo)).take (sIx O.size O.size hi - sIx O.size 0 lo)).toArray.size<=lx;rw[vu,Kt,MM,ic];omega
 have ξ:sIx O.size O.size hi<=O.size:=HI _ _ (ri _) hi;obtain⟨os,β,γ,Z⟩:=id hs;have ε:s.TypeIs (.ref α) "slice":=⟨os,β,γ⟩;unfold getItem
 try with_reducible refine Le ?_
 first | refine cc (hF ?_) | skip
 refine cc (wpAny_sequenceKey ht.typeIs @C ?_)
 refine cc (Lm (name:=M3 "__getitem__") ht.typeIs Oz
  (L1 Oz ht.typeIs entry_tuple_getitem ?_ (args_tuple_getitem _ _)))
 show ka _ _ (Builtin.Tuple.tupleItemsOf (.ref t) >>=_) _ _ s;refine cc (tupleItemsOf_ ht ?_);refine cc (R8 ε ?_);rw[qb @C];refine cc (nX hs pl θ ?_)
 have δ:¬((((sIx O.size 0 lo:Nat):Int) == 0&&(1:Int) == 1&&(sIx O.size O.size hi - sIx O.size 0 lo) == O.size)=true):=by
  intro q;rw[KL,KL] at q;have ν:((sIx O.size 0 lo:Nat):Int)=0:=eq_of_beq q.1.1;have ι:sIx O.size O.size hi - sIx O.size 0 lo=O.size:=eq_of_beq q.2;exact hw ⟨by omega,by omega⟩
 show ka _ _ (if (((sIx O.size 0 lo:Nat):Int) == 0&&(1:Int) == 1&&(sIx O.size O.size hi - sIx O.size 0 lo) == O.size)=true then _ else _) _ _ s;rw[ov δ,CP]
 first
  | exact cc (m:=MD _) (KR (hF ⟨_,rfl,hF h⟩) Y)
  | exact cc (m:=MD _) (KR (cc (hF (hF ⟨_,rfl,hF h⟩))) Y)
  | exact cc (cc (m:=MD _) (KR (hF (hF ⟨_,rfl,hF h⟩)) Y))
  | exact cc (cc (m:=MD _) (KR (hF ⟨_,rfl,hF h⟩) Y))
end
end HT
namespace L2
open PySem PySem.Spec PyProof.Rows
noncomputable abbrev TO:=St->Hp->(rl Int->Hp->Prop)->Prop
def PO (X:Cx) (e:rl Ko) (t:TO):Prop:=
 ∀(pins:Dc) (s:ib) (σ:St) (H:Hp) (Q:rl Int->Hp->Prop),Inv X pins σ H s->t σ H Q->
  ka (oD X.prog X.w) X.A (evalPart e X.env) (λu s'=>∃o H',Inv X pins σ H' s'/\IsPart u o/\Q o H') X.xe s
noncomputable abbrev E7:TO:=λ_ H Q=>Q hB H
noncomputable abbrev Jq (t:TE):TO:=fun σ H Q=>t σ H λx H1=>∃i,x= .int i/\Q (ak i) H1
section
variable {X:Cx} {e:Ko} {te:TE} {lo hi:rl Ko} {tl th:TO} {pos p2:Pos}
theorem gO:PO X hB E7:=by
 intro pins s σ H Q I h;rw[evalPart_none];exact hF ⟨hB,H,I,.none,h⟩
theorem gN (h:PE X e te):PO X (ak e) (Jq te):=by
 intro pins s σ H Q I hw;rw[evalPart_some];refine thn (h pins s σ H _ I hw) λu α ⟨x,H1,Z,O,Y⟩=>?_;obtain⟨i,rfl,q⟩:=Y;obtain⟨t,rfl⟩:=O;exact⟨ak i,H1,Z,.int i t,q⟩
def SlR (X:Cx) (r:V->rl Int->rl Int->Hp->VK->Prop):Prop:=
 ∀(pins:Dc) (s:ib) (σ:St) (H:Hp) (x:V) (v Y O:ia) (lo hi:rl Int) (Z:gn) (Q:VK),Inv X pins σ H s->RelV x v->s.heap.IsSliceOf Z Y O .none->IsPart Y lo->IsPart O hi->r x lo hi H Q->
  ∃T id,typeLookup (.type T) "__getitem__"=pure (ak (.builtin id))/\s.TypeIs v T/\ka (oD X.prog X.w) X.A (getItem v (.ref Z)) (EP X pins σ Q) X.xe s
noncomputable abbrev tSl (r:V->rl Int->rl Int->Hp->VK->Prop) (te:TE) (tl th:TO):TE:=fun σ H Q=>te σ H λx H1=>tl σ H1 λl H2=>th σ H2 λu O=>r x l u O Q
theorem dW {r:V->rl Int->rl Int->Hp->VK->Prop} (ι:SlR X r) (he:PE X e te) (hl:PO X lo tl) (hu:PO X hi th):PE X (.Subscript e (.Slice lo hi hB p2) pos) (tSl r te tl th):=by
 intro pins s σ H Q I h;refine RY (thn (he pins s σ H _ I h) λv γ ⟨x,H1,ο,ε,η⟩=>?_);refine wpAny_Slice (thn (hl pins γ σ H1 _ ο η) λZ β ⟨l,H2,ω,pl,δ⟩=>thn (hu pins β σ H2 _ ω δ) λY O ⟨u,α,I3,θ,ζ⟩=>?_);rw[evalPart_none];refine hF ?_;have ξ:Inv X pins σ α {O with heap:=O.heap.push {cls:= .type "slice",data:= .fields #[Z,Y,.none]}}:=I3.kept (t':=O.toks) λb ob q=>hE _ q;obtain⟨T,id,hT,ht,ν⟩:=ι pins {O with heap:=O.heap.push {cls:= .type "slice",data:= .fields #[Z,Y,.none]}} σ α x v Z Y l u O.heap.objs.size Q ξ ε (Heap.IsSliceOf.new ..) pl θ ζ;show ka (oD X.prog X.w) X.A (subscriptTail e (.Slice lo hi hB p2) v (.ref O.heap.objs.size)) (EP X pins σ Q) X.xe {O with heap:=O.heap.push {cls:= .type "slice",data:= .fields #[Z,Y,.none]}};exact tail_any (ops:=[.ref O.heap.objs.size,v]) ht hT ν (by with_unfolding_all rfl)
noncomputable def cutV (xs:gs V) (lo hi:rl Int):gs V:=(xs.drop (HT.sIx xs.length 0 lo)).take (HT.sIx xs.length xs.length hi - HT.sIx xs.length 0 lo)
theorem qy (xs:gs V) (lo hi:rl Int):(cutV xs lo hi).length<=xs.length:=by
 unfold cutV;rw[Kt,MM];omega
noncomputable def rSlT (K:aS):V->rl Int->rl Int->Hp->VK->Prop:=λx lo hi H Q=>∃a xs,x= .ref a/\SqT K H a xs/\
 ¬(HT.sIx xs.length 0 lo=0/\HT.sIx xs.length xs.length hi=xs.length)/\∀p,H p=hB->Q (.ref p) (upd H p (.tup (cutV xs lo hi)))
theorem G0:SlR X (rSlT X.K):=by
 intro pins s σ H x v γ β lo hi δ Q I Y hs pl Z h;obtain⟨a,xs,rfl,α,hw,q⟩:=h;cases Y;obtain⟨its,r,ht,hz⟩:=I.tuple α;have O:its.toArray.size=xs.length:=by rw[vu];exact r.length.symm
 refine⟨"tuple",_,PyProof.Rows.slot_tuple_getitem.lookup,ht.typeIs,?_⟩;refine HT.getItem_tuple_cut ht hs pl Z (by rw[O];exact hw) ?_ (by rw[O];exact hz);rw[O];refine⟨.ref s.heap.objs.size,_,I.laid (t':=s.toks) (o:= .tup (cutV xs lo hi)) (λb ob q=>hE _ q) (ri _) ?_,rfl,q _ (I.hok.fresh (ri _))⟩;exact⟨Lf (qy xs lo hi) hz,_,(r.drop (HT.sIx xs.length 0 lo)).take (HT.sIx xs.length xs.length hi - HT.sIx xs.length 0 lo),Rb _ _⟩
noncomputable def FM (K:aS):R2:=λx y H Q=>∃a b xs ys,x= .ref a/\y= .ref b/\SqT K H a xs/\SqT K H b ys/\xs≠[]/\xs.length + ys.length<=lx/\
 (ys=[]->Q (.ref a) H)/\(ys≠[]->∀p,H p=hB->Q (.ref p) (upd H p (.tup (xs++ys))))
theorem Vals.nil_iff {xs:gs V} {us:E'} (r:Vals xs us):us=[]↔xs=[]:=by
 cases r with
 | nil=>simp
 | cons _ _=>simp
theorem F2:OpR X (binaryOp .Add) (FM X.K):=by
 intro pins s σ H x y v u Q I β α h;obtain⟨a,b,xs,ys,rfl,rfl,ha,hb,ε,hz,γ,δ⟩:=h;cases β;cases α;obtain⟨its,Y,p1,_⟩:=I.tuple ha;obtain⟨Z,O,p2,_⟩:=I.tuple hb;refine HT.cat_tup p1 p2 (λz=>ε (Y.nil_iff.mp z)) (λz=>⟨.ref a,H,I,rfl,γ (O.nil_iff.mp z)⟩) (λz=>?_) (by rw[<-Y.length,<-O.length];exact hz);refine⟨.ref s.heap.objs.size,_,I.laid (t':=s.toks) (o:= .tup (xs++ys)) (λb ob q=>hE _ q) (ri _) ?_,rfl,δ (λw=>z (O.nil_iff.mpr w)) _ (I.hok.fresh (ri _))⟩;exact⟨by rw[hC];exact hz,_,Y.append O,Rb _ _⟩
end
noncomputable def ixN (n:Nat) (i:Int):rl Nat:=if 0<=i then (if i < n then ak i.toNat else hB) else if -(n:Int)<=i then ak (i + n).toNat else hB
noncomputable def atI {α:Type} (xs:gs α) (i:Int):rl α:=(ixN xs.length i).bind λj=>xs[j]?
theorem A1 {n:Nat} {i:Int} {j:Nat} (h:ixN n i=ak j):seqIndex? i n=ak j/\j < n/\-(n:Int)<=i/\i < n:=by
 unfold ixN at h;by_cases O:0<=i
 ·rw[qb O] at h;by_cases h1:i < n
  ·rw[qb h1] at h;have e:i.toNat=j:=kf h;exact⟨by rw[RB O h1,e],@A,@A,h1⟩
  ·rw[ov h1] at h;cases h
 ·rw[ov O] at h;by_cases h1: -(n:Int)<=i
  ·rw[qb h1] at h;have e:(i + n).toNat=j:=kf h;exact⟨by rw[R9 @A h1,e],@A,h1,@A⟩
  ·rw[ov h1] at h;cases h
theorem BH {α:Type} {xs:gs α} {i:Int} {v:α} (h:atI xs i=ak v):∃j,seqIndex? i xs.length=ak j/\xs[j]? =ak v/\j < xs.length/\-(xs.length:Int)<=i/\i < xs.length:=by
 unfold atI at h;cases e:ixN xs.length i with
 | none=>rw[e] at h;cases h
 | some j=>
   rw[e] at h;obtain⟨h1,h2,O,θ⟩:=A1 e;exact⟨j,h1,h,h2,O,θ⟩
theorem jz {α:Type} {xs:gs α} {j:Nat} {v:α} (h:xs[j]? =ak v):atI xs (j:Int)=ak v:=by
 have O:j < xs.length:=(eH.mp h).1
 have e:ixN xs.length (j:Int)=ak j:=by
  unfold ixN;rw[qb @A,qb @A];simp
 unfold atI;rw[e];exact h
def GB (b:Ko):Prop:=∀o i,subscripted b false o i=operate [o,i] (getItem o i)
def IxR (X:Cx) (r:R2):Prop:=
 ∀(value O:Ko) (pins:Dc) (s:ib) (σ:St) (H:Hp) (x y:V) (v u:ia) (Q:VK),Inv X pins σ H s->RelV x v->RelV y u->r x y H Q->
  subscripted O false v u=operate [v,u] (getItem v u)->ka (oD X.prog X.w) X.A (subscriptTail value O v u) (EP X pins σ Q) X.xe s
def MtR (X:Cx) (id:Lh) (r:V->gs V->Hp->VK->Prop):Prop:=
 ∀(pins:Dc) (s:ib) (σ:St) (H:Hp) (x:V) (xs:gs V) (v:ia) (us:E') (Q:VK),Inv X pins σ H s->RelV x v->Vals xs us->r x xs H Q->
  ka (oD X.prog X.w) X.A (call (.builtin id) (v::us)) (EP X pins σ Q) X.xe s
section
variable {X:Cx} {a b:Ko} {ta tb:TE} {pos:Pos}
theorem aH {r:R2} (α:IxR X r) (ha:PE X a ta) (hb:PE X b tb) (hs:GB b):PE X (.Subscript a b pos) (tOp r ta tb):=by
 intro pins s σ H Q I h;exact RY (binT ha hb I h λv u O x y H2 ω Z Y q=>α a b pins O σ H2 x y v u Q ω Z Y q (hs _ _))
noncomputable def rIxL (K:aS):R2:=λx y H Q=>∃p xs i v,x= .ref p/\y= .int i/\SqL K H p xs/\atI xs i=ak v/\Q v H
noncomputable def rIxT (K:aS):R2:=λx y H Q=>∃p xs i v,x= .ref p/\y= .int i/\SqT K H p xs/\atI xs i=ak v/\Q v H
theorem F9:IxR X (rIxL X.K):=by
 intro value O pins s σ H x y v u Q I ε δ h hs;obtain⟨p,xs,i,z,rfl,rfl,ζ,he,q⟩:=h;cases ε;obtain⟨t,rfl⟩:=δ;obtain⟨its,r,pl,hz⟩:=I.list ζ;obtain⟨j,h1,h2,η,θ,α⟩:=BH he;obtain⟨w,γ,Y⟩:=r.get h2;have hl:=r.length;have hn:=xx;have fin:EP X pins σ Q w s:=⟨z,H,I,Y,q⟩;by_cases β:0<=i
 ·have Z:i.toNat=j:=by
   rw[RB β α] at h1;exact kf h1
  exact item_listR pl.isList β @A (by rw[Z];simpa using γ) fin hs
 ·have Z:(i + (its.toArray.size:Int)).toNat=j:=by
   rw[R9 @A θ] at h1;rw[vu,<-hl];exact kf h1
  exact Rc (x:=w) pl.isList.typeIs slot_list_getitem.lookup
   (wpAny_getItem_list_neg (Q:=λr s'=>r=w/\EP X pins σ Q r s') pl.isList @A (by rw[vu]<;>omega) @A (by rw[Z];simpa using γ) ⟨rfl,fin⟩) hs
theorem IB:IxR X (rIxT X.K):=by
 intro value O pins s σ H x y v u Q I β Z h hs;obtain⟨p,xs,i,z,rfl,rfl,γ,he,q⟩:=h;cases β;obtain⟨t,rfl⟩:=Z;obtain⟨its,r,pl,hz⟩:=I.tuple γ;obtain⟨j,h1,h2,ε,θ,α⟩:=BH he;obtain⟨w,δ,Y⟩:=r.get h2;have hl:=r.length;have hn:=xx;have fin:EP X pins σ Q w s:=⟨z,H,I,Y,q⟩
 exact Rc (x:=w) pl.typeIs slot_tuple_getitem.lookup
  (getItem_tuple (j:=j) (Q:=λr s'=>r=w/\EP X pins σ Q r s') pl @A @A (by rw[vu,<-hl];exact h1) (by simpa using δ) ⟨rfl,fin⟩) hs
theorem yC (its:E') (n j:Nat) (u:ia):KI (·.setIfInBounds j u) {cls:= .type "list",data:= .seq its.toArray n}={cls:= .type "list",data:= .seq (its.set j u).toArray n}:=by
 simp[KI]
theorem Inv.lst {pins:Dc} {σ:St} {H:Hp} {s:ib} {p:gn} {xs:gs V} (I:Inv X pins σ H s) (h:H p=ak (.lst xs)):
  ∃(its:E') (n:Nat),Vals xs its/\s.heap.get? p=ak {cls:= .type "list",data:= .seq its.toArray n}/\xs.length<=sizeLine:=by
 obtain⟨z,its,n,r,e⟩:=I.hok p _ h;exact⟨its,n,r,e,z⟩
theorem Inv.lstUpd {pins:Dc} {σ:St} {H:Hp} {s:ib} {p:gn} {xs ys:gs V} {its its':E'} {n O:Nat} {f:P8->P8} (I:Inv X pins σ H s) (h:H p=ak (.lst xs))
  (ho:s.heap.get? p=ak {cls:= .type "list",data:= .seq its.toArray n}) (hf:f {cls:= .type "list",data:= .seq its.toArray n}={cls:= .type "list",data:= .seq its'.toArray O}) (r:Vals ys its') (hz:ys.length<=lx) (t:Nat):
  Inv X pins σ (upd H p (.lst ys)) {s with heap:=s.heap.update p f,toks:=t}:=by
 have e:(s.heap.update p f).get? p=ak {cls:= .type "list",data:= .seq its'.toArray O}:=by
  rw[Ku f ho (by rw[hf]<;>rfl),hf]
 refine I.write (x:=p) (e:=p) (by rw[h];trivial) (.inl rfl) (λb u hb q=>(KH _ _ (Ka hb)).trans q) ⟨_,e⟩ ?_;exact⟨hz,its',O,r,e⟩
noncomputable def HL:V->V->V->Hp->(Hp->Prop)->Prop:=λo i v H Q=>∃p xs k j,o= .ref p/\i= .int k/\H p=ak (.lst xs)/\ixN xs.length k=ak j/\Q (upd H p (.lst (xs.set j v)))
theorem Cv:PSet X HL:=by
 intro pins s σ H o i v δ ε u Q I ζ η β h;obtain⟨p,xs,k,j,rfl,rfl,O,γ,q⟩:=h;cases ζ;obtain⟨t,rfl⟩:=η;obtain⟨its,n,r,ho,hz⟩:=I.lst O;obtain⟨h1,h2,Y,θ⟩:=A1 γ;have hl:=r.length;have hn:=xx
 have α:Inv X pins σ (upd H p (.lst (xs.set j v))) {s with heap:=s.heap.update p (KI (·.setIfInBounds j u))}:=
  I.lstUpd O ho (yC its n j u) (r.set β j) (by rw[N3];exact hz) s.toks
 by_cases Z:0<=k
 ·have hk:k.toNat=j:=by
   rw[RB Z θ] at h1;exact kf h1
  exact PySem.W.ki_setAt ho Z @A (by rw[vu,<-hl];exact θ) (by rw[hk];exact⟨_,α,q⟩)
 ·have hk:(k + (its.toArray.size:Int)).toNat=j:=by
   rw[R9 @A Y] at h1;rw[vu,<-hl];exact kf h1
  exact PySem.W.ki_setBack ho @A (by rw[vu,<-hl];exact Y) @A (by rw[hk];exact⟨_,α,q⟩)
theorem uI (lo hi:rl Int) (n:Nat):(sliceBounds lo hi hB n).1=((HT.sIx n 0 lo:Nat):Int)/\(sliceBounds lo hi hB n).2.1=((HT.sIx n n hi:Nat):Int)/\(sliceBounds lo hi hB n).2.2=1:=by
 refine⟨?_,?_,rfl⟩
 ·cases lo with
  | none=>simp[sliceBounds,HT.sIx]
  | some i=>
    simp only[sliceBounds,HT.sIx,QD,show(1:Int) > 0 by decide,OF];by_cases h:i < 0
    ·simp only[h,OF]<;>omega
    ·simp only[h,RA]<;>omega
 ·cases hi with
  | none=>simp[sliceBounds,HT.sIx]
  | some i=>
    simp only[sliceBounds,HT.sIx,QD,show(1:Int) > 0 by decide,OF];by_cases h:i < 0
    ·simp only[h,OF]<;>omega
    ·simp only[h,RA]<;>omega
theorem sS (its:E') (lo hi:rl Int):slicePick its.toArray lo hi hB=((its.drop (HT.sIx its.length 0 lo)).take (HT.sIx its.length its.length hi - HT.sIx its.length 0 lo)).toArray:=by
 obtain⟨h1,h2,O⟩:=uI lo hi its.toArray.size;unfold slicePick;rw[h1,h2,O];simp only[sliceRange_one,pick_run,vu]<;>rfl
noncomputable def rSlL (K:aS):V->rl Int->rl Int->Hp->VK->Prop:=λx lo hi H Q=>∃a xs,x= .ref a/\SqL K H a xs/\∀p,H p=hB->Q (.ref p) (upd H p (.lst (cutV xs lo hi)))
theorem Fk:SlR X (rSlL X.K):=by
 intro pins s σ H x v γ β lo hi δ Q I Y hs pl Z h;obtain⟨a,xs,rfl,α,q⟩:=h;cases Y;obtain⟨its,r,ht,hz⟩:=I.list α;have O:=r.length;refine⟨"list",_,slot_list_getitem.lookup,ht.isList.typeIs,?_⟩;refine wpAny_getItem_list_slice ht.isList hs pl Z .none @D ?_ (by rw[vu]<;>omega);rw[sS,<-O];refine⟨.ref s.heap.objs.size,_,I.laid (t':=s.toks) (o:= .lst (cutV xs lo hi)) (λb ob q=>hE _ q) (ri _) ?_,rfl,q _ (I.hok.fresh (ri _))⟩;exact⟨Lf (qy xs lo hi) hz,_,0,(r.drop (HT.sIx xs.length 0 lo)).take (HT.sIx xs.length xs.length hi - HT.sIx xs.length 0 lo),lT _ rfl⟩
noncomputable def qi:V->KS
 | .non=>true
 | .bl _=>true
 | .int _=>true
 | .str _=>true
 | _=>false
noncomputable def eqV:V->V->KS
 | .non,.non=>true
 | .bl a,.bl b=>a == b
 | .bl a,.int b=>(if a then 1 else 0) == b
 | .int a,.bl b=>a == (if b then 1 else 0)
 | .int a,.int b=>a == b
 | .str a,.str b=>a == b
 | _,_=>false
theorem IL {A:Kj} {s:ib} {y x:V} {u v:ia} (Y:RelV y u) (O:RelV x v) (Z:qi y=true) (fx:qi x=true):SeqAt.EqAt A s u v (eqV y x):=by
 cases y with
 | non=>
   cases Y;cases x with
   | non=>cases O;exact SeqAt.EqAt.same _
   | bl b=>cases O;exact SeqAt.EqAt.none_bool b
   | int b=>obtain⟨t,rfl⟩:=O;exact SeqAt.EqAt.none_int b t
   | str b=>obtain⟨t,rfl⟩:=O;exact SeqAt.EqAt.none_str b t
   | _=>exact kv (show false=true from fx) iv
 | bl a=>
   cases Y;cases x with
   | non=>cases O;exact SeqAt.EqAt.bool_none a
   | bl b=>cases O;exact SeqAt.EqAt.bool_bool a b
   | int b=>obtain⟨t,rfl⟩:=O;exact SeqAt.EqAt.bool_int a b t
   | str b=>obtain⟨t,rfl⟩:=O;exact SeqAt.EqAt.bool_str a b t
   | _=>exact kv (show false=true from fx) iv
 | int a=>
   obtain⟨t',rfl⟩:=Y;cases x with
   | non=>cases O;exact SeqAt.EqAt.int_none a t'
   | bl b=>cases O;exact SeqAt.EqAt.int_bool a t' b
   | int b=>obtain⟨t,rfl⟩:=O;exact SeqAt.EqAt.int_int a t' b t
   | str b=>obtain⟨t,rfl⟩:=O;exact Qj a t' b t
   | _=>exact kv (show false=true from fx) iv
 | str a=>
   obtain⟨t',rfl⟩:=Y;cases x with
   | non=>cases O;exact SeqAt.EqAt.str_none a t'
   | bl b=>cases O;exact SeqAt.EqAt.str_bool a t' b
   | int b=>obtain⟨t,rfl⟩:=O;exact Qi a t' b t
   | str b=>obtain⟨t,rfl⟩:=O;exact SeqAt.EqAt.str_str a t' b t
   | _=>exact kv (show false=true from fx) iv
 | _=>exact kv (show false=true from Z) iv
theorem vx:lJ X (.type "list") (λxs H Q=>∃p ys,xs=[.ref p]/\(SqL X.K H p ys∨SqT X.K H p ys)/\∀l,H l=hB->Q (.ref l) (upd H l (.lst ys))):=by
 intro pins s σ H xs us Q I r h;obtain⟨p,ys,rfl,hq,q⟩:=h;obtain⟨u,rfl,Z⟩:=zz r;cases Z
 have fin:∀(its:E'),Vals ys its->ys.length<=lx->∀(h':Ke) (ρ:Nat),(∀b o',s.heap.get? b=ak o'->h'.get? b=ak o')->
   h'.get? s.heap.objs.size=ak {cls:= .type "list",dict:=hB,data:= .seq its.toArray ρ,slots:=#[]}->EP X pins σ Q (.ref s.heap.objs.size) {s with heap:=h'}:=λits r' hz h' ρ kp e=>
  ⟨.ref s.heap.objs.size,_,I.laid (t':=s.toks) kp (ri _) (show fM X.prog X.w _ h' _ (.lst ys) from⟨hz,its,ρ,r',e⟩),rfl,q _ (I.hok.fresh (ri _))⟩
 rcases hq with hq | hq
 ·obtain⟨its,r',pl,hz⟩:=I.list hq;have O:=r'.length;obtain⟨o,ho,Y,n,hd⟩:=pl.isList;exact call_list_seq p (.inl rfl) ho Y hd (λh' ρ kp e=>fin its r' hz h' ρ kp e) (by simp only[vu]<;>omega)
 ·obtain⟨its,r',pl,hz⟩:=I.tuple hq;have O:=r'.length;obtain⟨o,ho,Y,n,hd⟩:=pl;exact call_list_seq p (.inr rfl) ho Y hd (λh' ρ kp e=>fin its r' hz h' ρ kp e) (by simp only[vu]<;>omega)
theorem ug:lJ X (.type "tuple") (λxs H Q=>∃p ys,xs=[.ref p]/\((SqL X.K H p ys/\∀l,H l=hB->Q (.ref l) (upd H l (.tup ys)))∨(SqT X.K H p ys/\Q (.ref p) H))):=by
 intro pins s σ H xs us Q I r h;obtain⟨p,ys,rfl,h⟩:=h;obtain⟨u,rfl,Z⟩:=zz r;cases Z;rcases h with ⟨O,q⟩ | ⟨O,q⟩
 ·obtain⟨its,r',pl,hz⟩:=I.list O;have Y:=r'.length;refine call_tuple_list pl.isList (λh' kp=>?_) (by simp only[vu]<;>omega);have I1:Inv X pins σ H {s with heap:=h'}:=I.kept (t':=s.toks) kp
  have ω:Inv X pins σ (upd H h'.objs.size (.tup ys)) {s with heap:=h'.push {cls:= .type "tuple",data:= .seq its.toArray}}:=
   I1.laid (t':=s.toks) (λb o e=>hE _ e) (ri _) (show fM X.prog X.w _ _ _ (.tup ys) from⟨hz,its,r',Rb _ _⟩)
  exact⟨.ref h'.objs.size,_,ω,rfl,q _ (I1.hok.fresh (ri _))⟩
 ·obtain⟨its,r',pl,hz⟩:=I.tuple O;exact call_tuple_same pl ⟨.ref p,H,I,rfl,q⟩
def tyV (K:aS) (T:Lh) (x:V) (H:Hp):Prop:=match x with
 | .str _=>T="str"
 | .int _=>T="int"
 | .ref p=>(T="list"/\∃xs,SqL K H p xs)∨(T="tuple"/\∃o,K.lookup p=ak o/\o.cls= .type "tuple"/\o.dict=hB)∨
   (T="dict"/\((∃kvs,H p=ak (.dK kvs))∨∃kvs,H p=ak (.dT kvs)))∨(T="set"/\∃S n,H p=ak (.set S n))
 | _=>False
theorem Eb {pins:Dc} {σ:St} {H:Hp} {s:ib} {T:Lh} {x:V} {v:ia} (I:Inv X pins σ H s) (r:RelV x v) (ty:tyV X.K T x H):
  s.TypeIs v T/\∀a,v= .ref a->∃ob,s.heap.get? a=ak ob/\ob.dict=none:=by
 cases x with
 | str z=>
   obtain⟨t,rfl⟩:=r;cases(show T="str" from ty);exact⟨typeIs_str s z t,λ_ e=>nomatch e⟩
 | int i=>
   obtain⟨t,rfl⟩:=r;cases(show T="int" from ty);exact⟨RX s i t,λ_ e=>nomatch e⟩
 | ref p=>
   cases r;rcases ty with ⟨rfl,xs,Y⟩ | ⟨rfl,o,hk,Z,hd⟩ | ⟨rfl,hk⟩ | ⟨rfl,S,n,hk⟩
   ·obtain⟨its,_,pl,_⟩:=I.list Y;refine⟨pl.isList.typeIs,λa e=>?_⟩;cases e;obtain⟨o,n,e,c,hd,_⟩:=pl;exact⟨o,e,hd⟩
   ·refine⟨⟨o,I.kIn p o hk,Z⟩,λa e=>?_⟩;cases e;exact⟨o,I.kIn _ o hk,hd⟩
   ·have z:∃o,s.heap.get? p=ak o/\o.ExactDict:=by
     rcases hk with ⟨kvs,hk⟩ | ⟨kvs,hk⟩
     ·obtain⟨_,_,_,_,o,_,_,e,ex,_⟩:=I.hok p _ hk;exact⟨o,e,ex⟩
     ·obtain⟨_,_,_,_,o,_,_,e,ex,_⟩:=I.hok p _ hk;exact⟨o,e,ex⟩
    obtain⟨o,e,ex⟩:=z;refine⟨⟨o,e,ex.1⟩,λa O=>?_⟩;cases O;exact⟨o,e,ex.2.1⟩
   ·obtain⟨o,_,_,_,e,ex,_⟩:=I.hok p _ hk;refine⟨⟨o,e,ex.1⟩,λa O=>?_⟩;cases O;exact⟨o,e,ex.2.1⟩
 | _=>exact KD ty
noncomputable abbrev tBM0 (K:aS) (T:Lh) (r:V->gs V->Hp->VK->Prop) (to:TE):TE:=fun σ H Q=>to σ H λx H1=>tyV K T x H1/\r x [] H1 Q
noncomputable abbrev tBM (K:aS) (T:Lh) (r:V->gs V->Hp->VK->Prop) (to:TE) (t:TA):TE:=fun σ H Q=>to σ H λx H1=>tyV K T x H1/\t σ H1 λxs H2=>r x xs H2 Q
variable {o e:Ko} {es:gs Ko} {to:TE} {t:TA} {name:Kz} {apos cpos:Pos} {T id:Lh} {r:V->gs V->Hp->VK->Prop}
theorem HZ (γ:PlainAttrs T) (slot:Slot T name id) (O:typeOf (.builtin id)=pure (.type "method_descriptor")) (hm:MtR X id r) (ho:PE X o to)
  (ψ:attributeBase o name X.env (eval o X.env)=eval o X.env:=by rfl) (χ:(apos.endLine == cpos.line)=true:=by rfl):PE X (.Call (.Attribute o name apos) [] [] cpos) (tBM0 X.K T r to):=by
 intro pins s σ H Q I h;refine wpAny_Call_method0_late ψ χ (thn (ho pins s σ H _ I h) λv α ⟨x,H1,Z,Y,ty,β⟩=>?_);obtain⟨h1,h2⟩:=Eb Z Y ty;exact⟨T,id,γ,slot,O,h1,h2,Qq rfl (PySem.evalArgs_none (hm pins α σ H1 x [] v [] Q Z Y .nil β))⟩
theorem JL (θ:PlainAttrs T) (slot:Slot T name id) (Y:typeOf (.builtin id)=pure (.type "method_descriptor")) (hm:MtR X id r) (ho:PE X o to) (ha:PA X (e::es) t)
  (ψ:attributeBase o name X.env (eval o X.env)=eval o X.env:=by rfl)
  (α:((backTo cpos (px (e::es) X.env)).all (λx=> !x.1)&&(backToKw cpos (keywordEach [] X.env)).all (λx=>x.1.isSome)
   &&decide ((e::es).length + ([]:gs Keyword).length + (if ([]:gs Keyword).isEmpty then 0 else 1) < 30))=true:=by rfl)
  (χ:(apos.endLine == cpos.line)=true:=by rfl) (hs:px (e::es) X.env=(false,eval e X.env)::px es X.env:=by rfl) (O:(backTo cpos (px es X.env)).any (·.1)=false:=by rfl):
  PE X (.Call (.Attribute o name apos) (e::es) [] cpos) (tBM X.K T r to t):=by
 intro pins s σ H Q I h;refine wpAny_Call_method_late ψ α χ rfl (thn (ho pins s σ H _ I h) λv ε ⟨x,H1,β,Z,ty,η⟩=>?_);obtain⟨h1,h2⟩:=Eb β Z ty;refine⟨T,id,θ,slot,Y,h1,h2,?_⟩;have ξ:=ha cpos pins ε σ H1 _ β η;rw[hs] at ξ ⊢;refine Qq (by show(false||(backTo cpos (px es X.env)).any (·.1))=false;rw[O]<;>rfl) (QH ?_);exact thn ξ λus γ ⟨vs,H2,ω,ζ,δ⟩=>hm pins γ σ H2 x vs v us Q ω Z ζ δ
end
def MtM (X:Cx) (id:Lh) (r:V->gs V->Hp->VK->Prop):Prop:=
 ∀(pins:Dc) (s:ib) (σ:St) (H:Hp) (x:V) (xs:gs V) (v:ia) (us:E') (Q:VK),Inv X pins σ H s->RelV x v->Vals xs us->r x xs H Q->
  ka (oD X.prog X.w) X.A (call (.builtin id) (v::us)) (EP X pins σ Q) X.xe s
theorem Vals.one:∀{x:V} {us:E'},Vals [x] us->∃u,us=[u]/\RelV x u
 | _,_,.cons r .nil=>⟨_,rfl,r⟩
theorem Vals.rep {xs:gs V} {us:E'} (h:Vals xs us):∀k:Nat,Vals (gB k xs).flatten (gB k us).flatten
 | 0=> .nil
 | k + 1=>by
   rw[Mh,Mh,NM,NM];exact Vals.append h (Vals.rep h k)
theorem vk (its:E'):∀(k:Nat) (O:E'),
  QW (λx1 x2=>x1++x2) O.toArray (gB k its.toArray)=(O++(gB k its).flatten).toArray
 | 0,O=>by simp
 | k + 1,O=>by
   have e:O.toArray++its.toArray=(O++its).toArray:=by simp
   have Y:(O++its)++(gB k its).flatten=O++(gB (k + 1) its).flatten:=by
    rw[Mh,NM,Mo]
   rw[<-Y,<-vk its k (O++its),<-e,Mh,NX]
section
variable {X:Cx} {pins:Dc} {σ:St} {H:Hp} {s:ib} {l b:gn} {xs ys zs:gs V}
theorem Inv.lset {its its':E'} {n:Nat} {f:G'->G'} {t':Nat} (I:Inv X pins σ H s) (ε:H l=ak (.lst xs))
  (e:s.heap.get? l=ak {cls:= .type "list",data:= .seq its.toArray n}) (hf:f its.toArray=its'.toArray) (O:Vals ys its') (hz:ys.length<=lx):
  Inv X pins σ (upd H l (.lst ys)) {s with heap:=s.heap.update l (KI f),toks:=t'}:=by
 have q:=PySem.IsL.update e f;rw[hf] at q;refine I.write (x:=l) (e:=l) (by rw[ε];exact trivial) (.inl rfl) (λY u hb hu=>(KH s.heap (KI f) (Ka hb)).trans hu) ⟨_,q⟩ ?_;exact⟨hz,its',_,O,q⟩
theorem Inv.lnew {its:E'} {t':Nat} (I:Inv X pins σ H s) (O:Vals ys its) (hz:ys.length<=lx):
  Inv X pins σ (upd H s.heap.objs.size (.lst ys)) {s with heap:=s.heap.push {cls:= .type "list",data:= .seq its.toArray},toks:=t'}:=
 I.laid (λ_ _ q=>hE _ q) (ri _) ⟨hz,its,0,O,lT _ rfl⟩
theorem Inv.fresh (I:Inv X pins σ H s):H s.heap.objs.size=none:=I.hok.fresh (ri _)
theorem Inv.lstM (I:Inv X pins σ H s) (ε:H l=ak (.lst xs)):xs.length<=lx/\∃(its:E') (n:Nat),Vals xs its/\xs.length=its.length/\s.heap.get? l=ak {cls:= .type "list",data:= .seq its.toArray n}:=by
 obtain⟨z,its,n,r,e⟩:=I.hok l _ ε;exact⟨z,its,n,r,r.length,e⟩
theorem xq {n:Nat} (h:n<=lx):ME n=false:=by
 unfold ME;exact qa @A
end
section
variable {X:Cx}
noncomputable def An:V->gs V->Hp->VK->Prop:=λx vs H Q=>∃l xs y,x= .ref l/\vs=[y]/\H l=ak (.lst xs)/\xs.length < lx/\Q .non (upd H l (.lst (xs++[y])))
theorem dj:MtM X "list.append" An:=by
 intro pins s σ H x vs v us Q I O Y h;obtain⟨l,xs,y,rfl,rfl,ε,hz,q⟩:=h;cases O;obtain⟨u,rfl,Z⟩:=Y.one;obtain⟨z,its,n,r,hl,e⟩:=I.lstM ε;refine Qy F.slot_list_append ⟨_,e,rfl⟩ F.entry_list_append (F.args_list_append_2 _ _) (PySem.list_append l its.toArray n u (by rw[vu];omega)) ⟨e,?_⟩;refine⟨.non,_,I.lset (its':=its++[u]) ε e @D (r.append (.cons Z .nil)) ?_,rfl,q⟩;rw[hC,Kb];omega
noncomputable def Am:V->gs V->Hp->VK->Prop:=λx vs H Q=>∃l b xs zs,x= .ref l/\vs=[.ref b]/\H l=ak (.lst xs)/\H b=ak (.lst zs)/\xs.length + zs.length<=lx/\Q .non (upd H l (.lst (xs++zs)))
theorem pK:MtM X "list.extend" Am:=by
 intro pins s σ H x vs v us Q I Z α h;obtain⟨l,b,xs,zs,rfl,rfl,ε,ζ,hz,q⟩:=h;cases Z;obtain⟨u,rfl,β⟩:=α.one;cases β;obtain⟨z,its,n,r,hl,e⟩:=I.lstM ε;obtain⟨θ,O,δ,γ,hl2,η⟩:=I.lstM ζ;have hsz:its.toArray.size + O.toArray.size<=sizeLine:=by rw[vu,vu];omega
 have Y:¬(!its.toArray.isEmpty&&ME (its.toArray.size + O.toArray.size))=true:=by
  rw[xq hsz,OB];exact iv
 refine Qy F.slot_list_extend ⟨_,e,rfl⟩ F.entry_list_extend (F.args_list_extend_2 _ _)
  (AutoSeq1.list_extend_list_list_0 l its.toArray n b O.toArray δ Y (by rw[vu];omega) @A) ⟨e,η,?_⟩
 refine⟨.non,_,I.lset (its':=its++O) ε e @D (r.append γ) ?_,rfl,q⟩;rw[hC];omega
noncomputable def rCat:R2:=λx y H Q=>∃l b xs zs,x= .ref l/\y= .ref b/\H l=ak (.lst xs)/\H b=ak (.lst zs)/\xs.length + zs.length<=lx/\∀p,H p=hB->Q (.ref p) (upd H p (.lst (xs++zs)))
theorem lR:OpR X (binaryOp .Add) rCat:=by
 intro pins s σ H x y v u Q I Z Y h;obtain⟨l,b,xs,zs,rfl,rfl,ε,ζ,hz,q⟩:=h;cases Z;cases Y;obtain⟨z,its,n,r,hl,e⟩:=I.lstM ε;obtain⟨γ,O,δ,α,hl2,β⟩:=I.lstM ζ;refine PySem.P.add_list e β ?_ (by rw[vu,vu];omega);have ea:its.toArray++O.toArray=(its++O).toArray:=by simp
 rw[ea];exact⟨.ref _,_,I.lnew (t':=s.toks) (r.append α) (by rw[hC];omega),rfl,q _ I.fresh⟩
noncomputable def rRep:R2:=λx y H Q=>∃l k xs,x= .ref l/\y= .int k/\H l=ak (.lst xs)/\-(2 ^ 63)<=k/\k < 2 ^ 63/\xs.length * k.toNat<=lx/\
 ∀p,H p=hB->Q (.ref p) (upd H p (.lst (gB k.toNat xs).flatten))
theorem F8 {α:Type} (xs:gs α) (k:Nat):(gB k xs).flatten.length=k * xs.length:=by
 induction k with
 | zero=>simp
 | succ k ih=>rw[Mh,NM,hC,ih,OK,Ni]
theorem AB:OpR X (binaryOp .Mult) rRep:=by
 intro pins s σ H x y v u Q I δ γ h;obtain⟨l,k,xs,rfl,rfl,ε,h1,h2,hz,q⟩:=h;cases δ;obtain⟨t,rfl⟩:=γ;obtain⟨z,its,n,r,hl,e⟩:=I.lstM ε;have Z:its.toArray.size * k.toNat<=sizeLine:=by rw[vu,<-hl];exact hz
 have β:¬its.toArray.size * k.toNat > (2 ^ 63 - 1) / 8:=by
  have:(lx:Nat)<=(2 ^ 63 - 1) / 8:=by decide
  omega
 have α:¬(!Builtin.List.listFitsIndex k)=true:=by
  rw[fitsIndex_both h1 h2];exact iv
 have O:¬ME (its.toArray.size * k.toNat)=true:=by
  rw[xq Z];exact iv
 have Y:QW (λx1 x2=>x1++x2) #[] (gB (if its.toArray.isEmpty=true then 0 else k.toNat) its.toArray)=(gB k.toNat its).flatten.toArray:=by
  have π:∀m:Nat,QW (λx1 x2=>x1++x2) #[] (gB m its.toArray)=(gB m its).flatten.toArray:=λm=>by
   have:=vk its m [];rw[List.nil_append] at this;exact this
  rw[π];cases its with
  | nil=>simp
  | cons a r'=>rw[ov @D]
 refine wpAny_binaryOp_repeat_ref (T:="list") (U:="int") @C ⟨_,e,rfl⟩ (λs'=>RX s' k t) noFill_list_mul F.fills_int_mul F.slot_int_rmul repeat_list F.slot_int_index.lookup
  (Qy F.slot_int_rmul (RX s k t) F.entry_int_rmul (F.args_int_rmul_2 _ _) (int___rmul___int_list k t l its.toArray n)
   ⟨e,rfl,⟨_,e,rfl⟩,Qy F.slot_list_mul ⟨_,e,rfl⟩ F.entry_list_mul (F.args_list_mul_2 _ _) (AutoListH.list___mul___list_int_3 l its.toArray n k t α β O) ⟨e,?_⟩⟩)
 rw[Y];exact⟨.ref _,_,I.lnew (t':=s.toks) (r.rep k.toNat) (by rw[F8,Pn];exact hz),rfl,q _ I.fresh⟩
end
end L2
namespace Att
open PySem PySem.W PySem.Calls PyProof.Rows
theorem p9 {P:Params} {h:Ke}:∀(ns:K3) (vs:E'),WellAll P h vs (ns.map WData.int)->IntsAre vs ns:=by
 intro ns
 induction ns with
 | nil=>
   intro vs w;rw[Q2] at w;cases w;exact .nil
 | cons n ns ih=>
   intro vs w;rw[KF] at w;cases w with
   | cons a b=>
     cases a;exact .cons _ _ (ih _ b)
theorem zZ {l:R7} {n:Nat} (hn:l.most=ak n) {P:Params} {h:Ke} {args:gs WData} {O:E'}
  (Y:l.row.toRowW.claim.pre args=true) (β:WellAll P h O args):
  ∃a vs ns,O=[y7 a]/\args=[WData.list (ns.map WData.int)]/\h.get? a=ak {cls:= .type "list",data:= .seq vs.toArray}/\IntsAre vs ns/\ns.length<=n:=by
 have γ:WShape.hasAll [] args [.list .int]=true:=(pre_splitW Y).1;have δ:l.pre.holds [] {args:=args}=true:=(pre_splitW Y).2;obtain⟨d,r,rfl,h1,h2⟩:=hasAllW_cons γ;obtain rfl:=hasAllW_nil h2;obtain⟨xs,rfl,ν⟩:=hasW_list h1;obtain⟨ns,rfl⟩:=items_int ν
 have Z:ns.length<=n:=by
  unfold OpenLaw.pre at δ
  have θ:(WTm.not (.lt (.lit (.int (n:Int))) (.len (.arg 0)))).holds [] {args:=[.list (ns.map .int)]}=true:=by
   have θ:=(holds_andW δ).1;rw[hn] at θ;exact θ
  have α:=condW_of θ (w_not (w_lt w_lit (w_len_list (w_arg rfl))));rw[dt] at α;refine Py λq=>?_;have ι:(n:Int) < ((ns.length:Nat):Int):=by omega
  first
   | (rw[pB ι] at α;exact kv α @C)
   | (simp at α;omega)
 cases β with
 | cons η ε=>
   cases ε;cases η with
   | list ho ζ=>exact⟨_,_,ns,rfl,rfl,ho,p9 ns _ ζ,Z⟩
theorem Ar (l:R7) (args:gs WData):l.row.toRowW.claim.post args (.bool true) args=true:=
 postW_of (r:=l.row.toRowW) (X:=(true == true))
  (show S5 [] (.bool true) .bool=true by first | rfl | decide | simp[S5,WShape.arms,WShape.armsAll])
  (show(WTm.eq .res (.lit (.bool true))).value [] {args:=args,res:=ak (.bool true),after:=args}=ak (.bool (true == true)) from w_eq_bool (w_res rfl) w_lit) rfl
theorem attach_call {l:R7} {n:Nat} {q:qc} {Z:C'} {χ:F'->Ke->Prop} {φ:y3->Ke->Prop} {d:DefRec}
  (hn:l.most=ak n) (ρ:d.params.defaults=[])
  (call:∀(w:y3) (s₀ O:ib) (mg ν:F') (ζ:gn) (o:P8) (ι ψ ε:ia) (a:gn) (vs:E') (ns:K3),
   Ground q Z [] χ w s₀ mg ν O.heap->φ w O.heap->
   O.heap.get? ζ=ak o->o.data= .func (docDef d.name d.params d.body d.scope ι ψ ε)->O.heap.CodeRec ψ d.name->mg d.name=ak (.ref ζ)->
   O.heap.get? a=ak {cls:= .type "list",data:= .seq vs.toArray}->IntsAre vs ns->ns.length<=n->O.gens=#[]->
   codeAny (oD l.prog w) callerA (.call (.ref ζ) ⟨[.ref a],[]⟩) (λr s'=>r= .ok (.ret (.bool true))/\OldK O.heap s'.heap/\s'.os=O.os/\AllBare s'.gens) O):
  WalkO q Z χ φ l.row.toRowW d [] (λf vs=>QS f vs):=by
 intro w s₀ O mg ν G Y ζ o ι ψ ε dV kV ho hd η υ ο hg args τ as β π ω ξ a0;obtain rfl:dV= .none:=Dflts.none υ ρ;obtain rfl:kV= .none:=Dflts.noKw υ;obtain⟨a,vs,ns,rfl,rfl,γ,α,δ⟩:=zZ hn β ξ;refine enter_call (Nq (call w s₀ O mg ν ζ o ι ψ ε a vs ns G Y ho (fd_plain hd) η ο γ α δ hg) λr s' hq=>?_);obtain⟨rfl,h2,h3,θ⟩:=hq;exact⟨.inl ⟨.bool true,.bool true,[],rfl,λ_=>rfl,.bool true,Ar l _,λ_=>⟨P',λ_ hm=>(nomatch hm)⟩⟩,h2,h3,θ⟩
end Att
namespace L2
open PySem PySem.Spec PyProof.Rows
theorem oR:∀{vs:E'} {ns:K3},IntsAre vs ns->Vals (ns.map V.int) vs
 | _,_,.nil=> .nil
 | _,_,.cons n t h=> .cons ⟨t,rfl⟩ (oR h)
def Only (H:Hp):Prop:=∀b,H b=hB∨∃o xs,H b=ak (.frz o (.lst xs))
theorem C8 {P:qc} {w:y3} {K:aS} {mg ο:F'} {CX:CXT} {k:Nat} {τ a:gn} {fd:mu} {x:Kz} {sp:Sp} {O:ib} {vs:E'} {ns:K3}
  (ψ:K.In O.heap) (ζ:O.heap.Ns La mg) (hb:O.heap.Ns builtinsNs ο) (θ:∀x:Kz,x≠"__name__"->ο x=bootBuiltins x) (η:O.heap.NoLimit) (hg:O.gens=#[])
  (ha:O.heap.get? a=ak {cls:= .type "list",data:= .seq vs.toArray}) (hi:IntsAre vs ns) (hl:ns.length<=lx) (hr:Room k callerA)
  (F:∀base:Ke,K.In base->base.Ns La mg->FnOk P w K mg base CX k τ fd [x] sp) (α:∀(s:ib) (u:ia),BindsTo s fd ⟨[u],[]⟩ [(x,u)])
  (π:∀H:Hp,Only H->SqL K H a (ns.map V.int)->sp [.ref a] H (λv _=>v= .bl true) λ_ _ _=>False)
  (ρ:∀H e s',CX [] H O (λ_ _ _=>False) e s'->False):
  codeAny (oD P w) callerA (.call (.ref τ) ⟨[.ref a],[]⟩) (λr s'=>r= .ok (.ret (.bool true))/\OldK O.heap s'.heap/\s'.os=O.os/\AllBare s'.gens) O:=by
 have φ:=oR hi;have δ:=hi.length
 have Z:∀H:Hp,Only H->SqL K H a (ns.map V.int)->HOk P w H O.heap->(∀b,H b≠hB->b=a)->(H a≠hB->K.lookup a=hB)->
   codeAny (oD P w) callerA (.call (.ref τ) ⟨[.ref a],[]⟩) (λr s'=>r= .ok (.ret (.bool true))/\OldK O.heap s'.heap/\s'.os=O.os/\AllBare s'.gens) O:=by
  intro H hO hS hok ξ hK;have β:∀{b:gn} {o:P8},O.heap.get? b=ak o->H b=hB->(hidT O.heap H).get? b=ak o:=λe n=>Dh e n
  have ν:∀{b:gn} {o:P8} {es:Ll DictEntry} {ep:Nat},O.heap.get? b=ak o->o.data= .dict es ep->H b=none:=λ{b o es ep} e d=>by
   cases q:H b with
   | none=>rfl
   | some u=>
     have υ:b=a:=ξ b (by rw[q];simp);subst υ;rw[ha] at e;cases e;have d':Data.seq vs.toArray _=Data.dict es ep:=d;cases d'
  have Y:∀{b:gn} {m:F'},O.heap.Ns b m->(hidT O.heap H).Ns b m:=λ{b m} ⟨o,es,ep,e,d,r⟩=>⟨o,es,ep,β e (ν e d),d,r⟩
  have ι:K.In (hidT O.heap H):=λb o e=>β (ψ b o e) (by
   cases q:H b with
   | none=>rfl
   | some u=>
     have υ:b=a:=ξ b (by rw[q];simp);subst υ;rw[hK (by rw[q];simp)] at e;cases e)
  have hM:Mod K mg (hidT O.heap H):=⟨ι,Y ζ,⟨ο,Y hb,θ⟩,let ⟨mc,h1,h2⟩:=η;⟨mc,Y h1,h2⟩⟩;have e0:Env0 P w K mg (hidT O.heap H) callerA [] O H:=⟨rfl,hM,λb o e=>F4 e,OL (A7 _ _),trivial,λb hb=>kv (show b∈([]:K0) from hb) @D,hok,.of_eq hg⟩;refine Nq ((F _ ι (Y ζ)).run callerA [] O H ⟨[.ref a],[]⟩ [.ref a] [.ref a] _ _ hr e0 (α O (.ref a)) (.cons rfl .nil) (π H hO hS)) λr s' h=>?_;cases r with
  | error e=>exact(ρ H e s' h).elim
  | ok fl=>
    cases fl with
    | next=>exact KD h
    | brk=>exact KD h
    | cont=>exact KD h
    | ret u=>
      obtain⟨v,H',os,bare,un,ε,r',q⟩:=h;have q':v= .bl true:=q;subst q';obtain rfl:u=QR true:=r';refine⟨rfl,OldK.of_keep λb o e=>?_,os,bare⟩;cases q:H b with
      | none=>exact un.keep b o e q (by intro z;exact kv (show b∈([]:K0) from z) @D) @D
      | some u=>
        rcases hO b with z | ⟨ob,xs,z⟩
        ·rw[q] at z;cases z
        ·have ω:=un.frzs b ob _ z;obtain⟨χ,_⟩:=hok b _ z;obtain⟨e2,_⟩:=ε b _ ω;rw[e] at χ;cases χ;exact e2
 cases hk:K.lookup a with
 | some o=>
   have e:=ψ a o hk;rw[ha] at e;cases e;refine Z (λ_=>hB) (λ_=> .inl rfl) (.inr ⟨_,vs.toArray,_,hk,rfl,rfl,rfl,by rw[vu,δ];exact hl,by simpa using φ⟩) (λb u z=>by have γ:(hB:rl HO)=ak u:=z;cases γ) (λb z=>kv rfl z) λz=>kv rfl z
 | none=>
   refine Z (λb=>if b=a then ak (.frz {cls:= .type "list",data:= .seq vs.toArray} (.lst (ns.map V.int))) else hB) (λb=>?_) (.inl (.inr ⟨{cls:= .type "list",data:= .seq vs.toArray},qb rfl⟩)) (λb u z=>?_) (λb z=>?_) λ_=>hk
   ·by_cases hb:b=a
    ·exact .inr ⟨_,_,qb hb⟩
    ·exact .inl (ov hb)
   ·by_cases hb:b=a
    ·have γ:=(qb hb).symm.trans z;cases γ;subst hb;exact⟨ha,by rw[dt];exact hl,vs,_,φ,ha⟩
    ·have γ:=(ov hb).symm.trans z;cases γ
   ·by_cases hb:b=a
    ·exact hb
    ·exact kv (ov hb) z
theorem walk_of {l:PySem.W.OpenLaw} {n k:Nat} {q:qc} {Z:C'} {ω:F'->Ke->Prop} {ο:y3->Ke->Prop} {d:DefRec} {K:Params->aS} {CX:y3->CXT} {sp:y3->Sp} {x:Kz}
  (hn:l.most=ak n) (θ:n<=lx) (ν:d.params.defaults=[]) (ρ:Room k callerA)
  (υ:∀(w:y3) (h:Ke),ο w h->(K w.params).In h)
  (F:∀(w:y3) (mg:F') (δ:gn) (h:Ke),(K w.params).In h->h.Ns La mg->mg d.name=ak (.ref δ)->
   ∃fd:mu,(∀(s:ib) (u:ia),BindsTo s fd ⟨[u],[]⟩ [(x,u)])/\
     ∀base:Ke,(K w.params).In base->base.Ns La mg->FnOk l.prog w (K w.params) mg base (CX w) k δ fd [x] (sp w))
  (ζ:∀(w:y3) (H:Hp) (a:gn) (ns:K3),ns.length<=n->Only H->SqL (K w.params) H a (ns.map V.int)->sp w [.ref a] H (λv _=>v= .bl true) λ_ _ _=>False)
  (ξ:∀(w:y3) (H:Hp) (s:ib) (e:ia) (s':ib),CX w [] H s (λ_ _ _=>False) e s'->False):
  PySem.W.WalkO q Z ω ο l.row.toRowW d [] (λf vs=>QS f vs):=by
 refine Att.attach_call hn ν λw s₀ β mg mb δ o pm ψ ε a vs ns G Y ho hd η ι γ α O τ=>?_;have π:=υ w _ Y;obtain⟨fd,hb,χ⟩:=F w mg δ _ π G.T.g ι;exact C8 π G.T.g G.T.b G.T.builtins G.T.nolimit τ γ α (Lf O θ) ρ χ hb (λH hO φ=>ζ w H a ns O hO φ) λH e s'=>ξ w H β e s'
noncomputable def fq (s:N9) (j:Nat):Stmt:=match s with
 | .ClassDef _ _ _ O _ _ _ _ _ _ _=>O.getD j (.Pass ⟨0,0,0,0⟩)
 | _=> .Pass ⟨0,0,0,0⟩
noncomputable def gb (s:N9):Arguments:=match s with
 | .FunctionDef _ a _ _ _ _ _ _ _ _=>a
 | _=>{posonlyargs:=[],args:=[],vararg:=hB,kwonlyargs:=[],kw_defaults:=[],kwarg:=hB,defaults:=[]}
noncomputable def dy (s:N9):gs Stmt:=match s with
 | .FunctionDef _ _ b _ _ _ _ _ _ _=>b
 | _=>[]
noncomputable def ah (s:N9):Scope:=match s with
 | .FunctionDef _ _ _ _ _ _ O _ _ _=>O
 | _=>{kind:= .function,names:=[],isGenerator:=false,isCoroutine:=false}
noncomputable abbrev CX0:CXT:=λ_ _ _ _ _ _=>False
noncomputable abbrev E0:XK:=λ_ _ _=>False
theorem gX {X:Cx}:nW CX0 X E0:=λ_ _ _ _ _ _ _ h=>h.elim
structure Fun (K:aS) (x qual:Kz) (st:N9) (f:gn) (fd:mu):Prop where
 ex:∃(oc:ia) (od:K4) (kV doc pm:ia) (an:K4) (cdv ct:ia) (osl:HB),
  fd=Li x qual (gb st) (dy st) (ah st) .none kV doc pm an cdv ct/\K.lookup f=ak ⟨oc,od,.func fd,osl⟩/\Mz K cdv qual=true
 kp:Lj K (.ref f)=true
section
variable {P:qc} {w:y3} {K:aS} {mg:F'} {base:Ke}
theorem Fun.ok {x O:Kz} {st:N9} {f:gn} {fd:mu} {N ps:C'} {k:Nat} {sp:Sp} (F:Fun K x O st f fd) (S:az N ps (ah st)) (len:∀vs H Q E,sp vs H Q E->vs.length=ps.length)
  (Z:∀(Y:ia) (A:Kj) (outer:gs Env) (s:ib) (H:Hp) (vs:gs V) (Q:VK) (E:XK),Room k (A.deeper (envOfC O (ah st) s.heap.objs.size f Y))->sp vs H Q E->
   ∃t,PSs (cxOf CX0 P w K mg base N O (ah st) f Y A outer s H E).nox (dy st) t/\t {nx:=λ_ H'=>Q .non H',rt:=Q} (start N vs) H):FnOk P w K mg base CX0 (k + 1) f fd ps sp:=by
 obtain⟨δ,od,kV,ε,γ,an,Y,ct,ι,rfl,lk,η⟩:=F.ex;refine Gm lk η S len λA outer s H vs Q E β α=>?_;obtain⟨t,h,q⟩:=Z Y A outer s H vs Q E β α;exact⟨t,h.nox,q⟩
theorem Fun.okA {x O:Kz} {st:N9} {f:gn} {fd:mu} {N ps:C'} {k:Nat} {sp:Sp} (F:Fun K x O st f fd) (S:az N ps (ah st))
  (Y:∀(Z:ia) (A:Kj) (outer:gs Env) (s:ib) (H:Hp) (vs:gs V) (Q:VK) (E:XK),Room k (A.deeper (envOfC O (ah st) s.heap.objs.size f Z))->sp vs H Q E->
   ∃t,PSs (cxOf CX0 P w K mg base N O (ah st) f Z A outer s H E).nox (dy st) t/\t {nx:=λ_ H'=>Q .non H',rt:=Q} (start N vs) H) (len:∀vs H Q E,sp vs H Q E->vs.length=ps.length:=by walk_at "n"):FnOk P w K mg base CX0 (k + 1) f fd ps sp:=F.ok S len Y
theorem Fun.binds {x O:Kz} {st:N9} {f:gn} {fd:mu} {ps:C'} (F:Fun K x O st f fd)
  (h:∀(kV ε Z:ia) (an:K4) (Y ct:ia) (us:E'),us.length=ps.length->bindArgs (Li x O (gb st) (dy st) (ah st) .none kV ε Z an Y ct) ⟨us,[]⟩=pure (ps.zip us)):mF K fd ps []:=by
 obtain⟨α,od,kV,ε,Z,an,Y,ct,ι,rfl,lk,η⟩:=F.ex;exact .all (h kV ε Z an Y ct)
theorem EA {x O:Kz} {st:N9} {f:gn} {α:ia} {od an:K4} {ι:HB} {kV ε Z Y ct:ia} (l:K.lookup f=ak ⟨α,od,.func (Li x O (gb st) (dy st) (ah st) .none kV ε Z an Y ct),ι⟩)
  (c:Mz K Y O=true) (k:Lj K (.ref f)=true):Fun K x O st f (Li x O (gb st) (dy st) (ah st) .none kV ε Z an Y ct):=⟨⟨α,od,kV,ε,Z,an,Y,ct,ι,rfl,l,c⟩,k⟩
end
theorem A5 {A:Kj} {k:Nat} (O:Room k A):A.units + 1 < cLine:=qE (Nat.add_le_add_left (by decide:1<=64) _) O.units
theorem dh {n:Nat} (h:n<=1000):n < sizeLine:=qE h @C
section
variable {X:Cx}
theorem pv (i:Nat) {x:Kz} {pos:Pos} (Y:X.N[i]? =ak x:=by rfl) (O:Vis X.env.scope x:=by first | exact O5 rfl | exact Oo (O5 rfl) | exact Oo (Oo rfl)) (hd:(x == ("__debug__":Kz))=false:=by decide)
  (η:(x == ("__classdict__":Kz))=false:=by decide):PE X (.Name x pos) (tVar i):=HX Y O hd η
end
theorem ite2 {c A B:Prop} [Decidable c] (h1:c->A) (h2:¬c->B):if c then A else B:=by
 by_cases h:c
 ·rw[qb h];exact h1 h
 ·rw[ov h];exact h2 h
def Same (H H':Hp):Prop:=∀b o,H b=ak o->H' b=ak o
theorem Same.refl (H:Hp):Same H H:=λ_ _ h=>h
theorem Same.trans {H H1 H2:Hp} (a:Same H H1) (b:Same H1 H2):Same H H2:=λc o h=>b c o (a c o h)
theorem Same.free {H H':Hp} (e:Same H H') {l:gn} (h:H' l=Option.none):H l=Option.none:=by
 cases q:H l with
 | none=>rfl
 | some o=>
   rw[e l o q] at h;cases h
theorem Same.seq {K:aS} {H H':Hp} {a:gn} {xs:gs V} (e:Same H H') (h:SqL K H a xs):SqL K H' a xs:=by
 rcases h with (h | ⟨o,h⟩) | h
 ·exact .inl (.inl (e _ _ h))
 ·exact .inl (.inr ⟨o,e _ _ h⟩)
 ·exact .inr h
section
variable {κ:Type} [DecidableEq κ]
noncomputable def valV (kvs:gs (κ×V)) (k:κ):rl V:=(kvs.find? λO=>decide (O.1=k)).map (·.2)
noncomputable def putK (kvs:gs (κ×V)) (k:κ) (v:V):gs (κ×V):=
 if (kvs.any λO=>decide (O.1=k))=true then kvs.map (λO=>if O.1=k then (O.1,v) else O) else kvs++[(k,v)]
theorem oz {p:κ×V} {r:gs (κ×V)} {k:κ} (e:p.1=k):valV (p::r) k=ak p.2:=by simp[valV,Nx,e]
theorem oA {p:κ×V} {r:gs (κ×V)} {k:κ} (e:¬p.1=k):valV (p::r) k=valV r k:=by simp[valV,Nx,e]
theorem sN (k:κ):∀kvs:gs (κ×V),(kvs.any λO=>decide (O.1=k))=(valV kvs k).isSome
 | []=>rfl
 | p::r=>by
   rw[Qf];by_cases e:p.1=k
   ·simp only[oz e,pB e,Bool.true_or,Option.isSome_some]
   ·rw[oA e,qa e,Bool.false_or];exact sN k r
theorem pW (kvs:gs (κ×V)) (k:κ) (v:V):(putK kvs k v).length<=kvs.length + 1:=by
 unfold putK;split
 ·rw[dt];omega
 ·rw[hC,za,RJ];omega
theorem RelO.isSome_eq {o:rl V} {u:KA} (r:RelO o u):o.isSome=u.isSome:=by
 cases o with
 | none=>cases u with
   | none=>rfl
   | some _=>exact(show False from r).elim
 | some _=>cases u with
   | none=>exact(show False from r).elim
   | some _=>rfl
theorem KV.val {kvs:gs (κ×V)} {vs:gs (κ×ia)} (r:KV kvs vs) (k:κ):RelO (valV kvs k) (valueAt vs k):=by
 unfold KV at r
 induction r with
 | nil=>exact Ob
 | @cons p q ps O h t ih=>
   obtain⟨h1,h2⟩:=h;by_cases e:p.1=k
   ·have Y:q.1=k:=h1.symm.trans e;have b:valueAt (q::O) k=ak q.2:=by simp[valueAt,Nx,Y]
    rw[oz e,b];exact h2
   ·have Y:¬q.1=k:=λz=>e (h1.trans z);have b:valueAt (q::O) k=valueAt O k:=by simp[valueAt,Nx,Y]
    rw[oA e,b];exact ih
theorem KV.any {kvs:gs (κ×V)} {vs:gs (κ×ia)} (r:KV kvs vs) (k:κ):(kvs.any λO=>decide (O.1=k))=vs.any λO=>decide (O.1=k):=by
 unfold KV at r
 induction r with
 | nil=>rfl
 | cons h t ih=>rw[Qf,Qf,ih,h.1]
theorem KV.repl {kvs:gs (κ×V)} {vs:gs (κ×ia)} (r:KV kvs vs) (k:κ) {y:V} {u:ia} (Y:RelV y u):
  KV (kvs.map λO=>if O.1=k then (O.1,y) else O) (vs.map λO=>if O.1=k then (O.1,u) else O):=by
 unfold KV at r ⊢
 induction r with
 | nil=>exact .nil
 | @cons p q ps Z h t ih=>
   rw[KF,KF];refine .cons ?_ ih;obtain⟨h1,h2⟩:=h;by_cases e:p.1=k
   ·rw[qb e,qb (h1.symm.trans e)];exact⟨h1,Y⟩
   ·rw[ov e,ov (λz=>e (h1.trans z))];exact⟨h1,h2⟩
theorem KV.put {kvs:gs (κ×V)} {vs:gs (κ×ia)} (r:KV kvs vs) (k:κ) {y:V} {u:ia} (O:RelV y u):KV (putK kvs k y) (stored vs k u):=by
 unfold putK stored;rw[r.any k];by_cases e:(vs.any λY=>decide (Y.1=k))=true
 ·rw[qb e,qb e];exact r.repl k O
 ·rw[ov e,ov e];exact RZ r ⟨rfl,O⟩
theorem KV.keys {kvs:gs (κ×V)} {vs:gs (κ×ia)} (r:KV kvs vs):kvs.map (·.1)=vs.map (·.1):=by
 unfold KV at r
 induction r with
 | nil=>rfl
 | cons h t ih=>rw[KF,KF,ih,h.1]
theorem KV.length {kvs:gs (κ×V)} {vs:gs (κ×ia)} (r:KV kvs vs):kvs.length=vs.length:=PX r
end
theorem AZ {P:qc} {w:y3} {k:Key} {u:ia} (r:RelV (kV k) u):(dk P w).is k u=true:=by
 cases k with
 | inl i=>obtain⟨t,e⟩:=(show ∃t,u=Pe i t from r);subst e;exact wk P w i t
 | inr x=>obtain⟨t,e⟩:=(show ∃t,u=Qg x t from r);subst e;exact wj P w x t
theorem ve {P:qc} {w:y3}:∀{ks:gs Key} {us:E'},Vals (ks.map kV) us->ItemsAre (dk P w) ks us
 | [],_,r=>by rw[Q2] at r;cases r;exact .nil
 | k::ks,_,r=>by
   rw[KF] at r;cases r with
   | cons h t=>exact .cons (AZ h) (ve t)
noncomputable abbrev KT (H:Hp):gs (gs Key×V)->gs (gs Key×gn×ia)->Prop:=Paired λp q=>p.1=q.1/\H q.2.1=ak (.tup (p.1.map kV))/\RelV p.2 q.2.2
theorem KT.val {H:Hp} {kvs:gs (gs Key×V)} {xs:gs (gs Key×gn×ia)} (r:KT H kvs xs) (k:gs Key):RelO (valV kvs k) ((atKey xs k).map (·.2)):=by
 induction r with
 | nil=>exact Ob
 | @cons p q ps O h t ih=>
   obtain⟨h1,_,h2⟩:=h;by_cases e:p.1=k
   ·have Y:q.1=k:=h1.symm.trans e;have b:atKey (q::O) k=ak q.2:=by simp[atKey,Nx,Y]
    rw[oz e,b];exact h2
   ·have Y:¬q.1=k:=λz=>e (h1.trans z);have b:atKey (q::O) k=atKey O k:=by simp[atKey,Nx,Y]
    rw[oA e,b];exact ih
theorem KT.repl {H:Hp} {kvs:gs (gs Key×V)} {xs:gs (gs Key×gn×ia)} (r:KT H kvs xs) (k:gs Key) {y:V} {u:ia} (Y:RelV y u):
  KT H (kvs.map λO=>if O.1=k then (O.1,y) else O) (xs.map (putAt k u)):=by
 induction r with
 | nil=>exact .nil
 | @cons p q ps α h t ih=>
   rw[KF,KF];refine .cons ?_ ih;obtain⟨h1,h2,Z⟩:=h;unfold putAt;by_cases e:p.1=k
   ·rw[qb e,qb (h1.symm.trans e)];exact⟨h1,h2,Y⟩
   ·rw[ov e,ov (λz=>e (h1.trans z))];exact⟨h1,h2,Z⟩
theorem KT.put {H:Hp} {kvs:gs (gs Key×V)} {xs:gs (gs Key×gn×ia)} (r:KT H kvs xs) (k:gs Key) {b:gn} {y:V} {u:ia} (hb:H b=ak (.tup (k.map kV))) (O:RelV y u):
  KT H (putK kvs k y) (storedH xs k b u):=by
 have e:(kvs.any λY=>decide (Y.1=k))=(atKey xs k).isSome:=by
  rw[sN,(r.val k).isSome_eq,Pb]
 unfold putK storedH;rw[e];by_cases q:(atKey xs k).isSome=true
 ·rw[qb q,qb q];exact r.repl k O
 ·rw[ov q,ov q];exact RZ r ⟨rfl,hb,O⟩
theorem KT.keeps {H H':Hp} {kvs:gs (gs Key×V)} {xs:gs (gs Key×gn×ia)} (r:KT H kvs xs) (ht:∀b ys,H b=ak (.tup ys)->H' b=ak (.tup ys)):KT H' kvs xs:=
 Paired.mapP r λ_ _ z=>⟨z.1,ht _ _ z.2.1,z.2.2⟩
section
variable {P:qc} {w:y3} {H:Hp} {h:Ke} {a:gn}
theorem HK {u:HO} (ok:HOk P w H h) (e:Rd H a u):fM P w H h a u:=e.ok ok
theorem Bp {kvs:gs (Key×V)} (ok:HOk P w H h) (e:Rd H a (.dK kvs)):kvs.length<=lx/\(a == sysModules)=false/\∃vs,KV kvs vs/\h.DictOf (dk P w) a vs:=
 show fM P w H h a (.dK kvs) from HK ok e
theorem IM {kvs:gs (Key×V)} (ok:HOk P w H h) (e:H a=ak (.dK kvs)):kvs.length<=lx/\(a == sysModules)=false/\∃vs,KV kvs vs/\h.DictOf (dk P w) a vs:=Bp ok (.inl e)
theorem vc {ks:gs Key} (ok:HOk P w H h) (e:H a=ak (.tup (ks.map kV))):(tupleKind (dk P w)).is h ks a:=by
 obtain⟨_,its,r,o,h1,h2,n,O⟩:=(show fM P w H h a (.tup (ks.map kV)) from ok a _ e);exact⟨o,its.toArray,n,h1,h2,O,by simpa using ve r⟩
theorem Bn {kvs:gs (gs Key×V)} (ok:HOk P w H h) (e:Rd H a (.dT kvs)):kvs.length<=lx/\(a == sysModules)=false/\
  ∃xs,KT H kvs xs/\h.DictOfH (tupleKind (dk P w)) a xs:=by
 obtain⟨z,y,xs,r,o,es,ep,h1,h2,Y,θ,α⟩:=(show fM P w H h a (.dT kvs) from HK ok e);refine⟨z,y,xs,r,o,es,ep,h1,h2,Y,θ,λx hx=>?_,α⟩
 have all:∀{l:gs (gs Key×V)} {m:gs (gs Key×gn×ia)},KT H l m->∀x∈m,(tupleKind (dk P w)).is h x.1 x.2.1:=by
  intro l m q
  induction q with
  | nil=>intro x hx;exact nomatch hx
  | @cons p q ps Z O t ih=>
    intro x hx;rcases qn.mp hx with e | hx
    ·subst e;exact vc ok (by rw[<-O.1];exact O.2.1)
    ·exact ih x hx
 exact all r x hx
theorem J0 {kvs:gs (gs Key×V)} (ok:HOk P w H h) (e:H a=ak (.dT kvs)):kvs.length<=lx/\(a == sysModules)=false/\
  ∃xs,KT H kvs xs/\h.DictOfH (tupleKind (dk P w)) a xs:=Bn ok (.inl e)
end
def DGet (H:Hp) (a:gn) (y:V) (r:rl V):Prop:=
 (∃kvs k,Rd H a (.dK kvs)/\y=kV k/\r=valV kvs k)∨∃kvs k b,Rd H a (.dT kvs)/\y= .ref b/\H b=ak (.tup (k.map kV))/\r=valV kvs k
def DPut (H:Hp) (a:gn) (y v:V) (H':Hp):Prop:=
 (∃kvs k,H a=ak (.dK kvs)/\y=kV k/\kvs.length < lx/\H'=upd H a (.dK (putK kvs k v)))∨
 ∃kvs k b,H a=ak (.dT kvs)/\y= .ref b/\H b=ak (.tup (k.map kV))/\kvs.length < lx/\H'=upd H a (.dT (putK kvs k v))
theorem DGet.k {H:Hp} {a:gn} {kvs:gs (Key×V)} {k:Key} (e:H a=ak (.dK kvs)):DGet H a (kV k) (valV kvs k):= .inl ⟨kvs,k,.inl e,rfl,rfl⟩
theorem DPut.k {H:Hp} {a:gn} {kvs:gs (Key×V)} {k:Key} {v:V} (e:H a=ak (.dK kvs)) (hl:kvs.length < lx):DPut H a (kV k) v (upd H a (.dK (putK kvs k v))):= .inl ⟨kvs,k,e,rfl,hl,rfl⟩
section
variable {X:Cx} {pins:Dc} {σ:St} {H:Hp} {s:ib} {a:gn} {y v:V} {u r:ia} {o:rl V} {A:Kj} {E:DL}
theorem Inv.big (I:Inv X pins σ H s):sysModules < s.heap.objs.size:=by
 have h:La < s.heap.objs.size:=(I.mod.glob.keeps I.bk).lt;exact Nat.lt_trans @C h
theorem BB {Q:DL} (hu:A.units + 1 < cLine) (I:Inv X pins σ H s) (g:DGet H a y (ak v)) (Z:RelV y u) (h:∀Y s',Inv X pins σ H s'->RelV v Y->Q Y s'):
  ka (oD X.prog X.w) A (getItem (.ref a) u) Q E s:=by
 rcases g with ⟨kvs,k,e,ey,l⟩ | ⟨kvs,k,b,e,ey,β,l⟩
 ·subst ey;obtain⟨z,hd,vs,rel,dd⟩:=Bp I.hok e;obtain⟨Y,hw,O⟩:=RelO.some_of (v:=v) (o:=valueAt vs k) (by rw[l];exact rel.val k);exact wpAny_getItem_of (AZ Z) dd.mapOf hw (h Y _ (I.tok _) O)
 ·subst ey;cases(show u=y7 b from Z);obtain⟨z,hd,xs,rel,dd⟩:=Bn I.hok e;obtain⟨Y,hw,O⟩:=RelO.some_of (v:=v) (o:=(atKey xs k).map (·.2)) (by rw[l];exact rel.val k);obtain⟨p,α,η⟩:=KY.mp hw;refine wpAny_getItem_heap (O4 hu) (vc I.hok β) dd α ?_;rw[η];exact h Y _ (I.tok _) O
theorem d_in {Q:DL} (hu:A.units + 1 < cLine) (I:Inv X pins σ H s) (g:DGet H a y o) (O:RelV y u) (h:∀s',Inv X pins σ H s'->Q (.bool o.isSome) s'):
  ka (oD X.prog X.w) A (compareOp .In u (.ref a)) Q E s:=by
 rcases g with ⟨kvs,k,e,ey,l⟩ | ⟨kvs,k,b,e,ey,Y,l⟩
 ·subst ey;obtain⟨z,hd,vs,rel,dd⟩:=Bp I.hok e;refine wpAny_in_of (AZ O) hd dd.mapOf ?_;rw[<-(rel.val k).isSome_eq,<-l];exact h _ (I.tok _)
 ·subst ey;cases(show u=y7 b from O);obtain⟨z,hd,xs,rel,dd⟩:=Bn I.hok e;refine wpAny_in_heap (O4 hu) (vc I.hok Y) hd dd ?_;have q:=(rel.val k).isSome_eq;rw[Pb] at q;rw[<-q,<-l];exact h _ (I.tok _)
theorem Gq {Q:DL} (hu:A.units + 1 < cLine) (I:Inv X pins σ H s) (g:DGet H a y o) (O:RelV y u) (h:∀s',Inv X pins σ H s'->Q (.bool (!o.isSome)) s'):
  ka (oD X.prog X.w) A (compareOp .NotIn u (.ref a)) Q E s:=by
 rcases g with ⟨kvs,k,e,ey,l⟩ | ⟨kvs,k,b,e,ey,Y,l⟩
 ·subst ey;obtain⟨z,hd,vs,rel,dd⟩:=Bp I.hok e;refine wpAny_notIn_of (AZ O) hd dd.mapOf ?_;rw[<-(rel.val k).isSome_eq,<-l];exact h _ (I.tok _)
 ·subst ey;cases(show u=y7 b from O);obtain⟨z,hd,xs,rel,dd⟩:=Bn I.hok e;refine wpAny_notIn_heap (O4 hu) (vc I.hok Y) hd dd ?_;have q:=(rel.val k).isSome_eq;rw[Pb] at q;rw[<-q,<-l];exact h _ (I.tok _)
theorem By {h':Ke} {t':Nat} {ob:HO} (I:Inv X pins σ H s) (O:Mut (H a)) (hs:LP a s.heap h') (he:∃q,h'.get? a=ak q) (new:fM X.prog X.w (upd H a ob) h' a ob):
  Inv X pins σ (upd H a ob) {s with heap:=h',toks:=t'}:=
 I.write (x:=a) (e:=a) O (.inl rfl) (λb q hb z=>(hs.2 b hb).trans z) he new
theorem IP {P:qc} {w:y3} {H':Hp} {h':Ke} {kvs:gs (Key×V)} {vs:gs (Key×ia)} (z:kvs.length<=lx) (hd:(a == sysModules)=false) (rel:KV kvs vs) (dd:h'.DictOf (dk P w) a vs):
  fM P w H' h' a (.dK kvs):=⟨z,hd,vs,rel,dd⟩
theorem Bz {H':Hp} {Q:J9} (hu:A.units + 1 < cLine) (I:Inv X pins σ H s) (g:DPut H a y v H') (Z:RelV y u) (β:RelV v r) (h:∀s',Inv X pins σ H' s'->Q () s'):
  ka (oD X.prog X.w) A (setItem (.ref a) u r) Q E s:=by
 rcases g with ⟨kvs,k,e,ey,l,ι⟩ | ⟨kvs,k,b,e,ey,γ,l,ι⟩
 ·subst ey ι;obtain⟨z,hd,vs,rel,dd⟩:=IM I.hok e;have hz:vs.length<=sizeLine:=by rw[<-rel.length];exact z
  have hl:(putK kvs k v).length<=sizeLine:=by have:=pW kvs k v;omega
  refine wpAny_setItem_pairs (hsz:=hz) (AZ Z) dd λh' O hs=>h _ ?_;have he:∃q,h'.get? a=ak q:=let ⟨q,_,_,Y,_⟩:=O;⟨q,Y⟩
  exact By I (by rw[e];exact Ob) hs he (IP hl hd (rel.put k β) O)
 ·subst ey ι;cases(show u=y7 b from Z);obtain⟨z,hd,xs,rel,dd⟩:=J0 I.hok e;have hz:xs.length<=sizeLine:=by rw[<-PX rel];exact z
  have hl:(putK kvs k v).length<=sizeLine:=by have:=pW kvs k v;omega
  refine wpAny_setItem_heap (hsz:=hz) (O4 hu) (vc I.hok γ) dd λh' O hs=>h _ ?_;obtain⟨q,es,ep,Y,h2,δ,θ,_,α⟩:=O;refine By I (by rw[e];exact Ob) hs ⟨q,Y⟩ ⟨hl,hd,_,(rel.put k γ β).keeps λc ys ζ=>?_,q,es,ep,Y,h2,δ,θ,α⟩;rw[aJ (i4 ζ e (λz=>nomatch z))];exact ζ
end
def NoSl (i:Ko):Prop:=∀O Y,subscripted i false O Y=operate [O,Y] (getItem O Y)
theorem E9 {prog:qc} {w:y3} {A:Kj} {E:DL} {s:ib} {env:Env} {value O:Ko} {pos:Pos} {T id:Lh} {Q:DL}
  (hl:typeLookup (.type T) "__getitem__"=pure (ak (.builtin id))) (hs:NoSl O)
  (h:ka (oD prog w) A (eval value env) (λo Z=>ka (oD prog w) A (eval O env) (λi Y=>Y.TypeIs o T/\ka (oD prog w) A (getItem o i) Q E Y) E Z) E s):
  ka (oD prog w) A (eval (.Subscript value O pos) env) Q E s:=by
 refine RY (Mt h (λo Z h₁=>Mt h₁ (λi Y γ=>?_) λ_ _ x=>x) λ_ _ x=>x);obtain⟨hT,γ⟩:=γ;unfold subscriptTail;refine cc ?_;rw[getitemInPython_of_ne hT.not_modules];refine cc (OO hT hl ?_)
 have fin:ka (oD prog w) A (subscripted O false o i) (λr ν=>ka (oD prog w) A (letTemporaryGo value o r >>=λ_=>pure r) Q E ν) E Y:=by
  rw[hs o i];exact wpAny_operating (Mt γ (λr ν α=>cc (wpAny_letTemporaryGo (hF α))) λ_ _ x=>x)
 first
  | exact hF (cc fin)
  | exact cc (hF (cc fin))
  | exact cc fin
theorem wI {X:Cx} {pins:Dc} {σ:St} {H:Hp} {s:ib} {a:gn} {y:V} {o:rl V} (I:Inv X pins σ H s) (g:DGet H a y o):s.TypeIs (.ref a) "dict":=by
 rcases g with ⟨kvs,k,e,_,_⟩ | ⟨kvs,k,b,e,_,_,_⟩
 ·obtain⟨_,_,vs,_,dd⟩:=Bp I.hok e;exact dd.typeIs
 ·obtain⟨_,_,xs,_,dd⟩:=Bn I.hok e;exact dd.typeIs
noncomputable def GQ (td ty:TE):TE:=fun σ H Q=>td σ H λx H1=>ty σ H1 λy H2=>∃a v,x= .ref a/\DGet H2 a y (ak v)/\Q v H2
noncomputable def tDIn (ty td:TE):TE:=fun σ H Q=>ty σ H λy H1=>td σ H1 λx H2=>∃a o,x= .ref a/\DGet H2 a y o/\Q (.bl o.isSome) H2
noncomputable def zI (ty td:TE):TE:=fun σ H Q=>ty σ H λy H1=>td σ H1 λx H2=>∃a o,x= .ref a/\DGet H2 a y o/\Q (.bl (!o.isSome)) H2
noncomputable def HJ (td ty tv:TE):TS:=λD σ H=>tv σ H λv H1=>td σ H1 λx H2=>ty σ H2 λy O=>∃a Z,x= .ref a/\DPut O a y v Z/\D.nx σ Z
section
variable {X:Cx} {o i e value:Ko} {pos pos' tpos:Pos} {td ty tv:TE}
theorem Ay (hu:X.A.units + 1 < cLine) (ho:PE X o td) (hi:PE X i ty) (hs:NoSl i):PE X (.Subscript o i pos) (GQ td ty):=by
 intro pins s σ H Q I h;refine E9 PySem.F.slot_dict_getitem.lookup hs (thn (ho pins s σ H _ I h) λu Y ⟨x,H1,ε,α,β⟩=>thn (hi pins Y σ H1 _ ε β) fun ι θ ⟨y,H2,ω,Z,a,v,ex,g,δ⟩=>?_);subst ex;obtain rfl:u=y7 a:=α;exact⟨wI ω g,BB hu ω g Z fun ζ η γ O=>⟨v,H2,γ,O,δ⟩⟩
theorem Ia (hu:X.A.units + 1 < cLine) (hi:PE X i ty) (ho:PE X o td):PC X .In i o (tDIn ty td):=by
 intro pins s σ H Q I h;refine thn (hi pins s σ H _ I h) fun θ O ⟨y,H1,ε,Y,α⟩=>thn (ho pins O σ H1 _ ε α) λu η ⟨x,H2,ω,Z,a,β,ex,g,δ⟩=>?_;subst ex;obtain rfl:u=y7 a:=Z;exact d_in hu ω g Y fun ζ γ=>⟨.bl β.isSome,H2,γ,rfl,δ⟩
theorem Az (hu:X.A.units + 1 < cLine) (hi:PE X i ty) (ho:PE X o td):PC X .NotIn i o (zI ty td):=by
 intro pins s σ H Q I h;refine thn (hi pins s σ H _ I h) fun θ O ⟨y,H1,ε,Y,α⟩=>thn (ho pins O σ H1 _ ε α) λu η ⟨x,H2,ω,Z,a,β,ex,g,δ⟩=>?_;subst ex;obtain rfl:u=y7 a:=Z;exact Gq hu ω g Y fun ζ γ=>⟨.bl (!β.isSome),H2,γ,rfl,δ⟩
theorem FO (hu:X.A.units + 1 < cLine) (ho:PE X o td) (hi:PE X i ty) (θ:PE X value tv) (hs:swapsWith value (ak (.Subscript o i pos')) pos.line X.env=pure false):
  PS X (.Assign [.Subscript o i pos'] value pos) (HJ td ty tv):=by
 intro pins s σ H D I h;refine wpAny_Assign_Subscript (thn (θ pins s σ H _ I h) λr α ⟨v,H1,ξ,ε,η⟩=>thn (ho pins α σ H1 _ ξ η) λu O ⟨x,H2,ω,γ,δ⟩=>thn (hi pins O σ H2 _ ω δ) fun π ο ⟨y,ρ,ν,β,a,Z,ex,g,ζ⟩=>?_) hs;subst ex;obtain rfl:u=y7 a:=γ;exact Bz hu ν g β ε λY ι=>⟨σ,Z,ι,ζ⟩
end
theorem DK {P:qc} {w:y3} {H:Hp} (h:Ke) (hb:sysModules < h.objs.size):fM P w H (h.push {cls:= .type "dict",data:= .dict #[]}) h.objs.size (.dK []):=
 ⟨LI _,Kr.mpr (Ka (Kn hb)),[],.nil,Heap.DictOf.new h⟩
noncomputable def Eh:TE:=λ_ H Q=>∀p,H p=hB->Q (.ref p) (upd H p (.dK []))
section
variable {X:Cx} {pos:Pos}
theorem CV:PE X (.Dict [] [] pos) Eh:=λpins s σ H Q I h=>
 wpAny_Dict_empty ⟨.ref s.heap.objs.size,_,I.laid (a:=s.heap.objs.size) (o:= .dK []) (t':=s.toks) (λ_ _ q=>hE _ q) (ri _) (DK s.heap I.big),rfl,h _ (I.hok.fresh (ri _))⟩
end
structure M1 (X:Cx) (o:Ko) (m:Kz) (apos:Pos) (e:Ko) (cpos:Pos):Prop where
 base:attributeBase o m X.env (eval o X.env)=eval o X.env
 few:((backTo cpos (px [e] X.env)).all (λx=> !x.1)&&(backToKw cpos (keywordEach [] X.env)).all (λx=>x.1.isSome)
  &&decide (([e]:gs Ko).length + ([]:gs Keyword).length + (if ([]:gs Keyword).isEmpty then 0 else 1) < 30))=true
 line:(apos.endLine == cpos.line)=true
 trees:backTo cpos (px [e] X.env)=[(false,eval e X.env)]
structure M2 (X:Cx) (o:Ko) (m:Kz) (apos:Pos) (e f:Ko) (cpos:Pos):Prop where
 base:attributeBase o m X.env (eval o X.env)=eval o X.env
 few:((backTo cpos (px [e,f] X.env)).all (λx=> !x.1)&&(backToKw cpos (keywordEach [] X.env)).all (λx=>x.1.isSome)
  &&decide (([e,f]:gs Ko).length + ([]:gs Keyword).length + (if ([]:gs Keyword).isEmpty then 0 else 1) < 30))=true
 line:(apos.endLine == cpos.line)=true
 trees:backTo cpos (px [e,f] X.env)=[(false,eval e X.env),(false,eval f X.env)]
end L2
set_option maxHeartbeats 4000000
namespace L2
open PySem PySem.Spec PyProof.Rows
section
variable {P0:qc} {w0:y3} {A0:Kj} {R0:K8} {t0:ib}
theorem yQ {ω tg iter:Ko} {η:gs Ko} {ρ:Mj} {pos:Pos} {it θ:ia} {Y:Env} (J:Nat->ib->Prop)
  (ι:∀n s,J n s->ka (oD P0 w0) A0 (pyNext it) (λr O=>match r with
   | none=>R0 (.ok .next) O
   | some v=>ka (oD P0 w0) A0 (letOwnedTupleGo tg it v) (λ_ ζ=>ka (oD P0 w0) A0 (assign tg Y v) (λ_ ν=>
     ka (oD P0 w0) A0 (forIn η true λc r=>if r=true then do let ok <-isTrue c Y (eval c Y);pure (MS ok) else pure (MS r)) (λok δ=>
      if ok=true then ka (oD P0 w0) A0 (eval ω Y) (λx ε=>
       ka (oD P0 w0) A0 (call (.builtin "list.append") [θ,x]) (λ_ β=>∃m,m < n/\J m β) (λ_ _=>False) ε) (λ_ _=>False) δ
      else ∃m,m < n/\J m δ) (λ_ _=>False) ν) (λ_ _=>False) ζ) (λ_ _=>False) O) (λ_ _=>False) s)
  (n:Nat) (h:J n t0):
  codeAny (oD P0 w0) A0 (.compLoop (.ListComp ω [⟨tg,iter,η,0⟩] ρ pos) 0 it θ Y) R0 t0:=by
 have no:∀{α:Type} {t:Sem α} {Q:α->ib->Prop} {E:DL} {s:ib},ka (oD P0 w0) A0 t Q (λ_ _=>False) s->ka (oD P0 w0) A0 t Q E s:=
  λh=>Mt h (λ_ _ q=>q) λ_ _ z=>z.elim
 refine codeAny_loop rfl J (λn s τ=>?_) n h;show ka _ A0 ((compTurn (.ListComp ω [⟨tg,iter,η,0⟩] ρ pos) 0 it θ Y).onRaise (λx=>do noteFrame x Y;theTreesLotGoes x)) _ _ s;refine wpAny_noted ?_;rw[compTurn_list];refine cc (QP (cc (thn (no (ι n s τ)) λr O h₁=>?_)));cases r with
 | none=>exact hF h₁
 | some v=>
   refine cc (thn (no h₁) λ_ ζ γ=>?_);refine cc (thn (no γ) λ_ ν π=>cc (thn (no π) λok δ Z=>?_));cases ok with
   | false=>exact hF ⟨rfl,Z⟩
   | true=>
     rw[qb rfl] at Z;refine cc (cc (thn (no Z) λx ε ο=>?_));refine cc (thn (no ο) λ_ β ξ=>?_);exact hF (hF ⟨rfl,ξ⟩)
end
theorem nI (env:Env):∀(l:gs (Kz×NameKind)) (Y:K9),(∀y∈l,y.2= .free->∃c,env.cells.lookup y.1=ak c)->
  ∃r:K9,(forIn l Y (λ(x:Kz×NameKind) (r:K9)=>if x.2 == L0 then (do let c <-cellOf env x.1;pure (MS ((x.1,c)::r))) else pure (MS r)):Sem K9)=pure r/\
   (∀p∈r,p∈Y∨env.cells.lookup p.1=ak p.2)/\(∀p∈Y,p∈r)/\(∀y∈l,y.2= .free->∃c,(y.1,c)∈r)
 | [],Y,_=>⟨Y,rfl,λp Z=> .inl Z,λp Z=>Z,λy O=>nomatch O⟩
 | (x,k)::l,Y,h=>by
   by_cases hk:k= .free
   ·subst hk;obtain⟨c,β⟩:=h (x,.free) kb rfl;obtain⟨r,e,h1,h2,α⟩:=nI env l ((x,c)::Y) λy O=>h y (ky _ O);refine⟨r,?_,λp Z=>?_,λp Z=>h2 p (ky _ Z),λy O hf=>?_⟩
    ·rw[Nw];have γ:cellOf env x=pure c:=by unfold cellOf;rw[β]
     simp only[L3,OF,γ,pure_bind];exact e
    ·rcases h1 p Z with q | q
     ·rcases qn.mp q with z | z
      ·subst z;exact .inr β
      ·exact .inl z
     ·exact .inr q
    ·rcases qn.mp O with z | z
     ·subst z;exact⟨c,h2 _ kb⟩
     ·exact α y z hf
   ·obtain⟨r,e,h1,h2,α⟩:=nI env l Y λy O=>h y (ky _ O);refine⟨r,?_,h1,h2,λy O hf=>?_⟩
    ·rw[Nw];have hb:(k == L0)=false:=by cases k<;>first | rfl | exact kv rfl hk
     simp only[hb,R6,RA,pure_bind];exact e
    ·rcases qn.mp O with z | z
     ·subst z;exact kv hf hk
     ·exact α y z hf
theorem sI (O:Mj) (env:Env) (h:∀y∈O.names,y.2= .free->∃c,env.cells.lookup y.1=ak c):
  ∃ν,closureFor O env=pure ν/\(∀p∈ν,env.cells.lookup p.1=ak p.2)/\∀y∈O.names,y.2= .free->∃c,(y.1,c)∈ν:=by
 obtain⟨r,e,h1,h2,Z⟩:=nI env O.names [] h;refine⟨r,?_,λp Y=>(h1 p Y).resolve_left (λz=>nomatch z),Z⟩;unfold closureFor;have:=e;simp only[bind_pure] at *
 exact e
theorem tJ {κ β:Type} [BEq κ] [LawfulBEq κ]:∀{l:gs (κ×β)} {x:κ} {c:β},(x,c)∈l->∃ρ,l.lookup x=ak ρ
 | [],_,_,h=>nomatch h
 | (y,d)::l,x,c,h=>by
   by_cases e:x=y
   ·subst e;exact⟨d,by simp[NC]⟩
   ·have hb:(x == y)=false:=Kr.mpr e;rcases qn.mp h with z | z
    ·exact kv (zt QI z) e
    ·obtain⟨ρ,q⟩:=tJ z;exact⟨ρ,by rw[NC,hb];exact q⟩
theorem lM {env:Env}:∀{names:gs (Kz×NameKind)} {x:Kz} {Y:NameKind},
  (names.map λ(n,k)=>if (k == L0&&env.scope.kind == .function&&env.kindOf n == ak .cell) then (n,Nb) else (n,k)).lookup x=ak Y->∃k,(x,k)∈names/\(Y=k∨k= .free)
 | [],_,_,h=>by cases h
 | (y,k)::l,x,Y,h=>by
   rw[KF,NC] at h;by_cases e:x=y
   ·subst e;by_cases O:(k == L0&&env.scope.kind == .function&&env.kindOf x == ak .cell)=true
    ·refine⟨k,kb,.inr ?_⟩;rw[KL,KL] at O;exact eq_of_beq O.1.1
    ·refine⟨k,kb,.inl ?_⟩;simp only[ov O,L3] at h;exact(kf h).symm
   ·have hb:(x == y)=false:=Kr.mpr e
    have h':(l.map λ(n,k)=>if (k == L0&&env.scope.kind == .function&&env.kindOf n == ak .cell) then (n,Nb) else (n,k)).lookup x=ak Y:=by
     by_cases O:(k == L0&&env.scope.kind == .function&&env.kindOf y == ak .cell)=true
     ·simp only[qb O,hb] at h;exact h
     ·simp only[ov O,hb] at h;exact h
    obtain⟨q,hm,z⟩:=lM h';exact⟨q,ky _ hm,z⟩
theorem nN {env:Env}:∀{names:gs (Kz×NameKind)} {x:Kz},names.lookup x=ak .free->
  (names.map λ(n,k)=>if (k == L0&&env.scope.kind == .function&&env.kindOf n == ak .cell) then (n,Nb) else (n,k)).lookup x=ak .cell∨
  (names.map λ(n,k)=>if (k == L0&&env.scope.kind == .function&&env.kindOf n == ak .cell) then (n,Nb) else (n,k)).lookup x=ak .free
 | [],_,h=>by cases h
 | (y,k)::l,x,h=>by
   rw[NC] at h;rw[KF,NC];by_cases e:x=y
   ·subst e;simp only[L3] at h;cases h;by_cases O:(L0 == L0&&env.scope.kind == .function&&env.kindOf x == ak .cell)=true
    ·refine .inl ?_;rw[qb O];simp only[L3]
    ·refine .inr ?_;rw[ov O];simp only[L3]
   ·have hb:(x == y)=false:=Kr.mpr e;simp only[hb] at h;have q:=nN (env:=env) h;by_cases O:(k == L0&&env.scope.kind == .function&&env.kindOf y == ak .cell)=true
    ·simp only[qb O,hb];exact q
    ·simp only[ov O,hb];exact q
structure jg (osc:Mj) (ON N:C') (n:Nat) (fx:D') (sc:Mj):Prop where
 kind:sc.kind= .function
 noc:∀y∈sc.names,y.2≠.cell
 own:∀y∈sc.names,y.2= .local->sc.names.lookup y.1=ak .local
 fre:∀y∈sc.names,y.2= .free->osc.names.lookup y.1=ak .cell∨osc.names.lookup y.1=ak .free
 len:N.length=n + fx.length
 frn:∀k,k < fx.length->∃x j,N[n + k]? =ak x/\fx[k]? =ak j/\ON[j]? =ak x/\sc.names.lookup x=ak .free
noncomputable def Dm (ON:C') (O:Mj):C'->D'->KS
 | [],[]=>true
 | x::xs,j::js=>decide (ON[j]? =ak x)&&decide (O.names.lookup x=ak .free)&&Dm ON O xs js
 | _,_=>false
theorem vj {ON:C'} {Y:Mj}:∀{xs:C'} {O:D'},Dm ON Y xs O=true->xs.length=O.length/\∀k,k < O.length->∃x j,xs[k]? =ak x/\O[k]? =ak j/\ON[j]? =ak x/\Y.names.lookup x=ak .free
 | [],[],_=>⟨rfl,λk h=>kv h (LO k)⟩
 | [],_::_,h=>by cases h
 | _::_,[],h=>by cases h
 | x::xs,j::O,h=>by
   simp only[Dm,KL,PN] at h;obtain⟨l,q⟩:=vj h.2;refine⟨zt Nat.succ l,λk hk=>?_⟩;cases k with
   | zero=>exact⟨x,j,rfl,rfl,h.1.1,h.1.2⟩
   | succ k=>
     obtain⟨Z,α,a,b,c⟩:=q k (Nat.lt_of_succ_lt_succ hk);exact⟨Z,α,by simpa using a,by simpa using b,c⟩
noncomputable def xO (osc:Mj) (ON N:C') (n:Nat) (fx:D') (O:Mj):Bool:=
 decide (O.kind= .function)&&decide (∀y∈O.names,y.2≠.cell)&&decide (∀y∈O.names,y.2= .local->O.names.lookup y.1=ak .local)&&
 decide (∀y∈O.names,y.2= .free->osc.names.lookup y.1=ak .cell∨osc.names.lookup y.1=ak .free)&&decide (n<=N.length)&&Dm ON O (N.drop n) fx
theorem jg.of {osc:Mj} {ON N:C'} {n:Nat} {fx:D'} {O:Mj} (h:xO osc ON N n fx O=true):jg osc ON N n fx O:=by
 simp only[xO,KL,PN] at h;obtain⟨⟨⟨⟨⟨h1,h2⟩,Z⟩,Y⟩,α⟩,θ⟩:=h;obtain⟨l,q⟩:=vj θ;refine⟨h1,h2,Z,Y,?_,λk hk=>?_⟩
 ·rw[MM] at l;omega
 ·obtain⟨x,j,a,b⟩:=q k hk;exact⟨x,j,by rw[R4] at a;exact a,b⟩
noncomputable def jL (X:Cx) (N:C') (O:Mj) (ν:K9) (C:gn) (fp:K0) (s:ib) (H:Hp):Cx where
 prog:=X.prog
 w:=X.w
 K:=X.K
 mg:=X.mg
 base:=X.base
 A:=X.A
 N:=N
 s₀:=s
 H₀:=H
 env:=compEnvC O ν C X.env
 outer:=X.stack
 stack:=X.stack
 ex:=fp
 fn:=λ_=>false
 calm:=X.calm
 pn:=[]
 xe:=λ_ _=>False
noncomputable def df (n:Nat) (fx:D') (σ:St):St:=gB n hB++fx.map λj=>(σ[j]?).join
def ze (n:Nat) (g:TG):Prop:=∀v σ H (Q Q':St->Hp->Prop),(∀σ' H',Q σ' H'->σ'.drop n=σ.drop n->σ'.length=σ.length->Q' σ' H')->g v σ H Q->g v σ H Q'
def xS (n:Nat) (g:TGs):Prop:=∀vs σ H (Q Q':St->Hp->Prop),(∀σ' H',Q σ' H'->σ'.drop n=σ.drop n->σ'.length=σ.length->Q' σ' H')->g vs σ H Q->g vs σ H Q'
theorem aX {n i:Nat} (h:i < n):ze n (Bc i):=λv σ H Q Q' k q=>k _ _ q (by rw[List.drop_set_of_lt h]) (by rw[N3])
theorem tU {n:Nat}:xS n gNil:=λvs σ H Q Q' k ⟨e,q⟩=>⟨e,k _ _ q rfl rfl⟩
theorem iJ {n:Nat} {t:TG} {u:TGs} (ht:ze n t) (hu:xS n u):xS n (Gi t u):=λvs σ H Q Q' k ⟨v,r,e,q⟩=>
 ⟨v,r,e,ht v σ H _ _ (fun ε H1 O Z l1=>hu r ε H1 Q Q' (fun ν H2 δ Y l2=>k ν H2 δ (Y.trans Z) (l2.trans l1)) O) q⟩
theorem xE {K:aS} {n m:Nat} {t:TGs} (h:xS n t):ze n (gTup K m t):=λv σ H Q Q' k ⟨a,xs,e,hs,hl,q⟩=>⟨a,xs,e,hs,hl,h xs σ H Q Q' k q⟩
def PTs (X:Cx) (O:gs Ko) (t:TT):Prop:=
 ∀(pins:Dc) (s:ib) (σ:St) (H:Hp) (Q:KS->Hp->Prop),Inv X pins σ H s->t σ H Q->
  ka (oD X.prog X.w) X.A (forIn O true λc r=>if r=true then do let ok <-isTrue c X.env (eval c X.env);pure (MS ok) else pure (MS r)) (TP X pins σ Q) X.xe s
noncomputable def tYes:TT:=λ_ H Q=>Q true H
theorem bK {X:Cx}:PTs X [] tYes:=λ_ _ _ H _ I h=>wpAny_tests_nil ⟨H,I,h⟩
theorem o8 {X:Cx} {c:Ko} {t:TT} (h:PT X c t):PTs X [c] t:=λpins s σ H Q I q=>wpAny_tests_one (h pins s σ H Q I q)
noncomputable def Cd (n:Nat) (fx:D') (ε:TI) (g:TG) (tc:TT) (te:TE):TE:=fun σ H Q=>ε σ H λJ H1=>∀D,H1 D=hB->
 ∃W:Nat->Nat->gs V->Hp->Prop,(∃m,W 0 m [] (upd H1 D (.lst [])))/\∀i m ys H2,W i m ys H2->(J.stop i H2/\Q (.ref D) H2)∨
   (J.go i H2/\∃N:gs V->Hp->Prop,(∀Y H',N Y H'->∃α,α < m/\W (i + 1) α Y H')/\∀x δ,J.yld i H2 x δ->g x (df n fx σ) δ λO Z=>tc O Z λb γ=>
    if b=true then te O γ λv β=>β D=ak (.lst ys)/\ys.length < lx/\N (ys++[v]) (upd β D (.lst (ys++[v]))) else N ys γ)
section
variable {X:Cx} {pins:Dc} {σ:St} {H:Hp} {s:ib}
theorem yS {n:Nat} {fx:D'}:(df n fx σ).length=n + fx.length:=by unfold df;simp
theorem sy {n:Nat} {fx:D'} {i:Nat} {v:V} (e:(df n fx σ)[i]? =ak (ak v)):∃k j,i=n + k/\fx[k]? =ak j/\σ[j]? =ak (ak v):=by
 unfold df at e;by_cases h:i < n
 ·rw[u' (by simpa using h),Qp,qb h] at e;cases e
 ·rw[vr (by simpa using h),wh,lz] at e;cases q:fx[i - n]? with
  | none=>rw[q] at e;cases e
  | some j=>
    rw[q] at e;have O:(σ[j]?).join=ak v:=kf e;refine⟨i - n,j,@A,q,?_⟩;cases z:σ[j]? with
    | none=>rw[z] at O;cases O
    | some o=>rw[z] at O;have:o=ak v:=O;rw[this]
theorem DO {osc:Mj} {ON N:C'} {n:Nat} {fx:D'} {δ:Mj} {ν:K9} {fp:K0} {θ:Ke} {tk:Nat}
  (ho:X.env.scope=osc) (hN:X.N=ON) (S:jg osc ON N n fx δ)
  (ε:∀p∈ν,X.env.cells.lookup p.1=ak p.2) (Y:∀y∈δ.names,y.2= .free->∃c,(y.1,c)∈ν)
  (I:Inv X pins σ H s) (hf:∀b∈fp,FpOk X pins H b) (τ:∀b∈fp,b < s.heap.objs.size)
  (β:∃m,θ.Ns s.heap.objs.size m) (O:∀b o,s.heap.get? b=ak o->θ.get? b=ak o):
  Inv (jL X N δ ν s.heap.objs.size fp s H) [] (df n fx σ) H {s with heap:=θ,toks:=tk}:=by
 have look:∀{x:Kz} {c:gn},ν.lookup x=ak c->X.env.cells.lookup x=ak c:=λ{x c} e=>ε (x,c) (KZ e)
 have ok:(jL X N δ ν s.heap.objs.size fp s H).Ok:=by
  refine⟨I.ok.mod,S.kind,I.ok.glob,I.ok.blt,ri _,λx y c h1 h2=>I.ok.inj x y c (look h1) (look h2),λx hx=>?_,λx c z=>(by cases z),I.ok.hd,I.ok.frames,.inl rfl,λb hb=>⟨Kn (τ b hb),λx c e=>(hf b hb).2.2.2.2.1 x c (look e)⟩,
   I.bs,Lf I.ok.bsz I.sz,λb o e hb=>?_,λb hb z=>?_,I.stack,I.stkFree⟩
  ·have ρ:∃ι,(ι=Nb∨ι=L0)/\(δ.names.map λ(n,k)=>if (k == L0&&X.env.scope.kind == .function&&X.env.kindOf n == ak .cell) then (n,Nb) else (n,k)).lookup x=ak ι:=by
    rcases hx with hx | hx
    ·exact⟨_,.inl rfl,hx⟩
    ·exact⟨_,.inr rfl,hx⟩
   obtain⟨ι,hk,e⟩:=ρ;obtain⟨k,hm,z⟩:=lM e
   have Z:k= .free:=by
    rcases z with z | z
    ·subst z;rcases hk with q | q
     ·exact kv q (S.noc _ hm)
     ·exact q
    ·exact z
   subst Z;obtain⟨c,hc⟩:=Y _ hm rfl;exact tJ hc
  ·rcases(hf b hb).2.2.2.1 with z | z
   ·exact I.ok.noex b o e z
   ·exact kv (f' (hJ (I.ok.bs b o e).1) z) (Lz _)
  ·rcases qn.mp (I.stkSub b z) with q | q
   ·exact(hf b hb).2.1 q
   ·exact(hf b hb).2.2.1 q
 obtain⟨m,β⟩:=β;refine⟨ok,rfl,I.bare,Un.kept O,⟨m,β,λi x v e1 e2 e3=>?_⟩,λx c e=>?_,I.hok.fresh (ri _),λx c e=>I.freeC x c (look e),λp hp=>kv (show p∈([]:Dc) from hp) @D,I.hok.kept O,?_⟩
 ·obtain⟨k,j,rfl,ψ,ω⟩:=sy e2;obtain⟨γ,χ,a1,a2,a3,υ⟩:=S.frn k (eH.mp ψ).1;have ex:γ=x:=kf (a1.symm.trans e1);have ej:χ=j:=kf (a2.symm.trans ψ);subst ex;subst ej;obtain⟨m',_,hl⟩:=I.loc;have hk:X.env.scope.names.lookup γ=ak .cell∨X.env.scope.names.lookup γ=ak .free:=by rw[ho];exact S.fre _ (KZ υ) rfl
  have π:Vis X.env.scope γ:=by rcases hk with z | z;exact .inr (.inl z);exact .inr (.inr z)
  obtain⟨u,r,q⟩:=hl χ γ v (by rw[hN];exact a3) ω π;rcases q with ⟨z,_⟩ | ⟨_,c,ζ,α⟩
  ·have φ:X.env.scope.names.lookup γ=ak .local:=z;rcases hk with q | q<;>(rw[q] at φ;cases φ)
  ·refine⟨u,r,.inr ⟨nN υ,c,?_,α.keeps O⟩⟩;obtain⟨c0,ξ⟩:=Y _ (KZ υ) rfl;obtain⟨ο,η⟩:=tJ ξ;have:=look η;rw[ζ] at this;cases this;exact η
 ·obtain⟨v,q⟩:=I.cell x c (look e);exact⟨v,q.keeps O⟩
 ·show _=N.length;rw[yS,S.len]
theorem vv {osc:Mj} {ON N:C'} {n:Nat} {fx:D'} {sc:Mj} {ν:K9} {ω tg iter:Ko} {c0:gs Ko} {pos:Pos} {wi:TI} {g:TG} {tc:TT} {te:TE} {Q:VK} {RR:ia->gn->K8}
  (ξ:X.calm=true) (ho:X.env.scope=osc) (hN:X.N=ON) (S:jg osc ON N n fx sc)
  (b5:∀p∈ν,X.env.cells.lookup p.1=ak p.2) (d3:∀y∈sc.names,y.2= .free->∃c,(y.1,c)∈ν)
  (hi:PI X tg iter wi) (gk:ze n g) (hb:∀ν C fp s H,PG (jL X N sc ν C fp s H) tg g/\PTs (jL X N sc ν C fp s H) c0 tc/\PE (jL X N sc ν C fp s H) ω te)
  (I:Inv X pins σ H s) (h:Cd n fx wi g tc te σ H Q)
  (τ:∀D C H' s',Inv X pins σ H' s'->(∃m,s'.heap.Ns C m)->FpOk X pins H' C->Q (.ref D) H'->RR (.ref D) C (.ok .next) s'):
  ka (oD X.prog X.w) X.A (eval iter X.env) (λx s₁=>ka (oD X.prog X.w) X.A (pyIter x) (λit s₂=>ka (oD X.prog X.w) X.A (newList []) (λe3 s₃=>
   ka (oD X.prog X.w) X.A (newFunctionEnv sc X.env.globals ν [] X.env.qual hB .none (ak X.env)) (λb9 δ=>
    codeAny (oD X.prog X.w) X.A (.compStart (.ListComp ω [⟨tg,iter,c0,0⟩] sc pos) 0 it e3 {b9 with scope:=relabel sc X.env}) (RR e3 b9.locals) δ) X.xe s₃) X.xe s₂) X.xe s₁) X.xe s:=by
 refine thn (hi pins s σ H _ I h) λv s1 h1=>thn h1 λf0 O h2=>?_;obtain⟨it,fp,tn,J,H2,e2,I2,T,c3,f2,hW⟩:=h2;subst e2;obtain⟨W,⟨m0,w0⟩,β⟩:=hW O.heap.objs.size I2.fresh;refine KR ?_;have I3:Inv X pins σ (upd H2 O.heap.objs.size (.lst [])) {O with heap:=O.heap.push {cls:= .type "list",data:= .seq ([]:E').toArray}}:=I2.lnew (t':=O.toks) (its:=[]) .nil (LI _)
 have f3:∀b∈fp,FpOk X pins (upd H2 O.heap.objs.size (.lst [])) b/\b < O.heap.objs.size:=λb hb=>by
  obtain⟨o,e,_⟩:=T.obj _ _ c3 b hb;have l:=hJ e;obtain⟨a1,a2⟩:=f2 b hb;exact⟨⟨by rw[aJ (Kn l)];exact a1,a2⟩,l⟩
 have sz:({O with heap:=O.heap.push {cls:= .type "list",data:= .seq ([]:E').toArray}}:ib).heap.objs.size=O.heap.objs.size + 1:=LK ..
 generalize e5:({O with heap:=O.heap.push {cls:= .type "list",data:= .seq ([]:E').toArray}}:ib)=s3 at I3 sz ⊢;generalize ι:upd H2 O.heap.objs.size (.lst [])=H3 at I3 f3 w0;have d1:∀b o,O.heap.get? b=ak o->s3.heap.get? b=ak o:=λb o e=>by rw[<-e5];exact hE _ e
 refine wpAny_newFunctionEnv (λy hy=>S.noc y hy) (λy hy=>nomatch hy) (λh4 e6 ο=>?_) S.kind;have b4:∀b o,s3.heap.get? b=ak o->h4.get? b=ak o:=λb o e=>ο.extBut b o (Kn (hJ e)) (hE _ e);have I4:=DO (tk:=s3.toks + ([]:K').length) ho hN S b5 d3 I3 (λb hb=>(f3 b hb).1) (λb hb=>by rw[sz];exact Ma (f3 b hb).2) ⟨_,e6⟩ b4;have b3:=hb ν s3.heap.objs.size fp s3 H3;generalize hY:jL X N sc ν s3.heap.objs.size fp s3 H3=Y at I4 b3
 have θ:∀{H':Hp},(∀b∈fp,H' b=hB)->∀b∈fp,FpOk Y [] H' b:=λ{H'} hn b hb=>by
  subst hY;obtain⟨⟨a1,a2,a3,a4,a5,a6⟩,l⟩:=f3 b hb;refine⟨hn b hb,Kn (show b < s3.heap.objs.size by rw[sz];exact Ma l),λz=>?_,.inl hb,λx c e=>a5 x c (b5 (x,c) (KZ e)),λp hp=>kv (show p∈([]:Dc) from hp) @D⟩;rcases qn.mp (I3.stkSub b z) with q | q
  ·exact a2 q
  ·exact a3 q
 have fin:∀{σ6:St} {H6:Hp} {s6:ib},Inv Y [] σ6 H6 s6->Q (.ref O.heap.objs.size) H6->RR (.ref O.heap.objs.size) s3.heap.objs.size (.ok .next) s6:=λ{σ6 H6 s6} I6 q=>by
  subst hY;refine τ _ _ H6 s6 ?_ (let ⟨m,hm,_⟩:=I6.loc;⟨m,hm⟩) (I3.fpOk (ri _) I6.free) q;obtain⟨hh,gg,dd,tt,e4⟩:=s6;obtain rfl:e4=s3.os:=I6.os
  exact I3.call (h':=hh) (g':=gg) (d':=dd) (t':=tt) (ch:=fp) I6.base I6.hok I6.bare λb hb=>by
   obtain⟨⟨a1,a2,a3,a4,a5,a6⟩,l⟩:=f3 b hb;exact⟨a4,a2,a5,a6⟩
 have pY:Y.prog=X.prog:=by subst hY;rfl
 have wY:Y.w=X.w:=by subst hY;rfl
 have kY:Y.K=X.K:=by subst hY;rfl
 have aY:Y.A=X.A:=by subst hY;rfl
 have cY:Y.calm=true:=by subst hY;exact ξ
 have eY:Y.env=compEnvC sc ν s3.heap.objs.size X.env:=by subst hY;rfl
 have xY:Y.xe=λ_ _=>False:=by subst hY;rfl
 have T':Turn Y.prog Y.w Y.K tg J fp it tn:=by rw[pY,wY,kY];exact T
 have c1:tn 0 h4:=T.keep _ _ _ c3 λb hb o e=>b4 b o (d1 b o e)
 have loop:codeAny (oD X.prog X.w) X.A (.compLoop (.ListComp ω [⟨tg,iter,c0,0⟩] sc pos) 0 (.ref it) (.ref O.heap.objs.size) (compEnvC sc ν s3.heap.objs.size X.env)) (RR (.ref O.heap.objs.size) s3.heap.objs.size)
   {s3 with heap:=h4,toks:=s3.toks + ([]:K').length}:=by
  rw[<-pY,<-wY,<-aY,<-eY];refine yQ (λk s'=>∃i ys σ' H',Inv Y [] σ' H' s'/\σ'.drop n=(df n fx σ).drop n/\σ'.length=(df n fx σ).length/\tn i s'.heap/\(∀b∈fp,H' b=hB)/\W i k ys H') ?_ m0 ⟨0,[],_,H3,I4,rfl,rfl,c1,λb hb=>(f3 b hb).1.1,w0⟩;rintro k s5 ⟨i,ys,σ5,H5,I5,ed,el,c2,e1,ε⟩
  have I5:Inv Y [] (df n fx σ) H5 s5:=I5.weak el.symm λj v e=>by
   obtain⟨k',j',rfl,_,_⟩:=sy e;have q:=zt (λl=>l[k']?) ed;simp only[R4] at q;rw[q];exact e
  rcases β i k ys H5 ε with ⟨stop,q⟩ | ⟨go,N',υ,step⟩
  ·refine Mt (T'.done Y rfl rfl rfl cY i [] s5 _ H5 (λ_ _=>False) I5 (θ e1) c2 stop) (λr s6 ⟨hr,I6⟩=>?_) λ_ _ z=>z;subst hr;exact fin I6 q
  ·rw[<-xY];refine thn (T'.item Y rfl rfl rfl cY i [] s5 _ H5 Y.xe I5 (θ e1) c2 go) λr s6 ⟨u,hr,h6⟩=>?_;subst hr;show ka _ _ _ _ _ _;refine thn h6 λ_ s7 ⟨x,H7,I7,r7,γ,Z,φ⟩=>?_;have e8:=I7.pinned (θ φ) (T.obj _ _ Z);refine thn (b3.1 _ s7 _ H7 x u _ e8 r7 (gk _ _ _ _ _ (fun σ' H' q e l=>(⟨q,e,l⟩:_/\_/\_)) (step x H7 γ))) λ_ s8 ⟨σ8,H8,I8,η,ψ,χ⟩=>?_;refine thn (b3.2.1 _ s8 σ8 H8 _ I8 η) λok s9 ⟨H9,I9,q9⟩=>?_
   have again:∀{a0:Hp} {b0:ib} {zs:gs V},Inv Y ([]++uP fp s7.heap) σ8 a0 b0->N' zs a0->
     ∃m,m < k/\∃i ys σ' H',Inv Y [] σ' H' b0/\σ'.drop n=(df n fx σ).drop n/\σ'.length=(df n fx σ).length/\tn i b0.heap/\(∀b∈fp,H' b=hB)/\W i m ys H':=λ{a0 b0 zs} I10 α=>by
    obtain⟨m',hm,π⟩:=υ _ _ α;refine⟨m',hm,i + 1,zs,σ8,a0,I10.unpinned,ψ,χ,T.keep _ _ _ Z λb hb o e=>(I10.pin (b,o) (nv _ (nv _ (kn hb e)))).1,λb hb=>?_,π⟩;obtain⟨o,e,d⟩:=T.obj _ _ Z b hb;exact(I10.pin (b,o) (nv _ (nv _ (kn hb e)))).2.1
   cases ok with
   | false=>exact again I9 q9
   | true=>
     rw[qb rfl];refine thn (b3.2.2 _ s9 σ8 H9 _ I9 q9) λy b0 ⟨v',a0,I10,ρ,e0,d2,α⟩=>?_;refine thn (dj (X:=Y) _ b0 σ8 a0 (.ref O.heap.objs.size) [v'] (.ref O.heap.objs.size) [y] (λ_ H'=>H'=upd a0 O.heap.objs.size (.lst (ys++[v']))) I10 rfl (.cons ρ .nil) ⟨_,ys,v',rfl,rfl,e0,d2,rfl⟩) λ_ ζ ⟨_,f1,e9,_,e7⟩=>?_;subst e7;exact again e9 α
 exact codeAny_compStart_list loop (T.self X.A 0 _ _ _ c1 loop)
theorem dY {osc:Mj} {ON N:C'} {n:Nat} {fx:D'} {O:Mj} {ω tg iter:Ko} {Y:gs Ko} {pos:Pos} {δ:TI} {g:TG} {tc:TT} {te:TE}
  (ξ:X.calm=true) (ho:X.env.scope=osc) (ζ:X.N=ON) (S:xO osc ON N n fx O=true) (hi:PI X tg iter δ) (η:ze n g)
  (hb:∀ν C fp s H,PG (jL X N O ν C fp s H) tg g/\PTs (jL X N O ν C fp s H) Y tc/\PE (jL X N O ν C fp s H) ω te)
  (hs:∀x,foldedSetIterable iter X.env x=pure x:=by intro _;rfl):PE X (.ListComp ω [⟨tg,iter,Y,0⟩] O pos) (Cd n fx δ g tc te):=by
 intro pins s σ H Q I h;have S:=jg.of S;obtain⟨ν,β,α,Z⟩:=sI O X.env λy ε hf=>I.ok.has y.1 (by show X.env.scope.names.lookup y.1=ak .cell∨X.env.scope.names.lookup y.1=ak .free;rw[ho];exact S.fre y ε hf);rw[eval_ListComp];refine QU (use:=hB) rfl hs β S.kind S.own (vv (RR:=fun γ C=>compPost (oD X.prog X.w) X.A X.xe hB (EP X pins σ Q) γ C) ξ ho ζ S α Z hi η hb I h ?_);intro D C H' s' I' hm hf q;obtain⟨m,hm⟩:=hm;obtain⟨π,τ,υ,ρ,ι,θ⟩:=hf;exact⟨m,hm,λh' ο=>⟨.ref D,H',I'.turned (t':=s'.toks) (λb o hb e=>(ο.2 b hb).trans e) π τ ρ ι θ,rfl,q⟩⟩
theorem eZ {i:Nat} {x:Kz} {β:Pos} {Z:Pos} {osc:Mj} {ON N:C'} {n:Nat} {fx:D'} {O:Mj} {ω tg iter:Ko} {Y:gs Ko} {pos:Pos} {τ:TI} {g:TG} {tc:TT} {te:TE}
  (ζ:X.N.Nodup) (hx:X.N[i]? =ak x) (hl:X.env.scope.names.lookup x=ak .local) (ε:swapsWith (.ListComp ω [⟨tg,iter,Y,0⟩] O pos) (ak (.Name x β)) Z.line X.env=pure true)
  (ξ:X.calm=true) (ho:X.env.scope=osc) (hN:X.N=ON) (S:xO osc ON N n fx O=true) (hi:PI X tg iter τ) (gk:ze n g)
  (hb:∀ν C fp s H,PG (jL X N O ν C fp s H) tg g/\PTs (jL X N O ν C fp s H) Y tc/\PE (jL X N O ν C fp s H) ω te)
  (hs:∀x,foldedSetIterable iter X.env x=pure x:=by intro _;rfl):PS X (.Assign [.Name x β] (.ListComp ω [⟨tg,iter,Y,0⟩] O pos) Z) (tAsg (Cd n fx τ g tc te) (Bc i)):=by
 intro pins s σ H D I h;have S:=jg.of S;obtain⟨ν,η,δ,γ⟩:=sI O X.env λy hy hf=>I.ok.has y.1 (by show X.env.scope.names.lookup y.1=ak .cell∨X.env.scope.names.lookup y.1=ak .free;rw[ho];exact S.fre y hy hf);rw[exec_Assign_Name_used _ _ _ _ ε];refine cc (QP (cc ?_));show ka _ X.A (do let _ <-comprehension (.ListComp ω [⟨tg,iter,Y,0⟩] O pos) O X.env _ (newList []) false (eval iter X.env) (ak (assign (.Name x β) X.env))) _ _ s
 refine cc (thn (QU (use:=ak (assign (.Name x β) X.env)) (Q:=λ_ s'=>SP X pins D .next s') rfl hs η S.kind S.own
  (vv (RR:=fun ρ C=>compPost (oD X.prog X.w) X.A X.xe (ak (assign (.Name x β) X.env)) (λ_ s'=>SP X pins D .next s') ρ C) ξ ho hN S δ γ hi gk hb I h ?_)) λ_ s' q=>hF (hF q))
 intro ψ C H' s' I' hm hf q;obtain⟨m,hm⟩:=hm;obtain⟨π,φ,f2,f3,υ,f5⟩:=hf;show ka _ X.A (assign (.Name x β) X.env (.ref ψ)) _ _ _;refine S4 (uE I' ζ hx (.inl hl) (v:= .ref ψ) rfl (fun χ I2 θ=>?_) (.inr hl));obtain⟨a,ο,ha⟩:=θ
 have ι:C≠a:=by
  rcases ha with z | z
  ·rw[z];exact φ
  ·exactλe=>υ _ _ z e.symm
 exact⟨m,hm.sameBut ο ι,λh' α=>⟨_,H',I2.turned (t':=χ.toks) (λb o hb e=>(α.2 b hb).trans e) π φ f3 υ f5,q⟩⟩
end
section
variable {K:aS} {n:Nat} {fx:D'} {g:TG} {tc:TT} {te:TE} {σ:St} {H1:Hp} {D:gn} {Q:Hp->Prop}
theorem gc {lo:Int} {k:Nat} (β:Nat->gs V->Hp->Prop) (h0:β 0 [] (upd H1 D (.lst [])))
  (hs:∀i ys H,i < k->β i ys H->g (.int (lo + i)) (df n fx σ) H λO Z=>tc O Z λb δ=>if b=true then te O δ λv γ=>γ D=ak (.lst ys)/\ys.length < lx/\β (i + 1) (ys++[v]) (upd γ D (.lst (ys++[v]))) else β (i + 1) ys δ)
  (hd:∀ys H,β k ys H->Q H):
  ∃W:Nat->Nat->gs V->Hp->Prop,(∃m,W 0 m [] (upd H1 D (.lst [])))/\∀i m ys H2,W i m ys H2->((Itr lo k).stop i H2/\Q H2)∨
    ((Itr lo k).go i H2/\∃N:gs V->Hp->Prop,(∀Y H',N Y H'->∃ε,ε < m/\W (i + 1) ε Y H')/\∀x ζ,(Itr lo k).yld i H2 x ζ->g x (df n fx σ) ζ λO Z=>tc O Z λb δ=>
      if b=true then te O δ λv γ=>γ D=ak (.lst ys)/\ys.length < lx/\N (ys++[v]) (upd γ D (.lst (ys++[v]))) else N ys δ):=by
 refine⟨λi m ys H=>m=k - i/\i<=k/\β i ys H,⟨k,@D,LI _,h0⟩,?_⟩;rintro i m ys H ⟨rfl,hi,p⟩;by_cases α:i < k
 ·refine .inr ⟨α,β (i + 1),λY H' ρ=>⟨k - (i + 1),by omega,rfl,α,ρ⟩,λx H' y=>?_⟩;obtain⟨e,y⟩:=y;subst e;subst y;exact hs i ys _ α p
 ·have e:i=k:=by omega
  subst e;exact .inl ⟨ri _,hd ys H p⟩
theorem bW {a:gn} {xs:gs V} (Y:Nat->gs V->Hp->Prop) (h0:Y 0 [] (upd H1 D (.lst []))) (hl:∀i ys H,i<=xs.length->Y i ys H->SqL K H a xs)
  (hs:∀i x ys H,xs[i]? =ak x->Y i ys H->g x (df n fx σ) H λO Z=>tc O Z λb δ=>if b=true then te O δ λv γ=>γ D=ak (.lst ys)/\ys.length < lx/\Y (i + 1) (ys++[v]) (upd γ D (.lst (ys++[v]))) else Y (i + 1) ys δ)
  (hd:∀ys H,Y xs.length ys H->Q H):
  ∃W:Nat->Nat->gs V->Hp->Prop,(∃m,W 0 m [] (upd H1 D (.lst [])))/\∀i m ys H2,W i m ys H2->((Itl K a).stop i H2/\Q H2)∨
    ((Itl K a).go i H2/\∃N:gs V->Hp->Prop,(∀α H',N α H'->∃ε,ε < m/\W (i + 1) ε α H')/\∀x ζ,(Itl K a).yld i H2 x ζ->g x (df n fx σ) ζ λO Z=>tc O Z λb δ=>
      if b=true then te O δ λv γ=>γ D=ak (.lst ys)/\ys.length < lx/\N (ys++[v]) (upd γ D (.lst (ys++[v]))) else N ys δ):=by
 refine⟨λi m ys H=>m=xs.length - i/\i<=xs.length/\Y i ys H,⟨xs.length,@D,LI _,h0⟩,?_⟩;rintro i m ys H ⟨rfl,hi,p⟩;have q:=hl i ys H hi p;by_cases β:i < xs.length
 ·refine .inr ⟨⟨xs,xs[i],q,by simp[β]⟩,Y (i + 1),fun α H' ρ=>⟨xs.length - (i + 1),by omega,rfl,β,ρ⟩,λx H' y=>?_⟩;obtain⟨e,y⟩:=y;subst e;exact hs i x ys _ (y xs q) p
 ·have e:i=xs.length:=by omega
  subst e;exact .inl ⟨⟨xs,q,ri _⟩,hd ys H p⟩
theorem oN {a:gn} {xs:gs V} (Y:Nat->gs V->Hp->Prop) (h0:Y 0 [] (upd H1 D (.lst []))) (hl:∀i ys H,i<=xs.length->Y i ys H->SqT K H a xs)
  (hs:∀i x ys H,xs[i]? =ak x->Y i ys H->g x (df n fx σ) H λO Z=>tc O Z λb δ=>if b=true then te O δ λv γ=>γ D=ak (.lst ys)/\ys.length < lx/\Y (i + 1) (ys++[v]) (upd γ D (.lst (ys++[v]))) else Y (i + 1) ys δ)
  (hd:∀ys H,Y xs.length ys H->Q H):
  ∃W:Nat->Nat->gs V->Hp->Prop,(∃m,W 0 m [] (upd H1 D (.lst [])))/\∀i m ys H2,W i m ys H2->((Itt K a).stop i H2/\Q H2)∨
    ((Itt K a).go i H2/\∃N:gs V->Hp->Prop,(∀α H',N α H'->∃ε,ε < m/\W (i + 1) ε α H')/\∀x ζ,(Itt K a).yld i H2 x ζ->g x (df n fx σ) ζ λO Z=>tc O Z λb δ=>
      if b=true then te O δ λv γ=>γ D=ak (.lst ys)/\ys.length < lx/\N (ys++[v]) (upd γ D (.lst (ys++[v]))) else N ys δ):=by
 refine⟨λi m ys H=>m=xs.length - i/\i<=xs.length/\Y i ys H,⟨xs.length,@D,LI _,h0⟩,?_⟩;rintro i m ys H ⟨rfl,hi,p⟩;have q:=hl i ys H hi p;by_cases β:i < xs.length
 ·refine .inr ⟨⟨xs,xs[i],q,by simp[β]⟩,Y (i + 1),fun α H' ρ=>⟨xs.length - (i + 1),by omega,rfl,β,ρ⟩,λx H' y=>?_⟩;obtain⟨e,y⟩:=y;subst e;exact hs i x ys _ (y xs q) p
 ·have e:i=xs.length:=by omega
  subst e;exact .inl ⟨⟨xs,q,ri _⟩,hd ys H p⟩
end
def jP (K:aS) (H:Hp) (x:V) (k:Lh):Prop:=match x with
 | .non=>k="NoneType"
 | .bl _=>k="bool"
 | .int _=>k="int"
 | .str _=>k="str"
 | .ref p=>(k="list"/\∃xs,SqL K H p xs)∨(k="tuple"/\∃xs,SqT K H p xs)∨(k="dict"/\∃kvs,Rd H p (.dK kvs))
 | _=>False
noncomputable def subB (k T:Lh):Bool:=k == T||(k == "bool"&&T == "int")
noncomputable def rIsi (K:aS):gs V->Hp->VK->Prop:=λxs H Q=>∃x k T,xs=[x,.ty T]/\jP K H x k/\T∈["int","bool","str","list","tuple","dict"]/\Q (.bl (subB k T)) H
section
variable {X:Cx}
theorem DS:lJ X (.builtin "isinstance") (rIsi X.K):=by
 intro pins s σ H xs us Q I r h;obtain⟨x,k,T,rfl,hk,hT,q⟩:=h;obtain⟨u,v,rfl,Z,rt⟩:=B5 r;cases rt;have π:∀b,b=subB k T->EP X pins σ Q (.bool b) s:=λb e=>⟨.bl b,H,I,rfl,by rw[e];exact q⟩;have O:∀b,b=subB k T->EP X pins σ Q (.bool b) {s with toks:=s.toks + 1}:=λb e=>⟨.bl b,H,I.tok _,rfl,by rw[e];exact q⟩;simp only[qn,Ks,Lu] at hT;cases x with
 | non=>
   cases Z;cases hk;rcases hT with rfl | rfl | rfl | rfl | rfl | rfl
   ·exact IsiPair.NoneType_int (O _ @C)
   ·exact IsiPair.NoneType_bool (O _ @C)
   ·exact IsiPair.NoneType_str (O _ @C)
   ·exact IsiPair.NoneType_list (O _ @C)
   ·exact IsiPair.NoneType_tuple (O _ @C)
   ·exact IsiPair.NoneType_dict (O _ @C)
 | bl b=>
   cases Z;cases hk;rcases hT with rfl | rfl | rfl | rfl | rfl | rfl
   ·exact IsiPair.bool_int (π _ @C)
   ·exact IsiPair.bool_bool (π _ @C)
   ·exact IsiPair.bool_str (O _ @C)
   ·exact IsiPair.bool_list (O _ @C)
   ·exact IsiPair.bool_tuple (O _ @C)
   ·exact IsiPair.bool_dict (O _ @C)
 | int i=>
   obtain⟨t,rfl⟩:=Z;cases hk;rcases hT with rfl | rfl | rfl | rfl | rfl | rfl
   ·exact IsiPair.int_int (π _ @C)
   ·exact IsiPair.int_bool (O _ @C)
   ·exact IsiPair.int_str (O _ @C)
   ·exact IsiPair.int_list (O _ @C)
   ·exact IsiPair.int_tuple (O _ @C)
   ·exact IsiPair.int_dict (O _ @C)
 | str z=>
   obtain⟨t,rfl⟩:=Z;cases hk;rcases hT with rfl | rfl | rfl | rfl | rfl | rfl
   ·exact IsiPair.str_int (O _ @C)
   ·exact IsiPair.str_bool (O _ @C)
   ·exact IsiPair.str_str (π _ @C)
   ·exact IsiPair.str_list (O _ @C)
   ·exact IsiPair.str_tuple (O _ @C)
   ·exact IsiPair.str_dict (O _ @C)
 | ref p=>
   cases Z;rcases hk with ⟨rfl,xs,α⟩ | ⟨rfl,xs,α⟩ | ⟨rfl,kvs,α⟩
   ·obtain⟨its,_,pl,_⟩:=I.list α;obtain⟨o,ho,Y,_⟩:=pl.isList;rcases hT with rfl | rfl | rfl | rfl | rfl | rfl
    ·exact IsiPair.list_int ho Y (O _ @C)
    ·exact IsiPair.list_bool ho Y (O _ @C)
    ·exact IsiPair.list_str ho Y (O _ @C)
    ·exact IsiPair.list_list ho Y (π _ @C)
    ·exact IsiPair.list_tuple ho Y (O _ @C)
    ·exact IsiPair.list_dict ho Y (O _ @C)
   ·obtain⟨its,_,pl,_⟩:=I.tuple α;obtain⟨o,ho,Y,_⟩:=pl;rcases hT with rfl | rfl | rfl | rfl | rfl | rfl
    ·exact IsiPair.tuple_int ho Y (O _ @C)
    ·exact IsiPair.tuple_bool ho Y (O _ @C)
    ·exact IsiPair.tuple_str ho Y (O _ @C)
    ·exact IsiPair.tuple_list ho Y (O _ @C)
    ·exact IsiPair.tuple_tuple ho Y (π _ @C)
    ·exact IsiPair.tuple_dict ho Y (O _ @C)
   ·obtain⟨_,_,_,_,o,_,_,ho,ex,_⟩:=α.ok I.hok;have Y:o.cls= .type "dict":=ex.1;rcases hT with rfl | rfl | rfl | rfl | rfl | rfl
    ·exact IsiPair.dict_int ho Y (O _ @C)
    ·exact IsiPair.dict_bool ho Y (O _ @C)
    ·exact IsiPair.dict_str ho Y (O _ @C)
    ·exact IsiPair.dict_list ho Y (O _ @C)
    ·exact IsiPair.dict_tuple ho Y (O _ @C)
    ·exact IsiPair.dict_dict ho Y (π _ @C)
 | _=>exact KD hk
noncomputable def HN:V->gs V->Hp->VK->Prop:=λx xs H Q=>∃i,x= .int i/\xs=[]/\Q (.int (z4 i:Nat)) H
theorem lF:MtR X "int.bit_length" HN:=by
 intro pins s σ H x xs v us Q I O rs h;obtain⟨i,rfl,rfl,q⟩:=h;obtain⟨t,rfl⟩:=O;cases rs;exact call_int_bit_length ⟨.int _,H,I.tok _,⟨_,rfl⟩,q⟩
noncomputable def eqVs (xs ys:gs V):Bool:=xs.length == ys.length&&(lA xs.length).all λj=>eqV (xs.getD j .non) (ys.getD j .non)
noncomputable def rEqL (K:aS) (neg:KS):R2:=λx y H Q=>∃a b xs ys,x= .ref a/\y= .ref b/\SqL K H a xs/\SqL K H b ys/\xs.all qi=true/\ys.all qi=true/\Q (.bl (if neg then !eqVs xs ys else eqVs xs ys)) H
theorem mG {xs:gs V} {us:E'} (r:Vals xs us) {j:Nat} (h:j < us.toArray.size):RelV (xs.getD j .non) (us.toArray[j]):=by
 have hl:=r.length;have h':j < us.length:=by simpa using h
 obtain⟨u,e,O⟩:=r.get (i:=j) (x:=xs.getD j .non) (by rw[eh,fy @A];rfl)
 have Y:us.toArray[j]=u:=by
  rw[fy h'] at e;have:=kf e;simpa using this
 rw[Y];exact O
theorem wG {xs:gs V} (f:xs.all qi=true) (j:Nat):qi (xs.getD j .non)=true:=by
 rw[eh];cases e:xs[j]? with
 | none=>rfl
 | some x=>exact ND.mp f x (hQ e)
theorem xg {pins:Dc} {σ:St} {H:Hp} {s:ib} {a b:gn} {xs ys:gs V} {A:Kj} (hu:A.units < cLine) (I:Inv X pins σ H s) (ha:SqL X.K H a xs) (hb:SqL X.K H b ys) (fx:xs.all qi=true) (Z:ys.all qi=true):
  SeqAt.RcAt A s (.ref a) (.ref b) (eqVs xs ys)/\SeqAt.RcNeAt A s (.ref a) (.ref b) (!eqVs xs ys):=by
 obtain⟨its,r,pl,_⟩:=I.list ha;obtain⟨Y,r',O,_⟩:=I.list hb;have l1:=r.length;have l2:=r'.length;by_cases hl:xs.length=ys.length
 ·have e:eqVs xs ys=(lA its.toArray.size).all λj=>eqV (xs.getD j .non) (ys.getD j .non):=by
   unfold eqVs;rw[hl,L3,KB,vu,<-l1,hl]
  rw[e];have hz:its.toArray.size=Y.toArray.size:=by simp;omega
  have he:∀j (h1:j < its.toArray.size) (h2:j < Y.toArray.size),SeqAt.EqAt A.in1 s its.toArray[j] Y.toArray[j] (eqV (xs.getD j .non) (ys.getD j .non)):=λj h1 h2=>
   IL (mG r h1) (mG r' h2) (wG fx j) (wG Z j)
  exact⟨SeqAt.RcAt.lists pl.isList O.isList hz hu he,SeqAt.RcNeAt.lists pl.isList O.isList hz hu he⟩
 ·have e:eqVs xs ys=false:=by
   unfold eqVs;rw[Kr.mpr hl,Ln]
  rw[e];have hz:(its.toArray.size != Y.toArray.size)=true:=by simp;omega
  exact⟨SeqAt.RcAt.lists_lengths pl.isList O.isList hz hu,SeqAt.RcNeAt.lists_lengths pl.isList O.isList hz hu⟩
theorem Ig (hu:X.A.units < cLine):OpR X (compareOp .Eq) (rEqL X.K false):=by
 intro pins s σ H x y v u Q I Y O h;obtain⟨a,b,xs,ys,rfl,rfl,ha,hb,fx,Z,q⟩:=h;cases Y;cases O;exact(xg hu I ha hb fx Z).1 X.prog X.w X.xe _ ⟨.bl _,H,I,rfl,q⟩
theorem Ic (hu:X.A.units < cLine):OpR X (compareOp .NotEq) (rEqL X.K true):=by
 intro pins s σ H x y v u Q I Y O h;obtain⟨a,b,xs,ys,rfl,rfl,ha,hb,fx,Z,q⟩:=h;cases Y;cases O;exact(xg hu I ha hb fx Z).2 X.prog X.w X.xe _ ⟨.bl _,H,I,rfl,q⟩
end
theorem Bk {xs:gs V} (f:xs.all qi=true):eqVs xs xs=true:=by
 unfold eqVs;rw[L3,KB,ND];intro j _;have:=wG f j;generalize xs.getD j .non=x at this;cases x<;>first | rfl | exact L3 _ | cases this
theorem bw (a b:Nat):MA (a:Int) (b:Int)=((a&&&b:Nat):Int):=by
 unfold MA;rw[pB (N0 a),pB (N0 b)];simp
section
variable {X:Cx} {K:aS}
theorem gq (h:X.K=K):IxR X (rIxL K):=by subst h;exact F9
theorem av (h:X.K=K):IxR X (rIxT K):=by subst h;exact IB
theorem gT (h:X.K=K):SlR X (rSlL K):=by subst h;exact Fk
theorem we (h:X.K=K) (hu:X.A.units < cLine):OpR X (compareOp .Eq) (rEqL K false):=by subst h;exact Ig hu
theorem tE (h:X.K=K) (hu:X.A.units < cLine):OpR X (compareOp .NotEq) (rEqL K true):=by subst h;exact Ic hu
theorem dR (h:X.K=K):lJ X (.builtin "isinstance") (rIsi K):=by subst h;exact DS
noncomputable def rLen (K:aS):gs V->Hp->VK->Prop:=λxs H Q=>∃x n,xs=[x]/\LenV K x H n/\Q (.int n) H
theorem bf (h:X.K=K):lJ X (.builtin "len") (rLen K):=by subst h;exact DR
noncomputable def vZ (K:aS):gs V->Hp->VK->Prop:=λxs H Q=>∃p ys,xs=[.ref p]/\(SqL K H p ys∨SqT K H p ys)/\∀l,H l=hB->Q (.ref l) (upd H l (.lst ys))
theorem g9 (h:X.K=K):lJ X (.type "list") (vZ K):=by subst h;exact vx
noncomputable def El (K:aS):gs V->Hp->VK->Prop:=λxs H Q=>∃p ys,xs=[.ref p]/\((SqL K H p ys/\∀l,H l=hB->Q (.ref l) (upd H l (.tup ys)))∨(SqT K H p ys/\Q (.ref p) H))
theorem qz (h:X.K=K):lJ X (.type "tuple") (El K):=by subst h;exact ug
theorem aZ {tg l:Ko} {tl:TE} (h:X.K=K) (hl:PE X l tl):PI X tg l (ID K tl):=by subst h;exact FV hl
theorem tj {tg l:Ko} {tl:TE} (h:X.K=K) (hl:PE X l tl):PI X tg l (iTup K tl):=by subst h;exact HV hl
theorem k9 {o:Ko} {to:TE} {name:Kz} {apos cpos:Pos} {T id:Lh} {r:V->gs V->Hp->VK->Prop} (h:X.K=K) (Y:PlainAttrs T) (slot:Slot T name id) (O:typeOf (.builtin id)=pure (.type "method_descriptor")) (hm:MtR X id r) (ho:PE X o to)
  (ψ:attributeBase o name X.env (eval o X.env)=eval o X.env:=by rfl) (χ:(apos.endLine == cpos.line)=true:=by rfl):PE X (.Call (.Attribute o name apos) [] [] cpos) (tBM0 K T r to):=by subst h;exact HZ Y slot O hm ho ψ χ
theorem iZ {o e:Ko} {es:gs Ko} {to:TE} {t:TA} {name:Kz} {apos cpos:Pos} {T id:Lh} {r:V->gs V->Hp->VK->Prop} (h:X.K=K) (Z:PlainAttrs T) (slot:Slot T name id) (Y:typeOf (.builtin id)=pure (.type "method_descriptor")) (hm:MtR X id r) (ho:PE X o to) (ha:PA X (e::es) t)
  (ψ:attributeBase o name X.env (eval o X.env)=eval o X.env:=by rfl)
  (α:((backTo cpos (px (e::es) X.env)).all (λx=> !x.1)&&(backToKw cpos (keywordEach [] X.env)).all (λx=>x.1.isSome)
   &&decide ((e::es).length + ([]:gs Keyword).length + (if ([]:gs Keyword).isEmpty then 0 else 1) < 30))=true:=by rfl)
  (χ:(apos.endLine == cpos.line)=true:=by rfl) (hs:px (e::es) X.env=(false,eval e X.env)::px es X.env:=by rfl) (O:(backTo cpos (px es X.env)).any (·.1)=false:=by rfl):
  PE X (.Call (.Attribute o name apos) (e::es) [] cpos) (tBM K T r to t):=by subst h;exact JL Z slot Y hm ho ha ψ α χ hs O
end
noncomputable def HP (K:aS):gs V->Hp->VK->Prop:=λxs H Q=>∃(a:gn) (bs:gs KS),xs=[.ref a]/\SqL K H a (bs.map V.bl)/\Q (.bl (bs.all id)) H
section
variable {X:Cx} {K:aS}
theorem Gu {bs:gs KS} {its:E'} (O:Vals (bs.map V.bl) its) {i:Nat} {v:ia} (h:its.toArray[i]? =ak v):v= .bool (bs.getD i false):=by
 have h':its[i]? =ak v:=by simpa using h
 have hi:i < its.length:=(eH.mp h').1;have hl:=O.length;rw[dt] at hl;obtain⟨u,e,r⟩:=O.get (i:=i) (x:= .bl (bs.getD i false)) (by rw[lz,fy @A,eh,fy @A];rfl);rw[h'] at e;cases e;exact r
theorem IW (bs:gs KS):(lA bs.length).all (λi=>bs.getD i false)=bs.all id:=by
 rw[MY,ND,ND];constructor
 ·intro h x O;obtain⟨i,hi,e⟩:=KW.mp O;have:=h i (Kw.mpr hi);rw[eh,fy hi,e] at this;exact this
 ·intro h i hi;have hi:=Kw.mp hi;rw[eh,fy hi];exact h _ (LU hi)
theorem BF (h:X.K=K) (hc:X.calm=true):lJ X (.builtin "all") (HP K):=by
 subst h;intro pins s σ H xs us Q I r h;obtain⟨a,bs,rfl,β,q⟩:=h;obtain⟨u,rfl,Y⟩:=zz r;cases Y;obtain⟨its,O,pl,hz⟩:=I.list β;have lt:a < s.heap.objs.size:=let ⟨o,e,_⟩:=pl.isList;hJ e
 have hl:its.toArray.size=bs.length:=by have:=O.length;rw[dt] at this;simp[this]
 refine call_all_walk (MP pl.isList ⟨s.heap.objs.size,_,_,its.toArray.size,_,_,λi=>bs.getD i false,rfl,Walks.list (A:=X.A.in1) (I.ok.hd hc) s.heap.objs.size a (Kn lt) its.toArray,⟨⟨_,lT _ rfl,rfl,rfl⟩,let ⟨o,e,c⟩:=pl.isList;⟨o,hE _ e,c⟩⟩,λi v s Q E α υ=>by rw[Gu O α];exact Mb υ,λh' tk Z=>?_⟩);rw[hl,IW];exact⟨.bl _,H,I.kept (λb o e=>Z b o (λhm=>by have:=hJ e;rw[hL.mp hm] at this;exact kv this (Lz _)) (hE _ e)),rfl,q⟩
end
inductive Dt where
 | non | bl (b:KS) | int (i:Int) | str (x:Kz) | lst (xs:gs Dt) | tup (xs:gs Dt)
inductive Rep (K:aS) (H:Hp):V->Dt->Prop where
 | non:Rep K H .non .non
 | bl (b:KS):Rep K H (.bl b) (.bl b)
 | int (i:Int):Rep K H (.int i) (.int i)
 | str (x:Kz):Rep K H (.str x) (.str x)
 | lst {p:gn} {xs:gs V} {ds:gs Dt} (h:SqL K H p xs) (l:xs.length=ds.length) (r:∀(i:Nat) x d,xs[i]? =ak x->ds[i]? =ak d->Rep K H x d):Rep K H (.ref p) (.lst ds)
 | tup {p:gn} {xs:gs V} {ds:gs Dt} (h:SqT K H p xs) (l:xs.length=ds.length) (r:∀(i:Nat) x d,xs[i]? =ak x->ds[i]? =ak d->Rep K H x d):Rep K H (.ref p) (.tup ds)
theorem Same.tup {K:aS} {H H':Hp} {a:gn} {xs:gs V} (e:Same H H') (h:SqT K H a xs):SqT K H' a xs:=by
 rcases h with (h | ⟨o,h⟩) | h
 ·exact .inl (.inl (e _ _ h))
 ·exact .inl (.inr ⟨o,e _ _ h⟩)
 ·exact .inr h
mutual
noncomputable def eqD:Dt->Dt->KS
 | .non,.non=>true
 | .bl a,.bl b=>a == b
 | .bl a,.int b=>(if a then 1 else 0) == b
 | .int a,.bl b=>a == (if b then 1 else 0)
 | .int a,.int b=>a == b
 | .str a,.str b=>a == b
 | .lst xs,.lst ys=>eqDs xs ys
 | .tup xs,.tup ys=>eqDs xs ys
 | _,_=>false
noncomputable def eqDs:gs Dt->gs Dt->KS
 | [],[]=>true
 | x::xs,y::ys=>eqD x y&&eqDs xs ys
 | _,_=>false
end
mutual
noncomputable def depD:Dt->Nat
 | .lst xs=>kE xs + 1
 | .tup xs=>kE xs + 1
 | _=>0
noncomputable def kE:gs Dt->Nat
 | []=>0
 | x::xs=>max (depD x) (kE xs)
end
theorem Bu {ds:gs Dt} {d:Dt} (h:d∈ds):depD d<=kE ds:=by
 induction ds with
 | nil=>cases h
 | cons x xs ih=>
   rw[kE];rcases qn.mp h with rfl | h
   ·omega
   ·have:=ih h;omega
theorem ud:∀{xs ys:gs Dt},xs.length≠ys.length->eqDs xs ys=false
 | [],[],h=>kv rfl h
 | [],_::_,_=>rfl
 | _::_,[],_=>rfl
 | x::xs,y::ys,h=>by rw[eqDs,ud (λz=>h (by simp[z])),OB]
theorem ue:∀{xs ys:gs Dt},xs.length=ys.length->eqDs xs ys=(lA xs.length).all λi=>eqD (xs.getD i .non) (ys.getD i .non)
 | [],[],_=>rfl
 | [],_::_,h=>by cases h
 | _::_,[],h=>by cases h
 | x::xs,y::ys,h=>by
   rw[eqDs,ue (by simpa using h),za,Of,List.all_cons,List.all_map];rfl
theorem mj:∀d:Dt,eqD d d=true:=by
 intro d;refine Dt.rec (motive_1:=λd=>eqD d d=true) (motive_2:=λds=>eqDs ds ds=true) ?_ ?_ ?_ ?_ ?_ ?_ ?_ ?_ d
 ·rfl
 ·intro b;simp[eqD]
 ·intro b;simp[eqD]
 ·intro b;simp[eqD]
 ·intro xs h;rw[eqD];exact h
 ·intro xs h;rw[eqD];exact h
 ·rfl
 ·intro x xs h1 h2;rw[eqDs,h1,h2];rfl
theorem ED:∀{d e:Dt},d=e->eqD d e=true:=λh=>by subst h;exact mj _
section
variable {X:Cx} {pins:Dc} {σ:St} {H:Hp} {s:ib}
theorem Inv.notBoth (I:Inv X pins σ H s) {p:gn} {xs ys:gs V} (h1:SqL X.K H p xs) (h2:SqT X.K H p ys):False:=by
 obtain⟨_,_,pl,_⟩:=I.list h1;obtain⟨_,_,⟨o,ho,Z,_⟩,_⟩:=I.tuple h2;obtain⟨o',n,O,Y,_⟩:=pl;rw[ho] at O;cases O;rw[Z] at Y;exact kv Y @C
theorem Rep.fun (I:Inv X pins σ H s) {x:V} {d:Dt} (r:Rep X.K H x d):∀{e:Dt},Rep X.K H x e->d=e:=by
 induction r with
 | non=>intro e q;cases q;rfl
 | bl b=>intro e q;cases q;rfl
 | int i=>intro e q;cases q;rfl
 | str z=>intro e q;cases q;rfl
 | lst h l r ih=>
   intro e q;cases q with
   | lst h' Y r'=>
     have ex:=I.list_inj h h';subst ex;congr 1;refine NO λi=>?_;rename_i xs ds Z;by_cases hi:i < ds.length
     ·rw[fy hi,fy @A];have O:i < xs.length:=by omega
      rw[ih i _ _ (fy O) (fy hi) (r' i _ _ (fy O) (fy @A))]
     ·rw[Lg @A,Lg @A]
   | tup h' Y r'=>exact(I.notBoth h h').elim
 | tup h l r ih=>
   intro e q;cases q with
   | tup h' Y r'=>
     have ex:=I.tuple_inj h h';subst ex;congr 1;refine NO λi=>?_;rename_i xs ds Z;by_cases hi:i < ds.length
     ·rw[fy hi,fy @A];have O:i < xs.length:=by omega
      rw[ih i _ _ (fy O) (fy hi) (r' i _ _ (fy O) (fy @A))]
     ·rw[Lg @A,Lg @A]
   | lst h' Y r'=>exact(I.notBoth h' h).elim
open SeqAt in
theorem rc_D (I:Inv X pins σ H s) {x:V} {d:Dt} (r:Rep X.K H x d):∀{A:Kj} {e:Dt} {y:V} {u v:ia} (n:Nat),Rep X.K H y e->RelV x u->RelV y v->depD d<=n->A.units + n < cLine->
  EqAt A s u v (eqD d e)/\RcAt A s u v (eqD d e)/\RcNeAt A s u v (!eqD d e):=by
 induction r with
 | non=>
   intro A e y u v n q θ α hd hu;cases θ;cases q with
   | non=>cases α;exact⟨Rp _,RcAt.none_none,RcNeAt.none_none⟩
   | bl b=>cases α;exact⟨EqAt.none_bool b,RcAt.none_bool b,RcNeAt.none_bool b⟩
   | int b=>obtain⟨t,rfl⟩:=α;exact⟨EqAt.none_int b t,RcAt.none_int b t,RcNeAt.none_int b t⟩
   | str b=>obtain⟨t,rfl⟩:=α;exact⟨EqAt.none_str b t,RcAt.none_str b t,RcNeAt.none_str b t⟩
   | lst h l r=>cases α;obtain⟨_,_,pl,_⟩:=I.list h;exact⟨EqAt.none_list pl.isList @A,RcAt.none_list pl.isList @A,RcNeAt.none_list pl.isList @A⟩
   | tup h l r=>cases α;obtain⟨_,_,pl,_⟩:=I.tuple h;exact⟨EqAt.none_tuple pl @A,RcAt.none_tuple pl @A,RcNeAt.none_tuple pl @A⟩
 | bl a=>
   intro A e y u v n q θ α hd hu;cases θ;cases q with
   | non=>cases α;exact⟨EqAt.bool_none a,RcAt.bool_none a,RcNeAt.bool_none a⟩
   | bl b=>cases α;exact⟨EqAt.bool_bool a b,RcAt.bool_bool a b,RcNeAt.bool_bool a b⟩
   | int b=>obtain⟨t,rfl⟩:=α;exact⟨EqAt.bool_int a b t,RcAt.bool_int a b t,RcNeAt.bool_int a b t⟩
   | str b=>obtain⟨t,rfl⟩:=α;exact⟨EqAt.bool_str a b t,RcAt.bool_str a b t,RcNeAt.bool_str a b t⟩
   | lst h l r=>cases α;obtain⟨_,_,pl,_⟩:=I.list h;exact⟨EqAt.bool_list a pl.isList @A,RcAt.bool_list a pl.isList @A,RcNeAt.bool_list a pl.isList @A⟩
   | tup h l r=>cases α;obtain⟨_,_,pl,_⟩:=I.tuple h;exact⟨EqAt.bool_tuple a pl @A,RcAt.bool_tuple a pl @A,RcNeAt.bool_tuple a pl @A⟩
 | int a=>
   intro A e y u v n q θ α hd hu;obtain⟨t',rfl⟩:=θ;cases q with
   | non=>cases α;exact⟨EqAt.int_none a t',RcAt.int_none a t',RcNeAt.int_none a t'⟩
   | bl b=>cases α;exact⟨EqAt.int_bool a t' b,RcAt.int_bool a t' b,RcNeAt.int_bool a t' b⟩
   | int b=>obtain⟨t,rfl⟩:=α;exact⟨EqAt.int_int a t' b t,RcAt.int_int a t' b t,RcNeAt.int_int a t' b t⟩
   | str b=>obtain⟨t,rfl⟩:=α;exact⟨EqAt.int_str a t' b t,RcAt.int_str a t' b t,RcNeAt.int_str a t' b t⟩
   | lst h l r=>cases α;obtain⟨_,_,pl,_⟩:=I.list h;exact⟨EqAt.int_list a t' pl.isList @A,RcAt.int_list a t' pl.isList @A,RcNeAt.int_list a t' pl.isList @A⟩
   | tup h l r=>cases α;obtain⟨_,_,pl,_⟩:=I.tuple h;exact⟨EqAt.int_tuple a t' pl @A,RcAt.int_tuple a t' pl @A,RcNeAt.int_tuple a t' pl @A⟩
 | str a=>
   intro A e y u v n q θ α hd hu;obtain⟨t',rfl⟩:=θ;cases q with
   | non=>cases α;exact⟨EqAt.str_none a t',RcAt.str_none a t',RcNeAt.str_none a t'⟩
   | bl b=>cases α;exact⟨EqAt.str_bool a t' b,RcAt.str_bool a t' b,RcNeAt.str_bool a t' b⟩
   | int b=>obtain⟨t,rfl⟩:=α;exact⟨EqAt.str_int a t' b t,RcAt.str_int a t' b t,RcNeAt.str_int a t' b t⟩
   | str b=>obtain⟨t,rfl⟩:=α;exact⟨EqAt.str_str a t' b t,RcAt.str_str a t' b t,RcNeAt.str_str a t' b t⟩
   | lst h l r=>cases α;obtain⟨_,_,pl,_⟩:=I.list h;exact⟨EqAt.str_list a t' pl.isList @A,RcAt.str_list a t' pl.isList @A,RcNeAt.str_list a t' pl.isList @A⟩
   | tup h l r=>cases α;obtain⟨_,_,pl,_⟩:=I.tuple h;exact⟨EqAt.str_tuple a t' pl @A,RcAt.str_tuple a t' pl @A,RcNeAt.str_tuple a t' pl @A⟩
 | @lst p xs ds h l r ih=>
   intro A e y u v n q θ α hd hu;cases θ;obtain⟨its,O,pl,_⟩:=I.list h;rw[depD] at hd;cases q with
   | non=>cases α;exact⟨EqAt.list_none pl.isList @A,RcAt.list_none pl.isList @A,RcNeAt.list_none pl.isList @A⟩
   | bl b=>cases α;exact⟨EqAt.list_bool b pl.isList @A,RcAt.list_bool b pl.isList @A,RcNeAt.list_bool b pl.isList @A⟩
   | int b=>obtain⟨t,rfl⟩:=α;exact⟨EqAt.list_int b t pl.isList @A,RcAt.list_int b t pl.isList @A,RcNeAt.list_int b t pl.isList @A⟩
   | str b=>obtain⟨t,rfl⟩:=α;exact⟨EqAt.list_str b t pl.isList @A,RcAt.list_str b t pl.isList @A,RcNeAt.list_str b t pl.isList @A⟩
   | tup h' ξ r'=>
     cases α;obtain⟨_,_,β,_⟩:=I.tuple h';exact⟨EqAt.list_tuple pl.isList β @A,RcAt.list_tuple pl.isList β @A,RcNeAt.list_tuple pl.isList β @A⟩
   | @lst ρ ζ Y h' ξ r'=>
     cases α;obtain⟨its',η,β,_⟩:=I.list h';have n1:=O.length;have ω:=η.length
     have ε:RcAt A s (.ref p) (.ref ρ) (eqDs ds Y)/\RcNeAt A s (.ref p) (.ref ρ) (!eqDs ds Y):=by
      by_cases hl:ds.length=Y.length
      ·have e:eqDs ds Y=(lA its.toArray.size).all λi=>eqD (ds.getD i .non) (Y.getD i .non):=by
        rw[ue hl,vu,<-n1,l]
       rw[e];have hz:its.toArray.size=its'.toArray.size:=by simp;omega
       have he:∀j (h1:j < its.toArray.size) (h2:j < its'.toArray.size),EqAt A.in1 s its.toArray[j] its'.toArray[j] (eqD (ds.getD j .non) (Y.getD j .non)):=λj h1 h2=>by
        have τ:j < its.length:=by simpa using h1
        have γ:j < its'.length:=by simpa using h2
        have π:j < xs.length:=by omega
        have ν:j < ζ.length:=by omega
        have Z:j < ds.length:=by omega
        have ι:j < Y.length:=by omega
        have g1:xs[j]? =ak (xs.getD j .non):=by rw[eh,fy π];rfl
        have g2:ds[j]? =ak (ds.getD j .non):=by rw[eh,fy Z];rfl
        have δ:ζ[j]? =ak (ζ.getD j .non):=by rw[eh,fy ν];rfl
        have υ:Y[j]? =ak (Y.getD j .non):=by rw[eh,fy ι];rfl
        have hn:n≠0:=by omega
        exact(ih j _ _ g1 g2 (n - 1) (r' j _ _ δ υ) (mG O h1) (mG η h2) (by have:=Bu (hQ g2);omega) (by show A.units + 1 + (n - 1) < cLine;omega)).1
       exact⟨RcAt.lists pl.isList β.isList hz @A he,RcNeAt.lists pl.isList β.isList hz @A he⟩
      ·rw[ud hl];have hz:(its.toArray.size != its'.toArray.size)=true:=by simp;omega
       exact⟨RcAt.lists_lengths pl.isList β.isList hz @A,RcNeAt.lists_lengths pl.isList β.isList hz @A⟩
     rw[eqD];refine⟨?_,ε⟩;by_cases ο:p=ρ
     ·subst ο;have e:Dt.lst ds=Dt.lst Y:=(Rep.lst h l r).fun I (.lst h' ξ r');have φ:eqDs ds Y=true:=by have:=ED e;rw[eqD] at this;exact this
      rw[φ];exact Rp _
     ·exact Sa ο ε.1
 | @tup p xs ds h l r ih=>
   intro A e y u v n q θ α hd hu;cases θ;obtain⟨its,O,pl,_⟩:=I.tuple h;rw[depD] at hd;cases q with
   | non=>cases α;exact⟨EqAt.tuple_none pl @A,RcAt.tuple_none pl @A,RcNeAt.tuple_none pl @A⟩
   | bl b=>cases α;exact⟨EqAt.tuple_bool b pl @A,RcAt.tuple_bool b pl @A,RcNeAt.tuple_bool b pl @A⟩
   | int b=>obtain⟨t,rfl⟩:=α;exact⟨EqAt.tuple_int b t pl @A,RcAt.tuple_int b t pl @A,RcNeAt.tuple_int b t pl @A⟩
   | str b=>obtain⟨t,rfl⟩:=α;exact⟨EqAt.tuple_str b t pl @A,RcAt.tuple_str b t pl @A,RcNeAt.tuple_str b t pl @A⟩
   | lst h' ξ r'=>
     cases α;obtain⟨_,_,β,_⟩:=I.list h';exact⟨EqAt.tuple_list pl β.isList @A,RcAt.tuple_list pl β.isList @A,RcNeAt.tuple_list pl β.isList @A⟩
   | @tup ρ ζ Y h' ξ r'=>
     cases α;obtain⟨its',η,β,_⟩:=I.tuple h';have n1:=O.length;have ω:=η.length
     have ε:RcAt A s (.ref p) (.ref ρ) (eqDs ds Y)/\RcNeAt A s (.ref p) (.ref ρ) (!eqDs ds Y):=by
      have e:eqDs ds Y=((lA (min its.toArray.size its'.toArray.size)).all (λi=>eqD (ds.getD i .non) (Y.getD i .non))&&its.toArray.size == its'.toArray.size):=by
       by_cases hl:ds.length=Y.length
       ·have ψ:its.toArray.size=ds.length:=by simp;omega
        have χ:its'.toArray.size=ds.length:=by simp;omega
        rw[ue hl,ψ,χ,Nat.min_self,L3,Bool.and_true]
       ·have z:(its.toArray.size == its'.toArray.size)=false:=by rw[Kr];simp;omega
        rw[ud hl,z,OB]
      rw[e]
      have he:∀j (h1:j < its.toArray.size) (h2:j < its'.toArray.size),EqAt A.in1 s its.toArray[j] its'.toArray[j] (eqD (ds.getD j .non) (Y.getD j .non)):=λj h1 h2=>by
       have τ:j < its.length:=by simpa using h1
       have γ:j < its'.length:=by simpa using h2
       have π:j < xs.length:=by omega
       have ν:j < ζ.length:=by omega
       have Z:j < ds.length:=by omega
       have ι:j < Y.length:=by omega
       have g1:xs[j]? =ak (xs.getD j .non):=by rw[eh,fy π];rfl
       have g2:ds[j]? =ak (ds.getD j .non):=by rw[eh,fy Z];rfl
       have δ:ζ[j]? =ak (ζ.getD j .non):=by rw[eh,fy ν];rfl
       have υ:Y[j]? =ak (Y.getD j .non):=by rw[eh,fy ι];rfl
       have hn:n≠0:=by omega
       exact(ih j _ _ g1 g2 (n - 1) (r' j _ _ δ υ) (mG O h1) (mG η h2) (by have:=Bu (hQ g2);omega) (by show A.units + 1 + (n - 1) < cLine;omega)).1
      exact⟨RcAt.tuples pl β @A he,RcNeAt.tuples pl β @A he⟩
     rw[eqD];refine⟨?_,ε⟩;by_cases ο:p=ρ
     ·subst ο;have e:Dt.tup ds=Dt.tup Y:=(Rep.tup h l r).fun I (.tup h' ξ r');have φ:eqDs ds Y=true:=by have:=ED e;rw[eqD] at this;exact this
      rw[φ];exact Rp _
     ·exact Sa ο ε.1
end
noncomputable def rEqD (K:aS) (neg:KS):R2:=λx y H Q=>∃d e,Rep K H x d/\Rep K H y e/\depD d<=100/\Q (.bl (if neg then !eqD d e else eqD d e)) H
section
variable {X:Cx} {K:aS}
theorem AC (h:X.K=K) (hu:X.A.units + 100 < cLine):OpR X (compareOp .Eq) (rEqD K false):=by
 subst h;intro pins s σ H x y v u Q I Y O h;obtain⟨d,e,α,Z,hd,q⟩:=h;exact(rc_D I α 100 Z Y O hd hu).2.1 X.prog X.w X.xe _ ⟨.bl _,H,I,rfl,q⟩
theorem F0 (h:X.K=K) (hu:X.A.units + 100 < cLine):OpR X (compareOp .NotEq) (rEqD K true):=by
 subst h;intro pins s σ H x y v u Q I Y O h;obtain⟨d,e,α,Z,hd,q⟩:=h;exact(rc_D I α 100 Z Y O hd hu).2.2 X.prog X.w X.xe _ ⟨.bl _,H,I,rfl,q⟩
end
inductive zc:St->Nat->rl V->St->Prop where
 | z {a v:rl V} {l:St}:zc (a::l) 0 v (v::l)
 | s {a v:rl V} {l l':St} {i:Nat}:zc l i v l'->zc (a::l) (i + 1) v (a::l')
theorem zc.eq {l O:St} {i:Nat} {v:rl V} (h:zc l i v O):l.set i v=O:=by
 induction h with
 | z=>rfl
 | s _ ih=>rw[List.set_cons_succ,ih]
inductive zd:St->Nat->V->Prop where
 | z {v:V} {l:St}:zd (ak v::l) 0 v
 | s {a:rl V} {v:V} {l:St} {i:Nat}:zd l i v->zd (a::l) (i + 1) v
theorem zd.eq {l:St} {i:Nat} {v:V} (h:zd l i v):l[i]? =ak (ak v):=by
 induction h with
 | z=>rfl
 | s _ ih=>rw[List.getElem?_cons_succ];exact ih
section
variable {σ σ':St} {H:Hp} {Q:VK} {D:Ends} {ta tb tc te:TE} {t u:TS} {tt tt':TT} {r r':R2} {x y v:V}
theorem aB {N:C'} {vs:gs V} {t:TS} (e:start N vs=σ') (h:t D σ' H):t D (start N vs) H:=by rw[e];exact h
theorem Jx {i:Nat} (e:zd σ i v) (h:Q v H):tVar i σ H Q:=⟨v,e.eq,h⟩
theorem s_rI {C:Int->Int->Prop} {g:Int->Int->V} {i j:Int} (c:C i j) (h:Q (g i j) H):rI C g (.int i) (.int j) H Q:=⟨i,j,rfl,rfl,c,h⟩
theorem JC {g:Int->Int->V} {i j:Int} (h:Q (g i j) H):rI0 g (.int i) (.int j) H Q:=⟨i,j,rfl,rfl,h⟩
theorem s_rU {g:Int->V} {i:Int} (h:Q (g i) H):rU g (.int i) H Q:=⟨i,rfl,h⟩
theorem JD (e:scal x y=true) (h:Q (.bl (decide (x=y))) H):rEq x y H Q:=⟨e,h⟩
theorem JB (e:scal x y=true) (h:Q (.bl (!decide (x=y))) H):rNe x y H Q:=⟨e,h⟩
theorem G8 (h:D.nx σ H):GO D σ H:=h
theorem JA (h:t {D with nx:=u D} σ H):tSeq t u D σ H:=h
theorem Fz {i:Nat} {Q:St->Hp->Prop} (e:zc σ i (ak v) σ') (h:Q σ' H):Bc i v σ H Q:=by show Q (σ.set i (ak v)) H;rw[e.eq];exact h
theorem Hq {Q:St->Hp->Prop} (h:Q σ H):gNil [] σ H Q:=⟨rfl,h⟩
theorem FA {g:TG} {O:TGs} {vs:gs V} {Q:St->Hp->Prop} (h:g v σ H fun σ' H'=>O vs σ' H' Q):Gi g O (v::vs) σ H Q:=⟨v,vs,rfl,h⟩
theorem Hn {K:aS} {n:Nat} {O:TGs} {p:gn} {xs:gs V} {Q:St->Hp->Prop} (e:SqT K H p xs) (l:xs.length=n) (h:O xs σ H Q):gTup K n O (.ref p) σ H Q:=⟨p,xs,rfl,e,l,h⟩
def NewT (Q:VK) (xs:gs V) (H:Hp):Prop:=xs.length<=lx/\∀p,H p=hB->Q (.ref p) (upd H p (.tup xs))
def NewL (Q:VK) (xs:gs V) (H:Hp):Prop:=xs.length<=lx/\∀p,H p=hB->Q (.ref p) (upd H p (.lst xs))
theorem Jy {tr:TA} (h:tr σ H (NewT Q)):tTup tr σ H Q:=h
theorem JE {tr:TA} (h:tr σ H (NewL Q)):tLst tr σ H Q:=h
theorem c8 {H:Hp} {D:gn} {o:HO} (h:H D=hB):Same H (upd H D o):=λb u e=>by rw[aJ (ay e h)];exact e
theorem jl {o:HO} (h:∀p H2,H p=hB->Same H H2->H2 p=ak o->Q (.ref p) H2):∀p,H p=hB->Q (.ref p) (upd H p o):=λp O=>h p _ O (c8 O) aP
theorem Same.get {H H':Hp} (e:Same H H') {b:gn} {o:HO} (h:H b=ak o):H' b=ak o:=e b o h
theorem G9 {xs:gs V} (l:xs.length<=lx) (h:∀p H2,H p=hB->Same H H2->H2 p=ak (.tup xs)->Q (.ref p) H2):NewT Q xs H:=⟨l,jl h⟩
theorem Hg {xs:gs V} (l:xs.length<=lx) (h:∀p H2,H p=hB->Same H H2->H2 p=ak (.lst xs)->Q (.ref p) H2):NewL Q xs H:=⟨l,jl h⟩
theorem FF {sp:Sp} {E:XK} {tr:TA} (h:tr σ H λvs H1=>sp vs H1 Q E):Ce sp [] E tr σ H Q:=by unfold Ce;simp only[LD];exact h
theorem Jz {K:aS} {p:gn} {xs:gs V} {lo hi:rl Int} (e:SqL K H p xs) (h:∀q H2,H q=hB->Same H H2->H2 q=ak (.lst (cutV xs lo hi))->Q (.ref q) H2):rSlL K (.ref p) lo hi H Q:=⟨p,xs,rfl,e,jl h⟩
theorem yq {K:aS} {p:gn} {xs:gs V} {i:Int} (e:SqL K H p xs) (a:atI xs i=ak v) (h:Q v H):rIxL K (.ref p) (.int i) H Q:=⟨p,xs,i,v,rfl,rfl,e,a,h⟩
theorem JF {K:aS} {p:gn} {xs:gs V} {i:Int} (e:SqT K H p xs) (a:atI xs i=ak v) (h:Q v H):rIxT K (.ref p) (.int i) H Q:=⟨p,xs,i,v,rfl,rfl,e,a,h⟩
theorem AN {n:Nat} (h:n<=1000):n<=sizeLine:=L9 (dh h)
theorem CA {K:aS} {neg:KS} {d e:Dt} (Y:Rep K H x d) (O:Rep K H y e) (hd:depD d<=100) (h:Q (.bl (if neg then !eqD d e else eqD d e)) H):rEqD K neg x y H Q:=⟨d,e,Y,O,hd,h⟩
theorem s_ty {K:aS} {T:Lh} {A:Prop} (e:tyV K T x H) (h:A):tyV K T x H/\A:=⟨e,h⟩
theorem Hy {i:Int} (h:Q (.int (z4 i:Nat)) H):HN (.int i) [] H Q:=⟨i,rfl,rfl,h⟩
theorem Hk {K:aS} {p:gn} {xs:gs V} (e:SqL K H p xs) (h:Q (.int xs.length) H):rLen K [.ref p] H Q:=⟨_,_,rfl,.inl ⟨xs,e,rfl⟩,h⟩
theorem Hj {K:aS} {p:gn} {xs:gs V} (e:SqT K H p xs) (h:Q (.int xs.length) H):rLen K [.ref p] H Q:=⟨_,_,rfl,.inr ⟨xs,e,rfl⟩,h⟩
theorem JG {K:aS} {T k:Lh} (e:jP K H x k) (m:T∈["int","bool","str","list","tuple","dict"]) (h:Q (.bl (subB k T)) H):rIsi K [x,.ty T] H Q:=⟨x,k,T,rfl,e,m,h⟩
theorem Ht (h:∀p H2,H p=hB->Same H H2->H2 p=ak (.dK [])->Q (.ref p) H2):Eh σ H Q:=jl h
theorem JH {O:TI} {g:TG} {tb:TS} (h:O σ H λJ H1=>∃W:Nat->Nat->St->Hp->Prop,(∃m,W 0 m σ H1)/\∀i m σ H,W i m σ H->(J.stop i H/\D.nx σ H)∨(J.go i H/\∃N:St->Hp->Prop,(∀σ' H',N σ' H'->∃m',m' < m/\W (i + 1) m' σ' H')/\∀x H',J.yld i H x H'->g x σ H' fun ν H2=>tb {D with nx:=N,ct:=N,bk:=D.nx} ν H2)):tFor O g tb D σ H:=h
theorem Jw {Q:KS->Hp->Prop} (h:Q true H):tYes σ H Q:=h
theorem G4 {A B:Prop} (h:A):if true=true then A else B:=by rw[qb rfl];exact h
theorem FC {A B:Prop} (h:B):if false=true then A else B:=by rw[ov iv];exact h
theorem Ac {c:KS} {A B:Prop} (e:c=true) (h:A):if c=true then A else B:=by rw[qb e];exact h
theorem vY {c:KS} {A B:Prop} (e:c=false) (h:B):if c=true then A else B:=by rw[e,ov iv];exact h
theorem Hw {n:Nat} {fx:D'} {α:TI} {g:TG} (h:α σ H λJ H1=>∀D,H1 D=hB->
 ∃W:Nat->Nat->gs V->Hp->Prop,(∃m,W 0 m [] (upd H1 D (.lst [])))/\∀i m ys H2,W i m ys H2->(J.stop i H2/\Q (.ref D) H2)∨
   (J.go i H2/\∃N:gs V->Hp->Prop,(∀Y H',N Y H'->∃β,β < m/\W (i + 1) β Y H')/\∀x ε,J.yld i H2 x ε->g x (df n fx σ) ε λO Z=>tt O Z λb δ=>
    if b=true then te O δ λv γ=>γ D=ak (.lst ys)/\ys.length < lx/\N (ys++[v]) (upd γ D (.lst (ys++[v]))) else N ys δ)):Cd n fx α g tt te σ H Q:=h
theorem HH {K:aS} {p:gn} {bs:gs KS} (e:SqL K H p (bs.map V.bl)) (h:Q (.bl (bs.all id)) H):HP K [.ref p] H Q:=⟨p,bs,rfl,e,h⟩
theorem CB {j:Int} {A:Prop} (h1: -(2 ^ 62)<=j) (h2:j < 2 ^ 62) (h:A): -(2 ^ 62)<=j/\j < 2 ^ 62/\A:=⟨h1,h2,h⟩
end
noncomputable def tCut (t u:TS):TS:=λD σ H=>∃P:St->Hp->Prop,t {D with nx:=P} σ H/\∀σ' H',P σ' H'->u D σ' H'
theorem jV {X:Cx} {st:N9} {rest:gs N9} {t u:TS} (h1:PS X st t) (h2:PSs X rest u):PSs X (st::rest) (tCut t u):=by
 intro pins s σ H D I ⟨P,a,b⟩;refine Q5 (thn (h1 pins s σ H {D with nx:=P} I a) λf O q=>?_);cases f with
 | next=>obtain⟨ε,H1,Z,Y⟩:=q;exact h2 pins O ε H1 D Z (b ε H1 Y)
 | brk=>exact q
 | cont=>exact q
 | ret v=>exact q
theorem uM {t u:TS} {D:Ends} {σ:St} {H:Hp} (P:St->Hp->Prop) (h:t {D with nx:=P} σ H) (k:∀σ' H',P σ' H'->u D σ' H'):tCut t u D σ H:=⟨P,h,k⟩
section
variable {K:aS} {n:Nat} {fx:D'} {g:TG} {tc:TT} {te:TE} {σ:St} {H1:Hp} {D:gn} {Q:Hp->Prop}
structure Cs (Pv:Nat->gs V->Prop) (H1:Hp) (D:gn) (i:Nat) (ys:gs V) (H:Hp):Prop where
 pv:Pv i ys
 same:Same H1 H
 at':H D=ak (.lst ys)
 len:ys.length<=i
theorem Cs.put {Y:Nat->gs V->Prop} {i:Nat} {ys:gs V} {v:V} {O:Hp} (f:H1 D=hB) (s:Same H1 O) (e:O D=ak (.lst ys)) (l:ys.length<=i) (hi:i < 16777216) (p:Y (i + 1) (ys++[v])):
  O D=ak (.lst ys)/\ys.length < lx/\Cs Y H1 D (i + 1) (ys++[v]) (upd O D (.lst (ys++[v]))):=
 ⟨e,by rw[qq];omega,p,λb o h=>by rw[aJ (ay h f)];exact s b o h,aP,by rw[hC];simpa using l⟩
theorem Cs.skip {Y:Nat->gs V->Prop} {i:Nat} {ys:gs V} {O:Hp} (s:Same H1 O) (e:O D=ak (.lst ys)) (l:ys.length<=i) (p:Y (i + 1) ys):Cs Y H1 D (i + 1) ys O:=⟨p,s,e,@A⟩
theorem Cs.zero {O:Nat->gs V->Prop} (f:H1 D=hB) (p:O 0 []):Cs O H1 D 0 [] (upd H1 D (.lst [])):=⟨p,c8 f,aP,ri _⟩
end
structure J7 (K:aS) (C:gn) (m:Kz) (f:gn):Prop where
 ga:Mp K (.ref C) "__getattribute__"=ak (ak (.builtin "type.__getattribute__"))
 rd:QY K C (.type "type")=true
 fd:R1 K (.ref C) (.type "type") m=ak (.val (.ref f))
 hd:P2 (.ref f)=true
 kp:Lj K (.ref f)=true
structure GC (K:aS) (D:gn):Prop where
 cls:Cls K D
 ha:Kh K (.ref D) "__class__"=ak (ak (.builtin "object.__class__"))
 hn:Mp K (.builtin "object.__class__") "__get__"=ak (ak (.builtin "getset_descriptor.__get__"))
 tk:Pj K (.builtin "object.__class__")=ak true
 hm:Lw K D (.type "object")=ak true
theorem Iu {K:aS} {C D:gn} {b:KS} (h1:O6 K D=true) (h2:Pw K (.ref D)=ak (.type "type")) (O:Lw K C (.ref D)=ak b) (θ:Lw K D (.ref D)=ak true):Om K (.ref C) (.ref D)=ak b:=by
 unfold Om;by_cases e:C=D
 ·subst e;rw[θ] at O;cases O;rw[qb (L3 _)]
 ·rw[ov (λz=>e (by have:=eq_of_beq z;injection this))];unfold PySem.W.kitCls;dsimp only;rw[qb (by unfold O6 at h1;rw[h1,h2];rfl)];exact O
noncomputable def HM (K:aS):gs V->Hp->VK->Prop:=λxs H Q=>∃p C dx fs D b,xs=[.ref p,.ref D]/\H p=ak (.ins C dx fs)/\GC K C/\Om K (.ref C) (.ref D)=ak b/\Q (.bl b) H
section
variable {X:Cx} {K:aS}
theorem yU (h:X.K=K):lJ X (.builtin "isinstance") (HM K):=by
 subst h;intro pins s σ H xs us Q I r h;obtain⟨p,C,dx,fs,D,b,rfl,Z,c,hk,q⟩:=h;obtain⟨u,v,rfl,Y,rt⟩:=B5 r;cases Y;cases rt;obtain⟨mA,O,_,_,_,_⟩:=tS I.hok Z;obtain⟨od,L,_⟩:=O.look;exact PySem.W.kia_one (PySem.W.kitx_own (c.cls.get "__class__") c.cls.hd c.ha c.hn c.tk c.hm) I.kIn L hk (λz=>nomatch z) λtk=>⟨.bl b,H,I.tok tk,rfl,q⟩
theorem be {e:Ko} {ta:TE} {f:Kz} {pos:Pos} (h:X.K=K) (he:PE X e ta) (hb:attributeBase e f X.env (eval e X.env)=eval e X.env):PE X (.Attribute e f pos) (tFld K ta f):=by subst h;exact HY he hb
theorem mR {o value:Ko} {ta tv:TE} {f:Kz} {pos pos':Pos} (h:X.K=K) (ha:PE X o ta) (O:PE X value tv) (hs:swapsWith value (ak (.Attribute o f pos')) pos.line X.env=pure false):PS X (.Assign [.Attribute o f pos'] value pos) (sFld K ta tv f):=by subst h;exact HQ ha O hs
end
section
variable {σ:St} {H:Hp} {Q:VK} {D:Ends} {te tv ta:TE} {x y v:V}
theorem Hl {K:aS} {p C dx O:gn} {fs:gs (Kz×V)} {b:KS} (e:H p=ak (.ins C dx fs)) (c:GC K C) (k:Om K (.ref C) (.ref O)=ak b) (h:Q (.bl b) H):HM K [.ref p,.ref O] H Q:=⟨p,C,dx,fs,O,b,rfl,e,c,k,h⟩
def Jb (K:aS) (f:Kz) (Q:VK) (x:V) (H:Hp):Prop:=∃a C dx fs v,x= .ref a/\H a=ak (.ins C dx fs)/\Cls K C/\gQ K C f/\fs.lookup f=ak v/\Q v H
theorem JI {K:aS} {f:Kz} (h:te σ H (Jb K f Q)):tFld K te f σ H Q:=h
theorem bc {K:aS} {f:Kz} {p C dx:gn} {fs:gs (Kz×V)} (e:H p=ak (.ins C dx fs)) (c:Cls K C) (n:gQ K C f) (l:fs.lookup f=ak v) (h:Q v H):Jb K f Q (.ref p) H:=⟨p,C,dx,fs,v,rfl,e,c,n,l,h⟩
structure Upd (H H':Hp) (p:gn) (o:HO):Prop where
 at':H' p=ak o
 oth:∀b u,b≠p->H b=ak u->H' b=ak u
 non:∀b,b≠p->H b=hB->H' b=hB
theorem Upd.of {H:Hp} {p:gn} {o:HO}:Upd H (upd H p o) p o:=⟨aP,λb u n h=>by rw[aJ n];exact h,λb n h=>by rw[aJ n];exact h⟩
def Ja (K:aS) (f:Kz) (y:V) (D:Ends) (σ:St) (x:V) (H:Hp):Prop:=∃a C dx fs,x= .ref a/\H a=ak (.ins C dx fs)/\Cls K C/\gQ K C f/\fs.length < 1000/\D.nx σ (upd H a (.ins C dx (putF f y fs)))
theorem Cy {K:aS} {f:Kz} (h:tv σ H λy H1=>te σ H1 (Ja K f y D σ)):sFld K te tv f D σ H:=h
theorem mL {K:aS} {f:Kz} {p C dx:gn} {fs fs':gs (Kz×V)} (e:H p=ak (.ins C dx fs)) (c:Cls K C) (n:gQ K C f) (l:fs.length < 1000) (O:putF f y fs=fs') (h:∀H2,Upd H H2 p (.ins C dx fs')->D.nx σ H2):
  Ja K f y D σ (.ref p) H:=⟨p,C,dx,fs,rfl,e,c,n,l,by rw[O];exact h _ Upd.of⟩
def EL (C:gn) (sp:Sp) (E:XK) (Q:VK) (vs:gs V) (H:Hp):Prop:=∀x dx,H x=hB->H dx=hB->dx≠x->sp (.ref x::(vs++[])) (upd (upd H dx (.own x)) x (.ins C dx [])) (λv H2=>v= .non/\Q (.ref x) H2) E
theorem Hi {C:gn} {sp:Sp} {E:XK} {tr:TA} (h:tr σ H (EL C sp E Q)):GP C sp [] E tr σ H Q:=h
theorem Cz {C:gn} {sp:Sp} {E:XK} {vs:gs V} (h:∀x dx H2,H x=hB->Same H H2->H2 x=ak (.ins C dx [])->sp (.ref x::vs) H2 (λv H2=>v= .non/\Q (.ref x) H2) E):EL C sp E Q vs H:=by
 intro x dx O Y n;rw[LD];exact h x dx _ O (λb o e=>by rw[aJ (ay e O),aJ (ay e Y)];exact e) aP
theorem Upd.same {O H2:Hp} {p:gn} {o:HO} (u:Upd H H2 p o) (f:O p=hB) (s:Same O H):Same O H2:=λb q e=>u.oth b q (ay e f) (s b q e)
end
theorem Inv.laidCh {X:Cx} {pins:Dc} {σ:St} {H:Hp} {s:ib} {h':Ke} {a:gn} {o:HO} {t':Nat} {ch:K0} (I:Inv X pins σ H s) (k:∀b u,b∉ch->s.heap.get? b=ak u->h'.get? b=ak u) (Y:s.heap.objs.size<=a)
  (new:fM X.prog X.w (upd H a o) h' a o) (fp:∀b∈ch,FpOk X pins H b):Inv X pins σ (upd H a o) {s with heap:=h',toks:=t'}:=by
 have fr:H a=none:=I.hok.fresh Y;have δ:∀b u,H b=ak u->b∉ch:=λb u e z=>by rw[(fp b z).1] at e;cases e
 refine I.step (g':=s.gens) (d':=s.drawn) (ch:=ch) (λb hb=>?_) (λb ob _ _ O e _=>k b ob O e) (λb ob _ _ O e _=>⟨ob.slots,k b ob O e⟩) (λb ob _ e n=>?_) (λb ob O e=>⟨ob,k b ob O e⟩)
  (λb xs e=>by rw[aJ (ay e fr)];exact e) (λb ob u e=>by rw[aJ (ay e fr)];exact e) (λb ps e=>⟨#[],by rw[aJ (ay e fr),e];simp⟩) (λm hm=>?_) (λb u e=>?_) I.bare
 ·obtain⟨π,γ,ε,β,α,Z⟩:=fp b hb;exact⟨β,γ,α,Z⟩
 ·rw[aJ (Kn (f' (hJ e) Y))];exact n
 ·obtain⟨ob,es,ep,ho,r⟩:=hm;exact⟨ob,es,ep,k _ ob (λz=>(fp _ z).2.1 rfl) ho,r⟩
 ·by_cases hb:b=a
  ·subst hb;rw[aP] at e;cases e;exact new
  ·rw[aJ hb] at e;refine(I.hok b u e).stay (λc v O q=>k c v ?_ q) (λc q=>by rw[aJ (ay q fr)];exact q) λc xs q=>by rw[aJ (ay q fr)];exact q
   rcases O with z | z
   ·rw[z];exact δ b u e
   ·exact δ c _ z
theorem Inv.turnedCh {X:Cx} {pins:Dc} {σ:St} {H:Hp} {s:ib} {h':Ke} {t':Nat} {ch:K0} (I:Inv X pins σ H s) (k:∀b u,b∉ch->s.heap.get? b=ak u->h'.get? b=ak u)
  (fp:∀b∈ch,FpOk X pins H b):Inv X pins σ H {s with heap:=h',toks:=t'}:=by
 have δ:∀b u,H b=ak u->b∉ch:=λb u e z=>by rw[(fp b z).1] at e;cases e
 refine I.step (g':=s.gens) (d':=s.drawn) (ch:=ch) (λb hb=>?_) (λb ob _ _ O e _=>k b ob O e) (λb ob _ _ O e _=>⟨ob.slots,k b ob O e⟩) (λb ob _ e n=>n) (λb ob O e=>⟨ob,k b ob O e⟩)
  (λb xs e=>e) (λb ob u e=>e) (λb ps e=>⟨#[],by rw[e];simp⟩) (λm hm=>?_) (λb u e=>?_) I.bare
 ·obtain⟨π,β,γ,α,Z,Y⟩:=fp b hb;exact⟨α,β,Z,Y⟩
 ·obtain⟨ob,es,ep,ho,r⟩:=hm;exact⟨ob,es,ep,k _ ob (λz=>(fp _ z).2.1 rfl) ho,r⟩
 ·refine(I.hok b u e).stay (λc v O q=>k c v ?_ q) (λc q=>q) λc xs q=>q;rcases O with z | z
  ·rw[z];exact δ b u e
  ·exact δ c _ z
noncomputable def Ite (K:aS) (a:gn):It:=
 ⟨λi H=>∃xs x,SqL K H a xs/\xs[i]? =ak x,λi H x H'=>∃p v,H p=hB/\x= .ref p/\H'=upd H p (.tup [.int i,v])/\∀xs,SqL K H a xs->xs[i]? =ak v,λi H=>∃xs,SqL K H a xs/\xs.length=i⟩
noncomputable def Itz (x:Kz):It:=⟨λi _=>i < x.cps.size,λi H v H'=>∃p c,H p=hB/\v= .ref p/\H'=upd H p (.tup [.int i,.str ⟨#[c]⟩])/\x.cps[i]? =ak c,λi _=>i=x.cps.size⟩
theorem uC:(2:Nat)<=sizeLine:=by rw[qq];decide
theorem rQ {P:qc} {w:y3} {K:aS} {δ:gs Ko} {k:Nat} {pos:Pos} (a e it:gn) (Z:e≠it):
  Turn P w K (.Tuple δ k pos) (Ite K a) [e,it] e (λi h=>(∃O,IsEnum h e it i O)/\h.IsListIter it a i) where
 mem:=by simp
 obj:=λi h st b hb=>by
  obtain⟨⟨O,he⟩,⟨o,ho,τ,hd⟩⟩:=st;rcases qn.mp hb with z | z
  ·subst z;exact⟨_,he,λv z=>by cases z⟩
  ·rw[hL.mp z];exact⟨o,ho,λv z=>by rw[hd] at z;cases z⟩
 keep:=λi h h' st k=>⟨let ⟨O,he⟩:=st.1;⟨O,k e @D _ he⟩,st.2.at λo z=>k it @D o z⟩
 item:=by
  intro X hP hw hK τ i pins s σ H E I hf st χ;subst hP hw hK;obtain⟨xs,x,ρ,ο⟩:=χ;obtain⟨its,ξ,p,hz⟩:=I.list ρ;obtain⟨⟨O,he⟩,hl⟩:=st
  have ζ:a≠it:=λz=>by
   obtain⟨o,ho,ε,_⟩:=hl;obtain⟨o',n,Y,π,_⟩:=p;rw[z,ho] at Y;cases Y;rw[ε] at π;exact kv π @C
  have θ:a≠e:=λz=>by
   obtain⟨o',n,Y,π,_⟩:=p;rw[z,he] at Y;cases Y;exact kv (show MW "enumerate"= .type "list" from π) @C
  have W:=Mr (prog:=X.prog) (w:=X.w) (A:=X.A) (Draws.list (A:=X.A.in1) (I.ok.hd τ) it a ζ its.toArray) e Z (by simp[Z,Ka θ]) @D;have hi:i < its.toArray.size:=by have:=ξ.length;have:=(eH.mp ο).1;simp;omega
  refine W.item i s _ _ hi ⟨⟨O,he⟩,hl,p.isList⟩ λT a3 h' tk ω hT ι β hk=>⟨_,rfl,W.go δ k pos i T _ _ _ β λa0 η ν=>?_⟩;obtain⟨t,υ,φ,rfl⟩:=ω;have ψ:=W.apart i T h' β
  have ru:RelV x υ:=by
   obtain⟨u,hu,r⟩:=ξ.get ο;have α:its[i]? =ak υ:=by simpa using φ
   rw[hu] at α;cases α;exact r
  have kk:∀b u,b∉[e,it]->s.heap.get? b=ak u->a0.get? b=ak u:=λb u hb q=>ν b u hb (hk b u hb q);have fr:H T=none:=I.hok.fresh hT;refine⟨.ref T,upd H T (.tup [.int i,x]),I.laidCh (t':=tk) kk hT ⟨uC,[.int i t,υ],.cons ⟨t,rfl⟩ (.cons ru .nil),?_⟩ hf,rfl,⟨T,x,fr,rfl,rfl,λys hy=>by rw[I.list_inj hy ρ];exact ο⟩,⟨η.1,η.2.1⟩,λb hb=>?_⟩
  ·obtain⟨o,ho,r⟩:=ι;exact⟨o,ν T o ψ ho,r⟩
  ·have γ:=(hf b hb);rw[aJ (λz=>?_)]
   ·exact γ.1
   ·have lt:b < s.heap.objs.size:=by
     rcases qn.mp hb with z | z
     ·subst z;exact hJ he
     ·rw[hL.mp z];obtain⟨o,ho,_⟩:=hl;exact hJ ho
    rw[z] at lt;exact kv (f' lt hT) (Lz _)
 done:=by
  intro X hP hw hK τ i pins s σ H E I hf st χ;subst hP hw hK;obtain⟨xs,ρ,ο⟩:=χ;obtain⟨its,ξ,p,hz⟩:=I.list ρ;obtain⟨⟨O,he⟩,hl⟩:=st
  have ζ:a≠it:=λz=>by
   obtain⟨o,ho,ε,_⟩:=hl;obtain⟨o',n,Y,π,_⟩:=p;rw[z,ho] at Y;cases Y;rw[ε] at π;exact kv π @C
  have θ:a≠e:=λz=>by
   obtain⟨o',n,Y,π,_⟩:=p;rw[z,he] at Y;cases Y;exact kv (show MW "enumerate"= .type "list" from π) @C
  have W:=Mr (prog:=X.prog) (w:=X.w) (A:=X.A) (Draws.list (A:=X.A.in1) (I.ok.hd τ) it a ζ its.toArray) e Z (by simp[Z,Ka θ]) @D;have hn:its.toArray.size=i:=by have:=ξ.length;simp;omega
  subst hn;exact W.done s _ _ ⟨⟨O,he⟩,hl,p.isList⟩ λh' tk hk=>⟨rfl,I.turnedCh hk hf⟩
 self:=λ_ _ _ _ _ st h=>let ⟨_,he⟩:=st.1;Mc he h
theorem x5 {P:qc} {w:y3} {K:aS} {α:gs Ko} {k:Nat} {pos:Pos} {x:Kz} {t:Tok} {n:Lh} (e it:gn) (Y:e≠it)
  (D:∀A:Kj,A.handled=hB->Draws P w A it [it] x.cps.size (λi v=>∃c u,x.cps[i]? =ak c/\v= .str ⟨#[c]⟩ u) (λi h=>h.IsStrIter it n x t i)):
  Turn P w K (.Tuple α k pos) (Itz x) [e,it] e (λi h=>(∃O,IsEnum h e it i O)/\h.IsStrIter it n x t i) where
 mem:=by simp
 obj:=λi h st b hb=>by
  obtain⟨⟨O,he⟩,⟨o,ho,ζ,hd⟩⟩:=st;rcases qn.mp hb with z | z
  ·subst z;exact⟨_,he,λv z=>by cases z⟩
  ·rw[hL.mp z];exact⟨o,ho,λv z=>by rw[hd] at z;cases z⟩
 keep:=λi h h' st k=>⟨let ⟨O,he⟩:=st.1;⟨O,k e @D _ he⟩,let ⟨o,ho,r⟩:=st.2;⟨o,k it @D o ho,r⟩⟩
 item:=by
  intro X ξ hw ο ζ i pins s σ H E I hf st ε;subst ξ hw ο;obtain⟨⟨O,he⟩,hl⟩:=st;have W:=Mr (prog:=X.prog) (w:=X.w) (A:=X.A) (D X.A.in1 (I.ok.hd ζ)) e Y (by simp[Y]) @D;refine W.item i s _ _ ε ⟨⟨O,he⟩,hl⟩ λT ρ h' tk ν hT β Z hk=>⟨_,rfl,W.go α k pos i T _ _ _ Z fun π η δ=>?_⟩;obtain⟨τ,φ,⟨c,u,θ,rfl⟩,rfl⟩:=ν;have ι:=W.apart i T h' Z;have υ:∀b u,b∉[e,it]->s.heap.get? b=ak u->π.get? b=ak u:=λb u hb q=>δ b u hb (hk b u hb q);have fr:H T=none:=I.hok.fresh hT;refine⟨.ref T,upd H T (.tup [.int i,.str ⟨#[c]⟩]),I.laidCh (t':=tk) υ hT ⟨uC,[.int i τ,.str ⟨#[c]⟩ u],.cons ⟨τ,rfl⟩ (.cons ⟨u,rfl⟩ .nil),?_⟩ hf,rfl,⟨T,c,fr,rfl,rfl,θ⟩,⟨η.1,η.2⟩,λb hb=>?_⟩
  ·obtain⟨o,ho,r⟩:=β;exact⟨o,δ T o ι ho,r⟩
  ·have γ:=(hf b hb);rw[aJ (λz=>?_)]
   ·exact γ.1
   ·have lt:b < s.heap.objs.size:=by
     rcases qn.mp hb with z | z
     ·subst z;exact hJ he
     ·rw[hL.mp z];obtain⟨o,ho,_⟩:=hl;exact hJ ho
    rw[z] at lt;exact kv (f' lt hT) (Lz _)
 done:=by
  intro X ξ hw ο ζ i pins s σ H E I hf st ε;subst ξ hw ο;obtain⟨⟨O,he⟩,hl⟩:=st;have W:=Mr (prog:=X.prog) (w:=X.w) (A:=X.A) (D X.A.in1 (I.ok.hd ζ)) e Y (by simp[Y]) @D;have ε:i=x.cps.size:=ε;subst ε;exact W.done s _ _ ⟨⟨O,he⟩,hl⟩ λh' tk hk=>⟨rfl,I.turnedCh hk hf⟩
 self:=λ_ _ _ _ _ st h=>let ⟨_,he⟩:=st.1;Mc he h
noncomputable def IE (K:aS) (tl:TE):TI:=fun σ H R=>tl σ H λx H1=>(∃a,x= .ref a/\(∃xs,SqL K H1 a xs)/\R (Ite K a) H1)∨∃z,x= .str z/\R (Itz z) H1
section
variable {X:Cx} {K:aS}
theorem mS {l:Ko} {tl:TE} {α:gs Ko} {k:Nat} {tpos p pos:Pos} (h:X.K=K) (ζ:Gl X "enumerate") (hm:X.mg "enumerate"=hB) (hl:PE X l tl) (hs:px [l] X.env=[(false,eval l X.env)]:=by rfl):
  PI X (.Tuple α k tpos) (.Call (.Name "enumerate" p) [l] [] pos) (IE K tl):=by
 subst h;intro pins s σ H R I h;refine Qv (i6 I ζ hm boot_enumerate (Km (thn (aa hl ag hs pos pins s σ H (λvs H1=>match vs with | [x]=>(∃a,x= .ref a/\(∃xs,SqL X.K H1 a xs)/\R (Ite X.K a) H1)∨∃z,x= .str z/\R (Itz z) H1 | _=>False) I h) λus O ⟨vs,H1,I1,β,γ⟩=>?_) hs rfl))
 match vs,β,γ with
 | [x],β,γ=>
 obtain⟨u,rfl,δ⟩:=β.one;rcases γ with ⟨a,rfl,⟨xs,ε⟩,q⟩ | ⟨z,rfl,q⟩
 ·cases δ;obtain⟨its,η,pl,hz⟩:=I1.list ε;refine RM pl.isList λh' he Y hsz hk=>Mc he ?_;refine⟨O.heap.objs.size + 1,[O.heap.objs.size + 1,O.heap.objs.size],_,_,H1,rfl,I1.kept (t':=O.toks) hk,rQ a _ _ (KJ (LJ _)),⟨⟨_,he⟩,Y⟩,λb hb=>?_,q⟩;have Z:O.heap.objs.size<=b:=(qn.mp hb).elim (λz=>by rw[z];exact Oq _) (λz=>by rw[hL.mp z];exact ri _);exact I1.fpOk Z (I1.hok.fresh Z)
 ·obtain⟨t,rfl⟩:=δ;refine call_enumerate_str λh' he Y hsz hk=>Mc he ?_
  have fin:∀n,(h'.IsStrIter O.heap.objs.size n z t 0)->(∀A:Kj,A.handled=hB->Draws X.prog X.w A O.heap.objs.size [O.heap.objs.size] z.cps.size (λi v=>∃c u,z.cps[i]? =ak c/\v= .str ⟨#[c]⟩ u) (λi h=>h.IsStrIter O.heap.objs.size n z t i))->
    PIE X pins σ (.Tuple α k tpos) R (.ref (O.heap.objs.size + 1)) {O with heap:=h'}:=λn hn D=>by
   refine⟨O.heap.objs.size + 1,[O.heap.objs.size + 1,O.heap.objs.size],_,_,H1,rfl,I1.kept (t':=O.toks) hk,x5 _ _ (KJ (LJ _)) D,⟨⟨_,he⟩,hn⟩,λb hb=>?_,q⟩;have Z:O.heap.objs.size<=b:=(qn.mp hb).elim (λz=>by rw[z];exact Oq _) (λz=>by rw[hL.mp z];exact ri _);exact I1.fpOk Z (I1.hok.fresh Z)
  unfold strIterType at Y;split at Y
  ·exact fin _ Y λA ξ=>Draws.strAscii ξ _ z t
  ·exact fin _ Y λA ξ=>Draws.strWide ξ _ z t
end
theorem oJ {K:aS} {a:gn} {xs:gs V} {g:TG} {tb:TS} {D:Ends} {σ:St} {H:Hp} (O:Nat->St->Hp->Prop) (h0:O 0 σ H) (hl:∀i σ H,i<=xs.length->O i σ H->SqL K H a xs)
  (hs:∀i x σ H p H',xs[i]? =ak x->O i σ H->H p=hB->Same H H'->H' p=ak (.tup [.int i,x])->g (.ref p) σ H' fun ν H2=>tb {D with nx:=O (i + 1),ct:=O (i + 1),bk:=D.nx} ν H2) (hd:∀σ H,O xs.length σ H->D.nx σ H):
  ∃W:Nat->Nat->St->Hp->Prop,(∃m,W 0 m σ H)/\∀i m σ H,W i m σ H->
    ((Ite K a).stop i H/\D.nx σ H)∨((Ite K a).go i H/\∃N:St->Hp->Prop,(∀σ' H',N σ' H'->∃Z,Z < m/\W (i + 1) Z σ' H')/\∀x H',(Ite K a).yld i H x H'->g x σ H' fun ν H2=>tb {D with nx:=N,ct:=N,bk:=D.nx} ν H2):=by
 refine⟨λi m σ H=>m=xs.length - i/\i<=xs.length/\O i σ H,⟨xs.length,@D,LI _,h0⟩,?_⟩;rintro i m σ H ⟨rfl,hi,p⟩;have q:=hl i σ H hi p;by_cases Y:i < xs.length
 ·refine .inr ⟨⟨xs,xs[i],q,by simp[Y]⟩,O (i + 1),fun σ' H' ρ=>⟨xs.length - (i + 1),by omega,rfl,Y,ρ⟩,λx H' y=>?_⟩;obtain⟨r,v,f,β,α,y⟩:=y;subst β α;exact hs i v σ H r _ (y xs q) p f (c8 f) aP
 ·have e:i=xs.length:=by omega
  subst e;exact .inl ⟨⟨xs,q,rfl⟩,hd σ H p⟩
section
variable {σ:St} {H:Hp} {te:TE} {R:It->Hp->Prop}
theorem Ae {K:aS} (h:te σ H λx H1=>(∃a,x= .ref a/\(∃xs,SqL K H1 a xs)/\R (Ite K a) H1)∨∃z,x= .str z/\R (Itz z) H1):IE K te σ H R:=h
end
section
variable {σ:St} {H:Hp} {Q:VK} {D:Ends} {te ty tv td:TE} {x y v:V}
theorem gm {l:gn} {xs:gs V} (e:H l=ak (.lst xs)) (hz:xs.length < lx) (h:∀H2,Upd H H2 l (.lst (xs++[y]))->Q .non H2):An (.ref l) [y] H Q:=⟨l,xs,y,rfl,rfl,e,hz,h _ Upd.of⟩
def EM (v:V) (x:V) (D:Ends) (σ:St) (y:V) (H:Hp):Prop:=∃a Z,x= .ref a/\DPut H a y v Z/\D.nx σ Z
theorem Hr (h:tv σ H λv H1=>td σ H1 λx H2=>ty σ H2 (EM v x D σ)):HJ td ty tv D σ H:=h
theorem FD {p:gn} {kvs:gs (Key×V)} {z:Int} (e:H p=ak (.dK kvs)) (hl:kvs.length < lx) (h:∀H2,Upd H H2 p (.dK (putK kvs (L5 z) v))->D.nx σ H2):EM v (.ref p) D σ (.int z) H:=⟨p,_,rfl,DPut.k (k:=L5 z) e hl,h _ Upd.of⟩
def EO (x:V) (Q:VK) (y:V) (H:Hp):Prop:=∃a v,x= .ref a/\DGet H a y (ak v)/\Q v H
theorem Hv (h:td σ H λx H1=>ty σ H1 (EO x Q)):GQ td ty σ H Q:=h
theorem Ag {p:gn} {kvs:gs (Key×V)} {z:Int} (e:H p=ak (.dK kvs)) (l:valV kvs (L5 z)=ak v) (h:Q v H):EO (.ref p) Q (.int z) H:=⟨p,v,rfl,by rw[<-l];exact DGet.k (k:=L5 z) e,h⟩
def EK (C:gn) (m:Kz) (sp:Sp) (E:XK) (tr:TA) (σ:St) (Q:VK) (x:V) (H:Hp):Prop:=∃a dx fs,x= .ref a/\H a=ak (.ins C dx fs)/\fs.lookup m=hB/\tr σ H λvs H2=>sp (x::(vs++[])) H2 Q E
theorem Hh {C:gn} {m:Kz} {sp:Sp} {E:XK} {tr:TA} (h:te σ H (EK C m sp E tr σ Q)):E8 C m sp [] E te tr σ H Q:=h
theorem bJ {C dx p:gn} {m:Kz} {fs:gs (Kz×V)} {sp:Sp} {E:XK} {tr:TA} (e:H p=ak (.ins C dx fs)) (l:fs.lookup m=hB) (h:tr σ H λvs H2=>sp (.ref p::vs) H2 Q E):EK C m sp E tr σ Q (.ref p) H:=⟨p,dx,fs,rfl,e,l,by simp only[LD];exact h⟩
theorem Fx {K:aS} {p:gn} {xs:gs V} (e:SqL K H p xs) (h:∀q H2,H q=hB->Same H H2->H2 q=ak (.lst xs)->Q (.ref q) H2):vZ K [.ref p] H Q:=⟨p,xs,rfl,.inl e,jl h⟩
theorem Fw {K:aS} {p:gn} {xs:gs V} (e:SqT K H p xs) (h:∀q H2,H q=hB->Same H H2->H2 q=ak (.lst xs)->Q (.ref q) H2):vZ K [.ref p] H Q:=⟨p,xs,rfl,.inr e,jl h⟩
theorem G3 {K:aS} {p:gn} {xs:gs V} (e:SqL K H p xs) (h:∀q H2,H q=hB->Same H H2->H2 q=ak (.tup xs)->Q (.ref q) H2):El K [.ref p] H Q:=⟨p,xs,rfl,.inl ⟨e,jl h⟩⟩
end
def Mv (ch fr:K0) (h h':Ke):Prop:=(∀b o,b∉ch->b∉fr->h.get? b=ak o->h'.get? b=ak o)/\∀b o,b∉ch->b∈fr->h.get? b=ak o->∃O,h'.get? b=ak {o with slots:=O}
def BW (h:Ke) (e:gn) (C:ia) (dx:K4) (T:rl (gn×ia)):Prop:=
 ∃O vs,h.get? e=ak O/\O.cls=C/\O.dict=dx/\O.data= .fields vs/\1 < vs.size/\
   match T with
   | none=>vs[1]? =ak .none
   | some (t,Y)=>vs[1]? =ak (.ref t)/\t≠e/\∃ν ts,h.get? t=ak ν/\ν.data= .fields ts/\ts[3]? =ak Y
section
variable {M:Model} {A:Kj} {E:DL} {s:ib}
theorem vm {h:Ke} {a:gn} {o:P8} {vs:G'} {i:Nat} {v:ia} (ho:h.get? a=ak o) (hd:o.data= .fields vs):
  ∃o',(h.update a (M8 (·.setIfInBounds i v))).get? a=ak o'/\o'.cls=o.cls/\o'.dict=o.dict/\o'.data= .fields (vs.setIfInBounds i v):=by
 have Z:=LX hd (·.setIfInBounds i v);refine⟨_,Ku (M8 (·.setIfInBounds i v)) ho (Np Z),O0 _ _,?_,Z⟩;obtain⟨c,d,O,Y⟩:=o;have hd:O= .fields vs:=hd;subst hd;rfl
theorem Dz {base:Ke} {env:Env} {outer:gs Env} {L e:gn} {Z:P8} {vs:G'} {Y:ia} {b:KS} {Q:J9}
  (ζ:A.frames=ak (env::outer)) (hl:s.heap.FunFrames base (env::outer)) (hf:env.frame=ak L) (he:s.heap.get? e=ak Z) (hd:Z.data= .fields vs) (hsz:1 < vs.size)
  (h:∀h',Mv [e] (frs (env::outer)) s.heap h'->BW h' e Z.cls Z.dict (ak (s.heap.objs.size,rawInt L))->Q () {s with heap:=h'}):
  ka M A (do let a <-frameOf env;let pl <-entryPlaceOf L b;let t <-Oi Y a .none (rawInt L) .none pl;setField (.ref e) 1 t) Q E s:=by
 have ne:e∉frs (env::outer):=λhm=>by
  obtain⟨_,o,ho,ε⟩:=hl.mem hm;rw[he] at ho;cases ho;exact ε vs hd
 refine cc (wpAny_frameOf_fun ζ hl hf λg1 γ=>?_);refine cc (wpAny_entryPlaceOf λpl α=>?_);unfold Oi newFields;refine cc (KR ?_ (α.sizeOk5 _ _ _ _ _));have ν:g1.get? e=ak Z:=(γ.2.1 e ne).trans he;have sz:g1.objs.size=s.heap.objs.size:=γ.1;generalize β:({cls:= .type "traceback",dict:=hB,data:= .fields ([Y,.ref L,.none,rawInt L,.none]++(if pl.isEmpty then gB 6 KQ else pl)).toArray}:P8)=ob;have ι:(g1.push ob).get? e=ak Z:=hE ob ν;refine Ml ι hd hsz ?_;have lt:e < g1.objs.size:=hJ ν;obtain⟨o',ρ,δ,π,ο⟩:=vm (i:=1) (v:= .ref g1.objs.size) ι hd;have oth:∀c,c≠e->((g1.push ob).update e (M8 (·.setIfInBounds 1 (y7 g1.objs.size)))).get? c=(g1.push ob).get? c:=λc η=>KH _ _ (Ka η);have O:∀c o,c≠e->g1.get? c=ak o->((g1.push ob).update e (M8 (·.setIfInBounds 1 (y7 g1.objs.size)))).get? c=ak o:=λc o η q=>(oth c η).trans (hE ob q);refine h _ ⟨λc o n m q=>O c o (λz=>n (by rw[z];exact hL.mpr rfl)) ((γ.2.1 c m).trans q),λc o n m q=>?_⟩ ⟨o',_,ρ,δ,π,ο,by simpa using hsz,?_⟩
 ·obtain⟨ξ,τ⟩:=γ.2.2 c o q;exact⟨ξ,O c _ (λz=>n (by rw[z];exact hL.mpr rfl)) τ⟩
 ·have θ:g1.objs.size≠e:=KJ lt;refine⟨by rw[<-sz];simp[hsz],by rw[<-sz];exact θ,ob,_,?_,by rw[<-β],?_⟩
  ·rw[<-sz,oth _ θ];exact lT g1 (by rw[<-β];rfl)
  ·first | (simp;done) | (rcases α with rfl | ⟨_,_,_,_,_,_,_,rfl⟩<;>simp)
theorem Bg {e t:gn} {C:ia} {dx:K4} {fl:ia} {fr:K4} {Q:J9} (x:BW s.heap e C dx (ak (t,fl)))
  (h:∀h',(∀b o,b≠t->s.heap.get? b=ak o->h'.get? b=ak o)->BW h' e C dx (ak (t,fr.elim .none λf=>rawInt f))->Q () {s with heap:=h'}):ka M A (setFlight (.ref e) fr) Q E s:=by
 obtain⟨ε,vs,he,Z,Y,hd,hsz,h1,O,ν,ts,hT,ξ,α⟩:=x;unfold setFlight;refine cc (Kg he hd h1 ?_);rw[qb (show(y7 t != KQ)=true from by simp)];refine Ml hT ξ (MH.mp α).1 ?_;obtain⟨o',γ,δ,ζ,β⟩:=vm (i:=3) (v:=fr.elim .none λf=>rawInt f) hT ξ;have oth:∀c,c≠t->(s.heap.update t (M8 (·.setIfInBounds 3 (fr.elim KQ λf=>rawInt f)))).get? c=s.heap.get? c:=λc Z=>KH _ _ (Ka Z);refine h _ (λb o hb q=>(oth b hb).trans q) ⟨ε,vs,(oth e (Ka O)).trans he,Z,Y,hd,hsz,h1,O,o',_,γ,β,?_⟩;have:=(MH.mp α).1;simp[this]
end
section
variable {X:Cx} {pins:Dc} {σ:St} {H:Hp} {s:ib}
theorem Inv.mv {h':Ke} {ch:K0} (I:Inv X pins σ H s) (m:Mv ch (frs X.stack) s.heap h') (fp:∀b∈ch,FpOk X pins H b):Inv X pins σ H {s with heap:=h'}:=by
 have δ:∀b u,H b=ak u->b∉ch:=λb u e z=>by rw[(fp b z).1] at e;cases e
 have Y:∀b u,H b=ak u->b∉frs X.stack:=λb u e z=>by rw[I.stkFree b z] at e;cases e
 have any:∀b o,b∉ch->s.heap.get? b=ak o->∃Z,h'.get? b=ak {o with slots:=Z}:=λb o n e=>by
  by_cases z:b∈frs X.stack
  ·exact m.2 b o n z e
  ·exact⟨o.slots,m.1 b o n z e⟩
 refine I.step (g':=s.gens) (d':=s.drawn) (t':=s.toks) (ch:=ch) (λb hb=>?_) (λb ob χ hb O e _=>m.1 b ob O (λz=>(qn.mp (I.stkSub b z)).elim χ hb) e) (λb ob _ _ O e _=>any b ob O e) (λb ob _ e n=>n) (λb ob O e=>let ⟨Z,q⟩:=any b ob O e;⟨_,q⟩)
  (λb xs e=>e) (λb ob u e=>e) (λb ps e=>⟨#[],by rw[e];simp⟩) (fun ζ hm=>?_) (λb u e=>?_) I.bare
 ·obtain⟨π,ε,η,γ,β,α⟩:=fp b hb;exact⟨γ,ε,β,α⟩
 ·obtain⟨ob,es,ep,ho,r⟩:=hm;obtain⟨Z,q⟩:=any _ ob (λz=>(fp _ z).2.1 rfl) ho;exact⟨_,es,ep,q,r⟩
 ·refine(I.hok b u e).stay (λc v O q=>m.1 c v ?_ ?_ q) (λc q=>q) λc xs q=>q
  ·rcases O with z | z
   ·rw[z];exact δ b u e
   ·exact δ c _ z
  ·rcases O with z | z
   ·rw[z];exact Y b u e
   ·exact Y c _ z
theorem fM.there {P:qc} {w:y3} {h:Ke} {a:gn} {o:HO} (x:fM P w H h a o):∃o',h.get? a=ak o':=by
 cases o with
 | lst xs=>obtain⟨_,_,_,_,e⟩:=x;exact⟨_,e⟩
 | tup xs=>obtain⟨_,_,_,_,e,_⟩:=x;exact⟨_,e⟩
 | dK kvs=>obtain⟨_,_,_,_,o,_,_,e,_⟩:=x;exact⟨_,e⟩
 | dT kvs=>obtain⟨_,_,_,_,o,_,_,e,_⟩:=x;exact⟨_,e⟩
 | set S n=>obtain⟨o,_,_,_,e,_⟩:=x;exact⟨_,e⟩
 | ins C dx fs=>obtain⟨_,_,_,e,_⟩:=x;exact⟨_,e⟩
 | own y=>obtain⟨_,e⟩:=x;exact⟨_,e⟩
 | xd fs=>obtain⟨_,⟨_,_,_,e,_⟩,_⟩:=x;exact⟨_,e⟩
 | rng lo hi=>obtain⟨_,_,_,e⟩:=x;exact⟨_,e⟩
 | frz ob u=>obtain⟨e,_⟩:=x;exact⟨_,e⟩
 | tbl ps=>exact⟨_,(show h.get? a=ak _ from x)⟩
 | met f y=>exact⟨_,(show h.get? a=ak _ from x)⟩
 | ext φ=>obtain⟨_,⟨_,e⟩,_⟩:=x;exact⟨_,e⟩
theorem HOk.none_ {P:qc} {w:y3} {h:Ke} {a:gn} (x:HOk P w H h) (e:h.get? a=hB):H a=none:=by
 cases q:H a with
 | none=>rfl
 | some u=>obtain⟨o,z⟩:=(x a u q).there;rw[e] at z;cases z
def FpN (X:Cx) (pins:Dc) (H:Hp) (b:gn):Prop:=
 H b=hB/\b≠X.env.locals/\b∉X.fs/\(b∈X.ex∨X.s₀.heap.get? b=hB)/\(∀x c,X.env.cells.lookup x=ak c->c≠b)/\∀p∈X.pn++pins,p.1≠b
theorem FpOk.n {b:gn} (f:FpOk X pins H b):FpN X pins H b:=⟨f.1,f.2.1,f.2.2.1,f.2.2.2.1.imp id NB,f.2.2.2.2⟩
theorem Inv.fpN {H':Hp} {b:gn} (I:Inv X pins σ H s) (hb:s.heap.get? b=hB) (hn:H' b=hB):FpN X pins H' b:=by
 refine⟨hn,λz=>?_,λz=>?_,?_,λx c e z=>?_,λp Y z=>?_⟩
 ·obtain⟨m,⟨o,es,ep,ho,r⟩,_⟩:=I.loc;rw[<-z,hb] at ho;cases ho
 ·obtain⟨_,o,ho,_⟩:=I.ok.funs.mem z;obtain⟨o',O⟩:=I.base.there b o ho λy=>I.ok.exfs b y z;rw[hb] at O;cases O
 ·by_cases z:b∈X.ex
  ·exact .inl z
  ·cases q:X.s₀.heap.get? b with
   | none=>exact .inr rfl
   | some o=>obtain⟨o',O⟩:=I.base.there b o q z;rw[hb] at O;cases O
 ·obtain⟨v,o,q,_⟩:=I.cell x c e;rw[z,hb] at q;cases q
 ·have:=(I.pin p Y).1;rw[z,hb] at this;cases this
theorem Inv.mvN {h':Ke} {ch:K0} (I:Inv X pins σ H s) (m:Mv ch (frs X.stack) s.heap h') (fp:∀b∈ch,FpN X pins H b):Inv X pins σ H {s with heap:=h'}:=by
 have out:∀b o,X.s₀.heap.get? b=ak o->b∉X.ex->b∉ch++X.ex:=λb o e n z=>by
  rcases oT.mp z with z | z
  ·rcases(fp b z).2.2.2.1 with y | y
   ·exact n y
   ·rw[e] at y;cases y
  ·exact n z
 have sub:∀b,b∉ch++X.ex->b∉X.ex:=λb n z=>n (nv _ z)
 have ok:Cx.Ok {X with ex:=ch++X.ex}:=⟨I.ok.mod,I.ok.kind,I.ok.glob,I.ok.blt,I.ok.above,I.ok.inj,I.ok.has,I.ok.cab,I.ok.hd,I.ok.frames,I.ok.stk,
  λb hb=>(oT.mp hb).elim (λz=>⟨(fp b z).2.1,(fp b z).2.2.2.2.1⟩) (I.ok.exf b),I.ok.bs,I.ok.bsz,λb o e=>out b o (I.ok.bs b o e).1 (I.ok.noex b o e),
  λb hb=>(oT.mp hb).elim (λz=>(fp b z).2.2.1) (I.ok.exfs b),I.ok.funs,I.ok.frf⟩
 have U:=I.base
 have J:Inv {X with ex:=ch++X.ex} pins σ H s:=⟨ok,I.os,I.bare,⟨λb o e n f z=>U.keep b o e n f (sub b z),λb o e n f z=>U.slot b o e n f (sub b z),λb o e n z=>U.free b o e n (sub b z),λb o e z=>U.there b o e (sub b z),U.tups,U.frzs,U.tbls⟩,
  I.loc,I.cell,I.free,I.freeC,I.pin,I.hok,I.len⟩
 have J':=J.mv (h':=h') (ch:=ch) m λb hb=>⟨(fp b hb).1,(fp b hb).2.1,(fp b hb).2.2.1,.inl (qB _ hb),(fp b hb).2.2.2.2⟩;have V:=J'.base
 exact⟨I.ok,J'.os,J'.bare,⟨λb o e n f z=>V.keep b o e n f (out b o e z),λb o e n f z=>V.slot b o e n f (out b o e z),λb o e n z=>V.free b o e n (out b o e z),λb o e z=>V.there b o e (out b o e z),V.tups,V.frzs,V.tbls⟩,
  J'.loc,J'.cell,J'.free,J'.freeC,J'.pin,J'.hok,J'.len⟩
structure Fly (X:Cx) (pins:Dc) (H:Hp) (e:gn) (C:ia) (dx:K4) (T:rl (gn×ia)) (h:Ke):Prop where
 at_:BW h e C dx T
 fe:FpN X pins H e
 ft:∀t fl,T=ak (t,fl)->FpN X pins H t
def Own (X:Cx):Prop:=X.stack=X.env::X.outer/\X.env.frame=ak X.env.locals
theorem AH {M:Model} {E:DL} {e:gn} {C:ia} {dx:K4} {T:rl (gn×ia)} {Q:J9} (I:Inv X pins σ H s) (ow:Own X) (f:Fly X pins H e C dx T s.heap)
  (h:∀h' t,Inv X pins σ H {s with heap:=h'}->Fly X pins H e C dx (ak (t,rawInt X.env.locals)) h'->Q () {s with heap:=h'}):ka M X.A (noteFrame (.ref e) X.env) Q E s:=by
 obtain⟨ho,hf⟩:=ow;have π:X.A.frames=ak (X.env::X.outer):=by rw[I.ok.frames,ho]
 have a0:s.heap.FunFrames X.base (X.env::X.outer):=by rw[<-ho];exact I.stack
 obtain⟨⟨θ,vs,he,ε,Z,hd,hsz,hT⟩,fe,ft⟩:=f
 have fin:∀(Y:ib) (O:P8) (ζ:G') (γ:ia) (b1:KS),Inv X pins σ H Y->Y.heap.objs.size=s.heap.objs.size->Y={s with heap:=Y.heap}->Y.heap.get? e=ak O->O.cls=C->O.dict=dx->O.data= .fields ζ->1 < ζ.size->
   ka M X.A (do let a <-frameOf X.env;let pl <-entryPlaceOf X.env.locals b1;let t <-Oi γ a .none (rawInt X.env.locals) .none pl;setField (.ref e) 1 t) Q E Y:=by
  intro Y O ζ γ b1 I1 hz ο ψ δ χ φ υ;have β:Y.heap.FunFrames X.base (X.env::X.outer):=by rw[<-ho];exact I1.stack
  refine Dz π β hf ψ φ υ λh' m x=>?_;have ω:Inv X pins σ H {Y with heap:=h'}:=I1.mvN (ch:=[e]) (by rw[ho];exact m) λb hb=>by rw[hL.mp hb];exact fe
  have e2:({Y with heap:=h'}:ib)={s with heap:=h'}:=by rw[ο]
  rw[e2] at ω ⊢;rw[δ,χ] at x;exact h h' _ ω ⟨x,fe,λt τ z=>by cases z;exact(I1.fpOk (ri _) (I1.hok.fresh (ri _))).n⟩
 unfold noteFrame;simp only[hf];cases T with
 | none=>
   have h1:vs[1]? =ak .none:=hT;refine cc (Kg he hd h1 ?_);rw[ov @C];exact fin s θ vs _ _ I rfl rfl he ε Z hd hsz
 | some p=>
   obtain⟨t,τ⟩:=p;obtain⟨h1,α,ν,ts,η,ξ,ρ⟩:=hT;refine cc (Kg he hd h1 ?_);rw[qb (show(y7 t != KQ)=true from by simp)];refine cc (Kg η ξ ρ ?_);by_cases hz:(τ == rawInt X.env.locals)=true
   ·rw[qb hz];have ι:=eq_of_beq hz;subst ι;exact hF (h s.heap t I ⟨⟨θ,vs,he,ε,Z,hd,hsz,h1,α,ν,ts,η,ξ,ρ⟩,fe,ft⟩)
   ·rw[ov hz];refine cc (Ml η ξ (MH.mp ρ).1 ?_);have oth:∀c,c≠t->(s.heap.update t (M8 (·.setIfInBounds 3 KQ))).get? c=s.heap.get? c:=λc ε=>KH _ _ (Ka ε)
    have m1:Mv [t] (frs X.stack) s.heap (s.heap.update t (M8 (·.setIfInBounds 3 KQ))):=
     ⟨λb o n _ q=>(oth b (λz=>n (by rw[z];exact hL.mpr rfl))).trans q,λb o n _ q=>⟨o.slots,(oth b (λz=>n (by rw[z];exact hL.mpr rfl))).trans q⟩⟩
    have I1:=I.mvN m1 λb hb=>by rw[hL.mp hb];exact ft t τ rfl
    exact fin _ θ vs _ _ I1 (Heap.size_after_update ..) rfl ((oth e (Ka α)).trans he) ε Z hd hsz
theorem EB {M:Model} {A:Kj} {E:DL} {e t:gn} {C:ia} {dx:K4} {fl:ia} {fr:K4} {Q:J9} (I:Inv X pins σ H s) (f:Fly X pins H e C dx (ak (t,fl)) s.heap)
  (h:∀h',Inv X pins σ H {s with heap:=h'}->Fly X pins H e C dx (ak (t,fr.elim .none λf=>rawInt f)) h'->Q () {s with heap:=h'}):ka M A (setFlight (.ref e) fr) Q E s:=by
 refine Bg f.at_ λh' k x=>h h' (I.mvN (ch:=[t]) ⟨λb o n _ q=>k b o (λz=>n (by rw[z];exact hL.mpr rfl)) q,λb o n _ q=>⟨o.slots,k b o (λz=>n (by rw[z];exact hL.mpr rfl)) q⟩⟩ λb hb=>by rw[hL.mp hb];exact f.ft t fl rfl) ⟨x,f.fe,λt' π z=>by cases z;exact f.ft t fl rfl⟩
end
noncomputable abbrev XW:=St->XK
def XE (X:Cx) (W:XW) (e:ia) (s:ib):Prop:=∃pins x C dx T σ H,e= .ref x/\Inv X pins σ H s/\Fly X pins H x C dx T s.heap/\W σ C dx H
def Thr (X:Cx) (W:XW):Prop:=∀e s,XE X W e s->X.xe e s
noncomputable abbrev Cx.thr (X:Cx) (W:XW):Cx:=X.wish (XE X W)
noncomputable abbrev W0:XW:=λ_ _ _ _=>False
section
variable {X:Cx} {W:XW} {pins:Dc} {σ:St} {H:Hp} {s:ib}
theorem Fly.wish {E:DL} {e:gn} {C:ia} {dx:K4} {T:rl (gn×ia)} {h:Ke} (f:Fly (X.wish E) pins H e C dx T h):Fly X pins H e C dx T h:=⟨f.at_,f.fe,f.ft⟩
theorem gR:Thr (X.thr W) W:=λe s ⟨pins,x,C,dx,T,σ,H,he,I,f,w⟩=>⟨pins,x,C,dx,T,σ,H,he,I.unwish,f.wish,w⟩
theorem thr0:Thr X W0:=λe s ⟨pins,x,C,dx,T,σ,H,he,I,f,w⟩=>w.elim
theorem yz (ow:Own X):PassesOwn (oD X.prog X.w) X.A X.env (XE X W):=by
 intro e s' ⟨pins,x,C,dx,T,σ,H,he,I,f,w⟩;subst he;unfold notedBy;refine AH I ow f λh' t β δ=>?_;unfold cameBackBy;obtain⟨⟨θ,vs,α,η,ζ,Z,ε,Y,γ⟩,fe,ft⟩:=id δ;refine cc (Kg α Z Y ?_);rw[ov @D];refine EB β δ λh2 ω O=>?_;rw[ow.2] at O;exact⟨pins,x,C,dx,_,σ,H,rfl,ω,O,w⟩
theorem pe (ow:Own X):PassesOwn (oD X.prog X.w) X.A X.env (X.thr W).xe:=yz ow
theorem PSs.thr {st:gs N9} {t:TS} (h:PSs (X.thr W) st t) (k:Thr X W):PSs X st t:=λpins s σ H D I hw=>
 Mt (h pins s σ H D (I.wish _) hw) (λ_ _ q=>q.unwish) k
end
noncomputable def CX1 (P:qc) (w:y3):CXT:=λouter H s E e s'=>∃x C dx t H',e= .ref x/\s'.os=s.os/\AllBare s'.gens/\Un (frs outer) [] H H' s.heap s'.heap/\HOk P w H' s'.heap/\
 BW s'.heap x C dx (ak (t,.none))/\s.heap.get? x=hB/\s.heap.get? t=hB/\H' x=hB/\H' t=hB/\E C dx H'
section
variable {P:qc} {w:y3} {K:aS} {mg:F'} {base:Ke}
theorem xy {N:C'} {O:Kz} {scope:Mj} {f:gn} {ψ:ia} {A:Kj} {outer:gs Env} {s:ib} {H:Hp} {E:XK}:
  Thr (cxOf (CX1 P w) P w K mg base N O scope f ψ A outer s H E) λ_=>E:=by
 intro e s' ⟨pins,x,C,dx,T,σ,H',he,I,δ,ρ⟩;subst he;have own:Own (cxOf (CX1 P w) P w K mg base N O scope f ψ A outer s H E):=⟨rfl,rfl⟩;show ka _ _ (leaving _ _) _ _ _;unfold leaving;refine cc (AH I own δ λh1 t α Z=>?_);refine EB (fr:=hB) α Z λh2 I2 Y=>?_;have fx:=Y.fe;have ft:=Y.ft t _ rfl;have no:∀b:gn,(b∈([]:K0)∨s.heap.get? b=hB)->s.heap.get? b=none:=λb z=>z.elim (λq=>kv q @D) id;exact⟨x,C,dx,t,H',rfl,I2.os,I2.bare,I2.base,I2.hok,Y.at_,no x fx.2.2.2.1,no t ft.2.2.2.1,fx.1,ft.1,ρ⟩
theorem Fun.okX {x O:Kz} {st:N9} {f:gn} {fd:mu} {N ps:C'} {k:Nat} {sp:Sp} (F:Fun K x O st f fd) (S:az N ps (ah st)) (len:∀vs H Q E,sp vs H Q E->vs.length=ps.length)
  (Z:∀(Y:ia) (A:Kj) (outer:gs Env) (s:ib) (H:Hp) (vs:gs V) (Q:VK) (E:XK),Room k (A.deeper (envOfC O (ah st) s.heap.objs.size f Y))->sp vs H Q E->
   ∃t,PSs ((cxOf (CX1 P w) P w K mg base N O (ah st) f Y A outer s H E).thr λ_=>E) (dy st) t/\t {nx:=λ_ H'=>Q .non H',rt:=Q} (start N vs) H):FnOk P w K mg base (CX1 P w) (k + 1) f fd ps sp:=by
 obtain⟨δ,od,kV,ε,γ,an,Y,ct,ι,rfl,lk,η⟩:=F.ex;refine Gm lk η S len λA outer s H vs Q E β α=>?_;obtain⟨t,h,q⟩:=Z Y A outer s H vs Q E β α;exact⟨t,h.thr xy,q⟩
end
section
variable {X:Cx} {W:XW} {pins:Dc} {σ:St} {H:Hp} {s s':ib}
theorem Inv.afterX {e:ia} (I:Inv X pins σ H s) (hx:Thr X W) (h:CX1 X.prog X.w X.stack H s (W σ) e s'):X.xe e s':=by
 obtain⟨x,C,dx,t,H',rfl,os,bare,un,hok,ea,O,τ,nx,Y,w⟩:=h;refine hx _ _ ⟨pins,x,C,dx,_,σ,H',rfl,I.call' (ch:=[]) os un hok bare (λb z=>kv z @D),⟨ea,I.fpN O nx,λt' Z z=>?_⟩,w⟩;cases z;exact I.fpN τ Y
variable {k:Nat} {f C:gn} {fd:mu} {ps:C'} {sp:Sp} {dvs:gs V} {ds:E'} {x m:Kz} {p pos apos:Pos} {e o:Ko} {es:gs Ko} {ta:TE} {t:TA}
theorem FG {Q:VK} {us:E'} {vs:gs V} (F:FnOk X.prog X.w X.K X.mg X.base (CX1 X.prog X.w) k f fd ps sp) (Z:Room k X.A) (hb:mF X.K fd ps ds) (hd:Vals dvs ds) (hx:Thr X W)
  (I:Inv X pins σ H s) (r:Vals vs us) (h:sp (vs++dvs) H Q (W σ)):ka (oD X.prog X.w) X.A (call (.ref f) us) (EP X pins σ Q) X.xe s:=by
 have Y:Vals (vs++dvs) (us++ds):=r.append hd;have hl:(us++ds).length=ps.length:=by rw[<-Y.length];exact F.len _ _ _ _ h
 refine Qw (Nq (F.run X.A X.stack s H ⟨us,[]⟩ (us++ds) (vs++dvs) Q (W σ) Z I.env0 (hb s us I.kIn hl) Y h) λr s' O=>?_);cases r with
 | error e=>exact I.afterX hx O
 | ok α=>
   cases α with
   | ret u=>exact I.after O
   | next=>exact KD O
   | brk=>exact KD O
   | cont=>exact KD O
noncomputable def Eg (C:gn) (m:Kz) (sp:Sp) (dvs:gs V) (W:XW) (ta:TE) (t:TA):TE:=fun σ H Q=>ta σ H λx H1=>∃a dx fs,x= .ref a/\H1 a=ak (.ins C dx fs)/\fs.lookup m=hB/\
 t σ H1 λvs H2=>sp (x::(vs++dvs)) H2 Q (W σ)
theorem dX {pl:Sem KS} (he:PE X o ta) (c:Cls X.K C) (hm:Meth X.K C m f) (F:FnOk X.prog X.w X.K X.mg X.base (CX1 X.prog X.w) k f fd ps sp) (γ:Room k X.A) (hb:mF X.K fd ps ds) (hd:Vals dvs ds) (hx:Thr X W) (ha:PA X (e::es) t)
  (η:px (e::es) X.env=(false,eval e X.env)::px es X.env:=by rfl) (O:(backTo pos (px es X.env)).any (·.1)=false:=by rfl)
  (ht:eval (.Call (.Attribute o m apos) (e::es) [] pos) X.env=(do
   let Y <-eval o X.env
   standAt apos.atName
   let (f,first) <-holding [Y] (getMethod Y m pl)
   callWith pos f first (backTo pos (px (e::es) X.env)) (backToKw pos (keywordEach [] X.env))):=by rfl):
  PE X (.Call (.Attribute o m apos) (e::es) [] pos) (Eg C m sp dvs W ta t):=by
 intro pins s σ H Q I h;refine O7 (pl:=pl) (thn (he pins s σ H _ I h) λu α ⟨x,H1,Z,β,a,dx,fs,ex,ea,l,q⟩=>?_) ht;subst ex;obtain rfl:u=y7 a:=β;refine ny Z ea c hm l ?_;refine NG (first:=[.ref a]) (h₀:=X.base) I.ok.mod.kin hm.kp (thn (ha pos pins α σ H1 _ Z q) λus ε ⟨vs,H2,I2,r,δ⟩=>⟨I2.kIn,?_⟩) η O;exact FG (us:= .ref a::us) (vs:= .ref a::vs) F γ hb hd hx I2 (.cons rfl r) δ
end
structure XCls (h:Ke) (C:gn) (bmB:E') (newId:Lh):Prop where
 obj:∃bm N nm q bs hdct sn sub ab col dd k0 k1 k2 k3 k5 mN,h.get? C=ak (excClassObj nm q C N bs bm hdct sn sub ab col dd k0 k1 k2 k3 k5 newId)/\h.Ns N mN/\mN "__init__"=hB/\OwnTail h bmB bm
theorem EY {K:aS} {h:Ke} {C:gn} {bmB:E'} {newId:Lh} (X:K.In h) (q:OA K C bmB newId=true):XCls h C bmB newId:=by
 refine⟨?_⟩;unfold OA at q;split at q
 next dd ψ β ho=>
  split at q
  next ε bm k0 k1 k2 k3 n k5 hm hs=>
   simp only[KL,Mu,Bool.not_eq_true'] at q;obtain⟨⟨⟨⟨⟨δ,γ⟩,O⟩,ht⟩,hok⟩,α⟩:=q;subst δ γ;cases ψ with
   | mk nm bs Y ns ω hd sn sub ab col del=>
   have hm:Y=_:=hm;have O:del=false:=O;subst hm O;have Z:β=#[k0,k1,k2,k3,ak (.builtin n),k5]:=by rw[<-hs]
   subst Z;exact⟨bm,ns,nm,ω,bs,hd,sn,sub,ab,col,dd,k0,k1,k2,k3,k5,_,X _ _ ho,.of_isNs (PySem.W.isNs_of_in X hok),PySem.W.nsMap_none_of_in X hok α,PySem.W.tail_of_in X ht⟩
  next=>cases q
 next=>cases q
section
variable {X:Cx} {W:XW} {C:gn} {x:Kz} {np cpos pos:Pos} {e:Ko} {es:gs Ko} {t:TA} {B newId initId:Lh} {bmB:E'}
noncomputable def Ef (C:gn) (W:XW) (t:TA):TS:=λ_ σ H=>t σ H λvs H1=>vs.length<=lx/\W σ (.ref C) hB H1
theorem F7 {pins:Dc} {σ:St} {H:Hp} {s:ib} {h':Ke} {a:gn} {vs:E'} (I:Inv X pins σ H s) (m:Heap.MadeExcOf s.heap h' a (.ref C) vs):
  Inv X pins σ H {s with heap:=h'}/\Fly X pins H a (.ref C) hB hB h':=by
 obtain⟨tt,O,δ,Y⟩:=m.there;exact⟨I.mvN (ch:=[]) ⟨λb o _ _ e=>m.keeps b o e,λb o _ _ e=>⟨o.slots,m.keeps b o e⟩⟩ λb z=>kv z @D,⟨⟨_,_,O,rfl,rfl,rfl,@D,@D⟩,I.fpN m.new (I.hok.none_ m.new),λt Z z=>by cases z⟩⟩
theorem jq (FB:ExcBaseFacts B newId initId bmB) (q:OA X.K C bmB newId=true) (hx:Thr X W) (hc:X.calm=true) (α:Gl X x) (hm:X.mg x=ak (.ref C)) (ha:PA X (e::es) t)
  (ι:(x == ("__debug__":Kz))=false:=by decide) (he:px (e::es) X.env=(false,eval e X.env)::px es X.env:=by rfl) (Y:(backTo cpos (px es X.env)).any (·.1)=false:=by rfl):
  PS X (.Raise (ak (.Call (.Name x np) (e::es) [] cpos)) hB pos) (Ef C W t):=by
 intro pins s σ H D I h;obtain⟨tl,N,nm,ω,bs,hdct,sn,sub,ab,col,dd,k0,k1,k2,k3,k5,mN,υ,β,Z,T⟩:=(EY I.ok.mod.kin q).obj
 refine wpAny_Raise_call_subT (C:=C) (nm:=nm) (q:=ω) (N:=N) (bs:=bs) (bm:=tl) (hdct:=hdct) (sn:=sn) (sub:=sub) (ab:=ab) (col:=col) (dd:=dd) (k0:=k0) (k1:=k1) (k2:=k2) (k3:=k3) (k5:=k5)
  FB (mN:=mN) (T.hasType FB.hasBase) (I.ok.hd hc) (by rw[he];show(false||(backTo cpos (px es X.env)).any (·.1))=false;rw[Y];rfl) Z (tL I α hm ⟨rfl,?_⟩ ι)
 have O:=ha cpos pins s σ H _ I h;rw[he] at O ⊢;refine QH (Mt O (λus ε ⟨vs,H1,I1,r,z,w⟩=>⟨rfl,?_,I1.bk _ _ υ,β.keeps I1.bk,T.keeps I1.bk,λh' a m=>?_⟩) λ_ _ y=>y)
 ·show us.length<=_;rw[<-r.length];exact z
 ·obtain⟨δ,γ⟩:=F7 I1 m;exact hx _ _ ⟨pins,a,.ref C,hB,hB,σ,H1,rfl,δ,γ,w⟩
end
structure GD (K:aS) (G:gn):Prop where
 ty:Pw K (.ref G)=ak (.type "type")
 cls:O6 K G=true
 base:Lw K G (.type "BaseException")=ak true
section
variable {X:Cx} {pins:Dc} {σ:St} {H:Hp} {s:ib}
theorem Inv.track {x:gn} {o:HO} (I:Inv X pins σ H s) (f:FpN X pins H x) (new:fM X.prog X.w (upd H x o) s.heap x o):Inv X pins σ (upd H x o) s:=by
 obtain⟨π,δ,ε,γ,β,α⟩:=f;have ne:∀b u,H b=ak u->b≠x:=λb u e z=>by rw[z,π] at e;cases e
 have O:∀b u,H b=ak u->upd H x o b=ak u:=λb u e=>by rw[aJ (ne b u e)];exact e
 have U:=I.base;refine⟨I.ok,I.os,I.bare,⟨U.keep,U.slot,λb ob e n Y=>?_,U.there,λb xs e=>O b _ (U.tups b xs e),λb ob u e=>O b _ (U.frzs b ob u e),λb ps e=>?_⟩,I.loc,I.cell,?_,λy c e=>?_,λp Z=>?_,λb ob e=>?_,I.len⟩
 ·rw[aJ (λz=>?_)]
  ·exact U.free b ob e n Y
  ·subst z;rcases γ with y | y
   ·exact Y y
   ·rw[e] at y;cases y
 ·obtain⟨m,q⟩:=U.tbls b ps e;exact⟨m,O b _ q⟩
 ·rw[aJ (Ka δ)];exact I.free
 ·rw[aJ (β y c e)];exact I.freeC y c e
 ·obtain⟨e,n,r⟩:=I.pin p Z;exact⟨e,by rw[aJ (α p Z)];exact n,r⟩
 ·by_cases z:b=x
  ·subst z;rw[aP] at e;cases e;exact new
  ·rw[aJ z] at e;exact(I.hok b ob e).stay (λ_ _ _ q=>q) (λc q=>O c _ q) λc xs q=>O c _ q
end
noncomputable def ExcO (x:gn) (C:ia) (dx:K4):HO:= .ext λh=>∃O vs,h.get? x=ak O/\O.cls=C/\O.dict=dx/\O.data= .fields vs
noncomputable abbrev Cx.pin (X:Cx) (pins:Dc):Cx:={X with pn:=X.pn++pins}
noncomputable abbrev Cx.mark (X:Cx) (pins:Dc) (e:ia):Cx:={X with A:=X.A.mark (ak e),calm:=false,pn:=X.pn++pins,xe:=λ_ _=>False}
noncomputable def Ends.less (D:Ends) (i:Nat):Ends:={nx:=fun σ H=>D.nx (σ.set i hB) H,rt:=D.rt,bk:=fun σ H=>D.bk (σ.set i hB) H,ct:=fun σ H=>D.ct (σ.set i hB) H}
noncomputable def WTry (K:aS) (G:gn) (i:Nat) (φ:XW) (ts:TS) (D:Ends):XW:=fun σ C dx H=>∃c,C= .ref c/\((Lw K c (.ref G)=ak true/\∀x,H x=hB->ts (D.less i) (σ.set i (ak (.ref x))) (upd H x (ExcO x C dx)))∨
 (Lw K c (.ref G)=ak false/\φ σ C dx H))
structure XIsi (K:aS) (D:gn):Prop where
 cls:O6 K D=true
 ga:Kh K (.ref D) "__getattribute__"=ak (ak (.builtin "BaseException.__getattribute__"))
 gr:Kh K (.ref D) "__getattr__"=ak hB
 ha:Kh K (.ref D) "__class__"=ak (ak (.builtin "object.__class__"))
 hn:Mp K (.builtin "object.__class__") "__get__"=ak (ak (.builtin "getset_descriptor.__get__"))
 tk:Pj K (.builtin "object.__class__")=ak true
 hm:Lw K D (.type "object")=ak true
 base:Lw K D (.type "BaseException")=ak true
noncomputable def dV:V->ia
 | .ref a=> .ref a
 | .ty n=> .type n
 | _=> .none
section
variable {σ:St} {H:Hp} {Q:VK} {D:Ends} {W:XW} {t:TA}
theorem Fu {C:gn} (h:t σ H λvs H1=>vs.length<=lx/\W σ (.ref C) hB H1):Ef C W t D σ H:=h
end
theorem tu {X:Cx} {K:aS} {es:gs Ko} {k:Nat} {t:TGs} {n:Nat} {pos:Pos} (h:X.K=K) (hc:X.calm=true) (ht:PGs X es t)
  (hn:(assignEach es X.env).length=n:=by rfl) (η:(assignEach es X.env).findIdx? (·.1)=none:=by rfl):PG X (.Tuple es k pos) (gTup K n t):=by subst h;exact nO hc ht hn η
theorem FK {k:Key} {v:ia} (h:vd k v=true):RelV (kV k) v:=by
 rcases b6 h with ⟨i,t,rfl,rfl⟩ | ⟨x,t,rfl,rfl⟩
 ·exact⟨t,rfl⟩
 ·exact⟨t,rfl⟩
theorem pf {α β:Type} {F:α->β->Prop}:∀{l:gs α} {m:gs β},l.length=m.length->(∀(i:Nat) (a:α) (b:β),l[i]? =ak a->m[i]? =ak b->F a b)->Paired F l m
 | [],[],_,_=> .nil
 | a::l,b::m,hl,h=> .cons (h 0 a b rfl rfl) (pf (by simpa using hl) λi x y Y O=>h (i + 1) x y (by simpa using Y) (by simpa using O))
 | [],_::_,hl,_=>by simp at hl
 | _::_,[],hl,_=>by simp at hl
section
variable {σ:St} {H:Hp} {Q:VK} {D:Ends} {te ty tv td:TE} {x y v:V}
def Jc (y:V) (Q:VK) (x:V) (H:Hp):Prop:=∃a o,x= .ref a/\DGet H a y o/\Q (.bl o.isSome) H
theorem JJ (h:ty σ H λy H1=>td σ H1 (Jc y Q)):tDIn ty td σ H Q:=h
theorem Hu {p:gn} {kvs:gs (Key×V)} {z:Int} (e:H p=ak (.dK kvs)) (h:Q (.bl (valV kvs (L5 z)).isSome) H):Jc (.int z) Q (.ref p) H:=⟨p,_,rfl,DGet.k (k:=L5 z) e,h⟩
def EN (y:V) (Q:VK) (x:V) (H:Hp):Prop:=∃a o,x= .ref a/\DGet H a y o/\Q (.bl (!o.isSome)) H
theorem Hs (h:ty σ H λy H1=>td σ H1 (EN y Q)):zI ty td σ H Q:=h
theorem FE {p:gn} {kvs:gs (Key×V)} {z:Int} (e:H p=ak (.dK kvs)) (h:Q (.bl (!(valV kvs (L5 z)).isSome)) H):EN (.int z) Q (.ref p) H:=⟨p,_,rfl,DGet.k (k:=L5 z) e,h⟩
theorem qP {l b:gn} {xs zs:gs V} (e:H l=ak (.lst xs)) (O:H b=ak (.lst zs)) (hz:xs.length + zs.length<=lx) (h:∀p H2,H p=hB->Same H H2->H2 p=ak (.lst (xs++zs))->Q (.ref p) H2):rCat (.ref l) (.ref b) H Q:=⟨l,b,xs,zs,rfl,rfl,e,O,hz,jl h⟩
end
theorem oI:∀{ns:K3} {us:E'},Vals (ns.map V.int) us->IntsAre us ns
 | [],us,r=>by cases r;exact .nil
 | n::ns,us,r=>by
   rw[KF] at r;cases r with
   | cons h t=>obtain⟨t',rfl⟩:=h;exact .cons _ _ (oI t)
theorem vf:∀{ns:K3} {us:E'},IntsAre us ns->Vals (ns.map V.int) us:=oR
section
variable {prog:qc} {w:y3} {A:Kj} {E:DL} {s:ib} {d:gn} {vs:gs (Key×ia)} {ep:Nat}
theorem rY:plainId "list.__iadd__"=true:=by decide +kernel
theorem vw {Q:E'->ib->Prop} (τ:A.handled=hB) (lo:(d == sysModules)=false) (ζ:s.heap.DictAt (dk prog w) d vs ep) (hn:vs.length<=lx)
  (h:∀h' tk (Z:G'),(∀b o,s.heap.get? b=ak o->h'.get? b=ak o)->s.heap.objs.size < h'.objs.size->ItemsOf (λi v=>∃k x,vs[i]? =ak (k,x)/\(dk prog w).is k v=true) Z vs.length->Q Z.toList {s with heap:=h',toks:=tk}):
  ka (oD prog w) A (collect (.ref d)) Q E s:=by
 unfold collect;refine cc (Qz (Lx RE ?_));show ka _ _ (do again (.builtin "list.__iadd__" ⟨[<-newList [],.ref d],[]⟩)) _ _ s;refine cc (Pp (hF ⟨OZ _ (by decide +kernel),Lx entry_list_iadd' ?_⟩));rw[LH rY _];show ka _ _ (LM (.ref s.heap.objs.size) (.ref d) (.ref s.heap.objs.size)) _ _ {s with heap:=s.heap.push (seqObj "list" #[] 0)};have O:=ζ.lt_size
 refine PySem.W.kdl_extend (R:=λr s'=>match r with
   | Q4 (RK v)=>ka (oD prog w) A (match v with
     | y7 a=>do
       let o <-load a
       match o.data with
       | .seq xs _=>pure xs.toList
       | _=>unsupported "internal:collect"
     | _=>unsupported "internal:collect") Q E s'
   | Q4 _=>False
   | RT e=>E e s') (s:={s with heap:=s.heap.push (seqObj "list" #[] 0)}) (PySem.W.kdl_dict (knd:=dk prog w) (kvs:=vs) (ep:=ep) lo) τ (ζ.push _) s.heap.objs.size (KJ O) (KJ O) _ 0 (lT _ rfl) (λh' tk Y ρ hk α ι=>?_) hn
 show ka (oD prog w) A (do
   let o <-load s.heap.objs.size
   match o.data with
   | .seq xs _=>pure xs.toList
   | _=>unsupported "internal:collect") Q E {s with heap:=h',toks:=tk}
 refine cc (RV α ?_);exact hF (h h' tk Y (λb o e=>hk b o (Kn (hJ e)) (hE _ e)) (hJ α) ι)
theorem vR {Q:DL} {ks:K3} (τ:A.handled=hB) (lo:(d == sysModules)=false) (ζ:s.heap.DictAt (dk prog w) d vs ep) (hn:vs.length<=lx) (hk:vs.map (·.1)=ks.map L5) (ν:vs.length < 64)
  (h:∀h' tk a (out:G') (e:Nat) (Y:K3),(∀b o,s.heap.get? b=ak o->h'.get? b=ak o)->s.heap.objs.size<=a->h'.get? a=ak (seqObj "list" out e)->IntsAre out.toList Y->Y.Perm ks->Y.Pairwise (·<=·)->Q (.ref a) {s with heap:=h',toks:=tk}):
  ka (oD prog w) A (call (.builtin "sorted") [.ref d]) Q E s:=by
 refine Q1 kind_sorted plain_sorted entry_sorted (args_sorted1 _) ?_;unfold Builtin.«sorted»;refine cc (m:=checkCount "sorted" 1 1 _) (hF ?_);refine cc (vw (by exact τ) lo ζ hn λh' tk O ε hsz ι=>?_)
 have γ:(ks.map V.int).length=O.toList.length:=by
  have α:=zt M' hk;rw[dt,dt] at α;have ρ:O.toList.length=vs.length:=by rw[ic];exact ι.1
  rw[dt];omega
 have hI:IntsAre O.toList ks:=by
  refine oI (pf γ λi a b ha hb=>?_);rw[lz] at ha;obtain⟨k,η,rfl⟩:=KY.mp ha;rw[L7] at hb;obtain⟨ξ,x,ο,δ⟩:=ι.2 i b hb;have α:(vs.map (·.1))[i]? =ak ξ:=by rw[lz,ο];rfl
  rw[hk,lz,η] at α;have α:=kf α;subst α;exact FK (show vd (L5 k) b=true from δ)
 have θ:O.toList.length < 64:=by rw[ic,ι.1];exact ν
 refine cc (Pp ?_);have Z:(h'.push (seqObj "list" O.toList.toArray 0)).get? h'.objs.size=ak (seqObj "list" O.toList.toArray 0):=lT _ rfl;show ka _ _ _ _ _ {s with heap:=h'.push (seqObj "list" O.toList.toArray 0),toks:=tk};refine cc (Le (L1 slot_list_sort ⟨_,Z,rfl⟩ entry_list_sort (list_sort_tree Z hI θ λout Y a1 a2 π=>⟨_,rfl,?_⟩) (args_list_sort _)));obtain⟨e,he⟩:=sortedHeap_at (out:=out) Z;refine hF ⟨_,rfl,h _ tk h'.objs.size out e Y (λb o hb=>?_) ?_ he a1 a2 π⟩
 ·have β:=hJ (ε b o hb);rw[sortedHeap_old (Kn β) (by rw[size_push'];exact Ma β)];exact hE _ (ε b o hb)
 ·exact L9 hsz
end
noncomputable def Em:gs V->Hp->VK->Prop:=λxs H Q=>∃(p:gn) (ks:K3) (kvs:gs (Key×V)),xs=[.ref p]/\H p=ak (.dK kvs)/\kvs.map (·.1)=ks.map L5/\kvs.length < 64/\
 ∀(l:gn) (ns:K3),H l=hB->ns.Perm ks->ns.Pairwise (·<=·)->Q (.ref l) (upd H l (.lst (ns.map V.int)))
theorem yT {X:Cx} (hc:X.calm=true):lJ X (.builtin "sorted") Em:=by
 intro pins s σ H xs us Q I r h;obtain⟨p,ks,kvs,rfl,ε,hk,α,q⟩:=h;obtain⟨u,rfl,γ⟩:=zz r;cases γ;obtain⟨hz,lo,vs,rel,dd⟩:=IM I.hok ε;obtain⟨ep,ζ⟩:=dd.dictAt;refine vR (ks:=ks) (I.ok.hd hc) lo ζ (by rw[<-rel.length];exact hz) (by rw[<-rel.keys];exact hk) (by rw[<-rel.length];exact α) λh' tk a out e O kp ha he hi Y Z=>?_;have δ:=vf hi
 have hl:(O.map V.int).length<=sizeLine:=by
  have β:=zt M' hk;rw[dt,dt] at β;rw[dt,Y.length_eq,<-β];exact hz
 refine⟨.ref a,_,I.laid (t':=tk) kp ha (show fM X.prog X.w _ h' _ (.lst (O.map V.int)) from⟨hl,out.toList,e,δ,by simpa using he⟩),rfl,q _ O (I.hok.fresh ha) Y Z⟩
section
variable {H:Hp} {Q:VK}
theorem Fq {p:gn} {kvs:gs (Key×V)} {ks:K3} (e:H p=ak (.dK kvs)) (hk:kvs.map (·.1)=ks.map L5) (O:kvs.length < 64) (h:∀(l:gn) (ns:K3) (H2:Hp),H l=hB->Same H H2->H2 l=ak (.lst (ns.map V.int))->ns.Perm ks->ns.Pairwise (·<=·)->Q (.ref l) H2):Em [.ref p] H Q:=
 ⟨p,ks,kvs,rfl,e,hk,O,λl ns hl Y hw=>h l ns _ hl (c8 hl) aP Y hw⟩
end
def CShl (i j:Int):Prop:=0<=j/\(z4 i:Int) + j<=2 ^ 27
theorem FY {X:Cx}:OpR X (binaryOp .LShift) (rI CShl λi j=> .int (i * 2 ^ j.toNat)):=opI λ_ _ _ _ _ _ _ hc q=>PyProof.Rows.lshift_int hc.1 hc.2 q
open AutoSeq1 (wpAny_loadPart')
section
variable {prog:qc} {w:y3} {A:Kj} {E:DL} {s:ib}
theorem mY {it t:gn} {i:Nat} {O:G'} {x:ia} {Q:DL} (Y:s.heap.IsTupleIter it t i) (ht:s.heap.IsTuple t O) (hx:O[i]? =ak x)
  (υ:∀h',h'.IsTupleIter it t (i + 1)->LP it s.heap h'->Q x {s with heap:=h'}):
  ka (oD prog w) A (zx (.ref it)) Q E s:=by
 obtain⟨o,ho,α,hd⟩:=id Y;obtain⟨β,ο,_,nl,Z⟩:=ht;unfold zx
 refine cc (Lm (name:=M3 "__next__") Y.typeIs F.slot_tuple_iterator_next
  (L1 F.slot_tuple_iterator_next Y.typeIs F.entry_tuple_iterator_next ?_ (F.args_tuple_iterator_next_1 _)))
 show ka _ _ (field (.ref it) 0 >>=_) _ _ s;refine cc (Kg ho hd (x:= .ref t) rfl ?_);show ka _ _ (if (y7 t == KQ)=true then _ else _) _ _ s;rw[ov (show ¬((y7 t == KQ)=true) from iv)];show ka _ _ (field (.ref it) 1 >>=_) _ _ s;refine cc (Kg ho hd (x:= .int i 0) rfl ?_);show ka _ _ (seqItems? (.ref t) >>=_) _ _ s;refine cc (Lv ο Z ?_);simp only[pT,hx];refine cc (Ml ho hd @D (hF ⟨x,rfl,hF (υ _ ?_ (Ki ..))⟩))
 exact⟨_,Ku _ ho (Np (LX hd _)),(O0 ..).trans α,by
  rw[LX hd];simp[rawInt]⟩
theorem n6 {it t:gn} {i:Nat} {O:G'} {Q:DL} (τ:A.handled=hB) (Y:s.heap.IsTupleIter it t i) (ht:s.heap.IsTuple t O) (hx:O[i]? =hB)
  (α:∀h' e,Heap.ExtBut it s.heap h'->(∃o,h'.get? e=ak o/\o.cls= .type "StopIteration")->E (.ref e) {s with heap:=h'}):
  ka (oD prog w) A (zx (.ref it)) Q E s:=by
 obtain⟨o,ho,γ,hd⟩:=id Y;obtain⟨β,ο,_,nl,Z⟩:=ht;unfold zx
 refine cc (Lm (name:=M3 "__next__") Y.typeIs F.slot_tuple_iterator_next
  (L1 F.slot_tuple_iterator_next Y.typeIs F.entry_tuple_iterator_next ?_ (F.args_tuple_iterator_next_1 _)))
 show ka _ _ (field (.ref it) 0 >>=_) _ _ s;refine cc (Kg ho hd (x:= .ref t) rfl ?_);show ka _ _ (if (y7 t == KQ)=true then _ else _) _ _ s;rw[ov (show ¬((y7 t == KQ)=true) from iv)];show ka _ _ (field (.ref it) 1 >>=_) _ _ s;refine cc (Kg ho hd (x:= .int i 0) rfl ?_);show ka _ _ (seqItems? (.ref t) >>=_) _ _ s;refine cc (Lv ο Z ?_);simp only[pT,hx];refine cc (OG (cc (Ml ho hd @D ?_)));show ka _ _ (newExc (.type "StopIteration") [] >>=_) _ _ _;refine cc ?_;simp only[newExc,newTuple];refine cc (KR ?_ (by size_fits));refine cc (m:=firstArgMember _ _) (P1 (a:=KQ) (by first | rfl | (simp only[firstArgMember];rfl)) ?_);refine KR ?_ (by size_fits);simp only[raiseNew];refine cc (wpAny_handled ?_)
 first | rw[show A.in1.handled=hB from τ] | rw[τ]
 refine cc (hF (wpAny_throw ?_));exact α _ _ (((Ki ..).extBut.push _).push _) ⟨_,lT _ rfl,rfl⟩
end
theorem Draws.tuple {prog:qc} {w:y3} {A:Kj} (τ:A.handled=hB) (it l:gn) (α:l≠it) (O:G'):
  Draws prog w A it [it,l] O.size (λi v=>O[i]? =ak v) (λi h=>h.IsTupleIter it l i/\h.IsTuple l O) where
 live:=λ_ _ st=>let ⟨o,ho,_⟩:=st.1;⟨o,ho⟩
 frame:=λ_ _ _ st hk=>⟨let ⟨o,ho,r⟩:=st.1;⟨o,hk it @D o ho,r⟩,let ⟨o,ho,r⟩:=st.2;⟨o,hk l @D o ho,r⟩⟩
 item:=λi s Q E hi st υ=>by
  refine mY st.1 st.2 (x:=O[i]) (by simp[hi]) λh' Z Y=>?_;exact υ _ h' s.toks (by simp[hi]) ⟨Z,st.2.extBut Y.extBut α⟩ Y
 done:=λs Q E st β=>n6 τ st.1 st.2 @D β
theorem kC (l:gn) (O:G') (n:Nat) (ι:K4) (Z:HB):
  Meets (Builtin.«enumerate.__new__» ⟨[.type "enumerate",.ref l],[]⟩) (λ_ R s=>s.heap.get? l=ak {cls:= .type "tuple",dict:=ι,data:= .seq O n,slots:=Z}/\
   R (.ok (.ret (.ref (s.heap.push {cls:= .type "tuple_iterator",data:= .fields #[.ref l,.int 0 0]}).objs.size)))
     {s with heap:=(s.heap.push {cls:= .type "tuple_iterator",data:= .fields #[.ref l,.int 0 0]}).push {cls:= .type "enumerate",data:= .fields #[.none,.bool false,.ref s.heap.objs.size,rawInt 0,.none,.none]}}):=
 .of_wp λprog w A R s h=>by
  obtain⟨α,g,d,tk,os⟩:=s;obtain⟨hl,h⟩:=h;have Y:=sub_enumerate;have χ:Heap.IsTuple (Ph ⟨α,g,d,tk,os⟩) l O:=⟨_,hl,rfl,n,rfl⟩
  wp_walk using NS hl
  refine wpAny_stack_any λst=>hF ?_;split
  ·rename_i c _ _ _ _ _;cases(c == MW "enumerate")
   ·wp_walk using NS hl,O3 χ
    exact⟨_,rfl,h⟩
   ·wp_walk using NS hl,O3 χ
    exact⟨_,rfl,h⟩
  ·wp_walk using NS hl,O3 χ
   exact⟨_,rfl,h⟩
theorem kF {prog:qc} {w:y3} {A:Kj} {E:DL} {s:ib} {l:gn} {O:G'} {Q:DL} (χ:s.heap.IsTuple l O)
  (h:∀h',IsEnum h' (s.heap.objs.size + 1) s.heap.objs.size 0 .none->h'.IsTupleIter s.heap.objs.size l 0->h'.objs.size=s.heap.objs.size + 2->
   (∀b o,s.heap.get? b=ak o->h'.get? b=ak o)->Q (.ref (s.heap.objs.size + 1)) {s with heap:=h'}):
  ka (oD prog w) A (call (.type "enumerate") [.ref l]) Q E s:=by
 obtain⟨⟨c,ι,α,Z⟩,hl,Y,n,hd⟩:=χ;replace Y:c= .type "tuple":=Y;replace hd:α= .seq O n:=hd;subst Y hd
 refine callType_new F.called_enumerate @C (F.typeCall_enumerate_1 _) (F.newCall_enumerate_1 _) (λobj=>F.args_object_init_2 obj _) F.entry_enumerate_new
  (kC l O n ι Z) ⟨hl,?_⟩
 have hz:(s.heap.push {cls:= .type "tuple_iterator",data:= .fields #[.ref l,.int 0 0]}).objs.size=s.heap.objs.size + 1:=LK ..
 show _/\_;rw[hz]
 have he:IsEnum ((s.heap.push {cls:= .type "tuple_iterator",data:= .fields #[.ref l,.int 0 0]}).push
   {cls:= .type "enumerate",data:= .fields #[.none,.bool false,.ref s.heap.objs.size,rawInt 0,.none,.none]}) (s.heap.objs.size + 1) s.heap.objs.size 0 .none:=by
  have:=lT (s.heap.push {cls:= .type "tuple_iterator",data:= .fields #[.ref l,.int 0 0]})
   (o:={cls:= .type "enumerate",data:= .fields #[.none,.bool false,.ref s.heap.objs.size,rawInt 0,.none,.none]}) rfl
  rw[hz] at this;exact this
 refine⟨⟨_,he,rfl⟩,h _ he ⟨_,hE _ (lT _ rfl),rfl,rfl⟩ (by rw[LK,hz]) λb o x=>hE _ (hE _ x)⟩
noncomputable def Itet (K:aS) (a:gn):It:=
 ⟨λi H=>∃xs x,SqT K H a xs/\xs[i]? =ak x,λi H x H'=>∃p v,H p=hB/\x= .ref p/\H'=upd H p (.tup [.int i,v])/\∀xs,SqT K H a xs->xs[i]? =ak v,λi H=>∃xs,SqT K H a xs/\xs.length=i⟩
theorem xZ {P:qc} {w:y3} {K:aS} {δ:gs Ko} {k:Nat} {pos:Pos} (a e it:gn) (Z:e≠it):
  Turn P w K (.Tuple δ k pos) (Itet K a) [e,it] e (λi h=>(∃O,IsEnum h e it i O)/\h.IsTupleIter it a i) where
 mem:=by simp
 obj:=λi h st b hb=>by
  obtain⟨⟨O,he⟩,⟨o,ho,υ,hd⟩⟩:=st;rcases qn.mp hb with z | z
  ·subst z;exact⟨_,he,λv z=>by cases z⟩
  ·rw[hL.mp z];exact⟨o,ho,λv z=>by rw[hd] at z;cases z⟩
 keep:=λi h h' st k=>⟨let ⟨O,he⟩:=st.1;⟨O,k e @D _ he⟩,(let ⟨o,ho,r⟩:=st.2;⟨o,k it @D o ho,r⟩)⟩
 item:=by
  intro X hP hw hK υ i pins s σ H E I hf st ψ;subst hP hw hK;obtain⟨xs,x,τ,ρ⟩:=ψ;obtain⟨its,ο,p,hz⟩:=I.tuple τ;have ε:s.heap.IsTuple a its.toArray:=p;obtain⟨⟨O,he⟩,hl⟩:=st
  have θ:a≠it:=λz=>by
   obtain⟨o,ho,ζ,_⟩:=hl;obtain⟨o',Y,π,_⟩:=ε;rw[z,ho] at Y;cases Y;rw[ζ] at π;exact kv π @C
  have ι:a≠e:=λz=>by
   obtain⟨o',Y,π,_⟩:=ε;rw[z,he] at Y;cases Y;exact kv (show MW "enumerate"= .type "tuple" from π) @C
  have W:=Mr (prog:=X.prog) (w:=X.w) (A:=X.A) (Draws.tuple (A:=X.A.in1) (I.ok.hd υ) it a θ its.toArray) e Z (by simp[Z,Ka ι]) @D;have hi:i < its.toArray.size:=by have:=ο.length;have:=(eH.mp ρ).1;simp;omega
  refine W.item i s _ _ hi ⟨⟨O,he⟩,hl,ε⟩ λT a4 h' tk a0 hT ν β hk=>⟨_,rfl,W.go δ k pos i T _ _ _ β λa3 η ξ=>?_⟩;obtain⟨t,φ,χ,rfl⟩:=a0;have ω:=W.apart i T h' β
  have ru:RelV x φ:=by
   obtain⟨u,hu,r⟩:=ο.get ρ;have α:its[i]? =ak φ:=by simpa using χ
   rw[hu] at α;cases α;exact r
  have kk:∀b u,b∉[e,it]->s.heap.get? b=ak u->a3.get? b=ak u:=λb u hb q=>ξ b u hb (hk b u hb q);have fr:H T=none:=I.hok.fresh hT;refine⟨.ref T,upd H T (.tup [.int i,x]),I.laidCh (t':=tk) kk hT ⟨uC,[.int i t,φ],.cons ⟨t,rfl⟩ (.cons ru .nil),?_⟩ hf,rfl,⟨T,x,fr,rfl,rfl,λys hy=>by rw[I.tuple_inj hy τ];exact ρ⟩,⟨η.1,η.2.1⟩,λb hb=>?_⟩
  ·obtain⟨o,ho,r⟩:=ν;exact⟨o,ξ T o ω ho,r⟩
  ·have γ:=(hf b hb);rw[aJ (λz=>?_)]
   ·exact γ.1
   ·have lt:b < s.heap.objs.size:=by
     rcases qn.mp hb with z | z
     ·subst z;exact hJ he
     ·rw[hL.mp z];obtain⟨o,ho,_⟩:=hl;exact hJ ho
    rw[z] at lt;exact kv (f' lt hT) (Lz _)
 done:=by
  intro X hP hw hK υ i pins s σ H E I hf st ψ;subst hP hw hK;obtain⟨xs,τ,ρ⟩:=ψ;obtain⟨its,ο,p,hz⟩:=I.tuple τ;have ε:s.heap.IsTuple a its.toArray:=p;obtain⟨⟨O,he⟩,hl⟩:=st
  have θ:a≠it:=λz=>by
   obtain⟨o,ho,ζ,_⟩:=hl;obtain⟨o',Y,π,_⟩:=ε;rw[z,ho] at Y;cases Y;rw[ζ] at π;exact kv π @C
  have ι:a≠e:=λz=>by
   obtain⟨o',Y,π,_⟩:=ε;rw[z,he] at Y;cases Y;exact kv (show MW "enumerate"= .type "tuple" from π) @C
  have W:=Mr (prog:=X.prog) (w:=X.w) (A:=X.A) (Draws.tuple (A:=X.A.in1) (I.ok.hd υ) it a θ its.toArray) e Z (by simp[Z,Ka ι]) @D;have hn:its.toArray.size=i:=by have:=ο.length;simp;omega
  subst hn;exact W.done s _ _ ⟨⟨O,he⟩,hl,ε⟩ λh' tk hk=>⟨rfl,I.turnedCh hk hf⟩
 self:=λ_ _ _ _ _ st h=>let ⟨_,he⟩:=st.1;Mc he h
noncomputable def Ez (K:aS) (tl:TE):TI:=fun σ H R=>tl σ H λx H1=>∃a,x= .ref a/\(((∃xs,SqL K H1 a xs)/\R (Ite K a) H1)∨((∃xs,SqT K H1 a xs)/\R (Itet K a) H1))
section
variable {X:Cx} {K:aS}
theorem CQ {l:Ko} {tl:TE} {β:gs Ko} {k:Nat} {tpos p pos:Pos} (h:X.K=K) (η:Gl X "enumerate") (hm:X.mg "enumerate"=hB) (hl:PE X l tl) (hs:px [l] X.env=[(false,eval l X.env)]:=by rfl):
  PI X (.Tuple β k tpos) (.Call (.Name "enumerate" p) [l] [] pos) (Ez K tl):=by
 subst h;intro pins s σ H R I h;refine Qv (i6 I η hm boot_enumerate (Km (thn (aa hl ag hs pos pins s σ H (λvs H1=>match vs with | [x]=>∃a,x= .ref a/\(((∃xs,SqL X.K H1 a xs)/\R (Ite X.K a) H1)∨((∃xs,SqT X.K H1 a xs)/\R (Itet X.K a) H1)) | _=>False) I h) λus O ⟨vs,H1,I1,γ,Z⟩=>?_) hs rfl))
 match vs,γ,Z with
 | [x],γ,Z=>
 obtain⟨u,rfl,ζ⟩:=γ.one;obtain⟨a,rfl,Z⟩:=Z;cases ζ
 have fin:∀b∈[O.heap.objs.size + 1,O.heap.objs.size],FpOk X pins H1 b:=λb hb=>by
  have α:O.heap.objs.size<=b:=(qn.mp hb).elim (λz=>by rw[z];exact Oq _) (λz=>by rw[hL.mp z];exact ri _);exact I1.fpOk α (I1.hok.fresh α)
 rcases Z with ⟨⟨xs,δ⟩,q⟩ | ⟨⟨xs,δ⟩,q⟩
 ·obtain⟨its,ε,pl,hz⟩:=I1.list δ;refine RM pl.isList λh' he Y hsz hk=>Mc he ?_;exact⟨O.heap.objs.size + 1,[O.heap.objs.size + 1,O.heap.objs.size],_,_,H1,rfl,I1.kept (t':=O.toks) hk,rQ a _ _ (KJ (LJ _)),⟨⟨_,he⟩,Y⟩,fin,q⟩
 ·obtain⟨its,ε,pl,hz⟩:=I1.tuple δ;refine kF (show O.heap.IsTuple a its.toArray from pl) λh' he Y hsz hk=>Mc he ?_;exact⟨O.heap.objs.size + 1,[O.heap.objs.size + 1,O.heap.objs.size],_,_,H1,rfl,I1.kept (t':=O.toks) hk,xZ a _ _ (KJ (LJ _)),⟨⟨_,he⟩,Y⟩,fin,q⟩
end
theorem sx {K:aS} {n:Nat} {fx:D'} {g:TG} {tc:TT} {te:TE} {σ:St} {H1:Hp} {D:gn} {Q:Hp->Prop} {a:gn} {xs:gs V} (Y:Nat->gs V->Hp->Prop) (h0:Y 0 [] (upd H1 D (.lst []))) (hl:∀i ys H,i<=xs.length->Y i ys H->SqL K H a xs)
  (hs:∀i x ys H p H',xs[i]? =ak x->Y i ys H->H p=hB->Same H H'->H' p=ak (.tup [.int i,x])->g (.ref p) (df n fx σ) H' λO Z=>tc O Z λb δ=>if b=true then te O δ λv γ=>γ D=ak (.lst ys)/\ys.length < lx/\Y (i + 1) (ys++[v]) (upd γ D (.lst (ys++[v]))) else Y (i + 1) ys δ)
  (hd:∀ys H,Y xs.length ys H->Q H):
  ∃W:Nat->Nat->gs V->Hp->Prop,(∃m,W 0 m [] (upd H1 D (.lst [])))/\∀i m ys H2,W i m ys H2->((Ite K a).stop i H2/\Q H2)∨
    ((Ite K a).go i H2/\∃N:gs V->Hp->Prop,(∀α H',N α H'->∃ε,ε < m/\W (i + 1) ε α H')/\∀x ζ,(Ite K a).yld i H2 x ζ->g x (df n fx σ) ζ λO Z=>tc O Z λb δ=>
      if b=true then te O δ λv γ=>γ D=ak (.lst ys)/\ys.length < lx/\N (ys++[v]) (upd γ D (.lst (ys++[v]))) else N ys δ):=by
 refine⟨λi m ys H=>m=xs.length - i/\i<=xs.length/\Y i ys H,⟨xs.length,@D,LI _,h0⟩,?_⟩;rintro i m ys H ⟨rfl,hi,p⟩;have q:=hl i ys H hi p;by_cases β:i < xs.length
 ·refine .inr ⟨⟨xs,xs[i],q,by simp[β]⟩,Y (i + 1),fun α H' ρ=>⟨xs.length - (i + 1),by omega,rfl,β,ρ⟩,λx H' y=>?_⟩;obtain⟨r,v,f,θ,η,y⟩:=y;subst θ η;exact hs i v ys H r _ (y xs q) p f (c8 f) aP
 ·have e:i=xs.length:=by omega
  subst e;exact .inl ⟨⟨xs,q,rfl⟩,hd ys H p⟩
theorem yR {K:aS} {n:Nat} {fx:D'} {g:TG} {tc:TT} {te:TE} {σ:St} {H1:Hp} {D:gn} {Q:Hp->Prop} {a:gn} {xs:gs V} (Y:Nat->gs V->Hp->Prop) (h0:Y 0 [] (upd H1 D (.lst []))) (hl:∀i ys H,i<=xs.length->Y i ys H->SqT K H a xs)
  (hs:∀i x ys H p H',xs[i]? =ak x->Y i ys H->H p=hB->Same H H'->H' p=ak (.tup [.int i,x])->g (.ref p) (df n fx σ) H' λO Z=>tc O Z λb δ=>if b=true then te O δ λv γ=>γ D=ak (.lst ys)/\ys.length < lx/\Y (i + 1) (ys++[v]) (upd γ D (.lst (ys++[v]))) else Y (i + 1) ys δ)
  (hd:∀ys H,Y xs.length ys H->Q H):
  ∃W:Nat->Nat->gs V->Hp->Prop,(∃m,W 0 m [] (upd H1 D (.lst [])))/\∀i m ys H2,W i m ys H2->((Itet K a).stop i H2/\Q H2)∨
    ((Itet K a).go i H2/\∃N:gs V->Hp->Prop,(∀α H',N α H'->∃ε,ε < m/\W (i + 1) ε α H')/\∀x ζ,(Itet K a).yld i H2 x ζ->g x (df n fx σ) ζ λO Z=>tc O Z λb δ=>
      if b=true then te O δ λv γ=>γ D=ak (.lst ys)/\ys.length < lx/\N (ys++[v]) (upd γ D (.lst (ys++[v]))) else N ys δ):=by
 refine⟨λi m ys H=>m=xs.length - i/\i<=xs.length/\Y i ys H,⟨xs.length,@D,LI _,h0⟩,?_⟩;rintro i m ys H ⟨rfl,hi,p⟩;have q:=hl i ys H hi p;by_cases β:i < xs.length
 ·refine .inr ⟨⟨xs,xs[i],q,by simp[β]⟩,Y (i + 1),fun α H' ρ=>⟨xs.length - (i + 1),by omega,rfl,β,ρ⟩,λx H' y=>?_⟩;obtain⟨r,v,f,θ,η,y⟩:=y;subst θ η;exact hs i v ys H r _ (y xs q) p f (c8 f) aP
 ·have e:i=xs.length:=by omega
  subst e;exact .inl ⟨⟨xs,q,rfl⟩,hd ys H p⟩
section
variable {σ:St} {H:Hp} {te:TE} {R:It->Hp->Prop}
theorem c9 {K:aS} (h:te σ H λx H1=>∃a,x= .ref a/\(((∃xs,SqL K H1 a xs)/\R (Ite K a) H1)∨((∃xs,SqT K H1 a xs)/\R (Itet K a) H1))):Ez K te σ H R:=h
end
namespace ZP
noncomputable abbrev Busy (h:Ke) (z TI TO T:gn) (O:KS):Prop:=h.get? z=ak {cls:= .type "zip",data:= .fields #[rawInt T,.bool O,.bool false,.ref TI,.ref TO]}
section
variable {prog:qc} {w:y3} {A:Kj} {E:DL} {s:ib}
theorem AI {z TI TO T:gn} {fl:KS} {ν:P8} {Q:KS->ib->Prop} (hz:Busy s.heap z TI TO T fl) (hT:s.heap.get? T=ak ν) (h:∀h',Busy h' z TI TO T true->LP z s.heap h'->Q false {s with heap:=h'}):
  ka (oD prog w) A (Ky (.ref z)) Q E s:=by
 unfold Ky;refine cc (Kg hz rfl (x:=rawInt T) rfl ?_);show ka _ _ (loadIfAlive ((T:Int).toNat) >>=_) _ _ s;rw[pT];refine cc (PySem.W.kdx_alive hT ?_);rw[ov @D];refine cc (Kg hz rfl (x:= .bool fl) rfl ?_);cases fl with
 | true=>
   rw[ov @C];exact hF (h s.heap hz ⟨rfl,λ_ _=>rfl⟩)
 | false=>
   rw[qb @C];refine cc (MB hz (by show 1 < 5;decide) λh' e hs=>hF (h h' e hs))
theorem pJ {z TI TO T i1 i2 l1 l2:gn} {fl:KS} {ν:P8} {i:Nat} {xs ys:G'} {x y:ia} {Q:KA->ib->Prop} (ap:ZipApart z TI TO i1 i2 l1 l2) (hz:Busy s.heap z TI TO T fl) (hT:s.heap.get? T=ak ν)
  (hI:IsPair s.heap TI (.ref i1) (.ref i2)) (h1:s.heap.IsListIter i1 l1 i) (h2:s.heap.IsListIter i2 l2 i) (hl1:s.heap.IsList l1 xs) (hl2:s.heap.IsList l2 ys) (τ:xs[i]? =ak x) (ρ:ys[i]? =ak y)
  (h:∀h',Busy h' z TI TO T true->h'.IsListIter i1 l1 (i + 1)->h'.IsListIter i2 l2 (i + 1)->(∀b o,b≠z->b≠i1->b≠i2->s.heap.get? b=ak o->h'.get? b=ak o)->h'.get? s.heap.objs.size=ak {cls:= .type "tuple",data:= .seq #[x,y]}->Q (ak (.ref s.heap.objs.size)) {s with heap:=h'}):
  ka (oD prog w) A (pyNext (.ref z)) Q E s:=by
 have ty:s.TypeIs (.ref z) "zip":=⟨_,hz,rfl⟩;unfold pyNext;refine cc (Pq (Lm (name:=M3 "__next__") ty F.slot_zip_next (L1 F.slot_zip_next ty F.entry_zip_next ?_ (F.args_zip_next_1 _))));unfold Builtin.«zip.__next__»;refine cc (P1 (a:=(y7 z,[])) rfl ?_);dsimp only;refine cc (Kg hz rfl (x:= .bool false) rfl ?_);refine cc (Kg hz rfl (x:= .ref TI) rfl ?_);refine cc (Lv hI rfl ?_);dsimp only;rw[ov (show ¬(#[y7 i1,y7 i2].isEmpty=true) from iv)];refine cc (AI hz hT λh' ι hs=>?_);rw[ov @C];rw[<-QV];simp only[Nw,OR];have keep:∀{b:gn} {o:P8},b≠z->s.heap.get? b=ak o->h'.get? b=ak o:=fun β e=>(hs.2 _ β).trans e;have ξ:h'.IsListIter i1 l1 i:=h1.at λo e=>keep ap.i1z e;have γ:h'.IsListIter i2 l2 i:=h2.at λo e=>keep ap.i2z e;have ε:h'.IsList l1 xs:=let ⟨o,e,c⟩:=hl1;⟨o,keep ap.l1z e,c⟩
 have δ:h'.IsList l2 ys:=let ⟨o,e,c⟩:=hl2;⟨o,keep ap.l2z e,c⟩
 refine cc (cc (cc (Le ?_)));show ka _ _ (zx (.ref i1) >>=λx=>pure (ak x)) _ _ _;refine cc (MC ξ ε τ fun ο η α=>hF ?_);dsimp only;refine hF ?_;dsimp only;have O:∀{b:gn} {o:P8},b≠i1->h'.get? b=ak o->ο.get? b=ak o:=fun β e=>(α.2 _ β).trans e;refine cc (cc (Le ?_));show ka _ _ (zx (.ref i2) >>=λx=>pure (ak x)) _ _ _;refine cc (MC (γ.at λo e=>O (Ka ap.i12) e) (let ⟨o,e,c⟩:=δ;⟨o,O ap.l2i1 e,c⟩) ρ fun θ ζ Z=>hF ?_);have Y:∀{b:gn} {o:P8},b≠i2->ο.get? b=ak o->θ.get? b=ak o:=fun β e=>(Z.2 _ β).trans e;dsimp only;refine hF ?_;dsimp only;refine hF ?_;dsimp only;have es:θ.objs.size=s.heap.objs.size:=Z.1.trans (α.1.trans hs.1);refine cc (wpAny_newTuple (hF ⟨_,rfl,hF ?_⟩) (by show 2<=lx;rw[qq];decide));show Q (ak (.ref θ.objs.size)) {s with heap:=θ.push _};rw[es];refine h _ ?_ ?_ ?_ (λb o nz n1 π e=>hE _ (Y π (O n1 (keep nz e)))) ?_
 ·exact hE _ (Y (Ka ap.i2z) (O (Ka ap.i1z) ι))
 ·exact η.at λo e=>hE _ (Y ap.i12 e)
 ·exact ζ.at λo e=>hE _ e
 ·rw[<-es];exact lT _ rfl
theorem tH {z TI TO T i1 i2 l1 l2:gn} {fl:KS} {ν:P8} {i:Nat} {xs:G'} {Q:KA->ib->Prop} (τ:A.handled=hB) (ap:ZipApart z TI TO i1 i2 l1 l2) (hz:Busy s.heap z TI TO T fl) (hT:s.heap.get? T=ak ν)
  (hI:IsPair s.heap TI (.ref i1) (.ref i2)) (h1:s.heap.IsListIter i1 l1 i) (hl1:s.heap.IsList l1 xs) (γ:xs[i]? =hB)
  (h:∀h',(∀b o,b≠z->b≠i1->s.heap.get? b=ak o->h'.get? b=ak o)->Q hB {s with heap:=h'}):
  ka (oD prog w) A (pyNext (.ref z)) Q E s:=by
 have ty:s.TypeIs (.ref z) "zip":=⟨_,hz,rfl⟩;unfold pyNext;refine cc (Pq (Lm (name:=M3 "__next__") ty F.slot_zip_next (L1 F.slot_zip_next ty F.entry_zip_next ?_ (F.args_zip_next_1 _))));unfold Builtin.«zip.__next__»;refine cc (P1 (a:=(y7 z,[])) rfl ?_);dsimp only;refine cc (Kg hz rfl (x:= .bool false) rfl ?_);refine cc (Kg hz rfl (x:= .ref TI) rfl ?_);refine cc (Lv hI rfl ?_);dsimp only;rw[ov (show ¬(#[y7 i1,y7 i2].isEmpty=true) from iv)];refine cc (AI hz hT λh' β hs=>?_);rw[ov @C];rw[<-QV];simp only[Nw,OR];have keep:∀{b:gn} {o:P8},b≠z->s.heap.get? b=ak o->h'.get? b=ak o:=fun α e=>(hs.2 _ α).trans e;have Y:h'.IsListIter i1 l1 i:=h1.at λo e=>keep ap.i1z e;have O:h'.IsList l1 xs:=let ⟨o,e,c⟩:=hl1;⟨o,keep ap.l1z e,c⟩
 refine cc (cc (cc (Le ?_)));show ka _ _ (zx (.ref i1) >>=λx=>pure (ak x)) _ _ _;refine cc (Rq (by first | exact τ | (rw[show A.in1.handled=hB from τ])) Y O γ λZ e ex he=>?_);refine cc (Ov (T:="StopIteration") (b:=true) (s:={s with heap:=Z}) (let ⟨o,a,b⟩:=he;⟨o,a,b⟩) QB ?_);exact hF (h Z λb o nz n1 δ=>ex b o n1 (keep nz δ))
structure ZGot (h:Ke) (lo:Nat) (xs ys:G') (as:K0):Prop where
 rise:as.Pairwise (· < ·)
 above:∀a∈as,lo<=a/\a < h.objs.size
 pairs:∀(j:Nat) (a:gn),as[j]? =ak a->∃x y,xs[j]? =ak x/\ys[j]? =ak y/\h.IsTuple a #[x,y]
structure ZSt (h:Ke) (z TI TO i1 i2 l1 l2:gn) (lo:Nat) (xs ys:G') (i:Nat) (as:K0):Prop where
 zp:(i=0/\IsZip h z TI TO .none)∨∃T fl,Busy h z TI TO T fl/\as[0]? =ak T
 hI:IsPair h TI (.ref i1) (.ref i2)
 hO:∃a b,IsPair h TO a b
 h1:h.IsListIter i1 l1 i
 h2:h.IsListIter i2 l2 i
 hl1:h.IsList l1 xs
 hl2:h.IsList l2 ys
 len:as.length=i
 got:ZGot h lo xs ys as
structure Und (z TI TO i1 i2 l1 l2 S:gn) (lo:Nat):Prop where
 ap:ZipApart z TI TO i1 i2 l1 l2
 Sz:S≠z
 STI:S≠TI
 STO:S≠TO
 Si1:S≠i1
 Si2:S≠i2
 Sl1:S≠l1
 Sl2:S≠l2
 z:z < lo
 TO:TO < lo
 i1:i1 < lo
 i2:i2 < lo
 S:S < lo
theorem i7 {h:Ke} {a:gn} {o:P8} (e:h.get? a=ak o):a < h.objs.size:=hJ e
theorem ZGot.keep {h h':Ke} {lo:Nat} {xs ys:G'} {Y:K0} (g:ZGot h lo xs ys Y) (k:∀b o,lo<=b->h.get? b=ak o->h'.get? b=ak o):ZGot h' lo xs ys Y:=by
 have k2:∀a∈Y,h'.IsTuple a #[.none,.none]->True:=λ_ _ _=>trivial;refine⟨g.rise,λa ha=>?_,λj a O=>?_⟩
 ·obtain⟨j,O⟩:=LW.mp ha;obtain⟨x,y,_,_,o,e,_⟩:=g.pairs j a O;exact⟨(g.above a ha).1,i7 (k a o (g.above a ha).1 e)⟩
 ·obtain⟨x,y,α,Z,o,e,c⟩:=g.pairs j a O;exact⟨x,y,α,Z,o,k a o (g.above a (hQ O)).1 e,c⟩
theorem ZGot.more {h:Ke} {lo:Nat} {xs ys:G'} {O:K0} {a:gn} {x y:ia} (g:ZGot h lo xs ys O) (ha:∀b∈O,b < a) (Z:lo<=a) (hx:xs[O.length]? =ak x) (hy:ys[O.length]? =ak y) (ht:h.IsTuple a #[x,y]):ZGot h lo xs ys (O++[a]):=by
 refine⟨OC.mpr ⟨g.rise,Qo _ _,λb hb c α=>by rw[hL.mp α];exact ha b hb⟩,λb hb=>?_,λj b Y=>?_⟩
 ·rcases oT.mp hb with z | z
  ·exact g.above b z
  ·rw[hL.mp z];obtain⟨o,e,_⟩:=ht;exact⟨Z,i7 e⟩
 ·by_cases hl:j < O.length
  ·rw[u' hl] at Y;exact g.pairs j b Y
  ·rw[vr @A] at Y
   have β:j=O.length:=by
    have:=(eH.mp Y).1;simp at this;omega
   subst β;rw[Ms] at Y;have:a=b:=by simpa using Y
   subst this;exact⟨x,y,hx,hy,ht⟩
theorem loop {R:K8} {z TI TO i1 i2 l1 l2 S:gn} {lo:Nat} {xs ys:G'} (τ:A.handled=hB) (U:Und z TI TO i1 i2 l1 l2 S lo) (hn:xs.size<=lx) (b3:ys.size=xs.size) (res:ia) {h₁:Ke}
  (hR:∀h' tk α c δ,(∀b o,b≠S->b≠z->b≠TO->b≠i1->b≠i2->h₁.get? b=ak o->h'.get? b=ak o)->h'.get? S=ak {cls:= .type "list",data:= .seq α c}->α.toList=δ.map .ref->δ.length=xs.size->ZGot h' lo xs ys δ->R (.ok (.ret res)) {s with heap:=h',toks:=tk}):
  ∀(k i:Nat) (h:Ke) (tk c:Nat) (α:G') (δ:K0),xs.size - i=k->i<=xs.size->lo<=h.objs.size->ZSt h z TI TO i1 i2 l1 l2 lo xs ys i δ->
    (∀b o,b≠S->b≠z->b≠TO->b≠i1->b≠i2->h₁.get? b=ak o->h.get? b=ak o)->h.get? S=ak {cls:= .type "list",data:= .seq α c}->α.toList=δ.map .ref->
    codeAny (oD prog w) A (Sb "list.extend.loop" {pos:=[.ref S,.ref z,res]}) R {s with heap:=h,toks:=tk}:=by
 have ap:=U.ap;intro k
 induction k with
 | zero=>
   intro i h tk c α δ hk hi ξ st kh hS ι;have a5:i=xs.size:=by omega
   subst a5;refine Lx F.entry_extend_loop ?_;rw[LH F.plain_extend_loop];show ka _ A.in1 (pyNext (.ref z) >>=_) _ _ _;refine cc ?_
   have fin:∀h' O,(∀b o,b≠z->b≠TO->b≠i1->b≠i2->h.get? b=ak o->h'.get? b=ak o)->R (.ok (.ret res)) {s with heap:=h',toks:=O}:=λh' O β=>
    hR h' O α c δ (λb o n1 γ ζ η ε e=>β b o γ ζ η ε (kh b o n1 γ ζ η ε e)) (β S _ U.Sz U.STO U.Si1 U.Si2 hS) ι st.len (st.got.keep λb o hb e=>β b o (KJ (f' U.z hb)) (KJ (f' U.TO hb)) (KJ (f' U.i1 hb)) (KJ (f' U.i2 hb)) e)
   rcases st.zp with ⟨h0,hz⟩ | ⟨T,fl,hz,hT⟩
   ·have W:=Pg (prog:=prog) (w:=w) (A:=A.in1) τ z TI TO i1 i2 l1 l2 ap xs ys;have π:min xs.size ys.size=xs.size:=by omega
    rw[π] at W;refine W.done {s with heap:=h,toks:=tk} _ _ ⟨hz,st.hI,st.hO,st.h1,st.h2,st.hl1,st.hl2⟩ λh' O β=>?_;exact hF (fin h' O λb o γ ζ η ε e=>β b o (by simp[γ,ζ,η,ε]) e)
   ·obtain⟨x,y,_,_,ν,eT,_⟩:=st.got.pairs 0 T hT;refine tH (s:={s with heap:=h,toks:=tk}) τ ap hz eT st.hI st.h1 st.hl1 @D λh' β=>?_;exact hF (fin h' tk λb o γ ζ η ε e=>β b o γ η e)
 | succ k ih=>
   intro i h tk c α δ hk hi ξ st kh hS ι;have ο:i < xs.size:=by omega
   have hx:xs[i]? =ak xs[i]:=KC ο;have hy:ys[i]? =ak (ys[i]' @A):=KC @A;generalize xs[i]=x at hx;generalize ys[i]'_=y at hy;refine Lx F.entry_extend_loop ?_;rw[LH F.plain_extend_loop];show ka _ A.in1 (pyNext (.ref z) >>=_) _ _ _;refine cc ?_
   have go:∀(a:gn) (h':Ke) (O:Nat),h.objs.size<=a->h'.IsTuple a #[x,y]->(∀b o,b≠z->b≠TO->b≠i1->b≠i2->h.get? b=ak o->h'.get? b=ak o)->lo<=h'.objs.size->
     (∃T fl,Busy h' z TI TO T fl/\(δ++[a])[0]? =ak T)->IsPair h' TI (.ref i1) (.ref i2)->(∃a b,IsPair h' TO a b)->h'.IsListIter i1 l1 (i + 1)->h'.IsListIter i2 l2 (i + 1)->h'.IsList l1 xs->h'.IsList l2 ys->
     ka (oD prog w) A.in1 (Pl (.ref S) (λq=>q.push (.ref a)) >>=λ_=>again (Sb "list.extend.loop" {pos:=[.ref S,.ref z,res]}))
      (λfin s'=>match fin with | .done f=>R (.ok f) s' | .again ρ=>ρ.quiet=true/\codeAny (oD prog w) A ρ R s') (λe s'=>R (.error e) s') {s with heap:=h',toks:=O}:=by
    intro a h' O ha ht β υ a3 hI hO h1 h2 hl1 hl2;have φ:=β S _ U.Sz U.STO U.Si1 U.Si2 hS;have ω:a≠S:=KJ (f' (i7 hS) ha);have hsz:α.size=i:=by have:=zt M' ι;rw[dt,st.len] at this;simpa using this
    have oth:∀b o,b≠S->h'.get? b=ak o->(h'.update S (KI λq=>q.push (.ref a))).get? b=ak o:=λb o hb e=>(KH _ _ (Ka hb)).trans e;have θ:=Ku (KI (λq=>q.push (y7 a))) φ rfl;refine cc (NR (s:={s with heap:=h',toks:=O}) φ rfl (hF ⟨Pr F.plain_extend_loop _,?_⟩) (by rw[hsz];omega) (by rw[Oe,hsz];omega));refine ih (i + 1) (h'.update S _) O _ (α.push (.ref a)) (δ++[a]) @A ο ?_ ⟨.inr ?_,?_,?_,?_,?_,?_,?_,?_,?_⟩ ?_ θ ?_
    ·have es:(h'.update S (KI λq=>q.push (.ref a))).objs.size=h'.objs.size:=(Ki ..).1;rw[es];exact υ
    ·obtain⟨T,fl,e,q⟩:=a3;exact⟨T,fl,oth _ _ (Ka U.Sz) e,q⟩
    ·exact oth _ _ (Ka U.STI) hI
    ·obtain⟨p,q,e⟩:=hO;exact⟨p,q,oth _ _ (Ka U.STO) e⟩
    ·exact h1.at λo e=>oth _ o (Ka U.Si1) e
    ·exact h2.at λo e=>oth _ o (Ka U.Si2) e
    ·exact let ⟨o,e,c⟩:=hl1;⟨o,oth _ o (Ka U.Sl1) e,c⟩
    ·exact let ⟨o,e,c⟩:=hl2;⟨o,oth _ o (Ka U.Sl2) e,c⟩
    ·rw[hC,st.len];rfl
    ·have g:=st.got.keep (h':=h'.update S (KI λq=>q.push (.ref a))) λb o hb e=>oth b o (KJ (f' U.S hb)) (β b o (KJ (f' U.z hb)) (KJ (f' U.TO hb)) (KJ (f' U.i1 hb)) (KJ (f' U.i2 hb)) e);refine g.more (λb hb=>f' (st.got.above b hb).2 ha) (Lf ξ ha) (by rw[st.len];exact hx) (by rw[st.len];exact hy) (let ⟨o,e,c⟩:=ht;⟨o,oth _ o ω e,c⟩)
    ·exactλb o n1 γ ζ η ε e=>oth b o n1 (β b o γ ζ η ε (kh b o n1 γ ζ η ε e))
    ·rw[N5,ι,hH];rfl
   rcases st.zp with ⟨h0,hz⟩ | ⟨T,fl,hz,hT⟩
   ·have W:=Pg (prog:=prog) (w:=w) (A:=A.in1) τ z TI TO i1 i2 l1 l2 ap xs ys;have π:min xs.size ys.size=xs.size:=by omega
    rw[π] at W;refine W.item i {s with heap:=h,toks:=tk} _ _ ο ⟨hz,st.hI,st.hO,st.h1,st.h2,st.hl1,st.hl2⟩ λT b0 h' O hp hT ht a0 β=>?_;obtain⟨x',Z,ex,ey,rfl⟩:=hp;rw[hx] at ex;cases ex;rw[hy] at ey;cases ey;obtain⟨m1,m2,m3,ψ,χ,m6,m7,_⟩:=a0;have a6:δ=[]:=Mi (st.len.trans h0);refine go T h' O hT ht (λb o γ ζ η ε e=>β b o (by simp[γ,ζ,η,ε]) e) ?_ ⟨T,false,m1,by rw[a6];rfl⟩ m2 m3 ψ χ m6 m7;obtain⟨o,e,_⟩:=ht;exact L9 (qE (Lf ξ hT) (i7 e))
   ·obtain⟨_,_,_,_,ν,eT,_⟩:=st.got.pairs 0 T hT;refine pJ (s:={s with heap:=h,toks:=tk}) ap hz eT st.hI st.h1 st.h2 st.hl1 st.hl2 hx hy λh' a4 b1 b2 β ht=>?_;refine go h.objs.size h' tk (ri _) ⟨_,ht,rfl,_,rfl⟩ (λb o γ ζ η ε e=>β b o γ η ε e) ?_ ⟨T,true,a4,?_⟩ (β TI _ ap.TIz ap.TIi1 ap.TIi2 st.hI) (let ⟨p,q,e⟩:=st.hO;⟨p,q,β TO _ ap.TOz ap.TOi1 ap.TOi2 e⟩) b1 b2 (let ⟨o,e,c⟩:=st.hl1;⟨o,β l1 o ap.l1z ap.l1i1 ap.l1i2 e,c⟩) (let ⟨o,e,c⟩:=st.hl2;⟨o,β l2 o ap.l2z ap.l2i1 ap.l2i2 e,c⟩)
    ·have Y:h'.get? h.objs.size=_:=ht;exact L9 (qE ξ (i7 Y))
    ·have:0 < δ.length:=(eH.mp hT).1;rw[u' this];exact hT
theorem JQ:typeLookup (.type "zip") "__len__"=pure none:=by rw[OQ,NF];kernel_rfl
theorem Il:typeLookup (.type "zip") "__length_hint__"=pure none:=by rw[OQ,NF];kernel_rfl
structure New (h:Ke) (z TI TO i1 i2 l1 l2:gn) (xs ys:G'):Prop where
 ap:ZipApart z TI TO i1 i2 l1 l2
 hz:IsZip h z TI TO .none
 hI:IsPair h TI (.ref i1) (.ref i2)
 hO:∃a b,IsPair h TO a b
 h1:h.IsListIter i1 l1 0
 h2:h.IsListIter i2 l2 0
 hl1:h.IsList l1 xs
 hl2:h.IsList l2 ys
theorem New.keep {h h':Ke} {z TI TO i1 i2 l1 l2:gn} {xs ys:G'} (n:New h z TI TO i1 i2 l1 l2 xs ys) (k:∀b o,h.get? b=ak o->(b=z∨b=TI∨b=TO∨b=i1∨b=i2∨b=l1∨b=l2)->h'.get? b=ak o):New h' z TI TO i1 i2 l1 l2 xs ys where
 ap:=n.ap
 hz:=k _ _ n.hz @D
 hI:=k _ _ n.hI @D
 hO:=let ⟨a,b,e⟩:=n.hO;⟨a,b,k _ _ e @D⟩
 h1:=n.h1.at λo e=>k _ o e @D
 h2:=n.h2.at λo e=>k _ o e @D
 hl1:=let ⟨o,e,c⟩:=n.hl1;⟨o,k _ o e @D,c⟩
 hl2:=let ⟨o,e,c⟩:=n.hl2;⟨o,k _ o e @D,c⟩
theorem IJ {R:K8} {z TI TO i1 i2 l1 l2 S:gn} {lo:Nat} {xs ys:G'} (τ:A.handled=hB) (U:Und z TI TO i1 i2 l1 l2 S lo) (N:New s.heap z TI TO i1 i2 l1 l2 xs ys) (hn:xs.size<=lx) (ρ:ys.size=xs.size) (Z:lo<=s.heap.objs.size) (res:ia) {O:Nat} (θ:s.heap.get? S=ak {cls:= .type "list",data:= .seq #[] O})
  (ι:∀h' tk Y c δ,(∀b o,b≠S->b≠z->b≠TO->b≠i1->b≠i2->s.heap.get? b=ak o->h'.get? b=ak o)->h'.get? S=ak {cls:= .type "list",data:= .seq Y c}->Y.toList=δ.map .ref->δ.length=xs.size->ZGot h' lo xs ys δ->R (.ok (.ret res)) {s with heap:=h',toks:=tk}):
  ka (oD prog w) A.in1 (LM (.ref S) (.ref z) res)
   (λfin s'=>match fin with | .done f=>R (.ok f) s' | .again ξ=>ξ.quiet=true/\codeAny (oD prog w) A ξ R s') (λe s'=>R (.error e) s') s:=by
 have ty:s.TypeIs (.ref z) "zip":=⟨_,N.hz,rfl⟩;have h1:Pd (.ref S) (.ref z)=false:=by simp[Pd,U.Sz]
 unfold LM;refine cc (R8 ty ?_);rw[ov (by rw[h1];decide)];refine cc (MX N.hz ?_);refine cc (Le ?_);unfold Nn;refine cc (OO ty JQ ?_);show ka _ A.in1 (specialOf (y7 z) (M3 "__length_hint__") >>=_) _ _ _;refine cc (OO ty Il ?_);refine hF ?_;dsimp only;rw[qb @C];refine cc (OG (cc ?_));show ka _ _ (updateSeq S (λx=>x.push .none) >>=λ_=>updateSeq S λx=>x.pop) _ _ s;have γ:=Ku (KI (λx=>x.push KQ)) θ rfl;have β:∀b o,b≠S->s.heap.get? b=ak o->(s.heap.update S (KI (λx=>x.push KQ))).get? b=ak o:=λb o hb e=>(KH _ _ (Ka hb)).trans e;have ζ:(s.heap.update S (KI (λx=>x.push KQ))).objs.size=s.heap.objs.size:=(Ki ..).1;refine cc (NR θ rfl ?_ (by show 0<=lx;exact LI _) (by show 1<=lx + 1;omega));generalize υ:s.heap.update S (KI (λx=>x.push KQ))=g1 at γ β ζ;refine NR (s:={s with heap:=g1}) γ rfl ?_ (by show 1<=lx;rw[qq];decide) (by show 0<=lx + 1;omega);have ν:=Ku (KI (λx=>x.pop)) γ rfl;have α:∀b o,b≠S->g1.get? b=ak o->(g1.update S (KI (λx=>x.pop))).get? b=ak o:=λb o hb e=>(KH _ _ (Ka hb)).trans e;have ε:(g1.update S (KI (λx=>x.pop))).objs.size=g1.objs.size:=(Ki ..).1;generalize π:g1.update S (KI (λx=>x.pop))=g2 at ν α ε;refine hF ⟨Pr F.plain_extend_loop _,?_⟩
 have N2:New g2 z TI TO i1 i2 l1 l2 xs ys:=N.keep λb o e hb=>by
  have η:b≠S:=by
   rcases hb with rfl | rfl | rfl | rfl | rfl | rfl | rfl
   ·exact Ka U.Sz
   ·exact Ka U.STI
   ·exact Ka U.STO
   ·exact Ka U.Si1
   ·exact Ka U.Si2
   ·exact Ka U.Sl1
   ·exact Ka U.Sl2
  exact α b o η (β b o η e)
 exact loop (s:=s) (h₁:=s.heap) τ U hn ρ res ι xs.size 0 g2 s.toks _ #[] [] (Qe _) (LI _) (by rw[ε,ζ];exact Z) ⟨.inl ⟨rfl,N2.hz⟩,N2.hI,N2.hO,N2.h1,N2.h2,N2.hl1,N2.hl2,rfl,⟨P',λ_ h=>kv h @D,λj a ο=>by simp at ο⟩⟩ (λb o n1 _ _ _ _ e=>α b o n1 (β b o n1 e)) ν rfl
theorem init {R:K8} {z TI TO i1 i2 l1 l2 S:gn} {lo:Nat} {xs ys:G'} (τ:A.handled=hB) (U:Und z TI TO i1 i2 l1 l2 S lo) (N:New s.heap z TI TO i1 i2 l1 l2 xs ys) (hn:xs.size<=lx) (ρ:ys.size=xs.size) (α:lo<=s.heap.objs.size) (β:s.heap.get? S=ak {cls:= .type "list",data:= .seq #[]})
  (ι:∀h' tk Y c Z,(∀b o,b≠S->b≠z->b≠TO->b≠i1->b≠i2->s.heap.get? b=ak o->h'.get? b=ak o)->h'.get? S=ak {cls:= .type "list",data:= .seq Y c}->Y.toList=Z.map .ref->Z.length=xs.size->ZGot h' lo xs ys Z->R (.ok (.ret .none)) {s with heap:=h',toks:=tk}):
  ka (oD prog w) A.in1 (Builtin.«list.__init__» ⟨[.ref S,.ref z],[]⟩)
   (λfin s'=>match fin with | .done f=>R (.ok f) s' | .again γ=>γ.quiet=true/\codeAny (oD prog w) A γ R s') (λe s'=>R (.error e) s') s:=by
 show ka _ _ (do let O <-Pu (.ref S);Pl (.ref S) (λ_=>#[]);letGo O.toList.reverse;LM (.ref S) (.ref z) .none) _ _ s;refine cc ?_;unfold Pu;refine cc (Lv β rfl (hF ?_));show ka _ _ (updateSeq S (λ_=>#[]) >>=λ_=>letGo (#[]:G').toList.reverse >>=λ_=>LM (.ref S) (.ref z) .none) _ _ s;refine cc (NR β rfl ?_);have θ:=Ku (KI (λ_=>(#[]:G'))) β rfl;have oth:∀b o,b≠S->s.heap.get? b=ak o->(s.heap.update S (KI (λ_=>(#[]:G')))).get? b=ak o:=λb o hb e=>(KH _ _ (Ka hb)).trans e;have es:(s.heap.update S (KI (λ_=>(#[]:G')))).objs.size=s.heap.objs.size:=(Ki ..).1;refine cc (Qd ?_);refine IJ (s:={s with heap:=_}) τ U (N.keep λb o e hb=>oth b o ?_ e) hn ρ (by show lo<=(s.heap.update S _).objs.size;rw[es];exact α) .none θ λh' tk Y c Z k a1 a2 ξ ν=>ι h' tk Y c Z (λb o n1 ζ ε η δ e=>k b o n1 ζ ε η δ (oth b o n1 e)) a1 a2 ξ ν;rcases hb with rfl | rfl | rfl | rfl | rfl | rfl | rfl
 ·exact Ka U.Sz
 ·exact Ka U.STI
 ·exact Ka U.STO
 ·exact Ka U.Si1
 ·exact Ka U.Si2
 ·exact Ka U.Sl1
 ·exact Ka U.Sl2
theorem call_list {Q:DL} {z TI TO i1 i2 l1 l2:gn} {xs ys:G'} (τ:A.handled=hB) (N:New s.heap z TI TO i1 i2 l1 l2 xs ys) (hn:xs.size<=lx) (ρ:ys.size=xs.size)
  (υ:∀h' tk Y c γ,(∀b o,b≠z->b≠TO->b≠i1->b≠i2->s.heap.get? b=ak o->h'.get? b=ak o)->h'.get? s.heap.objs.size=ak {cls:= .type "list",data:= .seq Y c}->Y.toList=γ.map .ref->γ.length=xs.size->ZGot h' (s.heap.objs.size + 1) xs ys γ->Q (.ref s.heap.objs.size) {s with heap:=h',toks:=tk}):
  ka (oD prog w) A (call (.type "list") [.ref z]) Q E s:=by
 have θ:=i7 N.hz;have ζ:=i7 N.hI;obtain⟨ψ,pb,ξ⟩:=N.hO;have β:=i7 ξ;have O:i1 < s.heap.objs.size:=let ⟨o,e,_⟩:=N.h1;i7 e
 have α:i2 < s.heap.objs.size:=let ⟨o,e,_⟩:=N.h2;i7 e
 have ε:l1 < s.heap.objs.size:=let ⟨o,e,_⟩:=N.hl1;i7 e
 have δ:l2 < s.heap.objs.size:=let ⟨o,e,_⟩:=N.hl2;i7 e
 refine callType_codes (Q₁:=λobj Z=>obj= .ref s.heap.objs.size/\Z={s with heap:=s.heap.push {cls:= .type "list",data:= .seq #[]}}) F.called_list (F.typeCall_list_1 _) F.entry_list_init (code_list_new _ ⟨rfl,rfl⟩) λobj Z h₁=>?_;obtain⟨rfl,rfl⟩:=h₁;have ι:(s.heap.push {cls:= .type "list",data:= .seq #[]}).get? s.heap.objs.size=ak {cls:= .type "list",data:= .seq #[]}:=lT _ rfl;have up:∀{b:gn},b < s.heap.objs.size->b < s.heap.objs.size + 1:=λh=>Ma h;have ne:∀{b:gn},b < s.heap.objs.size->s.heap.objs.size≠b:=λh=>KJ h;have U:Und z TI TO i1 i2 l1 l2 s.heap.objs.size (s.heap.objs.size + 1):=⟨N.ap,ne θ,ne ζ,ne β,ne O,ne α,ne ε,ne δ,up θ,up β,up O,up α,LJ _⟩;have sz:(s.heap.push {cls:= .type "list",data:= .seq #[]}).objs.size=s.heap.objs.size + 1:=by simp[Heap.push]
 refine⟨⟨_,ι,rfl⟩,F.args_list_init_2 _ _,init (A:=A.in1) (s:={s with heap:=_}) τ U (N.keep λb o e _=>hE _ e) hn ρ (OL sz.symm) ι λh' tk Y c γ k a1 a2 χ φ=>?_⟩;exact⟨rfl,υ h' tk Y c γ (λb o π ο η ν e=>k b o (Kn (i7 e)) π ο η ν (hE _ e)) a1 a2 χ φ⟩
end
end ZP
open PySem PySem.Spec PyProof.Rows
theorem uz:∀O:K0,Vals (O.map V.ref) (O.map y7)
 | []=> .nil
 | _::O=> .cons rfl (uz O)
theorem Ee {X:Cx} {pins:Dc} {σ:St} {ε s:ib} {ο:Hp} (I0:Inv X pins σ ο ε):∀(O:K0) (xs ys:gs V) (H:Hp),Inv X pins σ H s->O.Pairwise (· < ·)->(∀a∈O,ε.heap.objs.size<=a/\H a=hB)->O.length=xs.length->O.length=ys.length->
  (∀(j:Nat) (a:gn) (x y:V),O[j]? =ak a->xs[j]? =ak x->ys[j]? =ak y->∃u v,RelV x u/\RelV y v/\s.heap.IsTuple a #[u,v])->
  ∃H2,Inv X pins σ H2 s/\Same H H2/\(∀b,b∉O->H2 b=H b)/\∀(j:Nat) (a:gn) (x y:V),O[j]? =ak a->xs[j]? =ak x->ys[j]? =ak y->H2 a=ak (.tup [x,y])
 | [],_,_,H,I,_,_,_,_,_=>⟨H,I,Same.refl _,λ_ _=>rfl,λj a x y h=>by simp at h⟩
 | a::O,[],_,H,I,_,_,h,_,_=>by simp at h
 | a::O,_,[],H,I,_,_,_,h,_=>by simp at h
 | a::O,x::xs,y::ys,H,I,pw,fr,l1,l2,ht=>by
   obtain⟨u,v,η,ζ,o,e,c⟩:=ht 0 a x y rfl rfl rfl;have γ:=fr a (kb ..);have Y:=Mw.mp pw;have na:a∉O:=λh=>Lz _ (Y.1 a h);have ξ:Inv X pins σ (upd H a (.tup [x,y])) s:=I.track (I0.fpN (NB γ.1) γ.2) ⟨uC,[u,v],.cons η (.cons ζ .nil),o,e,c⟩;obtain⟨H2,ω,δ,o2,g2⟩:=Ee I0 O xs ys (upd H a (.tup [x,y])) ξ Y.2 (λb hb=>⟨(fr b (ky _ hb)).1,by rw[aJ (λz:b=a=>na (by rw[<-z];exact hb))];exact(fr b (ky _ hb)).2⟩) (by simpa using l1) (by simpa using l2) λj b α Z h1 h2 β=>ht (j + 1) b α Z (by simpa using h1) (by simpa using h2) (by simpa using β);refine⟨H2,ω,λb ob h=>δ b ob (by rw[aJ (ay h γ.2)];exact h),λb hb=>?_,λj b α Z h1 h2 β=>?_⟩
   ·rw[o2 b λz=>hb (ky _ z),aJ (λz:b=a=>hb (by rw[z];exact kb ..))]
   ·cases j with
    | zero=>
      have ν:a=b:=by simpa using h1
      have ι:x=α:=by simpa using h2
      have θ:y=Z:=by simpa using β
      subst ν ι θ;exact δ a _ aP
    | succ j=>exact g2 j b α Z (by simpa using h1) (by simpa using h2) (by simpa using β)
def GA (K:aS) (Q:VK) (x y:V) (H:Hp):Prop:=∃a b xs ys,x= .ref a/\y= .ref b/\SqL K H a xs/\SqL K H b ys/\xs.length=ys.length/\
 ∀(D:gn) (ps:K0) (O:Hp),H D=hB->Same H O->O D=ak (.lst (ps.map V.ref))->ps.length=xs.length->(∀(j:Nat) (p:gn) (x y:V),ps[j]? =ak p->xs[j]? =ak x->ys[j]? =ak y->O p=ak (.tup [x,y]))->Q (.ref D) O
noncomputable def tZip (K:aS) (Y O:TE):TE:=fun σ H Q=>Y σ H λx H1=>O σ H1 λy H2=>GA K Q x y H2
theorem Jv {K:aS} {Y O:TE} {σ:St} {H:Hp} {Q:VK} (h:Y σ H λx H1=>O σ H1 λy H2=>GA K Q x y H2):tZip K Y O σ H Q:=h
section
variable {X:Cx}
theorem IK {K:aS} {β α:Ko} {ο ξ:TE} {p1 p2:Pos} {pins:Dc} {s:ib} {σ:St} {H:Hp} {Q:VK} (hK:X.K=K) (g2:Gl X "zip") (n2:X.mg "zip"=hB) (ν:PE X β ο) (ι:PE X α ξ) (h2:px [β,α] X.env=(false,eval β X.env)::px [α] X.env) (ρ:px [α] X.env=[(false,eval α X.env)])
  (I:Inv X pins σ H s) (h:tZip K ο ξ σ H Q) (Q':DL)
  (υ:∀(Y:ib) (h':Ke) (H1:Hp) (a b:gn) (xs ys:gs V) (its Z:E'),Inv X pins σ H1 Y->Vals xs its->Vals ys Z->its.length<=lx->xs.length=ys.length->h'.objs.size=Y.heap.objs.size + 5->(∀c o,Y.heap.get? c=ak o->h'.get? c=ak o)->
   ZP.New h' (Y.heap.objs.size + 4) (Y.heap.objs.size + 2) (Y.heap.objs.size + 3) Y.heap.objs.size (Y.heap.objs.size + 1) a b its.toArray Z.toArray->
   (∀(D:gn) (ps:K0) (γ:Hp),H1 D=hB->Same H1 γ->γ D=ak (.lst (ps.map V.ref))->ps.length=xs.length->(∀(j:Nat) (p:gn) (x y:V),ps[j]? =ak p->xs[j]? =ak x->ys[j]? =ak y->γ p=ak (.tup [x,y]))->Q (.ref D) γ)->
   Q' (.ref (Y.heap.objs.size + 4)) {Y with heap:=h'}):
  ka (oD X.prog X.w) X.A (eval (.Call (.Name "zip" p1) [β,α] [] p2) X.env) Q' X.xe s:=by
 subst hK;refine Qv (i6 I g2 n2 NY (Km (thn (aa ν (aa ι ag ρ) h2 p2 pins s σ H (λvs H1=>match vs with | [x,y]=>GA X.K Q x y H1 | _=>False) I h) λus Y ⟨vs,H1,I1,δ,ζ⟩=>?_) h2 (by rw[ρ];rfl)))
 match vs,δ,ζ with
 | [x,y],δ,ζ=>
 obtain⟨a,b,xs,ys,ex,ey,sa,ε,hl,q⟩:=ζ;subst ex ey;cases δ with
 | cons rx r2=>
 cases r2 with
 | cons ry O=>
 cases O;cases rx;cases ry;obtain⟨its,π,η,θ⟩:=I1.list sa;obtain⟨Z,rb,pb,a0⟩:=I1.list ε;have la:a < Y.heap.objs.size:=let ⟨o,e,_⟩:=η.isList;hJ e
 have lb:b < Y.heap.objs.size:=let ⟨o,e,_⟩:=pb.isList;hJ e
 refine call_zip_2 η.isList pb.isList λh' ω ψ χ φ τ hsz k=>?_;exact υ Y h' H1 a b xs ys its Z I1 π rb (by rw[<-π.length];exact θ) hl hsz k ⟨zipApart_new la lb,ω,ψ,⟨_,_,χ⟩,φ,τ,let ⟨o,e,c⟩:=η.isList;⟨o,k _ o e,c⟩,let ⟨o,e,c⟩:=pb.isList;⟨o,k _ o e,c⟩⟩ q
theorem rZ {K:aS} {β Y:Ko} {t1 t2:TE} {p1 p2 q1 δ:Pos} (hK:X.K=K) (hc:X.calm=true) (g1:Gl X "list") (g2:Gl X "zip") (n1:X.mg "list"=hB) (n2:X.mg "zip"=hB) (ψ:PE X β t1) (χ:PE X Y t2)
  (h1:px [Expr.Call (.Name "zip" p1) [β,Y] [] p2] X.env=[(false,eval (.Call (.Name "zip" p1) [β,Y] [] p2) X.env)]:=by rfl) (h2:px [β,Y] X.env=(false,eval β X.env)::px [Y] X.env:=by rfl) (h3:px [Y] X.env=[(false,eval Y X.env)]:=by rfl):
  PE X (.Call (.Name "list" q1) [.Call (.Name "zip" p1) [β,Y] [] p2] [] δ) (tZip K t1 t2):=by
 intro pins s σ H Q I h;refine Qv (i6 I g1 n1 Kl (Km (Q:=EP X pins σ Q) ?_ h1 rfl));rw[h1];show ka _ _ (spliced ((false,eval (.Call (.Name "zip" p1) [β,Y] [] p2) X.env)::backTo δ [])) _ _ s;refine OW (IK hK g2 n2 ψ χ h2 h3 I h _ λO h' H1 a b xs ys its π I1 θ rb ε hl hsz k N q=>P5 ?_);have φ:π.toArray.size=its.toArray.size:=by have:=θ.length;have:=rb.length;simp;omega
 refine ZP.call_list (s:={O with heap:=h'}) (I1.ok.hd hc) N (by simpa using ε) φ λh2 tk a4 c Z kk hD ι η G=>?_
 have ξ:∀b o,O.heap.get? b=ak o->h2.get? b=ak o:=λb o e=>by
  have lt:=hJ e;exact kk b o (Kn (f' lt (MV _ _))) (Kn (f' lt (MV _ _))) (Kn lt) (Kn (f' lt (MV _ _))) (k b o e)
 have ω:Inv X pins σ H1 {O with heap:=h2,toks:=tk}:=I1.kept (t':=tk) ξ;have ν:Z.length=xs.length:=by rw[η,θ.length];simp
 have a3:∀p∈Z,O.heap.objs.size<=p/\H1 p=none:=λp ζ=>by
  have h0:O.heap.objs.size<=p:=Lf (by show O.heap.objs.size<=h'.objs.size + 1;rw[hsz];exact Lf (MV _ _) (Oq _)) (G.above p ζ).1;exact⟨h0,I1.hok.fresh h0⟩
 obtain⟨H3,I3,s3,o3,g3⟩:=Ee I1 Z xs ys H1 ω G.rise a3 ν (ν.trans hl) λj p x y ζ τ ρ=>by
  obtain⟨u,v,hu,υ,ht⟩:=G.pairs j p ζ;rw[QG] at hu υ;obtain⟨α,eu,ru⟩:=θ.get τ;obtain⟨v',ev,rv⟩:=rb.get ρ;rw[eu] at hu;cases hu;rw[ev] at υ;cases υ;exact⟨u,v,ru,rv,ht⟩
 have γ:O.heap.objs.size<=h'.objs.size:=by rw[hsz];exact MV _ _
 have fD:H1 h'.objs.size=none:=I1.hok.fresh γ;have nD:h'.objs.size∉Z:=λz=>Nat.not_succ_le_self _ (G.above _ z).1;have ο:H3 h'.objs.size=none:=by rw[o3 _ nD];exact fD
 have a0:O.heap.get? h'.objs.size=none:=NB γ;have I4:Inv X pins σ (upd H3 h'.objs.size (.lst (Z.map V.ref))) {O with heap:=h2,toks:=tk}:=I3.track (I1.fpN a0 ο) ⟨by rw[dt,ν,θ.length];exact ε,Z.map .ref,c,uz Z,by rw[<-ι];exact hD⟩;refine⟨.ref h'.objs.size,_,I4,rfl,q h'.objs.size Z _ fD (λb ob e=>?_) aP ν λj p x y ζ τ ρ=>?_⟩
 ·rw[aJ (ay (s3 b ob e) ο)];exact s3 b ob e
 ·have:=g3 j p x y ζ τ ρ;rw[aJ (ay this ο)];exact this
end
structure FunD (K:aS) (x qual:Kz) (st:N9) (f:gn) (fd:mu) (dv:ia):Prop where
 ex:∃(oc:ia) (od:K4) (T:gn) (kV doc pm:ia) (an:K4) (cdv ct:ia) (osl:HB) (tc:ia) (td:K4) (n:Nat) (tsl:HB),
  fd=Li x qual (gb st) (dy st) (ah st) (.ref T) kV doc pm an cdv ct/\K.lookup f=ak ⟨oc,od,.func fd,osl⟩/\Mz K cdv qual=true/\K.lookup T=ak ⟨tc,td,.seq #[dv] n,tsl⟩
 kp:Lj K (.ref f)=true
section
variable {P:qc} {w:y3} {K:aS} {mg:F'} {base:Ke}
theorem FunD.okX {x O:Kz} {st:N9} {f:gn} {fd:mu} {dv:ia} {N ps:C'} {k:Nat} {sp:Sp} (F:FunD K x O st f fd dv) (S:az N ps (ah st)) (len:∀vs H Q E,sp vs H Q E->vs.length=ps.length)
  (Z:∀(Y:ia) (A:Kj) (outer:gs Env) (s:ib) (H:Hp) (vs:gs V) (Q:VK) (E:XK),Room k (A.deeper (envOfC O (ah st) s.heap.objs.size f Y))->sp vs H Q E->
   ∃t,PSs ((cxOf (CX1 P w) P w K mg base N O (ah st) f Y A outer s H E).thr λ_=>E) (dy st) t/\t {nx:=λ_ H'=>Q .non H',rt:=Q} (start N vs) H):FnOk P w K mg base (CX1 P w) (k + 1) f fd ps sp:=by
 obtain⟨ζ,od,T,kV,ε,δ,an,Y,ct,ι,tc,td,n,β,rfl,lk,η,_⟩:=F.ex;refine Gm lk η S len λA outer s H vs Q E γ α=>?_;obtain⟨t,h,q⟩:=Z Y A outer s H vs Q E γ α;exact⟨t,h.thr xy,q⟩
theorem FunD.binds {x O:Kz} {st:N9} {f:gn} {fd:mu} {dv:ia} {ps:C'} {ds:E'} (F:FunD K x O st f fd dv)
  (h:∀(T:gn) (kV ε Z:ia) (an:K4) (Y ct:ia) (us:E'),(us++ds).length=ps.length->∃k:rl G'->Sem K',bindArgs (Li x O (gb st) (dy st) (ah st) (.ref T) kV ε Z an Y ct) ⟨us,[]⟩=(seqItems? (.ref T) >>=k)/\k (ak #[dv])=pure (ps.zip (us++ds))):mF K fd ps ds:=by
 obtain⟨θ,od,T,kV,ε,Z,an,Y,ct,ι,tc,td,n,α,rfl,lk,η,β⟩:=F.ex;intro s us γ hl;obtain⟨k,ζ,δ⟩:=h T kV ε Z an Y ct us hl;exact BindsTo.of_defaults (T:=T) rfl (γ T _ β) rfl ζ δ
theorem Gj {x O:Kz} {st:N9} {f T:gn} {β tc dv:ia} {od an td:K4} {ι Z:HB} {n:Nat} {kV ε α Y ct:ia} (l:K.lookup f=ak ⟨β,od,.func (Li x O (gb st) (dy st) (ah st) (.ref T) kV ε α an Y ct),ι⟩)
  (γ:K.lookup T=ak ⟨tc,td,.seq #[dv] n,Z⟩) (c:Mz K Y O=true) (k:Lj K (.ref f)=true):FunD K x O st f (Li x O (gb st) (dy st) (ah st) (.ref T) kV ε α an Y ct) dv:=⟨⟨β,od,T,kV,ε,α,an,Y,ct,ι,tc,td,n,Z,rfl,l,c,γ⟩,k⟩
end
section
variable {σ:St} {H:Hp} {Q:VK} {te:TE}
def BS (C:gn) (m:Kz) (sp:Sp) (dvs:gs V) (W:XW) (tr:TA) (σ:St) (Q:VK) (x:V) (H:Hp):Prop:=∃a dx fs,x= .ref a/\H a=ak (.ins C dx fs)/\fs.lookup m=hB/\tr σ H λvs H2=>sp (x::(vs++dvs)) H2 Q (W σ)
theorem eV {C:gn} {m:Kz} {sp:Sp} {dvs:gs V} {W:XW} {tr:TA} (h:te σ H (BS C m sp dvs W tr σ Q)):Eg C m sp dvs W te tr σ H Q:=h
theorem cR {C dx p:gn} {m:Kz} {fs:gs (Kz×V)} {sp:Sp} {dvs:gs V} {W:XW} {tr:TA} (e:H p=ak (.ins C dx fs)) (l:fs.lookup m=hB) (h:tr σ H λvs H2=>sp (.ref p::(vs++dvs)) H2 Q (W σ)):BS C m sp dvs W tr σ Q (.ref p) H:=⟨p,dx,fs,rfl,e,l,h⟩
end
noncomputable def Itzp (K:aS) (a b:gn):It:=
 ⟨λi H=>∃xs ys x y,SqL K H a xs/\SqL K H b ys/\xs[i]? =ak x/\ys[i]? =ak y,
  λi H x H'=>∃p u v,H p=hB/\x= .ref p/\H'=upd H p (.tup [u,v])/\(∀xs,SqL K H a xs->xs[i]? =ak u)/\∀ys,SqL K H b ys->ys[i]? =ak v,
  λi H=>∃xs ys,SqL K H a xs/\SqL K H b ys/\xs.length=ys.length/\xs.length=i⟩
theorem B7 {P:qc} {w:y3} {K:aS} {δ:gs Ko} {k:Nat} {pos:Pos} (a b z TI TO i1 i2:gn) (D:ZipApart z TI TO i1 i2 a b):
  Turn P w K (.Tuple δ k pos) (Itzp K a b) [z,TI,TO,i1,i2] z (λi h=>IsZip h z TI TO .none/\IsPair h TI (.ref i1) (.ref i2)/\(∃u v,IsPair h TO u v)/\h.IsListIter i1 a i/\h.IsListIter i2 b i) where
 mem:=by simp
 obj:=λi h st c hb=>by
  obtain⟨hz,ν,⟨u,v,Y⟩,⟨o1,θ,_,a6⟩,⟨o2,ζ,_,a5⟩⟩:=st;simp only[qn,Ks,Lu] at hb;rcases hb with e | e | e | e | e
  ·rw[e];exact⟨_,hz,λv z=>by cases z⟩
  ·rw[e];exact⟨_,ν,λv z=>by cases z⟩
  ·rw[e];exact⟨_,Y,λv z=>by cases z⟩
  ·rw[e];exact⟨o1,θ,λv z=>by rw[a6] at z;cases z⟩
  ·rw[e];exact⟨o2,ζ,λv z=>by rw[a5] at z;cases z⟩
 keep:=λi h h' st k=>by
  obtain⟨hz,ν,⟨u,v,Y⟩,h1,h2⟩:=st;exact⟨k z @D _ hz,k TI @D _ ν,⟨u,v,k TO @D _ Y⟩,h1.at λo e=>k i1 @D o e,h2.at λo e=>k i2 @D o e⟩
 item:=by
  intro X hP hw hK hc i pins s σ H E I hf st hg;subst hP hw hK;obtain⟨xs,ys,x,y,ο,ξ,hx,hy⟩:=hg;obtain⟨its,χ,ω,a3⟩:=I.list ο;obtain⟨α,φ,pb,a0⟩:=I.list ξ;obtain⟨hz,ν,Y,h1,h2⟩:=st;have W:=Pg (prog:=X.prog) (w:=X.w) (A:=X.A) (I.ok.hd hc) z TI TO i1 i2 a b D its.toArray α.toArray;have c0:i < its.length:=by have:=χ.length;have:=(eH.mp hx).1;omega
  have b9:i < α.length:=by have:=φ.length;have:=(eH.mp hy).1;omega
  have π:∀c∈[z,TI,TO,i1,i2],c < s.heap.objs.size:=λc hb=>by
   obtain⟨u,v,Y⟩:=Y;obtain⟨o1,θ,_⟩:=h1;obtain⟨o2,ζ,_⟩:=h2;simp only[qn,Ks,Lu] at hb;rcases hb with e | e | e | e | e
   ·rw[e];exact hJ hz
   ·rw[e];exact hJ ν
   ·rw[e];exact hJ Y
   ·rw[e];exact hJ θ
   ·rw[e];exact hJ ζ
  refine W.item i s _ _ (by simp;omega) ⟨hz,ν,Y,h1,h2,ω.isList,pb.isList⟩ λT b5 h' tk b3 hT τ γ hk=>⟨_,rfl,W.go δ k pos i T _ _ _ γ λb4 η υ=>?_⟩;obtain⟨ψ,Z,a4,ρ,rfl⟩:=b3;have b0:=W.apart i T h' γ
  have ru:RelV x ψ:=by
   obtain⟨u,hu,r⟩:=χ.get hx;have O:its[i]? =ak ψ:=by simpa using a4
   rw[hu] at O;cases O;exact r
  have rv:RelV y Z:=by
   obtain⟨u,hu,r⟩:=φ.get hy;have β:α[i]? =ak Z:=by simpa using ρ
   rw[hu] at β;cases β;exact r
  have sub:∀c,c∉[z,TI,TO,i1,i2]->c∉[z,TO,i1,i2]:=λc h ι=>h (by
   simp only[qn,Ks,Lu] at ι ⊢;rcases ι with e | e | e | e<;>simp[e])
  have kk:∀c u,c∉[z,TI,TO,i1,i2]->s.heap.get? c=ak u->b4.get? c=ak u:=λc u hb q=>υ c u (sub c hb) (hk c u (sub c hb) q);have fr:H T=none:=I.hok.fresh hT;refine⟨.ref T,upd H T (.tup [x,y]),I.laidCh (t':=tk) kk hT ⟨uC,[ψ,Z],.cons ru (.cons rv .nil),?_⟩ hf,rfl,⟨T,x,y,fr,rfl,rfl,λzs ε=>by rw[I.list_inj ε ο];exact hx,λzs ε=>by rw[I.list_inj ε ξ];exact hy⟩,⟨η.1,η.2.1,η.2.2.1,η.2.2.2.1,η.2.2.2.2.1⟩,λc hb=>?_⟩
  ·obtain⟨o,ho,r⟩:=τ;exact⟨o,υ T o b0 ho,r⟩
  ·rw[aJ (λe=>?_)]
   ·exact(hf c hb).1
   ·have:=π c hb;rw[e] at this;exact kv (f' this hT) (Lz _)
 done:=by
  intro X hP hw hK hc i pins s σ H E I hf st hg;subst hP hw hK;obtain⟨xs,ys,ο,ξ,hl,hn⟩:=hg;obtain⟨its,χ,ω,a3⟩:=I.list ο;obtain⟨α,φ,pb,a0⟩:=I.list ξ;obtain⟨hz,ν,Y,h1,h2⟩:=st;have W:=Pg (prog:=X.prog) (w:=X.w) (A:=X.A) (I.ok.hd hc) z TI TO i1 i2 a b D its.toArray α.toArray;have e:min its.toArray.size α.toArray.size=i:=by have:=χ.length;have:=φ.length;simp;omega
  rw[e] at W
  have sub:∀c,c∉[z,TI,TO,i1,i2]->c∉[z,TO,i1,i2]:=λc h ι=>h (by
   simp only[qn,Ks,Lu] at ι ⊢;rcases ι with e | e | e | e<;>simp[e])
  exact W.done s _ _ ⟨hz,ν,Y,h1,h2,ω.isList,pb.isList⟩ λh' tk hk=>⟨rfl,I.turnedCh (λc u hb q=>hk c u (sub c hb) q) hf⟩
 self:=λ_ _ _ _ _ st h=>MX st.1 h
def Gy (K:aS) (R:It->Hp->Prop) (x y:V) (H:Hp):Prop:=∃a b xs ys,x= .ref a/\y= .ref b/\SqL K H a xs/\SqL K H b ys/\xs.length=ys.length/\R (Itzp K a b) H
noncomputable def iZip (K:aS) (Y O:TE):TI:=fun σ H R=>Y σ H λx H1=>O σ H1 λy H2=>Gy K R x y H2
theorem Hm {K:aS} {Y O:TE} {σ:St} {H:Hp} {R:It->Hp->Prop} (h:Y σ H λx H1=>O σ H1 λy H2=>Gy K R x y H2):iZip K Y O σ H R:=h
section
variable {X:Cx} {K:aS}
theorem HU {γ Z:Ko} {ξ ν:TE} {β:gs Ko} {k:Nat} {tpos p pos:Pos} (hK:X.K=K) (g2:Gl X "zip") (n2:X.mg "zip"=hB) (θ:PE X γ ξ) (η:PE X Z ν)
  (h2:px [γ,Z] X.env=(false,eval γ X.env)::px [Z] X.env:=by rfl) (π:px [Z] X.env=[(false,eval Z X.env)]:=by rfl):
  PI X (.Tuple β k tpos) (.Call (.Name "zip" p) [γ,Z] [] pos) (iZip K ξ ν):=by
 subst hK;intro pins s σ H R I h;refine Qv (i6 I g2 n2 NY (Km (thn (aa θ (aa η ag π) h2 pos pins s σ H (λvs H1=>match vs with | [x,y]=>Gy X.K R x y H1 | _=>False) I h) λus Y ⟨vs,H1,I1,δ,ζ⟩=>?_) h2 (by rw[π];rfl)))
 match vs,δ,ζ with
 | [x,y],δ,ζ=>
 obtain⟨a,b,xs,ys,ex,ey,sa,ε,hl,q⟩:=ζ;subst ex ey;cases δ with
 | cons ψ ω=>
 cases ω with
 | cons χ O=>
 cases O;cases ψ;cases χ;obtain⟨its,ra,ο,a4⟩:=I1.list sa;obtain⟨a0,rb,pb,a3⟩:=I1.list ε;have la:a < Y.heap.objs.size:=let ⟨o,e,_⟩:=ο.isList;hJ e
 have lb:b < Y.heap.objs.size:=let ⟨o,e,_⟩:=pb.isList;hJ e
 have fin:∀c∈[Y.heap.objs.size + 4,Y.heap.objs.size + 2,Y.heap.objs.size + 3,Y.heap.objs.size,Y.heap.objs.size + 1],FpOk X pins H1 c:=λc hb=>by
  have α:Y.heap.objs.size<=c:=by
   simp only[qn,Ks,Lu] at hb;rcases hb with e | e | e | e | e<;>rw[e]<;>omega
  exact I1.fpOk α (I1.hok.fresh α)
 refine call_zip_2 ο.isList pb.isList λh' ι φ υ τ ρ hsz k=>MX ι ?_;exact⟨Y.heap.objs.size + 4,_,_,_,H1,rfl,I1.kept (t':=Y.toks) k,B7 a b _ _ _ _ _ (zipApart_new la lb),⟨ι,φ,⟨_,_,υ⟩,τ,ρ⟩,fin,q⟩
end
theorem DN {K:aS} {n:Nat} {fx:D'} {g:TG} {tc:TT} {te:TE} {σ:St} {H1:Hp} {D:gn} {Q:Hp->Prop} {a b:gn} {xs ys:gs V} (hl:xs.length=ys.length) (Y:Nat->gs V->Hp->Prop) (h0:Y 0 [] (upd H1 D (.lst []))) (hq:∀i zs H,i<=xs.length->Y i zs H->SqL K H a xs/\SqL K H b ys)
  (hs:∀i x y zs H p H',xs[i]? =ak x->ys[i]? =ak y->Y i zs H->H p=hB->Same H H'->H' p=ak (.tup [x,y])->g (.ref p) (df n fx σ) H' λO Z=>tc O Z λb δ=>if b=true then te O δ λv γ=>γ D=ak (.lst zs)/\zs.length < lx/\Y (i + 1) (zs++[v]) (upd γ D (.lst (zs++[v]))) else Y (i + 1) zs δ)
  (hd:∀zs H,Y xs.length zs H->Q H):
  ∃W:Nat->Nat->gs V->Hp->Prop,(∃m,W 0 m [] (upd H1 D (.lst [])))/\∀i m zs H2,W i m zs H2->((Itzp K a b).stop i H2/\Q H2)∨
    ((Itzp K a b).go i H2/\∃N:gs V->Hp->Prop,(∀α H',N α H'->∃ε,ε < m/\W (i + 1) ε α H')/\∀x ζ,(Itzp K a b).yld i H2 x ζ->g x (df n fx σ) ζ λO Z=>tc O Z λb δ=>
      if b=true then te O δ λv γ=>γ D=ak (.lst zs)/\zs.length < lx/\N (zs++[v]) (upd γ D (.lst (zs++[v]))) else N zs δ):=by
 refine⟨λi m zs H=>m=xs.length - i/\i<=xs.length/\Y i zs H,⟨xs.length,@D,LI _,h0⟩,?_⟩;rintro i m zs H ⟨rfl,hi,p⟩;obtain⟨ο,ξ⟩:=hq i zs H hi p;by_cases β:i < xs.length
 ·refine .inr ⟨⟨xs,ys,xs[i],ys[i]' @A,ο,ξ,by simp[β],by simp[show i < ys.length by omega]⟩,Y (i + 1),fun α H' ρ=>⟨xs.length - (i + 1),by omega,rfl,β,ρ⟩,λx H' y=>?_⟩;obtain⟨r,u,v,f,ν,ι,θ,η⟩:=y;subst ν ι;exact hs i u v zs H r _ (θ xs ο) (η ys ξ) p f (c8 f) aP
 ·have e:i=xs.length:=by omega
  subst e;exact .inl ⟨⟨xs,ys,ο,ξ,hl,rfl⟩,hd zs H p⟩
noncomputable abbrev xBM:E':=[.type "ValueError",.type "Exception",.type "BaseException",.type "object"]
structure XOwn (K:aS) (C W f:gn):Prop where
 lk:∃nm q N bs sn sub ab col dd k0 k1 k2 k3 k5,K.lookup C=ak (excClassObj nm q C N bs (.ref W::xBM) true sn sub ab col dd k0 k1 k2 k3 k5 "ValueError.__new__")
 up:OA K W xBM "ValueError.__new__"=true
 init:Kh K (.ref C) "__init__"=ak (ak (.ref f))
 fn:OT K (.ref f)=true
 kp:Lj K (.ref C)=true
 sa:Kh K (.ref C) "__setattr__"=ak (ak (.builtin "object.__setattr__"))
 mo:Lw K C (.type "object")=ak true
 mv:Lw K C (.type "ValueError")=ak true
section
variable {X:Cx} {pins:Dc} {σ:St} {H:Hp} {s:ib} {p C W f:gn} {fs:gs (Kz×V)}
structure J8 (K:aS) (W:gn):Prop where
 ga:Mp K (.ref W) "__getattribute__"=ak (ak (.builtin "type.__getattribute__"))
 rd:QY K W (.type "type")=true
 fd:R1 K (.ref W) (.type "type") "__init__"=ak (.val (.builtin "ValueError.__init__"))
end
noncomputable def JK:gs V->Hp->VK->Prop:=λxs H Q=>∃a b:Int,xs=[.int a,.int b]/\Q (.int (min a b)) H
section
variable {X:Cx}
theorem BD (hc:X.calm=true):lJ X (.builtin "min") JK:=by
 intro pins s σ H xs us Q I r h;obtain⟨a,b,rfl,q⟩:=h;obtain⟨u,v,rfl,Y,O⟩:=B5 r;obtain⟨t,rfl⟩:=Y;obtain⟨t',rfl⟩:=O;refine min_two_ints (I.ok.hd hc) λh' tk hk=>?_;refine⟨.int (min a b),H,I.kept hk,?_,q⟩;by_cases hb:b < a
 ·rw[qb hb,show min a b=b by omega];exact⟨_,rfl⟩
 ·rw[ov hb,show min a b=a by omega];exact⟨_,rfl⟩
end
end L2
namespace PySem
end PySem
namespace L2
open PySem PySem.Spec PyProof.Rows
end L2
namespace PySem
end PySem
namespace L2
open PySem PySem.Spec PyProof.Rows
noncomputable def del (H:Hp) (p:gn):Hp:=λb=>if b=p then hB else H b
inductive PH (X:Cx) (Wo:XW):gs ExceptHandler->(Ends->XW)->Prop where
 | nil:PH X Wo [] (λ_=>Wo)
 | cons {G:gn} {g n:Kz} {i:Nat} {gp hp:Pos} {b₀:N9} {suite:gs N9} {ts:TS} {hs:gs ExceptHandler} {WR:Ends->XW} (cg:GD X.K G) (hg:Gl X g) (hm:X.mg g=ak (.ref G)) (hi:X.N[i]? =ak n) (hk:X.env.scope.names.lookup n=ak .local)
   (hs':∀pins e,PSs (X.mark pins e) (b₀::suite) ts) (hdb:(g == ("__debug__":Kz))=false) (r:PH X Wo hs WR):PH X Wo (.ExceptHandler (ak (.Name g gp)) (ak n) (b₀::suite) hp::hs) (λD=>WTry X.K G i (WR D) ts D)
structure GE (osc:Mj) (ON N:C') (n:Nat) (fx:D') (x0:Kz) (sc:Mj):Prop where
 kind:sc.kind= .function
 one:∃pre post,sc.names=pre++(x0,.cell)::post/\(∀y∈pre,y.2≠.cell)/\∀y∈post,y.2≠.cell
 its:sc.names.lookup x0=ak .cell
 own:∀y∈sc.names,y.2= .local->sc.names.lookup y.1=ak .local
 fre:∀y∈sc.names,y.2= .free->osc.names.lookup y.1=ak .cell∨osc.names.lookup y.1=ak .free
 len:N.length=n + fx.length
 frn:∀k,k < fx.length->∃x j,N[n + k]? =ak x/\fx[k]? =ak j/\ON[j]? =ak x/\sc.names.lookup x=ak .free
theorem sY {l b:gn} {xs zs:gs V} {H:Hp} {Q:VK} (e:H l=ak (.lst xs)) (O:H b=ak (.lst zs)) (hl:xs.length + zs.length<=lx) (n:l≠b) (h:∀H2,Upd H H2 l (.lst (xs++zs))->Q .non H2):Am (.ref l) [.ref b] H Q:=by
 first
 | exact⟨l,b,xs,zs,rfl,rfl,e,O,hl,h _ Upd.of⟩
 | exact⟨l,b,xs,zs,rfl,rfl,e,O,hl,n,h _ Upd.of⟩
section
variable {σ:St} {H:Hp} {D:Ends} {t u:TS}
theorem G7 (h:∀R:St->Hp->Prop,(∀σ H,u D σ H->R σ H)->t {D with nx:=R} σ H):tSeq t u D σ H:=h _ λ_ _ q=>q
theorem s_go {R X:St->Hp->Prop} (e:∀σ H,X σ H->R σ H) (h:X σ H):R σ H:=e _ _ h
end
end L2
namespace ST
open PySem PySem.SetTable
theorem uj (l:D') (Y:l.Pairwise (· < ·)) (j:Nat):∀(f lo hi:Nat),hi<=lo + f->lo<=hi->hi<=l.length->(∀k (h:k < l.length),k < lo->l[k] < j)->(∀k (h:k < l.length),hi<=k->j<=l[k])->
  below.go l.toArray j f lo hi<=l.length/\(∀k (h:k < l.length),k < below.go l.toArray j f lo hi->l[k] < j)/\(∀k (h:k < l.length),below.go l.toArray j f lo hi<=k->j<=l[k])
 | 0,lo,hi,h1,h2,γ,θ,α=>⟨by show lo<=_;omega,λk h hk=>θ k h hk,λk h hk=>α k h (by have:lo<=k:=hk;omega)⟩
 | f + 1,lo,hi,h1,h2,γ,θ,α=>by
   unfold below.go;by_cases h:lo < hi
   ·rw[qb h];dsimp only;have hm:(lo + hi) / 2 < l.length:=by omega
    have e:l.toArray.getD ((lo + hi) / 2) j=l[(lo + hi) / 2]:=by simp[OS,hm]
    rw[e];have pw:=KG.mp Y;by_cases O:l[(lo + hi) / 2] < j
    ·rw[qb O];refine uj l Y j f _ hi @A @A γ (λk hk δ=>?_) α;by_cases β:k=(lo + hi) / 2
     ·subst β;exact O
     ·exact Nat.lt_trans (pw k _ hk hm @A) O
    ·rw[ov O];refine uj l Y j f lo _ @A @A @A θ (λk hk Z=>?_);by_cases β:k=(lo + hi) / 2
     ·subst β;omega
     ·have:=pw _ k hm hk @A;omega
   ·rw[ov h];exact⟨@A,θ,λk hk Z=>α k hk @A⟩
theorem ku {xs:Ll Nat} (O:xs.toList.Pairwise (· < ·)) (j:Nat):
  below xs j<=xs.toList.length/\(∀k (h:k < xs.toList.length),k < below xs j->xs.toList[k] < j)/\(∀k (h:k < xs.toList.length),below xs j<=k->j<=xs.toList[k]):=by
 have:=uj xs.toList O j xs.size 0 xs.size @A (LI _) @D (λk h hk=>kv hk (LO k)) (λk h hk=>kv h (by simp;omega));simpa[below] using this
theorem zH {xs:Ll Nat} (Y:xs.toList.Pairwise (· < ·)) (j:Nat):∀y∈xs.toList.take (below xs j),y < j:=λy O=>by
 obtain⟨k,hk,rfl⟩:=KW.mp O;rw[Kt] at hk;rw[Nl];exact(ku Y j).2.1 k @A @A
theorem Bo {xs:Ll Nat} (Y:xs.toList.Pairwise (· < ·)) (j:Nat):∀y∈xs.toList.drop (below xs j),j<=y:=λy O=>by
 obtain⟨k,hk,rfl⟩:=KW.mp O;rw[MM] at hk;rw[Rj];exact(ku Y j).2.2 _ @A @A
theorem CK {xs:Ll Nat} (O:xs.toList.Pairwise (· < ·)) {j:Nat} (Z:j∉xs.toList):(insertAt xs (below xs j) j).toList.Pairwise (· < ·):=by
 rw[toList_insertAt,OC];refine⟨O.sublist (Pc ..),Mw.mpr ⟨λy hy=>?_,O.sublist (List.drop_sublist ..)⟩,λx Y y hy=>?_⟩
 ·have h1:=Bo O j y hy;have h2:y≠j:=λh=>Z (h ▸ QO hy);omega
 ·rcases qn.mp hy with rfl | hy
  ·exact zH O _ x Y
  ·have h1:=zH O j x Y;have h2:=Bo O j y hy;omega
theorem yV {xs:Ll Nat} (O:xs.toList.Pairwise (· < ·)) {i:Nat} (hi:i < xs.toList.length) {j:Nat} (h1:j<=xs.toList[i]) (h2:∀k (h:k < xs.toList.length),k < i->xs.toList[k] < j):below xs j=i:=by
 have s:=ku O j;by_cases h:below xs j < i
 ·have:=s.2.2 (below xs j) @A (ri _);have:=h2 (below xs j) @A h;omega
 ·by_cases h':i < below xs j
  ·have:=s.2.1 i hi h';omega
  ·omega
structure Tb (t:SetTable) (hs:K3):Prop where
 dm:t.dummies=#[]
 pn:t.plain=true
 rs:t.place.toList.Pairwise (· < ·)
 sz:t.place.toList.length=hs.length
 nf:hs.length * 5 < t.mask * 3
 k:(t.mask=7/\∀j∈t.place.toList,j<=7)∨((t.mask=31∨t.mask=127)/\t.place.toList.map (λn:Nat=>(n:Int))=hs)
theorem xA (j:Nat):has #[] j=false:=by unfold has;simp
theorem zY {t:SetTable} (hd:t.dummies=#[]) {j:Nat} (O:j∉t.place.toList):t.slot j= .empty:=by
 unfold slot;dsimp only;rw[ov,hd,xA,ov @C];intro h;have h:t.place[below t.place j]? =ak j:=by simpa using h
 exact O (by rw[<-L7] at h;exact hQ h)
noncomputable def t8 (p:D'):SetTable:={mask:=7,place:=p.toArray,dummies:=#[],finger:=0,led:=true,moves:=0,plain:=true}
noncomputable def p8 (b:Nat):D':=(lA 8).filter b.testBit
noncomputable def ok8 (b h:Nat):Bool:=if (p8 b).length<=4 then (match (t8 (p8 b)).freeSlot h with | some (j,false)=>decide (j<=7)&& !(p8 b).contains j | _=>false) else true
theorem all8:∀b:Fin 256,∀h:Fin 32,ok8 b.1 h.1=true:=by decide +kernel
theorem Gg {t t':SetTable} (hm:t.mask=t'.mask) (Z:t.place=t'.place) (hd:t.dummies=t'.dummies) (f:Nat->Int) (h:Int):∀n p,probe.go t f h n p=probe.go t' f h n p:=by
 obtain⟨m,ε,d,η,l1,β,α⟩:=t;obtain⟨ζ,ρ,d',δ,γ,Y,O⟩:=t';dsimp only at hm Z hd;subst hm Z hd;intro n
 induction n with
 | zero=>intro p;rfl
 | succ n ih=>
   intro p;unfold probe.go;simp only[ih];rfl
theorem Bd {t t':SetTable} (hm:t.mask=t'.mask) (O:t.place=t'.place) (hd:t.dummies=t'.dummies) (h:Int):t.freeSlot h=t'.freeSlot h:=by
 unfold QE probe;rw[Gg hm O hd,hm];have:t.probeStart h=t'.probeStart h:=by unfold probeStart;rw[hm]
 rw[this]
noncomputable def bm:D'->Nat
 | []=>0
 | j::l=>2 ^ j||| bm l
theorem EJ (k:Nat):∀l:D',(bm l).testBit k=decide (k∈l)
 | []=>by unfold bm;simp
 | j::l=>by
   unfold bm;rw[R',EJ k l,z0,MY,Bool.or_eq_true,Kc,Kc,Kc,qn];exact⟨λh=>h.imp Eq.symm id,λh=>h.imp Eq.symm id⟩
theorem IT:∀{l:D'},(∀j∈l,j<=7)->bm l < 2 ^ 8
 | [],_=>by decide
 | j::l,h=>Nat.or_lt_two_pow (Kf @C (by have:=h j kb;omega)) (IT λk hk=>h k (ky _ hk))
theorem Aj:∀{l O:D'},l.Pairwise (· < ·)->O.Pairwise (· < ·)->(∀x,x∈l↔x∈O)->l=O
 | [],[],_,_,_=>rfl
 | [],y::O,_,_,h=>kv ((h y).mpr kb) @D
 | x::l,[],_,_,h=>kv ((h x).mp kb) @D
 | x::l,y::O,pa,pb,h=>by
   obtain⟨a,p⟩:=Mw.mp pa;obtain⟨Y,ρ⟩:=Mw.mp pb;clear pa pb
   have e:x=y:=by
    rcases qn.mp ((h x).mp kb) with e | m
    ·exact e
    ·rcases qn.mp ((h y).mpr kb) with e | m'
     ·exact e.symm
     ·have:=Y x m;have:=a y m';omega
   subst e;refine zt (x::·) (Aj p ρ λz=>⟨λm=>?_,λm=>?_⟩)
   ·rcases qn.mp ((h z).mp (ky _ m)) with e | m'
    ·have:=a z m;omega
    ·exact m'
   ·rcases qn.mp ((h z).mpr (ky _ m)) with e | m'
    ·have:=Y z m;omega
    ·exact m'
theorem JO {l:D'} (O:l.Pairwise (· < ·)) (h:∀j∈l,j<=7):p8 (bm l)=l:=by
 refine Aj (N1 _ Og) O λx=>?_;unfold p8;rw[LC,EJ,Kc,Kw];exact⟨λz=>z.2,λz=>⟨by have:=h x z;omega,z⟩⟩
theorem JZ {t:SetTable} (hm:t.mask=7) (hd:t.dummies=#[]) (O:t.place.toList.Pairwise (· < ·)) (hl:∀j∈t.place.toList,j<=7) (θ:t.place.toList.length<=4) {h:Nat} (τ:h < 32):
  ∃j,t.freeSlot (h:Int)=ak (j,false)/\j<=7/\j∉t.place.toList:=by
 have e:t.freeSlot (h:Int)=(t8 t.place.toList).freeSlot (h:Int):=Bd hm (by unfold t8;simp) hd _;have a:=all8 ⟨bm t.place.toList,IT hl⟩ ⟨h,τ⟩;dsimp only at a;unfold ok8 at a;rw[JO O hl,qb θ,<-e] at a;cases hf:t.freeSlot (h:Int) with
 | none=>rw[hf] at a;cases a
 | some q=>
   obtain⟨j,d⟩:=q;rw[hf] at a;cases d with
   | true=>cases a
   | false=>
     dsimp only at a;rw[KL,Kc] at a;exact⟨j,rfl,a.1,λY=>by simp[Y] at a⟩
theorem xR {h:Nat} (τ:h < 32):bits (h:Int)=h:=by
 unfold bits;rw[Int.emod_eq_of_lt @A (by norm_cast;exact f' τ @C)];rfl
theorem JY {t:SetTable} {h:Nat} (hm:31<=t.mask) (hd:t.dummies=#[]) (τ:h < 32) (O:h∉t.place.toList):t.freeSlot (h:Int)=ak (h,false):=by
 have hb:bits (h:Int) % (t.mask + 1)=h:=by rw[xR τ];exact Px @A
 unfold QE probe probeStart;rw[hb];have:10 * turns t.mask=(10 * turns t.mask - 1) + 1:=by unfold turns;omega
 rw[this];unfold probe.go;rw[zY hd O];rfl
structure Ow (M:Nat) (owner:Ll (rl Nat)) (pre:K3):Prop where
 sz:owner.size=M + 1
 at':∀j,j<=M->owner.getD j hB=pre.findIdx? (· == (j:Int))
def Sm (hs:K3):Prop:=∀h∈hs,∃n:Nat,h=(n:Int)/\n < 32
theorem Gk {M:Nat} {owner:Ll (rl Nat)} {i:Nat} (hs:owner.size=M + 1) (hi:i<=M) (h:owner.getD i hB=hB) (n p:Nat):layClean.free M owner (n + 1) i p=ak i:=by
 unfold layClean.free;obtain⟨m,hm⟩:∃m,runEnd M i + 1 - i=m + 1:=⟨runEnd M i - i,by unfold runEnd;split<;>omega⟩;rw[hm,Of,List.find?_cons_of_pos]
 ·rfl
 ·show(owner.getD (i + 0) (ak 0)).isNone=true;have e:owner.getD i (ak 0)=owner.getD i none:=by simp[OS,show i < owner.size by omega]
  rw[Nat.add_zero,e,h];rfl
theorem Bf {M:Nat} (θ:31<=M) {f:rl (Ll (rl Nat)×Nat)->Int->rl (Ll (rl Nat)×Nat)} (hf:∀owner k h j,layClean.free M owner (turns M) (bits h % (M + 1)) (bits h)=ak j->f (ak (owner,k)) h=ak (owner.setIfInBounds j (ak k),k + 1)):
  ∀(hs pre:K3) (owner:Ll (rl Nat)),Ow M owner pre->Sm hs->(pre++hs).Nodup->∃O,hs.foldl f (ak (owner,pre.length))=ak (O,pre.length + hs.length)/\Ow M O (pre++hs)
 | [],pre,owner,o,_,_=>⟨owner,rfl,by rw[LD];exact o⟩
 | h::hs,pre,owner,o,sm,nd=>by
   obtain⟨n,rfl,hn⟩:=sm h kb
   have γ:(n:Int)∉pre:=by
    rw[NL] at nd;exact fun ζ=>nd.2.2 _ ζ _ kb rfl
   have hb:bits (n:Int) % (M + 1)=n:=by rw[xR hn];exact Px @A
   have Y:owner.getD n hB=none:=by
    rw[o.at' n @A,Q9]
    exactλx β=>by
     rw[Kr];exactλe=>γ (e ▸ β)
   have δ:layClean.free M owner (turns M) (bits (n:Int) % (M + 1)) (bits (n:Int))=ak n:=by
    rw[hb];exact Gk o.sz @A Y _ _
   have o':Ow M (owner.setIfInBounds n (ak pre.length)) (pre++[(n:Int)]):=by
    refine⟨by rw[Array.size_setIfInBounds,o.sz],λj η=>?_⟩;rw[List.findIdx?_append,<-o.at' j η];have Z:j < owner.size:=by rw[o.sz];omega
    by_cases e:n=j
    ·subst e;rw[Y];simp[OS,Z]
    ·have ε:¬((n:Int) == (j:Int))=true:=by rw[Mu];omega
     simp[OS,Z,e,List.findIdx?_cons,Array.getElem_setIfInBounds];cases owner[j]<;>simp<;>omega
   obtain⟨α,ε,o2⟩:=Bf θ hf hs (pre++[(n:Int)]) _ o' (λx β=>sm x (ky _ β)) (by rw[Mo];exact nd);refine⟨α,?_,by rw[Mo] at o2;exact o2⟩;rw[NX,hf _ _ _ _ δ,show pre.length + 1=(pre++[(n:Int)]).length by simp,ε];simp;omega
theorem DQ {M:Nat} (Z:31<=M) {hs:Ll Int} (sm:Sm hs.toList) (nd:hs.toList.Nodup):∃owner,layClean M hs=ak owner/\Ow M owner hs.toList:=by
 unfold layClean;rw[<-Array.foldl_toList]
 obtain⟨o',e,o⟩:=Bf Z (f:=λO h=>do
  let (owner,k) <-O
  let j <-layClean.free M owner (turns M) (bits h % (M + 1)) (bits h)
  pure (owner.setIfInBounds j (ak k),k + 1)) (λowner k h j e=>by
   show(layClean.free M owner (turns M) (bits h % (M + 1)) (bits h)).bind _=_;rw[e];rfl) hs.toList [] (Rz (M + 1) hB) ⟨Array.size_replicate,λj Y=>by simp[OS,Nat.lt_succ_of_le Y]⟩ sm (by simpa using nd)
 refine⟨o',?_,by simpa using o⟩
 have α:hs.toList.foldl (λO h=>do
  let (owner,k) <-O
  let j <-layClean.free M owner (turns M) (bits h % (M + 1)) (bits h)
  pure (owner.setIfInBounds j (ak k),k + 1)) (ak (Rz (M + 1) hB,0))=ak (o',0 + hs.toList.length):=e
 rw[α];rfl
noncomputable def liv (M:Nat) (hs:K3):A':=(lA (M + 1)).filterMap λ(j:Nat)=>(hs.findIdx? λx=>x == (j:Int)).map λk=>(j,k)
theorem xG {α β:Type} {f g:α->rl β}:∀{l:gs α},(∀x∈l,f x=g x)->l.filterMap f=l.filterMap g
 | [],_=>rfl
 | x::l,h=>by rw[MR,MR,h x kb,xG λy O=>h y (ky _ O)]
theorem pV {M:Nat} {hs:K3} {q:Nat×Nat}:q∈liv M hs↔q.1<=M/\hs.findIdx? (· == (q.1:Int))=ak q.2:=by
 unfold liv;rw[OY];constructor
 ·rintro⟨j,O,e⟩;obtain⟨k,hk,rfl⟩:=KY.mp e;exact⟨by have:=Kw.mp O;show j<=M;omega,hk⟩
 ·rintro⟨h,e⟩;exact⟨q.1,Kw.mpr @A,by rw[e];rfl⟩
theorem Dx {hs:K3} {j k:Nat} (h:hs.findIdx? (· == (j:Int))=ak k):hs[k]? =ak (j:Int):=by
 obtain⟨hk,e,_⟩:=P6.mp h;rw[fy hk];exact zt ak (by simpa using e)
theorem J3 {hs:K3} (nd:hs.Nodup) {j k:Nat} (h:hs[k]? =ak (j:Int)):hs.findIdx? (· == (j:Int))=ak k:=by
 obtain⟨hk,e⟩:=eH.mp h;rw[P6];refine⟨hk,by simp[e],λi hi=>?_⟩;have:=KG.mp nd i k @A hk hi;simp only[Mu,Ry];simpa[e] using this
theorem xw (M:Nat) (hs:K3):(liv M hs).Pairwise (λa b=>a.1 < b.1):=by
 unfold liv;rw[List.pairwise_filterMap];refine Q0 ?_ Og;intro a b ξ p Y q O;obtain⟨_,_,rfl⟩:=KY.mp Y;obtain⟨_,_,rfl⟩:=KY.mp O;exact ξ
theorem C7 {M:Nat} (Y:31<=M) {hs:K3} (sm:Sm hs) (nd:hs.Nodup):((liv M hs).map (·.2)).Perm (lA hs.length):=by
 rw[List.perm_ext_iff_of_nodup _ O1]
 ·intro k;rw[oi,Kw];constructor
  ·rintro⟨q,O,rfl⟩;exact(eH.mp (Dx (pV.mp O).2)).1
  ·intro hk;obtain⟨n,e,hn⟩:=sm _ (LU hk);exact⟨(n,k),pV.mpr ⟨by show n<=M;omega,J3 nd (by rw[fy hk,e])⟩,rfl⟩
 ·rw[y',Nk];refine P7 ?_ (xw M hs);intro a b ha hb ξ e;have h1:=Dx (pV.mp ha).2;have h2:=Dx (pV.mp hb).2;rw[e,h2] at h1;have:=kf h1;omega
theorem xk {α:Type} {es:Ll (Int×α)}:∀{L:A'},(∀q∈L,(es.toList.map (·.1))[q.2]? =ak (q.1:Int))->((L.map (·.2)).filterMap (es[·]?)).map (·.1)=(L.map (·.1)).map (λn:Nat=>(n:Int))
 | [],_=>rfl
 | q::L,h=>by
   have O:=h q kb;rw[lz,L7] at O;obtain⟨e,he,Y⟩:=KY.mp O;rw[KF,List.filterMap_cons_some he,KF,KF,KF,Y,xk λq O=>h q (ky _ O)]
theorem xc {t:SetTable} {es:Ll (Int×ia)} {ψ M:Nat} (hw:sizeAbove ψ - 1=M) (ν:M=31∨M=127) (pn:t.plain=true) (sm:Sm (es.toList.map (·.1))) (nd:(es.toList.map (·.1)).Nodup) (nf:es.toList.length * 5 < M * 3):
  Tb (relayAll t es ψ).2.1 ((relayAll t es ψ).1.toList.map (·.1))/\(relayAll t es ψ).2.1.led=t.led:=by
 have α:31<=M:=by omega
 have γ:(es.map (·.1)).toList=es.toList.map (·.1):=Array.toList_map;obtain⟨owner,θ,o⟩:=DQ α (hs:=es.map (·.1)) (by rw[γ];exact sm) (by rw[γ];exact nd);rw[γ] at o;generalize Z:es.toList.map (·.1)=hs at *
 have lhs:hs.length=es.size:=by rw[<-Z,dt,ic]
 have hl:(lA (M + 1)).filterMap (λj=>(owner.getD j hB).map (j,·))=liv M hs:=by
  unfold liv;refine xG λj η=>?_;rw[o.at' j (by have:=Kw.mp η;omega)]
 have ε:t.relaid (es.map (·.1)) ψ=ak ({mask:=M,place:=((liv M hs).map (·.1)).toArray,dummies:=#[],finger:=t.finger,led:=t.led,moves:=t.movedTo M,plain:=t.plain},((liv M hs).map (·.2)).toArray):=by
  unfold relaid laid;rw[hw,θ];show ak _=ak _;rw[hl]
 have δ:=C7 α sm nd;have ll:(liv M hs).length=es.size:=by rw[<-dt (·.2),δ.length_eq,wq,lhs]
 have Y:=xk (es:=es) (L:=liv M hs) λq ζ=>by rw[Z];exact Dx (pV.mp ζ).2
 have O:(((liv M hs).map (·.2)).filterMap (es[·]?)).length=es.size:=by
  have:=zt M' Y;rw[dt,dt,dt,ll] at this;exact this
 have hsz:(((liv M hs).map (·.2)).toArray.filterMap (es[·]?)).size=es.size:=by
  rw[<-ic (xs:=((liv M hs).map (·.2)).toArray.filterMap (es[·]?)),N6];exact O
 have β:coversAll ((liv M hs).map (·.2)).toArray es.size=true:=by
  unfold coversAll;rw[<-lhs];exact List.isPerm_iff.mpr δ
 have ι:relayAll t es ψ=((((liv M hs).map (·.2)).toArray.filterMap (es[·]?)),{mask:=M,place:=((liv M hs).map (·.1)).toArray,dummies:=#[],finger:=t.finger,led:=t.led,moves:=t.movedTo M,plain:=t.plain},false):=by
  unfold relayAll;rw[ε];dsimp only;rw[qb];rw[β,KB,hsz];unfold Re fill;simp only[vu,dt,ll,KL,Mu,Kc];refine⟨trivial,?_⟩
  ·rw[ic] at nf;show es.size + 0<=M;omega
 rw[ι];refine⟨⟨rfl,pn,?_,?_,?_,.inr ⟨ν,?_⟩⟩,rfl⟩
 ·show((liv M hs).map (·.1)).Pairwise (· < ·);rw[Nk];exact xw M hs
 ·show((liv M hs).map (·.1)).length=_;rw[N6,dt,dt,O,ll]
 ·show _ * 5 < M * 3;rw[N6,dt,O];rw[ic] at nf;exact nf
 ·show((liv M hs).map (·.1)).map _=_;rw[N6,Y]
theorem few {hs:K3} (sm:Sm hs) (nd:hs.Nodup):hs.length<=32:=by
 have:hs ⊆ (lA 32).map (λn:Nat=>(n:Int)):=λh τ=>by
  obtain⟨n,rfl,hn⟩:=sm h τ;exact oi.mpr ⟨n,Kw.mpr hn,rfl⟩
 have:=List.Nodup.length_le_of_subset nd this;simpa using this
theorem IX {t:SetTable} {es:Ll (Int×ia)} {h:Nat} {x:ia} (tb:Tb t (es.toList.map (·.1))) (sm:Sm (es.toList.map (·.1))) (nd:(es.toList.map (·.1)).Nodup) (hn:h < 32) (γ:(h:Int)∉es.toList.map (·.1)):
  (layNew t es h x).2.2.1=false/\
  ((layNew t es h x).2.1.tooFull=false->Tb (layNew t es h x).2.1 ((layNew t es h x).1.toList.map (·.1)))/\
  ((layNew t es h x).2.1.tooFull=true->Tb (relayAll (layNew t es h x).2.1 (layNew t es h x).1 (grown (layNew t es h x).1.size)).2.1 ((relayAll (layNew t es h x).2.1 (layNew t es h x).1 (grown (layNew t es h x).1.size)).1.toList.map (·.1))):=by
 obtain⟨dm,pn,rs,sz,nf,k⟩:=tb;have ο:(es.toList.map (·.1)).length=es.size:=by rw[dt,ic]
 rw[ο] at sz nf;have θ:=RC t es h x
 obtain⟨j,hf,ρ,hk⟩:∃j,t.freeSlot (h:Int)=ak (j,false)/\j∉t.place.toList/\((t.mask=7/\j<=7/\∀j∈t.place.toList,j<=7)∨((t.mask=31∨t.mask=127)/\j=h/\t.place.toList.map (λn:Nat=>(n:Int))=es.toList.map (·.1))):=by
  rcases k with ⟨ν,hl⟩ | ⟨mB,ζ⟩
  ·obtain⟨j,a,b,c⟩:=JZ ν dm rs hl @A hn;exact⟨j,a,c,.inl ⟨ν,b,hl⟩⟩
  ·have:h∉t.place.toList:=fun φ=>γ (by rw[<-ζ];exact oi.mpr ⟨h,φ,rfl⟩);exact⟨h,JY @A dm hn this,this,.inr ⟨mB,rfl,ζ⟩⟩
 clear k
 have υ:(insertAt t.place (below t.place j) j).size=es.size + 1:=by
  rw[<-ic,(insertAt_perm _ _ _).length_eq,ic,Oe,<-sz,ic]
 have O:(insertAt es (below t.place j) ((h:Int),x)).size=es.size + 1:=by
  rw[<-ic,(insertAt_perm _ _ _).length_eq,ic,Oe]
 have χ:layNew t es h x=(insertAt es (below t.place j) ((h:Int),x),{t with place:=insertAt t.place (below t.place j) j},false,false):=by
  unfold layNew;rw[hf];dsimp only[Rt];rw[dm,xA,ov @C]
  have δ:({t with place:=insertAt t.place (below t.place j) j,dummies:=#[]}:SetTable).fits (insertAt es (below t.place j) ((h:Int),x)).size=true:=by
   unfold Re fill;simp only[υ,O,KL,Mu,Kc];refine⟨trivial,?_⟩;show es.size + 1 + 0<=t.mask;omega
  unfold Qt;rw[δ,qb rfl];obtain⟨m,ψ,d,ω,l1,ξ,ι⟩:=t;dsimp only at dm;subst dm;rfl
 rw[χ] at θ ⊢
 have τ:Sm ((insertAt es (below t.place j) ((h:Int),x)).toList.map (·.1))/\((insertAt es (below t.place j) ((h:Int),x)).toList.map (·.1)).Nodup:=by
  have Z:=θ.map (·.1);rw[N5,hH] at Z;refine⟨λy hy=>?_,Z.nodup_iff.mpr ?_⟩
  ·rcases oT.mp (Z.mem_iff.mp hy) with hy | hy
   ·exact sm y hy
   ·rw[KF,Q2,hL] at hy;exact⟨h,hy,hn⟩
  ·rw[NL];refine⟨nd,@D,λa ha b hb=>?_⟩;rw[KF,Q2,hL] at hb;rw[hb];intro e;have e:a=(h:Int):=e;rw[e] at ha;exact γ ha
 dsimp only
 have Y:({t with place:=insertAt t.place (below t.place j) j}:SetTable).tooFull=decide ((es.size + 1) * 5≥t.mask * 3):=by
  unfold tooFull fill;rw[υ,dm];rfl
 refine⟨rfl,fun ε=>⟨dm,pn,CK rs ρ,?_,?_,?_⟩,fun β=>?_⟩
 ·rw[dt,ic,ic,O];exact υ
 ·rw[Y,decide_eq_false_iff_not] at ε;rw[dt,ic,O];show _ < t.mask * 3;omega
 ·rcases hk with ⟨ν,π,hl⟩ | ⟨mB,rfl,ζ⟩
  ·refine .inl ⟨ν,λy hy=>?_⟩;rcases oT.mp ((N5 (xs:=t.place) (x:=j)) ▸ (insertAt_perm _ _ _).mem_iff.mp hy) with hy | hy
   ·exact hl y hy
   ·rw[hL.mp hy];exact π
  ·refine .inr ⟨mB,?_⟩;show(insertAt t.place (below t.place j) j).toList.map _=_;rw[toList_insertAt,toList_insertAt,hH,hH,KF,KF,Nh,Nh,S1,S1,ζ]
 ·rw[Y,Kc] at β;rw[O];have α:=few τ.1 τ.2;rw[dt,ic,O] at α;rcases hk with ⟨ν,_⟩ | ⟨mB | mB,_⟩
  ·have η:es.size=4:=by omega
   exact(xc (M:=31) (by rw[η];decide +kernel) (.inl rfl) pn τ.1 τ.2 (by rw[ic,O];omega)).1
  ·have η:es.size=18:=by omega
   exact(xc (M:=127) (by rw[η];decide +kernel) (.inr rfl) pn τ.1 τ.2 (by rw[ic,O];omega)).1
  ·omega
theorem r9 (t:SetTable) (es:Ll (Int×ia)) (h:Int) (x:ia):(layNew t es h x).2.1.led=t.led:=by
 unfold layNew;split
 ·dsimp only[Rt,Qt];split<;>(split<;>rfl)
 ·rfl
theorem Ak (t:SetTable) (es:Ll (Int×ia)) (ψ:Nat):(relayAll t es ψ).2.1.led=t.led:=by
 unfold relayAll;cases O:t.relaid (es.map (·.1)) ψ with
 | none=>rfl
 | some q=>
   obtain⟨t',Y⟩:=q;dsimp only;split
   ·unfold relaid laid at O;cases Z:layClean (sizeAbove ψ - 1) (es.map (·.1)) with
    | none=>rw[Z] at O;cases O
    | some ow=>
      rw[Z] at O;have O:=kf O;have:=zt QI O;rw[<-this]
   ·rfl
noncomputable def fin (t:SetTable) (es:Ll (Int×ia)) (h:Int) (x:ia):Ll (Int×ia)×SetTable:=
 if (!(layNew t es h x).2.2.1&&(layNew t es h x).2.1.tooFull)=true then ((relayAll (layNew t es h x).2.1 (layNew t es h x).1 (grown (layNew t es h x).1.size)).1,(relayAll (layNew t es h x).2.1 (layNew t es h x).1 (grown (layNew t es h x).1.size)).2.1) else ((layNew t es h x).1,(layNew t es h x).2.1)
theorem Dq (t:SetTable) (es:Ll (Int×ia)) (h:Int) (x:ia):(fin t es h x).1.toList.Perm (es.toList++[(h,x)]):=by
 have:=RC t es h x;rw[N5] at this;unfold fin;split
 ·exact(relayAll_perm _ _ _).trans this
 ·exact this
theorem Dw (t:SetTable) (es:Ll (Int×ia)) (h:Int) (x:ia):(fin t es h x).2.fits (fin t es h x).1.size=true:=by
 unfold fin;split
 ·exact relayAll_fits _ _ _
 ·exact layNew_fits _ _ _ _
theorem Gp (t:SetTable) (es:Ll (Int×ia)) (h:Int) (x:ia):(fin t es h x).2.led=t.led:=by
 unfold fin;split
 ·exact(Ak _ _ _).trans (r9 _ _ _ _)
 ·exact r9 _ _ _ _
theorem IG {t:SetTable} {es:Ll (Int×ia)} {h:Nat} {x:ia} (tb:Tb t (es.toList.map (·.1))) (sm:Sm (es.toList.map (·.1))) (nd:(es.toList.map (·.1)).Nodup) (hn:h < 32) (O:(h:Int)∉es.toList.map (·.1)):Tb (fin t es h x).2 ((fin t es h x).1.toList.map (·.1)):=by
 obtain⟨a,b,c⟩:=IX (x:=x) tb sm nd hn O;unfold fin;rw[a,Bool.not_false,KB];split
 ·exact c (by assumption)
 ·exact b (by cases h:(layNew t es (↑_) x).2.1.tooFull<;>simp_all)
open PyProof.Rows
noncomputable abbrev byT (w:y3):Bool:=w.params.followText "set-order"
theorem tT {k:Nat} (h:k < 32):hashInt (k:Int)=k:=by
 have:∀k:Fin 32,hashInt ((k.1:Nat):Int)=((k.1:Nat):Int):=by decide +kernel
 exact this ⟨k,h⟩
structure SI (w:y3) (o:P8) (ns:K3) (es:Ll (Int×ia)) (ep:Nat) (t:SetTable):Prop where
 ex:o.ExactSet
 d:o.data= .set es ep t
 v:∀e∈es.toList,∃tk,e.2= .int e.1 tk
 p:(es.toList.map (·.1)).Perm ns
 f:t.fits es.size=true
 l:t.led= !byT w
 tb:byT w=false->Tb t (es.toList.map (·.1))
def SIs (w:y3) (h:Ke) (a:gn) (ns:K3):Prop:=∃o es ep t,h.get? a=ak o/\SI w o ns es ep t
section
variable {prog:qc} {w:y3} {A:Kj} {E:DL} {s:ib}
theorem SI.elems {o:P8} {ns:K3} {es:Ll (Int×ia)} {ep:Nat} {t:SetTable} (S:SI w o ns es ep t) (sm:Sm ns):ElemsOf (intKind prog w) es.toList:=λe he=>by
 obtain⟨tk,O⟩:=S.v e he;obtain⟨n,Y,hn⟩:=sm e.1 (S.p.mem_iff.mp (oi.mpr ⟨e,he,rfl⟩));refine⟨⟨e.1,?_,?_⟩,?_⟩
 ·rw[O];exact Qx prog w _ _
 ·show e.1=hashInt e.1;rw[Y,tT hn]
 ·rw[O];rfl
theorem SI.few {o:P8} {ns:K3} {es:Ll (Int×ia)} {ep:Nat} {t:SetTable} (S:SI w o ns es ep t) (sm:Sm ns) (nd:ns.Nodup):es.size<=32:=by
 have:=S.p.length_eq;rw[dt,ic] at this;have:=ST.few sm nd;omega
theorem GJ {a:gn} {ns:K3} {k:Nat} {tk:Tok} {Q:KS->ib->Prop} (hk:k < 32) (sm:Sm ns) (nd:ns.Nodup) (τ:(k:Int)∉ns) (S:SIs w s.heap a ns)
  (h:∀h',LP a s.heap h'->SIs w h' a (ns++[(k:Int)])->Q true {s with heap:=h'}):ka (oD prog w) A (setAddHashed a (.int k tk) (k:Int)) Q E s:=by
 obtain⟨o,es,ep,t,ho,S⟩:=S;have γ:=S.elems (prog:=prog) sm;have χ:=S.few sm nd;have hb:es.size < scanBound:=by unfold scanBound;omega
 have υ:(intKind prog w).is (k:Int) (.int (k:Int) tk)=true:=Qx prog w _ _
 have ξ:es.toList.findIdx? (λe=>(intKind prog w).is (k:Int) e.2)=none:=by
  rw[Q9];intro e he;obtain⟨a0,e2⟩:=S.v e he;rw[Rl];intro hz;rw[e2] at hz;have:=(intKind prog w).inj _ _ _ hz (Qx prog w e.1 a0);exact τ (by rw[this];exact S.p.mem_iff.mp (oi.mpr ⟨e,he,rfl⟩))
 have put:∀{s':ib} {δ Y:Ll (Int×ia)} {t0 t':SetTable} {φ:Nat} {Q':J9},(∃o',s'.heap.get? a=ak o'/\o'.ExactSet/\o'.data= .set δ φ t0)->Y.size<=64->
   (∀o',(s'.heap.update a (Ra Y t')).get? a=ak o'->o'.ExactSet->o'.data= .set Y (φ + 1) t'->Q' () {s' with heap:=s'.heap.update a (Ra Y t')})->ka (oD prog w) A (storeSet a Y t') Q' E s':=by
  intro s' δ Y t0 t' φ Q' ⟨o',ζ,hx,hd⟩ hz ω;refine wpAny_storeSet_of ζ hd ?_ (fits_of_scanBound (by unfold scanBound;omega));have:=Ku (Ra Y t') ζ (by rw[putSet_of Y t' hd];rfl);rw[putSet_of Y t' hd] at this;exact ω _ this hx rfl
 have β:=Dq t es (k:Int) (.int k tk);have O:=Dw t es (k:Int) (.int k tk);have b4:=Gp t es (k:Int) (.int k tk);have b3:byT w=false->Tb (fin t es (k:Int) (.int k tk)).2 ((fin t es (k:Int) (.int k tk)).1.toList.map (·.1)):=λhw=>IG (S.tb hw) (λy hy=>sm y (S.p.mem_iff.mp hy)) (S.p.nodup_iff.mpr nd) hk (λz=>τ (S.p.mem_iff.mp z))
 have ν:∀h' o' ε,LP a s.heap h'->h'.get? a=ak o'->o'.ExactSet->o'.data= .set (fin t es (k:Int) (.int k tk)).1 ε (fin t es (k:Int) (.int k tk)).2->Q true {s with heap:=h'}:=by
  intro h' o' ε ο ζ hx hd;refine h h' ο ⟨o',_,ε,_,ζ,hx,hd,λe he=>?_,?_,O,b4.trans S.l,b3⟩
  ·rcases oT.mp (β.mem_iff.mp he) with he | he
   ·exact S.v e he
   ·rw[hL.mp he];exact⟨tk,rfl⟩
  ·refine(β.map (·.1)).trans ?_;rw[hH];exact S.p.append_right _
 unfold setAddHashed setAddHashedIn;refine Le (cc (Oc ho S.d S.f ?_));dsimp only;rw[byScan_of (x:= .int (k:Int) tk) rfl hb γ,qb rfl];unfold setAddByScan;refine cc (cc (OG (cc ?_)));have Z:=wpAny_setScan_of (A:=A) (E:=E) (adding:=true) (Q:=λr s'=>r= .absent/\s'=s) υ ho S.d S.f γ (by rw[ξ];exact⟨rfl,rfl⟩);rw[show(intKind prog w).hash (k:Int)=(k:Int) from tT hk] at Z;refine Mt Z ?_ (λ_ _ e=>e);rintro r0 s0 ⟨rfl,α⟩;rw[α];clear α s0;dsimp only;have gw:∀(b:KS) {θ:ib} {Q':J9},Q' () θ->ka (oD prog w) A (match b with | true=>rule "set.scan.the-table-gave-way" | false=>pure ()) Q' E θ:=λb _ _ ω=>by cases b;exact hF ω;exact OG ω
 have η:∀{R:rl KS->ib->Prop},(∀h',LP a s.heap h'->(∃o' ε,h'.get? a=ak o'/\o'.ExactSet/\o'.data= .set (fin t es (k:Int) (.int k tk)).1 ε (fin t es (k:Int) (.int k tk)).2)->R (ak true) {s with heap:=h'})->
   ka (oD prog w) A (do
    storeSet a (layNew t es (k:Int) (.int k tk)).1 (layNew t es (k:Int) (.int k tk)).2.1
    if (!(layNew t es (k:Int) (.int k tk)).2.2.1&&(layNew t es (k:Int) (.int k tk)).2.1.tooFull)=true then do
     (match (relayAll (layNew t es (k:Int) (.int k tk)).2.1 (layNew t es (k:Int) (.int k tk)).1 (grown (layNew t es (k:Int) (.int k tk)).1.size)).2.2 with | true=>rule "set.scan.the-table-gave-way" | false=>pure ())
     storeSet a (relayAll (layNew t es (k:Int) (.int k tk)).2.1 (layNew t es (k:Int) (.int k tk)).1 (grown (layNew t es (k:Int) (.int k tk)).1.size)).1 (relayAll (layNew t es (k:Int) (.int k tk)).2.1 (layNew t es (k:Int) (.int k tk)).1 (grown (layNew t es (k:Int) (.int k tk)).1.size)).2.1
     pure (ak true)
    else pure (ak true)) R E s:=by
  intro R ι
  have a5:(layNew t es (k:Int) (.int k tk)).1.size<=64:=by
   have:=(RC t es (k:Int) (.int k tk)).length_eq;rw[ic,ic,Oe] at this;omega
  have a4:(relayAll (layNew t es (k:Int) (.int k tk)).2.1 (layNew t es (k:Int) (.int k tk)).1 (grown (layNew t es (k:Int) (.int k tk)).1.size)).1.size<=64:=by
   have:=(relayAll_perm (layNew t es (k:Int) (.int k tk)).2.1 (layNew t es (k:Int) (.int k tk)).1 (grown (layNew t es (k:Int) (.int k tk)).1.size)).length_eq;rw[ic,ic] at this;omega
  refine cc (put ⟨o,ho,S.ex,S.d⟩ a5 λo1 ρ π ψ=>?_);unfold fin at ι;split
  ·rename_i hc;rw[qb hc] at ι;refine cc (gw _ (cc (put ⟨o1,ρ,π,ψ⟩ a4 λo2 b0 a6 b5=>hF ?_)));exact ι _ ((Ki _ a _).trans (Ki _ a _)) ⟨o2,_,b0,a6,b5⟩
  ·rename_i hc;rw[ov hc] at ι;exact hF (ι _ (Ki _ a _) ⟨o1,_,ρ,π,ψ⟩)
 refine cc (gw _ ?_);split
 ·refine cc ?_;rw[hashByValue_scannable 8 rfl];refine hF ?_;rw[qb (show plainKind (.int (k:Int) tk)=true from rfl)];refine η λh' ο ⟨o',ε,a1,a2,a3⟩=>?_;exact hF (ν h' o' ε ο a1 a2 a3)
 ·refine cc (hF ?_);rw[qb rfl];refine η λh' ο ⟨o',ε,a1,a2,a3⟩=>?_;exact hF (ν h' o' ε ο a1 a2 a3)
end
theorem SIs.at' {w:y3} {h h':Ke} {a:gn} {ns:K3} (S:SIs w h a ns) (hk:∀o,h.get? a=ak o->h'.get? a=ak o):SIs w h' a ns:=by
 obtain⟨o,es,ep,t,ho,x⟩:=S;exact⟨o,es,ep,t,hk o ho,x⟩
theorem SIs.new (w:y3) (h:Ke) {a:gn} (e:h.get? a=ak {cls:= .type "set",dict:=hB,data:= .set #[] 0 (.fresh 0 0 (!byT w))}):SIs w h a []:=
 ⟨_,#[],0,_,e,⟨⟨rfl,rfl,rfl⟩,rfl,λe he=>by simp at he,@D,rfl,rfl,λ_=>⟨rfl,rfl,by simp[Od],by simp[Od],by simp[Od],.inl ⟨rfl,λj O=>by simp[Od] at O⟩⟩⟩⟩
section
variable {prog:qc} {w:y3} {A:Kj} {R:K8} {I:gn} {fp wr:K0} {G:Ll GenState->Ll GenState->Prop} {P:Nat->ia->Prop} {St:Nat->ib->Prop}
theorem C6 {ns:D'} (W:WalksS prog w A.in1 I fp wr G ns.length P St) (S:gn) (Z:S∉fp) (π:∀i v,P i v->∃n t,ns[i]? =ak n/\v= .int (n:Int) t) (sm:∀n∈ns,n < 32) (nd:ns.Nodup):
  ∀(k i:Nat) (s:ib),ns.length - i=k->i<=ns.length->St i s->SIs w s.heap S ((ns.take i).map (λn:Nat=>(n:Int)))->
    (∀s',Moved (S::wr) G s s'->SIs w s'.heap S (ns.map (λn:Nat=>(n:Int)))->R (.ok (.ret .none)) s')->
    codeAny (oD prog w) A (.builtin "set.update.loop" ⟨[.ref S,.ref I],[]⟩) R s:=by
 have ε:S∉wr:=λz=>Z (W.sub _ z);have up:∀b∈wr,b∈S::wr:=λ_ z=>ky _ z;intro k
 induction k with
 | zero=>
   intro i s χ φ st α ι;obtain rfl:i=ns.length:=by omega
   rw[z9] at α;refine Lx F.entry_set_update_loop ?_;rw[LH F.plain_set_update_loop _];exact cc (m:=pyNext (.ref I)) (W.done s _ _ st λs' mv=>hF (ι s' (mv.mono up) (α.at' λo e=>mv.heap S _ ε e)))
 | succ k ih=>
   intro i s χ φ st α ι;have lt:i < ns.length:=by omega
   refine Lx F.entry_set_update_loop ?_;rw[LH F.plain_set_update_loop _];refine cc (m:=pyNext (.ref I)) (W.item i s _ _ lt st λv s' τ β mv=>?_);obtain⟨n,tk,hn,rfl⟩:=π i v τ;have Y:=sm n (hQ hn);have η:=α.at' (h':=s'.heap) λo e=>mv.heap S _ ε e;refine cc (m:=holding [Pe (n:Int) tk] (setAdd S (.int (n:Int) tk))) (Le ?_);unfold setAdd;refine Le (cc ((intKind prog w).pyHash (k:=(n:Int)) (Qx _ _ _ _) ?_))
   have ζ:(n:Int)∉(ns.take i).map (λn:Nat=>(n:Int)):=λz=>by
    obtain⟨m,hm,e⟩:=oi.mp z;have e:m=n:=Ot e;subst e;obtain⟨j,ρ,e⟩:=KW.mp hm;rw[Kt] at ρ;rw[Nl] at e;have:=KG.mp nd j i @A lt @A;rw[e,(eH.mp hn).2] at this;exact this rfl
   show ka _ _ (setAddHashed S (.int (n:Int) tk) (hashInt (n:Int))) _ _ _;rw[tT Y];refine GJ (s:={s' with toks:=s'.toks + 1}) Y (λy ο=>by obtain⟨m,hm,rfl⟩:=oi.mp ο;exact⟨m,rfl,sm m (OD hm)⟩) ?_ ζ η λh' ν θ=>?_
   ·exact(nd.sublist (Pc ..)).map _ (λa b ξ e=>ξ (Ot e))
   have υ:SIs w h' S ((ns.take (i + 1)).map (λn:Nat=>(n:Int))):=by
    rw[NK,hn,hH];exact θ
   refine hF ⟨Pr F.plain_set_update_loop _,ih (i + 1) _ @A lt (W.frame _ s' _ _ β (Oq _) λb hb o e=>?_) υ fun γ δ O=>?_⟩
   ·rw[ν.2 b (λz=>Z (z ▸ hb))];exact e
   ·refine ι γ (Moved.trans W.gtrans ((mv.mono up).then_heap (Oq _) λb o hb e=>?_) δ) O;rw[ν.2 b (λz=>hb (by rw[z];exact kb))];exact e
end
section
variable {prog:qc} {w:y3} {A:Kj} {E:DL} {s:ib}
noncomputable abbrev nso (w:y3):Obj:={cls:= .type "set",dict:=hB,data:= .set #[] 0 (.fresh 0 0 (!byT w))}
theorem DP (a:ia) {Q:DL} (h:Q (.ref s.heap.objs.size) {s with heap:=s.heap.push (nso w)}):
  codeAny (oD prog w) A (.call (.builtin "set.__new__") ⟨[.type "set",a],[]⟩) (wants Q E) s:=by
 refine codeAny_of_tree (show ka _ A.in1 (checkBuiltinCall "set.__new__" ⟨[.type "set",a],[]⟩ >>=λ_=>again (.builtin "set.__new__" ⟨[.type "set",a],[]⟩)) _ _ s from ?_);refine cc (P1 (F.newCall_set_1 a) (hF ⟨Pr F.plain_set_new _,Lx F.entry_set_new ?_⟩));rw[LH F.plain_set_new _];unfold Builtin.«set.__new__» Builtin.Frozenset.newClass;have O:=sub_set_self;obtain⟨Y,g,d,tk,os⟩:=s;dsimp only
 wp_walk
 refine Q6 (hF ?_);dsimp only;simp only[newObj];exact cc (wpAny_alloc (hF (hF h)))
theorem call_set {l:gn} {O:G'} {ns:D'} {Q:DL} (τ:A.handled=hB) (hl:s.heap.IsList l O) (hi:IntsAre O.toList (ns.map (λn:Nat=>(n:Int)))) (sm:∀n∈ns,n < 32) (nd:ns.Nodup)
  (h:∀(h':Ke) (tk:Nat),SIs w h' s.heap.objs.size (ns.map (λn:Nat=>(n:Int)))->s.heap.objs.size < h'.objs.size->(∀b o,s.heap.get? b=ak o->h'.get? b=ak o)->Q (.ref s.heap.objs.size) {s with heap:=h',toks:=tk}):
  ka (oD prog w) A (call (.type "set") [.ref l]) Q E s:=by
 obtain⟨c,tl,b3⟩:=F.called_set.mro;have χ:=F.called_set.made;have a5:=F.called_set.sub;have hsz:O.size=ns.length:=by have:=IntsAre.length hi;rw[dt,ic] at this;exact this
 refine Qw (codeAny_of_tree (show ka _ _ (callAny (.type "set") _) _ _ _ from ?_));refine hF ⟨OZ _ (by decide +kernel),Lx F.entry_type_call ?_⟩;rw[Around.under_plain (weight_type_call_type "set" [.ref l] []) rfl];have h1:=F.called_set.notType;have h2:=F.called_set.canCreate;have b9:=F.typeCall_set_1 (.ref l)
 repeat (any_goals (first | assumption | wp_step))
 refine Nq (DP (.ref l) (E:=E) (Q:=λobj α=>obj= .ref s.heap.objs.size/\α={s with heap:=s.heap.push (nso w)}) ⟨rfl,rfl⟩) λr α φ=>?_;rcases r with e | fl
 ·exact φ
 cases fl with
 | ret obj=>
   obtain⟨rfl,rfl⟩:=φ;have hS:(s.heap.push (nso w)).get? s.heap.objs.size=ak (nso w):=lT _ rfl;have hT:Shared.TypeIs {s with heap:=s.heap.push (nso w)} (.ref s.heap.objs.size) "set":=⟨_,hS,rfl⟩;have b5:=F.called_set.init.lookup;have c0:=F.called_set.init.bind (.ref s.heap.objs.size)
   repeat (any_goals (first | assumption | wp_step))
   refine Nq (codeAny_call_builtin (R:=wants (λr Z=>r= .none/\∃h' tk,Z={s with heap:=h',toks:=tk}/\SIs w h' s.heap.objs.size (ns.map (λn:Nat=>(n:Int)))/\s.heap.objs.size < h'.objs.size/\(∀b o,s.heap.get? b=ak o->h'.get? b=ak o)) E) F.called_set.init.plain F.entry_set_init (check_set_init_1 hT ?_)) fun ζ Z Y=>?_
   ·obtain⟨ol,ο,δ,nl,γ⟩:=hl;obtain⟨a4,ρ,υ,ν⟩:=ol;dsimp only at δ γ;subst δ γ;have η:=hE (nso w) ο;have a6:=F.sub_list_set;have b0:=F.sub_list_frozenset;have b4:(MW "list" == MW "dict")=false:=by decide
    have hl1:(s.heap.push (nso w)).IsList l O:=⟨_,η,rfl,nl,rfl⟩;unfold Builtin.«set.__init__» noKeywords Builtin.Frozenset.updateFrom;generalize a0:pyIter=PI
    wp_walk
    subst a0;refine MP hl1 (cc (Qz ?_));have ι:l < s.heap.objs.size:=hJ ο;have θ:l≠(s.heap.push (nso w)).objs.size:=by rw[LK];exact Kn (Ma ι)
    have W:=(Walks.list (prog:=prog) (w:=w) (A:=A.in1.in1.in1) (by simp[τ]) (s.heap.push (nso w)).objs.size l θ O).toS;rw[hsz] at W
    have ω:s.heap.objs.size∉[(s.heap.push (nso w)).objs.size,l]:=by
     rw[LK];simp only[qn,Ks,Lu,not_or];exact⟨Kn (LJ _),KJ ι⟩
    refine C6 W s.heap.objs.size ω (λi v hv=>?_) sm nd (ns.length - 0) 0 _ @A (LI _) ⟨⟨_,lT _ rfl,rfl,rfl⟩,hl1.push _⟩ (SIs.new w _ (hE _ hS)) λs' mv ε=>?_
    ·obtain⟨t,e⟩:=IntsAre.int_at hi i v (by rw[L7];exact hv);have β:i < ns.length:=by rw[<-hsz];exact(MH.mp hv).1
     refine⟨ns[i],t,fy β,?_⟩;rw[e,eh,lz,fy β];rfl
    ·obtain⟨h',g',d',ξ,π⟩:=s';obtain rfl:g'=s.gens:=mv.gens;obtain rfl:d'=s.drawn:=mv.drawn;obtain rfl:π=s.os:=mv.os;obtain⟨oS,_,_,_,ψ,_⟩:=id ε;refine hF (hF ⟨rfl,h',ξ,rfl,ε,hJ ψ,λb o e=>?_⟩);have hb:=hJ e;exact mv.heap b o (by rw[LK];simp only[qn,Ks,Lu,not_or];exact⟨Kn hb,Kn (Ma hb)⟩) (hE _ (hE _ e))
   ·rcases ζ with e | fl₂
    ·exact Y
    cases fl₂ with
    | ret r=>
      obtain⟨rfl,h',tk,rfl,a1,a2,a3⟩:=Y
      repeat (any_goals (first | assumption | wp_step))
      exact h _ _ a1 a2 a3
    | _=>exact Y.elim
 | _=>exact φ.elim
end
theorem BG {xs:Ll Nat} (O:xs.toList.Pairwise (· < ·)) {j:Nat} (h2:∀k (h:k < xs.toList.length),xs.toList[k] < j):below xs j=xs.toList.length:=by
 have s:=ku O j;by_cases h:below xs j < xs.toList.length
 ·have:=s.2.2 _ h (ri _);have:=h2 _ h;omega
 ·omega
noncomputable def ord (w:y3) (a:gn) (ep:Nat) (es:Ll (Int×ia)):Ll (Int×ia):=if byT w=true then pickOrder (w.params.setOrder a ep) es else es
noncomputable def slt (w:y3) (t:SetTable) (i:Nat):Nat:=if byT w=true then 0 else if i=0 then 0 else t.place.toList.getD (i - 1) 0 + 1
theorem Bj {α:Type}:∀(l:gs α) (i:Nat) (h:i < l.length),(l[i]::l.eraseIdx i).Perm l
 | x::l,0,_=> .rfl
 | x::l,i + 1,h=>(List.Perm.swap x _ _).trans ((Bj l i (by simpa using h)).cons x)
theorem Av {α:Type} (f:Nat->Nat):∀(n k:Nat) (l:gs α) (out:Ll α),l.length<=n->(PM f n k l out).toList.Perm (out.toList++l)
 | 0,k,l,out,h=>by
   have:l=[]:=Mi @A;subst this;unfold PM;simp
 | n + 1,k,l,out,h=>by
   unfold PM;cases O:l[f k % l.length]? with
   | none=>
     have:l.length=0:=by
      by_cases hz:l.length=0
      ·exact hz
      ·have:=List.getElem?_eq_none_iff.mp O;have:=Nu (f k) (show 0 < l.length by omega);omega
     have:l=[]:=Mi this;subst this;simp
   | some x=>
     dsimp only;obtain⟨hl,e⟩:=eH.mp O;refine(Av f n (k + 1) _ _ (by rw[List.length_eraseIdx];split<;>omega)).trans ?_;rw[N5,Mo];refine List.Perm.append_left _ ?_;rw[List.singleton_append,<-e];exact Bj l _ hl
theorem ord_perm (w:y3) (a:gn) (ep:Nat) (es:Ll (Int×ia)):(ord w a ep es).toList.Perm es.toList:=by
 unfold ord;split
 ·have:=Av (w.params.setOrder a ep) es.size 0 es.toList #[] @D;simpa[pickOrder] using this
 ·exact .rfl
section
variable {prog:qc} {w:y3} {A:Kj} {E:DL} {s:ib}
theorem zu {Q:KS->ib->Prop} (h:Q (byT w) s):ka (oD prog w) A setsByText Q E s:=by
 unfold setsByText;exact cc (Q6 (hF h))
theorem E1 {a:gn} {o:P8} {ns:K3} {es:Ll (Int×ia)} {ep:Nat} {t:SetTable} {i:Nat} {Q:rl (ia×Nat)->ib->Prop} (ho:s.heap.get? a=ak o) (S:SI w o ns es ep t) (hi:i<=es.size)
  (h:Q ((ord w a ep es)[i]?.map λe=>(e.2,slt w t (i + 1))) s):ka (oD prog w) A (setNext a (slt w t i) i ep) Q E s:=by
 unfold setNext;refine cc (Oc ho S.d S.f ?_);dsimp only;refine cc (zu ?_);unfold ord slt at h;unfold slt;cases hb:byT w with
 | true=>
   rw[hb] at h;simp only[↓reduceIte] at h ⊢;rw[ov @D];refine cc ?_;unfold setWalk;refine cc (Oc ho S.d S.f ?_);dsimp only;refine cc (zu ?_);rw[hb,qb rfl];refine cc (Q6 (hF (hF h)))
 | false=>
   have tb:=S.tb hb;rw[hb] at h;have hl:=S.l;rw[hb] at hl;have hsz:t.place.toList.length=es.size:=by rw[tb.sz,dt,ic]
   simp only[R6,↓reduceIte] at h ⊢;show ka _ _ (if (!t.plain&&decide (es.size > 1))=true then _ else _) _ _ s;rw[tb.pn,ov @D];refine cc (show ka _ _ (if (!t.led&& !es.isEmpty)=true then unsupported _ else pure ()) _ _ s from ?_);rw[hl,ov @D];refine hF (hF ?_);have O:=KG.mp tb.rs;by_cases Z:i < es.size
   ·have ω:below t.place (if i=0 then 0 else t.place.toList.getD (i - 1) 0 + 1)=i:=by
     refine yV tb.rs @A ?_ ?_
     ·by_cases β:i=0
      ·rw[qb β];omega
      ·rw[ov β,eh,fy @A];have:=O (i - 1) i @A @A @A;exact this
     ·intro k hk γ;rw[ov @A,eh,fy @A];show _ < t.place.toList[i - 1] + 1;by_cases Y:k=i - 1
      ·subst Y;omega
      ·have:=O k (i - 1) hk @A @A;omega
    rw[ω,<-L7 (xs:=t.place),fy @A,KC Z];rw[KC Z] at h;rw[ov @A,Nat.add_sub_cancel,eh,fy @A] at h;exact h
   ·have α:i=es.size:=by omega
    subst α
    have ω:below t.place (if es.size=0 then 0 else t.place.toList.getD (es.size - 1) 0 + 1)=t.place.toList.length:=by
     refine BG tb.rs ?_;intro k hk;rw[ov @A,eh,fy @A];show _ < t.place.toList[es.size - 1] + 1;by_cases Y:k=es.size - 1
     ·subst Y;omega
     ·have:=O k (es.size - 1) hk @A @A;omega
    rw[ω,hsz,N7 (ri _)];rw[N7 (ri _)] at h;exact h
end
theorem oC:Slot "set_iterator" "__next__" "set_iterator.__next__":= .of (owner:="set_iterator") (n:="__next__") (by rw[OQ,NF];kernel_rfl) (by decide +kernel) (by decide +kernel) (by decide +kernel) (by first | exact .inl (by decide +kernel) | exact .inr (by decide +kernel)) (by rw[QA];kernel_rfl)
theorem w9:Slot "set_iterator" "__iter__" "set_iterator.__iter__":= .of (owner:="set_iterator") (n:="__iter__") (by rw[OQ,NF];kernel_rfl) (by decide +kernel) (by decide +kernel) (by decide +kernel) (by first | exact .inl (by decide +kernel) | exact .inr (by decide +kernel)) (by rw[QA];kernel_rfl)
theorem Bl:entryFor table "set_iterator.__next__"=ak Builtin.«set_iterator.__next__»:=entryFor_of_tree (by kernel_rfl)
theorem Bm:entryFor table "set_iterator.__iter__"=ak Builtin.«dict_keyiterator.__iter__»:=entryFor_alias (id':="dict_keyiterator.__iter__") (by kernel_rfl) rfl (by decide +kernel) (by kernel_rfl)
theorem Dy:entryFor table "set.__iter__"=ak Builtin.«frozenset.__iter__»:=entryFor_alias (id':="frozenset.__iter__") (by kernel_rfl) rfl (by decide +kernel) (by kernel_rfl)
theorem xl:Manifest.owners.lookup (String.ofList ['r','o','t','a','r','e','t','i','_','t','e','s'].reverse)=ak Manifest.sig_set_iterator:=by kernel_rfl
theorem DU (a:ia):argsOk "set_iterator.__next__" ⟨[a],[]⟩:=by
 unfold argsOk;rw[QQ (id:="set_iterator.__next__") (n:=['_','_','t','x','e','n','_','_']) (o:=['r','o','t','a','r','e','t','i','_','t','e','s']) (by kernel_rfl) xl];kernel_rfl
theorem DV (a:ia):argsOk "set_iterator.__iter__" ⟨[a],[]⟩:=by
 unfold argsOk;rw[QQ (id:="set_iterator.__iter__") (n:=['_','_','r','e','t','i','_','_']) (o:=['r','o','t','a','r','e','t','i','_','t','e','s']) (by kernel_rfl) xl];kernel_rfl
noncomputable abbrev sio (w:y3) (d:gn) (t:SetTable) (n ep i:Nat):Data:= .fields #[.int (slt w t i) 0,.int i 0,.ref d,.int n 0,.int ep 0]
def Sit (w:y3) (h:Ke) (I d:gn) (t:SetTable) (n ep i:Nat):Prop:=∃o,h.get? I=ak o/\o.cls= .type "set_iterator"/\o.data=sio w d t n ep i
section
variable {prog:qc} {w:y3} {A:Kj} {E:DL} {s:ib}
variable {I d:gn} {o:P8} {ns:K3} {es:Ll (Int×ia)} {ep:Nat} {t:SetTable}
theorem Sit.ty {i n:Nat} (x:Sit w s.heap I d t n ep i):s.TypeIs (.ref I) "set_iterator":=let ⟨o,a,b,_⟩:=x;⟨o,a,b⟩
theorem A2 {i:Nat} {Q:KA->ib->Prop} (x:Sit w s.heap I d t es.size ep i) (ho:s.heap.get? d=ak o) (S:SI w o ns es ep t) (hi:i<=es.size)
  (h:ka (oD prog w) A.in1 (match (ord w d ep es)[i]?.map λe=>(e.2,slt w t (i + 1)) with
   | some (x,next)=>do
     setField (.ref I) 0 (rawInt next)
     setField (.ref I) 1 (rawInt ((i:Int) + 1))
     ret x
   | none=>do setField (.ref I) 2 .none;raiseNew (<-newExc (.type "StopIteration") []))
   (λfin s'=>∃v,fin=Fin.done (RK v)/\ka (oD prog w) A (pure (ak v)) Q E s') (λe s'=>ka (oD prog w) A (do if <-isInstance e (.type "StopIteration") then pure hB else throw e) Q E s') s):
  ka (oD prog w) A (pyNext (.ref I)) Q E s:=by
 obtain⟨O,φ,Y,hd⟩:=id x;unfold pyNext;refine cc (Pq (Lm (name:=M3 "__next__") x.ty oC (L1 oC x.ty Bl ?_ (DU _))));unfold Builtin.«set_iterator.__next__»;refine cc (hF (cc (wpAny_fieldsOf φ hd ?_)));dsimp only;refine cc (RL ho S.d S.f ?_);rw[ov @D];exact cc (E1 ho S hi h)
theorem Gd {i:Nat} {e:Int×ia} {Q:KA->ib->Prop} (x:Sit w s.heap I d t es.size ep i) (ho:s.heap.get? d=ak o) (S:SI w o ns es ep t) (hi:i < es.size) (he:(ord w d ep es)[i]? =ak e)
  (h:∀h',Sit w h' I d t es.size ep (i + 1)->LP I s.heap h'->Q (ak e.2) {s with heap:=h'}):ka (oD prog w) A (pyNext (.ref I)) Q E s:=by
 refine A2 x ho S (L9 hi) ?_;obtain⟨Z,φ,α,hd⟩:=id x;rw[he];show ka _ _ (setField (.ref I) 0 (rawInt (slt w t (i + 1):Nat)) >>=λ_=>setField (.ref I) 1 (rawInt ((i:Int) + 1)) >>=λ_=>ret e.2) _ _ s;have O:(M8 (·.setIfInBounds 0 (rawInt (slt w t (i + 1):Nat))) Z).data= .fields #[.int (slt w t (i + 1)) 0,.int i 0,.ref d,.int es.size 0,.int ep 0]:=by rw[LX hd];simp[rawInt]
 have Y:=Ku (M8 (·.setIfInBounds 0 (rawInt (slt w t (i + 1):Nat)))) φ (Np (LX hd _));refine cc (Ml φ hd @D (cc (Ml (s:={s with heap:=_}) Y O @D (hF ⟨_,rfl,hF (h _ ⟨_,Ku _ Y (Np (LX O _)),?_,?_⟩ ?_)⟩))))
 ·rw[O0,O0];exact α
 ·rw[LX O];simp[rawInt,sio]
 ·exact(Ki ..).trans (Ki ..)
theorem Ge {Q:KA->ib->Prop} (τ:A.handled=hB) (x:Sit w s.heap I d t es.size ep es.size) (ho:s.heap.get? d=ak o) (S:SI w o ns es ep t)
  (h:∀h',Heap.ExtBut I s.heap h'->Q hB {s with heap:=h'}):ka (oD prog w) A (pyNext (.ref I)) Q E s:=by
 refine A2 x ho S (ri _) ?_;obtain⟨Y,φ,Z,hd⟩:=id x;have O:(ord w d ep es).size=es.size:=by rw[<-ic,(ord_perm w d ep es).length_eq,ic]
 rw[N7 (by rw[O];exact ri _)];show ka _ _ (setField (.ref I) 2 .none >>=λ_=>newExc (.type "StopIteration") [] >>=λe=>raiseNew e) _ _ s;refine cc (Ml φ hd @D (cc ?_));simp only[newExc,newTuple];refine cc (KR ?_ (by size_fits));refine cc (m:=firstArgMember _ _) (P1 (a:=KQ) (by first | rfl | (simp only[firstArgMember];rfl)) (KR ?_ (by size_fits)));simp only[raiseNew];refine cc (wpAny_handled ?_);rw[show A.in1.handled=hB from τ];refine cc (hF (wpAny_throw ?_));refine cc (Ov (T:="StopIteration") (b:=true) ⟨_,lT _ rfl,rfl⟩ QB ?_);exact hF (h _ (((Ki ..).extBut.push _).push _))
theorem Gb {i n:Nat} {Q:DL} (x:Sit w s.heap I d t n ep i) (h:Q (.ref I) s):ka (oD prog w) A (pyIter (.ref I)) Q E s:=by
 refine S3 x.ty w9 (L1 w9 x.ty Bm (show ka _ _ (ret (.ref I)) _ _ s from ?_) (DV _));exact hF ⟨_,rfl,"set_iterator",_,x.ty,oC.lookup,h⟩
theorem Jm (τ:A.handled=hB) (O:d≠I) (S:SI w o ns es ep t):Walks prog w A I [I,d] [I] es.size (λi v=>∃e,(ord w d ep es)[i]? =ak e/\v=e.2) (λi h=>Sit w h I d t es.size ep i/\h.get? d=ak o) where
 sub:=λb hb=>by rw[hL] at hb;rw[hb];exact kb
 frame:=λi h h' st hk=>⟨by obtain⟨α,a,b⟩:=st.1;exact⟨α,hk I kb _ a,b⟩,hk d @D _ st.2⟩
 item:=λi s Q E hi st υ=>by
  have Y:(ord w d ep es).size=es.size:=by rw[<-ic,(ord_perm w d ep es).length_eq,ic]
  have he:(ord w d ep es)[i]? =ak ((ord w d ep es)[i]' @A):=KC @A;refine Gd st.1 st.2 S hi he λh' Z ε=>?_;exact υ _ h' s.toks ⟨_,he,rfl⟩ ⟨Z,by rw[ε.2 d O];exact st.2⟩ λb o hb e=>by rw[ε.2 b (λz=>hb (by rw[z];exact hL.mpr rfl))];exact e
 done:=λs Q E st υ=>Ge τ st.1 st.2 S λh' β=>υ h' s.toks λb o hb e=>β b o (λz=>hb (by rw[z];exact hL.mpr rfl)) e
 self:=λi s Q E st υ=>Gb st.1 υ
theorem Cw {Q:DL} (ho:s.heap.get? d=ak o) (S:SI w o ns es ep t) (h:Q (.ref s.heap.objs.size) {s with heap:=s.heap.push {cls:= .type "set_iterator",data:=sio w d t es.size ep 0}}):ka (oD prog w) A (pyIter (.ref d)) Q E s:=by
 have hT:s.TypeIs (.ref d) "set":=⟨o,ho,S.ex.1⟩;refine S3 hT F.slot_set_iter (L1 F.slot_set_iter hT Dy ?_ (F.args_set_iter_1 _));unfold Builtin.«frozenset.__iter__» Builtin.Frozenset.slot0;refine cc (cc (hF (hF ?_)));unfold Builtin.Frozenset.sizeOf;refine cc (cc (RL ho S.d S.f (hF ?_)));refine cc ?_;unfold setDrawn;refine cc (Oc ho S.d S.f ?_);dsimp only;refine cc (zu (hF ?_))
 have O:(!byT w&&(!t.plain&&decide (es.size > 1)))=false:=by
  cases hb:byT w with
  | true=>rfl
  | false=>rw[(S.tb hb).pn];rfl
 show ka _ _ (if (!byT w&&(!t.plain&&decide (es.size > 1)))=true then _ else _) _ _ s;rw[O,ov @C];refine cc (hF ?_);refine cc (wpAny_setEpoch_of ho S.d S.f ?_);unfold newFields;refine cc (KR (hF ⟨_,rfl,"set_iterator",_,⟨_,lT _ rfl,rfl⟩,oC.lookup,?_⟩));have Y:slt w t 0=0:=by unfold slt;split<;>rfl
 simpa[rawInt,sio,Y] using h
end
open PySem.W PySem.Spec L2
section
variable {prog:qc} {w:y3} {A:Kj} {E:DL} {s:ib}
variable {d:gn} {o:P8} {ns:K3} {es:Ll (Int×ia)} {ep:Nat} {t:SetTable}
theorem Dg {Q:KS->ib->Prop} (hT:s.TypeIs (.ref d) "set") (h:Q false s):ka (oD prog w) A (Nn (.ref d)) Q E s:=by
 unfold Nn;refine cc (OO hT F.slot_set_len.lookup ?_);generalize ν:("set.__len__":Lh)=id0
 wp_delta
 rw[show splitId id0=ak ("set","__len__") from by subst ν;decide +kernel];subst ν;refine cc (Ov (T:="set") (b:=true) hT (by rw[QA];kernel_rfl) (wpAny_ite_split (fun ξ=>kv ξ @C) (λ_=>?_)));exact wpAny_ite_split (λ_=>cc (R8 hT (hF h))) (fun ξ=>kv (by decide +kernel) ξ)
theorem kdl_set (S:SI w o ns es ep t):KdlSrc prog w "set" d d es.size (λi v=>∃e,(ord w d ep es)[i]? =ak e/\v=e.2) (λh=>h.get? d=ak o) where
 type:=λ_ e=>⟨o,e,S.ex.1⟩
 there:=λ_ e=>⟨hJ e,hJ e⟩
 keep:=λ_ _ e hk=>hk d (.inl rfl) _ e
 notList:=by decide
 notTuple:=by decide
 hint:=λ_ _ _ _ e O=>Dg ⟨o,e,S.ex.1⟩ O
 iter:=λ_ _ τ e=>⟨_,_,λ_ _ O=>Cw e S O,Jm τ (Kn (hJ e)) S,⟨⟨_,lT _ rfl,rfl,rfl⟩,hE _ e⟩⟩
theorem wJ {T:Lh} {n:Nat} {P:Nat->ia->Prop} {ξ:Ke->Prop} {Q:E'->ib->Prop} (K:KdlSrc prog w T d d n P ξ) (τ:A.handled=hB) (hok:ξ s.heap) (hn:n<=lx)
  (h:∀h' tk (Z:G'),(∀b o,s.heap.get? b=ak o->h'.get? b=ak o)->s.heap.objs.size < h'.objs.size->ItemsOf P Z n->Q Z.toList {s with heap:=h',toks:=tk}):
  ka (oD prog w) A (collect (.ref d)) Q E s:=by
 unfold collect;refine cc (Qz (Lx RE ?_));refine cc (m:=newList []) (Pp (hF ⟨OZ _ (by decide +kernel),Lx entry_list_iadd' ?_⟩));rw[LH rY _];have O:=(K.there _ hok).1
 refine kdl_extend (R:=λr s'=>match r with
   | Q4 (RK v)=>ka (oD prog w) A (match v with
     | y7 a=>do
       let o <-load a
       match o.data with
       | .seq xs _=>pure xs.toList
       | _=>unsupported "internal:collect"
     | _=>unsupported "internal:collect") Q E s'
   | Q4 _=>False
   | RT e=>E e s') (s:={s with heap:=s.heap.push (seqObj "list" #[] 0)}) K τ (K.keep _ _ hok λb _ o e=>hE _ e) s.heap.objs.size (KJ O) (KJ O) _ 0 (lT _ rfl) (λh' tk Y ρ hk α ι=>?_) hn
 refine cc (m:=load s.heap.objs.size) (RV α ?_);exact hF (h h' tk Y (λb o e=>hk b o (Kn (hJ e)) (hE _ e)) (hJ α) ι)
theorem sorted_src {T:Lh} {n:Nat} {P:Nat->ia->Prop} {ξ:Ke->Prop} {ks:K3} {Q:DL} (K:KdlSrc prog w T d d n P ξ) (τ:A.handled=hB) (hok:ξ s.heap) (γ:n < 64) (hI:∀O:G',ItemsOf P O n->IntsAre O.toList ks)
  (h:∀h' tk a (out:G') (e:Nat) (Y:K3),(∀b o,s.heap.get? b=ak o->h'.get? b=ak o)->s.heap.objs.size<=a->h'.get? a=ak (seqObj "list" out e)->IntsAre out.toList Y->Y.Perm ks->Y.Pairwise (·<=·)->Q (.ref a) {s with heap:=h',toks:=tk}):
  ka (oD prog w) A (call (.builtin "sorted") [.ref d]) Q E s:=by
 refine Q1 kind_sorted plain_sorted entry_sorted (args_sorted1 _) ?_;unfold Builtin.«sorted»;refine cc (m:=checkCount "sorted" 1 1 _) (hF ?_);refine cc (wJ K (by exact τ) hok (by rw[qq];omega) λh' tk O β hsz ι=>?_);have θ:O.toList.length < 64:=by rw[ic,ι.1];exact γ
 have Z:(h'.push (seqObj "list" O.toList.toArray 0)).get? h'.objs.size=ak (seqObj "list" O.toList.toArray 0):=lT _ rfl;refine cc (Pp (show ka _ _ _ _ _ {s with heap:=h'.push (seqObj "list" O.toList.toArray 0),toks:=tk} from ?_));refine cc (Le (L1 slot_list_sort ⟨_,Z,rfl⟩ entry_list_sort (list_sort_tree Z (hI O ι) θ λout Y a1 a2 δ=>⟨_,rfl,?_⟩) (args_list_sort _)));obtain⟨e,he⟩:=sortedHeap_at (out:=out) Z;refine hF ⟨_,rfl,h _ tk h'.objs.size out e Y (λb o hb=>?_) (L9 hsz) he a1 a2 δ⟩;have α:=hJ (β b o hb);rw[sortedHeap_old (Kn α) (by rw[size_push'];exact Ma α)];exact hE _ (β b o hb)
end
end ST
namespace L2
open PySem PySem.Spec PyProof.Rows
section
variable {X:Cx}
def BR (Q:VK) (x:V) (H1:Hp):Prop:=∃(p:gn) (ns:D'),x= .ref p/\H1 p=ak (.lst (ns.map λn:Nat=>V.int (n:Int)))/\ns.Pairwise (· < ·)/\(∀n∈ns,n < 32)/\∀(D:gn) (O:Hp),H1 D=hB->Same H1 O->O D=ak (.lst (ns.map λn:Nat=>V.int (n:Int)))->Q (.ref D) O
noncomputable def GN (t:TE):TE:=fun σ H Q=>t σ H (BR Q)
theorem G5 {t:TE} {σ:St} {H:Hp} {Q:VK} (h:t σ H (BR Q)):GN t σ H Q:=h
theorem w8:∀{l O:K3},l.Pairwise (·<=·)->O.Pairwise (·<=·)->l.Perm O->l=O
 | [],O,_,_,p=>(List.nil_perm.mp p).symm ▸ rfl
 | x::l,[],_,_,p=>by have:=p.length_eq;simp at this
 | x::l,y::O,a,b,p=>by
   obtain⟨a1,a2⟩:=Mw.mp a;obtain⟨b1,b2⟩:=Mw.mp b
   have e:x=y:=by
    rcases qn.mp (p.mem_iff.mp kb) with e | m
    ·exact e
    ·rcases qn.mp (p.mem_iff.mpr (kb (a:=y) (l:=O))) with e | m'
     ·exact e.symm
     ·have:=b1 x m;have:=a1 y m';omega
   subst e;exact zt (x::·) (w8 a2 b2 (List.Perm.cons_inv p))
theorem yy {e:Ko} {t:TE} {p1 p2 Z δ:Pos} (hc:X.calm=true) (g1:Gl X "sorted") (g2:Gl X "set") (n1:X.mg "sorted"=hB) (n2:X.mg "set"=hB) (he:PE X e t)
  (h1:px [Expr.Call (.Name "set" p1) [e] [] p2] X.env=[(false,eval (.Call (.Name "set" p1) [e] [] p2) X.env)]:=by rfl) (h2:px [e] X.env=[(false,eval e X.env)]:=by rfl):
  PE X (.Call (.Name "sorted" Z) [.Call (.Name "set" p1) [e] [] p2] [] δ) (GN t):=by
 intro pins s σ H Q I h;refine Nc (i6 I g1 n1 boot_sorted (callWith_builtin1 (Q:=EP X pins σ Q) ?_ h1 rfl));rw[h1];refine OW ?_;refine Qv (i6 I g2 n2 boot_set (callWith_type1 (thn (aa he ag h2 p2 pins s σ H (λvs H1=>match vs with | [x]=>BR Q x H1 | _=>False) I h) λus O ⟨vs,H1,I1,ν,Z⟩=>?_) h2 rfl))
 match vs,ν,Z with
 | [x],ν,Z=>
 obtain⟨p,ns,rfl,hp,α,χ,q⟩:=Z;cases ν with
 | cons r rr=>
 cases rr;cases r;obtain⟨z,its,nl,rv,hl,el⟩:=I1.lstM hp;have β:ns.Nodup:=α.imp (λh=>Kn h);have Y:(ns.map λn:Nat=>V.int (n:Int))=(ns.map (λn:Nat=>(n:Int))).map V.int:=by rw[Lc];rfl
 rw[Y] at rv;have hi:IntsAre its.toArray.toList (ns.map (λn:Nat=>(n:Int))):=by simpa using oI rv
 refine ST.call_set (ns:=ns) (I1.ok.hd hc) ⟨_,el,rfl,_,rfl⟩ hi χ β λh' tk hS hsz hk=>?_;refine P5 ?_;obtain⟨oS,es,ep,tb,ψ,S⟩:=hS;have ω:Inv X pins σ H1 {O with heap:=h',toks:=tk}:=I1.kept (t':=tk) hk;have b0:es.size=ns.length:=by have:=S.p.length_eq;rw[dt,ic,dt] at this;exact this
 have a6:ns.length<=32:=ST.few (hs:=ns.map (λn:Nat=>(n:Int))) (λy hy=>by obtain⟨m,hm,rfl⟩:=oi.mp hy;exact⟨m,rfl,χ m hm⟩) (β.map _ (λa b ξ e=>ξ (Ot e))) |> λz=>by rw[dt] at z;exact z
 refine ST.sorted_src (s:={O with heap:=h',toks:=tk}) (ks:=(ST.ord X.w O.heap.objs.size ep es).toList.map (·.1)) (ST.kdl_set S) (I1.ok.hd hc) ψ @A (λa5 ι=>?_) λh2 η a out e2 ρ a0 ha a3 a4 τ φ=>?_
 ·have γ:((ST.ord X.w O.heap.objs.size ep es).toList.map (·.1)).length=a5.toList.length:=by
   rw[dt,(ST.ord_perm X.w O.heap.objs.size ep es).length_eq,ic,ic,ι.1]
  refine oI (pf (by rw[dt];exact γ) λi a b ha hb=>?_);rw[lz,lz,L7] at ha;rw[L7] at hb;obtain⟨e,ε,rfl⟩:=ι.2 i b hb;rw[ε] at ha;have ha:=kf ha;subst ha;have hm:e∈es.toList:=(ST.ord_perm X.w O.heap.objs.size ep es).mem_iff.mp (hQ (by rw[L7];exact ε));obtain⟨θ,e2⟩:=S.v e hm;exact⟨θ,e2⟩
 ·have υ:ρ=ns.map (λn:Nat=>(n:Int)):=w8 φ (by rw[Nk];exact α.imp (λh=>by omega)) (τ.trans (((ST.ord_perm X.w O.heap.objs.size ep es).map (·.1)).trans S.p));subst υ;have ο:=vf a4;rw[<-Y] at ο;have π:∀b o,O.heap.get? b=ak o->h2.get? b=ak o:=λb o e=>a0 b o (hk b o e);have ζ:O.heap.objs.size<=a:=Lf (L9 hsz) ha;have fD:H1 a=none:=I1.hok.fresh ζ;refine⟨.ref a,_,I1.laid (t':=η) π ζ (show fM X.prog X.w _ h2 _ (.lst (ns.map λn:Nat=>V.int (n:Int))) from⟨by rw[dt,qq];omega,out.toList,e2,ο,by simpa using a3⟩),rfl,q a _ fD (c8 fD) aP⟩
end
end L2
namespace Z3
open PySem PyProof.Rows
noncomputable abbrev Tr (h:Ke) (T:gn) (a b c:ia):Prop:=h.get? T=ak {cls:= .type "tuple",data:= .seq #[a,b,c]}
structure St (h:Ke) (n l1 l2 l3 k1 k2 k3:Nat) (f:ia):Prop where
 z:IsZip h (n + 5) (n + 3) (n + 4) f
 ti:Tr h (n + 3) (.ref n) (.ref (n + 1)) (.ref (n + 2))
 to:∃a b c,Tr h (n + 4) a b c
 i1:h.IsListIter n l1 k1
 i2:h.IsListIter (n + 1) l2 k2
 i3:h.IsListIter (n + 2) l3 k3
section
variable {prog:qc} {w:y3} {A:Kj} {E:DL} {s:ib} {n l1 l2 l3 k1 k2 k3:Nat}
theorem St.keep {h h':Ke} {f:ia} (x:St h n l1 l2 l3 k1 k2 k3 f) (k:∀b o,n<=b->b<=n + 5->h.get? b=ak o->h'.get? b=ak o):St h' n l1 l2 l3 k1 k2 k3 f:=
 ⟨k _ _ @A @A x.z,k _ _ @A @A x.ti,let ⟨a,b,c,e⟩:=x.to;⟨a,b,c,k _ _ @A @A e⟩,x.i1.at λo e=>k _ o @A @A e,x.i2.at λo e=>k _ o @A @A e,x.i3.at λo e=>k _ o @A @A e⟩
theorem six {b n:Nat} (h1:n<=b) (h2:b<=n + 5):b=n∨b=n + 1∨b=n + 2∨b=n + 3∨b=n + 4∨b=n + 5:=by omega
theorem apt {T n:Nat} (h:n + 5 < T) (e:T=n∨T=n + 1∨T=n + 2∨T=n + 4∨T=n + 5):False:=by omega
theorem nq {a b:Nat} (h:a < b∨b < a):a≠b:=by omega
theorem put {T:gn} {a b c x:ia} {k:Nat} {Q:J9} (hT:Tr s.heap T a b c) (h:∀h',h'.get? T=ak {cls:= .type "tuple",data:= .seq ((#[a,b,c]:G').setIfInBounds k x)}->LP T s.heap h'->Q () {s with heap:=h'}):ka (oD prog w) A (updateSeq T (·.setIfInBounds k x)) Q E s:=by
 refine NR hT rfl (h _ ?_ (Ki ..));rw[Ku _ hT rfl];simp[KI]
theorem pJ {xs ys zs:G'} {x y u:ia} {Q:DL} (d1:l1 < n) (d2:l2 < n) (d3:l3 < n) (S:St s.heap n l1 l2 l3 k1 k2 k3 .none) (hl1:s.heap.IsList l1 xs) (hl2:s.heap.IsList l2 ys) (γ:s.heap.IsList l3 zs) (hx:xs[k1]? =ak x) (hy:ys[k2]? =ak y) (hu:zs[k3]? =ak u)
  (υ:∀h',St h' n l1 l2 l3 (k1 + 1) (k2 + 1) (k3 + 1) (rawInt s.heap.objs.size)->Tr h' s.heap.objs.size x y u->(∀c o,c≠n->c≠n + 1->c≠n + 2->c≠n + 4->c≠n + 5->s.heap.get? c=ak o->h'.get? c=ak o)->Q (.ref s.heap.objs.size) {s with heap:=h'}):
  ka (oD prog w) A (Builtin.«zip.__next__» ⟨[.ref (n + 5)],[]⟩) (λfin s'=>∃v,fin= .done (.ret v)/\Q v s') E s:=by
 obtain⟨hz,ti,⟨a,b,c,to⟩,i1,i2,i3⟩:=S;refine cc (m:=field (.ref (n + 5)) 2) (Kg hz rfl (x:= .bool false) rfl ?_);refine cc (m:=field (.ref (n + 5)) 3) (Kg hz rfl (x:= .ref (n + 3)) rfl ?_);refine cc (Lv ti rfl ?_);refine cc (m:=Ky (.ref (n + 5))) ?_;unfold Ky;refine cc (Kg hz rfl (x:= .none) rfl (hF ?_));simp only[OF];refine cc (OG (cc (Kg hz rfl (x:= .ref (n + 4)) rfl ?_)));refine cc (MB hz @D λh1 η s1=>cc ?_);replace η:IsZip h1 (n + 5) (n + 3) (n + 4) .ellipsis:=η;have K1:∀b o,b≠n + 5->s.heap.get? b=ak o->h1.get? b=ak o:=λb o h e=>s1.extBut b o h e;simp only[Rv,RI,Nw,OR];refine cc (cc (Po (show ka _ _ (zx (.ref n) >>=_) _ _ _ from cc (MC (i1.at λo e=>K1 _ o (nq @A) e) (hl1.at λo e=>K1 _ o (nq @A) e) hx λh2 j1 s2=>hF ?_))));have K2:∀b o,b≠n + 5->b≠n->s.heap.get? b=ak o->h2.get? b=ak o:=λb o h h' e=>s2.extBut b o h' (K1 b o h e);refine cc (Lv (K2 _ _ (nq @A) (nq @A) to) rfl (cc (put (K2 _ _ (nq @A) (nq @A) to) λh3 χ τ=>cc (Qd (hF ?_)))));replace χ:Tr h3 (n + 4) x b c:=χ;have δ:∀b o,b≠n + 5->b≠n->b≠n + 4->s.heap.get? b=ak o->h3.get? b=ak o:=λb o h h' O e=>τ.extBut b o O (K2 b o h h' e);refine cc (cc (Po (show ka _ _ (zx (.ref (n + 1)) >>=_) _ _ _ from cc (MC (i2.at λo e=>δ _ o (nq @A) (nq @A) (nq @A) e) (hl2.at λo e=>δ _ o (nq @A) (nq @A) (nq @A) e) hy λh4 j2 Y=>hF ?_))));have ε:Tr h4 (n + 4) x b c:=Y.extBut _ _ (nq @A) χ;refine cc (Lv ε rfl (cc (put ε λh5 ω ξ=>cc (Qd (hF ?_)))));replace ω:Tr h5 (n + 4) x y c:=ω;have K5:∀b o,b≠n + 5->b≠n->b≠n + 1->b≠n + 4->s.heap.get? b=ak o->h5.get? b=ak o:=λb o h h' h1 O e=>ξ.extBut b o O (Y.extBut b o h1 (δ b o h h' O e));refine cc (cc (Po (show ka _ _ (zx (.ref (n + 2)) >>=_) _ _ _ from cc (MC (i3.at λo e=>K5 _ o (nq @A) (nq @A) (nq @A) (nq @A) e) (γ.at λo e=>K5 _ o (nq @A) (nq @A) (nq @A) (nq @A) e) hu fun θ j3 ν=>hF ?_))));have t6:Tr θ (n + 4) x y c:=ν.extBut _ _ (nq @A) ω;refine cc (Lv t6 rfl (cc (put t6 fun ζ ρ ι=>cc (Qd (hF (hF ?_))))));replace ρ:Tr ζ (n + 4) x y u:=ρ;have K7:∀b o,b≠n + 5->b≠n->b≠n + 1->b≠n + 2->b≠n + 4->s.heap.get? b=ak o->ζ.get? b=ak o:=λb o h h' h1 h2 O e=>ι.extBut b o O (ν.extBut b o h2 (K5 b o h h' h1 O e));have z7:IsZip ζ (n + 5) (n + 3) (n + 4) .ellipsis:=ι.extBut _ _ (nq @A) (ν.extBut _ _ (nq @A) (ξ.extBut _ _ (nq @A) (Y.extBut _ _ (nq @A) (τ.extBut _ _ (nq @A) (s2.extBut _ _ (nq @A) η)))));have hsz:ζ.objs.size=s.heap.objs.size:=by rw[ι.1,ν.1,ξ.1,Y.1,τ.1,s2.1,s1.1]
 have β:ζ.IsListIter n l1 (k1 + 1):=j1.at λo e=>ι.extBut _ _ (nq @A) (ν.extBut _ _ (nq @A) (ξ.extBut _ _ (nq @A) (Y.extBut _ _ (nq @A) (τ.extBut _ _ (nq @A) e))));have α:ζ.IsListIter (n + 1) l2 (k2 + 1):=j2.at λo e=>ι.extBut _ _ (nq @A) (ν.extBut _ _ (nq @A) (ξ.extBut _ _ (nq @A) e));have Z:ζ.IsListIter (n + 2) l3 (k3 + 1):=j3.at λo e=>ι.extBut _ _ (nq @A) e;have ψ:=K7 _ _ (nq @A) (nq @A) (nq @A) (nq @A) (nq @A) ti;refine cc (Lv ρ rfl (cc (wpAny_newTuple ?_)));refine cc (m:=NQ (.ref (n + 5)) (.ref ζ.objs.size)) ?_;unfold NQ;have z8:IsZip (ζ.push {cls:= .type "tuple",data:= .seq #[x,y,u]}) (n + 5) (n + 3) (n + 4) .ellipsis:=hE _ z7;refine cc (MB z8 @D λh9 φ s9=>?_);replace φ:IsZip h9 (n + 5) (n + 3) (n + 4) (rawInt ζ.objs.size):=φ;refine MB φ @D λha π sa=>?_;replace π:IsZip ha (n + 5) (n + 3) (n + 4) (rawInt ζ.objs.size):=π;have up:∀b o,b≠n + 5->ζ.get? b=ak o->ha.get? b=ak o:=λb o h e=>sa.extBut b o h (s9.extBut b o h (hE _ e));have ο:=hJ z7;have hT:Tr ha ζ.objs.size x y u:=sa.extBut _ _ (KJ ο) (s9.extBut _ _ (KJ ο) (lT _ rfl));rw[hsz] at π hT;refine hF ⟨_,rfl,?_⟩;show Q (.ref ζ.objs.size) _;rw[hsz];exact υ ha ⟨π,up _ _ (nq @A) ψ,⟨_,_,_,up _ _ (nq @A) ρ⟩,β.at λo e=>up _ o (nq @A) e,α.at λo e=>up _ o (nq @A) e,Z.at λo e=>up _ o (nq @A) e⟩ hT λb o a1 a2 a3 a4 a5 e=>up b o a5 (K7 b o a5 a1 a2 a3 a4 e)
theorem tH {xs:G'} {Q:Fin->ib->Prop} (τ:A.handled=hB) (ν:l1 < n) (S:St s.heap n l1 l2 l3 k1 k2 k3 .none) (hl1:s.heap.IsList l1 xs) (hx:xs[k1]? =hB)
  (θ:∀h' e,(∀c o,c≠n->c≠n + 1->c≠n + 2->c≠n + 4->c≠n + 5->s.heap.get? c=ak o->h'.get? c=ak o)->(∃o,h'.get? e=ak o/\o.cls= .type "StopIteration")->E (.ref e) {s with heap:=h'}):
  ka (oD prog w) A (Builtin.«zip.__next__» ⟨[.ref (n + 5)],[]⟩) Q E s:=by
 obtain⟨hz,ti,⟨a,b,c,to⟩,i1,i2,i3⟩:=S;refine cc (m:=field (.ref (n + 5)) 2) (Kg hz rfl (x:= .bool false) rfl ?_);refine cc (m:=field (.ref (n + 5)) 3) (Kg hz rfl (x:= .ref (n + 3)) rfl ?_);refine cc (Lv ti rfl ?_);refine cc (m:=Ky (.ref (n + 5))) ?_;unfold Ky;refine cc (Kg hz rfl (x:= .none) rfl (hF ?_));simp only[OF];refine cc (OG (cc (Kg hz rfl (x:= .ref (n + 4)) rfl ?_)));refine cc (MB hz @D λh1 O ε=>cc ?_);replace O:IsZip h1 (n + 5) (n + 3) (n + 4) .ellipsis:=O;have Z:∀b o,b≠n + 5->s.heap.get? b=ak o->h1.get? b=ak o:=λb o h e=>ε.extBut b o h e;simp only[Rv,RI,Nw,OR];refine cc (cc (Po (show ka _ _ (zx (.ref n) >>=_) _ _ _ from cc (Rq τ (i1.at λo e=>Z _ o (nq @A) e) (hl1.at λo e=>Z _ o (nq @A) e) hx λh2 e γ he=>?_))));obtain⟨η,Y,ρ⟩:=he;have α:IsZip h2 (n + 5) (n + 3) (n + 4) .ellipsis:=γ _ _ (nq @A) O;have ζ:e≠n + 5:=λx=>by subst x;rw[α] at Y;cases Y;simp at ρ
 exact MB α @D fun ι _ β=>θ ι e (λc o a1 _ _ _ δ x=>β.extBut _ _ δ (γ _ _ a1 (Z _ _ δ x))) ⟨η,β.extBut _ _ ζ Y,ρ⟩
theorem Ao {Q:KA->ib->Prop} {Q':DL} (hz:IsZip s.heap (n + 5) (n + 3) (n + 4) .none)
  (h:ka (oD prog w) A.in1 (Builtin.«zip.__next__» ⟨[.ref (n + 5)],[]⟩) (λfin s'=>∃v,fin= .done (.ret v)/\ka (oD prog w) A (pure (ak v)) Q E s') (λe s'=>ka (oD prog w) A (do if <-isInstance e (.type "StopIteration") then pure hB else throw e) Q E s') s):ka (oD prog w) A (pyNext (.ref (n + 5))) Q E s:=by
 have hT:s.TypeIs (.ref (n + 5)) "zip":=⟨_,hz,rfl⟩;unfold pyNext;exact cc (Pq (Lm (name:=M3 "__next__") hT F.slot_zip_next (L1 F.slot_zip_next hT F.entry_zip_next h (F.args_zip_next_1 _))))
theorem walks3 (τ:A.handled=hB) (γ:l1 < n) (θ:l2 < n) (ζ:l3 < n) (xs ys zs:G') (ν:ys.size=xs.size) (ι:zs.size=xs.size):
  WalksT prog w A (n + 5) [n + 5,n,n + 1,n + 2,n + 3,n + 4,l1,l2,l3] [n,n + 1,n + 2,n + 4,n + 5] xs.size (λi Y=>∃x y u,xs[i]? =ak x/\ys[i]? =ak y/\zs[i]? =ak u/\Y=#[x,y,u])
   (λi h=>St h n l1 l2 l3 i i i .none/\h.IsList l1 xs/\h.IsList l2 ys/\h.IsList l3 zs) (λi T h=>St h n l1 l2 l3 (i + 1) (i + 1) (i + 1) (rawInt T)/\h.IsList l1 xs/\h.IsList l2 ys/\h.IsList l3 zs/\n + 5 < T) where
 sub:=λb hb=>by simp only[qn,Ks,Lu] at hb;rcases hb with e | e | e | e | e<;>simp[e]
 frame:=λi h h' st hk=>by
  obtain⟨S,a,b,c⟩:=st;exact⟨S.keep λb o p q e=>hk b (by rcases six p q with e | e | e | e | e | e<;>simp[e]) o e,a.at λo e=>hk l1 @D o e,b.at λo e=>hk l2 @D o e,c.at λo e=>hk l3 @D o e⟩
 item:=λi s Q E hi st υ=>by
  obtain⟨S,a,b,c⟩:=st;have α:xs[i]? =ak xs[i]:=KC hi;have Z:ys[i]? =ak (ys[i]' @A):=KC @A;have hu:zs[i]? =ak (zs[i]' @A):=KC @A;refine Ao (Q':=λ_ _=>True) S.z (pJ γ θ ζ S a b c α Z hu λh' η hT hk=>hF ?_);have hn:=hJ S.z
  exact υ s.heap.objs.size _ h' s.toks ⟨_,_,_,α,Z,hu,rfl⟩ (ri _) ⟨_,hT,rfl,_,rfl⟩ ⟨η,a.at λo e=>hk _ o (nq @A) (nq @A) (nq @A) (nq @A) (nq @A) e,b.at λo e=>hk _ o (nq @A) (nq @A) (nq @A) (nq @A) (nq @A) e,c.at λo e=>hk _ o (nq @A) (nq @A) (nq @A) (nq @A) (nq @A) e,hn⟩
   λc o O e=>by simp only[qn,Ks,Lu,not_or] at O;exact hk c o O.1 O.2.1 O.2.2.1 O.2.2.2.1 O.2.2.2.2 e
 go:=fun β k pos i T s Q E hm υ=>by
  obtain⟨S,a,b,c,_⟩:=hm;refine wpAny_letOwnedTupleGo_zip S.z λh' δ ε=>υ h' ⟨⟨δ,ε.extBut _ _ (nq @A) S.ti,let ⟨a,b,c,e⟩:=S.to;⟨a,b,c,ε.extBut _ _ (nq @A) e⟩,S.i1.at λo e=>ε.extBut _ _ (nq @A) e,S.i2.at λo e=>ε.extBut _ _ (nq @A) e,S.i3.at λo e=>ε.extBut _ _ (nq @A) e⟩,a.at λo e=>ε.extBut _ _ (nq @A) e,b.at λo e=>ε.extBut _ _ (nq @A) e,c.at λo e=>ε.extBut _ _ (nq @A) e⟩ λc o O e=>ε.extBut _ _ (λx=>O (by simp[x])) e
 apart:=λi T h hm hT=>by
  simp only[qn,Ks,Lu] at hT;exact apt hm.2.2.2.2 hT
 done:=λs Q E st υ=>by
  obtain⟨S,a,b,c⟩:=st;refine Ao (Q':=λ_ _=>True) S.z (tH (by exact τ) γ S a (N7 (ri _)) λh' e hk he=>?_);obtain⟨o,ho,O⟩:=he;refine cc (Ov (T:="StopIteration") (b:=true) ⟨o,ho,O⟩ QB (hF (υ h' s.toks λc o O e=>?_)));simp only[qn,Ks,Lu,not_or] at O;exact hk c o O.1 O.2.1 O.2.2.1 O.2.2.2.1 O.2.2.2.2 e
 self:=λi s Q E st υ=>MX st.1.z υ
end
theorem tc3 (a b c:ia):checkTypeCall "zip" ⟨[a,b,c],[]⟩=pure ():=by kernel_rfl
theorem nc3 (a b c:ia):checkBuiltinCall "zip.__new__" ⟨[.type "zip",a,b,c],[]⟩=pure ():=by kernel_rfl
theorem ai4 (a b c d:ia):argsOk "object.__init__" ⟨[a,b,c,d],[]⟩:=by
 unfold argsOk;rw[QQ (id:="object.__init__") (n:=['_','_','t','i','n','i','_','_']) (o:=['t','c','e','j','b','o']) (by kernel_rfl) F.owner_object];kernel_rfl
noncomputable abbrev it (l:gn):Obj:={cls:= .type "list_iterator",data:= .fields #[.ref l,.int 0 0]}
noncomputable abbrev Hz (h:Ke) (l1 l2 l3:gn):Heap:=(((((h.push (it l1)).push (it l2)).push (it l3)).push {cls:= .type "tuple",data:= .seq #[.ref h.objs.size,.ref (h.objs.size + 1),.ref (h.objs.size + 2)]}).push {cls:= .type "tuple",data:= .seq #[.none,.none,.none]}).push {cls:= .type "zip",data:= .fields #[.none,.bool false,.bool false,.ref (h.objs.size + 3),.ref (h.objs.size + 4)]}
theorem new3 (l1 l2 l3:gn) (xs ys zs:G'):Meets (Builtin.«zip.__new__» ⟨[.type "zip",.ref l1,.ref l2,.ref l3],[]⟩) (λ_ R s=>s.heap.IsList l1 xs/\s.heap.IsList l2 ys/\s.heap.IsList l3 zs/\R (.ok (.ret (.ref (s.heap.objs.size + 5)))) {s with heap:=Hz s.heap l1 l2 l3}):=
 .of_wp λprog w A R s h=>by
  obtain⟨O,g,d,tk,os⟩:=s;obtain⟨hl1,hl2,γ,h⟩:=h;have Z:=sub_zip;have Y:QJ (Ph ⟨O,g,d,tk,os⟩) l1 xs:=hl1;have ι:QJ (Ph ⟨O.push (it l1),g,d,tk,os⟩) l2 ys:=OJ hl2 _;have θ:QJ (Ph ⟨(O.push (it l1)).push (it l2),g,d,tk,os⟩) l3 zs:=OJ (OJ γ _) _
  wp_walk using MP Y,MP ι,MP θ
  refine⟨_,rfl,?_⟩;dsimp only;simp only[LK];exact h
section
variable {prog:qc} {w:y3} {A:Kj} {E:DL} {s:ib}
theorem call3 {l1 l2 l3:gn} {xs ys zs:G'} {Q:DL} (hl1:s.heap.IsList l1 xs) (hl2:s.heap.IsList l2 ys) (γ:s.heap.IsList l3 zs)
  (h:∀h',St h' s.heap.objs.size l1 l2 l3 0 0 0 .none->(∀c o,s.heap.get? c=ak o->h'.get? c=ak o)->Q (.ref (s.heap.objs.size + 5)) {s with heap:=h'}):
  ka (oD prog w) A (call (.type "zip") [.ref l1,.ref l2,.ref l3]) Q E s:=by
 refine callType_new F.called_zip @C (tc3 _ _ _) (nc3 _ _ _) (λobj=>ai4 obj _ _ _) F.entry_zip_new (new3 l1 l2 l3 xs ys zs) ⟨hl1,hl2,γ,?_⟩;have P:∀{h:Ke} {o:P8} {n:Nat},h.objs.size=n->o.isFreed=false->(h.push o).get? n=ak o:=λe f=>by subst e;exact lT _ f
 have O:∀{h:Ke} {o:P8} {n:Nat},h.objs.size=n->(h.push o).objs.size=n + 1:=λe=>by rw[LK,e]
 have up:=@hE;have α:(Hz s.heap l1 l2 l3).get? s.heap.objs.size=ak (it l1):=up _ (up _ (up _ (up _ (up _ (P rfl rfl)))));have g1:(Hz s.heap l1 l2 l3).get? (s.heap.objs.size + 1)=ak (it l2):=up _ (up _ (up _ (up _ (P (O rfl) rfl))));have g2:(Hz s.heap l1 l2 l3).get? (s.heap.objs.size + 2)=ak (it l3):=up _ (up _ (up _ (P (O (O rfl)) rfl)));have δ:=up {cls:= .type "zip",data:= .fields #[.none,.bool false,.bool false,.ref (s.heap.objs.size + 3),.ref (s.heap.objs.size + 4)]} (up {cls:= .type "tuple",data:= .seq #[.none,.none,.none]} (P (h:=((s.heap.push (it l1)).push (it l2)).push (it l3)) (o:={cls:= .type "tuple",data:= .seq #[.ref s.heap.objs.size,.ref (s.heap.objs.size + 1),.ref (s.heap.objs.size + 2)]}) (O (O (O rfl))) rfl));have Z:=up {cls:= .type "zip",data:= .fields #[.none,.bool false,.bool false,.ref (s.heap.objs.size + 3),.ref (s.heap.objs.size + 4)]} (P (h:=(((s.heap.push (it l1)).push (it l2)).push (it l3)).push {cls:= .type "tuple",data:= .seq #[.ref s.heap.objs.size,.ref (s.heap.objs.size + 1),.ref (s.heap.objs.size + 2)]}) (o:={cls:= .type "tuple",data:= .seq #[.none,.none,.none]}) (O (O (O (O rfl)))) rfl);have Y:=P (h:=((((s.heap.push (it l1)).push (it l2)).push (it l3)).push {cls:= .type "tuple",data:= .seq #[.ref s.heap.objs.size,.ref (s.heap.objs.size + 1),.ref (s.heap.objs.size + 2)]}).push {cls:= .type "tuple",data:= .seq #[.none,.none,.none]}) (o:={cls:= .type "zip",data:= .fields #[.none,.bool false,.bool false,.ref (s.heap.objs.size + 3),.ref (s.heap.objs.size + 4)]}) (O (O (O (O (O rfl))))) rfl;exact⟨⟨_,Y,rfl⟩,h _ ⟨Y,δ,⟨_,_,_,Z⟩,⟨_,α,rfl,rfl⟩,⟨_,g1,rfl,rfl⟩,⟨_,g2,rfl,rfl⟩⟩ λc o x=>up _ (up _ (up _ (up _ (up _ (up _ x)))))⟩
end
end Z3
namespace L2
open PySem PySem.Spec PyProof.Rows
noncomputable def Itz3 (K:aS) (a b c:gn):It:=
 ⟨λi H=>∃xs ys zs x y z,SqL K H a xs/\SqL K H b ys/\SqL K H c zs/\xs.length=ys.length/\xs.length=zs.length/\xs[i]? =ak x/\ys[i]? =ak y/\zs[i]? =ak z,
  λi H x H'=>∃p u v t,H p=hB/\x= .ref p/\H'=upd H p (.tup [u,v,t])/\(∀xs,SqL K H a xs->xs[i]? =ak u)/\(∀ys,SqL K H b ys->ys[i]? =ak v)/\∀zs,SqL K H c zs->zs[i]? =ak t,
  λi H=>∃xs ys zs,SqL K H a xs/\SqL K H b ys/\SqL K H c zs/\xs.length=ys.length/\xs.length=zs.length/\xs.length=i⟩
noncomputable abbrev z6 (n:Nat):K0:=[n,n + 1,n + 2,n + 3,n + 4,n + 5]
theorem Cb:[V.non,V.non,V.non].length<=sizeLine:=by rw[qq];decide
theorem zA {P:qc} {w:y3} {K:aS} {Y:gs Ko} {k:Nat} {pos:Pos} (a b c n:Nat) (la:a < n) (lb:b < n) (φ:c < n):
  Turn P w K (.Tuple Y k pos) (Itz3 K a b c) (z6 n) (n + 5) (λi h=>Z3.St h n a b c i i i .none) where
 mem:=by simp[z6]
 obj:=λi h st q hb=>by
  obtain⟨hz,ti,⟨u,v,t,to⟩,⟨o1,b4,_,c0⟩,⟨o2,b3,_,b9⟩,⟨o3,b0,_,b5⟩⟩:=st;simp only[z6,qn,Ks,Lu] at hb;rcases hb with e | e | e | e | e | e
  ·rw[e];exact⟨o1,b4,λv z=>by rw[c0] at z;cases z⟩
  ·rw[e];exact⟨o2,b3,λv z=>by rw[b9] at z;cases z⟩
  ·rw[e];exact⟨o3,b0,λv z=>by rw[b5] at z;cases z⟩
  ·rw[e];exact⟨_,ti,λv z=>by cases z⟩
  ·rw[e];exact⟨_,to,λv z=>by cases z⟩
  ·rw[e];exact⟨_,hz,λv z=>by cases z⟩
 keep:=λi h h' st k=>st.keep λb o p q e=>k b (by rcases Z3.six p q with e | e | e | e | e | e<;>simp[z6,e]) o e
 item:=by
  intro X hP hw hK hc i pins s σ H E I hf st hg;subst hP hw hK;obtain⟨xs,ys,zs,x,y,z,ο,ξ,ω,e1,e2,hx,hy,hz⟩:=hg;obtain⟨its,ψ,pa,a3⟩:=I.list ο;obtain⟨γ,χ,pb,a0⟩:=I.list ξ;obtain⟨β,τ,ε,υ⟩:=I.list ω;have l1:=ψ.length;have l2:=χ.length;have l3:=τ.length;have W:=Z3.walks3 (prog:=X.prog) (w:=X.w) (A:=X.A) (I.ok.hd hc) la lb φ its.toArray γ.toArray β.toArray (by simp;omega) (by simp;omega);have d2:i < its.length:=by have:=(eH.mp hx).1;omega
  have π:∀q∈z6 n,q < s.heap.objs.size:=λq hb=>by
   have ι:=hJ st.z;simp only[z6,qn,Ks,Lu] at hb;rcases hb with e | e | e | e | e | e<;>rw[e]<;>first | exact ι | exact f' @A (L9 ι)
  refine W.item i s _ _ (by simp;omega) ⟨st,pa.isList,pb.isList,ε.isList⟩ λT d1 h' tk c2 hT θ O hk=>⟨_,rfl,W.go Y k pos i T _ _ _ O λc3 η ν=>?_⟩;obtain⟨x',Z,α,a5,ρ,a4,rfl⟩:=c2;have c1:=W.apart i T h' O
  have rel:∀{vs:gs V} {us:E'} {v:V} {u:ia},Vals vs us->vs[i]? =ak v->us.toArray[i]? =ak u->RelV v u:=λr δ hu=>by
   obtain⟨u0,a6,r0⟩:=r.get δ;have ζ:=hu;rw[QG,a6] at ζ;cases ζ;exact r0
  have sub:∀q,q∉z6 n->q∉[n,n + 1,n + 2,n + 4,n + 5]:=λq h α=>h (by
   simp only[z6,qn,Ks,Lu] at α ⊢;rcases α with e | e | e | e | e<;>simp[e])
  have kk:∀q u,q∉z6 n->s.heap.get? q=ak u->c3.get? q=ak u:=λq u hb e=>ν q u (sub q hb) (hk q u (sub q hb) e);have fr:H T=none:=I.hok.fresh hT;refine⟨.ref T,upd H T (.tup [x,y,z]),I.laidCh (t':=tk) kk hT ⟨Cb,[x',Z,α],.cons (rel ψ hx a5) (.cons (rel χ hy ρ) (.cons (rel τ hz a4) .nil)),?_⟩ hf,rfl,⟨T,x,y,z,fr,rfl,rfl,λvs δ=>by rw[I.list_inj δ ο];exact hx,λvs δ=>by rw[I.list_inj δ ξ];exact hy,λvs δ=>by rw[I.list_inj δ ω];exact hz⟩,η.1,λq hb=>?_⟩
  ·obtain⟨o,ho,r⟩:=θ;exact⟨o,ν T o c1 ho,r⟩
  ·rw[aJ (λe=>?_)]
   ·exact(hf q hb).1
   ·have:=π q hb;rw[e] at this;exact kv (f' this hT) (Lz _)
 done:=by
  intro X hP hw hK hc i pins s σ H E I hf st hg;subst hP hw hK;obtain⟨xs,ys,zs,ο,ξ,ω,e1,e2,hn⟩:=hg;obtain⟨its,ψ,pa,a3⟩:=I.list ο;obtain⟨γ,χ,pb,a0⟩:=I.list ξ;obtain⟨β,τ,ε,υ⟩:=I.list ω;have l1:=ψ.length;have l2:=χ.length;have l3:=τ.length;have W:=Z3.walks3 (prog:=X.prog) (w:=X.w) (A:=X.A) (I.ok.hd hc) la lb φ its.toArray γ.toArray β.toArray (by simp;omega) (by simp;omega);have e:its.toArray.size=i:=by simp;omega
  rw[e] at W
  have sub:∀q,q∉z6 n->q∉[n,n + 1,n + 2,n + 4,n + 5]:=λq h α=>h (by
   simp only[z6,qn,Ks,Lu] at α ⊢;rcases α with e | e | e | e | e<;>simp[e])
  exact W.done s _ _ ⟨st,pa.isList,pb.isList,ε.isList⟩ λh' tk hk=>⟨rfl,I.turnedCh (λq u hb e=>hk q u (sub q hb) e) hf⟩
 self:=λ_ _ _ _ _ st h=>MX st.z h
def Gz (K:aS) (R:It->Hp->Prop) (x y z:V) (H:Hp):Prop:=∃a b c xs ys zs,x= .ref a/\y= .ref b/\z= .ref c/\SqL K H a xs/\SqL K H b ys/\SqL K H c zs/\R (Itz3 K a b c) H
noncomputable def IC (K:aS) (Y O χ:TE):TI:=fun σ H R=>Y σ H λx H1=>O σ H1 λy H2=>χ σ H2 λz Z=>Gz K R x y z Z
theorem Fy {K:aS} {Y O χ:TE} {σ:St} {H:Hp} {R:It->Hp->Prop} (h:Y σ H λx H1=>O σ H1 λy H2=>χ σ H2 λz Z=>Gz K R x y z Z):IC K Y O χ σ H R:=h
section
variable {X:Cx} {K:aS}
theorem FU {δ α Y:Ko} {ο ξ χ:TE} {γ:gs Ko} {k:Nat} {tpos p pos:Pos} (hK:X.K=K) (g2:Gl X "zip") (n2:X.mg "zip"=hB) (ι:PE X δ ο) (θ:PE X α ξ) (ν:PE X Y χ)
  (h1:px [δ,α,Y] X.env=(false,eval δ X.env)::px [α,Y] X.env:=by rfl) (h2:px [α,Y] X.env=(false,eval α X.env)::px [Y] X.env:=by rfl) (ρ:px [Y] X.env=[(false,eval Y X.env)]:=by rfl):
  PI X (.Tuple γ k tpos) (.Call (.Name "zip" p) [δ,α,Y] [] pos) (IC K ο ξ χ):=by
 subst hK;intro pins s σ H R I h;refine Qv (i6 I g2 n2 NY (Km (thn (aa ι (aa θ (aa ν ag ρ) h2) h1 pos pins s σ H (λvs H1=>match vs with | [x,y,z]=>Gz X.K R x y z H1 | _=>False) I h) λus Z ⟨vs,H1,I1,ζ,η⟩=>?_) h1 (by rw[h2,ρ];rfl)))
 match vs,ζ,η with
 | [x,y,z],ζ,η=>
 obtain⟨a,b,c,xs,ys,zs,ex,ey,ez,sa,ω,ψ,q⟩:=η;subst ex ey ez;cases ζ with
 | cons rx r2=>
 cases r2 with
 | cons ry O=>
 cases O with
 | cons rz r4=>
 cases r4;cases rx;cases ry;cases rz;obtain⟨its,ra,π,a5⟩:=I1.list sa;obtain⟨a3,rb,pb,a4⟩:=I1.list ω;obtain⟨a0,τ,ε,υ⟩:=I1.list ψ;have la:a < Z.heap.objs.size:=let ⟨o,e,_⟩:=π.isList;hJ e
 have lb:b < Z.heap.objs.size:=let ⟨o,e,_⟩:=pb.isList;hJ e
 have φ:c < Z.heap.objs.size:=let ⟨o,e,_⟩:=ε.isList;hJ e
 have fin:∀q∈z6 Z.heap.objs.size,FpOk X pins H1 q:=λq hb=>by
  have β:Z.heap.objs.size<=q:=by
   simp only[z6,qn,Ks,Lu] at hb;rcases hb with e | e | e | e | e | e<;>rw[e]<;>omega
  exact I1.fpOk β (I1.hok.fresh β)
 refine Z3.call3 π.isList pb.isList ε.isList λh' st k=>MX st.z ?_;exact⟨Z.heap.objs.size + 5,_,_,_,H1,rfl,I1.kept (t':=Z.toks) k,zA a b c _ la lb φ,st,fin,q⟩
end
theorem Dp {K:aS} {a b c:gn} {xs ys zs:gs V} {g:TG} {tb:TS} {D:Ends} {σ:St} {H:Hp} (hl:xs.length=ys.length) (hl2:xs.length=zs.length) (O:Nat->St->Hp->Prop) (h0:O 0 σ H) (hq:∀i σ H,i<=xs.length->O i σ H->SqL K H a xs/\SqL K H b ys/\SqL K H c zs)
  (hs:∀i x y z σ H p H',xs[i]? =ak x->ys[i]? =ak y->zs[i]? =ak z->O i σ H->H p=hB->Same H H'->H' p=ak (.tup [x,y,z])->g (.ref p) σ H' fun ν H2=>tb {D with nx:=O (i + 1),ct:=O (i + 1),bk:=D.nx} ν H2) (hd:∀σ H,O xs.length σ H->D.nx σ H):
  ∃W:Nat->Nat->St->Hp->Prop,(∃m,W 0 m σ H)/\∀i m σ H,W i m σ H->
    ((Itz3 K a b c).stop i H/\D.nx σ H)∨((Itz3 K a b c).go i H/\∃N:St->Hp->Prop,(∀σ' H',N σ' H'->∃α,α < m/\W (i + 1) α σ' H')/\∀x H',(Itz3 K a b c).yld i H x H'->g x σ H' fun ν H2=>tb {D with nx:=N,ct:=N,bk:=D.nx} ν H2):=by
 refine⟨λi m σ H=>m=xs.length - i/\i<=xs.length/\O i σ H,⟨xs.length,@D,LI _,h0⟩,?_⟩;rintro i m σ H ⟨rfl,hi,p⟩;obtain⟨ο,ξ,Z⟩:=hq i σ H hi p;by_cases Y:i < xs.length
 ·refine .inr ⟨⟨xs,ys,zs,xs[i],ys[i]' @A,zs[i]' @A,ο,ξ,Z,hl,hl2,by simp[Y],by simp[show i < ys.length by omega],by simp[show i < zs.length by omega]⟩,O (i + 1),fun σ' H' ρ=>⟨xs.length - (i + 1),by omega,rfl,Y,ρ⟩,λx H' y=>?_⟩;obtain⟨r,u,v,t,f,ζ,ε,δ,γ,β⟩:=y;subst ζ ε;exact hs i u v t σ H r _ (δ xs ο) (γ ys ξ) (β zs Z) p f (c8 f) aP
 ·have e:i=xs.length:=by omega
  subst e;exact .inl ⟨⟨xs,ys,zs,ο,ξ,Z,hl,hl2,rfl⟩,hd σ H p⟩
end L2
set_option autoImplicit false
namespace M
theorem Gf (a b:Nat):(a||| b) / 2=a / 2||| b / 2:=by
 apply oe;intro i;simp[NH,R']
theorem xD (a b:Nat):(a&&&b) / 2=a / 2&&&b / 2:=by
 apply oe;intro i;simp[NH,KU]
theorem xC (a b:Nat):(a^^^b) / 2=a / 2^^^b / 2:=by
 apply oe;intro i;simp[NH,so]
theorem or_sum (a:Nat):∀b:Nat,a||| b=(a^^^b) + (a&&&b):=by
 induction a using PP with
 | ind a ih=>
   intro b;by_cases ha:a=0
   ·subst ha;simp
   ·have h:=ih (a / 2) @A (b / 2);have Z:=PQ (a||| b) 2;have Y:=PQ (a^^^b) 2;have O:=PQ (a&&&b) 2;rw[Gf] at Z;rw[xC] at Y;rw[xD] at O;have γ:(a||| b) % 2=(a % 2||| b % 2):=by have:=@Nat.or_mod_two_pow a b 1;simpa using this
    have β:(a^^^b) % 2=(a % 2^^^b % 2):=by have:=@Nat.xor_mod_two_pow a b 1;simpa using this
    have α:(a&&&b) % 2=(a % 2&&&b % 2):=by have:=@Nat.and_mod_two_pow a b 1;simpa using this
    have c:(a % 2||| b % 2)=(a % 2^^^b % 2) + (a % 2&&&b % 2):=by
     rcases Lp a with h1 | h1<;>rcases Lp b with h2 | h2<;>rw[h1,h2]<;>decide
    omega
noncomputable def pb:Nat->Nat->KS
 | 0,_=>false
 | w + 1,m=>(m.testBit w)^^(pb w m)
theorem Et (w a b:Nat):pb w (a^^^b)=(pb w a^^pb w b):=by
 induction w with
 | zero=>rfl
 | succ w ih=>
   simp only[pb,so,ih];cases a.testBit w<;>cases b.testBit w<;>cases pb w a<;>cases pb w b<;>rfl
theorem oG (h j m:Nat):pb (h + j) m=(pb h m^^pb j (m>>>h)):=by
 induction j with
 | zero=>simp[pb]
 | succ j ih=>
   rw[Nat.add_succ];simp only[pb,ih,LG];cases m.testBit (h + j)<;>cases pb h m<;>cases pb j (m>>>h)<;>rfl
theorem AA (h m:Nat):pb h (m % 2 ^ h)=pb h m:=by
 suffices ∀j,j<=h->pb j (m % 2 ^ h)=pb j m from this h (ri h)
 intro j
 induction j with
 | zero=>intro _;rfl
 | succ j ih=>
   intro O;simp only[pb];rw[ih @A,Kv];simp[show j < h by omega]
theorem FX (w j m:Nat) (hm:m < 2 ^ w):pb (w + j) m=pb w m:=by
 rw[oG,z3,Nat.div_eq_of_lt hm]
 have:∀j,pb j 0=false:=by intro j;induction j with
  | zero=>rfl
  | succ j ih=>simp[pb,ih]
 rw[this];simp
theorem pb_up {w O m:Nat} (hm:m < 2 ^ w) (h:w<=O):pb O m=pb w m:=by
 obtain⟨j,rfl⟩:=O8 h;exact FX w j m hm
theorem pb_fold (w h m:Nat) (hw:h<=w) (hm:m < 2 ^ w) (h2:w<=2 * h):pb h ((m>>>h)^^^(m&&&(2 ^ h - 1)))=pb w m:=by
 rw[Ly,Et,AA];obtain⟨j,rfl⟩:=O8 hw;rw[oG]
 have O:m>>>h < 2 ^ j:=by
  rw[z3];exact OI (by rw[<-Nf];exact hm)
 rw[pb_up O (show j<=h by omega)];cases pb j (m>>>h)<;>cases pb h m<;>rfl
theorem fold_lt (w h m:Nat) (hm:m < 2 ^ w) (h2:w<=2 * h):(m>>>h)^^^(m&&&(2 ^ h - 1)) < 2 ^ h:=by
 apply Rf
 ·rw[z3];refine OI ?_;rw[<-Nf];exact f' hm (gA @C @A)
 ·rw[Ly];exact Nu _ (lh h)
noncomputable def pl (w m:Nat):D':=(lA w).filter m.testBit
theorem pl_up {w O m:Nat} (hm:m < 2 ^ w) (h:w<=O):pl O m=pl w m:=by
 obtain⟨j,rfl⟩:=O8 h;unfold pl;rw[List.range_add,LV]
 have:List.filter m.testBit (List.map (λx=>w + x) (lA j))=[]:=by
  rw[List.filter_eq_nil_iff];intro a ha;obtain⟨k,_,rfl⟩:=oi.mp ha;rw[lB (f' hm (gA @C (MV w k)))];simp
 rw[this,LD]
noncomputable def xm (ps:D'):Nat:=ps.foldl (λa p=>a^^^2 ^ p) 0
theorem EX (ps:D'):∀(a k:Nat),(ps.foldl (λa p=>a^^^2 ^ p) a).testBit k=(a.testBit k^^(ps.count k % 2 == 1)):=by
 induction ps with
 | nil=>intro a k;simp
 | cons p ps ih=>
   intro a k;rw[NX,ih,so,z0,List.count_cons];by_cases h:p=k
   ·subst h;simp only[decide_true,L3,OF];rcases Lp (QX p ps) with z | z
    ·have e:(QX p ps + 1) % 2=1:=by omega
     rw[z,e];cases a.testBit p<;>rfl
    ·have e:(QX p ps + 1) % 2=0:=by omega
     rw[z,e];cases a.testBit p<;>rfl
   ·have hb:(p == k)=false:=Kr.mpr h;simp[hb,h]
theorem GI (ps:D') (k:Nat):(xm ps).testBit k=(ps.count k % 2 == 1):=by
 unfold xm;rw[EX];simp
theorem mz (w k:Nat) (p:Nat->KS):((lA w).filter p).count k=if k < w/\p k=true then 1 else 0:=by
 have nd:((lA w).filter p).Nodup:=N1 p O1;by_cases h:k < w/\p k=true
 ·rw[qb h];have hm:k∈(lA w).filter p:=LC.mpr ⟨Kw.mpr h.1,h.2⟩;exact List.Nodup.count nd |>.trans (by rw[qb hm])
 ·rw[ov h];refine List.count_eq_zero.mpr λhm=>h ?_;obtain⟨a,b⟩:=LC.mp hm;exact⟨Kw.mp a,b⟩
theorem CM (w m k:Nat):(pl w m).count k=if k < w/\m.testBit k=true then 1 else 0:=mz w k m.testBit
theorem xm_ext {w m:Nat} {ps:D'} (hm:m < 2 ^ w) (h:∀k,ps.count k % 2=(pl w m).count k % 2):xm ps=m:=by
 apply oe;intro k;rw[GI,h,CM];by_cases hk:k < w
 ·cases e:m.testBit k<;>simp[hk,e]
 ·rw[lB (f' hm (gA @C (Nat.not_lt.mp hk)))];simp[hk]
noncomputable def Span:D'->Nat->Prop
 | [],x=>x=0
 | r::rs,x=>Span rs x∨Span rs (x^^^r)
theorem jQ:∀rs:D',Span rs 0
 | []=>rfl
 | _::rs=> .inl (jQ rs)
theorem aO (x r:Nat):x^^^r^^^r=x:=by rw[KP,Mg,Lq]
theorem eM (a b c:Nat):a^^^b^^^c=a^^^c^^^b:=by rw[KP,NV b c,<-KP]
theorem bM:∀(rs:D') (r x:Nat),Span (rs++[r]) x↔Span rs x∨Span rs (x^^^r)
 | [],r,x=>Ro
 | q::rs,r,x=>by
   show Span (rs++[r]) x∨Span (rs++[r]) (x^^^q)↔(Span rs x∨Span rs (x^^^q))∨(Span rs (x^^^r)∨Span rs (x^^^r^^^q));rw[bM rs r x,bM rs r (x^^^q),eM x q r];constructor
   ·rintro((h | h) | (h | h))
    ·exact .inl (.inl h)
    ·exact .inr (.inl h)
    ·exact .inl (.inr h)
    ·exact .inr (.inr h)
   ·rintro((h | h) | (h | h))
    ·exact .inl (.inl h)
    ·exact .inr (.inl h)
    ·exact .inl (.inr h)
    ·exact .inr (.inr h)
theorem span_xor:∀{rs:D'} {x y:Nat},Span rs x->Span rs y->Span rs (x^^^y)
 | [],x,y,h,k=>by
   have h:x=0:=h;have k:y=0:=k;subst h;subst k;exact rfl
 | r::rs,x,y,h,k=>by
   rcases h with h | h<;>rcases k with k | k
   ·exact .inl (span_xor h k)
   ·refine .inr ?_;have:=span_xor h k;rwa [<-KP] at this
   ·refine .inr ?_;have:=span_xor h k;rwa [eM] at this
   ·refine .inl ?_;have:=span_xor h k;rwa [<-KP,eM x r y,aO] at this
noncomputable def sm:D'->Nat->Nat
 | [],_=>0
 | r::rs,p=>(if p.testBit 0 then r else 0)^^^sm rs (p / 2)
theorem sm_zero:∀rs:D',sm rs 0=0
 | []=>rfl
 | r::rs=>by show(if (0:Nat).testBit 0 then r else 0)^^^sm rs (0 / 2)=0;rw[show(0:Nat) / 2=0 from rfl,sm_zero rs];simp
theorem xor4 (a b c d:Nat):a^^^b^^^(c^^^d)=a^^^c^^^(b^^^d):=by
 rw[KP,<-KP b c d,NV b c,KP c b d,<-KP a c]
theorem sm_xor:∀(rs:D') (p q:Nat),sm rs (p^^^q)=sm rs p^^^sm rs q
 | [],p,q=>by show(0:Nat)=0^^^0;simp
 | r::rs,p,q=>by
   show(if (p^^^q).testBit 0 then r else 0)^^^sm rs ((p^^^q) / 2)=((if p.testBit 0 then r else 0)^^^sm rs (p / 2))^^^((if q.testBit 0 then r else 0)^^^sm rs (q / 2));rw[xC,sm_xor rs,so,xor4];congr 1;cases p.testBit 0<;>cases q.testBit 0<;>simp
theorem dM:∀(rs:D') (r p:Nat),sm (rs++[r]) p=sm rs p^^^(if p.testBit rs.length then r else 0)
 | [],r,p=>by show(if p.testBit 0 then r else 0)^^^0=0^^^_;rw[Lq,Oa];rfl
 | q::rs,r,p=>by
   show(if p.testBit 0 then q else 0)^^^sm (rs++[r]) (p / 2)=((if p.testBit 0 then q else 0)^^^sm rs (p / 2))^^^_;rw[dM rs r (p / 2),NH,KP];rfl
theorem g7 {rs:D'} {r p:Nat} (h:p < 2 ^ rs.length):sm (rs++[r]) p=sm rs p:=by
 rw[dM,lB h];simp
theorem Ej (rs:D') (r:Nat):sm (rs++[r]) (2 ^ rs.length)=r:=by
 rw[dM]
 have e:sm rs (2 ^ rs.length)=0:=by
  have:∀(rs:D') (k:Nat),rs.length<=k->sm rs (2 ^ k)=0:=by
   intro rs
   induction rs with
   | nil=>intro k _;rfl
   | cons q rs ih=>
     intro k hk;have hk:rs.length + 1<=k:=hk;obtain⟨j,rfl⟩:∃j,k=j + 1:=⟨k - 1,@A⟩;show(if (2 ^ (j + 1)).testBit 0 then q else 0)^^^sm rs (2 ^ (j + 1) / 2)=0;have Y:(2 ^ (j + 1)) / 2=2 ^ j:=by rw[NW];omega
     have O:(2 ^ (j + 1)).testBit 0=false:=by rw[z0];simp
     rw[Y,O,ih j @A];simp
  exact this rs _ (ri _)
 rw[e,M9];simp
theorem sm_span:∀(rs:D') (p:Nat),Span rs (sm rs p)
 | [],p=>rfl
 | r::rs,p=>by
   show Span rs _∨Span rs _;have ih:=sm_span rs (p / 2);cases h:p.testBit 0 with
   | true=>refine .inr ?_;rw[show sm (r::rs) p=r^^^sm rs (p / 2) from by show(if p.testBit 0 then r else 0)^^^_=_;rw[h];rfl,NV r,aO];exact ih
   | false=>refine .inl ?_;rw[show sm (r::rs) p=sm rs (p / 2) from by show(if p.testBit 0 then r else 0)^^^_=_;rw[h];simp];exact ih
theorem vN:∀{rs:D'} {x:Nat},Span rs x->∃p,p < 2 ^ rs.length/\sm rs p=x
 | [],x,h=>⟨0,Nat.one_pos,(show x=0 from h).symm⟩
 | r::rs,x,h=>by
   rcases h with h | h
   ·obtain⟨p,O,e⟩:=vN h;refine⟨2 * p,by rw[za,NW];omega,?_⟩;show(if (2 * p).testBit 0 then r else 0)^^^sm rs (2 * p / 2)=x;rw[show 2 * p / 2=p by omega,show(2 * p).testBit 0=false by simp[Nj],e];simp
   ·obtain⟨p,O,e⟩:=vN h;refine⟨2 * p + 1,by rw[za,NW];omega,?_⟩;show(if (2 * p + 1).testBit 0 then r else 0)^^^sm rs ((2 * p + 1) / 2)=x;rw[show(2 * p + 1) / 2=p by omega,show(2 * p + 1).testBit 0=true by simp[Nj],e];show r^^^(x^^^r)=x;rw[NV,aO]
theorem AL {x t:Nat} (h1:2 ^ t<=x) (h2:x < 2 ^ (t + 1)):x.log2=t:=by
 have O:x≠0:=by have:=lh t;omega
 have a:=(Q3 O).mpr h2;have b:t<=x.log2:=(Nat.le_log2 O).mpr h1;omega
theorem fw {x:Nat} (h:x≠0):x.testBit x.log2=true:=by
 have:=Nat.testBit_log2 h;exact this
theorem xor_lt_pow {x y t:Nat} (h1:x < 2 ^ t) (h2:y < 2 ^ t):x^^^y < 2 ^ t:=Rf h1 h2
theorem wU {x y:Nat} (hx:x≠0) (hy:y≠0) (h:x.log2=y.log2):x^^^y < 2 ^ x.log2:=by
 have h1:x^^^y < 2 ^ (x.log2 + 1):=xor_lt_pow Mn (by rw[h];exact Mn)
 have hb:(x^^^y).testBit x.log2=false:=by
  rw[so,fw hx,show y.testBit x.log2=true by rw[h];exact fw hy];rfl
 apply L';intro i hi;rcases Rh hi with hi | hi
 ·exact lB (f' h1 (gA @C hi))
 ·rw[<-hi];exact hb
theorem xor_less {x y:Nat} (hx:x≠0) (hy:y≠0) (h:x.log2=y.log2):x^^^y < x:=
 f' (wU hx hy h) (RH hx)
theorem lG {x y:Nat} (hy:y≠0) (h:x < 2 ^ y.log2):(x^^^y).log2=y.log2:=by
 have h1:x^^^y < 2 ^ (y.log2 + 1):=xor_lt_pow (f' h (gA @C @A)) Mn;have hb:(x^^^y).testBit y.log2=true:=by rw[so,lB h,fw hy];rfl
 exact AL (Nat.ge_two_pow_of_testBit hb) h1
theorem wt {x y:Nat} (hx:x≠0) (hy:y≠0) (h:x.log2≠y.log2):(x^^^y).log2=x.log2∨(x^^^y).log2=y.log2:=by
 rcases Rg h with h | h
 ·exact .inr (lG hy (f' Mn (gA @C h)))
 ·refine .inl ?_;rw[NV];exact lG hx (f' Mn (gA @C h))
def Fre (rows:D') (i:Nat):Prop:=i < rows.length/\¬Span (rows.take i) (rows.getD i 0)
theorem Fre.snoc {rows:D'} {i:Nat} (r:Nat) (h:Fre rows i):Fre (rows++[r]) i:=by
 obtain⟨hi,hn⟩:=h;refine⟨by rw[hC];omega,?_⟩;rw[PB (L9 hi),eh,u' hi,<-eh];exact hn
theorem Fre.last {rows:D'} {r:Nat} (h:¬Span rows r):Fre (rows++[r]) rows.length:=by
 refine⟨by rw[hC];simp,?_⟩;rw[PD,eh,vr (ri _),Ms];exact h
def Frs (rows:D') (q:Nat):Prop:=∀i,q.testBit i=true->Fre rows i
theorem Frs.zero (rows:D'):Frs rows 0:=λi h=>by rw[M6] at h;cases h
theorem Frs.xor {rows:D'} {p q:Nat} (O:Frs rows p) (hq:Frs rows q):Frs rows (p^^^q):=λi h=>by
 rw[so] at h;cases h1:p.testBit i with
 | true=>exact O i h1
 | false=>rw[h1] at h;exact hq i (by simpa using h)
theorem Frs.snoc {rows:D'} {q:Nat} (r:Nat) (h:Frs rows q):Frs (rows++[r]) q:=λi hi=>(h i hi).snoc r
theorem Frs.more {rows:D'} {q r:Nat} (h:Frs rows q) (O:¬Span rows r):Frs (rows++[r]) (q^^^2 ^ rows.length):=(h.snoc r).xor λi hi=>by
 rw[z0] at hi;have e:rows.length=i:=by simpa using hi
 rw[<-e];exact Fre.last O
structure Ech (es:A') (rows:D'):Prop where
 nz:∀e∈es,e.1≠0
 lt:∀e∈es,e.2 < 2 ^ rows.length
 sm:∀e∈es,sm rows e.2=e.1
 nd:(es.map λe=>e.1.log2).Nodup
 all:∀y,Span rows y->y≠0->∃e∈es,e.1.log2=y.log2
 sub:∀e∈es,Frs rows e.2
theorem Ech.nil:Ech [] []:=⟨λ_ h=>kv h @D,λ_ h=>kv h @D,λ_ h=>kv h @D,.nil,λy h n=>kv h n,λ_ h=>kv h @D⟩
theorem Ech.span {es:A'} {rows:D'} (I:Ech es rows) {e:Nat×Nat} (h:e∈es):Span rows e.1:=by
 rw[<-I.sm e h];exact sm_span _ _
theorem vS {rows:D'} {r p:Nat} (h:p < 2 ^ rows.length):sm (rows++[r]) (p^^^2 ^ rows.length)=sm rows p^^^r:=by
 rw[sm_xor,g7 h,Ej]
theorem wo {n p:Nat} (h:p < 2 ^ n):p^^^2 ^ n < 2 ^ (n + 1):=
 xor_lt_pow (f' h (gA @C @A)) (Kf @C @A)
theorem Ech.null {es:A'} {rows:D'} (I:Ech es rows) {r q:Nat} (hq:q < 2 ^ rows.length) (e:r^^^M.sm rows q=0):Span rows r/\Ech es (rows++[r]):=by
 have O:r=M.sm rows q:=by
  have:=zt (·^^^M.sm rows q) e;simpa[aO] using this
 have hs:Span rows r:=by rw[O];exact sm_span _ _
 refine⟨hs,I.nz,λe h=>?_,λe h=>?_,I.nd,λy hy n=>?_,λe h=>(I.sub e h).snoc r⟩
 ·rw[hC];exact f' (I.lt e h) (gA @C @D)
 ·rw[g7 (I.lt e h)];exact I.sm e h
 ·rcases(bM rows r y).mp hy with hy | hy
  ·exact I.all y hy n
  ·have:=span_xor hy hs;rw[aO] at this;exact I.all y this n
theorem Ech.more {es:A'} {rows:D'} (I:Ech es rows) {r q:Nat} (hq:q < 2 ^ rows.length) (e:r^^^M.sm rows q≠0) (hn:∀e∈es,e.1.log2≠(r^^^M.sm rows q).log2) (hf:Frs rows q):
  ¬Span rows r/\Ech (es++[(r^^^M.sm rows q,q^^^2 ^ rows.length)]) (rows++[r]):=by
 have Y:¬Span rows r:=λhs=>by
  obtain⟨x,O,ex⟩:=I.all _ (span_xor hs (sm_span rows q)) e;exact hn x O ex
 refine⟨Y,λx h=>?_,λx h=>?_,λx h=>?_,?_,λy hy n=>?_,λx h=>(oT.mp h).elim (λh=>(I.sub x h).snoc r) λh=>by rw[hL] at h;subst h;exact hf.more Y⟩
 ·rcases oT.mp h with h | h
  ·exact I.nz x h
  ·rw[hL] at h;subst h;exact e
 ·rw[hC];rcases oT.mp h with h | h
  ·exact f' (I.lt x h) (gA @C @D)
  ·rw[hL] at h;subst h;exact wo hq
 ·rcases oT.mp h with h | h
  ·rw[g7 (I.lt x h)];exact I.sm x h
  ·rw[hL] at h;subst h;show M.sm _ (q^^^_)=r^^^M.sm rows q;rw[vS hq,NV]
 ·rw[hH,NL];refine⟨I.nd,@D,λa ha b hb=>?_⟩;obtain⟨x,O,rfl⟩:=oi.mp ha;rw[Mx,hL] at hb;subst hb;exact hn x O
 ·rcases(bM rows r y).mp hy with hy | hy
  ·obtain⟨x,O,ex⟩:=I.all y hy n;exact⟨x,qB _ O,ex⟩
  ·
   have hz:=span_xor hy (sm_span rows q)
   have ey:y=(y^^^r^^^M.sm rows q)^^^(r^^^M.sm rows q):=by
    rw[xor4,Mg,Lq,aO]
   generalize Z:y^^^r^^^M.sm rows q=z at hz ey;by_cases ζ:z=0
   ·refine⟨_,nv _ (hL.mpr rfl),?_⟩;show(r^^^M.sm rows q).log2=y.log2;rw[ey,ζ,Oa]
   ·obtain⟨x,O,ex⟩:=I.all z hz ζ;have ne:z.log2≠(r^^^M.sm rows q).log2:=by rw[<-ex];exact hn x O
    rcases wt ζ e ne with h | h
    ·exact⟨x,qB _ O,by rw[ex,ey,h]⟩
    ·refine⟨_,nv _ (hL.mpr rfl),?_⟩;show(r^^^M.sm rows q).log2=y.log2;rw[ey,h]
noncomputable def tt (p:Prop):Bool:=@decide p (M4 p)
theorem Ec {p:Prop} (h:p):tt p=true:=@pB _ (M4 _) h
theorem Ed {p:Prop} (h:¬p):tt p=false:=@qa _ (M4 _) h
noncomputable def fr (rows:D'):D':=(lA rows.length).filter λi=> !tt (Span (rows.take i) (rows.getD i 0))
theorem Be (rows:D') (r:Nat):fr (rows++[r])=fr rows++(if tt (Span rows r)=true then [] else [rows.length]):=by
 unfold fr;rw[hC,Kb,LB,LV]
 have O:(lA rows.length).filter (λi=> !tt (Span ((rows++[r]).take i) ((rows++[r]).getD i 0)))=(lA rows.length).filter (λi=> !tt (Span (rows.take i) (rows.getD i 0))):=by
  apply List.filter_congr;intro i hi;have hi:=Kw.mp hi;have a:(rows++[r]).take i=rows.take i:=PB (L9 hi)
  have b:(rows++[r]).getD i 0=rows.getD i 0:=by
   rw[eh,eh,u' hi]
  rw[a,b]
 rw[O];congr 1;have a:(rows++[r]).take rows.length=rows:=PD
 have b:(rows++[r]).getD rows.length 0=r:=by
  rw[eh,vr (ri _),Ms];rfl
 rw[MN,a,b];cases tt (Span rows r)<;>rfl
theorem fr_len (rows:D'):(fr rows).length<=rows.length:=by
 have:=Ou (λi=> !tt (Span (rows.take i) (rows.getD i 0))) (lA rows.length);rw[wq] at this;exact this
theorem fr_in {rows:D'} {r:Nat} (h:Span rows r):fr (rows++[r])=fr rows:=by rw[Be,Ec h];simp
theorem fr_out {rows:D'} {r:Nat} (h:¬Span rows r):fr (rows++[r])=fr rows++[rows.length]:=by rw[Be,Ed h];rfl
structure Nul (nms rows:D'):Prop where
 lt:∀x∈nms,x < 2 ^ rows.length
 nz:∀x∈nms,x≠0
 sm:∀x∈nms,sm rows x=0
 pw:nms.Pairwise λa b=>a.log2 < b.log2
 len:nms.length + (fr rows).length=rows.length
theorem Nul.nil:Nul [] []:=⟨λ_ h=>kv h @D,λ_ h=>kv h @D,λ_ h=>kv h @D,.nil,rfl⟩
theorem Nul.keep {nms rows:D'} (I:Nul nms rows) {r:Nat} (h:¬Span rows r):Nul nms (rows++[r]) where
 lt:=λx O=>by rw[hC];exact f' (I.lt x O) (gA @C @D)
 nz:=I.nz
 sm:=λx O=>by rw[g7 (I.lt x O)];exact I.sm x O
 pw:=I.pw
 len:=by rw[fr_out h,hC,hC,<-I.len];simp;omega
theorem pU {n q:Nat} (h:q < 2 ^ n):q^^^2 ^ n≠0/\(q^^^2 ^ n).log2=n:=by
 have e:(2 ^ n:Nat).log2=n:=AL (ri _) (Kf @C @A);have O:(2 ^ n:Nat)≠0:=by have:=lh n;omega
 have hl:=lG (x:=q) O (by rw[e];exact h);refine⟨λz=>?_,by rw[hl,e]⟩;have hb:(q^^^2 ^ n).testBit n=true:=by rw[so,lB h,M9];rfl
 rw[z] at hb;simp at hb
theorem log2_under {n q:Nat} (h0:q≠0) (h:q < 2 ^ n):q.log2 < n:=(Q3 h0).mpr h
theorem Nul.snoc {nms rows:D'} (I:Nul nms rows) {r q:Nat} (hq:q < 2 ^ rows.length) (e:r^^^M.sm rows q=0) (hs:Span rows r):Nul (nms++[q^^^2 ^ rows.length]) (rows++[r]) where
 lt:=λx hx=>by
  rw[hC];rcases oT.mp hx with hx | hx
  ·exact f' (I.lt x hx) (gA @C @D)
  ·rw[hL] at hx;subst hx;exact wo hq
 nz:=λx hx=>by
  rcases oT.mp hx with hx | hx
  ·exact I.nz x hx
  ·rw[hL] at hx;subst hx;exact(pU hq).1
 sm:=λx hx=>by
  rcases oT.mp hx with hx | hx
  ·rw[g7 (I.lt x hx)];exact I.sm x hx
  ·rw[hL] at hx;subst hx;rw[vS hq,NV];exact e
 pw:=by
  rw[OC];refine⟨I.pw,Qo _ _,λa ha b hb=>?_⟩;rw[hL] at hb;subst hb;rw[(pU hq).2];exact log2_under (I.nz a ha) (I.lt a ha)
 len:=by rw[fr_in hs,hC,hC,<-I.len];simp;omega
def Inj (ws:D'):Prop:=∀p,p < 2 ^ ws.length->sm ws p=0->p=0
theorem sm_lt {t:Nat}:∀{ws:D'} (p:Nat),(∀x∈ws,x < 2 ^ t)->sm ws p < 2 ^ t
 | [],p,_=>lh t
 | w::ws,p,h=>by
   refine xor_lt_pow ?_ (sm_lt _ λx O=>h x (ky _ O));split
   ·exact h w (kb ..)
   ·exact lh t
theorem Inj.nil:Inj []:=λp h _=>by
 have:p < 1:=h;omega
theorem tG:∀(n:Nat) (l:D'),l.Nodup->(∀x∈l,x < n)->l.length<=n
 | 0,l,_,h=>by
   cases l with
   | nil=>exact ri _
   | cons x r=>exact kv (h x (kb ..)) (LO _)
 | n + 1,l,nd,h=>by
   have ih:=tG n (l.erase n) (nd.erase n) λx O=>by
    have hm:=(nd.mem_erase_iff).mp O;have:=h x hm.2;have:=hm.1;omega
   by_cases hm:n∈l
   ·rw[Qk hm] at ih;omega
   ·rw[List.erase_of_not_mem hm] at ih;omega
theorem span_lt {t:Nat}:∀{rs:D'} {x:Nat},(∀r∈rs,r < 2 ^ t)->Span rs x->x < 2 ^ t
 | [],x,_,h=>by have h:x=0:=h;rw[h];exact lh t
 | r::rs,x,b,h=>by
   have ih:=λx=>span_lt (rs:=rs) (x:=x) λy O=>b y (ky _ O);rcases h with h | h
   ·exact ih x h
   ·have:=xor_lt_pow (ih _ h) (b r (kb ..));rwa [aO] at this
structure Sums (ks rows:D'):Prop where
 nd:ks.Nodup
 all:∀x,x∈ks↔Span rows x
theorem Sums.zero:Sums [0] []:=⟨@D,λx=>by rw[hL];exact Ro⟩
theorem EV {a b r:Nat} (h:a^^^r=b^^^r):a=b:=by
 have:=zt (·^^^r) h;simpa[aO] using this
theorem Sums.step {ks rows:D'} (S:Sums ks rows) {r:Nat} (h:¬Span rows r):Sums (ks++ks.map (·^^^r)) (rows++[r]):=by
 refine⟨?_,λx=>?_⟩
 ·rw[NL];refine⟨S.nd,?_,λa ha b hb e=>?_⟩
  ·exact List.Pairwise.map _ (λa b ξ e=>ξ (EV e)) S.nd
  ·obtain⟨c,Y,rfl⟩:=oi.mp hb;subst e;have:=span_xor ((S.all _).mp ha) ((S.all _).mp Y);rw[eM,Mg,Oa] at this;exact h this
 ·rw[oT,bM,S.all,oi];constructor
  ·rintro(h | ⟨y,O,rfl⟩)
   ·exact .inl h
   ·refine .inr ?_;rw[aO];exact(S.all _).mp O
  ·rintro(h | h)
   ·exact .inl h
   ·exact .inr ⟨x^^^r,(S.all _).mpr h,aO x r⟩
theorem Sums.keep {ks rows:D'} (S:Sums ks rows) {r:Nat} (h:Span rows r):Sums ks (rows++[r]):=
 ⟨S.nd,λx=>by
  rw[S.all,bM];refine⟨.inl,λq=>q.elim id λq=>?_⟩;have:=span_xor q h;rwa [aO] at this⟩
theorem Sums.few {ks rows:D'} (S:Sums ks rows) {t:Nat} (h:∀r∈rows,r < 2 ^ t):ks.length<=2 ^ t:=tG _ _ S.nd λx O=>span_lt h ((S.all x).mp O)
end M
namespace Sx
open PySem L2
noncomputable abbrev nat (k:Nat):V:= .int (k:Int)
theorem FH {k:Nat} {A:Kj} (r:Room k A):A.units + 100 < cLine:=by have:=r.un;omega
theorem iteB {c:KS} {A B:Prop} (h1:c=true->A) (h2:c=false->B):if c=true then A else B:=by
 cases c
 ·rw[ov iv];exact h2 rfl
 ·rw[qb rfl];exact h1 rfl
theorem lP (h:Nat):(2:Int) ^ h=((2 ^ h:Nat):Int):=by norm_cast
theorem shl1 (k:Nat):(1:Int) * 2 ^ ((k:Int).toNat)=((2 ^ k:Nat):Int):=by rw[pT,OH];norm_cast
theorem vz (a b:Nat):PR (a:Int) (b:Int)=((a||| b:Nat):Int):=by
 have Y:LR (a:Int)= -(a:Int) - 1:=by first | rfl | (unfold LR;omega)
 have O:LR (b:Int)= -(b:Int) - 1:=by first | rfl | (unfold LR;omega)
 unfold PR MA;rw[qa (show ¬(0:Int)<=LR (a:Int) by rw[Y];omega),qa (show ¬(0:Int)<=LR (b:Int) by rw[O];omega)];have n:∀x:Int,LR (LR x)=x:=λx=>by unfold LR;omega
 simp only[n,pT]
theorem bj (a b:Nat):On (a:Int) (b:Int)=((a^^^b:Nat):Int):=by
 unfold On;rw[vz,bw];have:=M.or_sum a b;omega
theorem vy:z4 ((0:Nat):Int)=0:=by decide
theorem kr {m:Nat} (h:m≠0):z4 (m:Int)=m.log2 + 1:=by
 unfold z4;have e:((m:Int) == 0)=false:=by rw[Kr];omega
 rw[e,ov iv,P4]
theorem DT (m i:Nat):MA ((m:Int) / 2 ^ ((0 + (i:Int)).toNat)) 1=if m.testBit i then 1 else 0:=by
 have Y:(0 + (i:Int)).toNat=i:=by omega
 rw[Y,lP];have O:(m:Int) / ((2 ^ i:Nat):Int)=((m>>>i:Nat):Int):=by rw[z3];norm_cast
 rw[O,show(1:Int)=((1:Nat):Int) from rfl,bw,Nat.and_one_is_mod]
 have:m.testBit i=(m>>>i % 2 == 1):=by
  rw[Nat.testBit_eq_decide_div_mod_eq,z3];rcases Lp (m / 2 ^ i) with h | h<;>rw[h]<;>rfl
 rw[this];rcases Lp (m>>>i) with h | h<;>rw[h]<;>rfl
structure En where
 a:gn
 m:Nat
 p:Nat
noncomputable def l8 (es:gs En):gs (Key×V):=es.map λe=>(L5 ((e.m.log2:Nat):Int),V.ref e.a)
theorem mH:∀(es:gs En) (z:Int),(∃e∈es,((e.m.log2:Nat):Int)=z/\valV (l8 es) (L5 z)=ak (.ref e.a))∨((∀e∈es,((e.m.log2:Nat):Int)≠z)/\valV (l8 es) (L5 z)=hB)
 | [],z=> .inr ⟨λ_ h=>kv h @D,rfl⟩
 | e::es,z=>by
   by_cases h:((e.m.log2:Nat):Int)=z
   ·exact .inl ⟨e,kb ..,h,oz (by show(L5 _:Key)=_;rw[h])⟩
   ·have O:valV (l8 (e::es)) (L5 z)=valV (l8 es) (L5 z):=oA (by show ¬(L5 _:Key)=_;intro q;exact h (RO q));rcases mH es z with ⟨x,hx,Z,Y⟩ | ⟨h1,h2⟩
    ·exact .inl ⟨x,ky _ hx,Z,by rw[O];exact Y⟩
    ·refine .inr ⟨λx hx=>?_,by rw[O];exact h2⟩;rcases qn.mp hx with rfl | hx
     ·exact h
     ·exact h1 x hx
theorem CL {kvs:gs (Key×V)} {k:Key} {v:V} (h:valV kvs k=hB):putK kvs k v=kvs++[(k,v)]:=by
 unfold putK;rw[sN,h];rfl
structure StA (H:Hp) (C p d f n:gn) (rows:D'):Prop where
 ho:∃dx,H p=ak (.ins C dx [("by_top",.ref d),("free_places",.ref f),("null_masks",.ref n)])
 he:∃es:gs En,H d=ak (.dK (l8 es))/\(∀e∈es,H e.a=ak (.tup [nat e.m,nat e.p]))/\M.Ech (es.map λe=>(e.m,e.p)) rows/\es.length=(M.fr rows).length
 hf:H f=ak (.lst ((M.fr rows).map nat))
 hn:∃nms,H n=ak (.lst (nms.map nat))/\M.Nul nms rows
 ne:f≠n
theorem StA.same {H H2:Hp} {C p d f n:gn} {rows:D'} (x:StA H C p d f n rows) (s:Same H H2):StA H2 C p d f n rows where
 ho:=let ⟨dx,h⟩:=x.ho;⟨dx,s _ _ h⟩
 he:=let ⟨es,h,t,g,l⟩:=x.he;⟨es,s _ _ h,λe he=>s _ _ (t e he),g,l⟩
 hf:=s _ _ x.hf
 hn:=let ⟨nms,h,g⟩:=x.hn;⟨nms,s _ _ h,g⟩
 ne:=x.ne
theorem StA.null {H H2:Hp} {C p d f n:gn} {rows:D'} (x:StA H C p d f n rows) {r q:Nat} (hq:q < 2 ^ rows.length) (e:r^^^M.sm rows q=0) {nms:D'} (hn:M.Nul nms rows) (hl:H n=ak (.lst (nms.map nat)))
  (u:Upd H H2 n (.lst (nms.map nat++[nat (q^^^2 ^ rows.length)]))):StA H2 C p d f n (rows++[r]):=by
 obtain⟨dx,ho⟩:=x.ho;obtain⟨es,hd,ht,g,l⟩:=x.he;obtain⟨hs,g2⟩:=g.null hq e;refine⟨⟨dx,u.oth _ _ (i4 ho hl @D) ho⟩,⟨es,u.oth _ _ (i4 hd hl @D) hd,λe he=>u.oth _ _ (i4 (ht e he) hl @D) (ht e he),g2,by rw[M.fr_in hs];exact l⟩,?_,⟨nms++[q^^^2 ^ rows.length],?_,hn.snoc hq e hs⟩,x.ne⟩
 ·rw[M.fr_in hs];exact u.oth _ _ x.ne x.hf
 ·rw[hH];exact u.at'
theorem StA.more {H H2 γ Z:Hp} {C p d f n t:gn} {rows:D'} (x:StA H C p d f n rows) {r q:Nat} (hq:q < 2 ^ rows.length) (e:r^^^M.sm rows q≠0) (hn:∀y,M.Span rows y->y≠0->y.log2≠(r^^^M.sm rows q).log2) (hf:M.Frs rows q)
  (u:Upd H H2 f (.lst ((M.fr rows).map nat++[nat rows.length]))) (s:Same H2 γ) (ht:γ t=ak (.tup [nat (r^^^M.sm rows q),nat (q^^^2 ^ rows.length)])) {es:gs En} (hd:H d=ak (.dK (l8 es))) (Y:∀e∈es,H e.a=ak (.tup [nat e.m,nat e.p])) (g:M.Ech (es.map λe=>(e.m,e.p)) rows) (l:es.length=(M.fr rows).length)
  (α:Upd γ Z d (.dK (putK (l8 es) (L5 (((r^^^M.sm rows q).log2:Nat):Int)) (.ref t)))):StA Z C p d f n (rows++[r]):=by
 obtain⟨dx,ho⟩:=x.ho;obtain⟨nms,δ,ζ⟩:=x.hn;have O:∀e∈es.map (λe=>(e.m,e.p)),e.1.log2≠(r^^^M.sm rows q).log2:=λe he=>hn e.1 (g.span he) (g.nz e he);obtain⟨hs,g2⟩:=g.more hq e O hf;have β:=s _ _ (u.oth _ _ (i4 hd x.hf @D) hd)
 have ε:valV (l8 es) (L5 (((r^^^M.sm rows q).log2:Nat):Int))=none:=by
  rcases mH es (((r^^^M.sm rows q).log2:Nat):Int) with ⟨z,hz,η,_⟩ | ⟨_,h⟩
  ·exact kv (Int.ofNat_inj.mp η) (O (z.m,z.p) (oi.mpr ⟨z,hz,rfl⟩))
  ·exact h
 have go:∀(b:gn) (ob:HO),H b=ak ob->b≠f->b≠d->Z b=ak ob:=λb ob h h1 h2=>α.oth _ _ h2 (s _ _ (u.oth _ _ h1 h));refine⟨⟨dx,go _ _ ho (i4 ho x.hf @D) (i4 ho hd @D)⟩,⟨es++[⟨t,r^^^M.sm rows q,q^^^2 ^ rows.length⟩],?_,λe he=>?_,?_,?_⟩,?_,⟨nms,go _ _ δ (Ka x.ne) (i4 δ hd @D),ζ.keep hs⟩,x.ne⟩
 ·rw[α.at',CL ε];unfold l8;rw[hH];rfl
 ·rcases oT.mp he with he | he
  ·exact go _ _ (Y e he) (i4 (Y e he) x.hf @D) (i4 (Y e he) hd @D)
  ·rw[hL] at he;subst he;exact α.oth _ _ (i4 ht β @D) ht
 ·rw[hH];exact g2
 ·rw[M.fr_out hs,hC,hC,l];rfl
 ·rw[M.fr_out hs,hH];exact α.oth _ _ (λz=>by rw[z] at x;have:=x.hf;rw[hd] at this;cases this) (s _ _ u.at')
def GU (C:gn):Sp:=λvs H Q _=>∃p d f n rows x,vs=[.ref p,nat x]/\StA H C p d f n rows/\
 ∀t H2 q,H t=hB->Same H H2->H2 t=ak (.tup [nat (x^^^M.sm rows q),nat q])->q < 2 ^ rows.length->(x^^^M.sm rows q≠0->∀y,M.Span rows y->y≠0->y.log2≠(x^^^M.sm rows q).log2)->M.Frs rows q->Q (.ref t) H2
def GV (C:gn):Sp:=λvs H Q _=>∃p d f n rows r,vs=[.ref p,nat rows.length,nat r]/\StA H C p d f n rows/\rows.length<=1000/\
 ∀H2,(∀b o,b≠d->b≠f->b≠n->H b=ak o->H2 b=ak o)->StA H2 C p d f n (rows++[r])->Q .non H2
def Fc (C:gn):Sp:=λvs H Q _=>∃x dx r rows,vs=[.ref x,.ref r]/\H r=ak (.lst (rows.map nat))/\rows.length<=1000/\H x=ak (.ins C dx [])/\
 ∀H2 d f n,(∀b o,b≠x->H b=ak o->H2 b=ak o)->StA H2 C x d f n rows->Q .non H2
def Fi:Sp:=λvs H Q _=>∃r rows,vs=[.ref r]/\H r=ak (.lst (rows.map nat))/\rows.length<=1000/\∀D H2,H D=hB->Same H H2->H2 D=ak (.lst ((M.fr rows).map nat))->Q (.ref D) H2
theorem aK {α:Type} {f:α->V} {ws:gs α} {i:Nat} {x:V} (h:(ws.map f)[i]? =ak x):∃k,ws[i]? =ak k/\x=f k:=by
 rw[lz] at h;cases e:ws[i]? with
 | none=>rw[e] at h;cases h
 | some k=>rw[e] at h;exact⟨k,rfl,(kf h).symm⟩
theorem take_succ {α:Type} {ws:gs α} {i:Nat} {w:α} (h:ws[i]? =ak w):ws.take (i + 1)=ws.take i++[w]:=by rw[List.take_succ,h];rfl
theorem sQ {α:Type} {ws:gs α} {i:Nat} {w:α} (h:ws[i]? =ak w):(ws.take i).length=i:=by
 rw[Kt];have:=(eH.mp h).1;omega
theorem j4 (ns:D'):(ns.map nat).all qi=true:=by simp[qi]
theorem rS {K:aS} {H:Hp} {Q:VK} {neg:KS} {p q:gn} {ns:D'} (e:SqL K H p (ns.map nat)) (O:SqL K H q (ns.map nat)) (h:Q (.bl (!neg)) H):rEqL K neg (.ref p) (.ref q) H Q:=by
 refine⟨p,q,_,_,rfl,rfl,e,O,j4 ns,j4 ns,?_⟩;rw[Bk (j4 ns)];cases neg<;>exact h
theorem A6 {A:Kj} {k:Nat} (O:Room k A):A.units < cLine:=by have:=O.un;omega
def Ei:Sp:=λvs H Q _=>∃c k,vs=[.int c,.int k]/\0<=k/\k < 100000/\∀r:Nat,r < 2147483587->Q (nat r) H
def w4 (K:aS):Sp:=λvs H Q _=>∃(a:gn) (ns:K3),vs=[.ref a]/\SqL K H a (ns.map V.int)/\ns.length<=63/\∀H',Q (.bl true) H'
theorem Gs {H:Hp} {Q:VK} {E:XK} {c k:Int} (h0:0<=k) (h1:k < 100000) (q:∀r:Nat,r < 2147483587->Q (nat r) H):Ei [.int c,.int k] H Q E:=⟨c,k,rfl,h0,h1,q⟩
structure Prs (H:Hp) (ws:D') (D:gn) (ps:gs (gn×Nat)):Prop where
 l:H D=ak (.lst (ps.map λq=>V.ref q.1))
 t:∀q∈ps,H q.1=ak (.tup [nat q.2,nat (M.sm ws q.2)])
 b:∀q∈ps,q.2 < 2 ^ ws.length
end Sx
namespace M
theorem iW:∀(l:D') (j:Nat),sm l (2 ^ j)=l.getD j 0
 | [],j=>by simp[sm]
 | r::l,0=>by
   show(if (2 ^ 0).testBit 0 then r else 0)^^^sm l (2 ^ 0 / 2)=r;rw[show(2 ^ 0:Nat) / 2=0 from rfl,sm_zero];simp
 | r::l,j + 1=>by
   show(if (2 ^ (j + 1)).testBit 0 then r else 0)^^^sm l (2 ^ (j + 1) / 2)=l.getD j 0;have Y:(2 ^ (j + 1)) / 2=2 ^ j:=by rw[NW];omega
   have O:(2 ^ (j + 1)).testBit 0=false:=by rw[z0];simp
   rw[Y,O,iW l j];simp
theorem Inj.nz {l:D'} (I:Inj l) {m:Nat} (h:m∈l):m≠0:=by
 intro e;subst e;obtain⟨j,O,Y⟩:=KW.mp h;have:=I (2 ^ j) (Kf @C O) (by rw[iW,eh,fy O,Y];rfl);have:=lh j;omega
theorem gS {P:D'->Prop} (h0:P []) (hs:∀l w,P l->P (l++[w])):∀l,P l:=by
 intro l;rw[<-QM l];generalize l.reverse=k
 induction k with
 | nil=>exact h0
 | cons a k ih=>rw[Ri];exact hs _ _ ih
theorem pl_next (i m:Nat):pl (i + 1) m=pl i m++(if m.testBit i then [i] else []):=by
 unfold pl;rw[LB,LV];congr 1;by_cases h:m.testBit i=true
 ·rw[qb h];simp[h]
 ·rw[ov h];simp[h]
theorem pl_le (i m:Nat):(pl i m).length<=i:=by
 have:=Ou m.testBit (lA i);rw[wq] at this;exact this
theorem pl_rise (w m:Nat):(pl w m).Pairwise (· < ·):=N1 _ Og
theorem pl_lt {w m n:Nat} (h:m < 2 ^ n):∀x∈pl w m,x < n:=by
 intro x O;have hb:=(LC.mp O).2;refine RG λhn=>?_;rw[lB (f' h (gA @C hn))] at hb;cases hb
noncomputable def xs (rows ps:D'):Nat:=ps.foldl (λa k=>a^^^rows.getD k 0) 0
theorem xs_snoc (rows ps:D') (k:Nat):xs rows (ps++[k])=xs rows ps^^^rows.getD k 0:=by unfold xs;rw[LS];rfl
theorem vK {rows:D'} {r:Nat}:∀(ps:D') (a:Nat),(∀k∈ps,k < rows.length)->ps.foldl (λa k=>a^^^(rows++[r]).getD k 0) a=ps.foldl (λa k=>a^^^rows.getD k 0) a
 | [],a,_=>rfl
 | k::ps,a,h=>by
   have hk:=h k (kb ..);rw[NX,NX,vK ps _ λx O=>h x (ky _ O)];congr 2;rw[eh,eh,u' hk]
theorem xs_pl (m:Nat):∀(rows:D'),xs rows (pl rows.length m)=sm rows m:=by
 refine gS rfl λrows r ih=>?_
 ·rw[dM,<-ih,hC,Kb,pl_next];have O:∀k∈pl rows.length m,k < rows.length:=λk hk=>Kw.mp (LC.mp hk).1;by_cases h:m.testBit rows.length=true
  ·rw[qb h,qb h,xs_snoc];unfold xs;rw[vK _ _ O];congr 1;rw[eh,vr (ri _),Ms];rfl
  ·rw[ov h,ov h,LD,Lq];unfold xs;rw[vK _ _ O]
end M
namespace Sx
open PySem L2
theorem F6 (l:D'):l.map nat=(l.map λ(k:Nat)=>(k:Int)).map V.int:=by rw[Lc];rfl
theorem wK (m:Nat):m < 2 ^ z4 (m:Int):=by
 by_cases h:m=0
 ·subst h;decide
 ·rw[kr h];exact Mn
theorem ui {m w:Nat} (hm:m < 2 ^ w):z4 (m:Int)<=w:=by
 by_cases h:m=0
 ·subst h;rw[vy];exact LI _
 ·rw[kr h];exact(Q3 h).mpr hm
def Fh:Sp:=λvs H Q _=>∃m:Nat,vs=[nat m]/\m < 2 ^ 1000/\∀D H2,H D=hB->Same H H2->H2 D=ak (.lst ((M.pl 1000 m).map nat))->Q (.ref D) H2
theorem ET {rows ps:D'} {i k:Nat} (h:ps[i]? =ak k):M.xs rows (ps.take (i + 1))=M.xs rows (ps.take i)^^^rows.getD k 0:=by rw[take_succ h,M.xs_snoc]
end Sx
namespace M
noncomputable abbrev od (m:Nat):Bool:=pb 1000 m
theorem dQ (a b:Nat):od (a^^^b)=(od a^^od b):=Et 1000 a b
theorem iV (m a b:Nat):m&&&(a^^^b)=(m&&&a)^^^(m&&&b):=by
 apply oe;intro i;simp only[KU,so];cases m.testBit i<;>simp
theorem kS (m a b:Nat):(a^^^b)&&&m=(a&&&m)^^^(b&&&m):=by
 apply oe;intro i;simp only[KU,so];cases m.testBit i<;>simp
theorem tD:∀w:Nat,pb w 0=false
 | 0=>rfl
 | w + 1=>by show((0:Nat).testBit w^^pb w 0)=false;rw[tD w];simp
theorem pb_pow {w t:Nat} (h:t < w):pb w (2 ^ t)=true:=by
 rw[pb_up (w:=t + 1) (Kf @C @A) h];show((2 ^ t).testBit t^^pb t (2 ^ t))=true
 have e:pb t (2 ^ t)=false:=by
  rw[<-AA,Nat.mod_self,tD]
 rw[e,M9];rfl
theorem FQ (t y:Nat):2 ^ t&&&y=if y.testBit t then 2 ^ t else 0:=by
 apply oe;intro i;rw[KU,z0];by_cases h:t=i
 ·subst h;cases y.testBit t<;>simp
 ·cases y.testBit t<;>simp[h,z0]
theorem uV {t:Nat} (h:t < 1000) (y:Nat):od (2 ^ t&&&y)=y.testBit t:=by
 rw[FQ];cases y.testBit t with
 | true=>rw[qb rfl];exact pb_pow h
 | false=>rw[ov iv];exact tD 1000
theorem od_zero:od 0=false:=tD 1000
theorem xt {y k:Nat} (h:y < 2 ^ k):y.testBit k=false:=lB h
theorem uD {y t k:Nat} (h:y≠0) (e:y.log2=t) (l:t < k):y < 2 ^ k:=f' (by rw[<-e];exact Mn) (gA @C l)
structure Bar (rows:D') (b m:Nat):Prop where
 ev:∀y,Span rows y->od (m&&&y)=false
 bit:m.testBit b=true
 low:∀k,k < b->m.testBit k=false
 oth:∀k,k≠b->(∀y,Span rows y->y≠0->y.log2≠k)->m.testBit k=false
 lt:∀W,(∀r∈rows,r < 2 ^ W)->b < W->m < 2 ^ W
structure BarI (es:A') (ts:D') (b m:Nat):Prop where
 ev:∀e∈es,e.1.log2∈ts->od (m&&&e.1)=false
 bit:m.testBit b=true
 low:∀k,k < b->m.testBit k=false
 oth:∀k,k≠b->(∀e∈es,e.1.log2≠k)->m.testBit k=false
 lt:∀W,(∀e∈es,e.1 < 2 ^ W)->b < W->m < 2 ^ W
theorem BarI.zero (es:A') (b:Nat):BarI es [] b (2 ^ b) where
 ev:=λ_ _ h=>kv h @D
 bit:=M9
 low:=λk h=>by rw[z0];simp;omega
 oth:=λk h _=>by rw[z0];simp;omega
 lt:=λW _ h=>Kf @C h
theorem C5 {m y b:Nat} (h:∀k,k < b->m.testBit k=false) (hy:y < 2 ^ b):m&&&y=0:=by
 apply oe;intro i;rw[KU,M6];by_cases hi:i < b
 ·rw[h i hi];rfl
 ·rw[lB (f' hy (gA @C @A))];simp
theorem wW {es:A'} (nd:(es.map λe=>e.1.log2).Nodup) {e f:Nat×Nat} (he:e∈es) (hf:f∈es) (h:e.1.log2=f.1.log2):e=f:=by
 obtain⟨i,hi,rfl⟩:=KW.mp he;obtain⟨j,O,rfl⟩:=KW.mp hf
 have Y:∀i j (hi:i < es.length) (O:j < es.length),i < j->es[i].1.log2≠es[j].1.log2:=λi j hi O ξ=>by
  have:=KG.mp nd i j (by rw[dt];exact hi) (by rw[dt];exact O) ξ;rw[N4,N4] at this;exact this
 rcases MZ i j with h1 | h1 | h1
 ·exact kv h (Y i j hi O h1)
 ·subst h1;rfl
 ·exact kv h.symm (Y j i O hi h1)
theorem BarI.keep {es:A'} {ts:D'} {b m:Nat} (I:BarI es ts b m) {e:Nat×Nat} (nd:(es.map λe=>e.1.log2).Nodup) (he:e∈es) (h:od (m&&&e.1)=false):BarI es (ts++[e.1.log2]) b m where
 ev:=λf hf hm=>by
  rcases oT.mp hm with hm | hm
  ·exact I.ev f hf hm
  ·rw[hL] at hm;rw[wW nd hf he hm];exact h
 bit:=I.bit
 low:=I.low
 oth:=I.oth
 lt:=I.lt
theorem BarI.flip {es:A'} {ts:D'} {b m:Nat} (I:BarI es ts b m) {e:Nat×Nat} (nd:(es.map λe=>e.1.log2).Nodup) (nz:∀e∈es,e.1≠0) (he:e∈es) (h:od (m&&&e.1)=true) (up:∀t∈ts,t < e.1.log2) (hb:e.1.log2≠b) (O:e.1.log2 < 1000):BarI es (ts++[e.1.log2]) b (m^^^2 ^ e.1.log2):=by
 have β:b < e.1.log2:=by
  refine Nat.lt_of_le_of_ne (Py λY=>?_) (Ka hb);rw[C5 I.low (uD (nz e he) rfl Y),od_zero] at h;cases h
 have α:=nz e he;refine⟨λf hf hm=>?_,?_,λk hk=>?_,λk hk hn=>?_,λW Z ο=>?_⟩
 ·rw[kS,dQ,uV O];rcases oT.mp hm with hm | hm
  ·rw[I.ev f hf hm,xt (uD (nz f hf) rfl (up _ hm))];rfl
  ·rw[hL] at hm;rw[wW nd hf he hm,h,fw α];rfl
 ·rw[so,I.bit,z0];simp;omega
 ·rw[so,I.low k hk,z0];simp;omega
 ·rw[so,I.oth k hk hn,z0];have:=hn e he;simp;omega
 ·exact xor_lt_pow (I.lt W Z ο) (qE (RH α) (Z e he))
theorem Ech.even_all {es:A'} {rows:D'} (g:Ech es rows) {m:Nat} (h:∀e∈es,od (m&&&e.1)=false):∀y,Span rows y->od (m&&&y)=false:=by
 intro y
 induction y using PP with
 | ind y ih=>
   intro Y;by_cases O:y=0
   ·subst O;rw[M5,od_zero]
   ·obtain⟨e,he,el⟩:=g.all y Y O;have α:=g.nz e he;have hl:=xor_less O α el.symm;have h1:=ih _ hl (span_xor Y (g.span he));have h2:=h e he;have Z:od (m&&&(y^^^e.1))=(od (m&&&y)^^od (m&&&e.1)):=by rw[iV,dQ]
    rw[h1,h2] at Z;simpa using Z.symm
theorem BarI.done {es:A'} {rows:D'} (g:Ech es rows) {ts:D'} {b m:Nat} (I:BarI es ts b m) (all:∀e∈es,e.1.log2∈ts):Bar rows b m where
 ev:=g.even_all λe he=>I.ev e he (all e he)
 bit:=I.bit
 low:=I.low
 oth:=λk hk h=>I.oth k hk λe he=>h e.1 (g.span he) (g.nz e he)
 lt:=λW O hb=>I.lt W (λe he=>span_lt O (g.span he)) hb
theorem Bar.odd {rows:D'} {b m x q:Nat} (B:Bar rows b m) (h0:x^^^sm rows q≠0) (hb:(x^^^sm rows q).log2=b) (O:b < 1000):od (m&&&x)=true:=by
 have Z:m&&&x=(m&&&(x^^^sm rows q))^^^(m&&&sm rows q):=by rw[<-iV,aO]
 rw[Z,dQ,B.ev _ (sm_span rows q)]
 have Y:m&&&(x^^^sm rows q)=2 ^ b:=by
  apply oe;intro i;rw[KU,z0];rcases MZ i b with h | h | h
  ·rw[B.low i h];simp;omega
  ·subst h;rw[B.bit,<-hb,fw h0];simp
  ·rw[xt (uD h0 hb h)];simp;omega
 rw[Y];show(pb 1000 (2 ^ b)^^false)=true;rw[pb_pow O];rfl
theorem uH {k:Nat}:∀{l:D'} (p:Nat),(∀x∈l,x.testBit k=false)->(sm l p).testBit k=false
 | [],p,_=>by show(0:Nat).testBit k=false;simp
 | x::l,p,h=>by
   show((if p.testBit 0 then x else 0)^^^sm l (p / 2)).testBit k=false;rw[so,uH (p / 2) λy O=>h y (ky _ O)];have:=h x (kb ..);cases p.testBit 0<;>simp[this]
theorem Inj.own {l:D'} {m k:Nat} (I:Inj l) (hm:m.testBit k=true) (h:∀x∈l,x.testBit k=false):Inj (l++[m]):=by
 intro p Y e;rw[hC,Kb] at Y;have O:=zt (·.testBit k) e;simp only[dM,so,uH p h,M6] at O;cases hb:p.testBit l.length with
 | true=>rw[hb] at O;simp[hm] at O
 | false=>
   rw[dM,hb] at e;have e:sm l p^^^0=0:=e;rw[Lq] at e;refine I p ?_ e;apply L';intro i hi;rcases Rh hi with hi | hi
   ·exact lB (f' Y (gA @C hi))
   ·rw[<-hi];exact hb
theorem lZ:∀(a b:D'),a.Nodup->(∀x∈a,x∈b)->a.length<=b.length
 | [],b,_,_=>LI _
 | x::a,b,nd,h=>by
   have Z:=h x (kb ..);have ε:=Nv.mp nd
   have ih:=lZ a (b.erase x) ε.2 λy Y=>by
    have O:y≠x:=λe=>ε.1 (e ▸ Y);exact(List.mem_erase_of_ne O).mpr (h y (ky _ Y))
   rw[Qk Z] at ih;have:=List.length_pos_of_mem Z;rw[za];omega
theorem count_not {n:Nat} {ts:D'} (nd:ts.Nodup) (h:∀t∈ts,t < n):((lA n).filter λk=> !decide (k∈ts)).length + ts.length=n:=by
 have h1:∀(l:D') (p:Nat->KS),(l.filter p).length + (l.filter λk=> !p k).length=l.length:=by
  intro l p
  induction l with
  | nil=>rfl
  | cons x l ih=>
    rw[MN,MN];cases p x<;>simp<;>omega
 have h2:=h1 (lA n) λk=>decide (k∈ts)
 have Y:((lA n).filter λk=>decide (k∈ts)).length=ts.length:=by
  apply RP
  ·exact lZ _ _ (N1 _ O1) λx O=>by simpa using(LC.mp O).2
  ·exact lZ _ _ nd λx O=>LC.mpr ⟨Kw.mpr (h x O),by simpa using O⟩
 rw[wq] at h2;omega
theorem mI:∀rows:D',∃ks,Sums ks rows/\ks.length=2 ^ (fr rows).length:=by
 refine gS ⟨[0],Sums.zero,rfl⟩ λrows r ih=>?_;obtain⟨ks,S,e⟩:=ih;by_cases h:Span rows r
 ·exact⟨ks,S.keep h,by rw[fr_in h];exact e⟩
 ·refine⟨_,S.step h,?_⟩;rw[fr_out h,hC,hC,dt,e,Kb,NW];omega
theorem rank_le {rows:D'} {t:Nat} (h:∀r∈rows,r < 2 ^ t):(fr rows).length<=t:=by
 obtain⟨ks,S,e⟩:=mI rows;have:=S.few h;rw[e] at this;exact(Qn @C).mp this
theorem wc (w m:Nat):pb (w + 1) m=(m.testBit 0^^pb w (m / 2)):=by
 rw[Ni,oG 1 w m,z3];congr 1;show(m.testBit 0^^false)=_;simp
theorem drop_bit:∀(w m:Nat),0 < m->m < 2 ^ w->pb w (m&&&(m - 1))= !pb w m
 | 0,m,Z,h=>by have:m < 1:=h;omega
 | w + 1,m,Z,h=>by
   rw[wc,wc,xD,KU];have hw:m / 2 < 2 ^ w:=by rw[NW] at h;omega
   rcases Lp m with hm | hm
   ·have Y:m.testBit 0=false:=by simp[Nj,hm]
    have O:(m - 1) / 2=m / 2 - 1:=by omega
    rw[Y,O,drop_bit w (m / 2) @A hw];simp
   ·have Y:m.testBit 0=true:=by simp[Nj,hm]
    have α:(m - 1).testBit 0=false:=by simp[Nj];omega
    have O:(m - 1) / 2=m / 2:=by omega
    rw[Y,O,α,Nat.and_self];simp
theorem drop_less {m:Nat} (h:0 < m):m&&&(m - 1) < m:=qE M7 @A
theorem sum_uniq {rows:D'} {p q:Nat} (ε:Frs rows p) (hq:Frs rows q) (e:sm rows p=sm rows q):p=q:=by
 refine Lo fun β=>?_;have hf:=ε.xor hq;have hz:sm rows (p^^^q)=0:=by rw[sm_xor,e,Mg]
 have γ:p^^^q≠0:=λz=>β (by have:=zt (·^^^q) z;simpa[aO] using this);generalize p^^^q=z at hf hz γ;obtain⟨hi,hn⟩:=hf z.log2 (fw γ);apply hn;have δ:z=(z^^^2 ^ z.log2)^^^2 ^ z.log2:=(aO _ _).symm
 have Z:z^^^2 ^ z.log2 < 2 ^ z.log2:=by
  have:=wU γ (show 2 ^ z.log2≠0 from KJ (lh _)) (by rw[Nat.log2_two_pow]);exact this
 generalize ι:z^^^2 ^ z.log2=y at δ Z;generalize z.log2=t at δ Z hi
 have O:rows=rows.take t++(rows.getD t 0::rows.drop (t + 1)):=by
  rw[eh,fy hi];show rows=rows.take t++(rows[t]::rows.drop (t + 1));rw[<-List.drop_eq_getElem_cons hi,QF]
 have α:∀(Y bs:D') (s:Nat),s < 2 ^ Y.length->sm (Y++bs) s=sm Y s:=by
  intro Y bs
  induction Y with
  | nil=>
    intro s hs;have θ:s=0:=by have:s < 1:=hs;omega
    rw[θ,sm_zero,sm_zero]
  | cons a Y ih=>
    intro s hs;show(if s.testBit 0 then a else 0)^^^sm (Y++bs) (s / 2)=(if s.testBit 0 then a else 0)^^^sm Y (s / 2);rw[ih (s / 2) (by rw[za,NW] at hs;omega)]
 have ζ:(rows.take t).length=t:=by rw[Kt];omega
 have h1:sm rows y=sm (rows.take t) y:=by
  conv=>lhs;rw[O]
  exact α _ _ y (by rw[ζ];exact Z)
 have h2:sm rows (2 ^ t)=rows.getD t 0:=by
  have η:rows=(rows.take t++[rows.getD t 0])++rows.drop (t + 1):=by rw[Mo];exact O
  conv=>lhs;rw[η]
  rw[α _ _ (2 ^ t) (by rw[hC,ζ,Kb];exact Kf @C @A)];have:=Ej (rows.take t) (rows.getD t 0);rw[ζ] at this;exact this
 rw[δ,sm_xor,h1,h2] at hz
 have:rows.getD t 0=sm (rows.take t) y:=by
  have:=zt (sm (rows.take t) y^^^·) hz;simp only[<-KP,Mg,Oa,Lq] at this;exact this
 rw[this];exact sm_span _ _
theorem Bar.uniq {rows:D'} {b m m':Nat} (β:∀r∈rows,r < 2 ^ 1000) (B:Bar rows b m) (B':Bar rows b m'):m=m':=by
 refine Lo fun α=>?_;have η:m^^^m'≠0:=λz=>α (by have:=zt (·^^^m') z;simpa[aO] using this);have π:∀y,Span rows y->od ((m^^^m')&&&y)=false:=λy Y=>by rw[kS,dQ,B.ev y Y,B'.ev y Y];rfl
 have O:∀k,(∀y,Span rows y->y≠0->y.log2≠k)->(m^^^m').testBit k=false:=λk hk=>by
  rw[so];by_cases e:k=b
  ·rw[e,B.bit,B'.bit];rfl
  ·rw[B.oth k e hk,B'.oth k e hk];rfl
 generalize m^^^m'=z at η π O;have ε:∃k,z.testBit k=true:=⟨_,fw η⟩
 obtain⟨k,hk,ψ⟩:∃k,z.testBit k=true/\∀j,j < k->z.testBit j=false:=by
  obtain⟨n,hn⟩:=ε
  induction n using PP with
  | ind n ih=>
    by_cases h:∃j,j < n/\z.testBit j=true
    ·obtain⟨j,δ,hz⟩:=h;exact ih j δ hz
    ·exact⟨n,hn,λj δ=>by
      cases e:z.testBit j with
      | false=>rfl
      | true=>exact kv ⟨j,δ,e⟩ h⟩
 have χ:∃y,Span rows y/\y≠0/\y.log2=k:=Lo λhn=>by
  rw[O k λy Y Z e=>hn ⟨y,Y,Z,e⟩] at hk;cases hk
 obtain⟨y,Y,Z,ey⟩:=χ
 have ζ:z&&&y=2 ^ k:=by
  apply oe;intro i;rw[KU,z0];rcases MZ i k with h | h | h
  ·rw[ψ i h];simp;omega
  ·subst h;rw[hk,<-ey,fw Z];simp
  ·rw[xt (uD Z ey h)];simp;omega
 have γ:k < 1000:=by rw[<-ey];exact log2_under Z (span_lt β Y)
 have:=π y Y;rw[ζ,show od (2 ^ k)=true from pb_pow γ] at this;cases this
theorem AM {z:Nat} (h:z≠0):∃t,z.testBit t=true/\∀k,k < t->z.testBit k=false:=by
 have Y:∀n,(∃t,t < n/\z.testBit t=true)->∃t,z.testBit t=true/\∀k,k < t->z.testBit k=false:=by
  intro n
  induction n with
  | zero=>rintro⟨t,ht,_⟩;omega
  | succ n ih=>
    rintro⟨t,ht,hb⟩;by_cases O:∃t,t < n/\z.testBit t=true
    ·exact ih O
    ·have e:t=n:=by
      refine RP @A (Py λZ=>O ⟨t,Z,hb⟩)
     subst e;refine⟨t,hb,λk hk=>?_⟩;cases hz:z.testBit k with
     | false=>rfl
     | true=>exact kv ⟨k,hk,hz⟩ O
 exact Y (z.log2 + 1) ⟨z.log2,by omega,fw h⟩
theorem bars_all {rows ms:D'} {Z:Nat} (ξ:Z<=1000) (ε:∀r∈rows,r < 2 ^ Z) (ζ:∀b,b < Z->(∀y,Span rows y->y≠0->y.log2≠b)->∃m,Span ms m/\Bar rows b m) {z:Nat} (hz:z < 2 ^ Z) (π:∀y,Span rows y->od (z&&&y)=false):Span ms z:=by
 have Y:∀k,k<=Z->∃O,Span ms (z^^^O)/\O < 2 ^ Z/\(∀y,Span rows y->od (O&&&y)=false)/\∀b,b < k->(∀y,Span rows y->y≠0->y.log2≠b)->O.testBit b=false:=by
  intro k
  induction k with
  | zero=>intro _;exact⟨z,by rw[Mg];exact jQ ms,hz,π,λb hb=>kv hb (LO _)⟩
  | succ k ih=>
    intro hk;obtain⟨O,h1,h2,γ,θ⟩:=ih @A;by_cases ι:O.testBit k=true/\∀y,Span rows y->y≠0->y.log2≠k
    ·obtain⟨m,hm,B⟩:=ζ k @A ι.2;refine⟨O^^^m,?_,xor_lt_pow h2 (B.lt Z ε @A),λy α=>?_,λb hb hn=>?_⟩
     ·rw[<-KP];exact span_xor h1 hm
     ·rw[kS,dQ,γ y α,B.ev y α];rfl
     ·rw[so];by_cases e:b=k
      ·subst e;rw[ι.1,B.bit];rfl
      ·rw[θ b @A hn,B.oth b e hn];rfl
    ·refine⟨O,h1,h2,γ,λb hb hn=>?_⟩;by_cases e:b=k
     ·subst e;cases δ:O.testBit b with
      | false=>rfl
      | true=>exact kv ⟨δ,hn⟩ ι
     ·exact θ b @A hn
 obtain⟨O,h1,h2,γ,θ⟩:=Y Z (ri _);by_cases ν:O=0
 ·subst ν;rw[Lq] at h1;exact h1
 ·exfalso;obtain⟨t,ht,hl⟩:=AM ν
  have ρ:t < Z:=by
   refine RG λhn=>?_;rw[lB (f' h2 (gA @C hn))] at ht;cases ht
  have η:∃y,Span rows y/\y≠0/\y.log2=t:=Lo λhn=>by
   have:=θ t ρ λy α β e=>hn ⟨y,α,β,e⟩;rw[ht] at this;cases this
  obtain⟨y,α,β,ey⟩:=η
  have ο:O&&&y=2 ^ t:=by
   apply oe;intro i;rw[KU,z0];rcases MZ i t with h | h | h
   ·rw[hl i h];simp;omega
   ·subst h;rw[ht,<-ey,fw β];simp
   ·rw[xt (uD β ey h)];simp;omega
  have:=γ y α;rw[ο,show od (2 ^ t)=true from pb_pow @A] at this;cases this
theorem span_mem {l:D'} {m:Nat} (h:m∈l):Span l m:=by
 obtain⟨j,O,rfl⟩:=KW.mp h;have:=sm_span l (2 ^ j);rw[iW,eh,fy O] at this;exact this
end M
namespace Sx
open PySem L2
noncomputable def cell (ns:K3) (k:Int):Int:=if k < ns.length then ns.getD k.toNat 0 else 41 * k + 3
def w6 (K:aS):Sp:=λvs H Q _=>∃(p:gn) (ns:K3) (k:Int),vs=[.ref p,.int k]/\SqL K H p (ns.map V.int)/\0<=k/\Q (.int (cell ns k)) H
theorem qC {K:aS} {H:Hp} {Q:VK} {E:XK} {p:gn} {ns:K3} {k:Int} (e:SqL K H p (ns.map V.int)) (h0:0<=k) (q:Q (.int (cell ns k)) H):w6 K [.ref p,.int k] H Q E:=⟨p,ns,k,rfl,e,h0,q⟩
def Ff:Sp:=λvs H Q _=>∃m:Nat,vs=[nat m]/\m < 2 ^ 1000/\Q (.bl (!M.od m)) H
theorem Bi (n h:Nat):On ((n:Int) / 2 ^ ((h:Int).toNat)) (MA (n:Int) (1 * 2 ^ ((h:Int).toNat) - 1))=(((n>>>h)^^^(n&&&(2 ^ h - 1)):Nat):Int):=by
 rw[pT,OH,lP];have Y:(n:Int) / ((2 ^ h:Nat):Int)=((n>>>h:Nat):Int):=by rw[z3];norm_cast
 have O:((2 ^ h:Nat):Int) - 1=((2 ^ h - 1:Nat):Int):=by have:=lh h;omega
 rw[Y,O,bw,bj]
theorem A9 (O:Nat):((O:Int) + 1) / 2=(((O + 1) / 2:Nat):Int):=by omega
theorem C1 {n:Nat} (h:n < 2):decide (nat n=V.int 0)= !M.od n:=by
 have:n=0∨n=1:=by omega
 rcases this with rfl | rfl
 ·rw[M.od_zero];decide
 ·rw[show M.od 1=true from M.pb_pow (t:=0) @C];decide
def D0 (rows:D') (b:Nat):Prop:=∀y,M.Span rows y->y≠0->y.log2≠b
def GX (C:gn):Sp:=λvs H Q _=>∃(p d f n:gn) (rows:D') (b:Nat),vs=[.ref p,nat b]/\StA H C p d f n rows/\b < 1000/\(∀r∈rows,r < 2 ^ 1000)/\(M.fr rows).length < 64/\D0 rows b/\
 ∀m H2,Same H H2->M.Bar rows b m->Q (nat m) H2
structure Acr (rows:D') (wd:Nat) (ms:D'):Prop where
 len:ms.length + (M.fr rows).length=wd
 inj:M.Inj ms
 lt:∀m∈ms,m < 2 ^ wd
 ev:∀m∈ms,∀y,M.Span rows y->M.od (m&&&y)=false
 all:∀z,z < 2 ^ wd->(∀y,M.Span rows y->M.od (z&&&y)=false)->M.Span ms z
theorem Df (es:gs En):(l8 es).map (·.1)=(es.map λe=>((e.m.log2:Nat):Int)).map Sum.inl:=by unfold l8;rw[Lc,Lc];rfl
theorem vM {es:gs En} {ns:K3} (α:ns.Perm (es.map λe=>((e.m.log2:Nat):Int))) (hw:ns.Pairwise (·<=·)) (nd:(es.map λe=>e.m.log2).Nodup):
  ∃ts:D',ns=ts.map (λ(k:Nat)=>(k:Int))/\ts.Pairwise (· < ·)/\(∀t,t∈ts↔∃e∈es,e.m.log2=t):=by
 have hn:∀x∈ns,((x.toNat:Nat):Int)=x:=λx Y=>by
  obtain⟨e,_,rfl⟩:=oi.mp (α.mem_iff.mp Y);omega
 have β:ns=(ns.map OM).map (λ(k:Nat)=>(k:Int)):=by
  rw[Lc];exact(Rn ns).symm.trans (LY λx Y=>(hn x Y).symm)
 have η:(ns.map OM).Perm (es.map λe=>e.m.log2):=by
  have:=α.map OM;rw[Lc] at this;exact this
 refine⟨ns.map OM,β,?_,λt=>?_⟩
 ·have O:(ns.map OM).Nodup:=η.nodup_iff.mpr nd
  have Z:(ns.map OM).Pairwise (·<=·):=by
   rw[Nk];exact hw.imp λh=>by omega
  exact Q0 (R:=λa b=>a<=b/\a≠b) (λh=>by omega) (List.Pairwise.and Z O)
 ·rw[η.mem_iff,oi]
end Sx
namespace M
noncomputable def cm (a b:Nat):Nat:=if b=0 then 0 else (if b % 2=1 then a else 0)^^^2 * cm a (b / 2)
termination_by b
decreasing_by omega
def Dv (d x:Nat):Prop:=∃q,cm q d=x
structure Rm (d x r:Nat):Prop where
 lt:r < 2 ^ d.log2
 dv:Dv d (x^^^r)
end M
namespace Sx
open PySem L2
noncomputable def dg (m:Nat):Int:=(z4 (m:Int):Int) - 1
theorem cshl {a p:Nat} (ha:a < 2 ^ 3000) (O:p<=3000):CShl (a:Int) (p:Int):=⟨N0 _,by have:=ui ha;omega⟩
theorem E3 {a b z:Nat} (h:z < 2 ^ a) (ξ:a<=b):z < 2 ^ b:=f' h (gA @C ξ)
end Sx
namespace M
structure Ord (d e:Nat):Prop where
 pos:1<=e
 one:Rm d (2 ^ e) 1
 least:∀j,1<=j->j < e->¬Rm d (2 ^ j) 1
 le:e<=2 ^ d.log2
end M
namespace Sx
open PySem L2
noncomputable def zw (k:Lh):Bool:=subB k "int"&& !subB k "bool"
noncomputable def kD (x:V) (w:Int):Bool:=match x with
 | .int i=>decide (0<=i)&&decide (((z4 i:Nat):Int)<=w)
 | _=>false
def oB (K:aS):Sp:=λvs H Q _=>∃x k,vs=[x]/\jP K H x k/\Q (.bl (zw k)) H
def vO (K:aS):Sp:=λvs H Q _=>∃x k w,vs=[x,.int w]/\jP K H x k/\Q (.bl (kD x w)) H
theorem d8 {K:aS} {H:Hp} {Q:VK} {E:XK} {x:V} {k:Lh} (hk:jP K H x k) (q:Q (.bl (zw k)) H):oB K [x] H Q E:=⟨x,k,rfl,hk,q⟩
theorem iA {K:aS} {H:Hp} {Q:VK} {E:XK} {x:V} {k:Lh} {i:Int} (hk:jP K H x k) (q:Q (.bl (kD x i)) H):vO K [x,.int i] H Q E:=⟨x,k,i,rfl,hk,q⟩
theorem oK {c m:Int} (h:0 < m):∃k:Nat,c % m=(k:Int)/\(k:Int) < m:=by
 obtain⟨k,hk⟩:=Mf (RS c (Int.ne_of_gt h));exact⟨k,hk,by rw[<-hk];exact Rk c h⟩
theorem Ft {H:Hp} {Q:VK} {l:gn} {k:Int} {xs:gs V} (e:H l=ak (.lst xs)) (h0: -(2 ^ 63)<=k) (h1:k < 2 ^ 63) (hz:xs.length * k.toNat<=lx) (h:∀p H2,H p=hB->Same H H2->H2 p=ak (.lst (gB k.toNat xs).flatten)->Q (.ref p) H2):rRep (.ref l) (.int k) H Q:=
 ⟨l,k,xs,rfl,rfl,e,h0,h1,hz,jl h⟩
end Sx
namespace M
noncomputable def bn (b:KS):Nat:=if b then 1 else 0
noncomputable def pk (s:Nat->KS) (t:Nat):Nat->Nat
 | 0=>0
 | L + 1=>pk s t L^^^(if s (t + L) then 2 ^ L else 0)
theorem HS (s:Nat->KS) (t:Nat):∀L,pk s t L < 2 ^ L
 | 0=>Nat.one_pos
 | L + 1=>by
   have ih:=HS s t L;refine xor_lt_pow (f' ih (gA @C @A)) ?_;split
   ·exact Kf @C @A
   ·exact lh _
theorem Ep (s:Nat->KS) (t:Nat):∀L p,(pk s t L).testBit p=(decide (p < L)&&s (t + p))
 | 0,p=>by simp[pk]
 | L + 1,p=>by
   rw[pk,so,Ep s t L p];rcases MZ p L with h | h | h
   ·have e:(if s (t + L)=true then 2 ^ L else 0:Nat).testBit p=false:=by
     cases s (t + L)<;>simp[z0];omega
    rw[e];simp[h,show p < L + 1 by omega]
   ·subst h;cases hs:s (t + p)<;>simp[M9]
   ·have e:(if s (t + L)=true then 2 ^ L else 0:Nat).testBit p=false:=by
     cases s (t + L)<;>simp[z0];omega
    rw[e];simp[show ¬p < L by omega,show ¬p < L + 1 by omega]
theorem xj {s u:Nat->KS} {t v:Nat}:∀{L:Nat},(∀p,p < L->s (t + p)=u (v + p))->pk s t L=pk u v L
 | 0,_=>rfl
 | L + 1,h=>by rw[pk,pk,xj λp O=>h p @A,h L @A]
noncomputable def lf (G:Nat):Nat->(Nat->KS)->Nat->KS
 | 0,_,_=>false
 | L + 1,s,t=>lf G L s t^^(G.testBit L&&s (t + L))
noncomputable def tr (O:D') (x:Nat):Nat:=pk (λk=>od (O.getD k 0&&&x)) 0 O.length
noncomputable def stt (O:D') (x:Nat):Nat->Nat
 | 0=>x
 | t + 1=>tr O (stt O x t)
noncomputable def ans (O:D') (o x t:Nat):Bool:=od (o&&&stt O x t)
noncomputable def lm (L G:Nat):D':=(lA (L - 1)).map (λp=>2 ^ (p + 1))++(if 0 < L then [G] else [])
end M
namespace Sx
open PySem L2
noncomputable abbrev Pr3:=gn×Nat×Nat
noncomputable def refs (ps:gs Pr3):gs V:=ps.map λq=>V.ref q.1
def Prt (H:Hp) (ps:gs Pr3):Prop:=∀q∈ps,H q.1=ak (.tup [nat q.2.1,nat q.2.2])
theorem Prt.same {H H2:Hp} {ps:gs Pr3} (x:Prt H ps) (s:Same H H2):Prt H2 ps:=λq h=>s _ _ (x q h)
structure MaA (H:Hp) (C p:gn) (m:Nat) (nx os:gs Pr3):Prop where
 ho:∃dx tn to,H p=ak (.ins C dx [("inputs",nat m),("nexts",.ref tn),("outs",.ref to)])/\H tn=ak (.tup (refs nx))/\H to=ak (.tup (refs os))
 hn:Prt H nx
 hs:Prt H os
theorem MaA.same {H H2:Hp} {C p:gn} {m:Nat} {nx os:gs Pr3} (x:MaA H C p m nx os) (s:Same H H2):MaA H2 C p m nx os:=
 ⟨let ⟨dx,δ,to,a,b,c⟩:=x.ho;⟨dx,δ,to,s _ _ a,s _ _ b,s _ _ c⟩,x.hn.same s,x.hs.same s⟩
noncomputable def sq (bs:gs KS):Nat->Bool:=λi=>bs.getD i false
def zQ:Sp:=λvs H Q _=>∃(r:gn) (ps:D'),vs=[.ref r]/\H r=ak (.lst (ps.map nat))/\(∀p∈ps,p < 1000)/\Q (nat (M.xm ps)) H
def Ci:Sp:=λvs H Q _=>∃(t:gn) (x y n m:Nat),vs=[.ref t,nat n,nat m]/\H t=ak (.tup [nat x,nat y])/\x < 2 ^ n/\y < 2 ^ m/\Q (.bl true) H
structure Tab (H:Hp) (n o:gn) (m:Nat) (nx os:gs Pr3):Prop where
 m6:m<=6
 n:H n=ak (.lst (refs nx))
 o:H o=ak (.lst (refs os))
 pn:Prt H nx
 po:Prt H os
 ln:nx.length<=120
 lo:os.length<=6
 bn:∀q∈nx++os,q.2.1 < 2 ^ nx.length/\q.2.2 < 2 ^ m
def Fg:Sp:=λvs H Q _=>∃(n o:gn) (m:Nat) (nx os:gs Pr3),vs=[nat m,.ref n,.ref o]/\Tab H n o m nx os/\∀H2,Same H H2->Q .non H2
def Fe (C:gn):Sp:=λvs H Q _=>∃(x dx n o:gn) (m:Nat) (nx os:gs Pr3),vs=[.ref x,nat m,.ref n,.ref o]/\H x=ak (.ins C dx [])/\Tab H n o m nx os/\∀H2,(∀b ob,b≠x->H b=ak ob->H2 b=ak ob)->MaA H2 C x m nx os->Q .non H2
def zO (C:gn):Sp:=λvs H Q _=>∃(p:gn) (m:Nat) (nx os:gs Pr3),vs=[.ref p]/\MaA H C p m nx os/\Q (nat nx.length) H
structure Lfsr (nx os:gs Pr3) (L G:Nat):Prop where
 nx:nx.map (λq=>q.2.1)=M.lm L G
 os:∃t,os=[(t,(if 0 < L then 1 else 0),0)]
theorem cT {a n:Nat} (h:a < 2 ^ n):kD (nat a) (n:Int)=true:=by
 have:=ui h;show(decide ((0:Int)<=(a:Int))&&decide (((z4 (a:Int):Nat):Int)<=(n:Int)))=true;rw[pB @A,pB @A];rfl
theorem EW {ps:D'} {i k:Nat} (h:ps[i]? =ak k):M.xm (ps.take (i + 1))=M.xm (ps.take i)^^^2 ^ k:=by rw[take_succ h];unfold M.xm;rw[LS];rfl
theorem Jl {w m:Nat} (h:m < 2 ^ w):M.xm (M.pl w m)=m:=M.xm_ext h λk=>rfl
noncomputable abbrev ms (nx:gs Pr3):D':=nx.map λq=>q.2.1
theorem Ga {n j:Nat} (h:j < n):ixN n (j:Int)=ak j:=by unfold ixN;rw[qb (N0 j),qb @A,pT]
theorem G6 {H:Hp} {Q:Hp->Prop} {p:gn} {xs:gs V} {j:Nat} {v:V} (e:H p=ak (.lst xs)) (O:j < xs.length) (h:∀H2,Upd H H2 p (.lst (xs.set j v))->Q H2):HL (.ref p) (.int (j:Int)) v H Q:=
 ⟨p,xs,j,j,rfl,rfl,e,Ga O,h _ Upd.of⟩
theorem Ho {σ:St} {H:Hp} {to ti:TE} {t:TSet} {v:V} {Q:St->Hp->Prop} (h:to σ H λo H1=>ti σ H1 λi H2=>t o i v H2 λO=>Q σ O):gSub to ti t v σ H Q:=h
end Sx
namespace M
noncomputable def tr2 (ps:A') (x r:Nat):Nat:=pk (λk=>od ((ps.getD k (0,0)).1&&&x)^^od ((ps.getD k (0,0)).2&&&r)) 0 ps.length
theorem fO (ps:A') (x r k:Nat):(tr2 ps x r).testBit k=(decide (k < ps.length)&&(od ((ps.getD k (0,0)).1&&&x)^^od ((ps.getD k (0,0)).2&&&r))):=by unfold tr2;rw[Ep,Qc]
theorem tr2_lt (ps:A') (x r:Nat):tr2 ps x r < 2 ^ ps.length:=HS _ _ _
theorem tr2_snoc (ps:A') (p:Nat×Nat) (x r:Nat):tr2 (ps++[p]) x r=tr2 ps x r^^^(if (od (p.1&&&x)^^od (p.2&&&r)) then 2 ^ ps.length else 0):=by
 unfold tr2;rw[hC,Kb,pk,Qc];have Y:(ps++[p]).getD ps.length (0,0)=p:=by rw[eh,vr (ri _),Ms];rfl
 rw[Y]
 have O:pk (λk=>od (((ps++[p]).getD k (0,0)).1&&&x)^^od (((ps++[p]).getD k (0,0)).2&&&r)) 0 ps.length=pk (λk=>od ((ps.getD k (0,0)).1&&&x)^^od ((ps.getD k (0,0)).2&&&r)) 0 ps.length:=xj λk hk=>by
  rw[Qc,eh,eh,u' hk]
 rw[O]
theorem zD (ps:A') (x y r s:Nat):tr2 ps (x^^^y) (r^^^s)=tr2 ps x r^^^tr2 ps y s:=by
 apply oe;intro i;rw[so,fO,fO,fO,iV,dQ,iV,dQ];cases decide (i < ps.length)<;>cases od ((ps.getD i (0,0)).1&&&x)<;>cases od ((ps.getD i (0,0)).1&&&y)<;>cases od ((ps.getD i (0,0)).2&&&r)<;>cases od ((ps.getD i (0,0)).2&&&s)<;>rfl
theorem jh (ps:A'):tr2 ps 0 0=0:=by
 apply oe;intro i;rw[fO,M5,M5,od_zero];simp
noncomputable def wst (ps:A'):Nat->D'->Nat
 | x,[]=>x
 | x,r::rs=>wst ps (tr2 ps x r) rs
noncomputable def wan (ps os:A'):Nat->D'->D'
 | _,[]=>[]
 | x,r::rs=>tr2 os x r::wan ps os (tr2 ps x r) rs
theorem wst_snoc (ps:A') (r:Nat):∀(rs:D') (x:Nat),wst ps x (rs++[r])=tr2 ps (wst ps x rs) r
 | [],_=>rfl
 | _::rs,_=>wst_snoc ps r rs _
theorem wan_snoc (ps os:A') (r:Nat):∀(rs:D') (x:Nat),wan ps os x (rs++[r])=wan ps os x rs++[tr2 os (wst ps x rs) r]
 | [],_=>rfl
 | _::rs,_=>zt (_::·) (wan_snoc ps os r rs _)
theorem wan_len (ps os:A'):∀(rs:D') (x:Nat),(wan ps os x rs).length=rs.length
 | [],_=>rfl
 | _::rs,_=>zt (· + 1) (wan_len ps os rs _)
theorem wan_lt (ps os:A'):∀(rs:D') (x:Nat),∀y∈wan ps os x rs,y < 2 ^ os.length
 | [],_,_,h=>kv h (by simp[wan])
 | r::rs,x,y,h=>by
   rcases qn.mp h with h | h
   ·rw[h];exact tr2_lt _ _ _
   ·exact wan_lt ps os rs _ y h
theorem wst_lt {ps:A'}:∀{rs:D'} {x:Nat},x < 2 ^ ps.length->wst ps x rs < 2 ^ ps.length
 | [],_,h=>h
 | r::rs,x,_=>wst_lt (rs:=rs) (tr2_lt ps x r)
theorem zy (ps os:A'):∀(rs O:D') (x:Nat),wan ps os x (rs++O)=wan ps os x rs++wan ps os (wst ps x rs) O
 | [],_,_=>rfl
 | _::rs,O,_=>zt (_::·) (zy ps os rs O _)
theorem xm_snoc (O:D') (k:Nat):xm (O++[k])=xm O^^^2 ^ k:=by unfold xm;rw[LS];rfl
theorem FJ {α:Type} {P:gs α->Prop} (h0:P []) (h1:∀l x,P l->P (l++[x])) (l:gs α):P l:=by
 have:∀l:gs α,P l.reverse:=λl=>by
  induction l with
  | nil=>exact h0
  | cons x l ih=>rw[Ri];exact h1 _ _ ih
 have:=this l.reverse;rwa [QM] at this
theorem pH (s x r:Nat) (ps:A') (h:ps.length<=1000):od (s&&&tr2 ps x r)=(od (sm (ps.map (·.1)) s&&&x)^^od (sm (ps.map (·.2)) s&&&r)):=by
 induction ps using FJ with
 | h0=>show od (s&&&0)=(od (0&&&x)^^od (0&&&r));rw[M5,Ng,Ng,od_zero];rfl
 | h1 ps p ih=>
   rw[hC,Kb] at h;have ih:=ih @A;rw[tr2_snoc,iV,dQ,ih,hH,hH,Mx,Mx,dM,dM,dt,dt];generalize hb:(od (p.1&&&x)^^od (p.2&&&r))=b
   have Y:od (s&&&(if b=true then 2 ^ ps.length else 0))=(b&&s.testBit ps.length):=by
    cases b with
    | true=>rw[qb rfl,Lb,uV @A];simp
    | false=>rw[ov iv,M5,od_zero];simp
   rw[Y];have O:∀u v t:Nat,od ((u^^^v)&&&t)=(od (u&&&t)^^od (v&&&t)):=λu v t=>by rw[Lb,iV,dQ,Lb,Lb t v]
   rw[O,O];cases s.testBit ps.length with
   | true=>rw[qb rfl,qb rfl,<-hb];cases od (sm (ps.map (·.1)) s&&&x)<;>cases od (sm (ps.map (·.2)) s&&&r)<;>cases od (p.1&&&x)<;>cases od (p.2&&&r)<;>rfl
   | false=>rw[ov iv,ov iv,Ng,Ng,od_zero];cases b<;>simp
theorem EU {f k:Nat} (h:f < 2 ^ k):f^^^2 ^ k=f + 2 ^ k:=by
 have h1:=or_sum f (2 ^ k)
 have h2:f&&&2 ^ k=0:=by
  apply oe;intro i;rw[KU,z0];by_cases hi:k=i
  ·subst hi;rw[lB h];simp
  ·simp[hi]
 have O:=NJ h 1;rw[Nat.mul_one,QT] at O;omega
theorem tr2_step {ps:A'} {i:Nat} {q:Nat×Nat} (x r:Nat) (h:ps[i]? =ak q):tr2 (ps.take (i + 1)) x r=tr2 (ps.take i) x r + (if (od (q.1&&&x)^^od (q.2&&&r)) then 2 ^ i else 0):=by
 have hi:=(eH.mp h).1;have hl:(ps.take i).length=i:=by rw[Kt];omega
 have e:ps.take (i + 1)=ps.take i++[q]:=by rw[NK,h];rfl
 rw[e,tr2_snoc,hl];have ht:=tr2_lt (ps.take i) x r;rw[hl] at ht;split
 ·exact EU ht
 ·rw[Lq,Nat.add_zero]
noncomputable def pulse (i T:Nat):D':=(lA T).map λt=>if t=0 then 2 ^ i else 0
theorem pulse_len (i T:Nat):(pulse i T).length=T:=by unfold pulse;rw[dt,wq]
theorem pulse_eq (i T:Nat):(2 ^ i::gB T 0).take T=pulse i T:=by
 unfold pulse;apply O2
 ·rw[Kt,za,wh,dt,wq];omega
 ·intro j h1 h2;rw[N4,R3,Nl];cases j with
  | zero=>rfl
  | succ j=>rw[List.getElem_cons_succ,List.getElem_replicate];rfl
theorem pulse_lt {i m:Nat} (h:i < m) (T:Nat):∀r∈pulse i T,r < 2 ^ m:=λr O=>by
 obtain⟨t,_,rfl⟩:=oi.mp O;show(if t=0 then 2 ^ i else 0) < 2 ^ m;split
 ·exact Kf @C h
 ·exact lh _
theorem Fj {rows:D'} {i r:Nat} (s:Nat) (h:rows[i]? =ak r):sm (rows.take (i + 1)) s=sm (rows.take i) s^^^(if s.testBit i then r else 0):=by
 have hi:=(eH.mp h).1;have e:rows.take (i + 1)=rows.take i++[r]:=by rw[NK,h];rfl
 rw[e,dM,Kt,ML @A]
theorem sm_places (rows:D') (s:Nat) (h:s < 2 ^ rows.length) (w:Nat) (hw:rows.length<=w):(pl w s).foldl (λa p=>a^^^rows.getD p 0) 0=sm rows s:=by
 rw[pl_up h hw]
 have Y:∀k,k<=rows.length->(pl k s).foldl (λa p=>a^^^rows.getD p 0) 0=sm (rows.take k) s:=by
  intro k
  induction k with
  | zero=>intro _;rfl
  | succ k ih=>
    intro hk;have O:rows[k]? =ak (rows.getD k 0):=by rw[eh,fy @A];rfl
    have Z:pl (k + 1) s=pl k s++(if s.testBit k then [k] else []):=by
     unfold pl;rw[LB,LV];congr 1;cases hb:s.testBit k<;>simp[hb]
    rw[Z,LS,ih @A,Fj s O];cases s.testBit k<;>simp
 have:=Y rows.length (ri _);rwa [z9] at this
end M
namespace Sx
open PySem L2
structure MaG (m:Nat) (nx os:gs Pr3):Prop where
 m6:m<=6
 ln:nx.length<=120
 lo:os.length<=6
 bn:∀q∈nx++os,q.2.1 < 2 ^ nx.length/\q.2.2 < 2 ^ m
theorem Tab.g {H:Hp} {n o:gn} {m:Nat} {nx os:gs Pr3} (t:Tab H n o m nx os):MaG m nx os:=⟨t.m6,t.ln,t.lo,t.bn⟩
theorem Tab.same {H H2:Hp} {n o:gn} {m:Nat} {nx os:gs Pr3} (t:Tab H n o m nx os) (s:Same H H2):Tab H2 n o m nx os:=⟨t.m6,s.get t.n,s.get t.o,t.pn.same s,t.po.same s,t.ln,t.lo,t.bn⟩
noncomputable abbrev prs (nx:gs Pr3):A':=nx.map (·.2)
theorem aq (nx:gs Pr3):(@F).length=nx.length:=dt ..
theorem FP {nx:gs Pr3} {i:Nat} {q:Pr3} (h:nx[i]? =ak q):(@F)[i]? =ak q.2:=by rw[lz,h];rfl
theorem dc (nx:gs Pr3):(refs nx).length=nx.length:=dt ..
theorem iY {x n:Nat} (h:x < 2 ^ n) (hn:n<=1000):x < 2 ^ 1000:=f' h (gA @C hn)
theorem MaG.b1 {m:Nat} {nx os:gs Pr3} (g:MaG m nx os):∀q∈nx,q.2.1 < 2 ^ 1000/\q.2.2 < 2 ^ 1000:=λq h=>have:=g.ln;have:=g.m6;have b:=g.bn q (qB _ h);⟨iY b.1 @A,iY b.2 @A⟩
theorem MaG.b2 {m:Nat} {nx os:gs Pr3} (g:MaG m nx os):∀q∈os,q.2.1 < 2 ^ 1000/\q.2.2 < 2 ^ 1000:=λq h=>have:=g.ln;have:=g.m6;have b:=g.bn q (nv _ h);⟨iY b.1 @A,iY b.2 @A⟩
theorem FL {H H2:Hp} {a:gn} {u:HO} (h:Rd H a u) (s:Same H H2):Rd H2 a u:=h.imp (s _ _) λ⟨o,e⟩=>⟨o,s _ _ e⟩
theorem AW {K:aS} {H H2:Hp} {x:V} {k:Lh} (h:jP K H x k) (s:Same H H2):jP K H2 x k:=by
 cases x with
 | ref p=>exact Or.imp (λ⟨a,xs,e⟩=>⟨a,xs,Same.seq s e⟩) (Or.imp (λ⟨a,xs,e⟩=>⟨a,xs,Same.tup s e⟩) λ⟨a,xs,e⟩=>⟨a,xs,FL e s⟩) h
 | _=>exact h
def BU (K:aS) (H:Hp) (xs:gs V):Prop:=∀x∈xs,∃k,jP K H x k
theorem BU.nats (K:aS) (H:Hp) (rs:D'):BU K H (rs.map nat):=λx O=>by
 obtain⟨r,_,rfl⟩:=oi.mp O;exact⟨"int",rfl⟩
theorem oH {x:V} {n:Nat} (h:kD x (n:Int)=true):∃a:Nat,x=nat a/\a < 2 ^ n:=by
 cases x with
 | int i=>
   have h:(decide ((0:Int)<=i)&&decide (((z4 i:Nat):Int)<=(n:Int)))=true:=h;simp only[KL,PN] at h;obtain⟨a,rfl⟩:=Mf h.1;exact⟨a,rfl,f' (wK a) (gA @C @A)⟩
 | _=>cases h
noncomputable def idxB (x:V) (m:Nat):Bool:=match x with
 | .int i=>decide (0<=i)&&decide (i < (m:Int))
 | _=>false
theorem zo (x y:KS):(!decide (V.bl (!x)=V.bl (!y)))=(x^^y):=by cases x<;>cases y<;>rfl
theorem B8 {ps:gs Pr3} {i:Nat} {q:Pr3} (x y:Nat) (h:ps[i]? =ak q):M.tr2 (prs (ps.take (i + 1))) x y=M.tr2 (prs (ps.take i)) x y^^^(if (M.od (q.2.1&&&x)^^M.od (q.2.2&&&y)) then 2 ^ i else 0):=by
 have hl:(prs (ps.take i)).length=i:=by rw[aq];exact sQ h
 rw[take_succ h];unfold prs at hl ⊢;rw[hH,Mx,M.tr2_snoc,hl]
theorem zC {ps:gs Pr3} {i:Nat} {q:Pr3} (x y:Nat) (h:ps[i]? =ak q):M.tr2 (prs (ps.take (i + 1))) x y=M.tr2 (prs (ps.take i)) x y + (if (M.od (q.2.1&&&x)^^M.od (q.2.2&&&y)) then 2 ^ i else 0):=by
 have:=M.tr2_step x y (FP h);rw[show(prs ps).take (i + 1)=prs (ps.take (i + 1)) from Nh.symm,show(prs ps).take i=prs (ps.take i) from Nh.symm] at this;exact this
theorem oM (xs:gs V) (y:Nat) (hy:y<=xs.length):cutV xs hB (ak (y:Int))=xs.take y:=by
 unfold cutV;rw[HT.sIx_nat,HT.sIx_none,ML hy,Qe,PJ]
theorem iR {a b:Nat} (h:nat a=nat b):a=b:=by
 have h:(a:Int)=(b:Int):=V.int.inj h;omega
def Ct:Sp:=λvs H Q _=>∃(t:gn) (a b x r:Nat),vs=[.ref t,nat x,nat r]/\H t=ak (.tup [nat a,nat b])/\a < 2 ^ 1000/\b < 2 ^ 1000/\Q (.bl (M.od (a&&&x)^^M.od (b&&&r))) H
def Fd (K:aS):Sp:=λvs H Q _=>∃(r:gn) (ps:gs Pr3) (x y:Nat),vs=[.ref r,nat x,nat y]/\SqT K H r (refs ps)/\Prt H ps/\ps.length<=1000/\(∀q∈ps,q.2.1 < 2 ^ 1000/\q.2.2 < 2 ^ 1000)/\∀H2,Same H H2->Q (nat (M.tr2 (prs ps) x y)) H2
def GW (K:aS) (C B:gn):Sp:=λvs H Q E=>∃(p:gn) (m:Nat) (nx os:gs Pr3) (x:V) (k:Lh),vs=[.ref p,x]/\MaA H C p m nx os/\jP K H x k/\(kD x nx.length=true->Q .non H)/\(kD x nx.length=false->E (.ref B) hB H)
def Ck (K:aS) (C B:gn):Sp:=λvs H Q E=>∃(p:gn) (m:Nat) (nx os:gs Pr3) (x y:V) (kx ω:Lh),vs=[.ref p,x,y]/\MaA H C p m nx os/\MaG m nx os/\jP K H x kx/\jP K H y ω/\
 (∀a b:Nat,x=nat a->y=nat b->a < 2 ^ nx.length->b < 2 ^ m->∀(t:gn) (H2:Hp),Same H H2->H2 t=ak (.tup [nat (M.tr2 (prs os) a b),nat (M.tr2 @F a b)])->Q (.ref t) H2)/\
 (kD x nx.length=false∨kD y m=false->E (.ref B) hB H)
structure Jd (K:aS) (H:Hp) (C p rr:gn) (m:Nat) (nx os:gs Pr3) (x:V) (xs:gs V):Prop where
 ma:MaA H C p m nx os
 g:MaG m nx os
 kx:∃k,jP K H x k
 sq:SqL K H rr xs
 ks:BU K H xs
 ln:xs.length<=1000
def Good (m:Nat) (nx:gs Pr3) (x:V) (xs:gs V) (a:Nat) (rs:D'):Prop:=x=nat a/\xs=rs.map nat/\a < 2 ^ nx.length/\∀r∈rs,r < 2 ^ m
def Bad (m:Nat) (nx:gs Pr3) (x:V) (xs:gs V):Prop:=kD x nx.length=false∨∃y∈xs,kD y m=false
def Cg (K:aS) (C B:gn):Sp:=λvs H Q E=>∃(p O:gn) (m:Nat) (nx os:gs Pr3) (x:V) (xs:gs V),vs=[.ref p,.ref O,x]/\Jd K H C p O m nx os x xs/\
 (∀a rs,Good m nx x xs a rs->∀(t D:gn) (H2:Hp),H D=hB->Same H H2->H2 t=ak (.tup [.ref D,nat (M.wst @F a rs)])->H2 D=ak (.lst ((M.wan @F (prs os) a rs).map nat))->Q (.ref t) H2)/\
 (Bad m nx x xs->∀H2,Same H H2->E (.ref B) hB H2)
def GT (K:aS) (C B:gn):Sp:=λvs H Q E=>∃(p O:gn) (m:Nat) (nx os:gs Pr3) (x:V) (xs:gs V),vs=[.ref p,.ref O,x]/\Jd K H C p O m nx os x xs/\
 (∀a rs,Good m nx x xs a rs->∀(D:gn) (H2:Hp),H D=hB->Same H H2->H2 D=ak (.lst ((M.wan @F (prs os) a rs).map nat))->Q (.ref D) H2)/\
 (Bad m nx x xs->∀H2,Same H H2->E (.ref B) hB H2)
def zP (K:aS) (C B:gn):Sp:=λvs H Q E=>∃(p:gn) (m:Nat) (nx os:gs Pr3) (x:V) (k:Lh) (T:Nat),vs=[.ref p,x,nat T]/\MaA H C p m nx os/\MaG m nx os/\jP K H x k/\T<=900/\
 (∀i,x=nat i->i < m->∀(D:gn) (H2:Hp),H D=hB->Same H H2->H2 D=ak (.lst ((M.wan @F (prs os) 0 (M.pulse i T)).map nat))->Q (.ref D) H2)/\
 (idxB x m=false->E (.ref B) hB H)
def Cm (K:aS) (C B:gn):Sp:=λvs H Q E=>∃(p:gn) (m:Nat) (nx os:gs Pr3) (x:V) (k:Lh),vs=[.ref p,x]/\MaA H C p m nx os/\MaG m nx os/\jP K H x k/\
 (∀a,x=nat a->a < 2 ^ nx.length->∀(t:gn) (H2:Hp),Same H H2->H2 t=ak (.tup [nat (M.sm (nx.map λq=>q.2.1) a),nat (M.sm (nx.map λq=>q.2.2) a)])->Q (.ref t) H2)/\
 (kD x nx.length=false->E (.ref B) hB H)
def Fb (C:gn):Sp:=λvs H Q _=>∃(p:gn) (m:Nat) (nx os:gs Pr3),vs=[.ref p]/\MaA H C p m nx os/\MaG m nx os/\
 ∀(t ο α:gn) (H2:Hp),H ο=hB->H α=hB->ο≠α->Same H H2->H2 t=ak (.tup [nat m,.ref ο,.ref α])->H2 ο=ak (.lst (refs nx))->H2 α=ak (.lst (refs os))->Q (.ref t) H2
def yh (C:gn):Sp:=λvs H Q _=>∃(p:gn) (m:Nat) (nx os:gs Pr3),vs=[.ref p]/\MaA H C p m nx os/\Q (nat os.length) H
structure TabT (H:Hp) (t n o:gn) (m:Nat) (nx os:gs Pr3):Prop where
 t:H t=ak (.tup [nat m,.ref n,.ref o])
 tab:Tab H n o m nx os
theorem TabT.same {H H2:Hp} {t n o:gn} {m:Nat} {nx os:gs Pr3} (x:TabT H t n o m nx os) (s:Same H H2):TabT H2 t n o m nx os:=⟨s.get x.t,x.tab.same s⟩
def zT:Sp:=λvs H Q _=>∃(c:Int) (st n w:Nat) (dg:KS),vs=[.int c,nat st,nat n,nat w,.bl dg]/\st<=900/\n<=64/\w<=16/\
 ∀(D:gn) (H2:Hp) (ms:D'),H D=hB->Same H H2->H2 D=ak (.lst (ms.map nat))->ms.length=n->(∀x∈ms,x < 2 ^ w)->Q (.ref D) H2
def Cn:Sp:=λvs H Q _=>∃(r:gn) (ms:D') (c:Int) (st η w:Nat),vs=[.ref r,.int c,nat st,nat η]/\H r=ak (.lst (ms.map nat))/\st<=900/\w<=16/\ms.length<=w/\(∀x∈ms,x < 2 ^ w)/\
 ∀(D:gn) (H2:Hp) (O:D'),H D=hB->Same H H2->H2 D=ak (.lst (O.map nat))->O.length=ms.length->(∀x∈O,x < 2 ^ w)->Q (.ref D) H2
theorem uc {H H2:Hp} {D:gn} (s:Same H H2) (f:H2 D=hB):H D=none:=by
 cases O:H D with
 | none=>rfl
 | some v=>have:=s _ _ O;rw[f] at this;cases this
theorem zm {H:Hp} {ps:K0} {O Y:D'} (l:O.length=Y.length) (lp:ps.length=(O.map nat).length) (h:∀(j:Nat) (p:gn) (x y:V),ps[j]? =ak p->(O.map nat)[j]? =ak x->(Y.map nat)[j]? =ak y->H p=ak (.tup [x,y])):
  ∃nx:gs Pr3,refs nx=ps.map V.ref/\Prt H nx/\nx.length=O.length/\∀q∈nx,q.2.1∈O/\q.2.2∈Y:=by
 rw[dt] at lp;refine⟨ps.zip (O.zip Y),?_,λq Z=>?_,?_,λq Z=>?_⟩
 ·unfold refs;have:(ps.zip (O.zip Y)).map (λq=>V.ref q.1)=((ps.zip (O.zip Y)).map QI).map V.ref:=by rw[Lc];rfl
  rw[this,List.map_fst_zip (by rw[Pa];omega)]
 ·obtain⟨j,α⟩:=LW.mp Z;obtain⟨h1,h2⟩:=MT.mp α;obtain⟨β,θ⟩:=MT.mp h2;exact h j q.1 _ _ h1 (by rw[lz,β];rfl) (by rw[lz,θ];rfl)
 ·rw[Pa,Pa];omega
 ·obtain⟨j,α⟩:=LW.mp Z;obtain⟨h1,h2⟩:=MT.mp α;obtain⟨β,θ⟩:=MT.mp h2;exact⟨hQ β,hQ θ⟩
noncomputable def yA (q:Pr3):Dt:= .tup [.int q.2.1,.int q.2.2]
noncomputable def tabD (m:Nat) (nx os:gs Pr3):Dt:= .tup [.int m,.lst (nx.map yA),.lst (os.map yA)]
theorem rep2 {K:aS} {H:Hp} {p:gn} {i j:Int} (e:H p=ak (.tup [.int i,.int j])):Rep K H (.ref p) (.tup [.int i,.int j]):=by
 refine .tup (SqT.of e) rfl λk x d O hd=>?_
 match k,O,hd with
 | 0,O,hd=>cases O;cases hd;exact .int _
 | 1,O,hd=>cases O;cases hd;exact .int _
 | k + 2,O,_=>simp at O
theorem uN {K:aS} {H:Hp} {D:gn} {l:gs Pr3} (e:H D=ak (.lst (refs l))) (pt:Prt H l):Rep K H (.ref D) (.lst (l.map yA)):=by
 refine .lst (SqL.of e) (by unfold refs;rw[dt,dt]) λk x d Y hd=>?_;obtain⟨q,O,rfl⟩:=aK Y;rw[lz,O] at hd;cases hd;exact rep2 (pt q (hQ O))
theorem sZ {K:aS} {H:Hp} {t n o:gn} {m:Nat} {nx os:gs Pr3} (et:H t=ak (.tup [nat m,.ref n,.ref o])) (Y:H n=ak (.lst (refs nx))) (ψ:H o=ak (.lst (refs os))) (pn:Prt H nx) (po:Prt H os):Rep K H (.ref t) (tabD m nx os):=by
 refine .tup (SqT.of et) rfl λk x d O hd=>?_
 match k,O,hd with
 | 0,O,hd=>cases O;cases hd;exact .int _
 | 1,O,hd=>cases O;cases hd;exact uN Y pn
 | 2,O,hd=>cases O;cases hd;exact uN ψ po
 | k + 3,O,_=>simp at O
theorem qo:∀l:gs Pr3,kE (l.map yA)<=1
 | []=>by simp[kE]
 | q::l=>by
   have:=qo l;rw[KF,kE];have e:depD (yA q)=1:=by simp[yA,depD,kE]
   omega
theorem Bq (m:Nat) (nx os:gs Pr3):depD (tabD m nx os)<=100:=by
 have h1:=qo nx;have h2:=qo os;unfold tabD;simp only[depD,kE];omega
theorem Fl (m k:Nat):(m:Int) / 2 ^ ((k:Int).toNat)=((m>>>k:Nat):Int):=by rw[pT,lP,z3];norm_cast
theorem my (xs:gs V) (v:V):cutV (xs++[v]) hB (ak (-1))=xs:=by
 unfold cutV
 have e:HT.sIx (xs++[v]).length (xs++[v]).length (ak (-1))=xs.length:=by
  show(if (-1:Int) < 0 then ((-1:Int) + ((xs++[v]).length:Int)).toNat else min (-1:Int).toNat (xs++[v]).length)=_;rw[qb @C,hC,Kb];omega
 rw[e,HT.sIx_none,Qe,PJ,PD]
end Sx
namespace M
noncomputable def pkw (w:Nat):D'->Nat
 | []=>0
 | p::ps=>p^^^(pkw w ps <<< w)
theorem vU (a b w:Nat):(a^^^b) <<< w=a <<< w^^^b <<< w:=by
 apply oe;intro i;simp only[so,Kk];cases decide (w<=i)<;>simp
theorem pkw_snoc (w p:Nat):∀ps:D',pkw w (ps++[p])=pkw w ps^^^(p <<< (ps.length * w))
 | []=>by show p^^^(0 <<< w)=0^^^(p <<< (0 * w));simp
 | q::ps=>by
   show q^^^(pkw w (ps++[p]) <<< w)=q^^^(pkw w ps <<< w)^^^(p <<< ((ps.length + 1) * w));rw[pkw_snoc w p ps,vU,KP,<-Ru,Mm,MU]
theorem pkw_lt {w:Nat}:∀{ps:D'},(∀p∈ps,p < 2 ^ w)->pkw w ps < 2 ^ (ps.length * w)
 | [],_=>lh _
 | p::ps,h=>by
   have ih:=pkw_lt λx O=>h x (ky _ O);have Y:=h p (kb ..);show p^^^(pkw w ps <<< w) < 2 ^ ((ps.length + 1) * w);rw[Mm,MU];refine xor_lt_pow (f' Y (gA @C @A)) ?_;rw[Lr,Nf];exact PZ ih (lh _)
theorem FS {w p:Nat} {ps:D'} (O:p < 2 ^ w):pkw w (p::ps)=pkw w ps * 2 ^ w + p:=by
 show p^^^(pkw w ps <<< w)=_;have h1:=or_sum p (pkw w ps <<< w)
 have h2:p&&&(pkw w ps <<< w)=0:=by
  apply oe;intro i;rw[KU,Kk];by_cases hi:w<=i
  ·rw[lB (f' O (gA @C hi))];simp
  ·simp[hi]
 have Y:=NJ O (pkw w ps);have θ:pkw w ps <<< w=2 ^ w * pkw w ps:=by rw[Lr,Pn]
 rw[θ] at h1 h2 ⊢;rw[QT] at Y;rw[Pn (pkw w ps)];omega
noncomputable def dot:D'->D'->KS
 | p::ps,r::rs=>od (p&&&r)^^dot ps rs
 | _,_=>false
theorem xH (p r:Nat):∀(ps rs:D'),ps.length=rs.length->dot (ps++[p]) (rs++[r])=(dot ps rs^^od (p&&&r))
 | [],[],_=>by show(od (p&&&r)^^false)=(false^^od (p&&&r));simp
 | a::ps,b::rs,h=>by
   show(od (a&&&b)^^dot (ps++[p]) (rs++[r]))=((od (a&&&b)^^dot ps rs)^^od (p&&&r));rw[xH p r ps rs (by simpa using h),RU]
theorem j9 {w p r P R:Nat} (Y:p < 2 ^ w) (O:r < 2 ^ w):(p^^^(P <<< w))&&&(r^^^(R <<< w))=(p&&&r)^^^((P&&&R) <<< w):=by
 apply oe;intro i;simp only[so,KU,Kk];by_cases hi:w<=i
 ·rw[lB (f' Y (gA @C hi)),lB (f' O (gA @C hi))];simp[hi]
 ·simp[hi]
theorem xp {x w:Nat} (h:x < 2 ^ (1000 - w)) (hw:w<=1000):od (x <<< w)=od x:=by
 show pb 1000 (x <<< w)=pb 1000 x;have e:=oG w (1000 - w) (x <<< w);rw[show w + (1000 - w)=1000 by omega] at e;rw[e,pb_up h @A]
 have O:pb w (x <<< w)=false:=by
  rw[<-AA,Lr,Nat.mul_mod_left]
  have:∀n,pb n 0=false:=λn=>by
   induction n with
   | zero=>rfl
   | succ n ih=>rw[wc,Nat.zero_div,ih];simp
  exact this w
 rw[O,Nat.shiftLeft_shiftRight];simp
theorem Ew {w:Nat}:∀{ps rs:D'},ps.length=rs.length->(∀p∈ps,p < 2 ^ w)->(∀r∈rs,r < 2 ^ w)->ps.length * w<=1000->od (pkw w ps&&&pkw w rs)=dot ps rs
 | [],[],_,_,_,_=>by show od (0&&&0)=false;exact od_zero
 | p::ps,r::rs,h,hp,hr,hb=>by
   have Z:ps.length * w + w<=1000:=by rw[za,Mm,MU] at hb;exact hb
   have ih:=Ew (w:=w) (ps:=ps) (rs:=rs) (by simpa using h) (λx O=>hp x (ky _ O)) (λx O=>hr x (ky _ O)) @A;show od ((p^^^(pkw w ps <<< w))&&&(r^^^(pkw w rs <<< w)))=(od (p&&&r)^^dot ps rs);have Y:pkw w ps&&&pkw w rs < 2 ^ (1000 - w):=qE MO (f' (pkw_lt λx O=>hp x (ky _ O)) (gA @C @A));rw[j9 (hp p (kb ..)) (hr r (kb ..)),dQ,xp Y @A,ih]
noncomputable def bkI (A:D') (s:Nat):Nat->Nat
 | 0=>s
 | i + 1=>sm A (bkI A s i)
theorem xQ (A:D') (s:Nat):∀i,bkI A (sm A s) i=bkI A s (i + 1)
 | 0=>rfl
 | i + 1=>zt (sm A) (xQ A s i)
theorem oF {w:Nat}:∀{ps:D'},(∀p∈ps,p < 2 ^ w)->(pkw w ps=0↔∀p∈ps,p=0)
 | [],_=>⟨λ_ p h=>kv h @D,λ_=>rfl⟩
 | p::ps,h=>by
   rw[FS (h p (kb ..))];have ih:=oF λx O=>h x (ky _ O);have hw:=lh w;constructor
   ·intro e x O;have α:p=0:=by omega
    have Z:pkw w ps * 2 ^ w=0:=by omega
    have Y:pkw w ps=0:=by
     rcases Nat.mul_eq_zero.mp Z with h | h
     ·exact h
     ·omega
    rcases qn.mp O with z | z
    ·rw[z,α]
    ·exact ih.mp Y x z
   ·intro e;rw[e p (kb ..),ih.mpr λx O=>e x (ky _ O)];simp
end M
namespace Sx
open PySem L2
noncomputable abbrev nA (nx:gs Pr3):D':=nx.map λq=>q.2.1
noncomputable abbrev nB (nx:gs Pr3):D':=nx.map λq=>q.2.2
def Cj:Sp:=λvs H Q _=>∃(r:gn) (ps:D') (O:Nat),vs=[.ref r,nat O]/\H r=ak (.lst (ps.map nat))/\ps.length<=1000/\O<=1000/\(∀p∈ps,p < 2 ^ 60)/\∀H2,Same H H2->Q (nat (M.pkw O ps)) H2
def zS:Sp:=λvs H Q _=>∃(c:Int) (n w:Nat),vs=[.int c,nat n,nat w]/\n<=64/\w<=16/\∀(D:gn) (H2:Hp) (ms:D'),H D=hB->Same H H2->H2 D=ak (.lst (ms.map nat))->ms.length=n->(∀x∈ms,x < 2 ^ w)->Q (.ref D) H2
def Cq:Sp:=λvs H Q _=>∃n:Nat,vs=[nat n]/\n < 2 ^ 1000/\Q (nat (M.bn (M.od n))) H
def Cr (K:aS):Sp:=λvs H Q _=>∃(r:gn) (ps:gs Pr3) (x y:Nat),vs=[.ref r,nat x,nat y]/\SqL K H r (refs ps)/\Prt H ps/\ps.length<=120/\x < 2 ^ 1000/\y < 2 ^ 1000/\∀H2,Same H H2->Q (nat (M.tr2 (prs ps) x y)) H2
end Sx
namespace M
noncomputable def stj (ps:A'):D'->Nat->D'
 | S,0=>S
 | S,j + 1=>(stj ps S j).map λx=>tr2 ps x 0
noncomputable def sg0 (ps:A') (m:Nat):D':=(lA m).map λw=>tr2 ps 0 (2 ^ w)
noncomputable def rch (ps:A') (m:Nat):Nat->D'
 | 0=>[]
 | T + 1=>stj ps (sg0 ps m) T++rch ps m T
theorem mT {w r P:Nat} (h:r < 2 ^ w):(r^^^(P <<< w))>>>w=P:=by
 apply oe;intro i;rw[LG,so,Kk,lB (f' h (gA @C @A))];simp
noncomputable def zs (ps:A') (x:Nat):Nat->Nat
 | 0=>x
 | n + 1=>tr2 ps (zs ps x n) 0
noncomputable def upk (w q T:Nat):D':=(lA T).map λt=>(q>>>(t * w))&&&(2 ^ w - 1)
theorem upk_len (w q T:Nat):(upk w q T).length=T:=by unfold upk;rw[dt,wq]
theorem upk_lt (w q T:Nat):∀r∈upk w q T,r < 2 ^ w:=λr O=>by
 obtain⟨t,_,rfl⟩:=oi.mp O;have:=lh w;exact qE M7 @A
theorem sP (w q T:Nat):upk w q (T + 1)=(q&&&(2 ^ w - 1))::upk w (q>>>w) T:=by
 unfold upk;rw[Of,KF,Lc,Pm,Nat.shiftRight_zero];congr 1;apply LY;intro t _;show(q>>>((t + 1) * w))&&&_=(q>>>w>>>(t * w))&&&_;rw[<-Nat.shiftRight_add,Mm,MU,Ni]
theorem tf (w:Nat):∀(T q:Nat),q < 2 ^ (T * w)->pkw w (upk w q T)=q
 | 0,q,h=>by rw[Pm] at h;have:q=0:=by have:q < 1:=h;omega
             rw[this];rfl
 | T + 1,q,h=>by
   rw[sP];show(q&&&(2 ^ w - 1))^^^(pkw w (upk w (q>>>w) T) <<< w)=q;rw[tf w T (q>>>w) (by rw[z3,Oy (lh _),<-Nf];rw[Mm,MU] at h;exact h)];apply oe;intro i;rw[so,KU,Kk,LG,Nat.testBit_two_pow_sub_one];by_cases hi:i < w
   ·simp[hi,show ¬w<=i by omega]
   ·simp[hi,show w<=i by omega,show w + (i - w)=i by omega]
theorem Ii (ps:A') (hl:ps.length<=1000) (y:Nat):∀(j s:Nat),od (s&&&zs ps y j)=od (bkI (ps.map (·.1)) s j&&&y)
 | 0,_=>rfl
 | j + 1,s=>by
   show od (s&&&tr2 ps (zs ps y j) 0)=_;rw[pH s _ 0 ps hl,M5,od_zero,MI,Ii ps hl y j,xQ]
end M
namespace Sx
open PySem L2
structure Sumd (rows:D') (x q:Nat):Prop where
 lt:q < 2 ^ rows.length
 sm:M.sm rows q=x
 fr:M.Frs rows q
theorem Sumd.uniq {rows:D'} {x p q:Nat} (a:Sumd rows x p) (b:Sumd rows x q):p=q:=M.sum_uniq a.fr b.fr (by rw[a.sm,b.sm])
structure Bard (rows:D') (x m:Nat):Prop where
 ns:¬M.Span rows x
 bar:∃y,M.Span rows y/\x^^^y≠0/\D0 rows (x^^^y).log2/\M.Bar rows (x^^^y).log2 m
 ev:∀y,M.Span rows y->M.od (m&&&y)=false
 odd:M.od (m&&&x)=true
 lt:∀W,(∀r∈rows,r < 2 ^ W)->x < 2 ^ W->m < 2 ^ W
def yf:Sp:=λvs H Q _=>∃(r:gn) (rows:D') (x:Nat),vs=[.ref r,nat x]/\H r=ak (.lst (rows.map nat))/\rows.length<=1000/\(∀r∈rows,r < 2 ^ 1000)/\x < 2 ^ 1000/\(M.Span rows x∨(M.fr rows).length < 64)/\
 (∀(t D:gn) (H2:Hp) (q:Nat),H D=hB->Same H H2->H2 t=ak (.tup [.str "sum",.ref D])->H2 D=ak (.lst ((M.pl 1000 q).map nat))->Sumd rows x q->Q (.ref t) H2)/\
 (∀(t:gn) (H2:Hp) (m:Nat),Same H H2->H2 t=ak (.tup [.str "no",nat m])->Bard rows x m->Q (.ref t) H2)
def zK:Sp:=λvs H Q _=>∃(q O T:Nat),vs=[nat q,nat O,nat T]/\O<=1000/\T<=1000/\∀(D:gn) (H2:Hp),H D=hB->Same H H2->H2 D=ak (.lst ((M.upk O q T).map nat))->Q (.ref D) H2
end Sx
namespace L2
open PySem
end L2
namespace Sx
open PySem L2
noncomputable def TupV (K:aS) (H:Hp) (y:V):rl (gs V)->Prop
 | some xs=>∃r,y= .ref r/\SqT K H r xs/\BU K H xs
 | none=>∃k,jP K H y k/\k≠"tuple"
noncomputable def JM (n m:Nat):rl (gs V)->KS
 | some [x,y]=>kD x n&&kD y m
 | _=>false
noncomputable abbrev It2:=V×rl (gs V)
noncomputable def LstV (K:aS) (H:Hp) (y:V):rl (gs It2)->Prop
 | some zs=>∃r,y= .ref r/\H r=ak (.lst (zs.map (·.1)))/\∀z∈zs,TupV K H z.1 z.2
 | none=>∃k,jP K H y k/\k≠"list"
noncomputable def tabB (x:V) (Y O:rl (gs It2)):Bool:=match x,Y,O with
 | .int i,ak zs,ak ws=>decide (0<=i)&&decide (i<=6)&&decide (zs.length<=120)&&decide (ws.length<=6)&&(zs++ws).all λz=>JM zs.length i.toNat z.2
 | _,_,_=>false
end Sx
namespace L2
open PySem
end L2
namespace Sx
open PySem L2
structure BadT (K:aS) (H:Hp) (x y z:V):Prop where
 ex:∃k on oo,jP K H x k/\LstV K H y on/\LstV K H z oo/\tabB x on oo=false
end Sx
namespace L2
open PySem
theorem C0 {X:Cx} {K:aS} (h:X.K=K):OpR X (binaryOp .Add) (FM K):=by subst h;exact F2
theorem vT {X:Cx} {K:aS} (h:X.K=K):SlR X (rSlT K):=by subst h;exact G0
theorem Hx {K:aS} {H:Hp} {Q:VK} {a b:gn} {xs ys:gs V} (ha:SqT K H a xs) (hb:SqT K H b ys) (hx:xs≠[]) (hy:ys≠[]) (hz:xs.length + ys.length<=lx) (h:∀p H2,H p=hB->Same H H2->H2 p=ak (.tup (xs++ys))->Q (.ref p) H2):FM K (.ref a) (.ref b) H Q:=
 ⟨a,b,xs,ys,rfl,rfl,ha,hb,hx,hz,λz=>kv z hy,λ_ p f=>h p _ f (c8 f) aP⟩
theorem Fs {K:aS} {H:Hp} {Q:VK} {a:gn} {xs:gs V} {lo hi:rl Int} (ha:SqT K H a xs) (hn:¬(HT.sIx xs.length 0 lo=0/\HT.sIx xs.length xs.length hi=xs.length)) (h:∀p H2,H p=hB->Same H H2->H2 p=ak (.tup (cutV xs lo hi))->Q (.ref p) H2):rSlT K (.ref a) lo hi H Q:=
 ⟨a,xs,rfl,ha,hn,λp f=>h p _ f (c8 f) aP⟩
end L2
namespace Sx
open PySem L2
end Sx
namespace M
structure Fst (ms:D') (p:Nat):Prop where
 lt:p < ms.length
 out:∀k,k < p->¬Span (ms.take k) (ms.getD k 0)
 in_:Span (ms.take p) (ms.getD p 0)
noncomputable def zl (ps:A') (d n:Nat):D':=(lA (n + 1)).map (zs ps d)
theorem GF (ps:A') (d:Nat):∀i,zs ps (tr2 ps d 0) i=zs ps d (i + 1)
 | 0=>rfl
 | i + 1=>by show tr2 ps (zs ps (tr2 ps d 0) i) 0=_;rw[GF ps d i];rfl
theorem sL (ps os:A'):∀(rs:D') (a k:Nat),wan ps os a (rs.take k)=(wan ps os a rs).take k
 | [],_,k=>by simp[wan]
 | r::rs,a,0=>rfl
 | r::rs,a,k + 1=>by
   show tr2 os a r::wan ps os (tr2 ps a r) (rs.take k)=_;rw[sL ps os rs];rfl
end M
namespace Sx
open PySem L2
noncomputable def cps (p q k:Nat):D':=if k + 1 < p then [k + 1] else M.pl 1000 q
structure ChS (H:Hp) (S:gn) (p q:Nat) (rs:K0):Prop where
 at_:H S=ak (.lst (rs.map V.ref))
 len:rs.length=p
 get:∀(k:Nat) (r:gn),rs[k]? =ak r->H r=ak (.lst ((cps p q k).map nat))
structure ChT (H:Hp) (D S:gn) (ms:D') (p q:Nat):Prop where
 fs:M.Fst ms p
 sd:Sumd (ms.take p) (ms.getD p 0) q
 d:H D=ak (.lst ((ms.take p).map nat))
 s:∃rs,ChS H S p q rs
structure LA (K:aS) (H:Hp) (t n o rr:gn) (m:Nat) (nx os:gs Pr3) (rs:D') (a b:Nat):Prop where
 tt:TabT H t n o m nx os
 sq:SqL K H rr (rs.map nat)
 lr:rs.length=20
 br:∀r∈rs,r < 2 ^ m
 ln:nx.length<=16
 ha:a < 2 ^ nx.length
 hb:b < 2 ^ nx.length
structure ApA (H:Hp) (f:gn) (nx os:gs Pr3) (d k ans:Nat):Prop where
 f:H f=ak (.tup [.str "apart",nat k,nat ans.log2])
 hk:k < nx.length
 an:ans=M.tr2 (prs os) (M.zs @F d k) 0
 ne:ans≠0
 qu:∀j,j < k->M.tr2 (prs os) (M.zs @F d j) 0=0
structure ApL (H:Hp) (f D S:gn) (nx os:gs Pr3) (d p q:Nat):Prop where
 f:H f=ak (.tup [.str "alike",.ref D,.ref S])
 ct:ChT H D S (M.zl @F d nx.length) p q
 qu:∀j,j < p->M.tr2 (prs os) (M.zs @F d j) 0=0
end Sx
namespace M
noncomputable def bl (A:D') (s n:Nat):D':=(lA (n + 1)).map (bkI A s)
theorem bkI_lt {A:D'} {s w:Nat} (ξ:∀x∈A,x < 2 ^ w) (h:s < 2 ^ w):∀k,bkI A s k < 2 ^ w
 | 0=>h
 | k + 1=>sm_lt _ ξ
theorem GY (A:D'):∀(rows:D') (F:Nat),sm A (sm rows F)=sm (rows.map (sm A)) F
 | [],_=>sm_zero A
 | r::rows,F=>by
   show sm A ((if F.testBit 0 then r else 0)^^^sm rows (F / 2))=(if F.testBit 0 then sm A r else 0)^^^sm (rows.map (sm A)) (F / 2);rw[sm_xor,GY A rows];cases F.testBit 0<;>simp[sm_zero]
end M
namespace Sx
open PySem L2
structure CmA (H:Hp) (t D:gn) (m:Nat) (nx:gs Pr3) (st T q mk:Nat):Prop where
 f:H t=ak (.tup [.str "come",.ref D,nat mk])
 d:H D=ak (.lst ((M.upk m q T).map nat))
 hT:T<=nx.length
 no:∀j,j < T->¬M.Span (M.rch @F m j) st
 sd:Sumd (M.rch @F m T) st q
 br:(T=0/\mk=0)∨∃T',T=T' + 1/\Bard (M.rch @F m T') st mk
structure CmN (H:Hp) (t D S:gn) (m:Nat) (nx:gs Pr3) (st mk p q:Nat):Prop where
 f:H t=ak (.tup [.str "never",.ref D,.ref S])
 no:∀j,j<=nx.length->¬M.Span (M.rch @F m j) st
 bd:Bard (M.rch @F m nx.length) st mk
 ct:ChT H D S (M.bl (nA nx) mk nx.length) p q
structure LN (K:aS) (H:Hp) (n:gn) (m:Nat) (nx os:gs Pr3) (st:Nat):Prop where
 sq:SqL K H n (refs nx)
 pt:Prt H nx
 g:MaG m nx os
 ln:nx.length<=16
 hs:st < 2 ^ nx.length
end Sx
namespace M
theorem sR {P:Nat->Prop} (h0:P 0) (hx:∀a b,P a->P b->P (a^^^b)):∀{rs:D'} {x:Nat},(∀r∈rs,P r)->Span rs x->P x
 | [],x,_,h=>by have h:x=0:=h;rw[h];exact h0
 | r::rs,x,b,h=>by
   have O:∀r∈rs,P r:=λy Y=>b y (ky _ Y);rcases h with h | h
   ·exact sR h0 hx O h
   ·have:=hx _ _ (sR h0 hx O h) (b r (kb ..));rwa [aO] at this
theorem Inj.front {ws:D'} {w:Nat} (I:Inj (ws++[w])):Inj ws:=λp O h=>I p (f' O (gA @C (by rw[hC];omega))) (by rw[g7 O];exact h)
theorem Inj.last {ws:D'} {w:Nat} (I:Inj (ws++[w])):¬Span ws w:=λh=>by
 obtain⟨p,O,e⟩:=vN h;have:=I (p^^^2 ^ ws.length) (by rw[hC];exact wo O) (by rw[vS O,e,Mg]);exact(pU O).1 this
theorem fr_inj {ws:D'}:Inj ws->(fr ws).length=ws.length:=by
 refine gS (P:=λws=>Inj ws->(fr ws).length=ws.length) (λ_=>rfl) (λws w ih I=>?_) ws;rw[fr_out I.last,hC,hC,ih I.front];rfl
structure Kern (R ms:D'):Prop where
 inj:Inj ms
 lt:∀m∈ms,m < 2 ^ R.length
 ev:∀m∈ms,sm R m=0
 all:∀z,z < 2 ^ R.length->sm R z=0->Span ms z
structure Lft (left rows:D'):Prop where
 nz:∀x∈left,x≠0
 pw:left.Pairwise λa b=>b.testBit a.log2=false
 sp:∀x,Span left x↔Span rows x
 len:left.length=(fr rows).length
noncomputable def bm (rows:D') (b:Nat):Nat:=Qu (Bar rows b)
theorem J2 {rows:D'} {b m:Nat} (O:∀r∈rows,r < 2 ^ 1000) (B:Bar rows b m):m=bm rows b:=Bar.uniq O B (Classical.epsilon_spec ⟨m,B⟩)
noncomputable def acr (rows:D') (n:Nat):D':=((lA n).filter λb=>tt (∀y,Span rows y->y≠0->y.log2≠b)).map (bm rows)
theorem acr_in {rows:D'} {n:Nat} (h:¬∀y,Span rows y->y≠0->y.log2≠n):acr rows (n + 1)=acr rows n:=by
 unfold acr;rw[LB,LV,MN,Ed h];simp
theorem acr_out {rows:D'} {n m:Nat} (O:∀r∈rows,r < 2 ^ 1000) (h:∀y,Span rows y->y≠0->y.log2≠n) (B:Bar rows n m):acr rows (n + 1)=acr rows n++[m]:=by
 unfold acr;rw[LB,LV,MN,Ec h,J2 O B];simp
noncomputable def fR (rows:D'):D':=(fr rows).map λi=>rows.getD i 0
theorem fr_lt {rows:D'}:∀i∈fr rows,i < rows.length:=by
 intro i hi;unfold fr at hi;exact Kw.mp (LC.mp hi).1
theorem qm (rows:D') (r:Nat):(fr rows).map (λi=>(rows++[r]).getD i 0)=fR rows:=by
 unfold fR;refine LY λi hi=>?_;rw[eh,eh,u' (fr_lt i hi)]
theorem II {rows:D'} {r:Nat} (h:Span rows r):fR (rows++[r])=fR rows:=by
 rw[<-qm rows r];unfold fR;rw[fr_in h]
theorem EC {rows:D'} {r:Nat} (h:¬Span rows r):fR (rows++[r])=fR rows++[r]:=by
 rw[<-qm rows r];unfold fR;rw[fr_out h,hH];congr 1;simp
theorem Bh:∀(rows:D') (x:Nat),Span (fR rows) x↔Span rows x:=by
 refine gS ?_ λl w ih=>?_
 ·intro x;exact Ro
 ·intro x;by_cases h:Span l w
  ·rw[II h,ih,bM];exact⟨.inl,λz=>z.elim id λz=>by have:=span_xor z h;rwa [aO] at this⟩
  ·rw[EC h,bM,bM,ih,ih]
theorem Inj.out {ws:D'} {w:Nat} (I:Inj ws) (h:¬Span ws w):Inj (ws++[w]):=by
 intro p Y e;rw[dM] at e;by_cases hb:p.testBit ws.length=true
 ·rw[qb hb] at e;exfalso;apply h
  have:sm ws p=w:=by
   have:=zt (·^^^w) e;simpa[KP] using this
  rw[<-this];exact sm_span _ _
 ·rw[ov hb,Lq] at e;refine I p ?_ e;rw[hC,Kb] at Y;refine L' p λi hi=>?_;by_cases O:i=ws.length
  ·rw[O];simpa using hb
  ·exact lB (f' Y (gA @C @A))
theorem IH:∀rows:D',Inj (fR rows):=by
 refine gS Inj.nil λl w ih=>?_;by_cases h:Span l w
 ·rw[II h];exact ih
 ·rw[EC h];exact ih.out λz=>h ((Bh l w).mp z)
noncomputable def ow (x:Nat) (L:D'):Nat:=pk (λk=>od (x&&&L.getD k 0)) 0 L.length
noncomputable def lk1 (A os:D') (t:Nat):D':=os.map λs=>bkI A s t
noncomputable def lkm (A os:D'):Nat->D'
 | 0=>[]
 | T + 1=>lkm A os T++lk1 A os T
section
variable (ps os:A') (m:Nat)
noncomputable def msk:D':=lkm (ps.map (·.1)) (os.map (·.1)) ps.length
noncomputable def ldp:D':=fr ((rch ps m ps.length).map (ow · (msk ps os)))
noncomputable def lst_:D':=(ldp ps os m).map λi=>(rch ps m ps.length).getD i 0
noncomputable def lkp:D':=fr ((msk ps os).map (ow · (lst_ ps os m)))
noncomputable def lkL:D':=(lkp ps os m).map λi=>(msk ps os).getD i 0
noncomputable def sen:D':=(lkL ps os m).map (ow · (lst_ ps os m))
end
section
variable {ps os:A'} {m:Nat}
structure Lsr (ps os:A') (m:Nat) (nx' os':A'):Prop where
 ln:nx'.length=(lkp ps os m).length
 lo:os'.length=os.length
 n1:∀(j:Nat) (q:Nat×Nat),nx'[j]? =ak q->q.1 < 2 ^ (lkp ps os m).length/\sm (sen ps os m) q.1=ow (sm (ps.map (·.1)) ((lkL ps os m).getD j 0)) (lst_ ps os m)/\q.2=sm (ps.map (·.2)) ((lkL ps os m).getD j 0)
 o1:∀(j:Nat) (q:Nat×Nat),os'[j]? =ak q->q.1 < 2 ^ (lkp ps os m).length/\sm (sen ps os m) q.1=ow (os.getD j (0,0)).1 (lst_ ps os m)/\q.2=(os.getD j (0,0)).2
structure Fit (ps os:A') (m:Nat):Prop where
 ln:ps.length<=120
 bn:∀q∈ps++os,q.1 < 2 ^ ps.length
end
theorem Ib {n:Nat} (hn:n<=1000):∀(rows:D'),(∀r∈rows,r < 2 ^ n)->∀x,x < 2 ^ n->¬Span rows x->∃m,m < 2 ^ n/\(∀r∈rows,od (m&&&r)=false)/\od (m&&&x)=true:=by
 intro rows
 induction rows using gS with
 | h0=>
   intro _ x α hs;have Z:x≠0:=λe=>hs (by rw[e];exact jQ _);have hl:x.log2 < n:=(Q3 Z).mpr α;exact⟨2 ^ x.log2,Kf @C hl,λ_ h=>kv h @D,by rw[uV @A];exact fw Z⟩
 | hs l r ih=>
   intro hb x α hs;have ih:=ih λy O=>hb y (qB _ O);have ζ:r < 2 ^ n:=hb r (nv _ kb);have h1:¬Span l x:=λh=>hs ((bM l r x).mpr (.inl h));have h2:¬Span l (x^^^r):=λh=>hs ((bM l r x).mpr (.inr h));obtain⟨δ,a1,b1,ο⟩:=ih x α h1;cases ε:od (δ&&&r) with
   | false=>
     refine⟨δ,a1,λy O=>?_,ο⟩;rcases oT.mp O with h | h
     ·exact b1 y h
     ·rw[hL.mp h];exact ε
   | true=>
     obtain⟨Y,a2,b2,γ⟩:=ih (x^^^r) (xor_lt_pow α ζ) h2;rw[iV,dQ] at γ;cases β:od (Y&&&r) with
     | false=>
       rw[β,MI] at γ;refine⟨Y,a2,λy O=>?_,γ⟩;rcases oT.mp O with h | h
       ·exact b2 y h
       ·rw[hL.mp h];exact β
     | true=>
       rw[β] at γ;have η:od (Y&&&x)=false:=by cases h:od (Y&&&x)<;>simp_all
       refine⟨δ^^^Y,xor_lt_pow a1 a2,λy O=>?_,by rw[kS,dQ,ο,η];rfl⟩;rw[kS,dQ];rcases oT.mp O with h | h
       ·rw[b1 y h,b2 y h];rfl
       ·rw[hL.mp h,ε,β];rfl
theorem mi {m:Nat} {rows:D'} (h:∀r∈rows,od (m&&&r)=false) {y:Nat} (hy:Span rows y):od (m&&&y)=false:=
 sR (P:=λy=>od (m&&&y)=false) (by rw[M5,od_zero]) (λa b ha hb=>by show od (m&&&(a^^^b))=false;rw[iV,dQ,ha,hb];rfl) h hy
theorem Jn {n:Nat} (hn:n<=1000) {rows bars:D'} (hb:∀r∈rows,r < 2 ^ n) (all:∀z,z < 2 ^ n->(∀y,Span rows y->od (z&&&y)=false)->Span bars z) {y:Nat} (hy:y < 2 ^ n) (h:∀b∈bars,od (b&&&y)=false):Span rows y:=Lo λhs=>by
 obtain⟨m,a,b,c⟩:=Ib hn rows hb y hy hs;have:=mi (m:=y) (rows:=bars) (λr O=>by rw[Lb];exact h r O) (all m a λz hz=>mi b hz);rw[Lb,c] at this;cases this
section
variable (ps os:A') (m:Nat)
noncomputable def Sil:Nat->Nat->Prop
 | 0,x=>x < 2 ^ ps.length
 | j + 1,x=>x < 2 ^ ps.length/\∃u,u < 2 ^ m/\tr2 os x u=0/\Sil j (tr2 ps x u)
end
section
variable {ps os:A'} {m:Nat}
theorem Sil.lt:∀{j x:Nat},Sil ps os m j x->x < 2 ^ ps.length
 | 0,_,h=>h
 | _ + 1,_,h=>h.1
theorem Sil.down:∀{j x:Nat},Sil ps os m (j + 1) x->Sil ps os m j x
 | 0,_,h=>h.1
 | j + 1,x,⟨O,u,hu,Y,h⟩=>⟨O,u,hu,Y,Sil.down (j:=j) h⟩
theorem Sil.less {i x:Nat}:∀{j:Nat},i<=j->Sil ps os m j x->Sil ps os m i x
 | 0,h,s=>by rw[show i=0 by omega];exact s
 | j + 1,h,s=>by
   by_cases e:i=j + 1
   ·rw[e];exact s
   ·exact Sil.less (j:=j) @A s.down
theorem xa:∀{j x:Nat},x < 2 ^ ps.length->∀rs:D',rs.length=j->(∀r∈rs,r < 2 ^ m)->wan ps os x rs=gB j 0->Sil ps os m j x
 | 0,x,O,_,_,_,_=>O
 | j + 1,x,O,r::rs,hl,hb,h=>by
   have h:tr2 os x r::wan ps os (tr2 ps x r) rs=0::gB j 0:=h;obtain⟨Z,h1⟩:=R5 h;exact⟨O,r,hb r kb,Z,xa (tr2_lt ps x r) rs (by simpa using hl) (λy Y=>hb y (ky _ Y)) h1⟩
end
section
noncomputable def jd (n:Nat) (q:Nat×Nat):Nat:=q.1^^^(q.2 <<< n)
theorem jd_lt {n m:Nat} {q:Nat×Nat} (h1:q.1 < 2 ^ n) (h2:q.2 < 2 ^ m):jd n q < 2 ^ (n + m):=by
 unfold jd;refine xor_lt_pow (f' h1 (gA @C @A)) ?_;rw[Lr,Nf,Pn];exact Nat.mul_lt_mul_of_pos_left h2 (lh _)
theorem F5 {n m:Nat} {q:Nat×Nat} {x u:Nat} (hn:n + m<=1000) (h1:q.1 < 2 ^ n) (hx:x < 2 ^ n) (hu:u < 2 ^ m):od (jd n q&&&jd n (x,u))=(od (q.1&&&x)^^od (q.2&&&u)):=by
 unfold jd;rw[j9 h1 hx,dQ,xp (qE M7 (f' hu (gA @C @A))) @A]
theorem Ey {n x u:Nat} (hx:x < 2 ^ n):jd n (x,u) % 2 ^ n=x:=by
 apply oe;intro i;unfold jd;rw[Kv,so,Kk];by_cases h:i < n
 ·simp[h,show ¬n<=i by omega]
 ·rw[lB (f' hx (gA @C @A))];simp[h]
theorem jd_of {n m w:Nat} (h:w < 2 ^ (n + m)):jd n (w % 2 ^ n,w>>>n)=w/\w % 2 ^ n < 2 ^ n/\w>>>n < 2 ^ m:=by
 refine⟨?_,Nu _ (lh _),?_⟩
 ·apply oe;intro i;unfold jd;rw[so,Kv,Kk,LG];by_cases hi:i < n
  ·simp[hi,show ¬n<=i by omega]
  ·simp[hi,show n<=i by omega,show n + (i - n)=i by omega]
 ·rw[z3];exact OI (by rw[<-Nf];exact h)
theorem AJ (n a b:Nat):(a^^^b) % 2 ^ n=a % 2 ^ n^^^b % 2 ^ n:=by
 apply oe;intro i;rw[Kv,so,so,Kv,Kv];cases decide (i < n)<;>simp
theorem Cf (n:Nat):∀(ws:D') (x:Nat),Span (ws.map (· % 2 ^ n)) x↔∃w,Span ws w/\w % 2 ^ n=x:=by
 intro ws
 induction ws using gS with
 | h0=>intro x;exact⟨λh=>⟨0,jQ _,by have h:x=0:=h;rw[h];exact Qb _⟩,λ⟨w,h,e⟩=>by have h:w=0:=h;rw[h,Qb] at e;exact e.symm⟩
 | hs l r ih=>
   intro x;rw[hH,Mx,bM,ih,ih];constructor
   ·rintro(⟨w,h,e⟩ | ⟨w,h,e⟩)
    ·exact⟨w,(bM l r w).mpr (.inl h),e⟩
    ·exact⟨w^^^r,(bM l r _).mpr (.inr (by rw[aO];exact h)),by rw[AJ,e,aO]⟩
   ·rintro⟨w,h,e⟩;rcases(bM l r w).mp h with h | h
    ·exact .inl ⟨w,h,e⟩
    ·exact .inr ⟨w^^^r,h,by rw[AJ,e]⟩
structure SWays (ps os:A') (m:Nat) (bars ways:D'):Prop where
 lt:∀w∈ways,w < 2 ^ (ps.length + m)
 ev:∀w∈ways,tr2 os (w % 2 ^ ps.length) (w>>>ps.length)=0/\∀b∈bars,od (b&&&tr2 ps (w % 2 ^ ps.length) (w>>>ps.length))=false
 inj:Inj (ways.map (· % 2 ^ ps.length))
 span:∀x,Span (ways.map (· % 2 ^ ps.length)) x↔x < 2 ^ ps.length/\∃u,u < 2 ^ m/\tr2 os x u=0/\∀b∈bars,od (b&&&tr2 ps x u)=false
end
section
variable {ps os:A'} {m:Nat}
theorem CY {x u:Nat} (hn:ps.length + m<=1000) (hO:∀q∈os,q.1 < 2 ^ ps.length) (hx:x < 2 ^ ps.length) (hu:u < 2 ^ m):tr2 os x u=0↔∀q∈os,od (jd ps.length q&&&jd ps.length (x,u))=false:=by
 constructor
 ·intro h q O;obtain⟨k,hk⟩:=LW.mp O;have hl:=(eH.mp hk).1;have:=zt (·.testBit k) h;simp only[fO,M6,pB hl,KB,eh,hk,QC] at this;rw[F5 hn (hO q O) hx hu];exact this
 ·intro h;apply oe;intro k;rw[fO,M6];by_cases hl:k < os.length
  ·have hk:os[k]? =ak os[k]:=fy hl;have:=h os[k] (LU hl);rw[F5 hn (hO _ (LU hl)) hx hu] at this;rw[pB hl,KB,eh,hk];exact this
  ·rw[qa hl,Ln]
end
theorem zJ {a b:D'} (γ:Inj a) (β:Inj b) (hl:b.length<=a.length) (h:∀x,Span a x->Span b x) {x:Nat} (hx:Span b x):Span a x:=Lo λhn=>by
 obtain⟨Z,sa,Y⟩:=mI a;obtain⟨α,ε,lb⟩:=mI b;rw[fr_inj γ] at Y;rw[fr_inj β] at lb;have O:(x::Z).Nodup:=Nv.mpr ⟨λhm=>hn ((sa.all x).mp hm),sa.nd⟩
 have:=lZ (x::Z) α O λy δ=>by
  rcases qn.mp δ with e | e
  ·rw[e];exact(ε.all x).mpr hx
  ·exact(ε.all y).mpr (h y ((sa.all y).mp e))
 rw[za,Y,lb] at this;have:=gA (show 0 < 2 by decide) hl;omega
section
variable {ps os:A'} {m:Nat}
noncomputable def rowsJ (ps os:A') (bars:D'):D':=os.map (jd ps.length)++bars.map λb=>jd ps.length (sm (ps.map (·.1)) b,sm (ps.map (·.2)) b)
theorem zj {bars:D'} {x u:Nat} (hn:ps.length + m<=1000) (ξ:∀q∈ps++os,q.1 < 2 ^ ps.length) (hb:∀b∈bars,b < 2 ^ ps.length) (hx:x < 2 ^ ps.length) (hu:u < 2 ^ m):
  (∀y,Span (rowsJ ps os bars) y->od (jd ps.length (x,u)&&&y)=false)↔tr2 os x u=0/\∀b∈bars,od (b&&&tr2 ps x u)=false:=by
 have η:∀b,od (jd ps.length (sm (ps.map (·.1)) b,sm (ps.map (·.2)) b)&&&jd ps.length (x,u))=od (b&&&tr2 ps x u):=λb=>by
  rw[F5 hn (sm_lt b λy Z=>by obtain⟨q,O,rfl⟩:=oi.mp Z;exact ξ q (qB _ O)) hx hu];exact(pH b x u ps @A).symm
 rw[CY hn (λq O=>ξ q (nv _ O)) hx hu];constructor
 ·intro h;refine⟨λq O=>?_,λb Y=>?_⟩
  ·rw[Lb];exact h _ (span_mem (qB _ (oi.mpr ⟨q,O,rfl⟩)))
  ·rw[<-η,Lb];exact h _ (span_mem (nv _ (oi.mpr ⟨b,Y,rfl⟩)))
 ·rintro⟨h1,h2⟩ y Z;refine mi (λr α=>?_) Z;rw[Lb];rcases oT.mp α with h | h
  ·obtain⟨q,O,rfl⟩:=oi.mp h;exact h1 q O
  ·obtain⟨b,Y,rfl⟩:=oi.mp h;rw[η];exact h2 b Y
theorem sways {bars ws:D'} (hn:ps.length + m<=1000) (ξ:∀q∈ps++os,q.1 < 2 ^ ps.length) (hb:∀b∈bars,b < 2 ^ ps.length) (lt:∀w∈ws,w < 2 ^ (ps.length + m)) (ev:∀w∈ws,∀y,Span (rowsJ ps os bars) y->od (w&&&y)=false)
  (all:∀z,z < 2 ^ (ps.length + m)->(∀y,Span (rowsJ ps os bars) y->od (z&&&y)=false)->Span ws z):SWays ps os m bars ((fr (ws.map (· % 2 ^ ps.length))).map λi=>ws.getD i 0):=by
 have Y:∀w∈(fr (ws.map (· % 2 ^ ps.length))).map (λi=>ws.getD i 0),w∈ws:=λw hw=>by
  obtain⟨i,hi,rfl⟩:=oi.mp hw;have hl:=fr_lt _ hi;rw[dt] at hl;rw[eh,fy hl];exact LU hl
 have O:((fr (ws.map (· % 2 ^ ps.length))).map λi=>ws.getD i 0).map (· % 2 ^ ps.length)=fR (ws.map (· % 2 ^ ps.length)):=by
  unfold fR;rw[Lc];refine LY λi hi=>?_;have hl:=fr_lt _ hi;rw[dt] at hl;show ws.getD i 0 % _=_;rw[eh,eh,lz,fy hl];rfl
 have hz:∀w,Span ws w->w < 2 ^ (ps.length + m):=λw hw=>span_lt lt hw
 have π:∀w,Span ws w->∀y,Span (rowsJ ps os bars) y->od (w&&&y)=false:=λw hw y Z=>by
  rw[Lb];exact mi (λr β=>by rw[Lb];exact ev r β y Z) hw
 refine⟨λw hw=>lt w (Y w hw),λw hw=>?_,by rw[O];exact IH _,λx=>?_⟩
 ·obtain⟨e,h1,h2⟩:=jd_of (n:=ps.length) (m:=m) (lt w (Y w hw));refine(zj hn ξ hb h1 h2).mp λy Z=>?_;rw[e];exact ev w (Y w hw) y Z
 ·rw[O,Bh,Cf];constructor
  ·rintro⟨w,hw,rfl⟩;obtain⟨e,h1,h2⟩:=jd_of (n:=ps.length) (m:=m) (hz w hw);refine⟨h1,w>>>ps.length,h2,(zj hn ξ hb h1 h2).mp λy Z=>?_⟩;rw[e];exact π w hw y Z
  ·rintro⟨α,u,hu,h⟩;exact⟨jd ps.length (x,u),all _ (jd_lt α hu) ((zj hn ξ hb α hu).mpr h),Ey α⟩
def BX (ps os:A') (m j:Nat) (bars:D'):Prop:=∀y,y < 2 ^ ps.length->((∀b∈bars,od (b&&&y)=false)↔Sil ps os m j y)
theorem yW:BX ps os m 0 []:=λy O=>⟨λ_=>O,λ_ _ h=>kv h @D⟩
theorem SWays.sil {bars O:D'} {j:Nat} (S:SWays ps os m bars O) (hb:BX ps os m j bars) (x:Nat):Span (O.map (· % 2 ^ ps.length)) x↔Sil ps os m (j + 1) x:=by
 rw[S.span];exact⟨λ⟨Y,u,hu,Z,h⟩=>⟨Y,u,hu,Z,(hb _ (tr2_lt _ _ _)).mp h⟩,λ⟨Y,u,hu,Z,h⟩=>⟨Y,u,hu,Z,(hb _ (tr2_lt _ _ _)).mpr h⟩⟩
theorem yX {rows bars:D'} {j:Nat} (hn:ps.length<=1000) (h:∀x,Span rows x↔Sil ps os m j x) (ev:∀b∈bars,∀y,Span rows y->od (b&&&y)=false) (all:∀z,z < 2 ^ ps.length->(∀y,Span rows y->od (z&&&y)=false)->Span bars z):BX ps os m j bars:=λy O=>
 ⟨λhb=>(h y).mp (Jn hn (λr Y=>((h r).mp (span_mem Y)).lt) all O hb),λhs b hb=>ev b hb y ((h y).mpr hs)⟩
end
theorem E4 (w p q T:Nat):M0 (·^^^·) (upk w p T) (upk w q T)=upk w (p^^^q) T:=by
 unfold upk;rw[List.zipWith_map,List.zipWith_self];refine LY λt _=>?_;rw[Nat.shiftRight_xor_distrib,Nat.and_xor_distrib_right]
theorem B6 (w T:Nat):upk w 0 T=gB T 0:=by
 unfold upk;simp only[Nat.zero_shiftRight,Ng];rw[List.map_const',wq]
theorem oQ (ps os:A'):∀(T x t:Nat),t < T->(wan ps os x (gB T 0))[t]? =ak (tr2 os (zs ps x t) 0)
 | 0,x,t,h=>kv h (LO _)
 | T + 1,x,0,h=>rfl
 | T + 1,x,t + 1,h=>by
   rw[Mh];show(wan ps os (tr2 ps x 0) (gB T 0))[t]? =_;rw[oQ ps os T _ t @A,GF]
noncomputable def act (ps:A') (x Q:Nat):Nat:=if Q=0 then 0 else (if Q % 2=1 then x else 0)^^^act ps (tr2 ps x 0) (Q / 2)
termination_by Q
decreasing_by omega
structure Lst (ps:A') (x P:Nat):Prop where
 nz:P≠0
 dv:∀Q,act ps x Q=0↔Dv P Q
structure Rng (ps:A') (x l n:Nat):Prop where
 pos:1<=n
 back:zs ps x (l + n)=zs ps x l
 least:∀e,1<=e->e < n->zs ps x (l + e)≠zs ps x l
 early:1<=l->zs ps x (l - 1 + n)≠zs ps x (l - 1)
theorem zX {f:Nat->Nat} (h0:f 0=0) (hx:∀x y,f (x^^^y)=f x^^^f y) (w:Nat):∀x,x < 2 ^ w->sm ((lA w).map λk=>f (2 ^ k)) x=f x:=by
 induction w with
 | zero=>intro x h;have:x < 1:=h;rw[show x=0 by omega,h0];rfl
 | succ w ih=>
   intro x h;rw[LB,hH,Mx];have hl:((lA w).map λk=>f (2 ^ k)).length=w:=by rw[dt,wq]
   rw[dM,hl];by_cases hb:x.testBit w=true
   ·rw[qb hb]
    have Y:x^^^2 ^ w < 2 ^ w:=by
     refine L' _ λi hi=>?_;rw[so,z0];by_cases e:w=i
     ·subst e;rw[hb];simp
     ·rw[lB (f' h (gA @C @A))];simp[e]
    have O:=ih _ Y;rw[sm_xor,hx] at O;have Z:sm ((lA w).map λk=>f (2 ^ k)) (2 ^ w)=0:=by rw[iW,eh,Lg (by rw[hl];exact ri _)];rfl
    rw[Z,Lq] at O;rw[O,aO]
   ·rw[ov hb,Lq];rw[Ry] at hb;refine ih x (L' _ λi hi=>?_);by_cases e:w=i
    ·subst e;exact hb
    ·exact lB (f' h (gA @C @A))
theorem vL (ps os:A'):∀(rs O:D') (x y:Nat),rs.length=O.length->wan ps os (x^^^y) (M0 (·^^^·) rs O)=M0 (·^^^·) (wan ps os x rs) (wan ps os y O)
 | [],[],_,_,_=>rfl
 | [],_::_,_,_,h=>by simp at h
 | _::_,[],_,_,h=>by simp at h
 | r::rs,q::O,x,y,h=>by
   have ih:=vL ps os rs O (tr2 ps x r) (tr2 ps y q) (by simpa using h);show tr2 os (x^^^y) (r^^^q)::wan ps os (tr2 ps (x^^^y) (r^^^q)) (M0 (·^^^·) rs O)=(tr2 os x r^^^tr2 os y q)::M0 (·^^^·) (wan ps os (tr2 ps x r) rs) (wan ps os (tr2 ps y q) O);rw[zD,zD,ih]
theorem sM (ps os:A') (O:D'):∀t,wan ps os 0 (gB t 0++O)=gB t 0++wan ps os 0 O
 | 0=>rfl
 | t + 1=>by
   show tr2 os 0 0::wan ps os (tr2 ps 0 0) (gB t 0++O)=0::(gB t 0++wan ps os 0 O);rw[jh,jh,sM ps os O t]
theorem wan_zeros (ps os:A') (t:Nat):wan ps os 0 (gB t 0)=gB t 0:=by
 have:=sM ps os [] t;rwa [LD,show wan ps os 0 []=[] from rfl,LD] at this
theorem yu {w n k:Nat} (h:k<=n):(pulse w n).take k=pulse w k:=by
 unfold pulse;rw[<-Nh,List.take_range,ML h]
theorem v9 (w:Nat):∀(a b:D'),a.length=b.length->pkw w (M0 (·^^^·) a b)=pkw w a^^^pkw w b
 | [],[],_=>(Mg 0).symm
 | [],_::_,h=>by cases h
 | _::_,[],h=>by cases h
 | x::a,y::b,h=>by
   have ih:=v9 w a b (by simpa using h);show(x^^^y)^^^(pkw w (M0 (·^^^·) a b) <<< w)=(x^^^(pkw w a <<< w))^^^(y^^^(pkw w b <<< w));rw[ih,vU,xor4]
theorem oU {w:Nat}:∀{T:Nat} {rs:D'},rs.length=T->(∀r∈rs,r < 2 ^ w)->upk w (pkw w rs) T=rs
 | 0,[],_,_=>rfl
 | T + 1,r::rs,h,hb=>by
   have O:=hb r kb;rw[sP];have α:pkw w (r::rs)>>>w=pkw w rs:=mT O
   have Z:pkw w (r::rs)&&&(2 ^ w - 1)=r:=by
    show(r^^^(pkw w rs <<< w))&&&(2 ^ w - 1)=r;rw[Ly];apply oe;intro i;rw[Kv,so,Kk];by_cases hi:i < w
    ·simp[hi,show ¬w<=i by omega]
    ·rw[lB (f' O (gA @C @A))];simp[hi]
   rw[α,Z,oU (T:=T) (by simpa using h) λy Y=>hb y (ky _ Y)]
section
variable (ps os:A') (m T:Nat)
noncomputable def tol:D':=(lA (T * m)).map λk=>pkw os.length (wan ps os 0 (upk m (2 ^ k) T))
end
section
variable {ps os:A'} {m T:Nat}
theorem tol_len:(tol ps os m T).length=T * m:=by unfold tol;rw[dt,wq]
theorem zE {F:Nat} (Y:F < 2 ^ (T * m)):sm (tol ps os m T) F=pkw os.length (wan ps os 0 (upk m F T)):=by
 refine zX (f:=λF=>pkw os.length (wan ps os 0 (upk m F T))) ?_ (λa b=>?_) (T * m) F Y
 ·show pkw _ (wan ps os 0 (upk m 0 T))=0;rw[B6,oF (λp O=>wan_lt ps os _ 0 p O)];intro p O
  have hz:∀n,wan ps os 0 (gB n 0)=gB n 0:=λn=>by
   induction n with
   | zero=>rfl
   | succ n ih=>show tr2 os 0 0::wan ps os (tr2 ps 0 0) _=_;rw[jh,jh,ih];rfl
  rw[hz] at O;exact L6 O
 ·show pkw _ (wan ps os 0 (upk m (a^^^b) T))=_
  rw[<-E4,show wan ps os 0 (M0 (·^^^·) (upk m a T) (upk m b T))=M0 (·^^^·) (wan ps os 0 (upk m a T)) (wan ps os 0 (upk m b T)) from by
   have:=vL ps os (upk m a T) (upk m b T) 0 0 (by rw[upk_len,upk_len]);rwa [Mg] at this,v9 _ _ _ (by rw[wan_len,wan_len,upk_len,upk_len])]
theorem Ca {rs:D'} (hl:rs.length=T) (hb:∀r∈rs,r < 2 ^ m):pkw os.length (wan ps os 0 rs)=sm (tol ps os m T) (pkw m rs):=by
 have O:=pkw_lt hb;rw[hl] at O;rw[zE O];congr 2;exact(oU hl hb).symm
end
theorem GZ:∀(l:D') (i q:Nat),q.testBit i=false->sm (l.set i 0) q=sm l q:=by
 intro l
 induction l using gS with
 | h0=>intro i q _;rfl
 | hs l w ih=>
   intro i q h;by_cases hi:i < l.length
   ·rw[List.set_append_left _ _ hi,dM,dM,ih i q h,N3]
   ·by_cases e:i=l.length
    ·rw[e,List.set_append_right _ _ (ri _),Ms];show sm (l++[0]) q=_;rw[dM,dM,<-e,h];rfl
    ·rw[List.set_eq_of_length_le (by rw[hC];show l.length + 1<=i;omega)]
theorem AG {μ i:Nat}:∀(l:D'),(∀k,k < l.length->od (μ&&&l.getD k 0)=decide (k=i))->∀F,od (μ&&&sm l F)=(decide (i < l.length)&&F.testBit i):=by
 intro l
 induction l using gS with
 | h0=>intro _ F;show od (μ&&&0)=_;rw[M5,od_zero];rfl
 | hs l w ih=>
   intro h F;have hw:=h l.length (by rw[hC];show l.length < l.length + 1;omega);have O:(l++[w]).getD l.length 0=w:=by rw[eh,vr (ri _),Ms];rfl
   rw[O] at hw
   have ih:=ih (λk hk=>by
    have:=h k (by rw[hC];omega);rwa [eh,u' hk,<-eh] at this) F
   rw[dM,iV,dQ,ih,hC];show _=(decide (i < l.length + 1)&&F.testBit i);by_cases e:i=l.length
   ·rw[e,qa (Lz _),Ln,Me,pB (LJ _),KB];cases Y:F.testBit l.length with
    | true=>rw[qb rfl,hw,e];simp
    | false=>rw[ov @C,M5,od_zero]
   ·have hz:od (μ&&&(if F.testBit l.length=true then w else 0))=false:=by
     split
     ·rw[hw];exact qa λz=>e z.symm
     ·rw[M5,od_zero]
    rw[hz,MI];by_cases hi:i < l.length
    ·rw[pB hi,pB @A]
    ·rw[qa hi,qa @A]
section
variable {ps os:A'} {m T:Nat}
theorem silent_of {i q:Nat} (hT:1<=T) (hi:i < m) (hq:q < 2 ^ (T * m)) (h0:q.testBit i=false) (e:sm ((tol ps os m T).set i 0) q=(tol ps os m T).getD i 0):
  wan ps os 0 (upk m (q^^^2 ^ i) T)=gB T 0/\((upk m (q^^^2 ^ i) T).getD 0 0).testBit i=true:=by
 have Y:i < T * m:=f' hi (Nd m hT);have O:q^^^2 ^ i < 2 ^ (T * m):=xor_lt_pow hq (Kf @C Y);constructor
 ·have hz:pkw os.length (wan ps os 0 (upk m (q^^^2 ^ i) T))=0:=by
   rw[<-zE O,sm_xor,iW,<-e,GZ _ _ _ h0,Mg]
  have:=(oF (λp Z=>wan_lt ps os _ 0 p Z)).mp hz;refine List.eq_replicate_iff.mpr ⟨by rw[wan_len,upk_len],this⟩
 ·obtain⟨t,rfl⟩:∃t,T=t + 1:=⟨T - 1,@A⟩;rw[sP];show((q^^^2 ^ i)&&&(2 ^ m - 1)).testBit i=true;rw[Ly,Kv,so,h0,z0];simp[hi]
theorem zF {μ i:Nat} (hT:1<=T) (hi:i < m) (ev:∀y,Span ((tol ps os m T).set i 0) y->od (μ&&&y)=false) (O:od (μ&&&(tol ps os m T).getD i 0)=true) {rs:D'} (hl:rs.length=T) (hb:∀r∈rs,r < 2 ^ m):
  od (μ&&&pkw os.length (wan ps os 0 rs))=(rs.getD 0 0).testBit i:=by
 have Z:i < T * m:=f' hi (Nd m hT);rw[Ca hl hb,AG (i:=i) (tol ps os m T) (λk hk=>?_),tol_len,pB Z,KB]
 ·match rs,hl with
  | [],hl=>exact kv hl (by show ¬0=T;omega)
  | r::rs,_=>
    show(r^^^(pkw m rs <<< m)).testBit i=r.testBit i;rw[so,Kk];simp[show ¬m<=i by omega]
 ·by_cases e:k=i
  ·rw[pB e,e];exact O
  ·rw[qa e];refine ev _ (span_mem ?_)
   have Y:((tol ps os m T).set i 0)[k]? =ak ((tol ps os m T).getD k 0):=by
    rw[OE (Ka e),eh,fy hk];rfl
   exact hQ Y
end
section
variable {ps os TP TO:A'} {m d:Nat}
noncomputable def enc (n o x:Nat) (Y:D'):Nat:=x^^^(pkw o Y <<< n)
theorem tells (enc:Nat->D'->Nat)
  (hO:∀x Y y v vs,Y.length=d->vs.length=d->v < 2 ^ m->(∀u∈vs,u < 2 ^ m)->wan ps os x (v::vs)=Y++[y]->tr2 TO (enc x Y) y=v/\tr2 TP (enc x Y) y=enc (tr2 ps x v) ((Y++[y]).drop 1)):
  ∀(ys:D') (x:Nat) (Y vs:D'),Y.length=d->vs.length=d + ys.length->(∀v∈vs,v < 2 ^ m)->wan ps os x vs=Y++ys->wan TP TO (enc x Y) ys=vs.take ys.length
 | [],_,_,_,_,_,_,_=>rfl
 | y::ys,x,Y,vs,hY,hl,hb,h=>by
   match vs,hl,hb,h with
   | [],hl,_,_=>exact kv hl (by rw[za];show ¬0=d + (ys.length + 1);omega)
   | v::vs,hl,hb,h=>
     rw[za,za] at hl
     have h1:wan ps os x (v::vs.take d)=Y++[y]:=by
      have Z:v::vs.take d=(v::vs).take (d + 1):=rfl;rw[Z,sL,h,Rx,hY,N8 @A,show d + 1 - d=1 by omega];rfl
     obtain⟨a,b⟩:=hO x Y y v (vs.take d) hY (by rw[Kt];omega) (hb v kb) (λu hu=>hb u (ky _ (OD hu))) h1;show tr2 TO _ y::wan TP TO (tr2 TP _ y) ys=v::vs.take ys.length;rw[a,b];refine zt (v::·) (tells enc hO ys (tr2 ps x v) ((Y++[y]).drop 1) vs (by rw[MM,hC,hY];show d + 1 - 1=d;omega) @A (λu hu=>hb u (ky _ hu)) ?_);have h2:tr2 os x v::wan ps os (tr2 ps x v) vs=Y++y::ys:=h;have O:=zt (List.drop 1) h2;rw[List.drop_succ_cons,PJ] at O;rw[O,show Y++y::ys=(Y++[y])++ys by rw[Mo];rfl,List.drop_append_of_le_length (by rw[hC];show 1<=Y.length + 1;omega)]
end
theorem IU (A:D'):∀(t:Nat) (L:D') (s:Nat),bkI A (sm L s) t=sm (L.map λl=>bkI A l t) s:=by
 intro t
 induction t with
 | zero=>intro L s;show sm L s=sm (L.map λl=>l) s;rw[S9]
 | succ t ih=>
   intro L s;rw[<-xQ,GY,ih];congr 1;rw[Lc];exact LY λl _=>xQ A l t
section
variable (ps os:A')
noncomputable def zmk (μ:Nat):Nat->Nat
 | 0=>0
 | T + 1=>zmk μ T^^^sm ((os.map (·.1)).map λl=>bkI (ps.map (·.1)) l T) ((μ>>>(T * os.length))&&&(2 ^ os.length - 1))
end
section
variable {ps os:A'}
theorem B1 (hl:ps.length<=1000) (ho:os.length<=1000) (x s t:Nat):od (sm ((os.map (·.1)).map λl=>bkI (ps.map (·.1)) l t) s&&&x)=od (s&&&tr2 os (zs ps x t) 0):=by
 rw[pH s (zs ps x t) 0 os ho,M5,od_zero,MI,Ii ps hl,IU]
theorem Eu (hl:ps.length<=1000) (ho:os.length<=1000) (x μ:Nat):∀T,od (zmk ps os μ T&&&x)=dot (upk os.length μ T) ((lA T).map λt=>tr2 os (zs ps x t) 0)
 | 0=>by show od (0&&&x)=false;rw[Ng,od_zero]
 | T + 1=>by
   show od ((zmk ps os μ T^^^_)&&&x)=_;rw[kS,dQ,Eu hl ho x μ T,B1 hl ho];unfold upk;rw[LB,hH,hH];rw[show([T].map λt=>(μ>>>(t * os.length))&&&(2 ^ os.length - 1))=[(μ>>>(T * os.length))&&&(2 ^ os.length - 1)] from rfl,show([T].map λt=>tr2 os (zs ps x t) 0)=[tr2 os (zs ps x T) 0] from rfl];rw[xH _ _ _ _ (by rw[dt,dt])]
theorem uw (ps os:A') (x T:Nat):wan ps os x (gB T 0)=(lA T).map λt=>tr2 os (zs ps x t) 0:=by
 refine NO λt=>?_;by_cases h:t < T
 ·rw[oQ _ _ _ _ _ h,lz,MQ h];rfl
 ·rw[Lg (by rw[wan_len,wh];omega),Lg (by rw[dt,wq];omega)]
theorem B2 (hl:ps.length<=1000) (ho:os.length<=1000) {x μ T:Nat} (hT:T * os.length<=1000) (ο:μ < 2 ^ (T * os.length)):od (zmk ps os μ T&&&x)=od (μ&&&pkw os.length (wan ps os x (gB T 0))):=by
 rw[Eu hl ho,uw];have h1:=Ew (w:=os.length) (ps:=upk os.length μ T) (rs:=(lA T).map λt=>tr2 os (zs ps x t) 0) (by rw[upk_len,dt,wq]) (upk_lt _ _ _) (λr O=>by obtain⟨t,_,rfl⟩:=oi.mp O;exact tr2_lt _ _ _) (by rw[upk_len];exact hT);rw[tf _ _ _ ο] at h1;exact h1.symm
theorem x6 {m d i μ x v:Nat} {vs Y:D'} {y:Nat} (hl:ps.length<=1000) (ho:os.length<=1000) (hT:(d + 1) * os.length<=1000) (ο:μ < 2 ^ ((d + 1) * os.length)) (hi:i < m)
  (ev:∀z,Span ((tol ps os m (d + 1)).set i 0) z->od (μ&&&z)=false) (O:od (μ&&&(tol ps os m (d + 1)).getD i 0)=true) (Z:v < 2 ^ m) (hb:∀u∈vs,u < 2 ^ m) (hs:vs.length=d) (h:wan ps os x (v::vs)=Y++[y]):
  (od (zmk ps os μ (d + 1)&&&x)^^od (μ&&&pkw os.length (Y++[y])))=v.testBit i:=by
 rw[B2 hl ho hT ο,<-h,<-dQ,<-iV]
 have hz:M0 (·^^^·) (wan ps os x (gB (d + 1) 0)) (wan ps os x (v::vs))=wan ps os 0 (v::vs):=by
  have:=vL ps os (gB (d + 1) 0) (v::vs) x x (by rw[wh,za,hs]);rw[Mg] at this;rw[<-this];congr 1;refine NO λt=>?_;rw[List.getElem?_zipWith];by_cases ht:t < d + 1
  ·rw[List.getElem?_replicate_of_lt ht,fy (by rw[za,hs];exact ht)];simp
  ·rw[Lg (show(v::vs).length<=t by rw[za,hs];omega)];cases(gB (d + 1) 0)[t]? <;>rfl
 rw[<-v9 _ _ _ (by rw[wan_len,wan_len,wh,za,hs]),hz]
 exact zF (T:=d + 1) @A hi ev O (by rw[za,hs]) λr α=>by
  rcases qn.mp α with e | e
  ·rw[e];exact Z
  ·exact hb r e
end
section
variable (ps os:A') (d:Nat)
noncomputable def tel (μ:Nat):Nat×Nat:=(zmk ps os μ (d + 1)^^^((μ % 2 ^ (d * os.length)) <<< ps.length),μ>>>(d * os.length))
noncomputable def telO (μs:D'):A':=μs.map (tel ps os d)
noncomputable def fol (to:A') (q:Nat×Nat):Nat×Nat:=(q.1^^^sm (to.map (·.1)) q.2,sm (to.map (·.2)) q.2)
noncomputable def kpt:A':=(lA (d * os.length - os.length)).map (λj=>(2 ^ (ps.length + (os.length + j)),0))++(if 0 < d then (lA os.length).map (λk=>(0,2 ^ k)) else [])
noncomputable def telP (μs:D'):A':=ps.map (fol (telO ps os d μs))++kpt ps os d
noncomputable def ecd (x:Nat) (Y:D'):Nat:=x^^^(pkw os.length Y <<< ps.length)
end
section
variable {ps os:A'} {d:Nat}
theorem zk (ξ:∀q∈ps++os,q.1 < 2 ^ ps.length) (μ:Nat):∀T,zmk ps os μ T < 2 ^ ps.length
 | 0=>lh _
 | T + 1=>xor_lt_pow (zk ξ μ T) (sm_lt _ λy O=>by
     obtain⟨l,hl,rfl⟩:=oi.mp O;obtain⟨q,Z,rfl⟩:=oi.mp hl;exact bkI_lt (λz hz=>by obtain⟨r,Y,rfl⟩:=oi.mp hz;exact ξ r (qB _ Y)) (ξ q (nv _ Z)) T)
theorem C2 {μ w o y:Nat} {P:Nat} (hw:w + o<=1000) (O:P < 2 ^ w) (hy:y < 2 ^ o):od (μ&&&(P^^^(y <<< w)))=(od ((μ % 2 ^ w)&&&P)^^od ((μ>>>w)&&&y)):=by
 have e:μ=(μ % 2 ^ w)^^^((μ>>>w) <<< w):=by
  apply oe;intro i;rw[so,Kv,Kk,LG];by_cases hi:i < w
  ·simp[hi,show ¬w<=i by omega]
  ·simp[hi,show w<=i by omega,show w + (i - w)=i by omega]
 rw[show od (μ&&&(P^^^(y <<< w)))=od (((μ % 2 ^ w)^^^((μ>>>w) <<< w))&&&(P^^^(y <<< w))) by rw[<-e],j9 (Nu _ (lh _)) O,dQ,xp (qE M7 (f' hy (gA @C @A))) @A]
theorem E6 (ξ:∀q∈ps++os,q.1 < 2 ^ ps.length) (hn:ps.length + (d + 1) * os.length<=1000) {x μ y:Nat} {Y:D'} (hx:x < 2 ^ ps.length) (Z:Y.length=d) (τ:∀z∈Y,z < 2 ^ os.length) (hy:y < 2 ^ os.length):
  (od ((tel ps os d μ).1&&&ecd ps os x Y)^^od ((tel ps os d μ).2&&&y))=(od (zmk ps os μ (d + 1)&&&x)^^od (μ&&&pkw os.length (Y++[y]))):=by
 have O:=pkw_lt τ;rw[Z] at O;have α:(d + 1) * os.length=d * os.length + os.length:=OK d os.length;unfold tel ecd;rw[j9 (zk ξ μ _) hx,dQ,xp (qE M7 (f' O (gA @C @A))) @A,pkw_snoc,Z,C2 @A O hy];generalize od _=a;generalize od _=b;generalize od _=c;cases a<;>cases b<;>cases c<;>rfl
structure Mks (ps os:A') (m d:Nat) (μs:D'):Prop where
 len:μs.length=m
 lt:∀(i μ:Nat),μs[i]? =ak μ->μ < 2 ^ ((d + 1) * os.length)
 ev:∀(i μ:Nat),μs[i]? =ak μ->∀z,Span ((tol ps os m (d + 1)).set i 0) z->od (μ&&&z)=false
 odd:∀(i μ:Nat),μs[i]? =ak μ->od (μ&&&(tol ps os m (d + 1)).getD i 0)=true
theorem wX {m:Nat} {μs:D'} (M:Mks ps os m d μs) (ξ:∀q∈ps++os,q.1 < 2 ^ ps.length) (hn:ps.length + (d + 1) * os.length<=1000) (ho:os.length<=1000) {x v y:Nat} {vs Y:D'} (hx:x < 2 ^ ps.length) (Z:v < 2 ^ m) (hb:∀u∈vs,u < 2 ^ m) (hs:vs.length=d) (α:Y.length=d) (h:wan ps os x (v::vs)=Y++[y]):tr2 (telO ps os d μs) (ecd ps os x Y) y=v:=by
 have ζ:∀z∈Y++[y],z < 2 ^ os.length:=λz hz=>wan_lt ps os (v::vs) x z (by rw[h];exact hz);apply oe;intro i;rw[fO];unfold telO;rw[dt,M.len];by_cases hi:i < m
 ·have θ:i < μs.length:=by rw[M.len];exact hi
  have O:μs[i]? =ak μs[i]:=fy θ;rw[pB hi,KB,eh,lz,O];show(od ((tel ps os d _).1&&&_)^^od ((tel ps os d _).2&&&y))=_;rw[E6 ξ hn hx α (λz hz=>ζ z (qB _ hz)) (ζ y (nv _ kb))];exact x6 @A ho @A (M.lt i _ O) hi (M.ev i _ O) (M.odd i _ O) Z hb hs h
 ·rw[qa hi,Ln,lB (f' Z (gA @C @A))]
theorem kpt_len:(kpt ps os d).length=d * os.length:=by
 unfold kpt;rw[hC,dt,wq];cases d with
 | zero=>rw[ov @C];show 0 * os.length - os.length + 0=0 * os.length;omega
 | succ d=>
   rw[qb @A,dt,wq,OK];omega
theorem CO {w:Nat} {z:Nat} {Z:D'} (h:z < 2 ^ w):pkw w (z::Z)>>>w=pkw w Z:=mT h
theorem zG {m:Nat} {μs:D'} (M:Mks ps os m d μs) (ξ:∀q∈ps++os,q.1 < 2 ^ ps.length) (hn:ps.length + (d + 1) * os.length<=1000) (ho:os.length<=1000) (hm:m<=1000) {x v y:Nat} {vs Y:D'} (hx:x < 2 ^ ps.length) (π:v < 2 ^ m) (hb:∀u∈vs,u < 2 ^ m) (hs:vs.length=d) (β:Y.length=d) (h:wan ps os x (v::vs)=Y++[y]):
  tr2 (telP ps os d μs) (ecd ps os x Y) y=ecd ps os (tr2 ps x v) ((Y++[y]).drop 1):=by
 have ζ:∀z∈Y++[y],z < 2 ^ os.length:=λz hz=>wan_lt ps os (v::vs) x z (by rw[h];exact hz);have O:=wX M ξ hn ho hx π hb hs β h;have ρ:(d + 1) * os.length=d * os.length + os.length:=OK d os.length;have ο:=ζ y (nv _ kb);have θ:=pkw_lt (w:=os.length) (ps:=Y) (λz hz=>ζ z (qB _ hz));rw[β] at θ;have υ:((Y++[y]).drop 1).length=d:=by rw[MM,hC,β];show d + 1 - 1=d;omega
 have γ:=pkw_lt (w:=os.length) (ps:=(Y++[y]).drop 1) (λz hz=>ζ z (QO hz));rw[υ] at γ
 have δ:pkw os.length ((Y++[y]).drop 1)=pkw os.length (Y++[y])>>>os.length:=by
  match Y,β,ζ with
  | [],_,ζ=>show pkw os.length []=(y^^^(pkw os.length [] <<< os.length))>>>os.length;rw[mT (ζ y @D)]
  | z::Y',_,ζ=>exact(CO (ζ z @D)).symm
 have α:∀j,(pkw os.length ((Y++[y]).drop 1)).testBit j=((pkw os.length Y).testBit (os.length + j)^^(decide (d * os.length<=os.length + j)&&y.testBit (os.length + j - d * os.length))):=λj=>by
  rw[δ,LG,pkw_snoc,β,so,Kk]
 apply oe;intro k;rw[fO];unfold telP;rw[hC,dt,kpt_len]
 have Z:∀k,(ecd ps os (tr2 ps x v) ((Y++[y]).drop 1)).testBit k=((tr2 ps x v).testBit k^^(decide (ps.length<=k)&&(pkw os.length ((Y++[y]).drop 1)).testBit (k - ps.length))):=λk=>by
  unfold ecd;rw[so,Kk]
 rw[Z];by_cases h1:k < ps.length
 ·have η:ps[k]? =ak ps[k]:=fy h1;rw[pB @A,KB,eh,u' (by rw[dt];exact h1),lz,η,qa @A,Ln,MI];show(od ((ps[k].1^^^sm ((telO ps os d μs).map (·.1)) ps[k].2)&&&ecd ps os x Y)^^od (sm ((telO ps os d μs).map (·.2)) ps[k].2&&&y))=_;have ε:=ξ ps[k] (qB _ (LU h1))
  have φ:od (ps[k].1&&&ecd ps os x Y)=od (ps[k].1&&&x):=by
   unfold ecd;have:=j9 (w:=ps.length) (p:=ps[k].1) (r:=x) (P:=0) (R:=pkw os.length Y) ε hx;rw[P3,Lq,Ng,P3,Lq] at this;rw[this]
  have ν:=pH ps[k].2 (ecd ps os x Y) y (telO ps os d μs) (by unfold telO;rw[dt,M.len];exact hm);rw[O] at ν;rw[kS,dQ,φ,RU,<-ν,fO,pB h1,KB,eh,η];rfl
 ·have ht:(tr2 ps x v).testBit k=false:=lB (f' (tr2_lt ps x v) (gA @C @A));rw[ht,Me,pB (show ps.length<=k by omega),KB];obtain⟨j,rfl⟩:∃j,k=ps.length + j:=⟨k - ps.length,@A⟩;rw[O9];by_cases h2:j < d * os.length
  ·rw[pB @A,KB,α,eh,vr (by rw[dt];omega),dt,O9];have hd:0 < d:=by cases d with | zero=>rw[Pm] at h2;omega | succ d=>omega
   unfold kpt;by_cases ι:j < d * os.length - os.length
   ·rw[u' (by rw[dt,wq];exact ι),lz,MQ ι];show(od (2 ^ (ps.length + (os.length + j))&&&ecd ps os x Y)^^od (0&&&y))=_;rw[Ng,od_zero,MI,uV @A,qa @A,Ln,MI];unfold ecd;rw[so,Kk,lB (f' hx (gA @C @A)),Me,pB @A,KB,O9]
   ·have τ:os.length<=d * os.length:=Nd _ hd;rw[vr (by rw[dt,wq];omega),dt,wq,qb hd,lz,MQ @A];show(od (0&&&ecd ps os x Y)^^od (2 ^ (j - (d * os.length - os.length))&&&y))=_;rw[Ng,od_zero,Me,uV @A,lB (f' θ (gA @C (show d * os.length<=os.length + j by omega))),Me,pB @A,KB];congr 1;omega
  ·rw[qa @A,Ln,lB (f' γ (gA @C @A))]
theorem told_back {m:Nat} {μs:D'} (M:Mks ps os m d μs) (ξ:∀q∈ps++os,q.1 < 2 ^ ps.length) (hn:ps.length + (d + 1) * os.length<=1000) (ho:os.length<=1000) (hm:m<=1000) {us:D'} (hu:∀u∈us,u < 2 ^ m):
  wan (telP ps os d μs) (telO ps os d μs) 0 (wan ps os 0 us)=(gB d 0++us).take us.length:=by
 have hz:∀n,wan ps os 0 (gB n 0)=gB n 0/\wst ps 0 (gB n 0)=0:=λn=>by
  induction n with
  | zero=>exact⟨rfl,rfl⟩
  | succ n ih=>exact⟨by show tr2 os 0 0::wan ps os (tr2 ps 0 0) _=_;rw[jh,jh,ih.1];rfl,by show wst ps (tr2 ps 0 0) _=0;rw[jh];exact ih.2⟩
 have he:ecd ps os 0 (gB d 0)=0:=by
  unfold ecd;rw[(oF (w:=os.length) (ps:=gB d 0) (λp δ=>by rw[L6 δ];exact lh _)).mpr λp δ=>L6 δ,P3,Mg]
 have Z:=tells (ps:=ps) (os:=os) (TP:=telP ps os d μs) (TO:=telO ps os d μs) (m:=m) (d:=d) (λx Y=>ecd ps os (x % 2 ^ ps.length) Y) ?_ (wan ps os 0 us) 0 (gB d 0) (gB d 0++us) (wh ..) (by rw[hC,wh,wan_len]) (λv γ=>by
  rcases oT.mp γ with e | e
  ·rw[L6 e];exact lh _
  ·exact hu v e) (by rw[zy,(hz d).1,(hz d).2])
 ·have Z:wan _ _ (ecd ps os (0 % 2 ^ ps.length) (gB d 0)) _=_:=Z;rw[Qb,he,wan_len] at Z;exact Z
 ·intro x Y y v vs ε hs γ hb h;have α:x % 2 ^ ps.length < 2 ^ ps.length:=Nu _ (lh _)
  have same:∀(O:A'),(∀q∈O,q.1 < 2 ^ ps.length)->∀r,tr2 O (x % 2 ^ ps.length) r=tr2 O x r:=λO β r=>by
   apply oe;intro i;rw[fO,fO];by_cases hi:i < O.length
   ·have hm:O.getD i (0,0)∈O:=by rw[eh,fy hi];exact LU hi
    have:(O.getD i (0,0)).1&&&(x % 2 ^ ps.length)=(O.getD i (0,0)).1&&&x:=by
     apply oe;intro j;rw[KU,KU,Kv];by_cases ζ:j < ps.length
     ·simp[ζ]
     ·rw[lB (f' (β _ hm) (gA @C @A))];simp
    rw[this]
   ·rw[qa hi,Ln,Ln]
  have sp:=same ps (λq β=>ξ q (qB _ β));have φ:=same os (λq β=>ξ q (nv _ β))
  have h':wan ps os (x % 2 ^ ps.length) (v::vs)=Y++[y]:=by
   rw[<-h];show tr2 os _ v::wan ps os (tr2 ps _ v) vs=tr2 os x v::wan ps os (tr2 ps x v) vs;rw[sp,φ]
  refine⟨wX M ξ hn ho α γ hb hs ε h',?_⟩;rw[zG M ξ hn ho hm α γ hb hs ε h',sp,Px (tr2_lt ps x v)]
end
section
variable {ps os:A'} {m:Nat}
theorem first_iff {bars:D'} {u:Nat} (hl:ps.length<=1000) (ho:os.length<=1000):
  (∀y,Span (os.map (·.2)++bars.map (sm (ps.map (·.2)))) y->od (u&&&y)=false)↔tr2 os 0 u=0/\∀b∈bars,od (b&&&tr2 ps 0 u)=false:=by
 have η:∀b,od (b&&&tr2 ps 0 u)=od (sm (ps.map (·.2)) b&&&u):=λb=>by
  rw[pH b 0 u ps hl,M5,od_zero,Me]
 have Y:tr2 os 0 u=0↔∀q∈os,od (q.2&&&u)=false:=by
  constructor
  ·intro h q O;obtain⟨k,hk⟩:=LW.mp O;have ω:=(eH.mp hk).1;have:=zt (·.testBit k) h;simp only[fO,M6,pB ω,KB,eh,hk,QC,M5,od_zero,Me] at this;exact this
  ·intro h;apply oe;intro k;rw[fO,M6,M5,od_zero,Me];by_cases ω:k < os.length
   ·rw[pB ω,KB,eh,fy ω];exact h _ (LU ω)
   ·rw[qa ω,Ln]
 rw[Y];constructor
 ·intro h;refine⟨λq O=>?_,λb hb=>?_⟩
  ·rw[Lb];exact h _ (span_mem (qB _ (oi.mpr ⟨q,O,rfl⟩)))
  ·rw[η,Lb];exact h _ (span_mem (nv _ (oi.mpr ⟨b,hb,rfl⟩)))
 ·rintro⟨h1,h2⟩ y Z;refine mi (λr α=>?_) Z;rw[Lb];rcases oT.mp α with h | h
  ·obtain⟨q,O,rfl⟩:=oi.mp h;exact h1 q O
  ·obtain⟨b,hb,rfl⟩:=oi.mp h;rw[<-η];exact h2 b hb
theorem not_silent {bars:D'} {k:Nat} (hk:k<=ps.length) (hb:BX ps os m k bars) (h0:∀u,u < 2 ^ m->tr2 os 0 u=0->(∀b∈bars,od (b&&&tr2 ps 0 u)=false)->u=0) {rs:D'} (hl:ps.length < rs.length) (O:∀r∈rs,r < 2 ^ m) (h:wan ps os 0 rs=gB rs.length 0):rs.getD 0 0=0:=by
 match rs,hl,O,h with
 | [],hl,_,_=>exact kv hl @D
 | r::rs,hl,O,h=>
   have h:tr2 os 0 r::wan ps os (tr2 ps 0 r) rs=0::gB rs.length 0:=h;obtain⟨h1,h2⟩:=R5 h;have hs:=xa (m:=m) (tr2_lt ps 0 r) rs rfl (λy Y=>O y (ky _ Y)) h2;exact h0 r (O r kb) h1 ((hb _ (tr2_lt ps 0 r)).mpr (hs.less (by rw[za] at hl;omega)))
structure Slp (ps os:A') (m j:Nat) (bars ways:D'):Prop where
 w:SWays ps os m bars ways
 b:BX ps os m j bars
 lt:∀b∈bars,b < 2 ^ ps.length
 cnt:∃prev:D',(∀x,Span prev x↔Sil ps os m j x)/\Inj prev/\prev.length + bars.length=ps.length/\prev.length + j<=ps.length
theorem Slp.sil {j:Nat} {bars O:D'} (S:Slp ps os m j bars O):∀x,Span (O.map (· % 2 ^ ps.length)) x↔Sil ps os m (j + 1) x:=S.w.sil S.b
theorem Slp.le {j:Nat} {bars O:D'} (S:Slp ps os m j bars O):j<=ps.length:=by obtain⟨p,_,_,_,h⟩:=S.cnt;omega
theorem Slp.done {j:Nat} {bars O:D'} (S:Slp ps os m j bars O) (h:ps.length<=O.length + bars.length) {x:Nat} (hx:Sil ps os m j x):Span (O.map (· % 2 ^ ps.length)) x:=by
 obtain⟨p,h1,h2,Z,_⟩:=S.cnt;exact zJ S.w.inj h2 (by rw[dt];omega) (λy Y=>(h1 y).mpr ((S.sil y).mp Y).down) ((h1 x).mpr hx)
theorem Slp.start {O:D'} (hw:SWays ps os m [] O):Slp ps os m 0 [] O:=by
 refine⟨hw,yW,λ_ h=>kv h @D,(lA ps.length).map (2 ^ ·),λx=>?_,?_,?_,?_⟩
 ·constructor
  ·intro h;exact span_lt (λr Z=>by obtain⟨k,hk,rfl⟩:=oi.mp Z;exact Kf @C (Kw.mp hk)) h
  ·intro h;have:sm ((lA ps.length).map (2 ^ ·)) x=x:=zX (f:=λx=>x) rfl (λ_ _=>rfl) ps.length x h;rw[<-this];exact sm_span _ _
 ·intro p Y h;rw[dt,wq] at Y;have:sm ((lA ps.length).map (2 ^ ·)) p=p:=zX (f:=λx=>x) rfl (λ_ _=>rfl) ps.length p Y;rw[<-this];exact h
 ·rw[dt,wq];rfl
 ·rw[dt,wq];exact ri _
theorem Slp.next {j:Nat} {bars Y O Z:D'} (S:Slp ps os m j bars Y) (hn:ps.length<=1000) (χ:Y.length + bars.length < ps.length) (blt:∀b∈O,b < 2 ^ ps.length) (α:O.length + Y.length=ps.length)
  (ev:∀b∈O,∀y,Span (Y.map (· % 2 ^ ps.length)) y->od (b&&&y)=false) (all:∀z,z < 2 ^ ps.length->(∀y,Span (Y.map (· % 2 ^ ps.length)) y->od (z&&&y)=false)->Span O z) (hw:SWays ps os m O Z):Slp ps os m (j + 1) O Z:=by
 obtain⟨p,h1,h2,β,θ⟩:=S.cnt;exact⟨hw,yX hn S.sil ev all,blt,Y.map (· % 2 ^ ps.length),S.sil,S.w.inj,by rw[dt];omega,by rw[dt];omega⟩
end
noncomputable def jn (p1 p2:A'):A':=p1++p2.map λq=>(q.1 <<< p1.length,q.2)
noncomputable def lo (n x:Nat):Nat:=x&&&(2 ^ n - 1)
structure Jo (p1 p2:A'):Prop where
 a1:∀q∈p1,q.1 < 2 ^ p1.length
 a2:∀q∈p2,q.1 < 2 ^ p2.length
 l:p1.length + p2.length<=500
section
variable {p1 p2 o1 o2:A'} {m:Nat}
noncomputable def sgl (p o:A') (w:Nat):Nat->Nat
 | 0=>tr2 o 0 (2 ^ w)
 | t + 1=>tr2 o (zs p (tr2 p 0 (2 ^ w)) t) 0
def Al (p1 o1 p2 o2:A') (m T:Nat):Prop:=∀t,t < T->∀w,w < m->sgl p1 o1 w t=sgl p2 o2 w t
end
noncomputable def rcf (ps:A') (m:Nat):Nat->D'
 | 0=>[]
 | T + 1=>rcf ps m T++stj ps (sg0 ps m) T
noncomputable def prs2 (p1 p2:A') (m:Nat):D':=fR (rcf (jn p1 p2) m (p1.length + p2.length))
end M
namespace Sx
open PySem L2
def Cp (Y:gs Pr3->Prop) (H1:Hp) (D:gn) (i:Nat) (ys:gs V) (H:Hp):Prop:=∃O:gs Pr3,ys=refs O/\O.length=i/\Y O/\Prt H O/\Same H1 H/\H D=ak (.lst ys)
theorem xN {γ:gs Pr3->Prop} {H1 H Y:Hp} {D t:gn} {i x y:Nat} {O:gs Pr3} (ε:H1 D=hB) (α:O.length=i) (pt:Prt H O) (s:Same H1 H) (β:H D=ak (.lst (refs O))) (Z:Same H Y) (et:Y t=ak (.tup [nat x,nat y])) (hi:i < 1000) (pv:γ (O++[(t,x,y)])):Y D=ak (.lst (refs O))/\(refs O).length < lx/\Cp γ H1 D (i + 1) (refs O++[.ref t]) (upd Y D (.lst (refs O++[.ref t]))):=by
 refine⟨Z.get β,by rw[dc,α];exact dh @A,O++[(t,x,y)],by unfold refs;rw[hH];rfl,by rw[hC,α];rfl,pv,λq δ=>?_,λb ob e=>?_,aP⟩
 ·have θ:Y q.1=ak (.tup [nat q.2.1,nat q.2.2]):=by
   rcases oT.mp δ with h | h
   ·exact Z.get (pt q h)
   ·rw[hL.mp h];exact et
  have n:q.1≠D:=λz=>by rw[z,Z.get β] at θ;cases θ
  rw[aJ n];exact θ
 ·rw[aJ (ay e ε)];exact Z.get (s.get e)
theorem uf {O:gs Pr3->Prop} {H1:Hp} {D:gn} (Y:H1 D=hB) (h:O []):Cp O H1 D 0 [] (upd H1 D (.lst [])):=⟨[],rfl,rfl,h,λ_ h=>(by cases h),c8 Y,aP⟩
structure Lrl (H:Hp) (Dr Dl:gn) (ds es:K0) (m:Nat) (nx os:gs Pr3):Prop where
 r:H Dr=ak (.lst (ds.map V.ref))
 l:H Dl=ak (.lst (es.map V.ref))
 dl:ds.length=(M.ldp @F (prs os) m).length
 el:es.length=(M.lkp @F (prs os) m).length
 da:∀(j:Nat) (d k:Nat),ds[j]? =ak d->(M.ldp @F (prs os) m)[j]? =ak k->H d=ak (.lst ((M.upk m (2 ^ k) nx.length).map nat))
 ea:∀(j:Nat) (e k:Nat),es[j]? =ak e->(M.lkp @F (prs os) m)[j]? =ak k->H e=ak (.tup [nat (k / os.length),nat (k % os.length)])
noncomputable def less (H:Hp) (R:gn->Prop):Hp:=λb=>@ite _ (R b) (M4 _) hB (H b)
structure TwoA (H:Hp) (C p1 p2:gn) (m:Nat) (nx1 os1 nx2 os2:gs Pr3):Prop where
 a1:MaA H C p1 m nx1 os1
 g1:MaG m nx1 os1
 a2:MaA H C p2 m nx2 os2
 g2:MaG m nx2 os2
 lo:os1.length=os2.length
 l:nx1.length + nx2.length<=60
structure Fun2 (p1 o1 p2 o2:A') (m w t:Nat):Prop where
 hw:w < m
 ht:t<=p1.length + p2.length
 al:M.Al p1 o1 p2 o2 m t
 al':∀w',w' < w->M.sgl p1 o1 w' t=M.sgl p2 o2 w' t
 un:M.sgl p1 o1 w t≠M.sgl p2 o2 w t
noncomputable def sfq (rows:D') (x:Nat):Nat:=@dite _ (∃q,Sumd rows x q) (M4 _) (λh=>h.choose) λ_=>0
structure AlkA (H:Hp) (t Ds Db Du:gn) (ts bs us:K0) (m:Nat) (p1 p2:A'):Prop where
 t:H t=ak (.tup [.str "alike",.ref Ds,.ref Db,.ref Du])
 s:H Ds=ak (.lst (ts.map V.ref))
 ls:ts.length=(M.prs2 p1 p2 m).length
 sa:∀(j:Nat) a,ts[j]? =ak a->H a=ak (.tup [nat (M.lo p1.length ((M.prs2 p1 p2 m).getD j 0)),nat ((M.prs2 p1 p2 m).getD j 0>>>p1.length)])
 b:H Db=ak (.lst (bs.map V.ref))
 lb:bs.length=m
 ba:∀(j:Nat) a,bs[j]? =ak a->H a=ak (.lst ((M.pl 1000 (sfq (M.prs2 p1 p2 m) (M.tr2 (M.jn p1 p2) 0 (2 ^ j)))).map nat))
 u:H Du=ak (.lst (us.map V.ref))
 lu:us.length=(M.prs2 p1 p2 m).length
 ua:∀(j:Nat) a,us[j]? =ak a->H a=ak (.lst ((M.pl 1000 (sfq (M.prs2 p1 p2 m) (M.tr2 (M.jn p1 p2) ((M.prs2 p1 p2 m).getD j 0) 0))).map nat))
def yl:Sp:=λvs H Q _=>∃(r:gn) (rows:D') (O:Nat),vs=[.ref r,nat O]/\H r=ak (.lst (rows.map nat))/\rows.length<=1000/\O<=1000/\(∀r∈rows,r < 2 ^ O)/\(M.fr rows).length < 64/\
 ∀D H2,H D=hB->Same H H2->H2 D=ak (.lst ((M.acr rows O).map nat))->Acr rows O (M.acr rows O)->Q (.ref D) H2
structure Tldm (H:Hp) (D:gn) (ps:gs (gn×Nat)) (m T:Nat):Prop where
 d:H D=ak (.lst (ps.map λq=>V.ref q.1))
 at':∀q∈ps,H q.1=ak (.lst ((M.upk m q.2 T).map nat))
 ne:∀q∈ps,q.1≠D
def zV:Sp:=λvs H Q _=>∃(t:gn) (x y n:Nat),vs=[.ref t,nat n]/\H t=ak (.tup [nat x,nat y])/\n<=120/\y < 2 ^ 64/\Q (nat (M.jd n (x,y))) H
noncomputable def swy (ps os:A') (m:Nat) (bars:D'):D':=(M.fr ((M.acr (M.rowsJ ps os bars) (ps.length + m)).map (· % 2 ^ ps.length))).map λi=>(M.acr (M.rowsJ ps os bars) (ps.length + m)).getD i 0
theorem GS {ps os:A'} {m:Nat} {bars:D'} (hn:ps.length + m<=1000) (ξ:∀q∈ps++os,q.1 < 2 ^ ps.length) (hb:∀b∈bars,b < 2 ^ ps.length) (O:Acr (M.rowsJ ps os bars) (ps.length + m) (M.acr (M.rowsJ ps os bars) (ps.length + m))):M.SWays ps os m bars (swy ps os m bars):=
 M.sways hn ξ hb O.lt O.ev O.all
def ye (C:gn):Sp:=λvs H Q _=>∃(p D:gn) (m:Nat) (nx os:gs Pr3) (bars:D'),vs=[.ref p,.ref D]/\MaA H C p m nx os/\MaG m nx os/\nx.length<=16/\H D=ak (.lst (bars.map nat))/\bars.length<=100/\(∀b∈bars,b < 2 ^ nx.length)/\
 ∀(α:gn) (H2:Hp),H α=hB->Same H H2->H2 α=ak (.lst ((swy @F (prs os) m bars).map nat))->M.SWays @F (prs os) m bars (swy @F (prs os) m bars)->Q (.ref α) H2
noncomputable def evj (ps os:A') (m:Nat):Nat->D'×gs Nat
 | 0=>([],swy ps os m [])
 | j + 1=>(M.acr ((evj ps os m j).2.map (· % 2 ^ ps.length)) ps.length,swy ps os m (M.acr ((evj ps os m j).2.map (· % 2 ^ ps.length)) ps.length))
structure Fev (ps os:A') (m:Nat) (bars ways:D'):Prop where
 ex:∃j,M.Slp ps os m j bars ways/\ps.length<=ways.length + bars.length
 un:∃j,(bars,ways)=evj ps os m j/\ps.length<=ways.length + bars.length/\∀i,i < j->(evj ps os m i).2.length + (evj ps os m i).1.length < ps.length
theorem Fev.one {ps os:A'} {m:Nat} {bars Y O Z:D'} (f:Fev ps os m bars Y) (δ:Fev ps os m O Z):bars=O/\Y=Z:=by
 obtain⟨j,e,h,l⟩:=f.un;obtain⟨α,β,h',γ⟩:=δ.un;have h1:¬j < α:=λz=>by have:=γ j z;rw[<-e] at this;dsimp only at this;omega
 have h2:¬α < j:=λz=>by have:=l α z;rw[<-β] at this;dsimp only at this;omega
 have:j=α:=by omega
 subst this;rw[<-β] at e;exact⟨zt QI e,zt Prod.snd e⟩
def zW (C:gn):Sp:=λvs H Q _=>∃(p:gn) (m:Nat) (nx os:gs Pr3),vs=[.ref p]/\MaA H C p m nx os/\MaG m nx os/\nx.length<=16/\
 ∀(t ο α:gn) (H2:Hp) (bars O:D'),Same H H2->H2 t=ak (.tup [.ref ο,.ref α])->H2 ο=ak (.lst (bars.map nat))->H2 α=ak (.lst (O.map nat))->Fev @F (prs os) m bars O->Q (.ref t) H2
theorem Fev.goes {ps os:A'} {m:Nat} {bars O:D'} (f:Fev ps os m bars O) {w:Nat} (hw:w∈O):M.Span (O.map (· % 2 ^ ps.length)) (M.tr2 ps (w % 2 ^ ps.length) (w>>>ps.length)):=by
 obtain⟨j,S,h⟩:=f.ex;exact S.done h ((S.b _ (M.tr2_lt _ _ _)).mp (S.w.ev w hw).2)
theorem Fev.first {ps os:A'} {m:Nat} {bars O:D'} (f:Fev ps os m bars O) {u:Nat} (hu:∀b∈bars,M.od (b&&&M.tr2 ps 0 u)=false):M.Span (O.map (· % 2 ^ ps.length)) (M.tr2 ps 0 u):=by
 obtain⟨j,S,h⟩:=f.ex;exact S.done h ((S.b _ (M.tr2_lt _ _ _)).mp hu)
theorem Fev.tells {ps os:A'} {m:Nat} {bars O:D'} (f:Fev ps os m bars O) (h0:∀u,u < 2 ^ m->M.tr2 os 0 u=0->(∀b∈bars,M.od (b&&&M.tr2 ps 0 u)=false)->u=0) {rs:D'} (hl:ps.length < rs.length) (Y:∀r∈rs,r < 2 ^ m) (h:M.wan ps os 0 rs=gB rs.length 0):rs.getD 0 0=0:=by
 obtain⟨j,S,_⟩:=f.ex;exact M.not_silent S.le S.b h0 hl Y h
noncomputable def fsts (ps os:A') (m:Nat) (bars:D'):D':=M.acr (os.map (·.2)++bars.map (M.sm (ps.map (·.2)))) m
structure Nev (H H2:Hp) (t B S I L:gn) (ps os:A') (m u:Nat) (bars ways:D') (bq:Nat) (ls:gs (gn×Nat)):Prop where
 ht:H2 t=ak (.tup [.str "never",nat u,.ref B,.ref S,.ref I,.ref L])
 hb:H2 B=ak (.lst ((M.pl 1000 bq).map nat))
 hs:H2 S=ak (.lst ((ways.map (· % 2 ^ ps.length)).map nat))
 hi:H2 I=ak (.lst ((ways.map (·>>>ps.length)).map nat))
 hl:H2 L=ak (.lst (ls.map λq=>V.ref q.1))
 el:∀q∈ls,H2 q.1=ak (.lst ((M.pl 1000 q.2).map nat))
 fB:H B=hB
 fS:H S=hB
 fI:H I=hB
 fL:H L=hB
 ne:[B,S,I,L].Nodup
 nl:∀q∈ls,q.1∉[B,S,I,L]
 fev:Fev ps os m bars ways
 hu:(fsts ps os m bars)[0]? =ak u
 u0:u≠0
 ul:u < 2 ^ m
 ev:M.tr2 os 0 u=0/\∀b∈bars,M.od (b&&&M.tr2 ps 0 u)=false
 bs:Sumd (ways.map (· % 2 ^ ps.length)) (M.tr2 ps 0 u) bq
 ll:ls.length=ways.length
 ss:∀(k w:Nat) (q:gn×Nat),ways[k]? =ak w->ls[k]? =ak q->Sumd (ways.map (· % 2 ^ ps.length)) (M.tr2 ps (w % 2 ^ ps.length) (w>>>ps.length)) q.2
def yi (C:gn):Sp:=λvs H Q _=>∃(p:gn) (m:Nat) (nx os:gs Pr3),vs=[.ref p]/\MaA H C p m nx os/\MaG m nx os/\nx.length<=16/\
 (∀(H2:Hp) (bars O:D'),Same H H2->Fev @F (prs os) m bars O->(∀u,u < 2 ^ m->M.tr2 (prs os) 0 u=0->(∀b∈bars,M.od (b&&&M.tr2 @F 0 u)=false)->u=0)->Q .non H2)/\
 (∀(H2:Hp) (t B S I L:gn) (u:Nat) (bars O:D') (π:Nat) (ls:gs (gn×Nat)),Same H H2->Nev H H2 t B S I L @F (prs os) m u bars O π ls->Q (.ref t) H2)
end Sx
namespace M
theorem wb (w:Nat) (b:D'):∀a:D',pkw w (a++b)=pkw w a^^^(pkw w b <<< (a.length * w))
 | []=>by show pkw w b=0^^^(pkw w b <<< (0 * w));simp
 | q::a=>by
   show q^^^(pkw w (a++b) <<< w)=q^^^(pkw w a <<< w)^^^(pkw w b <<< ((a.length + 1) * w));rw[wb w b a,vU,KP,<-Ru,Mm,MU]
theorem wa (w:Nat):∀t,pkw w (gB t 0)=0
 | 0=>rfl
 | t + 1=>by show 0^^^(pkw w (gB t 0) <<< w)=0;rw[wa w t];simp
theorem xi (w:Nat) (l:D') (t:Nat):pkw w (gB t 0++l)=pkw w l <<< (t * w):=by
 rw[wb,wa,Oa,wh]
theorem CN {w:Nat} {l:D'} (hb:∀p∈l,p < 2 ^ w) {k:Nat} (hk:k<=l.length):pkw w (l.take k)=pkw w l % 2 ^ (k * w):=by
 have h:=wb w (l.drop k) (l.take k);rw[QF,Kt,ML hk] at h
 have hl:pkw w (l.take k) < 2 ^ (k * w):=by
  have:=pkw_lt (w:=w) (ps:=l.take k) λp O=>hb p (OD O);rwa [Kt,ML hk] at this
 rw[h];exact(Ey hl).symm
theorem yw (i n:Nat):pulse i (n + 1)=2 ^ i::gB n 0:=by
 rw[<-pulse_eq,List.take_succ_cons,List.take_replicate,ML @A]
theorem Au (w i:Nat) {T:Nat} (hT:0 < T):pkw w (pulse i T)=2 ^ i:=by
 obtain⟨n,rfl⟩:∃n,T=n + 1:=⟨T - 1,@A⟩;rw[yw];show 2 ^ i^^^(pkw w (gB n 0) <<< w)=2 ^ i;rw[wa];simp
theorem E5 {m t i T:Nat} (hi:i < m) (ht:t < T):upk m (2 ^ (t * m + i)) T=gB t 0++pulse i (T - t):=by
 have h:pkw m (gB t 0++pulse i (T - t))=2 ^ (t * m + i):=by
  rw[xi,Au m i @A,Lr,<-Nf,Ni]
 rw[<-h];refine oU (by rw[hC,wh,pulse_len];omega) λr O=>?_;rcases oT.mp O with h | h
 ·rw[L6 h];exact lh _
 ·exact pulse_lt hi _ r h
section
variable {ps os:A'} {m T:Nat}
theorem GK {t i:Nat} (hi:i < m) (ht:t < T):(tol ps os m T).getD (t * m + i) 0=(pkw os.length (wan ps os 0 (pulse i T)) <<< (t * os.length)) % 2 ^ (T * os.length):=by
 have hk:t * m + i < T * m:=by
  have:=LF m (show t + 1<=T from ht);rw[Mm,MU] at this;omega
 unfold tol;rw[eh,lz,MQ hk];show pkw os.length (wan ps os 0 (upk m (2 ^ (t * m + i)) T))=_;rw[E5 hi ht,sM,xi,<-yu (n:=T) (k:=T - t) @A,sL,CN (λp O=>wan_lt ps os _ 0 p O) (by rw[wan_len,pulse_len];omega)];rw[Lr,Lr,<-Nat.mul_mod_mul_right,<-Nf];congr 2;rw[<-Mm];congr 1;omega
theorem Cc {l:D'} {a b:Nat} (h:a + b<=l.length):l.take (a + b)=l.take a++(lA b).map λi=>l.getD (a + i) 0:=by
 rw[List.take_add];congr 1;refine O2 (by rw[Kt,MM,dt,wq];omega) λi h1 h2=>?_;rw[dt,wq] at h2;rw[Nl,Rj,N4,R3,eh,fy @A];rfl
theorem tol_next {t:Nat} (ht:t < T):(tol ps os m T).take ((t + 1) * m)=(tol ps os m T).take (t * m)++(lA m).map λi=>(pkw os.length (wan ps os 0 (pulse i T)) <<< (t * os.length)) % 2 ^ (T * os.length):=by
 have hk:t * m + m<=T * m:=by
  have:=LF m (show t + 1<=T from ht);rw[Mm,MU] at this;exact this
 rw[Mm,MU,Cc (by rw[tol_len];exact hk)];congr 1;refine LY λi hi=>?_;exact GK (Kw.mp hi) ht
end
end M
namespace Sx
open PySem L2
def yg (C:gn):Sp:=λvs H Q _=>∃(p:gn) (m:Nat) (nx os:gs Pr3) (T:Nat),vs=[.ref p,nat T]/\MaA H C p m nx os/\MaG m nx os/\T<=17/\
 ∀(D:gn) (H2:Hp),H D=hB->Same H H2->H2 D=ak (.lst ((M.tol @F (prs os) m T).map nat))->Q (.ref D) H2
end Sx
namespace M
theorem frs_set {rows:D'} {i q:Nat} (h:Frs (rows.set i 0) q):q.testBit i=false:=by
 cases O:q.testBit i with
 | false=>rfl
 | true=>
   obtain⟨hi,hn⟩:=h i O;rw[N3] at hi;exfalso;apply hn;rw[eh,Oh hi];exact jQ _
theorem tol_lt {ps os:A'} {m T:Nat}:∀x∈tol ps os m T,x < 2 ^ (T * os.length):=λx O=>by
 unfold tol at O;obtain⟨k,_,rfl⟩:=oi.mp O;have:=pkw_lt (w:=os.length) (ps:=wan ps os 0 (upk m (2 ^ k) T)) λy Y=>wan_lt ps os _ 0 y Y;rwa [wan_len,upk_len] at this
theorem getD_lt' {l:D'} {W:Nat} (h:∀x∈l,x < 2 ^ W) (i:Nat):l.getD i 0 < 2 ^ W:=by
 rw[eh];cases e:l[i]? with
 | none=>exact lh _
 | some x=>exact h x (hQ e)
theorem set_lt {l:D'} {W i:Nat} (h:∀x∈l,x < 2 ^ W):∀x∈l.set i 0,x < 2 ^ W:=λx O=>by
 rcases List.mem_or_eq_of_mem_set O with e | e
 ·exact h x e
 ·rw[e];exact lh _
end M
namespace Sx
open PySem L2
def Osm (ps os:A') (m d i:Nat):Prop:=M.Span ((M.tol ps os m (d + 1)).set i 0) ((M.tol ps os m (d + 1)).getD i 0)
def Slt (ps os:A') (m d:Nat) (rs:D'):Prop:=∃i q,i < m/\(∀k,k < i->¬Osm ps os m d k)/\Sumd ((M.tol ps os m (d + 1)).set i 0) ((M.tol ps os m (d + 1)).getD i 0) q/\rs=M.upk m (q^^^2 ^ i) (d + 1)
theorem Slt.one {ps os:A'} {m d:Nat} {rs ρ:D'} (h:Slt ps os m d rs) (h':Slt ps os m d ρ):rs=ρ:=by
 obtain⟨i,q,hi,hb,sd,rfl⟩:=h;obtain⟨θ,α,Z,Y,O,rfl⟩:=h';have o:Osm ps os m d i:=by unfold Osm;rw[<-sd.sm];exact M.sm_span _ _
 have o':Osm ps os m d θ:=by unfold Osm;rw[<-O.sm];exact M.sm_span _ _
 have h1:¬i < θ:=λz=>Y i z o;have h2:¬θ < i:=λz=>hb θ z o';have:i=θ:=by omega
 subst this;rw[sd.uniq O]
theorem Slt.osm {ps os:A'} {m d:Nat} {rs:D'} (h:Slt ps os m d rs):∃i,i < m/\Osm ps os m d i:=by
 obtain⟨i,q,hi,hb,sd,rfl⟩:=h;exact⟨i,hi,by unfold Osm;rw[<-sd.sm];exact M.sm_span _ _⟩
theorem Slt.rows {ps os:A'} {m d:Nat} {rs:D'} (h:Slt ps os m d rs):rs.length=d + 1/\(∀r∈rs,r < 2 ^ m)/\M.wan ps os 0 rs=gB (d + 1) 0/\rs.getD 0 0≠0:=by
 obtain⟨i,q,hi,hb,sd,rfl⟩:=h;have lt:=sd.lt;rw[N3,M.tol_len] at lt;have s:=M.silent_of (ps:=ps) (os:=os) (m:=m) (T:=d + 1) @A hi lt (M.frs_set sd.fr) sd.sm;refine⟨M.upk_len _ _ _,M.upk_lt _ _ _,s.1,λz=>?_⟩;have:=s.2;rw[z,M6] at this;cases this
theorem Io {ps os:A'} {m d:Nat} {μs:D'} (hl:μs.length=m) (h:∀(i μ:Nat),μs[i]? =ak μ->Bard ((M.tol ps os m (d + 1)).set i 0) ((M.tol ps os m (d + 1)).getD i 0) μ):M.Mks ps os m d μs:=
 ⟨hl,λi μ e=>(h i μ e).lt _ (M.set_lt M.tol_lt) (M.getD_lt' M.tol_lt i),λi μ e=>(h i μ e).ev,λi μ e=>(h i μ e).odd⟩
def zN (C:gn):Sp:=λvs H Q _=>∃(p:gn) (m:Nat) (nx os:gs Pr3) (d:Nat),vs=[.ref p,nat d]/\MaA H C p m nx os/\MaG m nx os/\d<=16/\(d + 1) * os.length < 64/\
 (∀(t D:gn) (H2:Hp) (rs:D'),H D=hB->Same H H2->H2 t=ak (.tup [.str "silent",.ref D])->H2 D=ak (.lst (rs.map nat))->Slt @F (prs os) m d rs->Q (.ref t) H2)/\
 (∀(t D:gn) (H2:Hp) (μs:D'),H D=hB->Same H H2->H2 t=ak (.tup [.str "masks",.ref D])->H2 D=ak (.lst (μs.map nat))->M.Mks @F (prs os) m d μs->(∀i,i < m->¬Osm @F (prs os) m d i)->Q (.ref t) H2)
def zL (C:gn):Sp:=λvs H Q _=>∃(p:gn) (m:Nat) (nx os:gs Pr3) (d μ:Nat),vs=[.ref p,nat d,nat μ]/\MaA H C p m nx os/\MaG m nx os/\nx.length<=16/\d<=16/\(d + 1) * os.length < 64/\μ < 2 ^ ((d + 1) * os.length)/\
 ∀(t:gn) (H2:Hp),Same H H2->H2 t=ak (.tup [nat (M.tel @F (prs os) d μ).1,nat (M.tel @F (prs os) d μ).2])->Q (.ref t) H2
end Sx
namespace M
section
variable {ps os:A'} {d m:Nat}
theorem GL (ξ:∀q∈ps++os,q.1 < 2 ^ ps.length) {μ:Nat} (ο:μ < 2 ^ ((d + 1) * os.length)):(tel ps os d μ).1 < 2 ^ (ps.length + d * os.length)/\(tel ps os d μ).2 < 2 ^ os.length:=by
 constructor
 ·refine xor_lt_pow (f' (zk ξ μ (d + 1)) (gA @C @A)) ?_;rw[Lr,Ni ps.length,Nf];exact PZ (Nu _ (lh _)) (lh _)
 ·show μ>>>(d * os.length) < _;rw[z3,Oy (lh _),<-Nf];rw[Mm,MU] at ο;rwa [Ni os.length]
theorem telO_lt (ξ:∀q∈ps++os,q.1 < 2 ^ ps.length) {μs:D'} (ο:∀μ∈μs,μ < 2 ^ ((d + 1) * os.length)):∀q∈telO ps os d μs,q.1 < 2 ^ (ps.length + d * os.length)/\q.2 < 2 ^ os.length:=λq O=>by
 obtain⟨μ,h,rfl⟩:=oi.mp O;exact GL ξ (ο μ h)
theorem telP_lt (ξ:∀q∈ps++os,q.1 < 2 ^ ps.length) {μs:D'} (ο:∀μ∈μs,μ < 2 ^ ((d + 1) * os.length)):∀q∈telP ps os d μs,q.1 < 2 ^ (ps.length + d * os.length)/\q.2 < 2 ^ os.length:=λq O=>by
 have hO:=telO_lt ξ ο;rcases oT.mp O with h | h
 ·obtain⟨r,Z,rfl⟩:=oi.mp h;refine⟨xor_lt_pow (f' (ξ r (qB _ Z)) (gA @C @A)) (sm_lt _ λx Y=>?_),sm_lt _ λx Y=>?_⟩
  ·obtain⟨q,O,rfl⟩:=oi.mp Y;exact(hO q O).1
  ·obtain⟨q,O,rfl⟩:=oi.mp Y;exact(hO q O).2
 ·rcases oT.mp h with h | h
  ·obtain⟨j,α,rfl⟩:=oi.mp h;have:=Kw.mp α;exact⟨Kf @C @A,lh _⟩
  ·by_cases hd:0 < d
   ·rw[qb hd] at h;obtain⟨k,hk,rfl⟩:=oi.mp h;exact⟨lh _,Kf @C (Kw.mp hk)⟩
   ·rw[ov hd] at h;cases h
end
end M
namespace Sx
open PySem L2
def Cu:Sp:=λvs H Q _=>∃(t D:gn) (x y:Nat) (ts:gs Pr3),vs=[.ref t,.ref D]/\H t=ak (.tup [nat x,nat y])/\H D=ak (.lst (refs ts))/\Prt H ts/\ts.length<=6/\y < 2 ^ ts.length/\
 ∀(O:gn) (H2:Hp),Same H H2->H2 O=ak (.tup [nat (M.fol (prs ts) (x,y)).1,nat (M.fol (prs ts) (x,y)).2])->Q (.ref O) H2
def zU (C:gn):Sp:=λvs H Q _=>∃(p:gn) (m:Nat) (nx os:gs Pr3) (d:Nat),vs=[.ref p,nat d]/\MaA H C p m nx os/\MaG m nx os/\nx.length<=16/\d<=16/\(d + 1) * os.length < 64/\
 ∀(D:gn) (H2:Hp) (ks:gs Pr3),H D=hB->Same H H2->H2 D=ak (.lst (refs ks))->Prt H2 ks->prs ks=M.kpt @F (prs os) d->Q (.ref D) H2
def zM (C:gn):Sp:=λvs H Q _=>∃(p D:gn) (m:Nat) (nx os:gs Pr3) (d:Nat) (μs:D'),vs=[.ref p,nat d,.ref D]/\MaA H C p m nx os/\MaG m nx os/\nx.length<=16/\d<=16/\(d + 1) * os.length < 64/\H D=ak (.lst (μs.map nat))/\M.Mks @F (prs os) m d μs/\
 ∀(x:gn) (H2:Hp) (O χ:gs Pr3),Same H H2->MaA H2 C x os.length O χ->MaG os.length O χ->prs O=M.telP @F (prs os) d μs->prs χ=M.telO @F (prs os) d μs->Q (.ref x) H2
structure Bck (ps os:A') (m d:Nat) (μs rs:D'):Prop where
 mks:M.Mks ps os m d μs
 le:d<=ps.length
 no:∀i,i < m->¬Osm ps os m d i
 yes:∀k,k < d->∃i,i < m/\Osm ps os m k i
 rows:(d=0/\rs=[])∨∃k,d=k + 1/\Slt ps os m k rs
theorem Bck.one {ps os:A'} {m d d':Nat} {μs rs O ρ:D'} (b:Bck ps os m d μs rs) (Y:Bck ps os m d' O ρ):d=d'/\rs=ρ:=by
 have h1:¬d < d':=λz=>by obtain⟨i,hi,o⟩:=Y.yes d z;exact b.no i hi o
 have h2:¬d' < d:=λz=>by obtain⟨i,hi,o⟩:=b.yes d' z;exact Y.no i hi o
 have:d=d':=by omega
 subst this;refine⟨rfl,?_⟩;rcases b.rows with ⟨e,r⟩ | ⟨k,e,s⟩
 ·rcases Y.rows with ⟨_,r'⟩ | ⟨Z,α,_⟩
  ·rw[r,r']
  ·omega
 ·rcases Y.rows with ⟨α,_⟩ | ⟨Z,α,s'⟩
  ·omega
  ·have:k=Z:=by omega
   subst this;exact s.one s'
def yd (C:gn):Sp:=λvs H Q _=>∃(p:gn) (m:Nat) (nx os:gs Pr3),vs=[.ref p]/\MaA H C p m nx os/\MaG m nx os/\nx.length<=16/\(nx.length + 1) * os.length < 64/\
 (∀(H2:Hp) (t B S I L:gn) (u:Nat) (bars Y:D') (π:Nat) (ls:gs (gn×Nat)),Same H H2->Nev H H2 t B S I L @F (prs os) m u bars Y π ls->Q (.ref t) H2)/\
 (∀(t x D:gn) (H2:Hp) (d:Nat) (O χ:gs Pr3) (μs rs:D'),H D=hB->Same H H2->H2 t=ak (.tup [.str "back",nat d,.ref x,.ref D])->H2 D=ak (.lst (rs.map nat))->MaA H2 C x os.length O χ->MaG os.length O χ->prs O=M.telP @F (prs os) d μs->prs χ=M.telO @F (prs os) d μs->Bck @F (prs os) m d μs rs->Q (.ref t) H2)
def TbI (H:Hp) (p:gn) (nx os:gs Pr3) (m d:Nat) (σ:St) (H':Hp):Prop:=∃(O t D:gn) (rs:D'),σ=[ak (.ref p),ak .non,ak (.ref O),ak (nat d),ak (.ref t)]/\d<=nx.length/\Same H H'/\H O=hB/\H' O=ak (.lst (rs.map nat))/\((d=0/\rs=[])∨∃k,d=k + 1/\Slt @F (prs os) m k rs)/\(∀k,k < d->∃i,i < m/\Osm @F (prs os) m k i)/\H D=hB/\
 ((∃ρ,H' t=ak (.tup [.str "silent",.ref D])/\H' D=ak (.lst (ρ.map nat))/\Slt @F (prs os) m d ρ/\d < nx.length)∨(∃μs,H' t=ak (.tup [.str "masks",.ref D])/\H' D=ak (.lst (μs.map nat))/\M.Mks @F (prs os) m d μs/\∀i,i < m->¬Osm @F (prs os) m d i))
theorem Ek {ps os:A'} {m d:Nat} {rs bars O:D'} (s:Slt ps os m d rs) (fv:Fev ps os m bars O) (h0:∀u,u < 2 ^ m->M.tr2 os 0 u=0->(∀b∈bars,M.od (b&&&M.tr2 ps 0 u)=false)->u=0):d < ps.length:=by
 obtain⟨hl,hb,hw,hn⟩:=s.rows;by_cases h:d < ps.length
 ·exact h
 ·exact kv (fv.tells h0 @A hb (by rw[hl];exact hw)) hn
theorem EI (a b:KS):M.bn a^^^M.bn b=M.bn (a^^b):=by cases a<;>cases b<;>rfl
theorem B9 {ps:gs Pr3} {i:Nat} {q:Pr3} (x y:Nat) (h:ps[i]? =ak q):M.tr2 (prs (ps.take i)) x y||| (M.bn (M.od (q.2.1&&&x))^^^M.bn (M.od (q.2.2&&&y))) <<< i=M.tr2 (prs (ps.take (i + 1))) x y:=by
 rw[zC x y h,EI]
 have hl:M.tr2 (prs (ps.take i)) x y < 2 ^ i:=by
  have:=M.tr2_lt (prs (ps.take i)) x y;rw[aq,Kt,ML (L9 (eH.mp h).1)] at this;exact this
 cases(M.od (q.2.1&&&x)^^M.od (q.2.2&&&y)) with
 | false=>simp[M.bn]
 | true=>
   have O:=NJ hl 1;rw[Nat.mul_one] at O;show _||| 1 <<< i=_ + 2 ^ i;rw[Nat.one_shiftLeft,QT,<-O,Ni]
def yk (K:aS):Sp:=λvs H Q _=>∃(p:gn) (ns:K3) (st mo:Nat),vs=[.ref p,nat st,nat mo]/\SqL K H p (ns.map V.int)/\st<=900/\mo<=5/\
 ∀(t n o:gn) (H2:Hp) (m:Nat) (nx os:gs Pr3),Same H H2->H n=hB->H o=hB->TabT H2 t n o m nx os->nx.length<=16->(nx.length + 1) * os.length < 64->Q (.ref t) H2
def vQ (K:aS) (C:gn):Sp:=λvs H Q _=>∃(t n o:gn) (m:Nat) (nx os:gs Pr3) (f x D:gn) (d:Nat) (O χ:gs Pr3) (μs rs:D') (c:gn) (Y:K3),vs=[.ref t,.ref f,.ref c]/\TabT H t n o m nx os/\H f=ak (.tup [.str "back",nat d,.ref x,.ref D])/\H D=ak (.lst (rs.map nat))/\MaA H C x os.length O χ/\MaG os.length O χ/\prs O=M.telP @F (prs os) d μs/\prs χ=M.telO @F (prs os) d μs/\Bck @F (prs os) m d μs rs/\nx.length<=16/\(nx.length + 1) * os.length < 64/\H c=ak (.lst (Y.map V.int))/\Y.length<=63/\∀H2,Same H H2->Q (.bl true) H2
def zR (K:aS):Sp:=λvs H Q _=>∃(t n o r:gn) (m:V) (nx os:gs Pr3) (rs:D'),vs=[.ref t,.ref r]/\H t=ak (.tup [m,.ref n,.ref o])/\SqL K H n (refs nx)/\SqL K H o (refs os)/\Prt H nx/\Prt H os/\nx.length<=120/\os.length<=120/\H r=ak (.lst (rs.map nat))/\rs.length<=63/\(∀x∈rs,x < 2 ^ 64)/\
 ∀(D:gn) (H2:Hp),H D=hB->Same H H2->H2 D=ak (.lst ((M.wan @F (prs os) 0 rs).map nat))->Q (.ref D) H2
def vP:Sp:=λvs H Q _=>∃x b:Nat,vs=[nat x,.int b]/\Q (.bl (decide (x<=b))) H
def yj:Sp:=λvs H Q _=>∃(S p:gn) (ss ps:D'),vs=[.ref S,.ref p]/\H S=ak (.lst (ss.map nat))/\H p=ak (.lst (ps.map nat))/\(∀k∈ps,k < ss.length)/\Q (nat (M.xs ss ps)) H
def uF:Sp:=λvs H Q _=>∃(p:gn) (ps:D') (n:Nat),vs=[.ref p,nat n]/\H p=ak (.lst (ps.map nat))/\ps.Pairwise (· < ·)/\(∀k∈ps,k < n)/\n<=32/\∀H2,Same H H2->Q (.bl true) H2
theorem Bck.rws {ps os:A'} {m d:Nat} {μs rs:D'} (b:Bck ps os m d μs rs):rs.length=d/\(∀r∈rs,r < 2 ^ m)/\M.wan ps os 0 rs=gB d 0/\rs.take 1≠[0]:=by
 rcases b.rows with ⟨rfl,rfl⟩ | ⟨k,rfl,s⟩
 ·exact⟨rfl,λr h=>kv h @D,rfl,@D⟩
 ·obtain⟨a1,a2,Y,O⟩:=s.rows;refine⟨a1,a2,Y,λh=>O ?_⟩;cases rs with
  | nil=>simp at h
  | cons x rs=>simp at h;simpa using h
theorem x9 {ps os:A'} {d:Nat} {μs:D'}:(M.telO ps os d μs).length=μs.length:=by unfold M.telO;rw[dt]
theorem x8 {ps os:A'} {d:Nat} {μs:D'}:(M.telP ps os d μs).length<=ps.length + (d + 1) * os.length:=by
 unfold M.telP M.kpt;rw[hC,dt,hC,dt,wq];have:(d + 1) * os.length=d * os.length + os.length:=OK ..
 split
 ·rw[dt,wq];omega
 ·simp only[RJ];omega
theorem wH {l O:D'} (h:eqVs (l.map nat) (O.map nat)=true):l=O:=by
 unfold eqVs at h;rw[KL,Mu,dt,dt,ND] at h;refine O2 h.1 λi h1 h2=>?_;have:=h.2 i (Kw.mpr h1);rw[eh,eh,lz,lz,fy h1,fy h2] at this;have hi:((l[i]:Nat):Int)=O[i]:=by simpa[eqV] using this
 exact Ot hi
theorem Fv {K:aS} {H:Hp} {Q:VK} {p q:gn} {ns ms:D'} (e:SqL K H p (ns.map nat)) (O:SqL K H q (ms.map nat)) (n:ns≠ms) (h:Q (.bl false) H):rEqL K false (.ref p) (.ref q) H Q:=by
 refine⟨p,q,_,_,rfl,rfl,e,O,j4 ns,j4 ms,?_⟩;rw[Rl.mpr λh=>n (wH h)];exact h
theorem Gr (rs:D'):cutV (rs.map nat) hB (ak 1)=(rs.take 1).map nat:=by
 cases rs with
 | nil=>rfl
 | cons x rs=>rw[show(1:Int)=((1:Nat):Int) from rfl,oM _ _ @D,Nh]
noncomputable def low (c:Nat):Bool:=decide (97<=c)&&decide (c<=122)
noncomputable def fig (c:Nat):Bool:=decide (48<=c)&&decide (c<=57)
noncomputable def nm (l:D'):Bool:=match l with
 | []=>false
 | c::r=>decide ((c::r).length<=6)&&low c&&(c::r).all λc=>low c||fig c
def Nm (z:Kz):Prop:=nm z.cps.toList=true
structure Nt where
 ins:C'
 sums:gs (Kz×gs Kz)
 sts:gs (Kz×Kz)
 outs:C'
noncomputable def Nt.names (N:Nt):C':=N.ins++N.sums.map (·.1)++N.sts.map (·.1)
structure Gn (N:Nt):Prop where
 li:N.ins.length<=6
 ls:N.sums.length<=40
 lt:N.sts.length<=16
 lo:N.outs.length<=6
 lw:∀r∈N.sums,r.2.length<=24
 nm:∀z∈N.names,Nm z
 nd:N.names.Nodup
 ws:∀r∈N.sums,∀z∈r.2,z∈N.names
 ts:∀r∈N.sts,r.2∈N.names
 os:∀z∈N.outs,z∈N.names
 rk:∃rank:Kz->Nat,∀r∈N.sums,∀z∈r.2,z∈N.sums.map (·.1)->rank z < rank r.1
structure Topo (sums:gs (Kz×gs Kz)) (od:C'):Prop where
 perm:od.Perm (sums.map (·.1))
 need:∀(i:Nat) z,od[i]? =ak z->∀ws,(z,ws)∈sums->∀y∈ws,y∈sums.map (·.1)->y∈od.take i
noncomputable abbrev Rw:=gn×gn×Kz×gs Kz
noncomputable abbrev Qs:=gn×Kz×Kz
structure Hnd (H:Hp) (i s t o:gn) (rs:gs Rw) (qs:gs Qs) (N:Nt):Prop where
 i:H i=ak (.lst (N.ins.map V.str))
 s:H s=ak (.lst (rs.map λr=>V.ref r.1))
 sr:∀r∈rs,H r.1=ak (.tup [.str r.2.2.1,.ref r.2.1])/\H r.2.1=ak (.lst (r.2.2.2.map V.str))
 es:rs.map (·.2.2)=N.sums
 t:H t=ak (.lst (qs.map λq=>V.ref q.1))
 tr:∀q∈qs,H q.1=ak (.tup [.str q.2.1,.str q.2.2])
 et:qs.map (·.2)=N.sts
 o:H o=ak (.lst (N.outs.map V.str))
structure Kpt (H:Hp) (i s t o:gn) (rs:gs Rw) (qs:gs Qs) (N:Nt):Prop where
 i:H i=ak (.tup (N.ins.map V.str))
 s:H s=ak (.tup (rs.map λr=>V.ref r.1))
 sr:∀r∈rs,H r.1=ak (.tup [.str r.2.2.1,.ref r.2.1])/\H r.2.1=ak (.tup (r.2.2.2.map V.str))
 es:rs.map (·.2.2)=N.sums
 t:H t=ak (.tup (qs.map λq=>V.ref q.1))
 tr:∀q∈qs,H q.1=ak (.tup [.str q.2.1,.str q.2.2])
 et:qs.map (·.2)=N.sts
 o:H o=ak (.tup (N.outs.map V.str))
inductive Wob (H:Hp) (CI CS CT:gn) (N:Nt) (z:Kz) (w:gn):Prop where
 | i (k:Nat) (dx:gn) (hk:N.ins[k]? =ak z) (e:H w=ak (.ins CI dx [("name",.str z),("number",nat k)])):Wob H CI CS CT N z w
 | s (ws:C') (dx tw:gn) (hk:(z,ws)∈N.sums) (e:H w=ak (.ins CS dx [("name",.str z),("wires",.ref tw)])) (et:H tw=ak (.tup (ws.map V.str))):Wob H CI CS CT N z w
 | t (k:Nat) (y:Kz) (dx:gn) (hk:N.sts[k]? =ak (z,y)) (e:H w=ak (.ins CT dx [("name",.str z),("wire",.str y),("number",nat k)])):Wob H CI CS CT N z w
structure WiA (H:Hp) (CI CS CT d:gn) (N:Nt) (ws:K9):Prop where
 d:H d=ak (.dK (ws.map λq=>(Oj q.1,V.ref q.2)))
 nm:ws.map (·.1)=N.names
 ob:∀q∈ws,Wob H CI CS CT N q.1 q.2
structure WL (H0 H:Hp) (CI CS CT:gn) (N:Nt) (D:gn) (ys:gs V) (zs:C') (ws:K9):Prop where
 ey:ys=ws.map λq=>V.ref q.2
 nm:ws.map (·.1)=zs
 ob:∀q∈ws,Wob H CI CS CT N q.1 q.2
 same:Same H0 H
 d:H D=ak (.lst ys)
structure Otp (sums:gs (Kz×gs Kz)) (od:C') (lf:gs (Kz×gs Kz)):Prop where
 perm:(od++lf.map (·.1)).Perm (sums.map (·.1))
 sub:∀r∈lf,r∈sums
 need:∀(i:Nat) z,od[i]? =ak z->∀ws,(z,ws)∈sums->∀y∈ws,y∈sums.map (·.1)->y∈od.take i
structure NetA (H:Hp) (C CI CS CT p:gn) (N:Nt) (od:C'):Prop where
 ho:∃(dx i s t o d tq:gn) (rs:gs Rw) (qs:gs Qs) (ws:K9),H p=ak (.ins C dx [("ins",.ref i),("sums",.ref s),("kept_stores",.ref t),("outs",.ref o),("by_name",.ref d),("sum_order",.ref tq)])/\Kpt H i s t o rs qs N/\WiA H CI CS CT d N ws/\H tq=ak (.tup (od.map V.str))
 g:Gn N
 tp:Topo N.sums od
def RwK (H:Hp) (rs:gs Rw):Prop:=∀r∈rs,H r.1=ak (.tup [.str r.2.2.1,.ref r.2.1])/\H r.2.1=ak (.tup (r.2.2.2.map V.str))
def QsK (H:Hp) (O:gs Qs):Prop:=∀q∈O,H q.1=ak (.tup [.str q.2.1,.str q.2.2])
noncomputable def xb (f:K6) (ws:C'):Bool:=ws.foldl (λa w=>a^^f w) false
structure Val (N:Nt) (row st:Nat) (f:K6):Prop where
 i:∀(k:Nat) z,N.ins[k]? =ak z->f z=row.testBit k
 t:∀(k:Nat) z y,N.sts[k]? =ak (z,y)->f z=st.testBit k
 s:∀z ws,(z,ws)∈N.sums->f z=xb f ws
noncomputable def fv (N:Nt) (O st:Nat):K6:=Qu (Val N O st)
noncomputable def need (N:Nt) (od:C'):C':=N.ins++N.sts.map (·.1)++od
structure Pre (N:Nt) (row st:Nat) (pre:C') (f:K6):Prop where
 i:∀(k:Nat) z,N.ins[k]? =ak z->z∈pre->f z=row.testBit k
 t:∀(k:Nat) z y,N.sts[k]? =ak (z,y)->z∈pre->f z=st.testBit k
 s:∀z ws,(z,ws)∈N.sums->z∈pre->f z=xb f ws/\∀w∈ws,w∈pre
structure Bt (N:Nt) (row st:Nat) (pre:C') (f:K6) (z:Kz) (v:KS):Prop where
 i:∀k:Nat,N.ins[k]? =ak z->v=row.testBit k
 t:∀(k:Nat) y,N.sts[k]? =ak (z,y)->v=st.testBit k
 s:∀ws,(z,ws)∈N.sums->v=xb f ws/\∀w∈ws,w∈pre
section
variable {N:Nt} (g:Gn N)
include g
variable {od:C'} (tp:Topo N.sums od)
include tp
end
noncomputable abbrev NP:=Hp->gn->Nt->C'->Prop
structure RunA (NA:NP) (H:Hp) (C p l n:gn) (N:Nt) (od:C') (st:Nat) (as:D'):Prop where
 ho:∃(dx d:gn),H p=ak (.ins C dx [("net",.ref n),("held",nat st),("bits",.ref d),("given",.ref l)])
 hl:H l=ak (.lst (as.map nat))
 na:NA H n N od
def K2 (p l:gn) (H H2:Hp):Prop:=∀b ob,b≠p->b≠l->H b=ak ob->H2 b=ak ob
noncomputable def mixV (c k:Int):Int:=((c % 2147483647 * 48271 + 7919 * k + 11) % 2147483647 * ((c % 2147483647 * 48271 + 7919 * k + 11) % 2147483647) % 2147483629) * ((c % 2147483647 * 48271 + 7919 * k + 11) % 2147483647 * ((c % 2147483647 * 48271 + 7919 * k + 11) % 2147483647) % 2147483629 + 48271 * k + 7) % 2147483587
noncomputable def E2:Str:=("cut x x0 x1 fresh new zero none nil tmp c c0 cut0 cut1 gnd off in out sum store":Kz)++(" i0 i1 s0 s1 n0 n1 o0 o1 net wire a b z y0 t0 w w0 k dead open":Kz)
noncomputable def W40:C':=Txt.split E2 " "
noncomputable def tx (n:Nat):Str:=(toString (n:Int):Lh)
noncomputable def nmf (c k:Int):Str:=if mixV c 402 % 2=0 then W40.getD ((k + mixV c 403) % 40).toNat "" else (⟨#[97 + (mixV c 400 % 26).toNat]⟩:Kz)++tx ((mixV c 401 % 1000).toNat + 37 * k.toNat)
noncomputable def nms (c:Int) (a n:Nat):C':=(lA n).map λk=>nmf c ((a + k:Nat):Int)
structure Mk (c:Int) (ni nt:Nat) (rows:gs (Kz×gs Kz)):Prop where
 nm:rows.map (·.1)=nms c 22 rows.length
 ws:∀(k:Nat) r,rows[k]? =ak r->r.2.length<=4/\∀w∈r.2,w∈nms c 0 ni++nms c 6 nt++nms c 22 k
noncomputable def xf (f:Kz->Nat) (ws:C'):Nat:=ws.foldl (λa w=>a^^^f w) 0
structure Hng (N:Nt) (p:Kz->Nat×Nat):Prop where
 i:∀(k:Nat) z,N.ins[k]? =ak z->p z=(0,2 ^ k)
 t:∀(k:Nat) z y,N.sts[k]? =ak (z,y)->p z=(2 ^ k,0)
 s:∀z ws,(z,ws)∈N.sums->p z=(xf (λw=>(p w).1) ws,xf (λw=>(p w).2) ws)
noncomputable def hvl (p:Kz->Nat×Nat) (O st:Nat):K6:=λz=>M.od ((p z).1&&&st)^^M.od ((p z).2&&&O)
noncomputable def hgp (N:Nt) (z:Kz):Nat×Nat:=(M.pk (λk=>fv N 0 (2 ^ k) z) 0 N.sts.length,M.pk (λk=>fv N (2 ^ k) 0 z) 0 N.ins.length)
section
variable {N:Nt} (g:Gn N) {od:C'} (tp:Topo N.sums od) {p:Kz->Nat×Nat} (h:Hng N p)
include g tp h
end
structure Hgd (H:Hp) (d:gn) (N:Nt) (zs:C') (hs:K9):Prop where
 d:H d=ak (.dK (hs.map λq=>(Oj q.1,V.ref q.2)))
 nm:hs.map (·.1)=zs
 ob:∀q∈hs,H q.2=ak (.tup [nat (hgp N q.1).1,nat (hgp N q.1).2])
structure Sml (m:Nat) (ps os:A'):Prop where
 m6:m<=6
 lp:ps.length<=16
 lo:os.length<=6
 bn:∀q∈ps++os,q.1 < 2 ^ ps.length/\q.2 < 2 ^ m
section
variable {m:Nat} {ps os:A'} (b:Sml m ps os)
include b
end
section
variable {m:Nat} {ps os:A'} (b:Sml m ps os)
include b
end
structure Sgl (H:Hp) (D:gn) (ds:K0) (ps os:A') (n m:Nat):Prop where
 d:H D=ak (.lst (ds.map V.ref))
 len:ds.length=m
 at':∀(w:Nat) (d:gn),ds[w]? =ak d->H d=ak (.lst ((M.wan ps os 0 (M.pulse w n)).map nat))
structure TldA (H:Hp) (t D1 D2 D3 D4:gn) (rs:gs Rw) (qs:gs Qs) (N:Nt):Prop where
 t:H t=ak (.tup [.ref D1,.ref D2,.ref D3,.ref D4])
 i:H D1=ak (.lst (N.ins.map V.str))
 s:H D2=ak (.lst (rs.map λr=>V.ref r.1))
 sr:RwK H rs
 es:rs.map (·.2.2)=N.sums
 st:H D3=ak (.lst (qs.map λr=>V.ref r.1))
 tr:QsK H qs
 et:qs.map (·.2)=N.sts
 o:H D4=ak (.lst (N.outs.map V.str))
noncomputable def J (c:Nat):gs D'->D'
 | []=>[]
 | [x]=>x
 | x::y::r=>x++c::J c (y::r)
inductive Fm:C'->Prop where
 | i (z:Kz) (h:Nm z):Fm ["in",z]
 | o (z:Kz) (h:Nm z):Fm ["out",z]
 | s (z:Kz) (ws:C') (h:Nm z) (hw:∀w∈ws,Nm w) (l:ws.length<=24):Fm ("sum"::z::"="::ws)
 | t (z y:Kz) (h:Nm z) (hy:Nm y):Fm ["store",z,"=",y]
end Sx
namespace M
end M
namespace Sx
open PySem L2
end Sx
namespace M
theorem few_ins {ps os:A'} {m d:Nat} {μs:D'} (M:Mks ps os m d μs) (Z:∀q∈ps++os,q.1 < 2 ^ ps.length) (hn:ps.length + (d + 1) * os.length<=1000) (ho:os.length<=1000) (hm:m<=1000):m<=os.length:=by
 have inj:∀(T:Nat) (q O:Nat),q < 2 ^ (T * m)->O < 2 ^ (T * m)->wan ps os 0 (upk m q T++gB d 0)=wan ps os 0 (upk m O T++gB d 0)->q=O:=by
  intro T q O δ θ e
  have hb:∀q,∀u∈upk m q T++gB d 0,u < 2 ^ m:=λq u hu=>by
   rcases oT.mp hu with h | h
   ·exact upk_lt m q T u h
   ·rw[L6 h];exact lh _
  have h1:=told_back M Z hn ho hm (hb q);have h2:=told_back M Z hn ho hm (hb O);rw[e,h2] at h1;have hl:∀q,(upk m q T++gB d 0).length=T + d:=λq=>by rw[hC,upk_len,wh]
  have ht:∀q,(gB d 0++(upk m q T++gB d 0)).take (T + d)=gB d 0++upk m q T:=λq=>by
   rw[<-Mo];exact List.take_left' (by rw[hC,wh,upk_len,Ni])
  rw[hl,hl,ht,ht] at h1;have α:=List.append_cancel_left h1;rw[<-tf m T q δ,<-tf m T O θ,α]
 have cnt:∀T,T * m<=(T + d) * os.length:=by
  intro T
  have nd:((lA (2 ^ (T * m))).map λq=>pkw os.length (wan ps os 0 (upk m q T++gB d 0))).Nodup:=by
   rw[y',Nk];refine P7 ?_ O1;intro a b ha hb ξ e;have β:=wan_len ps os (upk m a T++gB d 0) 0;have lb:=wan_len ps os (upk m b T++gB d 0) 0;have h1:=oU (w:=os.length) β (λr Y=>wan_lt ps os _ 0 r Y);have h2:=oU (w:=os.length) lb (λr Y=>wan_lt ps os _ 0 r Y);have hl:∀q,(upk m q T++gB d 0).length=T + d:=λq=>by rw[hC,upk_len,wh]
   rw[hl] at h1 h2;exact ξ (inj T a b (Kw.mp ha) (Kw.mp hb) (by rw[<-h1,<-h2,e]))
  have:=tG (2 ^ ((T + d) * os.length)) _ nd λx γ=>by
   obtain⟨q,_,rfl⟩:=oi.mp γ;have:=pkw_lt (w:=os.length) (ps:=wan ps os 0 (upk m q T++gB d 0)) (λr Y=>wan_lt ps os _ 0 r Y);rw[wan_len,hC,upk_len,wh] at this;exact this
  rw[dt,wq] at this;exact(Qn @C).mp this
 by_cases h:m<=os.length
 ·exact h
 ·have h1:=cnt (d * os.length + 1);have h2:(d * os.length + 1) * (os.length + 1)<=(d * os.length + 1) * m:=Nat.mul_le_mul_left _ @A;rw[Nat.mul_succ] at h2;have α:(d * os.length + 1 + d) * os.length=(d * os.length + 1) * os.length + d * os.length:=Mm ..
  omega
end M
namespace Sx
open PySem L2
def uG:Sp:=λvs H Q _=>∃(t n o:gn) (m:Nat) (nx os:gs Pr3) (Y:Hp) (f B S I L:gn) (u:Nat) (bars O:D') (π:Nat) (ls:gs (gn×Nat)),vs=[.ref t,.ref f]/\TabT H t n o m nx os/\nx.length<=16/\Nev Y H f B S I L @F (prs os) m u bars O π ls/\∀H2,Same H H2->Q (.bl true) H2
theorem Nev.same {Y H H2:Hp} {t B S I L:gn} {ps os:A'} {m u:Nat} {bars O:D'} {π:Nat} {ls:gs (gn×Nat)} (n:Nev Y H t B S I L ps os m u bars O π ls) (s:Same H H2):Nev Y H2 t B S I L ps os m u bars O π ls:=
 {n with ht:=s.get n.ht,hb:=s.get n.hb,hs:=s.get n.hs,hi:=s.get n.hi,hl:=s.get n.hl,el:=λq Z=>s.get (n.el q Z)}
theorem Fev.rows {ps os:A'} {m:Nat} {bars O:D'} (f:Fev ps os m bars O):∀(j x:Nat),M.Span (O.map (· % 2 ^ ps.length)) x->∃rs:D',rs.length=j/\(∀r∈rs,r < 2 ^ m)/\M.wan ps os x rs=gB j 0
 | 0,x,_=>⟨[],rfl,λr h=>kv h @D,rfl⟩
 | j + 1,x,h=>by
   obtain⟨k,S,hk⟩:=id f.ex;obtain⟨_,u,hu,Z,hb⟩:=(S.w.span x).mp h;obtain⟨rs,a1,a2,α⟩:=Fev.rows f j (M.tr2 ps x u) (S.done hk ((S.b _ (M.tr2_lt _ _ _)).mp hb));refine⟨u::rs,by rw[za,a1],λr Y=>?_,?_⟩
   ·rcases qn.mp Y with e | e
    ·rw[e];exact hu
    ·exact a2 r e
   ·show M.tr2 os x u::M.wan ps os (M.tr2 ps x u) rs=_;rw[Z,α];rfl
theorem Nev.no {δ H:Hp} {t B S I L:gn} {ps os:A'} {m u:Nat} {bars O:D'} {π:Nat} {ls:gs (gn×Nat)} (n:Nev δ H t B S I L ps os m u bars O π ls) {d:Nat} {μs:D'} (γ:M.Mks ps os m d μs) (ξ:∀q∈ps++os,q.1 < 2 ^ ps.length) (hn:ps.length + (d + 1) * os.length<=1000) (ho:os.length<=1000) (hm:m<=1000):False:=by
 obtain⟨rs,a1,a2,β⟩:=n.fev.rows d (M.tr2 ps 0 u) (n.fev.first n.ev.2)
 have hb:∀r∈u::rs,r < 2 ^ m:=λr Y=>by
  rcases qn.mp Y with e | e
  ·rw[e];exact n.ul
  ·exact a2 r e
 have hw:M.wan ps os 0 (u::rs)=gB (d + 1) 0:=by
  show M.tr2 os 0 u::M.wan ps os (M.tr2 ps 0 u) rs=_;rw[n.ev.1,β];rfl
 have h1:=M.told_back γ ξ hn ho hm hb;rw[hw,M.wan_zeros,za,a1] at h1;have h2:=zt (λl=>l.getD d 0) h1;have α:(gB (d + 1) 0).getD d 0=0:=by simp
 have Z:((gB d 0++(u::rs)).take (d + 1)).getD d 0=u:=by
  rw[eh,List.getElem?_take,qb @A,vr @D];simp
 try dsimp only at h2
 rw[α,Z] at h2;exact n.u0 h2.symm
theorem Nev.again {θ H ψ H':Hp} {t B S I L t' ι η ζ ε:gn} {ps os:A'} {m u α:Nat} {bars O β Z:D'} {π δ:Nat} {ls Y:gs (gn×Nat)} (n:Nev θ H t B S I L ps os m u bars O π ls) (γ:Nev ψ H' t' ι η ζ ε ps os m α β Z δ Y):u=α/\O=Z/\π=δ/\ls.map (·.2)=Y.map (·.2):=by
 obtain⟨rfl,rfl⟩:=n.fev.one γ.fev;have hu:=n.hu.symm.trans γ.hu;obtain rfl:=kf hu;refine⟨rfl,rfl,n.bs.uniq γ.bs,?_⟩;have hl:ls.length=Y.length:=n.ll.trans γ.ll.symm;refine O2 (by rw[dt,dt,hl]) λi h1 h2=>?_;rw[dt] at h1 h2;rw[N4,N4];have hw:i < O.length:=by rw[<-n.ll];exact h1
 exact(n.ss i _ _ (fy hw) (fy h1)).uniq (γ.ss i _ _ (fy hw) (fy h2))
theorem o7 {K:aS} {H:Hp}:∀(i:Nat) (y:V) (e:Dt),([]:gs V)[i]? =ak y->([]:gs Dt)[i]? =ak e->Rep K H y e:=λi y e h=>by simp at h
theorem c4 {K:aS} {H:Hp} {x:V} {d:Dt} {xs:gs V} {ds:gs Dt} (h:Rep K H x d) (r:∀(i:Nat) y e,xs[i]? =ak y->ds[i]? =ak e->Rep K H y e):∀(i:Nat) (y:V) (e:Dt),(x::xs)[i]? =ak y->(d::ds)[i]? =ak e->Rep K H y e
 | 0,y,e,O,he=>by
   have O:=kf O;have he:=kf he;subst O he;exact h
 | i + 1,y,e,O,he=>r i y e (by simpa using O) (by simpa using he)
noncomputable def uW (l:D'):Dt:= .lst (l.map λn:Nat=>Dt.int (n:Int))
theorem kl {K:aS} {H:Hp} {p:gn} {l:D'} (e:H p=ak (.lst (l.map nat))):Rep K H (.ref p) (uW l):=by
 refine Rep.lst (SqL.of e) (by rw[dt,dt]) λi x d O hd=>?_;rw[lz] at O hd;obtain⟨n,hn,rfl⟩:=KY.mp O;rw[hn] at hd;have hd:=kf hd;subst hd;exact Rep.int _
theorem si (l:D'):depD (uW l)=1:=by
 unfold uW;rw[depD]
 have:∀l:D',kE (l.map λn:Nat=>Dt.int (n:Int))=0:=λl=>by
  induction l with
  | nil=>rfl
  | cons x l ih=>rw[KF,kE,ih];rfl
 rw[this]
noncomputable def llD (l:D'):Dt:= .lst (l.map λq=>uW (M.pl 1000 q))
theorem CD {K:aS} {H:Hp} {p:gn} {ls:gs (gn×Nat)} (e:H p=ak (.lst (ls.map λq=>V.ref q.1))) (h:∀q∈ls,H q.1=ak (.lst ((M.pl 1000 q.2).map nat))):Rep K H (.ref p) (llD (ls.map (·.2))):=by
 refine Rep.lst (SqL.of e) (by rw[dt,dt,dt]) λi x d O hd=>?_;rw[lz] at O hd;rw[lz] at hd;obtain⟨q,Y,rfl⟩:=KY.mp O;rw[Y] at hd;have hd:=kf hd;subst hd;exact kl (h q (hQ Y))
theorem DM (l:D'):depD (llD l)<=2:=by
 unfold llD;rw[depD]
 have:∀l:D',kE (l.map λq=>uW (M.pl 1000 q))<=1:=λl=>by
  induction l with
  | nil=>exact LI _
  | cons x l ih=>rw[KF,kE,si];omega
 have:=this l;omega
noncomputable def nevD (u:Nat) (b s i l:D'):Dt:= .tup [.str "never",.int (u:Int),uW b,uW s,uW i,llD l]
theorem Br (u:Nat) (b s i l:D'):depD (nevD u b s i l)<=100:=by
 unfold nevD;have:=DM l;simp only[depD,kE,si];omega
theorem uO {K:aS} {H:Hp} {t B S I L:gn} {u:Nat} {b s i:D'} {ls:gs (gn×Nat)} (e:SqT K H t [.str "never",nat u,.ref B,.ref S,.ref I,.ref L]) (α:H B=ak (.lst (b.map nat))) (O:H S=ak (.lst (s.map nat))) (Z:H I=ak (.lst (i.map nat))) (Y:H L=ak (.lst (ls.map λq=>V.ref q.1))) (h:∀q∈ls,H q.1=ak (.lst ((M.pl 1000 q.2).map nat))):Rep K H (.ref t) (nevD u b s i (ls.map (·.2))):=
 Rep.tup e rfl (c4 (Rep.str _) (c4 (Rep.int _) (c4 (kl α) (c4 (kl O) (c4 (kl Z) (c4 (CD Y h) o7))))))
end Sx
namespace My
open PySem L2 Sx
local macro_rules | `(tactic| walk_at "o") =>`(tactic| first | exact O5 rfl | exact Oo rfl)
local macro_rules | `(tactic| walk_at "s") =>`(tactic| exact ⟨rfl,rfl,rfl,by decide +kernel,rfl,by decide +kernel,by decide +kernel⟩)
local macro_rules | `(tactic| walk_at "n") =>`(tactic| (intro vs H Q E h;repeat (first | (obtain ⟨e,_⟩:=h;subst e;rfl) | (obtain ⟨_,h⟩:=h))))
local macro_rules | `(tactic| walk_at "l2side") =>`(tactic| first | assumption | rfl | omega | decide | ((try dsimp only [CDiv,J5,CPow,CMul]);first | omega | decide | (refine (⟨?_,?_⟩)<;>first | omega | decide) | (refine (⟨?_,?_,?_⟩)<;>first | omega | decide) | (left;refine (⟨?_,?_⟩)<;>first | omega | decide) | (right;refine (⟨?_,?_⟩)<;>first | omega | decide)))
local macro_rules | `(tactic| walk_at "l2len") =>`(tactic| ((with_reducible show _ + _≤lx);first | assumption | (rw [qq];omega) | omega))
local macro_rules | `(tactic| walk_at "l2at") =>`(tactic| first | assumption | exact aP | (refine' Same.get (by assumption) ?h;(case h=>walk_at "l2at")))
local macro_rules | `(tactic| walk_at "l2hp") =>`(tactic| first | walk_at "l2at")
local macro_rules | `(tactic| walk_at "l2hp") =>`(tactic| first | (refine' Same.tup (by assumption) ?h;(case h=>walk_at "l2hp")) | (refine' Rep.same (by assumption) ?h;(case h=>walk_at "l2hp")))
local macro_rules | `(tactic| walk_at "l2hp") =>`(tactic| first | assumption | (refine' SqL.of ?h;(case h=>walk_at "l2at")) | (refine' SqT.of ?h;(case h=>walk_at "l2at")) | (refine' Same.seq (by assumption) ?h;(case h=>walk_at "l2hp")))
local macro_rules | `(tactic| walk_at "l2kind") =>`(tactic| first | assumption | exact rfl | (refine' O5 ⟨rfl,_,?e⟩;(case e=>walk_at "l2hp")) | (refine' Oo (O5 ⟨rfl,_,?e⟩);(case e=>walk_at "l2hp")) | (refine' Oo (Oo ⟨rfl,_,O5 ?e⟩);(case e=>walk_at "l2hp")))
local macro_rules | `(tactic| walk_at "l2step") =>`(tactic| first | ((with_reducible refine' s_go ?e ?_);(case e=>assumption)))
local macro_rules | `(tactic| walk_at "l2step") =>`(tactic| first | (with_reducible refine(⟨_,rfl,?_⟩)) | (with_reducible refine(⟨rfl,?_⟩)) | ((with_reducible refine' (⟨⟨_,?e⟩,?_⟩));(case e=>walk_at "l2hp")))
local macro_rules | `(tactic| walk_at "l2step") =>`(tactic| first | (with_reducible refine(⟨_,_,rfl,rfl,?_⟩);(with_reducible refine(⟨?l,?_⟩));(case l=>walk_at "l2len")) | (with_reducible refine(⟨_,_,rfl,rfl,?_⟩)) | (with_reducible refine O5 ⟨_,rfl,?_⟩) | (with_reducible refine Oo ⟨_,rfl,?_⟩))
local macro_rules | `(tactic| walk_at "l2step") =>`(tactic| first | (with_reducible refine Hw ?_) | ((with_reducible refine' Ac ?e ?_);(case e=>first | rfl | decide | assumption)) | ((with_reducible refine' vY ?e ?_);(case e=>first | rfl | decide | assumption)) | ((with_reducible refine' CB ?a ?b ?_);(case a=>omega);(case b=>omega)))
local macro_rules | `(tactic| walk_at "l2step") =>`(tactic| first | (with_reducible refine FC ?_) | (with_reducible refine s_intB ?_) | (with_reducible refine s_inS ?_) | ((with_reducible refine' s_addS ?e ?_);(case e=>walk_at "l2side")))
local macro_rules | `(tactic| walk_at "l2step") =>`(tactic| first | (with_reducible refine Ht ?_) | (with_reducible refine JH ?_) | (with_reducible refine Jw ?_) | (with_reducible refine G4 ?_))
local macro_rules | `(tactic| walk_at "l2step") =>`(tactic| first | ((with_reducible refine' Hk ?e ?_);(case e=>walk_at "l2hp")) | ((with_reducible refine' Hj ?e ?_);(case e=>walk_at "l2hp")) | ((with_reducible refine' s_lenS ?e ?_);(case e=>walk_at "l2side")) | ((with_reducible refine' JG ?e ?m ?_);(case e=>walk_at "l2kind");(case m=>decide)))
local macro_rules | `(tactic| walk_at "l2step") =>`(tactic| first | ((with_reducible refine' yq ?e ?a ?_);(case e=>walk_at "l2hp");(case a=>first | assumption | rfl)) | ((with_reducible refine' JF ?e ?a ?_);(case e=>walk_at "l2hp");(case a=>first | assumption | rfl)) | ((with_reducible refine' s_ty ?e ?_);(case e=>first | exact rfl | (refine' O5 ⟨rfl,_,?f⟩;(case f=>walk_at "l2hp")) | (refine' Oo (Oo (O5 ⟨rfl,O5 ⟨_,?f⟩⟩));(case f=>walk_at "l2hp")))) | (with_reducible refine Hy ?_))
local macro_rules | `(tactic| walk_at "l2step") =>`(tactic| first | ((with_reducible refine' Hg ?l ?_);(case l=>exact AN (QL rfl))) | ((with_reducible refine' G9 ?l ?_);(case l=>exact AN (QL rfl))) | ((with_reducible refine' Jz ?e ?_);(case e=>walk_at "l2hp")) | ((with_reducible refine' s_slS ?e ?_);(case e=>walk_at "l2side")))
local macro_rules | `(tactic| walk_at "l2step") =>`(tactic| first | (with_reducible refine Hq ?_) | ((with_reducible refine' Hn ?e ?l ?_);(case e=>walk_at "l2hp");(case l=>rfl)) | (with_reducible refine Jy ?_) | (with_reducible refine JE ?_))
local macro_rules | `(tactic| walk_at "l2step") =>`(tactic| first | ((with_reducible refine' JB ?e ?_);(case e=>rfl)) | (with_reducible refine s_leS ?_) | ((with_reducible refine' Fz ?e ?_);(case e=>repeat constructor)) | (with_reducible refine FA ?_))
local macro_rules | `(tactic| walk_at "l2step") =>`(tactic| first | (with_reducible refine JC ?_) | ((with_reducible refine' s_rI ?e ?_);(case e=>walk_at "l2side")) | (with_reducible refine s_rU ?_) | ((with_reducible refine' JD ?e ?_);(case e=>rfl)))
local macro_rules | `(tactic| walk_at "l2step") =>`(tactic| first | ((with_reducible refine G7 ?_);intro _ _) | (with_reducible refine G8 ?_) | ((with_reducible refine' Jx ?e ?_);(case e=>repeat constructor)) | (with_reducible refine FF ?_))
local macro_rules | `(tactic| walk_at "l2") =>`(tactic| repeat walk_at "l2step")
local macro_rules | `(tactic| walk_at "l2step") =>`(tactic| first | ((with_reducible refine' s_tupT ?e ?_);(case e=>walk_at "l2hp")))
local macro_rules | `(tactic| walk_at "l2step") =>`(tactic| first | ((with_reducible refine' Fx ?e ?_);(case e=>walk_at "l2hp")) | ((with_reducible refine' Fw ?e ?_);(case e=>walk_at "l2hp")) | ((with_reducible refine' G3 ?e ?_);(case e=>walk_at "l2hp")))
local macro_rules | `(tactic| walk_at "l2step") =>`(tactic| first | (with_reducible refine Hh ?_) | (with_reducible refine Hr ?_) | (with_reducible refine Hv ?_) | (with_reducible refine Ae ?_))
local macro_rules | `(tactic| walk_at "l2step") =>`(tactic| first | (with_reducible refine Cy ?_) | (with_reducible refine JI ?_) | (with_reducible refine Hi ?_) | (with_reducible refine Cz ?_))
local macro_rules | `(tactic| walk_at "l2step") =>`(tactic| first | (with_reducible refine JJ ?_) | (with_reducible refine Hs ?_) | (with_reducible refine s_disp1I ?_) | ((with_reducible refine' s_listD ?e ?_);(case e=>walk_at "l2at")))
local macro_rules | `(tactic| walk_at "l2step") =>`(tactic| first | (with_reducible refine Fu ?_) | (with_reducible refine s_try0 ?_) | (with_reducible refine s_callX ?_))
noncomputable def top (i:Nat):Stmt:=PySem.Challenge.pw_sumwires_k71_told_back_or_never.main.body.getD i (.Pass ⟨0,0,0,0⟩)
noncomputable abbrev mM:Stmt:=top 6
theorem vW:az ["thing"] ["thing"] (ah mM):=by walk_at "s"
noncomputable abbrev o6:Stmt:=top 7
theorem yo:az ["thing","width"] ["thing","width"] (ah o6):=by walk_at "s"
noncomputable abbrev Af:Stmt:=top 8
theorem oV:az ["number","width","half"] ["number"] (ah Af):=by walk_at "s"
noncomputable abbrev lL:Stmt:=top 9
theorem yp:az ["mask"] ["mask"] (ah lL):=by walk_at "s"
noncomputable abbrev o4:Stmt:=top 10
theorem ki:az ["places","mask","place"] ["places"] (ah o4):=by walk_at "s"
noncomputable abbrev sV:Stmt:=top 11
theorem jR:az ["masks","width","whole","place","mask"] ["masks","width"] (ah sV):=by walk_at "s"
noncomputable abbrev kj:Stmt:=top 12
theorem vV:az ["whole","width","count"] ["whole","width","count"] (ah kj):=by walk_at "s"
noncomputable abbrev o5:Stmt:=top 17
theorem yn:az ["thing","stores","inputs"] ["thing","stores","inputs"] (ah o5):=by walk_at "s"
noncomputable abbrev gU:Stmt:=top 18
theorem qK:az ["inputs","nexts","outs"] ["inputs","nexts","outs"] (ah gU):=by walk_at "s"
noncomputable abbrev sX:Stmt:=top 19
theorem Ab:az ["pair","state","row"] ["pair","state","row"] (ah sX):=by walk_at "s"
noncomputable abbrev iF:Stmt:=top 20
theorem sT:az ["pairs","state","row"] ["pairs","state","row"] (ah iF):=by walk_at "s"
noncomputable abbrev eW:Stmt:=fq (top 21) 0
theorem kW:az ["self","inputs","nexts","outs"] ["self","inputs","nexts","outs"] (ah eW):=by walk_at "s"
noncomputable abbrev gL:Stmt:=fq (top 21) 1
theorem mK:az ["self"] ["self"] (ah gL):=by walk_at "s"
noncomputable abbrev fT:Stmt:=fq (top 21) 2
theorem lK:az ["self"] ["self"] (ah fT):=by walk_at "s"
noncomputable abbrev iN:Stmt:=fq (top 21) 3
theorem oW:az ["self"] ["self"] (ah iN):=by walk_at "s"
noncomputable abbrev di:Stmt:=fq (top 21) 4
theorem jM:az ["self","state"] ["self","state"] (ah di):=by walk_at "s"
noncomputable abbrev iO:Stmt:=fq (top 21) 5
theorem oX:az ["self","state","row"] ["self","state","row"] (ah iO):=by walk_at "s"
noncomputable abbrev gK:Stmt:=fq (top 21) 6
theorem cq:az ["self","rows","state","answers","row","done"] ["self","rows","state"] (ah gK):=by walk_at "s"
noncomputable abbrev dD:Stmt:=fq (top 21) 7
theorem qO:az ["self","rows","state"] ["self","rows","state"] (ah dD):=by walk_at "s"
noncomputable abbrev gM:Stmt:=fq (top 21) 9
theorem iX:az ["self","which","turns","rows"] ["self","which","turns"] (ah gM):=by walk_at "s"
noncomputable abbrev iP:Stmt:=fq (top 21) 10
theorem cu:az ["self","mask","store_mask","input_mask","place"] ["self","mask"] (ah iP):=by walk_at "s"
noncomputable abbrev gJ:Stmt:=fq (top 23) 0
theorem fP:az ["self","rows","place","row"] ["self","rows"] (ah gJ):=by walk_at "s"
noncomputable abbrev ie:Stmt:=fq (top 23) 1
theorem cQ:az ["self","mask","places","found"] ["self","mask"] (ah ie):=by walk_at "s"
noncomputable abbrev k8:Stmt:=fq (top 23) 2
theorem jS:az ["self","place","row","found","places"] ["self","place","row"] (ah k8):=by walk_at "s"
noncomputable abbrev ig:Stmt:=fq (top 23) 3
theorem dS:az ["self","bit","mask","top"] ["self","bit"] (ah ig):=by walk_at "s"
noncomputable abbrev Ah:Stmt:=top 24
theorem Fp:az ["rows"] ["rows"] (ah Ah):=by walk_at "s"
noncomputable abbrev oZ:Stmt:=top 25
theorem mJ:az ["rows","wish","steps","found"] ["rows","wish"] (ah oZ):=by walk_at "s"
noncomputable abbrev oE:Stmt:=top 26
theorem uJ:az ["rows","width","steps"] ["rows","width"] (ah oE):=by walk_at "s"
noncomputable abbrev sW:Stmt:=top 28
theorem Aa:az ["pair","stores"] ["pair","stores"] (ah sW):=by walk_at "s"
noncomputable abbrev cH:Stmt:=top 29
theorem dN:az ["machine","bars","stores","rows","ways","states"] ["machine","bars"] (ah cH):=by walk_at "s"
noncomputable abbrev dC:Stmt:=top 30
theorem bF:az ["machine","stores","bars","ways"] ["machine"] (ah dC):=by walk_at "s"
noncomputable abbrev cD:Stmt:=top 31
theorem bI:az ["machine","found","rows","firsts","stores","states","inputs","begin","sums"] ["machine"] (ah cD):=by walk_at "s"
noncomputable abbrev dO:Stmt:=top 32
theorem cn:az ["machine","turns","outs","singles","whole","told","turn"] ["machine","turns"] (ah dO):=by walk_at "s"
noncomputable abbrev oY:Stmt:=top 33
theorem g8:az ["machine","delay","answers","masks","which","others","found"] ["machine","delay"] (ah oY):=by walk_at "s"
noncomputable abbrev eU:Stmt:=top 34
theorem bx:az ["machine","delay","mask","outs","store_mask","looks","answer","place","kept"] ["machine","delay","mask"] (ah eU):=by walk_at "s"
noncomputable abbrev h8:Stmt:=top 35
theorem bQ:az ["pair","tellings","store_mask","input_mask","which"] ["pair","tellings"] (ah h8):=by walk_at "s"
noncomputable abbrev dP:Stmt:=top 36
theorem eQ:az ["machine","delay","outs","moved","newest"] ["machine","delay"] (ah dP):=by walk_at "s"
noncomputable abbrev cv:Stmt:=top 37
theorem eP:az ["machine","delay","masks","tellings","nexts"] ["machine","delay","masks"] (ah cv):=by walk_at "s"
noncomputable abbrev kX:Stmt:=top 38
theorem cC:az ["machine","never","rows","delay","found"] ["machine"] (ah kX):=by walk_at "s"
noncomputable abbrev k4:Stmt:=top 40
theorem uL:az ["_law_script","_law_k"] ["_law_script","_law_k"] (ah k4):=by walk_at "s"
noncomputable abbrev mQ:Stmt:=top 41
theorem kU:az ["_law_cell_here","_law_k","_law_number"] ["_law_cell_here","_law_k"] (ah mQ):=by walk_at "s"
noncomputable abbrev jU:Stmt:=top 42
theorem eR:az ["_law_cell_here","_law_start","_law_many","_law_width","_law_digits","_law_found","_law_left","_law_k"] ["_law_cell_here","_law_start","_law_many","_law_width","_law_digits"] (ah jU):=by walk_at "s"
noncomputable abbrev iM:Stmt:=top 43
theorem bN:az ["_law_masks_here","_law_cell_here","_law_start","_law_way","_law_found","_law_k","_law_mask"] ["_law_masks_here","_law_cell_here","_law_start","_law_way"] (ah iM):=by walk_at "s"
noncomputable abbrev cZ:Stmt:=top 44
theorem aA:az ["_law_script","_law_start","_law_most","_law_cell_here","_law_stores","_law_inputs","_law_outputs","_law_digits","_law_way","_law_one","_law_other","_law_shown","_law_straight"] ["_law_script","_law_start","_law_most"] (ah cZ):=by walk_at "s"
noncomputable abbrev kZ:Stmt:=top 45
theorem uK:az ["_law_cell_here","_law_many","_law_width"] ["_law_cell_here","_law_many","_law_width"] (ah kZ):=by walk_at "s"
noncomputable abbrev mP:Stmt:=top 46
theorem jk:az ["_law_mask","_law_found"] ["_law_mask"] (ah mP):=by walk_at "s"
noncomputable abbrev k7:Stmt:=top 47
theorem gz:az ["_law_pairs","_law_state","_law_row","_law_found","_law_k","_law_pair"] ["_law_pairs","_law_state","_law_row"] (ah k7):=by walk_at "s"
noncomputable abbrev mO:Stmt:=top 48
theorem hZ:az ["_law_told","_law_rows_here","_law_state","_law_found","_law_row"] ["_law_told","_law_rows_here"] (ah mO):=by walk_at "s"
noncomputable abbrev jT:Stmt:=top 49
theorem sU:az ["_law_thing","_law_high"] ["_law_thing","_law_high"] (ah jT):=by walk_at "s"
noncomputable abbrev dU:Stmt:=top 50
theorem bo:az ["_law_told","_law_found","_law_cells","_law_word","_law_delay","_law_other","_law_rows_here","_law_cell_here","_law_some"] ["_law_told","_law_found","_law_cells"] (ah dU):=by walk_at "s"
noncomputable abbrev jm:Stmt:=top 51
theorem gj:az ["_law_states","_law_places_here","_law_found","_law_place"] ["_law_states","_law_places_here"] (ah jm):=by walk_at "s"
noncomputable abbrev gW:Stmt:=top 52
theorem qL:az ["_law_some","_law_many"] ["_law_some","_law_many"] (ah gW):=by walk_at "s"
noncomputable abbrev fQ:Stmt:=top 53
theorem aE:az ["_law_told","_law_found","_law_word","_law_first","_law_begin","_law_states","_law_inputs","_law_sums","_law_many","_law_state","_law_row","_law_places_here"] ["_law_told","_law_found"] (ah fQ):=by walk_at "s"
noncomputable abbrev vX:Stmt:=top 54
theorem nM:az ["_law_script","_law_told","_law_machine_here","_law_found","_law_cells","_law_again","_law_some"] ["_law_script"] (ah vX):=by walk_at "s"
noncomputable abbrev FR (K:aS) (x q:Kz) (st:N9) (f:gn):Prop:=∃(Z:ia) (od:K4) (kV ε Y:ia) (an:K4) (O ct:ia) (ι:HB),K.lookup f=ak ⟨Z,od,.func (Li x q (gb st) (dy st) (ah st) .none kV ε Y an O ct),ι⟩/\Mz K O q=true/\Lj K (.ref f)=true
theorem FR.mk {K:aS} {x q:Kz} {st:N9} {f:gn} {Z:ia} {od:K4} {kV ε Y:ia} {an:K4} {O ct:ia} {ι:HB} (h1:K.lookup f=ak ⟨Z,od,.func (Li x q (gb st) (dy st) (ah st) .none kV ε Y an O ct),ι⟩) (h2:Mz K O q=true) (α:Lj K (.ref f)=true):FR K x q st f:=⟨_,_,_,_,_,_,_,_,_,h1,h2,α⟩
structure FT (K:aS) (x q:Kz) (st:N9) (f:gn) (d:mu) (ps:C'):Prop where
 F:Fun K x q st f d
 b:mF K d ps []
theorem FR.ok {K:aS} {x q:Kz} {st:N9} {f:gn} {ps:C'} (h:FR K x q st f) (g:∀(kV ε Y:ia) (an:K4) (O ct:ia) (us:E'),us.length=ps.length->bindArgs (Li x q (gb st) (dy st) (ah st) .none kV ε Y an O ct) ⟨us,[]⟩=pure (ps.zip us)):∃d,FT K x q st f d ps:=by
 obtain⟨_,_,_,_,_,_,_,_,_,h1,h2,Z⟩:=h;have F:=EA (st:=st) h1 h2 Z;exact⟨_,F,F.binds g⟩
theorem ao {X:Cx} {CX:CXT} {k j:Nat} {f:gn} {fd:mu} {ps:C'} {sp:Sp} {E:XK} {x n q:Kz} {st:N9} {p pos:Pos} {e:Ko} {es:gs Ko} {t:TA} (F:FnOk X.prog X.w X.K X.mg X.base CX k f fd ps sp) (Y:Room j X.A) (hm:X.mg x=ak (.ref f)) (U:FT X.K n q st f fd ps)
  (ha:PA X (e::es) t) (Z:nW CX X E:=by exact gX) (α:k<=j:=by decide) (β:Gl X x:=by rfl) (ι:(x == ("__debug__":Kz))=false:=by decide) (he:px (e::es) X.env=(false,eval e X.env)::px es X.env:=by rfl) (O:(backTo pos (px es X.env)).any (·.1)=false:=by rfl):
  PE X (.Call (.Name x p) (e::es) [] pos) (Ce sp [] E t):=FW F (Y.mono α) β hm U.1.2 U.2 .nil Z ha ι he O
noncomputable abbrev NI (K:aS) (x:Kz) (f:gn):Prop:=RF K La x=ak (ak (.ref f))
noncomputable abbrev NN (K:aS) (x:Kz):Prop:=RF K La x=ak hB
noncomputable abbrev FI (K:aS) (c:gn) (x:Kz) (f:gn):Prop:=Kh K (.ref c) x=ak (ak (.ref f))
noncomputable abbrev FN (K:aS) (c:gn) (x:Kz):Prop:=Kh K (.ref c) x=ak hB
theorem bln0 {l:gs Ld} (h:l.length=0):l=[]:=Mi h
theorem bln1 {l:gs Ld} (h:l.length=1):∃a,l=[a]:=List.length_eq_one_iff.mp h
theorem bln2 {l:gs Ld} (h:l.length=2):∃a b,l=[a,b]:=by cases l with | nil=>cases h | cons a l=>obtain ⟨b,z⟩:=bln1 (Nz h);exact ⟨a,b,z ▸ rfl⟩
theorem bln3 {l:gs Ld} (h:l.length=3):∃a b c,l=[a,b,c]:=by cases l with | nil=>cases h | cons a l=>obtain ⟨b,c,z⟩:=bln2 (Nz h);exact ⟨a,b,c,z ▸ rfl⟩
theorem bln4 {l:gs Ld} (h:l.length=4):∃a b c d,l=[a,b,c,d]:=by cases l with | nil=>cases h | cons a l=>obtain ⟨b,c,d,z⟩:=bln3 (Nz h);exact ⟨a,b,c,d,z ▸ rfl⟩
theorem bln5 {l:gs Ld} (h:l.length=5):∃a b c d e,l=[a,b,c,d,e]:=by cases l with | nil=>cases h | cons a l=>obtain ⟨b,c,d,e,z⟩:=bln4 (Nz h);exact ⟨a,b,c,d,e,z ▸ rfl⟩
theorem bln6 {l:gs Ld} (h:l.length=6):∃a b c d e f,l=[a,b,c,d,e,f]:=by cases l with | nil=>cases h | cons a l=>obtain ⟨b,c,d,e,f,z⟩:=bln5 (Nz h);exact ⟨a,b,c,d,e,f,z ▸ rfl⟩
theorem bln7 {l:gs Ld} (h:l.length=7):∃a b c d e f g,l=[a,b,c,d,e,f,g]:=by cases l with | nil=>cases h | cons a l=>obtain ⟨b,c,d,e,f,g,z⟩:=bln6 (Nz h);exact ⟨a,b,c,d,e,f,g,z ▸ rfl⟩
local macro_rules | `(tactic| walk_at "b") =>`(tactic| first | (refine fun _ _ _ _ _ _ us hl=>?_;obtain ⟨_,hz⟩:=bln1 hl;subst hz;rfl) | (refine fun _ _ _ _ _ _ us hl=>?_;obtain ⟨_,_,hz⟩:=bln2 hl;subst hz;rfl) | (refine fun _ _ _ _ _ _ us hl=>?_;obtain ⟨_,_,_,hz⟩:=bln3 hl;subst hz;rfl) | (refine fun _ _ _ _ _ _ us hl=>?_;obtain ⟨_,_,_,_,hz⟩:=bln4 hl;subst hz;rfl) | (refine fun _ _ _ _ _ _ us hl=>?_;obtain ⟨_,_,_,_,_,hz⟩:=bln5 hl;subst hz;rfl) | (refine fun _ _ _ _ _ _ us hl=>?_;obtain ⟨_,_,_,_,_,_,hz⟩:=bln6 hl;subst hz;rfl) | (refine fun _ _ _ _ _ _ us hl=>?_;obtain ⟨_,_,_,_,_,_,_,hz⟩:=bln7 hl;subst hz;rfl))
abbrev n10:C':=["way","stores"]
abbrev n11:C':=["_law_k","_law_mask","_law_script","_law_start"]
abbrev n12:C':=["machine","found","rows","firsts","stores","states","inputs","begin","sums"]
abbrev n13:C':=["machine","bars","stores","rows","ways","states"]
abbrev n14:C':=["_law_script","_law_start","_law_most","_law_cell_here","_law_stores","_law_inputs","_law_outputs","_law_digits","_law_way","_law_one","_law_other","_law_shown","_law_straight"]
abbrev n15:C':=["place","pair","state","row"]
abbrev n16:C':=["state","row","states","machine"]
abbrev n17:C':=["machine","turns","outs","singles","whole","told","turn"]
abbrev n18:C':=["machine","delay","mask","outs","store_mask","looks","answer","place","kept"]
abbrev n19:C':=["machine","delay","masks","tellings","nexts"]
set_option genInjectivity false in
set_option genSizeOf false in
structure Ad where
 dG:gn
 kq:mu
 gG:gn
 qr:mu
 qj:gn
 EF:mu
 iz:gn
 vt:mu
 ix:gn
 vp:mu
 jt:gn
 xI:mu
 fW:gn
 sj:mu
 iy:gn
 vq:mu
 cM:gn
 mr:mu
 jv:gn
 xK:mu
 dq:gn
 nS:mu
 aN:gn
 iK:mu
 a9:gn
 jJ:mu
 aU:gn
 jb:mu
 bz:gn
 kO:mu
 aG:gn
 gH:mu
 bA:gn
 kP:mu
 a8:gn
 jI:mu
 bB:gn
 jy:mu
 jx:ia
 bb:gn
 jK:mu
 bC:gn
 kQ:mu
 a7:gn
 jH:mu
 bg:gn
 j6:mu
 cP:gn
 qx:mu
 bh:gn
 j8:mu
 qk:gn
 EG:mu
 iw:gn
 vo:mu
 jw:gn
 xM:mu
 ju:gn
 xJ:mu
 cL:gn
 mq:mu
 bt:gn
 i9:mu
 dr:gn
 nT:mu
 b7:gn
 kK:mu
 iu:gn
 vn:mu
 cK:gn
 ml:mu
 bP:gn
 j5:mu
 b8:gn
 kL:mu
 bp:gn
 i8:mu
 d4:gn
 qp:mu
 d6:gn
 qv:mu
 fZ:gn
 sv:mu
 dw:gn
 nV:mu
 cb:gn
 kM:mu
 cf:gn
 kN:mu
 d5:gn
 qt:mu
 fY:gn
 su:mu
 d7:gn
 qw:mu
 fX:gn
 sk:mu
 du:gn
 nU:mu
 bG:gn
 jG:mu
 cN:gn
 mw:mu
 cO:gn
 mx:mu
 bu:gn
 ja:mu
 yL:gn
 IR:mu
 aj:gn
 aV:gn
 cU:gn
 hG:gn
 jj:Tok
 kT:Tok
 ji:Tok
open PySem.W in
structure Tx (K:Frag) (mg:F') (a:Ad):Prop where
 hU:FT K "is_whole" "is_whole" mM a.dG a.kq ["thing"]
 nF:mg "is_whole"=ak (.ref a.dG)
 iB:FT K "is_mask" "is_mask" o6 a.gG a.qr ["thing","width"]
 me:mg "is_mask"=ak (.ref a.gG)
 sJ:FT K "even" "even" Af a.qj a.EF ["number"]
 Bb:mg "even"=ak (.ref a.qj)
 iC:FT K "bits_of" "bits_of" lL a.iz a.vt ["mask"]
 mf:mg "bits_of"=ak (.ref a.iz)
 kg:FT K "mask_of" "mask_of" o4 a.ix a.vp ["places"]
 vi:mg "mask_of"=ak (.ref a.ix)
 oO:FT K "packed" "packed" sV a.jt a.xI ["masks","width"]
 Dj:mg "packed"=ak (.ref a.jt)
 jc:FT K "unpacked" "unpacked" kj a.fW a.sj ["whole","width","count"]
 sg:mg "unpacked"=ak (.ref a.fW)
 mE:FT K "is_pair" "is_pair" o5 a.iy a.vq ["thing","stores","inputs"]
 Ba:mg "is_pair"=ak (.ref a.iy)
 gZ:FT K "check_table" "check_table" gU a.cM a.mr ["inputs","nexts","outs"]
 tW:mg "check_table"=ak (.ref a.cM)
 oP:FT K "is_odd" "is_odd" sX a.jv a.xK ["pair","state","row"]
 Dk:mg "is_odd"=ak (.ref a.jv)
 gI:FT K "odd_places" "odd_places" iF a.dq a.nS ["pairs","state","row"]
 nR:mg "odd_places"=ak (.ref a.dq)
 bX:FT K "__init__" "Machine.__init__" eW a.aN a.iK ["self","inputs","nexts","outs"]
 aT:FT K "stores" "Machine.stores" gL a.a9 a.jJ ["self"]
 aW:FT K "outputs" "Machine.outputs" fT a.aU a.jb ["self"]
 c5:FT K "told" "Machine.told" iN a.bz a.kO ["self"]
 aQ:FT K "check_state" "Machine.check_state" di a.aG a.gH ["self","state"]
 cj:FT K "step" "Machine.step" iO a.bA a.kP ["self","state","row"]
 cW:FT K "walked" "Machine.walked" gK a.a8 a.jI ["self","rows","state"]
 fK:FunD K "run" "Machine.run" dD a.bB a.jy a.jx
 jB:mF K a.jy ["self","rows","state"] [a.jx]
 sO:RelV (.int 0) a.jx
 cX:FT K "single" "Machine.single" gM a.bb a.jK ["self","which","turns"]
 ck:FT K "back" "Machine.back" iP a.bC a.kQ ["self","mask"]
 bT:FT K "__init__" "Steps.__init__" gJ a.a7 a.jH ["self","rows"]
 cA:FT K "lowered" "Steps.lowered" ie a.bg a.j6 ["self","mask"]
 iD:FT K "lay" "Steps.lay" k8 a.cP a.qx ["self","place","row"]
 cB:FT K "barring" "Steps.barring" ig a.bh a.j8 ["self","bit"]
 xT:FT K "base" "base" Ah a.qk a.EG ["rows"]
 IF:mg "base"=ak (.ref a.qk)
 je:FT K "sum_for" "sum_for" oZ a.iw a.vo ["rows","wish"]
 qd:mg "sum_for"=ak (.ref a.iw)
 kz:FT K "across" "across" oE a.jw a.xM ["rows","width"]
 tX:mg "across"=ak (.ref a.jw)
 mD:FT K "joined" "joined" sW a.ju a.xJ ["pair","stores"]
 xF:mg "joined"=ak (.ref a.ju)
 fz:FT K "silent_ways" "silent_ways" cH a.cL a.mq ["machine","bars"]
 md:mg "silent_ways"=ak (.ref a.cL)
 dI:FT K "silent_for_ever" "silent_for_ever" dC a.bt a.i9 ["machine"]
 nE:mg "silent_for_ever"=ak (.ref a.bt)
 iL:FT K "never_told" "never_told" cD a.dr a.nT ["machine"]
 vh:mg "never_told"=ak (.ref a.dr)
 gu:FT K "sign_answers" "sign_answers" dO a.b7 a.kK ["machine","turns"]
 rE:mg "sign_answers"=ak (.ref a.b7)
 ke:FT K "tellers" "tellers" oY a.iu a.vn ["machine","delay"]
 vg:mg "tellers"=ak (.ref a.iu)
 gY:FT K "teller_pair" "teller_pair" eU a.cK a.ml ["machine","delay","mask"]
 tV:mg "teller_pair"=ak (.ref a.cK)
 fH:FT K "followed_pair" "followed_pair" h8 a.bP a.j5 ["pair","tellings"]
 qe:mg "followed_pair"=ak (.ref a.bP)
 gv:FT K "kept_answers" "kept_answers" dP a.b8 a.kL ["machine","delay"]
 rF:mg "kept_answers"=ak (.ref a.b8)
 dH:FT K "telling_machine" "telling_machine" cv a.bp a.i8 ["machine","delay","masks"]
 nC:mg "telling_machine"=ak (.ref a.bp)
 gi:FT K "told_back" "told_back" kX a.d4 a.qp ["machine"]
 lH:mg "told_back"=ak (.ref a.d4)
 bH:FT K "_law_cell" "_law_cell" k4 a.d6 a.qv ["_law_script","_law_k"]
 cJ:mg "_law_cell"=ak (.ref a.d6)
 bS:FT K "_law_mix" "_law_mix" mQ a.fZ a.sv ["_law_cell_here","_law_k"]
 dF:mg "_law_mix"=ak (.ref a.fZ)
 cG:FT K "_law_masks" "_law_masks" jU a.dw a.nV ["_law_cell_here","_law_start","_law_many","_law_width","_law_digits"]
 gF:mg "_law_masks"=ak (.ref a.dw)
 gx:FT K "_law_thinned" "_law_thinned" iM a.cb a.kM ["_law_masks_here","_law_cell_here","_law_start","_law_way"]
 rG:mg "_law_thinned"=ak (.ref a.cb)
 gy:FT K "_law_machine" "_law_machine" cZ a.cf a.kN ["_law_script","_law_start","_law_most"]
 rH:mg "_law_machine"=ak (.ref a.cf)
 jA:FT K "_law_rows" "_law_rows" kZ a.d5 a.qt ["_law_cell_here","_law_many","_law_width"]
 wC:mg "_law_rows"=ak (.ref a.d5)
 jf:FT K "_law_odd" "_law_odd" mP a.fY a.su ["_law_mask"]
 sh:mg "_law_odd"=ak (.ref a.fY)
 d9:FT K "_law_bits" "_law_bits" k7 a.d7 a.qw ["_law_pairs","_law_state","_law_row"]
 jr:mg "_law_bits"=ak (.ref a.d7)
 hV:FT K "_law_run" "_law_run" mO a.fX a.sk ["_law_told","_law_rows_here"]
 nG:mg "_law_run"=ak (.ref a.fX)
 cF:FT K "_law_whole" "_law_whole" jT a.du a.nU ["_law_thing","_law_high"]
 gE:mg "_law_whole"=ak (.ref a.du)
 cV:FT K "_law_back_good" "_law_back_good" dU a.bG a.jG ["_law_told","_law_found","_law_cells"]
 jF:mg "_law_back_good"=ak (.ref a.bG)
 g6:FT K "_law_summed" "_law_summed" jm a.cN a.mw ["_law_states","_law_places_here"]
 tY:mg "_law_summed"=ak (.ref a.cN)
 fJ:FT K "_law_places" "_law_places" gW a.cO a.mx ["_law_some","_law_many"]
 mh:mg "_law_places"=ak (.ref a.cO)
 dJ:FT K "_law_never_good" "_law_never_good" fQ a.bu a.ja ["_law_told","_law_found"]
 nH:mg "_law_never_good"=ak (.ref a.bu)
 Ea:Fun K "law" "law" vX a.yL a.IR
 qf:mg "Machine"=ak (.ref a.aj)
 aw:Cls K a.aj
 BV:GC K a.aj
 vI:Mk K a.aj a.aN
 bR:Meth K a.aj "stores" a.a9
 cy:Meth K a.aj "outputs" a.aU
 kI:Meth K a.aj "told" a.bz
 dn:Meth K a.aj "check_state" a.aG
 iT:Meth K a.aj "step" a.bA
 n8:Meth K a.aj "walked" a.a8
 tK:Meth K a.aj "run" a.bB
 n9:Meth K a.aj "single" a.bb
 iU:Meth K a.aj "back" a.bC
 aR:gQ K a.aj "inputs"
 bE:gQ K a.aj "nexts"
 bZ:gQ K a.aj "outs"
 fV:kitOne K (.ref a.aj) (.ref a.aj)=ak true
 wD:mg "Steps"=ak (.ref a.aV)
 dA:Cls K a.aV
 wR:Mk K a.aV a.a7
 jY:Meth K a.aV "lowered" a.bg
 wm:Meth K a.aV "lay" a.cP
 jZ:Meth K a.aV "barring" a.bh
 bY:gQ K a.aV "by_top"
 d0:gQ K a.aV "free_places"
 iI:gQ K a.aV "null_masks"
 qg:mg "BadMask"=ak (.ref a.cU)
 hX:excIn K a.cU [.type "ValueError",.type "Exception",.type "BaseException",.type "object"] "ValueError.__new__"=true
 ko:mg "BadTable"=ak (.ref a.hG)
 eg:excIn K a.hG [.type "ValueError",.type "Exception",.type "BaseException",.type "object"] "ValueError.__new__"=true
 ub:mg "MOST_INPUTS"=ak (.int 6 a.jj)
 wF:mg "MOST_OUTS"=ak (.int 6 a.kT)
 tZ:mg "MOST_STORES"=ak (.int 120 a.ji)
 JU:mg "all"=hB
 Ex:mg "bool"=hB
 dZ:mg "enumerate"=hB
 Im:mg "int"=hB
 bD:mg "isinstance"=hB
 i5:mg "len"=hB
 jE:mg "list"=hB
 JT:mg "max"=hB
 JS:mg "min"=hB
 iS:mg "range"=hB
 JR:mg "set"=hB
 xu:mg "sorted"=hB
 tI:mg "tuple"=hB
 C3:mg "zip"=hB
section
variable {P:qc} {w:y3} {K:aS} {mg:F'} {base:Ke} {a:Ad}
section
theorem ly (T:Tx K mg a):FnOk P w K mg base CX0 1 a.dG a.kq ["thing"] (oB K):=by
 refine T.hU.1.okA vW λY A outer s H vs Q E Z h=>?_;obtain⟨x,k,rfl,hk,q⟩:=h;refine⟨_,((ai (aC (nP (aF (dR (K:=K) rfl) (by rfl) T.bD z1 (!j 0 (aa (iQ (v:= .ty "int") (by rfl) T.Im Pz rfl) ag))) (uQ (Er (aF (dR (K:=K) rfl) (by rfl) T.bD z1 (!j 0 (aa (iQ (v:= .ty "bool") (by rfl) T.Ex Pt rfl) ag))))))))),aB (σ':=[ak _]) rfl ?_⟩;lia;unfold zw at q;cases O:subB k "int"
 ·rw[O] at q;lia;exact q
 ·rw[O] at q;lia;exact q
local macro_rules | `(tactic| walk_at "l2step") =>`(tactic| ((with_reducible refine' d8 ?e ?_);(case e=>walk_at "l2kind")))
theorem mV (T:Tx K mg a):FnOk P w K mg base CX0 2 a.gG a.qr ["thing","width"] (vO K):=by
 have α:FnOk P w K mg base CX0 1 a.dG a.kq ["thing"] (oB K):=ly T;refine T.iB.1.okA yo fun β A outer s H vs Q E Z h=>?_;obtain⟨x,k,Y,rfl,hk,q⟩:=h;refine⟨_,((ai (aC (nP (ao α Z T.nF T.hU (!j 0 ag)) (nP (il Ie (pv 0) af (aI _)) (uQ (il F1 (k9 (K:=K) rfl Lk KN KM lF (pv 0)) (pv 1) (aI _)))))))),aB (σ':=[ak _,ak _]) rfl ?_⟩;lia;cases x with
 | int i=>
   have hk:k="int":=hk;subst hk;lia;have q:Q (.bl (decide (0<=i)&&decide (((z4 i:Nat):Int)<=Y))) H:=q;cases O:decide (0<=i)
   ·rw[O] at q;lia;exact q
   ·rw[O] at q;lia;exact q
 | bl b=>have hk:k="bool":=hk;subst hk;lia;exact q
 | non=>have hk:k="NoneType":=hk;subst hk;lia;exact q
 | str z=>have hk:k="str":=hk;subst hk;lia;exact q
 | ref p=>
   rcases hk with ⟨rfl,_⟩ | ⟨rfl,_⟩ | ⟨rfl,_⟩<;>lia<;>exact q
 | _=>exact KD hk
local macro_rules | `(tactic| walk_at "l2step") =>`(tactic| ((with_reducible refine' iA ?e ?_);(case e=>walk_at "l2kind")))
theorem wg (T:Tx K mg a):FnOk P w K mg base CX0 1 a.qj a.EF ["number"] Ff:=by
 refine T.sJ.1.okA oV fun η A outer s H vs Q E θ h=>?_;obtain⟨m,rfl,hm,q⟩:=h
 refine⟨_,((ae (au (i:=1) oV.nd rfl @E (k9 (K:=K) rfl Lk KN KM lF (pv 0)))
  (ae (lO y2 (aD nY (pv 1) af (aI _)) (ae (au (i:=2) oV.nd rfl @E (ar lj (ar cx (pv 1) af) af))
  (ae (au (i:=0) oV.nd rfl @E (ar gP (ar uR (pv 0) (pv 2)) (ar fN (pv 0) (ar eJ (ar cE af (pv 2)) af))))
  (ai (au (i:=1) oV.nd rfl @E (pv 2))))))
  (ai (aC (il kB (pv 0) af (aI _))))))),aB (σ':=[ak _,hB,hB]) rfl ?_⟩
 lia;refine⟨fun μ σ' H'=>∃n hf,σ'=[ak (nat n),ak (nat μ),hf]/\H'=H/\n < 2 ^ μ/\μ<=1000/\M.od n=M.od m,⟨z4 (m:Int),m,hB,rfl,rfl,wK m,ui hm,rfl⟩,?_⟩;rintro μ σ' H' ⟨n,hf,rfl,rfl,hn,hw,γ⟩;lia;refine iteB (λY=>?_) (λY=>?_)
 ·have Y:=Md Y;have α:(μ + 1) / 2 < μ:=by omega
  refine⟨fun ν H2=>∃O hf,ν=[ak (nat O),ak (nat ((μ + 1) / 2)),hf]/\H2=H'/\O < 2 ^ ((μ + 1) / 2)/\M.od O=M.od m,fun ν H2 ⟨O,β,ζ,ε,δ,υ⟩=>⟨(μ + 1) / 2,α,O,β,ζ,ε,δ,@A,υ⟩,?_⟩;lia;refine⟨(n>>>((μ + 1) / 2))^^^(n&&&(2 ^ ((μ + 1) / 2) - 1)),ak (nat ((μ + 1) / 2)),?_,rfl,M.fold_lt μ _ n hn @A,?_⟩
  ·rw[A9,Bi]
  ·rw[<-γ];have f:=M.pb_fold μ ((μ + 1) / 2) n @A hn @A;show M.pb 1000 _=M.pb 1000 _;rw[M.pb_up (M.fold_lt μ _ n hn @A) @A,f,<-M.pb_up hn hw]
 ·have Y:=of_decide_eq_false Y;have Z:n < 2:=f' hn (gA @C (show μ<=1 by omega));lia;rw[show decide (V.int (n:Int)=V.int 0)= !M.od n from C1 Z,γ];exact q
theorem jD (T:Tx K mg a):FnOk P w K mg base CX0 2 a.bh a.j8 ["self","bit"] (GX a.aV):=by
 refine T.cB.1.okA dS λa0 A outer s H vs Q E ο h=>?_;obtain⟨p,d,f,n,rows,b,rfl,st,hb,η,ψ,θ,q⟩:=h;have hu:=A5 ο;obtain⟨dx,ho⟩:=st.ho;obtain⟨es,hd,ht,g,l⟩:=st.he;have nd:(es.map λe=>e.m.log2).Nodup:=by have:=g.nd;rw[Lc] at this;exact this
 refine⟨_,((ae (au (i:=2) dS.nd rfl @E (ar cE af (pv 1)))
  (ae (eX y2 rfl (aZ (K:=K) rfl (aF (yT rfl) (by rfl) T.xu PyProof.Rows.boot_sorted (aa (be (K:=K) rfl (pv 0) rfl) ag))) (ax (i:=3) dS.nd rfl @E) (ai (cI (cS (cw (ao (wg T) ο T.Bb T.sJ (aa (ar fN (pv 2) (!A @G (Ay hu (be (K:=K) rfl (pv 0) rfl) (pv 3) (λ_ _=>rfl)) af)) ag)))) (ai (au (i:=2) dS.nd rfl @E (ar gP (pv 2) (ar cE af (pv 3))))) aL)))
  (ai (aC (pv 2)))))),aB (σ':=[ak _,ak _,hB,hB]) rfl ?_⟩
 lia;refine bc ho T.dA T.bY rfl ?_;lia;refine Fq hd (Df es) (by unfold l8;rw[dt];omega) λL ns H1 f1 α ρ φ hw=>?_;obtain⟨ts,rfl,up,mem⟩:=vM φ hw nd;rw[<-F6] at ρ;lia;rw[shl1];refine fu (xs:=ts.map nat) (λi σ H'=>∃(m:Nat) (v:rl V),σ=[ak (.ref p),ak (nat b),ak (nat m),v]/\H'=H1/\M.BarI (es.map λe=>(e.m,e.p)) (ts.take i) b m) ⟨2 ^ b,hB,rfl,rfl,M.BarI.zero _ b⟩ (λi σ H' _ ⟨_,_,_,e,_⟩=>by rw[e];exact SqL.of ρ) ?_ ?_
 ·rintro i y σ H' τ ⟨m,v,rfl,rfl,I⟩;obtain⟨t,Y,rfl⟩:=aK τ;obtain⟨hi,ξ⟩:=eH.mp Y;rcases mH es (t:Int) with ⟨e,he,β,ev⟩ | ⟨δ,_⟩
  ·have β:e.m.log2=t:=by omega
   subst β;have O:(e.m,e.p)∈es.map (λe=>(e.m,e.p)):=oi.mpr ⟨e,he,rfl⟩;have Z:e.m < 2 ^ 1000:=M.span_lt η (g.span O);have ζ:e.m.log2 < 1000:=M.log2_under (g.nz _ O) Z;have υ:=α.get (ht e he)
   have γ:∀t∈ts.take i,t < e.m.log2:=λt hm=>by
    obtain⟨j,χ,π⟩:=KW.mp hm;rw[Kt] at χ;rw[Nl] at π;have:=KG.mp up j i @A hi @A;rw[π,ξ] at this;exact this
   have ω:e.m.log2≠b:=θ e.m (g.span O) (g.nz _ O);have ε:=g.nd;lia;refine bc (α.get ho) T.dA T.bY rfl ?_;lia;refine Ag (α.get hd) ev ?_;lia;rw[bw];refine⟨m&&&e.m,rfl,qE M7 Z,?_⟩;cases ι:M.od (m&&&e.m) with
   | true=>
     lia;refine⟨m^^^2 ^ e.m.log2,ak (nat e.m.log2),by rw[shl1,bj],rfl,?_⟩;rw[take_succ Y];exact I.flip (e:=(e.m,e.p)) ε g.nz O ι γ ω ζ
   | false=>
     lia;rw[take_succ Y];exact I.keep (e:=(e.m,e.p)) ε O ι
  ·obtain⟨e,he,β⟩:=(mem t).mp (hQ Y);exact kv (by rw[β]) (δ e he)
 ·rintro σ H' ⟨m,v,rfl,rfl,I⟩;rw[dt,z9] at I;lia;refine q m H' α (I.done g λe he=>?_);obtain⟨e',ν,rfl⟩:=oi.mp he;exact(mem _).mpr ⟨e',ν,rfl⟩
theorem km (T:Tx K mg a):FnOk P w K mg base CX0 1 a.iz a.vt ["mask"] Fh:=by
 refine T.iC.1.okA yp λY A outer s H vs Q E Z h=>?_;obtain⟨m,rfl,hm,q⟩:=h;have hb:=ui hm;refine⟨_,((ai (aC (dY (osc:=ah lL) (ON:=["mask"]) (N:=["place","mask"]) (n:=1) (fx:=[0]) rfl rfl rfl (by decide +kernel) (fg (by rfl) T.iS (aa (k9 (K:=K) rfl Lk KN KM lF (pv 0)) ag)) (aX @C) (λ_ _ _ _ _=>⟨(ax (i:=0) (show y' (["place","mask"]:C') from by decide +kernel) rfl @E),(o8 (aD kB (ar fN (ar uR (pv 1) (pv 0)) af) af (aI _))),(pv 0)⟩))))),aB (σ':=[ak _]) rfl ?_⟩;lia;intro D O;refine gc (λi ys H'=>Cs (λi ys=>ys=(M.pl i m).map nat) H D i ys H') (Cs.zero O rfl) (λi ys H' hi c=>?_) (λys H' c=>?_)
 ·lia;rw[DT];by_cases ht:m.testBit i=true
  ·rw[qb ht];lia;refine Cs.put O c.same c.at' c.len @A ?_;rw[c.pv,M.pl_next,qb ht,hH,Na];rfl
  ·rw[ov ht];lia;refine Cs.skip c.same c.at' c.len ?_;rw[c.pv,M.pl_next,ov ht,LD]
 ·have e:=c.pv;rw[pT] at e;refine q D H' O c.same ?_;rw[c.at',e,M.pl_up (wK m) hb]
theorem r8 (T:Tx K mg a):FnOk P w K mg base CX0 1 a.ix a.vp ["places"] zQ:=by
 refine T.kg.1.okA ki λZ A outer s H vs Q E α h=>?_;obtain⟨r,ps,rfl,Y,hl,q⟩:=h
 refine⟨_,((ae (au (i:=1) ki.nd rfl @E af)
  (ae (eX y2 rfl (aZ (K:=K) rfl (pv 0)) (ax (i:=2) ki.nd rfl @E) (ai (au (i:=1) ki.nd rfl @E (ar gP (pv 1) (ar cE af (pv 2))))))
  (ai (aC (pv 1)))))),aB (σ':=[ak _,hB,hB]) rfl ?_⟩
 lia;refine fu (xs:=ps.map nat) (λi σ H'=>∃v,σ=[ak (.ref r),ak (nat (M.xm (ps.take i))),v]/\H'=H) ⟨hB,rfl,rfl⟩ (λi σ H' _ ⟨_,_,e⟩=>by rw[e];exact SqL.of Y) ?_ ?_
 ·rintro i y σ H' O ⟨v,rfl,rfl⟩;obtain⟨k,hk,rfl⟩:=aK O;have:=hl k (hQ hk);lia;refine⟨ak (nat k),?_,rfl⟩;rw[shl1,bj,EW hk]
 ·rintro σ H' ⟨v,rfl,rfl⟩;rw[dt,z9];lia;exact q
end
section
local macro_rules | `(tactic| walk_at "l2step") =>`(tactic| first | ((with_reducible refine' d8 ?e ?_);(case e=>walk_at "l2kind")) | ((with_reducible refine' iA ?e ?_);(case e=>walk_at "l2kind")) | (with_reducible refine c9 ?_) | (with_reducible refine eV ?_))
section
local macro_rules | `(tactic| walk_at "l2step") =>`(tactic| first | (with_reducible refine Ae ?_) | (with_reducible refine G5 ?_))
theorem pF (T:Tx K mg a):FnOk P w K mg base CX0 1 a.fY a.su ["_law_mask"] Cq:=by
 refine T.jf.1.okA jk fun γ A outer s H vs Q E δ h=>?_;obtain⟨m,rfl,hm,q⟩:=h
 refine⟨_,((ae (au (i:=1) jk.nd rfl @E af)
  (ae (lO y2 (aD nY (pv 0) af (aI _)) (ae (au (i:=0) jk.nd rfl @E (ar fN (pv 0) (ar eJ (pv 0) af)))
  (ai (au (i:=1) jk.nd rfl @E (ar eJ af (pv 1))))))
  (ai (aC (pv 1)))))),aB (σ':=[ak _,hB]) rfl ?_⟩
 lia;refine⟨fun μ σ' H'=>∃o,σ'=[ak (nat μ),ak (nat (M.bn o))]/\H'=H/\μ < 2 ^ 1000/\(o^^M.od μ)=M.od m,⟨m,false,rfl,rfl,hm,@D⟩,?_⟩;rintro μ σ' H' ⟨o,rfl,rfl,ο,ho⟩;lia;by_cases α:0 < μ
 ·refine Ac (pB @A) ?_;refine⟨fun ν H2=>∃(n:Nat) (o:KS),ν=[ak (nat n),ak (nat (M.bn o))]/\H2=H'/\n < μ/\(o^^M.od n)=M.od m,fun ν H2 ⟨n,o,Z,Y,O,υ⟩=>⟨n,O,o,Z,Y,@A,υ⟩,?_⟩;lia;have Z:(μ:Int) - 1=((μ - 1:Nat):Int):=by omega
  have O:(1:Int) - ((M.bn o:Nat):Int)=((M.bn (!o):Nat):Int):=by cases o<;>rfl
  rw[Z,bw,O];refine⟨μ&&&(μ - 1),!o,rfl,rfl,M.drop_less α,?_⟩;have Y:M.od (μ&&&(μ - 1))= !M.od μ:=M.drop_bit 1000 μ α ο;rw[Y,<-ho];cases o<;>cases M.od μ<;>rfl
 ·have β:μ=0:=by omega
  subst β;lia;rw[M.od_zero] at ho;simp at ho;rw[ho];exact q
theorem iH (T:Tx K mg a):FnOk P w K mg base CX0 2 a.d7 a.qw ["_law_pairs","_law_state","_law_row"] (Cr K):=by
 refine T.d9.1.okA gz fun θ A outer s H vs Q E γ h=>?_;obtain⟨r,ps,x,y,rfl,ζ,pt,hl,ε,δ,q⟩:=h
 refine⟨_,((ae (au (i:=3) gz.nd rfl @E af)
  (ae (eX y2 rfl (mS (K:=K) rfl (by rfl) T.dZ (pv 0)) (nO rfl (aM (ax (i:=4) gz.nd rfl @E) (aM (ax (i:=5) gz.nd rfl @E) ik))) (ai (au (i:=3) gz.nd rfl @E (ar JP (pv 3) (ar cE (ar gP (ao (pF T) γ T.sh T.jf (aa (ar fN (!A @G (pv 5) af) (pv 1)) ag)) (ao (pF T) γ T.sh T.jf (aa (ar fN (!A @G (pv 5) af) (pv 2)) ag))) (pv 4))))))
  (ai (aC (pv 3)))))),aB (σ':=[ak _,ak _,ak _,hB,hB,hB]) rfl ?_⟩
 lia;refine oJ (xs:=refs ps) (λi σ H'=>∃α Z,σ=[ak (.ref r),ak (nat x),ak (nat y),ak (nat (M.tr2 (prs (ps.take i)) x y)),α,Z]/\Same H H') ⟨hB,hB,rfl,Same.refl _⟩ (λi σ H' _ ⟨_,_,_,e⟩=>Same.seq e ζ) ?_ ?_
 ·rintro i z σ H' p ξ hz ⟨α,Z,rfl,Y⟩ fp β ν;obtain⟨φ,O,rfl⟩:=aK hz;have hi:=(eH.mp O).1;have ht:=β.get (Y.get (pt φ (hQ O)));lia;rw[bw];refine⟨φ.2.1&&&x,rfl,qE M7 ε,?_⟩;lia;rw[bw];refine⟨φ.2.2&&&y,rfl,qE M7 δ,?_⟩;lia;rw[bj];have ι:CPow ((M.bn (M.od (φ.2.1&&&x))^^^M.bn (M.od (φ.2.2&&&y)):Nat):Int) (i:Int):=⟨@A,@A,by rw[EI];cases(M.od (φ.2.1&&&x)^^M.od (φ.2.2&&&y))<;>decide⟩;lia
  have η:((M.bn (M.od (φ.2.1&&&x))^^^M.bn (M.od (φ.2.2&&&y)):Nat):Int) * 2 ^ ((i:Int).toNat)=(((M.bn (M.od (φ.2.1&&&x))^^^M.bn (M.od (φ.2.2&&&y))) <<< i:Nat):Int):=by
   rw[pT,Lr];push_cast;rfl
  rw[η,vz,B9 x y O];exact⟨_,_,rfl,Y.trans β⟩
 ·rintro σ H' ⟨α,Z,rfl,Y⟩;rw[dc,z9];lia;exact q _ Y
theorem lC (T:Tx K mg a):FnOk P w K mg base CX0 3 a.fX a.sk ["_law_told","_law_rows_here"] (zR K):=by
 refine T.hV.1.okA hZ fun χ A outer s H vs Q E ζ h=>?_;obtain⟨t,n,o,r,m,nx,os,rs,rfl,et,sn,φ,pn,po,ln,lo,τ,lr,hb,q⟩:=h;have ξ:(2:Nat) ^ 64<=2 ^ 1000:=gA @C @C;have β:(2:Nat) ^ (@F).length<=2 ^ 1000:=gA @C (by rw[aq];omega)
 refine⟨_,((ae (au (i:=2) hZ.nd rfl @E af)
  (ae (au (i:=3) hZ.nd rfl @E (de ag))
  (ae (eX y2 rfl (aZ (K:=K) rfl (pv 1)) (ax (i:=4) hZ.nd rfl @E) (ae (c6 (iZ (K:=K) rfl z5 Kq Kp dj (pv 3) (aa (ao (iH T) ζ T.jr T.d9 (aa (!A @G (pv 0) af) (!j 2 (!j 4 ag)))) ag)))
  (ai (au (i:=2) hZ.nd rfl @E (ao (iH T) ζ T.jr T.d9 (aa (!A @G (pv 0) af) (!j 2 (!j 4 ag))))))))
  (ai (aC (pv 3))))))),aB (σ':=[ak _,ak _,hB,hB,hB]) rfl ?_⟩
 lia;intro D H1 θ ι υ;lia;refine fu (xs:=rs.map nat) (λi σ H'=>∃v,σ=[ak (.ref t),ak (.ref r),ak (nat (M.wst @F 0 (rs.take i))),ak (.ref D),v]/\Same H H'/\H' D=ak (.lst ((M.wan @F (prs os) 0 (rs.take i)).map nat))) ⟨hB,rfl,ι,υ⟩ (λi σ H' _ ⟨_,_,s',_⟩=>SqL.of (s'.get τ)) ?_ ?_
 ·rintro i y σ H2 ο ⟨v,rfl,Y,α⟩;obtain⟨u,hu,rfl⟩:=aK ο;have π:=(eH.mp hu).1;have ε:=hb u (hQ hu);have η:M.wst @F 0 (rs.take i) < 2 ^ 1000:=f' (M.wst_lt (lh _)) β;have ρ:=Y.get et;lia;refine⟨o,os,_,u,rfl,Same.seq Y φ,po.same Y,lo,η,@A,λH3 δ=>?_⟩;lia;refine gm (δ.get α) (by rw[dt,M.wan_len,Kt,qq];omega) λZ ω=>?_;have O:Same H Z:=λb ob e=>ω.oth _ _ (ay e θ) (δ.get (Y.get e));have ν:=O.get et;lia;refine⟨n,nx,_,u,rfl,Same.seq O sn,pn.same O,ln,η,@A,fun ψ γ=>?_⟩;lia;rw[take_succ hu,M.wst_snoc,M.wan_snoc];refine⟨_,rfl,O.trans γ,?_⟩;rw[γ.get ω.at',hH];rfl
 ·rintro σ H2 ⟨v,rfl,Y,α⟩;rw[dt,z9] at α;lia;exact q D H2 θ Y α
theorem fk (T:Tx K mg a):FnOk P w K mg base CX0 1 a.du a.nU ["_law_thing","_law_high"] vP:=by
 refine T.cF.1.okA sU λO A outer s H vs Q E Y h=>?_;obtain⟨x,b,rfl,q⟩:=h;refine⟨_,((ai (aC (nP (aF (dR (K:=K) rfl) (by rfl) T.bD z1 (!j 0 (aa (iQ (v:= .ty "int") (by rfl) T.Im Pz rfl) ag))) (nP (Er (aF (dR (K:=K) rfl) (by rfl) T.bD z1 (!j 0 (aa (iQ (v:= .ty "bool") (by rfl) T.Ex Pt rfl) ag)))) (uQ (CW F1 F1 af (pv 0) (pv 1)))))))),aB (σ':=[ak _,ak _]) rfl ?_⟩;lia;rw[show decide ((x:Int)<=(b:Int))=decide (x<=b) from decide_eq_decide.mpr Int.ofNat_le];exact q
theorem qV (T:Tx K mg a):FnOk P w K mg base CX0 1 a.cN a.mw ["_law_states","_law_places_here"] yj:=by
 refine T.g6.1.okA gj λZ A outer s H vs Q E α h=>?_;obtain⟨S,p,ss,ps,rfl,β,ep,O,q⟩:=h
 refine⟨_,((ae (au (i:=2) gj.nd rfl @E af)
  (ae (eX y2 rfl (aZ (K:=K) rfl (pv 1)) (ax (i:=3) gj.nd rfl @E) (ai (au (i:=2) gj.nd rfl @E (ar gP (pv 2) (!A (gq (K:=K) rfl) (pv 0) (pv 3))))))
  (ai (aC (pv 2)))))),aB (σ':=[ak _,ak _,hB,hB]) rfl ?_⟩
 lia;refine fu (xs:=ps.map nat) (λi σ H'=>∃v,σ=[ak (.ref S),ak (.ref p),ak (nat (M.xs ss (ps.take i))),v]/\H'=H) ⟨hB,rfl,rfl⟩ (λi σ H' _ ⟨_,_,e⟩=>by rw[e];exact SqL.of ep) ?_ ?_
 ·rintro i y σ H2 Y ⟨v,rfl,rfl⟩;obtain⟨k,hk,rfl⟩:=aK Y;have ρ:=O k (hQ hk);have ha:atI (ss.map nat) ((k:Nat):Int)=ak (nat (ss.getD k 0)):=jz (by rw[lz,eh,fy ρ];rfl);lia;rw[bj,<-ET hk];exact⟨_,rfl,rfl⟩
 ·rintro σ H2 ⟨v,rfl,rfl⟩;rw[dt,z9];lia;exact q
theorem kH (T:Tx K mg a):FnOk P w K mg base CX0 2 a.cO a.mx ["_law_some","_law_many"] uF:=by
 refine T.fJ.1.okA qL fun π A outer s H vs Q E ε h=>?_;obtain⟨p,ps,n,rfl,ep,α,Y,hn,q⟩:=h;have O:=A6 ε
 refine⟨_,((ae (cI (PW.pt (iE (cS (cw (aF (dR (K:=K) rfl) (by rfl) T.bD z1 (!j 0 (aa (iQ (v:= .ty "list") (by rfl) T.jE Kl rfl) ag))))) (ij (aD (tE (K:=K) rfl O) (dY (osc:=ah gW) (ON:=["_law_some","_law_many"]) (N:=["_law_place","_law_many"]) (n:=1) (fx:=[1]) rfl rfl rfl (by decide +kernel) (aZ (K:=K) rfl (pv 0)) (aX @C) (λ_ _ _ _ _=>⟨(ax (i:=0) (show y' (["_law_place","_law_many"]:C') from by decide +kernel) rfl @E),(o8 (cS (cw (ao (fk T) ε T.gE T.cF (!j 0 (aa (ar eJ (pv 1) af) ag)))))),(pv 0)⟩)) (de ag) (aI _))))) (ai (aC lg)) aL)
  (ai (aC (il (we (K:=K) rfl O) (pv 0) (yy rfl (by rfl) (by rfl) T.xu T.JR (pv 0)) (aI _)))))),aB (σ':=[ak _,ak _]) rfl ?_⟩
 lia;intro D ι;refine bW (xs:=ps.map nat) (λi ys H'=>Cs (λi ys=>ys=[]) H D i ys H') (Cs.zero ι rfl) (λi ys H' _ c=>SqL.of (c.same.get ep)) (λi x ys H' θ c=>?_) (λys H1 c=>?_)
 ·obtain⟨k,hk,rfl⟩:=aK θ;have ρ:=Y k (hQ hk);lia;refine⟨k,n - 1,by rw[show((n - 1:Nat):Int)=(n:Int) - 1 by omega],?_⟩;rw[pB (show k<=n - 1 by omega)];lia;exact Cs.skip c.same c.at' c.len c.pv
 ·have ζ:=c.at';rw[c.pv] at ζ;have η:=c.same;clear c;lia;intro L2 H2 υ δ ο;refine rS (ns:=[]) (SqL.of (δ.get ζ)) (SqL.of ο) ?_;have ξ:=η.trans δ;have Z:=ξ.get ep;lia;refine⟨p,ps,rfl,Z,α,λk hk=>f' (Y k hk) hn,fun β φ τ γ ν=>?_⟩;refine rS (ns:=ps) (SqL.of (γ.get Z)) (SqL.of ν) ?_;exact q _ (ξ.trans γ)
end
end
section
local macro_rules | `(tactic| walk_at "l2step") =>`(tactic| (with_reducible refine JA ?_))
section
theorem nQ (T:Tx K mg a):FnOk P w K mg base CX0 1 a.d6 a.qv ["_law_script","_law_k"] (w6 K):=by
 refine T.bH.1.okA uL fun α A outer s H vs Q E β h=>?_;obtain⟨p,ns,k,rfl,γ,Z,q⟩:=h
 refine⟨_,((ae (cI (aD CZ (pv 1) (aF (bf (K:=K) rfl) (by rfl) T.i5 Kd (!j 0 ag)) (aI _)) (ai (aC (!A (gq (K:=K) rfl) (pv 0) (pv 1)))) aL)
  (ai (aC (ar cx (ar iG af (pv 1)) af))))),aB (σ':=[ak _,ak _]) rfl ?_⟩
 lia;rw[dt];unfold cell at q;refine ite2 (λO=>?_) (λO=>?_)
 ·have O:=Md O
  have ha:atI (ns.map V.int) k=ak (.int (ns.getD k.toNat 0)):=by
   obtain⟨j,rfl⟩:=Mf Z;have Y:j < ns.length:=by omega
   exact jz (by rw[lz,fy Y,eh,pT,fy Y];rfl)
  rw[qb O] at q;lia;exact q
 ·have O:¬k < ns.length:=λz=>O (pB z);rw[ov O] at q;lia;exact q
theorem lD (T:Tx K mg a):FnOk P w K mg base CX0 1 a.fZ a.sv ["_law_cell_here","_law_k"] Ei:=by
 refine T.bS.1.okA kU fun α A outer s H vs Q E γ h=>?_;obtain⟨c,k,rfl,δ,h1,q⟩:=h
 refine⟨_,((ae (au (i:=2) kU.nd rfl @E (ar fj (ar cx (ar cx (ar iG (ar fj (pv 0) af) af) (ar iG af (pv 1))) af) af))
  (ae (au (i:=2) kU.nd rfl @E (ar fj (ar iG (pv 2) (pv 2)) af))
  (ai (aC (ar fj (ar iG (pv 2) (ar cx (ar cx (pv 2) (ar iG af (pv 1))) af)) af)))))),aB (σ':=[ak _,ak _,hB]) rfl ?_⟩
 lia;show Q (.int _) H;generalize β:(_:Int) * (_ + 48271 * k + 7)=x;have Y:0<=x % 2147483587:=RS _ @C;have O:x % 2147483587 < 2147483587:=Rk _ @C;obtain⟨j,Z⟩:=Mf Y;rw[Z] at O ⊢;exact q j @A
local macro_rules | `(tactic| walk_at "l2step") =>`(tactic| first | ((with_reducible refine' qC ?e ?a ?_);(case e=>walk_at "l2hp");(case a=>walk_at "l2side")) | ((with_reducible refine' Gs ?a ?b ?_);(case a=>walk_at "l2side");(case b=>walk_at "l2side");(with_reducible intro _ _)))
local macro_rules | `(tactic| walk_at "l2step") =>`(tactic| first | (with_reducible refine Jv ?_))
theorem fm (T:Tx K mg a):FnOk P w K mg base CX0 2 a.dw a.nV ["_law_cell_here","_law_start","_law_many","_law_width","_law_digits"] zT:=by
 refine T.cG.1.okA eR fun χ A outer s H vs Q E ν h=>?_;obtain⟨c,st,n,O,dg,rfl,ι,hn,hw,q⟩:=h;have τ:n * O<=1024:=Lf (MK hn hw) @C;have π:(1:Int) * 2 ^ ((O:Int).toNat)=((2 ^ O:Nat):Int):=shl1 O;have ξ:=lh O;have ε:2 ^ O<=2 ^ 16:=gA @C hw;have ζ:(n:Int) * (O:Int) + 1=((n * O + 1:Nat):Int):=by push_cast;rfl
 have ο:(1:Int) * 2 ^ (((n * O + 1:Nat):Int).toNat)=((2 ^ (n * O + 1):Nat):Int):=shl1 _;have η:=lh (n * O + 1)
 refine⟨_,((ae (au (i:=5) eR.nd rfl @E (de ag))
  (ae (au (i:=6) eR.nd rfl @E (ar lj (ar fj (pv 0) (ar cE af (ar cx (ar iG (pv 2) (pv 3)) af))) af))
  (ae (eX y2 rfl (fg (by rfl) T.iS (!j 2 ag)) (ax (i:=7) eR.nd rfl @E) (ai (cI (cw (pv 4)) (ae (c6 (iZ (K:=K) rfl z5 Kq Kp dj (pv 5) (aa (ar fj (pv 6) (ar cE af (pv 3))) ag)))
  (ai (au (i:=6) eR.nd rfl @E (ar lj (pv 6) (ar cE af (pv 3)))))) (ai (c6 (iZ (K:=K) rfl z5 Kq Kp dj (pv 5) (aa (ar fj (ao (lD T) ν T.dF T.bS (!j 0 (aa (ar cx (pv 1) (pv 7)) ag))) (ar cE af (pv 3))) ag)))))))
  (ai (aC (pv 5))))))),aB (σ':=[ak _,ak _,ak _,ak _,ak _,hB,hB,hB]) rfl ?_⟩
 lia;intro D H1 δ θ φ;lia;rw[ζ];lia;rw[ο];lia;refine qh (λi σ H'=>∃(l:Int) (v:rl V) (ms:D'),σ=[ak (.int c),ak (nat st),ak (nat n),ak (nat O),ak (.bl dg),ak (.ref D),ak (.int l),v]/\Same H H'/\H' D=ak (.lst (ms.map nat))/\ms.length=i/\∀x∈ms,x < 2 ^ O) ⟨_,hB,[],rfl,θ,φ,rfl,λ_ h=>kv h @D⟩ ?_ ?_
 ·rintro i σ H' hi ⟨l,v,ms,rfl,Z,α,el,hb⟩;have υ:i < n:=by omega
  clear ο η ζ;cases dg with
  | true=>
    lia;rw[π];obtain⟨k,hk,ρ⟩:=oK (c:=l) (m:=((2 ^ O:Nat):Int)) @A;lia;rw[hk];refine gm α (by rw[dt,qq];omega) fun ψ Y=>?_;lia;rw[π];lia;refine⟨_,_,ms++[k],rfl,λb o e=>Y.oth _ _ (ay e δ) (Z.get e),?_,by rw[hC,el];rfl,λx γ=>?_⟩
    ·rw[Y.at',hH];rfl
    ·rcases oT.mp γ with h | h
     ·exact hb x h
     ·rw[hL.mp h];omega
  | false=>
    lia;rename_i r β;rw[π];obtain⟨k,hk,ρ⟩:=oK (c:=(r:Int)) (m:=((2 ^ O:Nat):Int)) @A;lia;rw[hk];refine gm α (by rw[dt,qq];omega) fun ψ Y=>?_;lia;refine⟨_,_,ms++[k],rfl,λb o e=>Y.oth _ _ (ay e δ) (Z.get e),?_,by rw[hC,el];rfl,λx γ=>?_⟩
    ·rw[Y.at',hH];rfl
    ·rcases oT.mp γ with h | h
     ·exact hb x h
     ·rw[hL.mp h];omega
 ·rintro σ H' ⟨l,v,ms,rfl,Z,α,el,hb⟩;lia;exact q D H' ms δ Z α @A hb
theorem pE (T:Tx K mg a):FnOk P w K mg base CX0 2 a.cb a.kM ["_law_masks_here","_law_cell_here","_law_start","_law_way"] Cn:=by
 refine T.gx.1.okA bN λa4 A outer s H vs Q E hr h=>?_;obtain⟨r,ms,c,st,η,Z,rfl,hp,a0,hw,hl,hb,q⟩:=h
 refine⟨_,((ae (au (i:=4) bN.nd rfl @E (de ag))
  (ae (eX y2 rfl (mS (K:=K) rfl (by rfl) T.dZ (pv 0)) (nO rfl (aM (ax (i:=5) bN.nd rfl @E) (aM (ax (i:=6) bN.nd rfl @E) ik))) (jV (cI (aD kB (pv 3) af (aI _)) (ai (au (i:=6) bN.nd rfl @E (ar fN (pv 6) (ao (lD T) hr T.dF T.bS (!j 1 (aa (ar cx (pv 2) (pv 5)) ag)))))) aL)
  (jV (cI (PW.pt (Ap (aD kB (pv 3) af (aI _)) (v5 (aD nY (pv 5) af (aI _))))) (ai (au (i:=6) bN.nd rfl @E (ar cE af (ar eJ (pv 5) af)))) aL)
  (jV (cI (aD kB (pv 3) af (aI _)) (ai (au (i:=6) bN.nd rfl @E (ar fN (pv 6) (!A (gq (K:=K) rfl) (de (aa af (aa af ag))) (ar fj (pv 5) af))))) aL)
  (ai (c6 (iZ (K:=K) rfl z5 Kq Kp dj (pv 4) (!j 6 ag))))))))
  (ai (aC (pv 4)))))),aB (σ':=[ak _,ak _,ak _,ak _,hB,hB,hB]) rfl ?_⟩
 lia;intro D H1 ω s1 τ;lia;refine oJ (xs:=ms.map nat) (λi σ H'=>∃(v θ:rl V) (O:D'),σ=[ak (.ref r),ak (.int c),ak (nat st),ak (nat η),ak (.ref D),v,θ]/\Same H H'/\H' D=ak (.lst (O.map nat))/\O.length=i/\∀x∈O,x < 2 ^ Z) ⟨hB,hB,[],rfl,s1,τ,rfl,λ_ h=>kv h @D⟩ (λi σ H' _ ⟨_,_,_,_,e,_⟩=>SqL.of (e.get hp)) ?_ ?_
 ·rintro i y σ H' p υ hy ⟨v,θ,O,rfl,ν,π,el,ρ⟩ fp χ e7;obtain⟨x,ψ,rfl⟩:=aK hy;have hi:=(eH.mp ψ).1;have α:=hb x (hQ ψ);have ο:=χ.get π;lia;refine uM (fun σ H2=>υ=H2/\∃x:Nat,x < 2 ^ Z/\σ=[ak (.ref r),ak (.int c),ak (nat st),ak (nat η),ak (.ref D),ak (nat i),ak (nat x)]) ?_ ?_
  ·lia;refine iteB (fun ε=>?_) (fun ε=>?_)
   ·lia;rw[bw];exact⟨_,qE MO α,rfl⟩
   ·lia;exact⟨_,α,rfl⟩
  ·rintro σ H2 ⟨rfl,x2,δ,rfl⟩;lia;refine uM (fun σ H2=>υ=H2/\∃x:Nat,x < 2 ^ Z/\σ=[ak (.ref r),ak (.int c),ak (nat st),ak (nat η),ak (.ref D),ak (nat i),ak (nat x)]) ?_ ?_
   ·lia;refine iteB (fun ε=>?_) (fun ε=>?_)
    ·lia;refine iteB (fun γ=>?_) (fun γ=>?_)
     ·have a3:0 < i:=by have:=Md γ;omega
      have τ:(i:Int) - 1=((i - 1:Nat):Int):=by omega
      lia;rw[τ];lia;rw[shl1];exact⟨_,Kf @C (show i - 1 < Z by omega),rfl⟩
     ·lia;exact⟨_,δ,rfl⟩
    ·lia;exact⟨_,δ,rfl⟩
   ·rintro σ H2 ⟨rfl,x3,β,rfl⟩;lia;refine uM (fun σ H2=>Same υ H2/\∃x:Nat,x < 2 ^ Z/\σ=[ak (.ref r),ak (.int c),ak (nat st),ak (nat η),ak (.ref D),ak (nat i),ak (nat x)]) ?_ ?_
    ·lia;refine iteB (fun ε=>?_) (fun ε=>?_)
     ·lia;intro D8 H8 f8 ζ e8
      have Y:∃k:Nat,atI [V.int 43690,.int 21845] ((i:Int) % 2)=ak (nat k):=by
       rcases Int.emod_two_eq (i:Int) with h | h<;>rw[h]
       ·exact⟨43690,rfl⟩
       ·exact⟨21845,rfl⟩
      obtain⟨k,hk⟩:=Y;lia;rw[bw];exact⟨ζ,_,qE MO β,rfl⟩
     ·lia;exact⟨Same.refl _,_,β,rfl⟩
    ·rintro σ H2 ⟨ζ,x4,ξ,rfl⟩;lia;refine gm (ζ.get ο) (by rw[dt,qq];omega) fun ι φ=>?_;lia;refine⟨_,_,O++[x4],rfl,λb o e=>φ.oth _ _ (ay e ω) (ζ.get (χ.get (ν.get e))),?_,by rw[hC,el];rfl,λz hz=>?_⟩
     ·rw[φ.at',hH];rfl
     ·rcases oT.mp hz with h | h
      ·exact ρ z h
      ·rw[hL.mp h];exact ξ
 ·rintro σ H' ⟨v,θ,O,rfl,ν,π,el,ρ⟩;rw[dt] at el;lia;exact q D H' O ω ν π el ρ
theorem pG (T:Tx K mg a):FnOk P w K mg base CX0 3 a.cf a.kN ["_law_script","_law_start","_law_most"] (yk K):=by
 have dz:=@nQ P w K mg base a T;have gh:=@lD P w K mg base a T;refine T.gy.1.okA aA λl7 A outer s H vs Q E ε h=>?_;obtain⟨p,ns,st,mo,rfl,hS,η,k6,q⟩:=h
 refine⟨_,((ae (au (i:=3) aA.nd rfl @E (ao dz ε T.cJ T.bH (!j 0 (!j 1 ag))))
  (ae (au (i:=4) aA.nd rfl @E (ar fj (ar lj (pv 3) af) (ar cx (pv 2) af)))
  (jV (cI (aD kB (ar fj (ar lj (pv 3) af) af) af (aI _)) (ai (au (i:=4) aA.nd rfl @E (ar fj (ar lj (pv 3) af) af))) aL)
  (ae (au (i:=5) aA.nd rfl @E (ar fj (ao gh ε T.dF T.bS (!j 3 (aa af ag))) af))
  (ae (au (i:=6) aA.nd rfl @E (ar fj (ao gh ε T.dF T.bS (!j 3 (aa af ag))) af))
  (jV (cI (aD kB (ar fj (ar lj (pv 3) af) af) af (aI _)) (ae (au (i:=5) aA.nd rfl @E (ar fj (ao gh ε T.dF T.bS (!j 3 (aa af ag))) af))
  (ai (au (i:=6) aA.nd rfl @E (ar fj (ao gh ε T.dF T.bS (!j 3 (aa af ag))) af)))) aL)
  (ae (au (i:=7) aA.nd rfl @E (il kB (ar fj (pv 3) af) af (aI _)))
  (ae (au (i:=8) aA.nd rfl @E (ar fj (ao gh ε T.dF T.bS (!j 3 (aa af ag))) af))
  (ae (au (i:=9) aA.nd rfl @E (ao (fm T) ε T.gF T.cG (aa (ao dz ε T.cJ T.bH (!j 0 (aa (ar cx (pv 1) af) ag))) (aa af (!j 4 (!j 4 (!j 7 ag)))))))
  (ae (au (i:=10) aA.nd rfl @E (ao (fm T) ε T.gF T.cG (aa (ao dz ε T.cJ T.bH (!j 0 (aa (ar cx (pv 1) af) ag))) (aa af (!j 4 (!j 5 (!j 7 ag)))))))
  (jV (cI (cS (cw (pv 7))) (ae (au (i:=9) aA.nd rfl @E (ao (pE T) ε T.rG T.gx (!j 9 (aa (ao dz ε T.cJ T.bH (!j 0 (aa (ar cx (pv 1) af) ag))) (aa af (!j 8 ag))))))
  (ai (cI (aD nY (pv 8) af (aI _)) (ai (eZ (osc:=ah cZ) (ON:=n14) (N:=n11) (n:=2) (fx:=[0,1]) (i:=10) aA.nd rfl rfl rfl rfl rfl rfl (by decide +kernel) (mS (K:=K) rfl (by rfl) T.dZ (pv 10)) (xE (iJ (aX @C) (iJ (aX @C) tU))) (λ_ _ _ _ _=>⟨(tu (K:=K) (n:=2) rfl rfl (aM (ax (i:=0) (show y' (n11:C') from by decide +kernel) rfl @E) (aM (ax (i:=1) (show y' (n11:C') from by decide +kernel) rfl @E) ik))),bK,(ar fN (pv 1) (ao gh ε T.dF T.bS (aa (ao dz ε T.cJ T.bH (!j 2 (aa (ar cx (pv 3) af) ag))) (aa (ar cx af (pv 0)) ag))))⟩))) aL))) aL)
  (ae (au (i:=11) aA.nd rfl @E (ao (fm T) ε T.gF T.cG (aa (ao dz ε T.cJ T.bH (!j 0 (aa (ar cx (pv 1) af) ag))) (aa af (!j 6 (!j 4 (!j 7 ag)))))))
  (ae (au (i:=12) aA.nd rfl @E (ao (fm T) ε T.gF T.cG (aa (ao dz ε T.cJ T.bH (!j 0 (aa (ar cx (pv 1) af) ag))) (aa af (!j 6 (!j 5 (!j 7 ag)))))))
  (jV (cI (PW.pt (Ap (cS (cw (pv 7))) (v5 (aD nY (pv 8) af (aI _))))) (ai (eZ (osc:=ah cZ) (ON:=n14) (N:=n11) (n:=2) (fx:=[0,1]) (i:=11) aA.nd rfl rfl rfl rfl rfl rfl (by decide +kernel) (mS (K:=K) rfl (by rfl) T.dZ (pv 11)) (xE (iJ (aX @C) (iJ (aX @C) tU))) (λ_ _ _ _ _=>⟨(tu (K:=K) (n:=2) rfl rfl (aM (ax (i:=0) (show y' (n11:C') from by decide +kernel) rfl @E) (aM (ax (i:=1) (show y' (n11:C') from by decide +kernel) rfl @E) ik))),bK,(ar fN (pv 1) (ao gh ε T.dF T.bS (aa (ao dz ε T.cJ T.bH (!j 2 (aa (ar cx (pv 3) af) ag))) (aa (ar cx af (pv 0)) ag))))⟩))) aL)
  (jV (cI (PW.pt (Ap (cS (cw (pv 7))) (v5 (aD nY (pv 8) af (aI _))))) (ai (eZ (osc:=ah cZ) (ON:=n14) (N:=["_law_mask"]) (n:=1) (fx:=[]) (i:=12) aA.nd rfl rfl rfl rfl rfl rfl (by decide +kernel) (aZ (K:=K) rfl (pv 12)) (aX @C) (λ_ _ _ _ _=>⟨(ax (i:=0) (show y' (["_law_mask"]:C') from by decide +kernel) rfl @E),bK,af⟩))) aL)
  (ai (aC (fh (!j 5 (aa (rZ (K:=K) rfl rfl (by rfl) (by rfl) T.jE T.C3 (pv 9) (pv 10)) (aa (rZ (K:=K) rfl rfl (by rfl) (by rfl) T.jE T.C3 (pv 11) (pv 12)) ag)))))))))))))))))))))),aB (σ':=[ak _,ak _,ak _,hB,hB,hB,hB,hB,hB,hB,hB,hB,hB]) rfl ?_⟩
 lia;obtain⟨S0,eS,lS⟩:=oK (c:=cell ns (st:Int) / 2) (m:=(mo:Int) + 1) @A;rw[eS];generalize cell ns (st:Int)=c;refine uM (fun σ H2=>H=H2/\∃S:Nat,(S<=16/\(S<=mo∨V.int (c / 64 % 8)=V.int 5))/\σ=[ak (.ref p),ak (nat st),ak (nat mo),ak (.int c),ak (nat S),hB,hB,hB,hB,hB,hB,hB,hB]) ?_ ?_
 ·lia;refine iteB (λhc=>?_) (λhc=>?_)
  ·lia;obtain⟨k,hk,l0⟩:=oK (c:=c / 512) (m:=17) @C;rw[hk];exact⟨_,⟨@A,.inr (Md hc)⟩,rfl⟩
  ·lia;exact⟨_,⟨@A,.inl @A⟩,rfl⟩
 ·rintro σ H2 ⟨rfl,S,⟨a5,c2⟩,rfl⟩;clear eS lS;lia;rename_i r1 h1 r2 h2;have ei:(r1:Int) % 4=((r1 % 4:Nat):Int):=by omega
  have ψ:(r2:Int) % 4=((r2 % 4:Nat):Int):=by omega
  rw[ei,ψ];refine uM (fun σ H2=>H=H2/\∃I O:Nat,(I<=6/\O<=6/\(O<=3∨V.int (c / 64 % 8)=V.int 6))/\σ=[ak (.ref p),ak (nat st),ak (nat mo),ak (.int c),ak (nat S),ak (nat I),ak (nat O),hB,hB,hB,hB,hB,hB]) ?_ ?_
  ·lia;refine iteB (λhc=>?_) (λhc=>?_)
   ·lia;rename_i r3 h3 r4 h4;have ei:(r3:Int) % 7=((r3 % 7:Nat):Int):=by omega
    have ψ:(r4:Int) % 7=((r4 % 7:Nat):Int):=by omega
    rw[ei,ψ];exact⟨_,_,⟨@A,@A,.inr (Md hc)⟩,rfl⟩
   ·lia;exact⟨_,_,⟨@A,@A,.inl @A⟩,rfl⟩
  ·rintro σ H2 ⟨rfl,I,O,⟨hI,hO,d3⟩,rfl⟩
   have h9:(S + 1) * O < 64:=by
    rcases d3 with h | h
    ·exact qE (MK (show S + 1<=17 by omega) h) @C
    ·rcases c2 with h' | h'
     ·exact qE (MK (show S + 1<=6 by omega) hO) @C
     ·rw[h] at h';exact kv h' @C
   clear d3 c2;clear ei ψ h1 h2;lia;rename_i r5 h5;have ew:(r5:Int) % 5=((r5 % 5:Nat):Int):=by omega
   rw[ew];generalize g5:r5 % 5=wy;have j7:wy < 5:=by omega
   generalize h6:decide (V.int (c % 2)=V.int 0)=dg;clear ew g5 h6 h5;refine⟨_,100,S,S,dg,rfl,@C,@A,a5,fun ο H1 π f1 s1 e1 l1 b1=>?_⟩;have d2:=Same.seq s1 hS;lia;refine⟨_,140,S,I,dg,rfl,@C,@A,@A,fun α H2 ξ f2 s2 e2 l2 b2=>?_⟩;have θ:=Same.seq s2 d2;have e6:=s2.get e1;lia;refine uM (fun σ H3=>∃(ο α:gn) (π ξ:D'),σ=[ak (.ref p),ak (nat st),ak (nat mo),ak (.int c),ak (nat S),ak (nat I),ak (nat O),ak (.bl dg),ak (nat wy),ak (.ref ο),ak (.ref α),hB,hB]/\Same H H3/\H3 ο=ak (.lst (π.map nat))/\H3 α=ak (.lst (ξ.map nat))/\π.length=S/\ξ.length=S/\(∀x∈π,x < 2 ^ S)/\∀x∈ξ,x < 2 ^ I) ?_ ?_
   ·lia;cases dg with
    | true=>
      lia;exact⟨ο,α,π,ξ,rfl,s1.trans s2,e6,e2,l1,l2,b1,b2⟩
    | false=>
      lia;refine⟨ο,π,_,180,wy,S,rfl,e6,@C,a5,@A,b1,fun β H3 b9 f3 s3 e3 l3 b3=>?_⟩;have e0:=s3.get e2;have υ:=Same.seq s3 θ;lia;refine iteB (λhc=>?_) (λhc=>?_)
      ·lia;intro D hD;refine sx (xs:=ξ.map nat) (λi ys H'=>Cs (λi ys=>∃χ:D',ys=χ.map nat/\χ.length=i/\∀x∈χ,x < 2 ^ I) H3 D i ys H') (Cs.zero hD ⟨[],rfl,rfl,λ_ h=>kv h @D⟩) (λi ys H' _ c=>SqL.of (c.same.get e0)) (λi v ys H' p' H7 hv ρ fp s7 e7=>?_) (λys H' ρ=>?_)
       ·obtain⟨x,hx,rfl⟩:=aK hv;obtain⟨χ,a0,ω,a3⟩:=ρ.pv;have hi:=(eH.mp hx).1;have h7:=Same.seq s7 (Same.seq ρ.same υ);lia;rw[bw];refine Cs.put hD (ρ.same.trans s7) (s7.get ρ.at') ρ.len @A ⟨χ++[_],by rw[a0,hH];rfl,by rw[hC,ω];rfl,λz hz=>?_⟩;rcases oT.mp hz with h | h
        ·exact a3 z h
        ·rw[hL.mp h];exact qE MO (b2 x (hQ hx))
       ·obtain⟨χ,a0,ω,a3⟩:=ρ.pv;rw[dt] at ω;have ζ:=ρ.at';rw[a0] at ζ;exact⟨β,D,b9,χ,rfl,s1.trans (s2.trans (s3.trans ρ.same)),ρ.same.get e3,ζ,@A,@A,b3,a3⟩
      ·lia;exact⟨β,α,b9,ξ,rfl,s1.trans (s2.trans s3),e3,e0,@A,l2,b3,b2⟩
   ·rintro σ H3 ⟨ο,α,π,ξ,rfl,s3,e1,e2,l1,l2,b1,b2⟩;have υ:=Same.seq s3 hS;lia;refine⟨_,260,O,S,dg,rfl,@C,@A,a5,λD4 H4 ν f4 Y e4 l4 b4=>?_⟩;have d1:=Same.seq Y υ;lia;refine⟨_,280,O,I,dg,rfl,@C,@A,@A,fun γ H5 δ f5 s5 e5 l5 b5=>?_⟩;have c3:=Same.seq s5 d1;have a6:=s5.get e4;lia;refine uM (fun σ H6=>∃(D4:gn) (ν:D'),σ=[ak (.ref p),ak (nat st),ak (nat mo),ak (.int c),ak (nat S),ak (nat I),ak (nat O),ak (.bl dg),ak (nat wy),ak (.ref ο),ak (.ref α),ak (.ref D4),ak (.ref γ)]/\Same H5 H6/\H6 D4=ak (.lst (ν.map nat))/\ν.length=O/\∀x∈ν,x < 2 ^ S) ?_ ?_
    ·lia;refine iteB (λhc=>?_) (λhc=>?_)
     ·lia;refine iteB (λhc=>?_) (λhc=>?_)
      ·lia;intro D hD;refine sx (xs:=ν.map nat) (λi ys H'=>Cs (λi ys=>∃χ:D',ys=χ.map nat/\χ.length=i/\∀x∈χ,x < 2 ^ S) H5 D i ys H') (Cs.zero hD ⟨[],rfl,rfl,λ_ h=>kv h @D⟩) (λi ys H' _ c=>SqL.of (c.same.get a6)) (λi v ys H' p' H7 hv ρ fp s7 e7=>?_) (λys H' ρ=>?_)
       ·obtain⟨x,hx,rfl⟩:=aK hv;obtain⟨χ,a0,ω,a3⟩:=ρ.pv;have hi:=(eH.mp hx).1;have h7:=Same.seq s7 (Same.seq ρ.same c3);lia;rw[bw];refine Cs.put hD (ρ.same.trans s7) (s7.get ρ.at') ρ.len @A ⟨χ++[_],by rw[a0,hH];rfl,by rw[hC,ω];rfl,λz hz=>?_⟩;rcases oT.mp hz with h | h
        ·exact a3 z h
        ·rw[hL.mp h];exact qE MO (b4 x (hQ hx))
       ·obtain⟨χ,a0,ω,a3⟩:=ρ.pv;rw[dt] at ω;have ζ:=ρ.at';rw[a0] at ζ;exact⟨D,χ,rfl,ρ.same,ζ,@A,a3⟩
      ·lia;exact⟨D4,ν,rfl,Same.refl _,a6,l4,b4⟩
     ·lia;exact⟨D4,ν,rfl,Same.refl _,a6,l4,b4⟩
    ·rintro σ H6 ⟨D4,ν,rfl,s6,e4,l4,b4⟩;have b0:=s6.get e5;have j1:=s6.get (s5.get (Y.get e1));have j0:=s6.get (s5.get (Y.get e2));have f0:=s3.trans (Y.trans (s5.trans s6));clear d2 θ υ d1 c3 a6;lia;refine uM (fun σ H7=>∃(γ:gn) (δ:D'),σ=[ak (.ref p),ak (nat st),ak (nat mo),ak (.int c),ak (nat S),ak (nat I),ak (nat O),ak (.bl dg),ak (nat wy),ak (.ref ο),ak (.ref α),ak (.ref D4),ak (.ref γ)]/\Same H6 H7/\H7 γ=ak (.lst (δ.map nat))/\δ.length=O/\∀x∈δ,x < 2 ^ I) ?_ ?_
     ·lia;refine iteB (λhc=>?_) (λhc=>?_)
      ·lia;refine iteB (λhc=>?_) (λhc=>?_)
       ·lia;intro D hD;refine bW (xs:=δ.map nat) (λi ys H'=>Cs (λi ys=>ys=(gB i 0).map nat) H6 D i ys H') (Cs.zero hD rfl) (λi ys H' _ c=>SqL.of (c.same.get b0)) (λi v ys H' hv ρ=>?_) (λys H' ρ=>?_)
        ·have hi:=(eH.mp hv).1;rw[dt] at hi;lia;refine Cs.put hD ρ.same ρ.at' ρ.len @A ?_;rw[ρ.pv,QN,hH];rfl
        ·have ζ:=ρ.at';rw[ρ.pv,dt] at ζ;refine⟨D,gB δ.length 0,rfl,ρ.same,ζ,by rw[wh];exact l5,λx hx=>?_⟩;rw[L6 hx];exact lh _
       ·lia;exact⟨γ,δ,rfl,Same.refl _,b0,l5,b5⟩
      ·lia;exact⟨γ,δ,rfl,Same.refl _,b0,l5,b5⟩
     ·rintro σ H7 ⟨γ,δ,rfl,s7,e5,l5,b5⟩;lia;refine⟨ο,α,π.map nat,ξ.map nat,rfl,rfl,SqL.of (s7.get j1),SqL.of (s7.get j0),by rw[dt,dt];omega,λDn pn H8 f8 s8 e8 g3 t8=>?_⟩;obtain⟨nx,rn,f7,c1,mn⟩:=zm @A g3 t8;rw[<-rn] at e8;lia;refine⟨D4,γ,ν.map nat,δ.map nat,rfl,rfl,SqL.of (s8.get (s7.get e4)),SqL.of (s8.get e5),by rw[dt,dt];omega,λDo po ι Z s9 e9 g0 t9=>?_⟩;obtain⟨os,ro,f6,g4,c0⟩:=zm @A g0 t9;rw[<-ro] at e9;lia;intro t j3 l6 a4 j2;have τ:=f0.trans s7;refine q t Dn Do j3 I nx os (τ.trans (s8.trans (s9.trans a4))) (uc τ f8) (uc (τ.trans s8) Z) ⟨j2,hI,a4.get (s9.get e8),a4.get e9,(f7.same s9).same a4,f6.same a4,by omega,by omega,fun φ h0=>?_⟩ @A (by rw[c1,g4,l1,l4];exact h9);rw[c1,l1];rcases oT.mp h0 with h | h
      ·exact⟨b1 _ (mn φ h).1,b2 _ (mn φ h).2⟩
      ·exact⟨b4 _ (c0 φ h).1,b5 _ (c0 φ h).2⟩
theorem uT (T:Tx K mg a):FnOk P w K mg base CX0 3 a.d5 a.qt ["_law_cell_here","_law_many","_law_width"] zS:=by
 refine T.jA.1.okA uK λZ A outer s H vs Q E Y h=>?_;obtain⟨c,n,O,rfl,hn,hw,q⟩:=h;refine⟨_,((ai (aC (ao (fm T) Y T.gF T.cG (!j 0 (aa af (!j 1 (!j 2 (aa (il kB (ar fj (pv 0) af) af (aI _)) ag))))))))),aB (σ':=[ak _,ak _,ak _]) rfl ?_⟩;lia;exact⟨c,500,n,O,_,rfl,@C,hn,hw,q⟩
end
end
section
local macro_rules | `(tactic| walk_at "l2step") =>`(tactic| first | ((with_reducible refine' d8 ?e ?_);(case e=>walk_at "l2kind")) | ((with_reducible refine' iA ?e ?_);(case e=>walk_at "l2kind")) | (with_reducible refine c9 ?_) | (with_reducible refine eV ?_))
theorem yB (T:Tx K mg a):FnOk P w K mg base CX0 3 a.iy a.vq ["thing","stores","inputs"] Ci:=by
 have O:FnOk P w K mg base CX0 2 a.gG a.qr ["thing","width"] (vO K):=mV T;refine T.mE.1.okA yn fun β A outer s H vs Q E Y h=>?_;obtain⟨t,x,y,n,m,rfl,ht,α,Z,q⟩:=h
 refine⟨_,((ae (cI (PW.pt (iE (cS (cw (aF (dR (K:=K) rfl) (by rfl) T.bD z1 (!j 0 (aa (iQ (v:= .ty "tuple") (by rfl) T.tI MJ rfl) ag))))) (ij (aD ph (aF (bf (K:=K) rfl) (by rfl) T.i5 Kd (!j 0 ag)) af (aI _))))) (ai (aC lg)) aL)
  (ai (aC (nP (ao O Y T.me T.iB (aa (!A @G (pv 0) af) (!j 1 ag))) (uQ (ao O Y T.me T.iB (aa (!A @G (pv 0) af) (!j 2 ag))))))))),aB (σ':=[ak _,ak _,ak _]) rfl ?_⟩
 lia;refine Ac (cT α) ?_;lia;rw[cT Z];exact q
theorem qU (T:Tx K mg a):FnOk P w K mg base CX0 4 a.cM a.mr ["inputs","nexts","outs"] Fg:=by
 have α:FnOk P w K mg base CX0 1 a.dG a.kq ["thing"] (oB K):=ly T;refine T.gZ.1.okA qK fun θ A outer s H vs Q E β h=>?_;obtain⟨n,o,m,nx,os,rfl,t,q⟩:=h
 refine⟨_,((ae (cI (PW.pt (iE (cS (cw (ao α β T.nF T.hU (!j 0 ag)))) (iE (aD CZ (pv 0) af (aI _)) (ij (aD nY (pv 0) (tz (v:= .int 6) (by rfl) T.ub ⟨_,rfl⟩) (aI _)))))) (ai (jq KO T.eg thr0 rfl (by rfl) T.ko (aa gC ag))) aL)
  (ae (cI (PW.pt (iE (cS (cw (aF (dR (K:=K) rfl) (by rfl) T.bD z1 (!j 1 (aa (iQ (v:= .ty "list") (by rfl) T.jE Kl rfl) ag))))) (ij (aD nY (aF (bf (K:=K) rfl) (by rfl) T.i5 Kd (!j 1 ag)) (tz (v:= .int 120) (by rfl) T.tZ ⟨_,rfl⟩) (aI _))))) (ai (jq KO T.eg thr0 rfl (by rfl) T.ko (aa gC ag))) aL)
  (ae (cI (PW.pt (iE (cS (cw (aF (dR (K:=K) rfl) (by rfl) T.bD z1 (!j 2 (aa (iQ (v:= .ty "list") (by rfl) T.jE Kl rfl) ag))))) (ij (aD nY (aF (bf (K:=K) rfl) (by rfl) T.i5 Kd (!j 2 ag)) (tz (v:= .int 6) (by rfl) T.wF ⟨_,rfl⟩) (aI _))))) (ai (jq KO T.eg thr0 rfl (by rfl) T.ko (aa gC ag))) aL)
  (ai (cI (cS (cw (aF (BF (K:=K) rfl rfl) (by rfl) T.JU PyProof.Rows.boot_all (aa (dY (osc:=ah gU) (ON:=["inputs","nexts","outs"]) (N:=["pair","nexts","inputs"]) (n:=1) (fx:=[1,0]) rfl rfl rfl (by decide +kernel) (aZ (K:=K) rfl (ar lR (pv 1) (pv 2))) (aX @C) (λ_ _ _ _ _=>⟨(ax (i:=0) (show y' (["pair","nexts","inputs"]:C') from by decide +kernel) rfl @E),bK,(ao (yB T) β T.Ba T.mE (!j 0 (aa (aF (bf (K:=K) rfl) (by rfl) T.i5 Kd (!j 1 ag)) (!j 2 ag))))⟩)) ag)))) (ai (jq KO T.eg thr0 rfl (by rfl) T.ko (aa gC ag))) aL)))))),aB (σ':=[ak _,ak _,ak _]) rfl ?_⟩
 lia;have m6:=t.m6;have ln:=t.ln;have lo:=t.lo;have hn:=t.n;have ho:=t.o;have ε:(refs nx).length=nx.length:=dt ..
 have ψ:(refs os).length=os.length:=dt ..
 refine vY (qa @A) ?_;lia;refine vY (qa @A) ?_;lia;refine vY (qa @A) ?_;lia;refine qP hn ho (by rw[qq];omega) λp H2 ι Z η=>?_;lia;intro D γ;refine bW (xs:=refs nx++refs os) (λi ys H'=>Cs (λi ys=>ys=(gB i true).map V.bl) H2 D i ys H') (Cs.zero γ rfl) (λi ys H' _ c=>SqL.of (c.same.get η)) (λi x ys H' Y c=>?_) (λys H' c=>?_)
 ·have Y:(refs (nx++os))[i]? =ak x:=by unfold refs at Y ⊢;rw[hH];exact Y
  obtain⟨φ,O,rfl⟩:=aK Y;have hm:=hQ O;have hi:=(eH.mp O).1;rw[hC] at hi;have hb:=t.bn φ hm;have ht:H φ.1=ak (.tup [nat φ.2.1,nat φ.2.2]):=(oT.mp hm).elim (t.pn φ) (t.po φ);have δ:=c.same.get (Z.get hn);lia;rw[ε];refine⟨φ.1,φ.2.1,φ.2.2,nx.length,m,rfl,c.same.get (Z.get ht),hb.1,hb.2,?_⟩;refine Cs.put γ c.same c.at' c.len @A ?_;rw[c.pv,QN,hH];rfl
 ·have ζ:=c.at';rw[c.pv] at ζ;lia;refine HH (SqL.of ζ) ?_;lia;refine vY (by rw[List.all_replicate];simp) ?_;lia;exact q H' (Z.trans c.same)
theorem ir (T:Tx K mg a):FnOk P w K mg base CX0 5 a.aN a.iK ["self","inputs","nexts","outs"] (Fe a.aj):=by
 refine T.bX.1.okA kW λa0 A outer s H vs Q E τ h=>?_;obtain⟨x,dx,n,o,m,nx,os,rfl,β,t,q⟩:=h
 refine⟨_,((ae (c6 (ao (qU T) τ T.tW T.gZ (!j 1 (!j 2 (!j 3 ag)))))
  (ae (mR (K:=K) rfl (pv 0) (pv 1) rfl)
  (ae (mR (K:=K) rfl (pv 0) (gD (qz (K:=K) rfl) (by rfl) T.tI MJ (!j 2 ag)) rfl)
  (ai (mR (K:=K) rfl (pv 0) (gD (qz (K:=K) rfl) (by rfl) T.tI MJ (!j 3 ag)) rfl)))))),aB (σ':=[ak _,ak _,ak _,ak _]) rfl ?_⟩
 lia;refine⟨n,o,m,nx,os,rfl,t,λH1 ε=>?_⟩;have ι:=i4 t.n β @D;have α:=i4 t.o β @D;lia;refine mL (ε.get β) T.aw T.aR @C rfl λH2 O=>?_;have ψ:=O.oth _ _ ι (ε.get t.n);have ξ:=O.oth _ _ α (ε.get t.o);lia;intro δ H3 π θ e3;have Y:δ≠x:=λz=>by rw[z,O.at'] at π;cases π
 lia;refine mL (θ.get O.at') T.aw T.bE (by show 1 < 1000;decide) rfl λZ ω=>?_;have χ:=ω.oth _ _ α (θ.get ξ);have υ:=ω.oth _ _ Y e3;lia;intro to H5 ο η e5;have ζ:to≠x:=λz=>by rw[z,ω.at'] at ο;cases ο
 lia;refine mL (η.get ω.at') T.aw T.bZ (by show 2 < 1000;decide) rfl fun ρ γ=>?_;have k:∀b ob,b≠x->H b=ak ob->ρ b=ak ob:=λb ob ν e=>γ.oth _ _ ν (η.get (ω.oth _ _ ν (θ.get (O.oth _ _ ν (ε.get e)))));lia;refine q ρ k ⟨⟨dx,δ,to,γ.at',γ.oth _ _ Y (η.get υ),γ.oth _ _ ζ e5⟩,fun φ h=>k _ _ ?_ (t.pn φ h),fun φ h=>k _ _ ?_ (t.po φ h)⟩
 ·exact i4 (t.pn φ h) β @D
 ·exact i4 (t.po φ h) β @D
theorem bL (T:Tx K mg a):FnOk P w K mg base CX0 1 a.a9 a.jJ ["self"] (zO a.aj):=by
 refine T.aT.1.okA mK λY A outer s H vs Q E Z h=>?_;obtain⟨p,m,nx,os,rfl,ma,q⟩:=h;obtain⟨dx,δ,to,ho,hn,O⟩:=ma.ho;refine⟨_,((ai (aC (aF (bf (K:=K) rfl) (by rfl) T.i5 Kd (aa (be (K:=K) rfl (pv 0) rfl) ag))))),aB (σ':=[ak _]) rfl ?_⟩;lia;refine bc ho T.aw T.bE rfl ?_;lia;unfold refs;rw[dt];exact q
theorem AE (T:Tx K mg a):FnOk P w K mg base CX0 2 a.jv a.xK ["pair","state","row"] Ct:=by
 refine T.oP.1.okA Ab λY A outer s H vs Q E O h=>?_;obtain⟨t,a1,b1,x,r,rfl,ht,ha,hb,q⟩:=h;refine⟨_,((ai (aC (il ph (ao (wg T) O T.Bb T.sJ (aa (ar fN (!A @G (pv 0) af) (pv 1)) ag)) (ao (wg T) O T.Bb T.sJ (aa (ar fN (!A @G (pv 0) af) (pv 2)) ag)) (aI _))))),aB (σ':=[ak _,ak _,ak _]) rfl ?_⟩;lia;rw[bw];refine⟨a1&&&x,rfl,qE MO ha,?_⟩;lia;rw[bw];refine⟨b1&&&r,rfl,qE MO hb,?_⟩;lia;rw[zo];exact q
theorem lW (T:Tx K mg a):FnOk P w K mg base CX0 3 a.dq a.nS ["pairs","state","row"] (Fd K):=by
 refine T.gI.1.okA sT fun θ A outer s H vs Q E γ h=>?_;obtain⟨r,ps,x,y,rfl,δ,pt,hl,hb,q⟩:=h;refine⟨_,((ai (aC (ao (r8 T) γ T.vi T.kg (aa (dY (osc:=ah iF) (ON:=["pairs","state","row"]) (N:=n15) (n:=2) (fx:=[1,2]) rfl rfl rfl (by decide +kernel) (CQ (K:=K) rfl (by rfl) T.dZ (pv 0)) (xE (iJ (aX @C) (iJ (aX @C) tU))) (λ_ _ _ _ _=>⟨(tu (K:=K) (n:=2) rfl rfl (aM (ax (i:=0) (show y' (n15:C') from by decide +kernel) rfl @E) (aM (ax (i:=1) (show y' (n15:C') from by decide +kernel) rfl @E) ik))),(o8 (cw (ao (AE T) γ T.Dk T.oP (!j 1 (!j 2 (!j 3 ag)))))),(pv 0)⟩)) ag))))),aB (σ':=[ak _,ak _,ak _]) rfl ?_⟩;lia;refine .inr ⟨⟨_,δ⟩,?_⟩;intro D ε;refine yR (xs:=refs ps) (λi ys H'=>Cs (λi ys=>∃Y:D',ys=Y.map nat/\(∀p∈Y,p < i)/\M.xm Y=M.tr2 (prs (ps.take i)) x y) H D i ys H') (Cs.zero ε ⟨[],rfl,λ_ h=>kv h @D,rfl⟩) (λi ys H' _ c=>Same.tup c.same δ) (λi v ys H' p ξ η c fp α ν=>?_) (λys H' c=>?_)
 ·obtain⟨φ,Z,rfl⟩:=aK η;obtain⟨Y,O,β,χ⟩:=c.pv;have hm:=hQ Z;have hi:=(eH.mp Z).1;have ht:=α.get (c.same.get (pt φ hm));have ts:=B8 x y Z;lia;refine⟨φ.1,φ.2.1,φ.2.2,x,y,rfl,ht,(hb φ hm).1,(hb φ hm).2,?_⟩;cases ι:(M.od (φ.2.1&&&x)^^M.od (φ.2.2&&&y)) with
  | true=>
    rw[ι,qb rfl] at ts;lia;refine Cs.put ε (c.same.trans α) (α.get c.at') c.len @A ⟨Y++[i],?_,λk hk=>?_,?_⟩
    ·rw[O,hH];rfl
    ·rcases oT.mp hk with h | h
     ·have:=β k h;omega
     ·rw[hL.mp h];omega
    ·rw[M.xm_snoc,χ,ts]
  | false=>
    rw[ι,ov iv,Lq] at ts;lia;refine Cs.skip (c.same.trans α) (α.get c.at') c.len ⟨Y,O,λk hk=>?_,?_⟩
    ·have:=β k hk;omega
    ·rw[χ,ts]
 ·obtain⟨Y,O,β,χ⟩:=c.pv;rw[dc] at β χ;have ζ:=c.at';rw[O] at ζ;lia;refine⟨D,Y,rfl,ζ,λk hk=>by have:=β k hk;omega,?_⟩;rw[χ,z9];exact q _ c.same
theorem c7 (T:Tx K mg a):FnOk P w K mg base (CX1 P w) 3 a.aG a.gH ["self","state"] (GW K a.aj a.cU):=by
 refine T.aQ.1.okX jM (λvs H Q E h=>?_) (fun β A outer s H vs Q E Z h=>?_)
 ·obtain⟨p,m,nx,os,x,k,rfl,_⟩:=h;rfl
 ·obtain⟨p,m,nx,os,x,k,rfl,ma,hk,O,Y⟩:=h;obtain⟨dx,δ,to,ho,hn,α⟩:=ma.ho;refine⟨_,((ai (cI (cS (cw (ao (mV T) Z T.me T.iB (!j 1 (aa (aF (bf (K:=K) rfl) (by rfl) T.i5 Kd (aa (be (K:=K) rfl (pv 0) rfl) ag)) ag))))) (ai (jq KO T.hX gR rfl (by rfl) T.qg (aa gC ag))) aL))),aB (σ':=[ak _,ak _]) rfl ?_⟩;lia;refine bc ho T.aw T.bE rfl ?_;lia;rw[dc];cases hm:kD x (nx.length:Int) with
  | false=>
    lia;exact⟨by rw[qq];decide,Y hm⟩
  | true=>
    lia;exact O hm
theorem ip (T:Tx K mg a):FnOk P w K mg base (CX1 P w) 4 a.bA a.kP ["self","state","row"] (Ck K a.aj a.cU):=by
 refine T.cj.1.okX oX (λvs H Q E h=>?_) (fun ν A outer s H vs Q E β h=>?_)
 ·obtain⟨p,m,nx,os,x,y,kx,ω,rfl,_⟩:=h;rfl
 ·obtain⟨p,m,nx,os,x,y,kx,ω,rfl,ma,g,ε,ι,θ,ζ⟩:=h;obtain⟨dx,δ,to,ho,hn,γ⟩:=ma.ho;have ln:=g.ln;have lo:=g.lo
  refine⟨_,((ae (c6 (dX (pv 0) T.aw T.dn (c7 T) (β.mono @C) T.aQ.2 .nil gR (!j 1 ag)))
   (ae (cI (cS (cw (ao (mV T) β T.me T.iB (!j 2 (aa (be (K:=K) rfl (pv 0) rfl) ag))))) (ai (jq KO T.hX gR rfl (by rfl) T.qg (aa gC ag))) aL)
   (ai (aC (fh (aa (ao (lW T) β T.nR T.gI (aa (be (K:=K) rfl (pv 0) rfl) (!j 1 (!j 2 ag)))) (aa (ao (lW T) β T.nR T.gI (aa (be (K:=K) rfl (pv 0) rfl) (!j 1 (!j 2 ag)))) ag)))))))),aB (σ':=[ak _,ak _,ak _]) rfl ?_⟩
  lia;refine cR ho rfl ?_;lia;refine⟨p,m,nx,os,x,kx,rfl,ma,ε,λhm=>?_,λhm=>ζ (.inl hm)⟩;lia;refine bc ho T.aw T.aR rfl ?_;lia;cases O:kD y (m:Int) with
  | false=>
    lia;exact⟨by rw[qq];decide,ζ (.inr O)⟩
  | true=>
    obtain⟨a1,rfl,ha⟩:=oH hm;obtain⟨b1,rfl,hb⟩:=oH O;lia;refine bc ho T.aw T.bZ rfl ?_;lia;refine⟨to,os,a1,b1,rfl,SqT.of γ,ma.hs,@A,g.b2,λH2 α=>?_⟩;lia;refine bc (α.get ho) T.aw T.bE rfl ?_;lia;refine⟨δ,nx,a1,b1,rfl,SqT.of (α.get hn),ma.hn.same α,@A,g.b1,fun ο η=>?_⟩;lia;intro t Z ξ Y υ;exact θ a1 b1 rfl rfl ha hb t Z (α.trans (η.trans Y)) υ
theorem mW (T:Tx K mg a):FnOk P w K mg base (CX1 P w) 5 a.a8 a.jI ["self","rows","state"] (Cg K a.aj a.cU):=by
 refine T.cW.1.okX cq (λvs H Q E h=>?_) (λa6 A outer s H vs Q E τ h=>?_)
 ·obtain⟨p,π,m,nx,os,x,xs,rfl,_⟩:=h;rfl
 ·obtain⟨p,π,m,nx,os,x,xs,rfl,O,qQ,ρ⟩:=h;obtain⟨dx,δ,to,ho,hn,a5⟩:=O.ma.ho;obtain⟨kx,ο⟩:=O.kx;have ln:=O.ln;have a4:=O.sq
  refine⟨_,((ae (c6 (dX (pv 0) T.aw T.dn (c7 T) (τ.mono @C) T.aQ.2 .nil gR (!j 2 ag)))
   (ae (au (i:=3) cq.nd rfl @E (de ag))
   (ae (eX (pe ⟨rfl,rfl⟩) rfl (aZ (K:=K) rfl (pv 1)) (ax (i:=4) cq.nd rfl @E) (ae (au (i:=5) cq.nd rfl @E (dX (pv 0) T.aw T.iT (ip T) (τ.mono @C) T.cj.2 .nil gR (!j 2 (!j 4 ag))))
   (ae (c6 (iZ (K:=K) rfl z5 Kq Kp dj (pv 3) (aa (!A @G (pv 5) af) ag)))
   (ai (au (i:=2) cq.nd rfl @E (!A @G (pv 5) af))))))
   (ai (aC (fh (!j 3 (!j 2 ag))))))))),aB (σ':=[ak _,ak _,ak _,hB,hB,hB]) rfl ?_⟩
  lia;refine cR ho rfl ?_;lia;refine⟨p,m,nx,os,x,kx,rfl,O.ma,ο,λhm=>?_,λhm=>ρ (.inl hm) H (Same.refl _)⟩;obtain⟨φ,rfl,χ⟩:=oH hm;lia;intro D H1 υ s1 e1;lia;refine fu (xs:=xs) (λi σ H'=>∃(rs:D') (v ι:rl V),σ=[ak (.ref p),ak (.ref π),ak (nat (M.wst @F φ rs)),ak (.ref D),v,ι]/\Same H H'/\H' D=ak (.lst ((M.wan @F (prs os) φ rs).map nat))/\xs.take i=rs.map nat/\∀r∈rs,r < 2 ^ m) ⟨[],hB,hB,rfl,s1,e1,rfl,λ_ h=>kv h @D⟩ (λi σ H' _ ⟨_,_,_,_,e,_⟩=>Same.seq e O.sq) ?_ ?_
  ·rintro i y σ H' ζ ⟨rs,v,ι,rfl,Y,θ,et,Z⟩;obtain⟨ω,ξ⟩:=O.ks y (hQ ζ);have hi:=(eH.mp ζ).1;have a3:rs.length=i:=by have:=zt M' et;rw[Kt,dt] at this;omega
   have γ:M.wst @F φ rs < 2 ^ nx.length:=by have:=M.wst_lt (ps:=prs nx) (rs:=rs) (x:=φ) (by rw[aq];exact χ);rwa [aq] at this
   lia;refine cR (Y.get ho) rfl ?_;lia;refine⟨p,m,nx,os,nat (M.wst @F φ rs),y,"int",ω,rfl,O.ma.same Y,O.g,rfl,AW ξ Y,λa1 b1 ea eb ha hb t ψ α η=>?_,fun ε=>?_⟩
   ·have ea:=iR ea;subst ea;subst eb;lia;refine gm (α.get θ) (by rw[dt,M.wan_len,qq];omega) λH8 ν=>?_;have e8:=ν.oth _ _ (i4 η (α.get θ) @D) η;lia;refine⟨rs++[b1],?_⟩;rw[M.wst_snoc,M.wan_snoc,hH];refine⟨_,_,rfl,λb o e=>ν.oth _ _ (ay e υ) (α.get (Y.get e)),ν.at',?_,λr β=>?_⟩
    ·rw[NK,et,ζ,hH];rfl
    ·rcases oT.mp β with h | h
     ·exact Z r h
     ·rw[hL.mp h];exact hb
   ·rcases ε with h | h
    ·rw[cT γ] at h;cases h
    ·exact ρ (.inr ⟨y,hQ ζ,h⟩) H' Y
  ·rintro σ H' ⟨rs,v,ι,rfl,Y,θ,et,Z⟩;rw[z9] at et;lia;intro t ψ f7 α η;exact qQ φ rs ⟨rfl,et,χ,Z⟩ t D ψ υ (Y.trans α) η (α.get θ)
theorem qW (T:Tx K mg a):FnOk P w K mg base (CX1 P w) 6 a.bB a.jy ["self","rows","state"] (GT K a.aj a.cU):=by
 refine T.fK.okX qO (λvs H Q E h=>?_) (fun θ A outer s H vs Q E γ h=>?_)
 ·obtain⟨p,O,m,nx,os,x,xs,rfl,_⟩:=h;rfl
 ·obtain⟨p,O,m,nx,os,x,xs,rfl,Y,α,β⟩:=h;obtain⟨dx,δ,to,ho,hn,ε⟩:=Y.ma.ho;refine⟨_,((ai (aC (!A @G (dX (pv 0) T.aw T.n8 (mW T) (γ.mono @C) T.cW.2 .nil gR (!j 1 (!j 2 ag))) af)))),aB (σ':=[ak _,ak _,ak _]) rfl ?_⟩;lia;refine cR ho rfl ?_;lia;refine⟨p,O,m,nx,os,x,xs,rfl,Y,λa1 rs g t D H2 ζ Z et η=>?_,β⟩;lia;exact α a1 rs g D H2 ζ Z η
theorem mX (T:Tx K mg a):FnOk P w K mg base (CX1 P w) 7 a.bb a.jK ["self","which","turns"] (zP K a.aj a.cU):=by
 refine T.cX.1.okX iX (λvs H Q E h=>?_) (λa3 A outer s H vs Q E ρ h=>?_)
 ·obtain⟨p,m,nx,os,x,k,Y,rfl,_⟩:=h;rfl
 ·obtain⟨p,m,nx,os,x,k,Y,rfl,ma,g,hk,hT,qQ,ζ⟩:=h;obtain⟨dx,δ,to,ho,hn,a0⟩:=ma.ho;have m6:=g.m6
  refine⟨_,((ae (cI (PW.pt (iE (cS (cw (ao (ly T) ρ T.nF T.hU (!j 1 ag)))) (iE (aD CZ (pv 1) af (aI _)) (ij (aD Ie (pv 1) (be (K:=K) rfl (pv 0) rfl) (aI _)))))) (ai (jq KO T.hX gR rfl (by rfl) T.qg (aa gC ag))) aL)
   (ae (au (i:=3) iX.nd rfl @E (ar lR (de (aa (ar cE af (pv 1)) ag)) (ar AB (de (aa af ag)) (pv 2))))
   (ai (aC (dX (dvs:=[.int 0]) (pv 0) T.aw T.tK (qW T) (ρ.mono @C) T.jB (.cons T.sO .nil) gR (aa (dW (gT (K:=K) rfl) (pv 3) gO (gN (pv 2))) ag))))))),aB (σ':=[ak _,ak _,ak _,hB]) rfl ?_⟩
  lia;cases x with
  | int i=>
    have hk:k="int":=hk;subst hk;lia;by_cases τ:i < 0
    ·refine Ac (pB τ) ?_;lia;exact⟨by rw[qq];decide,ζ (by show(decide ((0:Int)<=i)&&decide (i < (m:Int)))=false;rw[qa @A];rfl)⟩
    ·refine vY (qa τ) ?_;lia;refine bc ho T.aw T.aR rfl ?_;lia;by_cases h1:(m:Int)<=i
     ·refine Ac (pB h1) ?_;lia;exact⟨by rw[qq];decide,ζ (by show(decide ((0:Int)<=i)&&decide (i < (m:Int)))=false;rw[qa (show ¬i < (m:Int) by omega),OB])⟩
     ·refine vY (qa h1) ?_;obtain⟨j,rfl⟩:=Mf (show 0<=i by omega);lia;rw[shl1];intro ο H1 f1 π e1;lia;intro α H2 f2 θ e2;lia;refine Ft e2 @A @A (by rw[qq,pT];simp;omega) λD3 H3 f3 η χ=>?_;rw[pT,List.flatten_replicate_singleton] at χ;refine qP (η.get (θ.get e1)) χ (by rw[wh,qq];simp;omega) λD4 Z f4 ξ υ=>?_;have er:[nat (2 ^ j)]++gB Y (V.int 0)=(2 ^ j::gB Y 0).map nat:=by rw[KF,List.map_replicate];rfl
      rw[er] at υ;lia;refine cR (ξ.get (η.get (θ.get (π.get ho)))) rfl ?_;lia;intro γ H5 f5 ω φ;rw[oM _ Y (by rw[dt,za,wh];omega),<-Nh,M.pulse_eq] at φ;have O:=π.trans (θ.trans (η.trans (ξ.trans ω)));lia;refine⟨p,γ,m,nx,os,nat 0,(M.pulse j Y).map nat,rfl,⟨ma.same O,g,⟨"int",rfl⟩,SqL.of φ,BU.nats _ _ _,by rw[dt,M.pulse_len];omega⟩,λa1 rs gd D H6 fD ψ eD=>?_,fun ν=>?_⟩
      ·obtain⟨ea,ε,_,_⟩:=gd;have ea:=iR ea;subst ea
       have ε:rs=M.pulse j Y:=by
        have:=zt (List.map λv:V=>match v with | .int i=>i.toNat | _=>0) ε;rw[Lc,Lc] at this;exact(this.symm.trans (Rn _)) ▸ (Rn _).symm ▸ rfl
       subst ε
       have ι:H D=none:=by
        cases hx:H D with
        | none=>rfl
        | some v=>have:=O.get hx;rw[fD] at this;cases this
       exact qQ j rfl @A D H6 ι (O.trans ψ) eD
      ·rcases ν with h | ⟨y,hy,h⟩
       ·rw[show kD (nat 0) (nx.length:Int)=true from cT (lh _)] at h;cases h
       ·obtain⟨r,β,rfl⟩:=oi.mp hy;rw[cT (M.pulse_lt (show j < m by omega) Y r β)] at h;cases h
  | bl b=>have hk:k="bool":=hk;subst hk;lia;exact⟨by rw[qq];decide,ζ rfl⟩
  | non=>have hk:k="NoneType":=hk;subst hk;lia;exact⟨by rw[qq];decide,ζ rfl⟩
  | str z=>have hk:k="str":=hk;subst hk;lia;exact⟨by rw[qq];decide,ζ rfl⟩
  | ref p2=>
    rcases hk with ⟨rfl,_⟩ | ⟨rfl,_⟩ | ⟨rfl,_⟩<;>lia<;>exact⟨by rw[qq];decide,ζ rfl⟩
  | _=>exact KD hk
theorem iq (T:Tx K mg a):FnOk P w K mg base (CX1 P w) 4 a.bC a.kQ ["self","mask"] (Cm K a.aj a.cU):=by
 refine T.ck.1.okX cu (λvs H Q E h=>?_) (λa3 A outer s H vs Q E γ h=>?_)
 ·obtain⟨p,m,nx,os,x,k,rfl,_⟩:=h;rfl
 ·obtain⟨p,m,nx,os,x,k,rfl,ma,g,hk,β,θ⟩:=h;obtain⟨dx,δ,to,ho,hn,π⟩:=ma.ho;have ln:=g.ln
  refine⟨_,((ae (c6 (dX (pv 0) T.aw T.dn (c7 T) (γ.mono @C) T.aQ.2 .nil gR (!j 1 ag)))
   (ae (au (i:=2) cu.nd rfl @E af)
   (ae (au (i:=3) cu.nd rfl @E af)
   (ae (eX (pe ⟨rfl,rfl⟩) rfl (aZ (K:=K) rfl (ao (km T) γ T.mf T.iC (!j 1 ag))) (ax (i:=4) cu.nd rfl @E) (ae (au (i:=2) cu.nd rfl @E (ar gP (pv 2) (!A @G (!A @G (be (K:=K) rfl (pv 0) rfl) (pv 4)) af)))
   (ai (au (i:=3) cu.nd rfl @E (ar gP (pv 3) (!A @G (!A @G (be (K:=K) rfl (pv 0) rfl) (pv 4)) af))))))
   (ai (aC (fh (!j 2 (!j 3 ag)))))))))),aB (σ':=[ak _,ak _,hB,hB,hB]) rfl ?_⟩
  lia;refine cR ho rfl ?_;lia;refine⟨p,m,nx,os,x,k,rfl,ma,hk,λhm=>?_,θ⟩;obtain⟨φ,rfl,χ⟩:=oH hm;lia;refine⟨φ,rfl,iY χ @A,λD H1 f1 Z ε=>?_⟩;rw[M.pl_up χ @A] at ε;generalize ξ:nx.map (λq=>q.2.1)=As at β;generalize ζ:nx.map (λq=>q.2.2)=Bs at β;have ν:As.length=nx.length:=by rw[<-ξ,dt]
  have ι:Bs.length=nx.length:=by rw[<-ζ,dt]
  lia;refine fu (xs:=(M.pl nx.length φ).map nat) (λi σ H'=>∃v,σ=[ak (.ref p),ak (nat φ),ak (nat (((M.pl nx.length φ).take i).foldl (λa p=>a^^^As.getD p 0) 0)),ak (nat (((M.pl nx.length φ).take i).foldl (λa p=>a^^^Bs.getD p 0) 0)),v]/\H'=H1) ⟨hB,rfl,rfl⟩ (λi σ H' _ ⟨_,_,e⟩=>by rw[e];exact SqL.of ε) ?_ ?_
  ·rintro i y σ H' ο ⟨v,rfl,rfl⟩;obtain⟨k,ψ,rfl⟩:=aK ο;have α:k < nx.length:=Kw.mp (LC.mp (hQ ψ)).1;obtain⟨Y,O⟩:∃Y,nx[k]? =ak Y:=⟨_,fy α⟩;have τ:atI (refs nx) (k:Int)=ak (.ref Y.1):=jz (by unfold refs;rw[lz,O];rfl);have ht:=Z.get (ma.hn Y (hQ O));have ρ:=Z.get hn;have ω:As.getD k 0=Y.2.1:=by rw[<-ξ,eh,lz,O];rfl
   have υ:Bs.getD k 0=Y.2.2:=by rw[<-ζ,eh,lz,O];rfl
   lia;refine bc (Z.get ho) T.aw T.bE rfl ?_;lia;refine bc (Z.get ho) T.aw T.bE rfl ?_;lia;refine⟨ak (nat k),?_,rfl⟩;rw[bj,bj,take_succ ψ,LS,LS];show _=[_,_,ak (nat (_^^^As.getD k 0)),ak (nat (_^^^Bs.getD k 0)),_];rw[ω,υ]
  ·rintro σ H' ⟨v,rfl,rfl⟩;rw[dt,z9,M.sm_places As φ (by rw[ν];exact χ) nx.length @A,M.sm_places Bs φ (by rw[ι];exact χ) nx.length @A];lia;intro t H2 f2 η e2;exact β φ rfl χ t H2 (Z.trans η) e2
theorem jX (T:Tx K mg a):FnOk P w K mg base CX0 1 a.bz a.kO ["self"] (Fb a.aj):=by
 refine T.c5.1.okA oW fun π A outer s H vs Q E τ h=>?_;obtain⟨p,m,nx,os,rfl,ma,g,q⟩:=h;obtain⟨dx,δ,to,ho,hn,Z⟩:=ma.ho;refine⟨_,((ai (aC (fh (aa (be (K:=K) rfl (pv 0) rfl) (aa (gD (g9 (K:=K) rfl) (by rfl) T.jE Kl (aa (be (K:=K) rfl (pv 0) rfl) ag)) (aa (gD (g9 (K:=K) rfl) (by rfl) T.jE Kl (aa (be (K:=K) rfl (pv 0) rfl) ag)) ag))))))),aB (σ':=[ak _]) rfl ?_⟩;lia;refine bc ho T.aw T.aR rfl ?_;lia;refine bc ho T.aw T.bE rfl ?_;lia;intro ο H1 ι O ζ;have θ:=O.get Z;lia;refine bc (O.get ho) T.aw T.bZ rfl ?_;lia;intro α H2 ε γ ξ;lia;intro t ρ υ Y ν
 have β:H α=none:=by
  cases η:H α with
  | none=>rfl
  | some v=>have:=O.get η;rw[ε] at this;cases this
 exact q t ο α ρ ι β (ay ζ ε) (O.trans (γ.trans Y)) ν (Y.get (γ.get ζ)) (Y.get ξ)
theorem bU (T:Tx K mg a):FnOk P w K mg base CX0 1 a.aU a.jb ["self"] (yh a.aj):=by
 refine T.aW.1.okA lK λY A outer s H vs Q E Z h=>?_;obtain⟨p,m,nx,os,rfl,ma,q⟩:=h;obtain⟨dx,δ,to,ho,hn,O⟩:=ma.ho;refine⟨_,((ai (aC (aF (bf (K:=K) rfl) (by rfl) T.i5 Kd (aa (be (K:=K) rfl (pv 0) rfl) ag))))),aB (σ':=[ak _]) rfl ?_⟩;lia;refine bc ho T.aw T.bZ rfl ?_;lia;unfold refs;rw[dt];exact q
end
end
local macro_rules | `(tactic| walk_at "l2step") =>`(tactic| first | ((with_reducible refine' qC ?e ?a ?_);(case e=>walk_at "l2hp");(case a=>walk_at "l2side")) | ((with_reducible refine' Gs ?a ?b ?_);(case a=>walk_at "l2side");(case b=>walk_at "l2side");(with_reducible intro _ _)))
section
variable {P:qc} {w:y3} {K:aS} {mg:F'} {base:Ke} {a:Ad}
local macro_rules | `(tactic| walk_at "l2step") =>`(tactic| first | ((with_reducible refine' d8 ?e ?_);(case e=>walk_at "l2kind")) | ((with_reducible refine' iA ?e ?_);(case e=>walk_at "l2kind")) | (with_reducible refine c9 ?_) | (with_reducible refine eV ?_))
local macro_rules | `(tactic| walk_at "l2step") =>`(tactic| first | ((with_reducible refine' qC ?e ?a ?_);(case e=>walk_at "l2hp");(case a=>walk_at "l2side")))
theorem i0 (T:Tx K mg a):FnOk P w K mg base CX0 5 a.bG a.jG ["_law_told","_law_found","_law_cells"] (vQ K a.aj):=by
 refine T.cV.1.okA bo λh6 A outer s H vs Q E ρ h=>?_;obtain⟨t,n,o,m,nx,os,f,x,D,d,π,χ,μs,rs,c,cs,rfl,tt,ef,eD,ma,b5,en,eo,bk,f1,c0,ζ,φ,q⟩:=h;have a0:=A6 ρ;have e0:=tt.t;have a6:=tt.tab.n;have ω:=tt.tab.o;obtain⟨dm,xn,xo,hx,_⟩:=ma.ho;obtain⟨O,rb,b4,rn⟩:=bk.rws;have m6:=tt.tab.m6;have g0:CPow (1:Int) ((m:Nat):Int):=⟨@A,@A,@C⟩;have b0:=bk.le;rw[aq] at b0;have c1:χ.length=m:=by have:=zt M' eo;rw[aq,x9,bk.mks.len] at this;exact this
 have Z:(d + 1) * os.length < 64:=qE (LF _ @A) c0
 have f0:π.length<=80:=by
  have h1:=zt M' en;have h2:=x8 (ps:=prs nx) (os:=prs os) (d:=d) (μs:=μs);rw[aq] at h1;rw[aq,aq] at h2;omega
 refine⟨_,((ae (Aq (pv 1) (nO rfl (aM (ax (i:=3) bo.nd rfl @E) (aM (ax (i:=4) bo.nd rfl @E) (aM (ax (i:=5) bo.nd rfl @E) (aM (ax (i:=6) bo.nd rfl @E) ik))))))
  (ae (cI (PW.pt (iE (cS (cw (ao (fk T) ρ T.gE T.cF (!j 4 (aa (aF (bf (K:=K) rfl) (by rfl) T.i5 Kd (aa (!A @G (pv 0) af) ag)) ag))))) (iE (cS (cw (aF (yU (K:=K) rfl) (by rfl) T.bD z1 (!j 5 (aa (tz (v:= .ref a.aj) (by rfl) T.qf rfl) ag))))) (ij (cS (cw (aF (dR (K:=K) rfl) (by rfl) T.bD z1 (!j 6 (aa (iQ (v:= .ty "list") (by rfl) T.jE Kl rfl) ag))))))))) (ai (aC lg)) aL)
  (ae (cI (PW.pt (iE (aD ph (be (K:=K) rfl (pv 5) rfl) (aF (bf (K:=K) rfl) (by rfl) T.i5 Kd (aa (!A @G (pv 0) af) ag)) (aI _)) (iE (aD ph (dE (pv 5) T.aw T.cy (bU T) (ρ.mono @C) T.aW.2 .nil gX) (!A @G (pv 0) af) (aI _)) (iE (aD ph (aF (bf (K:=K) rfl) (by rfl) T.i5 Kd (!j 6 ag)) (pv 4) (aI _)) (ij (aD nY (dE (pv 5) T.aw T.bR (bL T) (ρ.mono @C) T.aT.2 .nil gX) af (aI _))))))) (ai (aC lg)) aL)
  (ae (cI (PW.pt (iE (aD (tE (K:=K) rfl a0) (dY (osc:=ah dU) (ON:=["_law_told","_law_found","_law_cells","_law_word","_law_delay","_law_other","_law_rows_here","_law_cell_here","_law_some"]) (N:=["_law_row","_law_told"]) (n:=1) (fx:=[0]) rfl rfl rfl (by decide +kernel) (aZ (K:=K) rfl (pv 6)) (aX @C) (λ_ _ _ _ _=>⟨(ax (i:=0) (show y' (["_law_row","_law_told"]:C') from by decide +kernel) rfl @E),(o8 (cS (cw (ao (fk T) ρ T.gE T.cF (!j 0 (aa (ar eJ (ar cE af (!A @G (pv 1) af)) af) ag)))))),(pv 0)⟩)) (de ag) (aI _)) (ij (aD (we (K:=K) rfl a0) (dW (gT (K:=K) rfl) (pv 6) gO (gN af)) (de (aa af ag)) (aI _))))) (ai (aC lg)) aL)
  (ae (cI (aD (tE (K:=K) rfl a0) (ao (lC T) ρ T.nG T.hV (!j 0 (!j 6 ag))) (ar AB (de (aa af ag)) (pv 4)) (aI _)) (ai (aC lg)) aL)
  (ae (eX y2 rfl (aZ (K:=K) rfl (pv 2)) (ax (i:=7) bo.nd rfl @E) (ae (au (i:=8) bo.nd rfl @E (ao (uT T) ρ T.wC T.jA (!j 7 (aa af (aa (!A @G (pv 0) af) ag)))))
  (ai (cI (aD (tE (K:=K) rfl a0) (ao (lC T) ρ T.nG T.hV (aa (dE (pv 5) T.aw T.kI (jX T) (ρ.mono @C) T.c5.2 .nil gX) (aa (ao (lC T) ρ T.nG T.hV (!j 0 (!j 8 ag))) ag))) (ar lR (ar AB (de (aa af ag)) (pv 4)) (dW (gT (K:=K) rfl) (pv 8) gO (gN (ar eJ af (pv 4))))) (aI _)) (ai (aC lg)) aL))))
  (ai (aC lg))))))))),aB (σ':=[ak _,ak _,ak _,hB,hB,hB,hB,hB,hB]) rfl ?_⟩
 lia;refine⟨d,nx.length,by rw[dc],?_⟩;rw[pB b0];lia;refine Hl hx T.BV T.fV ?_;lia;refine bc hx T.aw T.aR rfl ?_;lia;rw[dc];lia;dsimp only;rw[ov @D];lia;refine bJ hx rfl ?_;lia;refine⟨x,os.length,π,χ,rfl,ma,?_⟩;rw[c1];lia;dsimp only;rw[ov @D];lia;rw[dt,O];lia;dsimp only;rw[ov @D];lia;refine bJ hx rfl ?_;lia;refine⟨x,os.length,π,χ,rfl,ma,?_⟩;lia;dsimp only;rw[ov (by rw[Kc];omega)];lia;intro ο γ;refine bW (xs:=rs.map nat) (λi ys H'=>Cs (λi ys=>ys=[]) H ο i ys H') (Cs.zero γ rfl) (λi ys H' _ c=>SqL.of (c.same.get eD)) (λi v ys H' hv c=>?_) (λys H1 c=>?_)
 ·obtain⟨r,β,rfl⟩:=aK hv;have f8:=rb r (hQ β);have h5:=c.same.get e0;lia;have p2:=lh m;refine⟨r,2 ^ m - 1,by rw[shl1,show(((2 ^ m - 1:Nat):Nat):Int)=((2 ^ m:Nat):Int) - 1 by omega],?_⟩;rw[pB (show r<=2 ^ m - 1 by omega)];lia;exact Cs.skip c.same c.at' c.len c.pv
 ·have e1:=c.at';rw[c.pv] at e1;have s1:=c.same;clear c;lia;intro L2 H2 f2 s2 e2;refine rS (ns:=[]) (SqL.of (s2.get e1)) (SqL.of e2) ?_;have ξ:=s1.trans s2;have h0:=ξ.get eD;lia;intro D3 H3 f3 s3 e3;lia;intro L4 H4 f4 Y υ;rw[Gr] at e3;refine Fv (ns:=rs.take 1) (ms:=[0]) (SqL.of (Y.get e3)) (SqL.of υ) rn ?_;have ν:=ξ.trans (s3.trans Y);lia;refine⟨t,n,o,D,nat m,nx,os,rs,rfl,ν.get e0,SqL.of (ν.get a6),SqL.of (ν.get ω),tt.tab.pn.same ν,tt.tab.po.same ν,tt.tab.ln,Lf tt.tab.lo @C,ν.get eD,@A,λx hx=>f' (rb x hx) (gA @C @A),λD5 H5 f5 s5 e5=>?_⟩;rw[b4] at e5;lia;intro D6 H6 f6 s6 e6;lia;refine Ft e6 @A @A (by rw[qq,pT];simp;omega) λD7 H7 f7 s7 e7=>?_;have e7:H7 D7=ak (.lst ((gB d 0).map nat)):=by rw[e7];simp
  refine rS (SqL.of (s7.get (s6.get e5))) (SqL.of e7) ?_;have b3:=ν.trans (s5.trans (s6.trans s7));clear s1 s2 s3 Y s5 s6 s7 e1 e2 e3 υ e5 e6 e7 f2 f3 f4 f5 f6 f7;lia;refine fu (xs:=cs.map V.int) (λi σ H'=>∃v7 v8,σ=[ak (V.ref t),ak (V.ref f),ak (V.ref c),ak (V.str (M3 "back")),ak (nat d),ak (V.ref x),ak (V.ref D),v7,v8]/\Same H H') ⟨hB,hB,rfl,b3⟩ (λi σ H' _ ⟨_,_,_,s'⟩=>SqL.of (s'.get ζ)) ?_ ?_
  ·rintro i y σ H8 hy ⟨v7,v8,rfl,s8⟩;obtain⟨α,g3,rfl⟩:=aK hy;have h4:=s8.get e0;lia;refine⟨α,20,m,rfl,@C,@A,λD9 H9 us f9 s9 e9 l9 b9=>?_⟩;have a3:=s8.trans s9;have c2:=a3.get hx;lia;refine bJ c2 rfl ?_;lia;refine⟨x,os.length,π,χ,rfl,ma.same a3,b5,λt2 n2 o2 HA g5 g4 e8 sA eA d1 c3=>?_⟩;have τ:=a3.trans sA;lia;refine⟨t,n,o,D9,nat m,nx,os,us,rfl,τ.get e0,SqL.of (τ.get a6),SqL.of (τ.get ω),tt.tab.pn.same τ,tt.tab.po.same τ,tt.tab.ln,Lf tt.tab.lo @C,sA.get e9,@A,λx hx=>f' (b9 x hx) (gA @C @A),λDB η fB sB eB=>?_⟩;have ψ:=τ.trans sB;have a5:=ma.same ψ;lia;refine⟨t2,n2,o2,DB,nat os.length,π,χ,_,rfl,sB.get eA,SqL.of (sB.get d1),SqL.of (sB.get c3),a5.hn,a5.hs,@A,@A,eB,by rw[M.wan_len];omega,λy hy=>f' (M.wan_lt @F (prs os) us 0 y hy) (gA @C (by rw[aq];have:=tt.tab.lo;omega)),λDC HC fC sC eC=>?_⟩
   have hA:∀q∈prs nx++prs os,q.1 < 2 ^ (@F).length:=λq' θ=>by
    rw[show prs nx++prs os=prs (nx++os) from(hH ..).symm] at θ;obtain⟨r,β,rfl⟩:=oi.mp θ;rw[aq];exact(tt.tab.bn r β).1
   rw[en,eo,M.told_back bk.mks hA (by rw[aq,aq];omega) (by rw[aq];have:=tt.tab.lo;omega) @A b9,l9,Rx,wh,N8 (show(gB d 0).length<=20 by rw[wh];omega)] at eC;lia;intro DD HD fD sD d2;have d3:=(sA.trans (sB.trans (sC.trans sD))).get e9;lia;refine Ft d2 @A @A (by rw[qq,pT];simp;omega) λDE HE δ sE ι=>?_;have ι:HE DE=ak (.lst ((gB d 0).map nat)):=by rw[ι];simp
   have h3:=sE.get d3;lia;intro DF HF fF sF eF;rw[show(20:Int) - (d:Int)=((20 - d:Nat):Int) by omega,oM _ _ (by rw[dt];omega),<-Nh] at eF;refine qP (sF.get ι) eF (by rw[dt,dt,wh,Kt];exact L9 (dh @A)) λDG ε fG sG eG=>?_;rw[<-hH] at eG;have a4:=sD.trans (sE.trans (sF.trans sG));refine rS (SqL.of (a4.get eC)) (SqL.of eG) ?_;lia;exact⟨_,_,rfl,ψ.trans (sC.trans a4)⟩
  ·rintro σ H8 ⟨v7,v8,rfl,s8⟩;lia;exact q _ s8
end
section
variable {P:qc} {w:y3} {K:aS} {mg:F'} {base:Ke} {a:Ad}
local macro_rules | `(tactic| walk_at "l2step") =>`(tactic| first | ((with_reducible refine' d8 ?e ?_);(case e=>walk_at "l2kind")) | ((with_reducible refine' iA ?e ?_);(case e=>walk_at "l2kind")) | (with_reducible refine c9 ?_) | (with_reducible refine eV ?_))
local macro_rules | `(tactic| walk_at "l2step") =>`(tactic| first | (with_reducible refine Fy ?_))
theorem lX (T:Tx K mg a):FnOk P w K mg base CX0 4 a.bu a.ja ["_law_told","_law_found"] uG:=by
 refine T.dJ.1.okA aE λj1 A outer s H vs Q E hr h=>?_;obtain⟨t,n,o,m,nx,os,H0,f,B,S,I,L,u,bars,δ,bq,ls,rfl,tt,h3,τ,q⟩:=h;have e0:=tt.t;have b9:=tt.tab.n;have ω:=tt.tab.o;have m6:=tt.tab.m6;have et:=τ.ht;have eB:=τ.hb;have eS:=τ.hs;have eI:=τ.hi;have eL:=τ.hl
 have lw:δ.length<=nx.length:=by
  obtain⟨j,S,_⟩:=τ.fev.ex
  have hl:∀r∈δ.map (· % 2 ^ (prs nx).length),r < 2 ^ nx.length:=λr hr=>by
   obtain⟨x,_,rfl⟩:=oi.mp hr;rw[aq];exact Nu _ (lh _)
  have:=M.rank_le hl;rw[M.fr_inj S.w.inj,dt] at this;exact this
 have c2:∀w∈δ,w < 2 ^ (nx.length + m)/\M.tr2 (prs os) (w % 2 ^ (@F).length) (w>>>(@F).length)=0:=by
  obtain⟨j,S,_⟩:=τ.fev.ex;exactλw hw=>⟨by have:=S.w.lt w hw;rw[aq] at this;exact this,(S.w.ev w hw).1⟩
 generalize ζ:δ.map (· % 2 ^ (@F).length)=Ss at *
 generalize b4:δ.map (·>>>(@F).length)=Is at *
 have lS:Ss.length=δ.length:=by rw[<-ζ,dt]
 have lI:Is.length=δ.length:=by rw[<-b4,dt]
 have ll:=τ.ll
 have b0:∀{x p:Nat},Sumd Ss x p->M.xs Ss (M.pl 1000 p)=x/\(M.pl 1000 p).Pairwise (· < ·)/\(∀k∈M.pl 1000 p,k < δ.length):=λ{x p} sd=>by
  refine⟨?_,M.pl_rise 1000 p,λk hk=>?_⟩
  ·rw[M.pl_up sd.lt @A,M.xs_pl,sd.sm]
  ·rw[<-lS];exact M.pl_lt sd.lt k hk
 obtain⟨h5,ρ,e8⟩:=b0 (by have:=τ.bs;rw[ζ] at this;exact this)
 refine⟨_,((ae (Aq (pv 1) (nO rfl (aM (ax (i:=2) aE.nd rfl @E) (aM (ax (i:=3) aE.nd rfl @E) (aM (ax (i:=4) aE.nd rfl @E) (aM (ax (i:=5) aE.nd rfl @E) (aM (ax (i:=6) aE.nd rfl @E) (aM (ax (i:=7) aE.nd rfl @E) ik))))))))
  (ae (au (i:=8) aE.nd rfl @E (aF (bf (K:=K) rfl) (by rfl) T.i5 Kd (!j 5 ag)))
  (ae (cI (PW.pt (iE (aD ph (aF (bf (K:=K) rfl) (by rfl) T.i5 Kd (!j 6 ag)) (pv 8) (aI _)) (iE (aD ph (aF (bf (K:=K) rfl) (by rfl) T.i5 Kd (!j 7 ag)) (pv 8) (aI _)) (ij (cS (cw (ao (kH T) hr T.mh T.fJ (!j 4 (!j 8 ag))))))))) (ai (aC lg)) aL)
  (ae (eX y2 rfl (FU (K:=K) rfl (by rfl) T.C3 (ar lR (pv 5) (de (aa af ag))) (ar lR (pv 6) (de (!j 3 ag))) (ar lR (pv 7) (de (!j 4 ag)))) (nO rfl (aM (ax (i:=9) aE.nd rfl @E) (aM (ax (i:=10) aE.nd rfl @E) (aM (ax (i:=11) aE.nd rfl @E) ik)))) (ae (cI (PW.pt (iE (cS (cw (ao (fk T) hr T.gE T.cF (!j 9 (aa (ar eJ (ar cE af (aF (bf (K:=K) rfl) (by rfl) T.i5 Kd (aa (!A @G (pv 0) af) ag))) af) ag))))) (ij (cS (cw (ao (fk T) hr T.gE T.cF (!j 10 (aa (ar eJ (ar cE af (!A @G (pv 0) af)) af) ag)))))))) (ai (aC lg)) aL)
  (ae (cI (PW.pt (iE (cS (cw (ao (kH T) hr T.mh T.fJ (!j 11 (!j 8 ag))))) (ij (aD ph (ao (iH T) hr T.jr T.d9 (aa (!A @G (pv 0) af) (!j 9 (!j 10 ag)))) af (aI _))))) (ai (aC lg)) aL)
  (ai (cI (aD ph (ao (iH T) hr T.jr T.d9 (aa (!A @G (pv 0) af) (!j 9 (!j 10 ag)))) (ao (qV T) hr T.tY T.g6 (!j 5 (!j 11 ag))) (aI _)) (ai (aC lg)) aL)))))
  (ai (aC (il ph (pv 3) af (aI _))))))))),aB (σ':=[ak _,ak _,hB,hB,hB,hB,hB,hB,hB,hB,hB,hB]) rfl ?_⟩
 lia;simp only[dt,lS,lI];rw[ov @D];lia;simp only[dt,ll];rw[ov @D];lia;refine⟨B,_,δ.length,rfl,eB,ρ,e8,@A,λH1 s1=>?_⟩;have f1:=s1.get eS;lia;intro α H2 f2 s2 e2;lia;refine qP (s2.get f1) e2 (by rw[dt,lS,qq];simp;omega) fun β H3 f3 s3 e3=>?_;have a3:=s1.trans (s2.trans s3);have g0:=a3.get eI;lia;intro D4 H4 f4 Y υ;lia;refine qP (Y.get g0) υ (by rw[dt,lI,qq];simp;omega) λD5 H5 f5 s5 e5=>?_;have O:=a3.trans (Y.trans s5);have f8:=O.get eL;lia;intro D6 H6 f6 s6 e6;lia;refine qP (s6.get f8) e6 (by rw[dt,ll,qq];simp;omega) λD7 H7 f7 s7 e7=>?_;have a0:=O.trans (s6.trans s7);have c1:=(Y.trans (s5.trans (s6.trans s7))).get e3;have c0:=(s6.trans s7).get e5;lia
 have c3:∀(i:Nat) (xv yv zv:V),(Ss.map nat++[V.int 0])[i]? =ak xv->(Is.map nat++[nat u])[i]? =ak yv->((ls.map λq=>V.ref q.1)++[V.ref B])[i]? =ak zv->∃(x r:Nat) (γ:gn) (q:Nat),xv=nat x/\yv=nat r/\zv= .ref γ/\H γ=ak (.lst ((M.pl 1000 q).map nat))/\x < 2 ^ nx.length/\r < 2 ^ m/\M.tr2 (prs os) x r=0/\Sumd Ss (M.tr2 @F x r) q:=by
  intro i xv yv zv hx hy hz;by_cases hi:i < δ.length
  ·have a4:=c2 _ (LU hi);rw[u' (by rw[dt];omega),<-ζ,lz,lz,fy hi] at hx;rw[u' (by rw[dt];omega),<-b4,lz,lz,fy hi] at hy;have θ:i < ls.length:=by omega
   rw[u' (by rw[dt];omega),lz,fy θ] at hz;have a5:=τ.ss i _ _ (fy hi) (fy θ);rw[ζ] at a5;refine⟨_,_,_,_,(kf hx).symm,(kf hy).symm,(kf hz).symm,τ.el _ (LU θ),?_,?_,a4.2,a5⟩
   ·rw[aq];exact Nu _ (lh _)
   ·rw[aq];show δ[i]>>>nx.length < 2 ^ m;rw[z3,Oy (lh _),<-Nf,Ni]
    exact a4.1
  ·have e1:i=δ.length:=by
    have:=(eH.mp hx).1;rw[hC,dt,lS] at this;simp at this;omega
   subst e1;rw[vr (by rw[dt];omega),dt,lS,Ms] at hx;rw[vr (by rw[dt];omega),dt,lI,Ms] at hy;rw[vr (by rw[dt];omega),dt,ll,Ms] at hz;have b3:=τ.bs;rw[ζ] at b3;exact⟨0,u,B,bq,(kf hx).symm,(kf hy).symm,(kf hz).symm,eB,lh _,τ.ul,τ.ev.1,b3⟩
 refine⟨β,D5,D7,_,_,_,rfl,rfl,rfl,SqL.of c1,SqL.of c0,SqL.of e7,?_⟩;have π:CPow (1:Int) ((m:Nat):Int):=⟨@A,@A,@C⟩;have ο:CPow (1:Int) ((nx.length:Nat):Int):=⟨@A,@A,@C⟩;have h0:(2:Nat) ^ nx.length<=2 ^ 1000:=gA @C @A;have ν:(2:Nat) ^ m<=2 ^ 1000:=gA @C @A;have g5:=lh m;have ι:=lh nx.length;refine Dp (xs:=Ss.map nat++[V.int 0]) (ys:=Is.map nat++[nat u]) (zs:=(ls.map λq=>V.ref q.1)++[V.ref B]) (by rw[hC,hC,dt,dt,lS,lI];rfl) (by rw[hC,hC,dt,dt,lS,ll];rfl) (λi σ H'=>∃v1 v2 v3,σ=[ak (V.ref t),ak (V.ref f),ak (V.str (M3 "never")),ak (nat u),ak (V.ref B),ak (V.ref S),ak (V.ref I),ak (V.ref L),ak (V.int δ.length),v1,v2,v3]/\Same H7 H') ⟨hB,hB,hB,rfl,Same.refl _⟩ (λi σ H' _ ⟨_,_,_,_,s'⟩=>⟨SqL.of (s'.get c1),SqL.of (s'.get c0),SqL.of (s'.get e7)⟩) ?_ ?_
 ·rintro i xv yv zv σ H8 p8 H9 hx hy hz ⟨v1,v2,v3,rfl,s8⟩ Z s9 e9;obtain⟨x,r,γ,q',rfl,rfl,rfl,b5,ξ,h4,ho,sd⟩:=c3 i xv yv zv hx hy hz;have ε:=a0.trans (s8.trans s9);have φ:=ε.get e0;have h7:=ε.get b9;have h6:=ε.get ω;have g4:=ε.get b5;lia;rw[dc];lia;refine⟨x,2 ^ nx.length - 1,by rw[shl1,show(((2 ^ nx.length - 1:Nat):Nat):Int)=((2 ^ nx.length:Nat):Int) - 1 by omega],?_⟩;rw[pB (show x<=2 ^ nx.length - 1 by omega)];lia;refine⟨r,2 ^ m - 1,by rw[shl1,show(((2 ^ m - 1:Nat):Nat):Int)=((2 ^ m:Nat):Int) - 1 by omega],?_⟩;rw[pB (show r<=2 ^ m - 1 by omega)];lia;obtain⟨d3,d2,a6⟩:=b0 sd;refine⟨γ,_,δ.length,rfl,g4,d2,a6,@A,λHA sA=>?_⟩;have χ:=ε.trans sA;have j0:=χ.get e0;lia;refine⟨o,os,x,r,rfl,SqL.of (χ.get ω),tt.tab.po.same χ,Lf tt.tab.lo @C,@A,@A,fun η sB=>?_⟩;rw[ho];lia;have ψ:=χ.trans sB;have h9:=ψ.get e0;have f0:=ψ.get eS;have g3:=ψ.get b5;refine⟨n,nx,x,r,rfl,SqL.of (ψ.get b9),tt.tab.pn.same ψ,tt.tab.ln,@A,@A,λHC sC=>?_⟩;lia;refine⟨S,γ,Ss,_,rfl,sC.get f0,sC.get g3,λk hk=>by rw[lS];exact a6 k hk,?_⟩;rw[d3];lia;dsimp only;rw[ov @D];lia;exact⟨_,_,_,rfl,s8.trans (s9.trans (sA.trans (sB.trans sC)))⟩
 ·rintro σ H8 ⟨v1,v2,v3,rfl,s8⟩;have d1:=τ.u0;lia;rw[qa (show ¬(nat u=V.int 0) from λh=>d1 (by have:=V.int.inj h;omega))];exact q _ (a0.trans s8)
end
section
variable {P:qc} {w:y3} {K:aS} {mg:F'} {base:Ke} {a:Ad}
theorem jC (T:Tx K mg a):FnOk P w K mg base CX0 1 a.bg a.j6 ["self","mask"] (GU a.aV):=by
 refine T.cA.1.okA cQ λa0 A outer s H vs Q E χ h=>?_;obtain⟨p,d,f,n,rows,x,rfl,st,q⟩:=h;have hu:=A5 χ;obtain⟨dx,ho⟩:=st.ho;obtain⟨es,hd,ht,g,l⟩:=st.he
 refine⟨_,((ae (au (i:=2) cQ.nd rfl @E af)
  (ae (lO y2 (Eo (Ia hu (ar eJ (k9 (K:=K) rfl Lk KN KM lF (pv 1)) af) (be (K:=K) rfl (pv 0) rfl))) (ae (au (i:=3) cQ.nd rfl @E (Ay hu (be (K:=K) rfl (pv 0) rfl) (ar eJ (k9 (K:=K) rfl Lk KN KM lF (pv 1)) af) (λ_ _=>rfl)))
  (ae (au (i:=1) cQ.nd rfl @E (ar gP (pv 1) (!A @G (pv 3) af)))
  (ai (au (i:=2) cQ.nd rfl @E (ar gP (pv 2) (!A @G (pv 3) af)))))))
  (ai (aC (fh (!j 1 (!j 2 ag)))))))),aB (σ':=[ak _,ak _,hB,hB]) rfl ?_⟩
 lia;refine⟨fun μ σ' H'=>∃Y v,σ'=[ak (.ref p),ak (nat (x^^^M.sm rows Y)),ak (nat Y),v]/\H'=H/\Y < 2 ^ rows.length/\μ=x^^^M.sm rows Y/\M.Frs rows Y,⟨x,0,hB,?_,rfl,lh _,?_,M.Frs.zero _⟩,?_⟩
 ·rw[M.sm_zero,Lq];rfl
 ·rw[M.sm_zero,Lq]
 rintro μ σ' H' ⟨Y,v,rfl,rfl,ξ,rfl,β⟩;lia;refine bc ho T.dA T.bY rfl ?_;refine Hu hd ?_;lia;generalize hm:x^^^M.sm rows Y=m;refine iteB (fun γ=>?_) (fun γ=>?_)
 ·rcases mH es ((z4 (m:Int):Nat) - 1:Int) with ⟨e,he,ζ,ev⟩ | ⟨_,ι⟩
  ·have Z:m≠0:=λz=>by rw[z,vy] at ζ;omega
   have hl2:m.log2=e.m.log2:=by rw[kr Z] at ζ;omega
   have O:(e.m,e.p)∈es.map (λe=>(e.m,e.p)):=oi.mpr ⟨e,he,rfl⟩;have e0:=g.nz _ O;refine⟨fun ν H2=>∃δ v,ν=[ak (.ref p),ak (nat (x^^^M.sm rows δ)),ak (nat δ),v]/\H2=H'/\δ < 2 ^ rows.length/\x^^^M.sm rows δ < m/\M.Frs rows δ,fun ν H2 ⟨δ,v,h1,h2,ψ,θ,α⟩=>⟨_,θ,δ,v,h1,h2,ψ,rfl,α⟩,?_⟩;lia;refine bc ho T.dA T.bY rfl ?_;lia;refine Ag hd ev ?_;have φ:=ht e he;lia;refine⟨Y^^^e.p,ak (.ref e.a),?_,rfl,M.xor_lt_pow ξ (g.lt _ O),?_,β.xor (g.sub _ O)⟩
   ·rw[M.sm_xor,g.sm _ O,<-KP,hm,bj,bj]
   ·rw[M.sm_xor,g.sm _ O,<-KP,hm];exact M.xor_less Z e0 hl2
  ·rw[ι] at γ;cases γ
 ·lia;intro t H2 ω ρ e2;subst hm;refine q t H2 Y ω ρ e2 ξ (fun τ y υ π hl2=>?_) β;rcases mH es ((z4 ((x^^^M.sm rows Y:Nat):Int):Nat) - 1:Int) with ⟨e,he,ζ,ev⟩ | ⟨h1,ι⟩
  ·rw[ev] at γ;cases γ
  ·obtain⟨e,he,η⟩:=g.all y υ π;obtain⟨ο,ε,rfl⟩:=oi.mp he;refine h1 ο ε ?_;have η:ο.m.log2=y.log2:=η;rw[kr τ,η,hl2];omega
theorem uU (T:Tx K mg a):FnOk P w K mg base CX0 2 a.cP a.qx ["self","place","row"] (GV a.aV):=by
 refine T.iD.1.okA jS fun ω A outer s H vs Q E ξ h=>?_;obtain⟨p,d,f,n,rows,r,rfl,st,hl,q⟩:=h;have hu:=A5 ξ;obtain⟨dx,ho⟩:=st.ho
 refine⟨_,((ae (au (i:=3) jS.nd rfl @E (o9 (pv 0) T.dA T.jY (jC T) (ξ.mono @C) T.cA.2 .nil gX (!j 2 ag)))
  (ae (au (i:=4) jS.nd rfl @E (ar gP (!A @G (pv 3) af) (ar cE af (pv 1))))
  (ai (cI (aD kB (!A @G (pv 3) af) af (aI _)) (ai (c6 (iZ (K:=K) rfl z5 Kq Kp dj (be (K:=K) rfl (pv 0) rfl) (!j 4 ag)))) (ae (c6 (iZ (K:=K) rfl z5 Kq Kp dj (be (K:=K) rfl (pv 0) rfl) (!j 1 ag)))
  (ai (FO hu (be (K:=K) rfl (pv 0) rfl) (ar eJ (k9 (K:=K) rfl Lk KN KM lF (!A @G (pv 3) af)) af) (fh (aa (!A @G (pv 3) af) (!j 4 ag))) rfl)))))))),aB (σ':=[ak _,ak _,ak _,hB,hB]) rfl ?_⟩
 lia;refine bJ ho rfl ?_;lia;refine⟨p,d,f,n,rows,r,rfl,st,λt H2 ε f2 γ τ ο hn ι=>?_⟩;lia;rw[shl1,bj];have α:=γ.get ho;have O:=st.same γ;have lf:=M.fr_len rows;refine iteB (fun ζ=>?_) (fun ζ=>?_)
 ·have hz:r^^^M.sm rows ε=0:=by have:=V.int.inj (Md ζ);omega
  obtain⟨nms,δ,ρ⟩:=O.hn;have ln:=ρ.len;lia;refine bc α T.dA T.iI rfl ?_;lia;refine gm δ (by rw[dt];exact dh @A) fun φ β=>?_;lia;exact q φ (λb o h1 h2 π e=>β.oth _ _ π (γ.get e)) (O.null ο hz ρ δ β)
 ·have hz:r^^^M.sm rows ε≠0:=λz=>by rw[z] at ζ;exact kv ζ @C
  obtain⟨es,hd,ht,g,le⟩:=O.he;have χ:=O.hf;lia;refine bc α T.dA T.d0 rfl ?_;lia;refine gm O.hf (by rw[dt];exact dh @A) fun φ β=>?_;have e3:=β.oth _ _ (i4 τ O.hf @D) τ;have θ:=β.oth _ _ (i4 α O.hf @D) α;have ν:=β.oth _ _ (i4 hd O.hf @D) hd;lia;intro t' Z f4 Y υ;lia;refine bc (Y.get θ) T.dA T.bY rfl ?_;lia;refine FD (Y.get ν) (by unfold l8;rw[dt];exact dh @A) λH5 η=>?_;lia;refine q H5 (λb o h1 h2 π e=>η.oth _ _ h1 (Y.get (β.oth _ _ h2 (γ.get e)))) (O.more ο hz (hn hz) ι β Y υ hd ht g le ?_);have ψ:(((r^^^M.sm rows ε).log2 + 1:Nat):Int) - 1=(((r^^^M.sm rows ε).log2:Nat):Int):=by omega
  rw[kr hz,ψ] at η;exact η
theorem fU (T:Tx K mg a):FnOk P w K mg base CX0 3 a.a7 a.jH ["self","rows"] (Fc a.aV):=by
 refine T.bT.1.okA fP λa3 A outer s H vs Q E hr h=>?_;obtain⟨x,dx,r,rows,rfl,hw,hl,τ,q⟩:=h;have hu:=A5 hr;have rx:r≠x:=i4 hw τ @D
 refine⟨_,((ae (mR (K:=K) rfl (pv 0) CV rfl)
  (ae (mR (K:=K) rfl (pv 0) (de ag) rfl)
  (ae (mR (K:=K) rfl (pv 0) (de ag) rfl)
  (ai (eX y2 rfl (mS (K:=K) rfl (by rfl) T.dZ (pv 1)) (nO rfl (aM (ax (i:=2) fP.nd rfl @E) (aM (ax (i:=3) fP.nd rfl @E) ik))) (ai (c6 (o9 (pv 0) T.dA T.wm (uU T) (hr.mono @C) T.iD.2 .nil gX (!j 2 (!j 3 ag))))))))))),aB (σ':=[ak _,ak _,hB,hB]) rfl ?_⟩
 lia;intro d H1 f1 s1 e1;lia;have δ:d≠x:=λz=>by rw[z,τ] at f1;cases f1
 refine mL (s1.get τ) T.dA T.bY @C rfl λH2 ι=>?_;lia;intro f H3 φ ρ e3;lia;have ζ:f≠x:=λz=>by rw[z,ι.at'] at φ;cases φ
 refine mL (ρ.get ι.at') T.dA T.d0 (by show 1 < 1000;decide) rfl λH4 ω=>?_;lia;intro n H5 ξ ν e5;lia;have Z:n≠x:=λz=>by rw[z,ω.at'] at ξ;cases ξ
 refine mL (ν.get ω.at') T.dA T.iI (by show 2 < 1000;decide) rfl λH6 ε=>?_;have k1:∀b o,b≠x->H b=ak o->H2 b=ak o:=λb o O e=>ι.oth _ _ O (s1.get e);have k2:∀b o,b≠x->H b=ak o->H4 b=ak o:=λb o O e=>ω.oth _ _ O (ρ.get (k1 b o O e));have k3:∀b o,b≠x->H b=ak o->H6 b=ak o:=λb o O e=>ε.oth _ _ O (ν.get (k2 b o O e));have nd:∀b o,H b=ak o->b≠d:=λb o e=>ay e f1;have nf:∀b o,b≠x->H b=ak o->b≠f:=λb o O e=>ay (k1 b o O e) φ;have χ:∀b o,b≠x->H b=ak o->b≠n:=λb o O e=>ay (k2 b o O e) ξ;have Y:=ω.oth _ _ ζ e3;have fn:f≠n:=ay Y ξ;have α:H6 d=ak (.dK (l8 [])):=ε.oth _ _ δ (ν.get (ω.oth _ _ δ (ρ.get (ι.oth _ _ δ e1))));have ψ:=k3 _ _ rx hw;lia;refine oJ (xs:=rows.map nat) (λi σ H'=>∃v θ,σ=[ak (.ref x),ak (.ref r),v,θ]/\StA H' a.aV x d f n (rows.take i)/\∀b o,b≠x->H b=ak o->H' b=ak o) ?_ ?_ ?_ ?_
 ·refine⟨hB,hB,rfl,⟨⟨dx,ε.at'⟩,⟨[],α,λ_ h=>kv h @D,M.Ech.nil,rfl⟩,ε.oth _ _ ζ (ν.get Y),⟨[],ε.oth _ _ Z e5,M.Nul.nil⟩,fn⟩,k3⟩
 ·rintro i σ H' _ ⟨v,θ,_,_,k⟩;exact SqL.of (k _ _ rx hw)
 ·rintro i y σ H' p H7 hy ⟨v,θ,rfl,st,k⟩ fp π e7;obtain⟨η,γ,rfl⟩:=aK hy;obtain⟨a0,υ⟩:=(st.same π).ho;lia;refine bJ υ rfl ?_;lia;have tl:=sQ γ;refine⟨x,d,f,n,rows.take i,η,by rw[tl],st.same π,by rw[tl];have:=(eH.mp γ).1;omega,λH8 β ο=>?_⟩;lia;refine⟨_,_,rfl,by rw[take_succ γ];exact ο,λb o O e=>β b o (nd b o e) (nf b o O e) (χ b o O e) (π.get (k b o O e))⟩
 ·rintro σ H' ⟨v,θ,rfl,st,k⟩;rw[dt,z9] at st;lia;exact q H' d f n k st
theorem F3 (T:Tx K mg a):FnOk P w K mg base CX0 5 a.qk a.EG ["rows"] Fi:=by
 refine T.xT.1.okA Fp fun ε A outer s H vs Q E α h=>?_;obtain⟨r,rows,rfl,hw,hl,q⟩:=h;refine⟨_,((ai (aC (gD (g9 (K:=K) rfl) (by rfl) T.jE Kl (aa (be (K:=K) rfl (pd T.wR (fU T) (α.mono @C) (by rfl) T.wD T.bT.2 .nil gX (!j 0 ag)) rfl) ag))))),aB (σ':=[ak _]) rfl ?_⟩;lia;intro x dx H2 γ O δ;refine⟨x,dx,r,rows,rfl,O.get hw,hl,δ,fun η d f n k st=>⟨rfl,?_⟩⟩;obtain⟨Z,ho⟩:=st.ho;refine bc ho T.dA T.d0 rfl ?_;have hf:=st.hf;lia;intro D ζ β Y υ;have hs:Same H η:=λb o e=>k b o (ay e γ) (O.get e);exact q D ζ (hs.free β) (hs.trans Y) υ
theorem mU (T:Tx K mg a):FnOk P w K mg base CX0 5 a.iw a.vo ["rows","wish"] yf:=by
 refine T.je.1.okA mJ λa0 A outer s H vs Q E ι h=>?_;obtain⟨r,rows,x,rfl,hw,hl,ε,ο,φ,qA,δ⟩:=h
 refine⟨_,((ae (au (i:=2) mJ.nd rfl @E (pd T.wR (fU T) (ι.mono @C) (by rfl) T.wD T.bT.2 .nil gX (!j 0 ag)))
  (ae (au (i:=3) mJ.nd rfl @E (o9 (pv 2) T.dA T.jY (jC T) (ι.mono @C) T.cA.2 .nil gX (!j 1 ag)))
  (ae (cI (aD kB (!A @G (pv 3) af) af (aI _)) (ai (aC (fh (aa gC (aa (ao (km T) ι T.mf T.iC (aa (!A @G (pv 3) af) ag)) ag))))) aL)
  (ai (aC (fh (aa gC (aa (o9 (pv 2) T.dA T.jZ (jD T) (ι.mono @C) T.cB.2 .nil gX (aa (ar eJ (k9 (K:=K) rfl Lk KN KM lF (!A @G (pv 3) af)) af) ag)) ag))))))))),aB (σ':=[ak _,ak _,hB,hB]) rfl ?_⟩
 lia;intro p dx H2 f2 ω e2;refine⟨p,dx,r,rows,rfl,ω.get hw,hl,e2,λH3 d f n k st=>⟨rfl,?_⟩⟩;obtain⟨Z,ho⟩:=st.ho;have hs:Same H H3:=λb o e=>k b o (ay e f2) (ω.get e);lia;refine bJ ho rfl ?_;lia;refine⟨p,d,f,n,rows,x,rfl,st,λt H4 O f4 Y υ hq hn τ=>?_⟩;lia;refine iteB (fun ν=>?_) (fun ν=>?_)
 ·have hz:x^^^M.sm rows O=0:=by have:=V.int.inj (Md ν);omega
  have ρ:M.sm rows O=x:=by
   have:=zt (x^^^·) hz;simp only[<-KP,Mg,Oa,Lq] at this;exact this
  lia;refine⟨O,rfl,f' hq (gA @C hl),λD H5 f5 ξ e5=>?_⟩;lia;intro t' ψ f6 θ χ;exact qA t' D ψ O (uc (hs.trans Y) f5) (hs.trans (Y.trans (ξ.trans θ))) χ (θ.get e5) ⟨hq,ρ,τ⟩
 ·have hz:x^^^M.sm rows O≠0:=λz=>by rw[z] at ν;exact kv ν @C
  have α:x^^^M.sm rows O < 2 ^ 1000:=M.xor_lt_pow ο (M.span_lt ε (M.sm_span rows O));have η:=M.log2_under hz α;have ζ:¬M.Span rows x:=fun π=>hn hz _ (M.span_xor π (M.sm_span rows O)) hz rfl;have β:(M.fr rows).length < 64:=φ.resolve_left ζ;have ez:(((x^^^M.sm rows O).log2 + 1:Nat):Int) - 1=(((x^^^M.sm rows O).log2:Nat):Int):=by omega
  lia;refine bJ (Y.get ho) rfl ?_;lia;rw[kr hz,ez];refine⟨p,d,f,n,rows,(x^^^M.sm rows O).log2,rfl,st.same Y,η,ε,β,hn hz,λm H5 ξ B=>?_⟩;lia;intro t' ψ f6 θ χ;refine δ t' ψ m (hs.trans (Y.trans (ξ.trans θ))) χ ⟨ζ,⟨M.sm rows O,M.sm_span _ _,hz,hn hz,B⟩,B.ev,B.odd hz rfl η,λW hW γ=>B.lt W hW ?_⟩;exact M.log2_under hz (M.xor_lt_pow γ (M.span_lt hW (M.sm_span rows O)))
theorem pD (T:Tx K mg a):FnOk P w K mg base CX0 5 a.jw a.xM ["rows","width"] yl:=by
 refine T.kz.1.okA uJ λb0 A outer s H vs Q E ξ h=>?_;obtain⟨r,rows,τ,rfl,hw,hl,ι,α,a0,q⟩:=h;have hu:=A5 ξ
 refine⟨_,((ae (au (i:=2) uJ.nd rfl @E (pd T.wR (fU T) (ξ.mono @C) (by rfl) T.wD T.bT.2 .nil gX (!j 0 ag)))
  (ai (aC (dY (osc:=ah oE) (ON:=["rows","width","steps"]) (N:=["bit","steps"]) (n:=1) (fx:=[2]) rfl rfl rfl (by decide +kernel) (fg (by rfl) T.iS (!j 1 ag)) (aX @C) (λ_ _ _ _ _=>⟨(ax (i:=0) (show y' (["bit","steps"]:C') from by decide +kernel) rfl @E),(o8 (Eo (Az hu (pv 0) (be (K:=K) rfl (pv 1) rfl)))),(o9 (pv 1) T.dA T.jZ (jD T) (ξ.mono @C) T.cB.2 .nil gX (!j 0 ag))⟩)))))),aB (σ':=[ak _,ak _,hB]) rfl ?_⟩
 lia;intro x dx H2 f2 s2 e2;refine⟨x,dx,r,rows,rfl,s2.get hw,hl,e2,λH3 d f n k st=>⟨rfl,?_⟩⟩;obtain⟨Z,ho⟩:=st.ho;obtain⟨es,hd,ht,g,le⟩:=st.he;have nd:(es.map λe=>e.m.log2).Nodup:=by have:=g.nd;rw[Lc] at this;exact this
 have hs:Same H H3:=λb o e=>k b o (ay e f2) (s2.get e);have ν:∀r∈rows,r < 2 ^ 1000:=λr ξ=>f' (α r ξ) (gA @C ι);lia;intro D hD;refine gc (λi ys H'=>∃ms:D',ys=ms.map nat/\ms=M.acr rows i/\Same H3 H'/\H' D=ak (.lst ys)/\ms.length=((lA i).filter λk=> !decide (k∈es.map λe=>e.m.log2)).length/\M.Inj ms/\(∀m∈ms,∃b,b < i/\M.Bar rows b m)/\∀b,b < i->D0 rows b->∃m,m∈ms/\M.Bar rows b m) ⟨[],rfl,rfl,c8 hD,aP,rfl,M.Inj.nil,λ_ h=>kv h @D,λb hb=>kv hb (LO _)⟩ (λi ys H' hi ω=>?_) (λys H' ω=>?_)
 ·obtain⟨ms,rfl,π,s',ρ,lm,inj,υ,ζ⟩:=ω
  have a3:ms.length<=i:=by
   rw[lm];have:=Ou (λk=> !decide (k∈es.map λe=>e.m.log2)) (lA i);rw[wq] at this;exact this
  have a4:i < τ:=by omega
  lia;refine bc (s'.get ho) T.dA T.bY rfl ?_;refine FE (s'.get hd) ?_;lia;rw[Na];rcases mH es (i:Int) with ⟨e,he,ez,ev⟩ | ⟨δ,hv⟩
  ·rw[ev];lia
   have ο:M.acr rows (i + 1)=M.acr rows i:=M.acr_in λhn=>by
    have O:(e.m,e.p)∈es.map (λe=>(e.m,e.p)):=oi.mpr ⟨e,he,rfl⟩;exact kv @A (hn e.m (g.span O) (g.nz _ O))
   refine⟨by rw[ο];exact π,s',ρ,?_,inj,λm hm=>let ⟨b,hb,B⟩:=υ m hm;⟨b,@A,B⟩,λb hb hn=>?_⟩
   rotate_left
   ·by_cases eb:b=i
    ·subst eb;obtain⟨β,θ,a5,a6⟩:∃β∈es,((β.m.log2:Nat):Int)=(b:Int)/\True:=⟨e,he,ez,trivial⟩;have O:(β.m,β.p)∈es.map (λe=>(e.m,e.p)):=oi.mpr ⟨β,θ,rfl⟩;exact kv @A (hn β.m (g.span O) (g.nz _ O))
    ·exact ζ b @A hn
   have χ:i∈es.map λe=>e.m.log2:=oi.mpr ⟨e,he,@A⟩;rw[lm,LB,LV,show([i].filter λk=> !decide (k∈es.map λe=>e.m.log2))=[] from by rw[MN,pB χ];rfl,LD]
  ·rw[hv]
   have η:D0 rows i:=λy hy y0 hl2=>by
    obtain⟨e,he,ee⟩:=g.all y hy y0;obtain⟨β,θ,rfl⟩:=oi.mp he;exact δ β θ (by have:β.m.log2=y.log2:=ee;omega)
   lia;refine bJ (s'.get ho) rfl ?_;lia;refine⟨x,d,f,n,rows,i,rfl,st.same s',@A,ν,a0,η,λm H4 Y B=>?_⟩;refine⟨Y.get ρ,by rw[dt];exact dh @A,ms++[m],by rw[hH];rfl,by rw[M.acr_out ν η B,π],λb o e=>?_,aP,?_,inj.own B.bit (λy hy=>?_),λy hy=>?_,λb hb hn=>?_⟩
   ·rw[aJ (ay e hD)];exact Y.get (s'.get e)
   ·have γ:¬i∈es.map λe=>e.m.log2:=λz=>by
     obtain⟨e,he,ee⟩:=oi.mp z;exact δ e he @A
    rw[hC,lm,LB,LV,show([i].filter λk=> !decide (k∈es.map λe=>e.m.log2))=[i] from by rw[MN,qa γ];rfl,hC];rfl
   ·obtain⟨b,hb,B'⟩:=υ y hy;exact B'.oth i @A η
   ·rcases oT.mp hy with hy | hy
    ·obtain⟨b,hb,B'⟩:=υ y hy;exact⟨b,@A,B'⟩
    ·rw[hL] at hy;subst hy;exact⟨i,@A,B⟩
   ·by_cases eb:b=i
    ·subst eb;exact⟨m,nv _ (hL.mpr rfl),B⟩
    ·obtain⟨m',φ,B'⟩:=ζ b @A hn;exact⟨m',qB _ φ,B'⟩
 ·obtain⟨ms,rfl,π,s',ρ,lm,inj,υ,ζ⟩:=ω;rw[pT] at lm υ ζ π;subst π;refine q D H' (hs.free hD) (hs.trans s') ρ ⟨?_,inj,λm hm=>?_,λm hm=>?_,λz hz ψ=>?_⟩
  ·have hc:=M.count_not (n:=τ) nd λt ε=>by
    obtain⟨e,he,rfl⟩:=oi.mp ε;have O:(e.m,e.p)∈es.map (λe=>(e.m,e.p)):=oi.mpr ⟨e,he,rfl⟩;exact M.log2_under (g.nz _ O) (M.span_lt α (g.span O))
   rw[dt] at hc;omega
  ·obtain⟨b,hb,B⟩:=υ m hm;exact B.lt τ α hb
  ·obtain⟨b,hb,B⟩:=υ m hm;exact B.ev
  ·exact M.bars_all ι α (λb hb hn=>let ⟨m,hm,B⟩:=ζ b hb hn;⟨m,M.span_mem hm,B⟩) hz ψ
end
section
variable {P:qc} {w:y3} {K:aS} {mg:F'} {base:Ke} {a:Ad}
local macro_rules | `(tactic| walk_at "l2step") =>`(tactic| first | ((with_reducible refine' d8 ?e ?_);(case e=>walk_at "l2kind")) | ((with_reducible refine' iA ?e ?_);(case e=>walk_at "l2kind")) | (with_reducible refine c9 ?_) | (with_reducible refine eV ?_))
theorem Fn (y n:Nat):(y:Int) * 2 ^ ((n:Int).toNat)=((y <<< n:Nat):Int):=by rw[pT,lP,Lr];norm_cast
theorem BI (w n:Nat):MA (w:Int) ((1:Int) * 2 ^ ((n:Int).toNat) - 1)=((w % 2 ^ n:Nat):Int):=by
 have h:=lh n;rw[OH,pT,show((2:Int) ^ n - 1)=((2 ^ n - 1:Nat):Int) by rw[Int.natCast_sub h];push_cast;rfl,bw,Ly]
theorem uS (T:Tx K mg a):FnOk P w K mg base CX0 1 a.ju a.xJ ["pair","stores"] zV:=by
 refine T.mD.1.okA Aa λY A outer s H vs Q E Z h=>?_;obtain⟨t,x,y,n,rfl,et,hn,O,q⟩:=h;have α:CPow (y:Int) (n:Int):=⟨@A,@A,by rw[P4];exact O⟩;refine⟨_,((ai (aC (ar gP (!A @G (pv 0) af) (ar cE (!A @G (pv 0) af) (pv 1)))))),aB (σ':=[ak _,ak _]) rfl ?_⟩;lia;rw[Fn,bj];exact q
theorem kG (T:Tx K mg a):FnOk P w K mg base CX0 8 a.cL a.mq ["machine","bars"] (ye a.aj):=by
 refine T.fz.1.okA dN λb5 A outer s H vs Q E O h=>?_;obtain⟨p,D,m,nx,os,bars,rfl,ma,g,b4,eD,lb,hb,q⟩:=h;obtain⟨dx,tn,to,ho,hn,a0⟩:=ma.ho;have m6:=g.m6
 refine⟨_,((ae (au (i:=2) dN.nd rfl @E (dE (pv 0) T.aw T.bR (bL T) (O.mono @C) T.aT.2 .nil gX))
  (ae (eZ (osc:=ah cH) (ON:=n13) (N:=["pair","stores"]) (n:=1) (fx:=[2]) (i:=3) dN.nd rfl rfl rfl rfl rfl rfl (by decide +kernel) (tj (K:=K) rfl (be (K:=K) rfl (pv 0) rfl)) (aX @C) (λ_ _ _ _ _=>⟨(ax (i:=0) (show y' (["pair","stores"]:C') from by decide +kernel) rfl @E),bK,(ao (uS T) O T.xF T.mD (!j 0 (!j 1 ag)))⟩))
  (ae (c6 (iZ (K:=K) rfl z5 NU NT pK (pv 3) (aa (dY (osc:=ah cH) (ON:=n13) (N:=["bar","machine","stores"]) (n:=1) (fx:=[0,2]) rfl rfl rfl (by decide +kernel) (aZ (K:=K) rfl (pv 1)) (aX @C) (λ_ _ _ _ _=>⟨(ax (i:=0) (show y' (["bar","machine","stores"]:C') from by decide +kernel) rfl @E),bK,(ao (uS T) O T.xF T.mD (aa (dX (pv 1) T.aw T.iU (iq T) (O.mono @C) T.ck.2 .nil thr0 (!j 0 ag)) (!j 2 ag)))⟩)) ag)))
  (ae (au (i:=4) dN.nd rfl @E (ao (pD T) O T.tX T.kz (!j 3 (aa (ar cx (pv 2) (be (K:=K) rfl (pv 0) rfl)) ag))))
  (ae (eZ (osc:=ah cH) (ON:=n13) (N:=n10) (n:=1) (fx:=[2]) (i:=5) dN.nd rfl rfl rfl rfl rfl rfl (by decide +kernel) (aZ (K:=K) rfl (pv 4)) (aX @C) (λ_ _ _ _ _=>⟨(ax (i:=0) (show y' (n10:C') from by decide +kernel) rfl @E),bK,(ar fN (pv 0) (ar eJ (ar cE af (pv 1)) af))⟩))
  (ai (aC (dY (osc:=ah cH) (ON:=n13) (N:=["place","ways"]) (n:=1) (fx:=[4]) rfl rfl rfl (by decide +kernel) (aZ (K:=K) rfl (ao (F3 T) O T.IF T.xT (!j 5 ag))) (aX @C) (λ_ _ _ _ _=>⟨(ax (i:=0) (show y' (["place","ways"]:C') from by decide +kernel) rfl @E),bK,(!A (gq (K:=K) rfl) (pv 1) (pv 0))⟩)))))))))),aB (σ':=[ak _,ak _,hB,hB,hB,hB]) rfl ?_⟩
 lia;refine bJ ho rfl ?_;lia;refine⟨p,_,nx,os,rfl,ma,?_⟩;lia;refine bc ho T.aw T.bZ rfl ?_;refine⟨to,rfl,⟨_,SqT.of a0⟩,?_⟩;intro ο γ;have lo:=g.lo;refine oN (xs:=refs os) (λi ys H'=>Cs (λi ys=>ys=((os.take i).map λq=>M.jd nx.length q.2).map nat) H ο i ys H') (Cs.zero γ rfl) (λi ys H' _ c=>SqT.of (c.same.get a0)) (λi v ys H' ι c=>?_) (λys H1 c=>?_)
 ·obtain⟨r,β,rfl⟩:=aK ι;have hi:=(eH.mp β).1;have hm:=hQ β;have er:=c.same.get (ma.hs r hm);have η:=(g.bn r (nv _ hm)).2;lia;refine⟨r.1,r.2.1,r.2.2,nx.length,rfl,er,@A,f' η (gA @C @A),?_⟩;refine Cs.put γ c.same c.at' c.len @A ?_;rw[c.pv,take_succ β,hH,hH];rfl
 have e1:=c.at';rw[c.pv,show(refs os).length=os.length from dt ..,z9] at e1;have s1:=c.same;clear c;have a5:=s1.get eD;have b0:=s1.get ho;lia;intro α φ;refine bW (xs:=bars.map nat) (λi ys H'=>Cs (λi ys=>ys=((bars.take i).map λb=>M.jd nx.length (M.sm (nx.map λq=>q.2.1) b,M.sm (nx.map λq=>q.2.2) b)).map nat) H1 α i ys H') (Cs.zero φ rfl) (λi ys H' _ c=>SqL.of (c.same.get a5)) (λi v ys H' ι c=>?_) (λys H2 c=>?_)
 ·obtain⟨b,ζ,rfl⟩:=aK ι;have hi:=(eH.mp ζ).1;have hm:=hQ ζ;have τ:=s1.trans c.same;lia;refine cR (τ.get ho) rfl ?_;lia;refine⟨p,m,nx,os,nat b,"int",rfl,ma.same τ,g,rfl,λa1 ea ha t7 H7 s7 e7=>?_,λa6=>?_⟩
  ·have ea:=iR ea;subst ea;lia;refine⟨t7,_,_,nx.length,rfl,e7,@A,?_,?_⟩
   ·exact f' (M.sm_lt (t:=m) _ (λx ψ=>by
     obtain⟨r,O,rfl⟩:=oi.mp ψ;exact(g.bn r (qB _ O)).2)) (gA @C @A)
   ·refine Cs.put φ (c.same.trans s7) (s7.get c.at') c.len @A ?_;rw[c.pv,take_succ ζ,hH,hH];rfl
  ·rw[cT (hb b hm)] at a6;cases a6
 have e2:=c.at';rw[c.pv,dt,z9] at e2;have s2:=c.same;clear c;lia;have χ:ο≠α:=λz=>by rw[<-z,e1] at φ;cases φ
 refine sY (s2.get e1) e2 (by rw[dt,dt,dt,dt];exact L9 (dh @A)) χ λH3 u3=>?_;have s3:=u3.same γ (s1.trans s2);have e3:=u3.at';rw[<-hH,show(os.map λq=>M.jd nx.length q.2)++(bars.map λb=>M.jd nx.length (M.sm (nx.map λq=>q.2.1) b,M.sm (nx.map λq=>q.2.2) b))=M.rowsJ @F (prs os) bars by unfold M.rowsJ;rw[aq,show(@F).map (·.1)=nx.map λq=>q.2.1 by rw[Lc];rfl,show(@F).map (·.2)=nx.map λq=>q.2.2 by rw[Lc];rfl,Lc];rfl] at e3;clear u3 e1 e2 a5 b0 φ χ;lia;refine bc (s3.get ho) T.aw T.aR rfl ?_;lia
 have a4:∀q∈prs nx++prs os,q.1 < 2 ^ nx.length:=λq ν=>by
  rcases oT.mp ν with h | h
  ·obtain⟨r,O,rfl⟩:=oi.mp h;exact(g.bn r (qB _ O)).1
  ·obtain⟨r,O,rfl⟩:=oi.mp h;exact(g.bn r (nv _ O)).1
 have ξ:∀r∈M.rowsJ (prs nx) (prs os) bars,r < 2 ^ (nx.length + m):=λr O=>by
  unfold M.rowsJ at O;rw[aq] at O;rcases oT.mp O with h | h
  ·obtain⟨q,ν,rfl⟩:=oi.mp h;obtain⟨r',β,rfl⟩:=oi.mp ν;exact M.jd_lt (g.bn r' (nv _ β)).1 (g.bn r' (nv _ β)).2
  ·obtain⟨b,ζ,rfl⟩:=oi.mp h;refine M.jd_lt (M.sm_lt _ λx ψ=>?_) (M.sm_lt _ λx ψ=>?_)
   ·obtain⟨q,ν,rfl⟩:=oi.mp ψ;obtain⟨r,O,rfl⟩:=oi.mp ν;exact(g.bn r (qB _ O)).1
   ·obtain⟨q,ν,rfl⟩:=oi.mp ψ;obtain⟨r,O,rfl⟩:=oi.mp ν;exact(g.bn r (qB _ O)).2
 have ω:(M.rowsJ @F (prs os) bars).length=os.length + bars.length:=by
  unfold M.rowsJ;rw[hC,dt,aq,dt]
 refine⟨ο,_,nx.length + m,rfl,e3,by rw[ω];omega,@A,ξ,qE (M.rank_le ξ) @A,λD4 Z f4 Y υ ac=>?_⟩;have ok:=GS (ps:=prs nx) (os:=prs os) (m:=m) (bars:=bars) (by rw[aq];omega) (by rw[aq];exact a4) (by rw[aq];exact hb) (by rw[aq];exact ac);have hw:swy @F (prs os) m bars=(M.fr ((M.acr (M.rowsJ @F (prs os) bars) (nx.length + m)).map (· % 2 ^ nx.length))).map λi=>(M.acr (M.rowsJ @F (prs os) bars) (nx.length + m)).getD i 0:=by unfold swy;rw[aq]
 have q1:=λ(α:gn) (H2:Hp) h1 h2 h3=>q α H2 h1 h2 h3 ok;rw[hw] at q1;have δ:=ac.lt;have ll:(M.acr (M.rowsJ @F (prs os) bars) (nx.length + m)).length<=nx.length + m:=by have:=ac.len;omega
 generalize M.acr (M.rowsJ @F (prs os) bars) (nx.length + m)=ws at *
 clear q ok hw ω ξ a4 e3;have ε:=s3.trans Y;clear ac;lia;intro D5 a3;have hc:CPow (1:Int) (nx.length:Int):=⟨@A,@A,@C⟩;refine bW (xs:=ws.map nat) (λi ys H'=>Cs (λi ys=>ys=((ws.take i).map (· % 2 ^ nx.length)).map nat) Z D5 i ys H') (Cs.zero a3 rfl) (λi ys H' _ c=>SqL.of (c.same.get υ)) (λi v ys H' ι c=>?_) (λys H5 c=>?_)
 ·obtain⟨b,ζ,rfl⟩:=aK ι;have hi:=(eH.mp ζ).1;lia;refine Cs.put a3 c.same c.at' c.len @A ?_;rw[c.pv,take_succ ζ,hH,hH,BI];rfl
 have e5:=c.at';rw[c.pv,dt,z9] at e5;have s5:=c.same;clear c;lia;refine⟨D5,_,rfl,e5,by rw[dt];omega,λD6 H6 f6 s6 e6=>?_⟩;have θ:=(s5.trans s6).get υ;have lf:=λi hi=>M.fr_lt (rows:=ws.map (· % 2 ^ nx.length)) i hi
 have b3:(M.fr (ws.map (· % 2 ^ nx.length))).length<=nx.length:=M.rank_le λr O=>by
  obtain⟨x,_,rfl⟩:=oi.mp O;exact Nu _ (lh _)
 rw[dt] at lf;generalize M.fr (ws.map (· % 2 ^ nx.length))=ks at *
 lia;intro D7 π;refine bW (xs:=ks.map nat) (λi ys H'=>Cs (λi ys=>ys=((ks.take i).map λi=>ws.getD i 0).map nat) H6 D7 i ys H') (Cs.zero π rfl) (λi ys H' _ c=>SqL.of (c.same.get e6)) (λi v ys H' ι c=>?_) (λys H7 c=>?_)
 ·obtain⟨k,hk,rfl⟩:=aK ι;have hi:=(eH.mp hk).1;have ρ:=lf k (hQ hk);have ex:=c.same.get θ;lia;refine yq (SqL.of ex) (jz (v:=nat (ws.getD k 0)) <| by rw[lz,fy ρ,eh,fy ρ];rfl) ?_;refine Cs.put π c.same c.at' c.len @A ?_;rw[c.pv,take_succ hk,hH,hH];rfl
 have e7:=c.at';rw[c.pv,dt,z9] at e7;have s7:=c.same;clear c;lia;exact q1 D7 H7 (((ε.trans s5).trans s6).free π) ((((ε.trans s5).trans s6)).trans s7) e7
end
section
variable {P:qc} {w:y3} {K:aS} {mg:F'} {base:Ke} {a:Ad}
local macro_rules | `(tactic| walk_at "l2step") =>`(tactic| first | ((with_reducible refine' d8 ?e ?_);(case e=>walk_at "l2kind")) | ((with_reducible refine' iA ?e ?_);(case e=>walk_at "l2kind")) | (with_reducible refine c9 ?_) | (with_reducible refine eV ?_))
theorem AD (T:Tx K mg a):FnOk P w K mg base CX0 1 a.jt a.xI ["masks","width"] Cj:=by
 refine T.oO.1.okA jR fun θ A outer s H vs Q E ι h=>?_;obtain⟨r,ps,O,rfl,η,hl,hw,hb,q⟩:=h
 refine⟨_,((ae (au (i:=2) jR.nd rfl @E af)
  (ae (eX y2 rfl (mS (K:=K) rfl (by rfl) T.dZ (pv 0)) (nO rfl (aM (ax (i:=3) jR.nd rfl @E) (aM (ax (i:=4) jR.nd rfl @E) ik))) (ai (au (i:=2) jR.nd rfl @E (ar gP (pv 2) (ar cE (pv 4) (ar iG (pv 3) (pv 1)))))))
  (ai (aC (pv 2)))))),aB (σ':=[ak _,ak _,hB,hB,hB]) rfl ?_⟩
 lia;refine oJ (xs:=ps.map nat) (λi σ H'=>∃v Z,σ=[ak (.ref r),ak (nat O),ak (nat (M.pkw O (ps.take i))),v,Z]/\Same H H') ⟨hB,hB,rfl,Same.refl _⟩ (λi σ H' _ ⟨_,_,_,e⟩=>SqL.of (e.get η)) ?_ ?_
 ·rintro i y σ H' p ξ δ ⟨v,Z,rfl,α⟩ fp γ ν;obtain⟨x,Y,rfl⟩:=aK δ;have hi:=(eH.mp Y).1;have ε:=hb x (hQ Y);have β:i * O<=1000 * 1000:=MK @A hw;have ζ:(i:Int) * (O:Int)=((i * O:Nat):Int):=by push_cast;rfl
  lia;rw[ζ];lia;have e:(x:Int) * 2 ^ (((i * O:Nat):Int).toNat)=((x <<< (i * O):Nat):Int):=by rw[pT,lP,Lr];norm_cast
  rw[e,bj,take_succ Y,M.pkw_snoc,sQ Y];exact⟨_,_,rfl,α.trans γ⟩
 ·rintro σ H' ⟨v,Z,rfl,α⟩;rw[dt,z9];lia;exact q _ α
theorem A4 {i m:Nat} (h:i < m):idxB (nat i) m=true:=by
 show idxB (.int (i:Int)) m=true;unfold idxB;simp;omega
theorem pq (T:Tx K mg a):FnOk P w K mg base CX0 8 a.b7 a.kK ["machine","turns"] (yg a.aj):=by
 refine T.gu.1.okA cn λb3 A outer s H vs Q E hr h=>?_;obtain⟨p,m,nx,os,Y,rfl,ma,g,ξ,q⟩:=h;obtain⟨dx,δ,to,ho,hn,a6⟩:=ma.ho;have m6:=g.m6;have lo:=g.lo
 refine⟨_,((ae (au (i:=2) cn.nd rfl @E (dE (pv 0) T.aw T.cy (bU T) (hr.mono @C) T.aW.2 .nil gX))
  (ae (eZ (osc:=ah dO) (ON:=n17) (N:=["which","machine","turns","outs"]) (n:=1) (fx:=[0,1,2]) (i:=3) cn.nd rfl rfl rfl rfl rfl rfl (by decide +kernel) (fg (by rfl) T.iS (aa (be (K:=K) rfl (pv 0) rfl) ag)) (aX @C) (λ_ _ _ _ _=>⟨(ax (i:=0) (show y' (["which","machine","turns","outs"]:C') from by decide +kernel) rfl @E),bK,(ao (AD T) hr T.Dj T.oO (aa (dX (pv 1) T.aw T.n9 (mX T) (hr.mono @C) T.cX.2 .nil thr0 (!j 0 (!j 2 ag))) (!j 3 ag)))⟩))
  (ae (au (i:=4) cn.nd rfl @E (ar eJ (ar cE af (ar iG (pv 1) (pv 2))) af))
  (ae (au (i:=5) cn.nd rfl @E (de ag))
  (ae (eX y2 rfl (fg (by rfl) T.iS (!j 1 ag)) (ax (i:=6) cn.nd rfl @E) (ai (c6 (iZ (K:=K) rfl z5 NU NT pK (pv 5) (aa (dY (osc:=ah dO) (ON:=n17) (N:=["answers","turn","outs","whole"]) (n:=1) (fx:=[6,2,4]) rfl rfl rfl (by decide +kernel) (aZ (K:=K) rfl (pv 3)) (aX @C) (λ_ _ _ _ _=>⟨(ax (i:=0) (show y' (["answers","turn","outs","whole"]:C') from by decide +kernel) rfl @E),bK,(ar fN (ar FY (pv 0) (ar iG (pv 1) (pv 2))) (pv 3))⟩)) ag)))))
  (ai (aC (pv 5))))))))),aB (σ':=[ak _,ak _,hB,hB,hB,hB,hB]) rfl ?_⟩
 lia;refine bJ ho rfl ?_;lia;refine⟨p,_,nx,os,rfl,ma,?_⟩;lia;refine bc ho T.aw T.aR rfl ?_;lia;intro ο γ;refine gc (λi ys H'=>Cs (λi ys=>ys=((lA i).map λk=>M.pkw os.length (M.wan @F (prs os) 0 (M.pulse k Y))).map nat) H ο i ys H') (Cs.zero γ rfl) (λi ys H' hi c=>?_) (λys H1 c=>?_)
 ·have O:i < m:=by omega
  lia;rw[Na];refine cR (c.same.get ho) rfl ?_;lia;refine⟨p,m,nx,os,nat i,"int",Y,rfl,ma.same c.same,g,rfl,@A,fun θ ei _ α H2 ψ s2 e2=>?_,fun β=>?_⟩
  ·have ei:=iR ei;subst ei;lia;refine⟨α,_,os.length,rfl,e2,by rw[M.wan_len,M.pulse_len];omega,@A,λx hx=>?_,λH3 χ=>?_⟩
   ·have:=M.wan_lt @F (prs os) _ 0 x hx;rw[aq] at this;exact f' this (gA @C @A)
   ·have st:=s2.trans χ;refine Cs.put γ (c.same.trans st) (st.get c.at') c.len @A ?_;rw[c.pv,LB,hH,hH];rfl
  ·rw[A4 O] at β;cases β
 have e1:=c.at';rw[c.pv,pT] at e1;have s1:=c.same;clear c;have η:Y * os.length<=102:=MK ξ lo;have hp:((Y:Int) * (os.length:Int))=((Y * os.length:Nat):Int):=by push_cast;rfl
 have hc:CPow (1:Int) ((Y:Int) * (os.length:Int)):=by rw[hp];exact⟨@A,@A,@C⟩
 generalize ζ:(lA m).map (λk=>M.pkw os.length (M.wan @F (prs os) 0 (M.pulse k Y)))=xs at *
 lia;rw[hp];intro α H2 ψ s2 e2;lia;have ν:xs.length=m:=by rw[<-ζ,dt,wq]
 have ρ:xs=(lA m).map λk=>M.pkw os.length (M.wan @F (prs os) 0 (M.pulse k Y)):=ζ.symm
 have ι:∀x∈xs,x < 2 ^ 102:=λx hx=>by
  rw[ρ] at hx;obtain⟨k,_,rfl⟩:=oi.mp hx
  have:=M.pkw_lt (w:=os.length) (ps:=M.wan @F (prs os) 0 (M.pulse k Y)) λy hy=>by
   have:=M.wan_lt @F (prs os) _ 0 y hy;rwa [aq] at this
  rw[M.wan_len,M.pulse_len] at this;exact f' this (gA @C η)
 have a0:=s1.trans s2;have a5:=s2.get e1;have a4:α≠ο:=λz=>by rw[z,e1] at ψ;cases ψ
 have π:(M.tol @F (prs os) m Y).length=Y * m:=M.tol_len;refine qh (λi σ H'=>∃v,σ=[ak (.ref p),ak (nat Y),ak (nat os.length),ak (.ref ο),ak (.int (1 * 2 ^ ((Y * os.length:Nat):Int).toNat - 1)),ak (.ref α),v]/\Same H H'/\H' ο=ak (.lst (xs.map nat))/\H' α=ak (.lst (((M.tol @F (prs os) m Y).take (i * m)).map nat))) ⟨hB,rfl,a0,a5,by rw[Pm];exact e2⟩ ?_ ?_
 ·rintro i σ H' hi ⟨v,rfl,s',ex,et⟩;have O:i < Y:=by omega
  lia;intro D3 ε;have τ:((i:Int) * (os.length:Int))=((i * os.length:Nat):Int):=by push_cast;rfl
  have b0:i * os.length<=102:=Lf (LF _ (L9 O)) η;refine bW (xs:=xs.map nat) (λk ys φ=>Cs (λk ys=>ys=((xs.take k).map λx=>(x <<< (i * os.length)) % 2 ^ (Y * os.length)).map nat) H' D3 k ys φ) (Cs.zero ε rfl) (λk ys φ _ c=>SqL.of (c.same.get ex)) (λk v ys φ hv c=>?_) (λys H3 c=>?_)
  ·obtain⟨b,hb,rfl⟩:=aK hv;have hk:=(eH.mp hb).1;have hs:CShl (b:Int) ((0 + (i:Int)) * (os.length:Int)):=by rw[Na,τ];exact cshl (E3 (ι b (hQ hb)) @C) @A
   lia;refine Cs.put ε c.same c.at' c.len @A ?_;rw[c.pv,take_succ hb,hH,hH,Na,τ,Fn,BI];rfl
  have e3:=c.at';rw[c.pv,dt,z9] at e3;have χ:=c.same;clear c;have a3:α≠D3:=λz=>by rw[<-z,et] at ε;cases ε
  lia;refine sY (χ.get et) e3 (by rw[dt,dt,dt,Kt,ν,π];have:=MK (L9 O) m6;have:i * m<=17 * 6:=MK @A m6;exact L9 (dh @A)) a3 λZ ω=>?_;refine⟨_,rfl,ω.same (s1.free ψ) (s'.trans χ),?_,?_⟩
  ·exact ω.oth _ _ (λz=>a4 z.symm) (χ.get ex)
  ·have υ:=ω.at';rw[<-hH] at υ;rw[υ,M.tol_next O,ρ,Lc,aq];rfl
 ·rintro σ H' ⟨v,rfl,s',ex,et⟩;lia;refine q α H' (s1.free ψ) s' ?_;rw[et,pT,N8 (OL π)]
end
section
variable {P:qc} {w:y3} {K:aS} {mg:F'} {base:Ke} {a:Ad}
local macro_rules | `(tactic| walk_at "l2step") =>`(tactic| first | ((with_reducible refine' d8 ?e ?_);(case e=>walk_at "l2kind")) | ((with_reducible refine' iA ?e ?_);(case e=>walk_at "l2kind")) | (with_reducible refine c9 ?_) | (with_reducible refine eV ?_))
theorem pj (T:Tx K mg a):FnOk P w K mg base CX0 1 a.fW a.sj ["whole","width","count"] zK:=by
 refine T.jc.1.okA vV fun δ A outer s H vs Q E ε h=>?_;obtain⟨α,O,Y,rfl,hw,hT,q⟩:=h;have β:=lh O;have γ:(1:Int) * 2 ^ ((O:Int).toNat) - 1=((2 ^ O - 1:Nat):Int):=by rw[shl1];omega
 refine⟨_,((ai (aC (dY (osc:=ah kj) (ON:=["whole","width","count"]) (N:=["place","whole","width"]) (n:=1) (fx:=[0,1]) rfl rfl rfl (by decide +kernel) (fg (by rfl) T.iS (!j 2 ag)) (aX @C) (λ_ _ _ _ _=>⟨(ax (i:=0) (show y' (["place","whole","width"]:C') from by decide +kernel) rfl @E),bK,(ar fN (ar uR (pv 1) (ar iG (pv 0) (pv 2))) (ar eJ (ar cE af (pv 2)) af))⟩))))),aB (σ':=[ak _,ak _,ak _]) rfl ?_⟩;lia;intro D Z;refine gc (λi ys H'=>Cs (λi ys=>ys=((lA i).map λt=>(α>>>(t * O))&&&(2 ^ O - 1)).map nat) H D i ys H') (Cs.zero Z rfl) (λi ys H' hi c=>?_) (λys H' c=>?_)
 ·have ζ:((0:Int) + (i:Int)) * (O:Int)=((i * O:Nat):Int):=by rw[Na];push_cast;rfl
  lia;rw[ζ];lia;rw[Fl,γ,bw];refine Cs.put Z c.same c.at' c.len @A ?_;rw[c.pv,LB,hH,hH];rfl
 ·have ζ:=c.at';rw[c.pv,pT] at ζ;exact q D H' Z c.same ζ
theorem r6 (T:Tx K mg a):FnOk P w K mg base CX0 9 a.iu a.vn ["machine","delay"] (zN a.aj):=by
 refine T.ke.1.okA g8 λc2 A outer s H vs Q E hr h=>?_;obtain⟨p,m,nx,os,d,rfl,ma,g,b5,b4,qS,qM⟩:=h;obtain⟨dx,δ,to,ho,hn,b9⟩:=ma.ho;have m6:=g.m6;have lo:=g.lo
 refine⟨_,((ae (au (i:=2) g8.nd rfl @E (ao (pq T) hr T.rE T.gu (!j 0 (aa (ar cx (pv 1) af) ag))))
  (ae (au (i:=3) g8.nd rfl @E (de ag))
  (ae (eX y2 rfl (fg (by rfl) T.iS (aa (be (K:=K) rfl (pv 0) rfl) ag)) (ax (i:=4) g8.nd rfl @E) (ae (au (i:=5) g8.nd rfl @E (gD (g9 (K:=K) rfl) (by rfl) T.jE Kl (!j 2 ag)))
  (ae (Aq af (HW (pv 5) (pv 4) Cv))
  (ae (au (i:=6) g8.nd rfl @E (ao (mU T) hr T.qd T.je (!j 5 (aa (!A (gq (K:=K) rfl) (pv 2) (pv 4)) ag))))
  (ae (cI (aD kB (!A @G (pv 6) af) gC (aI _)) (ai (aC (fh (aa gC (aa (ao (pj T) hr T.sg T.jc (aa (ao (r8 T) hr T.vi T.kg (aa (ar lR (!A @G (pv 6) af) (de (!j 4 ag))) ag)) (aa (be (K:=K) rfl (pv 0) rfl) (aa (ar cx (pv 1) af) ag)))) ag))))) aL)
  (ai (c6 (iZ (K:=K) rfl z5 Kq Kp dj (pv 3) (aa (!A @G (pv 6) af) ag)))))))))
  (ai (aC (fh (aa gC (!j 3 ag))))))))),aB (σ':=[ak _,ak _,hB,hB,hB,hB,hB]) rfl ?_⟩
 lia;refine⟨p,m,nx,os,d + 1,rfl,ma,g,@A,λD1 H1 f1 s1 e1=>?_⟩;lia;intro α H2 f2 s2 e2;have γ:=s1.trans s2;have b0:=s2.get e1;have tl:(M.tol @F (prs os) m (d + 1)).length=(d + 1) * m:=M.tol_len;have O:=M.tol_lt (ps:=prs nx) (os:=prs os) (m:=m) (T:=d + 1);rw[aq] at O;have c1:(d + 1) * m<=17 * 6:=MK @A m6;have c0:m<=(d + 1) * m:=Nd m @A;have oS:=λi (h:i < m)=>show Osm @F (prs os) m d i↔M.Span ((M.tol @F (prs os) m (d + 1)).set i 0) ((M.tol @F (prs os) m (d + 1)).getD i 0) from Ro
 lia;refine bc (γ.get ho) T.aw T.aR rfl ?_;lia;refine qh (λi σ H'=>∃(μs:D') (v1 v2 v3:rl V),σ=[ak (.ref p),ak (nat d),ak (.ref D1),ak (.ref α),v1,v2,v3]/\Same H H'/\H' D1=ak (.lst ((M.tol @F (prs os) m (d + 1)).map nat))/\H' α=ak (.lst (μs.map nat))/\μs.length=i/\(∀(k μ:Nat),μs[k]? =ak μ->Bard ((M.tol @F (prs os) m (d + 1)).set k 0) ((M.tol @F (prs os) m (d + 1)).getD k 0) μ)/\∀k,k < i->¬Osm @F (prs os) m d k) ⟨[],hB,hB,hB,rfl,γ,b0,e2,rfl,λk μ h=>kv h @D,λk h=>kv h (LO k)⟩ ?_ ?_
 ·rintro i σ H' hi ⟨μs,v1,v2,v3,rfl,s',et,em,lm,ζ,hO⟩;have a4:i < m:=by omega
  have ξ:i < (M.tol @F (prs os) m (d + 1)).length:=by rw[tl];omega
  lia;intro β H3 f3 ψ e3;lia;refine Ho ?_;lia;rw[Na];refine G6 e3 (by rw[dt];exact ξ) λH4 ω=>?_;have υ:=ω.at';rw[show((M.tol @F (prs os) m (d + 1)).map nat).set i (V.int 0)=((M.tol @F (prs os) m (d + 1)).set i 0).map nat from(List.map_set ..).symm] at υ;have Y:=ω.same f3 ψ;have ls:∀x∈(M.tol (prs nx) (prs os) m (d + 1)).set i 0,x < 2 ^ ((d + 1) * os.length):=M.set_lt O;have up:∀{x:Nat},x < 2 ^ ((d + 1) * os.length)->x < 2 ^ 1000:=λh=>f' h (gA @C @A);have rk:=M.rank_le ls;have ν:=Y.get et;have τ:=Y.get em;have ε:=s'.trans Y;lia;refine yq (v:=nat ((M.tol @F (prs os) m (d + 1)).getD i 0)) (SqL.of ν) (jz <| by rw[lz,fy ξ,eh,fy ξ];rfl) ?_;clear ω e3 ψ;lia;refine⟨β,_,_,rfl,υ,by rw[N3,tl];omega,λr h=>up (ls r h),up (M.getD_lt' O i),Oo @A,λt5 D5 H5 q f5 χ a5 e5 sd=>?_,λt5 H5 μ χ a5 bd=>?_⟩
  ·have ql:=sd.lt;rw[N3,tl] at ql;have θ:q < 2 ^ 1000:=f' ql (gA @C @A);lia;intro D6 H6 f6 s6 e6;have a6:=s6.get e5;have b3:(M.pl 1000 q).length<=1000:=M.pl_le 1000 q;have ρ:∀x∈M.pl 1000 q,x < 1000:=M.pl_lt θ;refine qP a6 e6 (by rw[dt,qq];show(M.pl 1000 q).length + 1<=_;omega) λD7 H7 f7 s7 e7=>?_;rw[show(M.pl 1000 q).map nat++[V.int (i:Int)]=(M.pl 1000 q++[i]).map nat by rw[hH];rfl] at e7;have η:=χ.trans (s6.trans s7);lia;refine⟨D7,_,rfl,e7,λx hx=>?_,?_⟩
   ·rcases oT.mp hx with h | h
    ·exact ρ x h
    ·rw[hL.mp h];omega
   rw[M.xm_snoc,Jl θ];lia;refine bc ((ε.trans η).get ho) T.aw T.aR rfl ?_;lia;refine⟨q^^^2 ^ i,m,d + 1,rfl,@A,@A,λD8 H8 f8 s8 e8=>?_⟩;lia;intro tt ι Z s9 e9;exact qS tt D8 ι _ ((ε.trans η).free f8) (((ε.trans η).trans s8).trans s9) e9 (s9.get e8) ⟨i,q,a4,hO,sd,rfl⟩
  ·lia;refine gm (χ.get τ) (by rw[dt,lm,qq];omega) λH6 u6=>?_;have π:=ε.trans χ;have a0:D1≠α:=λz=>by rw[<-z,e1] at f2;cases f2
   refine⟨μs++[μ],_,_,_,rfl,u6.same (s1.free f2) π,u6.oth _ _ a0 (χ.get ν),by rw[u6.at',hH];rfl,by rw[hC,lm];rfl,λk ο h=>?_,λk hk=>?_⟩
   ·by_cases hk:k < μs.length
    ·rw[u' hk] at h;exact ζ k ο h
    ·have a3:=(eH.mp h).1;rw[hC,Kb] at a3;have φ:k=i:=by omega
     subst φ;rw[vr @A,lm,Ms] at h;cases h;exact bd
   ·by_cases h:k < i
    ·exact hO k h
    ·rw[show k=i by omega];exact bd.ns
 ·rintro σ H' ⟨μs,v1,v2,v3,rfl,s',et,em,lm,ζ,hO⟩;rw[pT] at lm hO;lia;intro tt H3 f3 ψ e3;exact qM tt α H3 μs (s1.free f2) (s'.trans ψ) e3 (ψ.get em) (Io lm ζ) hO
end
section
variable {P:qc} {w:y3} {K:aS} {mg:F'} {base:Ke} {a:Ad}
local macro_rules | `(tactic| walk_at "l2step") =>`(tactic| first | ((with_reducible refine' d8 ?e ?_);(case e=>walk_at "l2kind")) | ((with_reducible refine' iA ?e ?_);(case e=>walk_at "l2kind")) | (with_reducible refine c9 ?_) | (with_reducible refine eV ?_))
theorem lV (T:Tx K mg a):FnOk P w K mg base CX0 9 a.bt a.i9 ["machine"] (zW a.aj):=by
 refine T.dI.1.okA bF λa5 A outer s H vs Q E Y h=>?_;obtain⟨p,m,nx,os,rfl,ma,g,ε,q⟩:=h;obtain⟨dx,δ,to,ho,hn,a3⟩:=ma.ho;have m6:=g.m6
 refine⟨_,((ae (au (i:=1) bF.nd rfl @E (dE (pv 0) T.aw T.bR (bL T) (Y.mono @C) T.aT.2 .nil gX))
  (ae (au (i:=2) bF.nd rfl @E (de ag))
  (ae (au (i:=3) bF.nd rfl @E (ao (kG T) Y T.md T.fz (!j 0 (!j 2 ag))))
  (ae (lO y2 (aD CZ (ar cx (aF (bf (K:=K) rfl) (by rfl) T.i5 Kd (!j 3 ag)) (aF (bf (K:=K) rfl) (by rfl) T.i5 Kd (!j 2 ag))) (pv 1) (aI _)) (ae (au (i:=2) bF.nd rfl @E (ao (pD T) Y T.tX T.kz (aa (dY (osc:=ah dC) (ON:=["machine","stores","bars","ways"]) (N:=n10) (n:=1) (fx:=[1]) rfl rfl rfl (by decide +kernel) (aZ (K:=K) rfl (pv 3)) (aX @C) (λ_ _ _ _ _=>⟨(ax (i:=0) (show y' (n10:C') from by decide +kernel) rfl @E),bK,(ar fN (pv 0) (ar eJ (ar cE af (pv 1)) af))⟩)) (!j 1 ag))))
  (ai (au (i:=3) bF.nd rfl @E (ao (kG T) Y T.md T.fz (!j 0 (!j 2 ag)))))))
  (ai (aC (fh (!j 2 (!j 3 ag)))))))))),aB (σ':=[ak _,hB,hB,hB]) rfl ?_⟩
 lia;refine bJ ho rfl ?_;lia;refine⟨p,_,nx,os,rfl,ma,?_⟩;lia;intro ο H1 f1 O ν;lia;refine⟨p,ο,m,nx,os,[],rfl,ma.same O,g,ε,ν,LI _,λb h=>kv h @D,fun α H2 f2 ρ ι ξ=>?_⟩;lia;refine⟨λk σ H'=>∃(j:Nat) (ο α:gn),σ=[ak (.ref p),ak (nat nx.length),ak (.ref ο),ak (.ref α)]/\k=nx.length - j/\Same H H'/\H' ο=ak (.lst ((evj @F (prs os) m j).1.map nat))/\H' α=ak (.lst ((evj @F (prs os) m j).2.map nat))/\M.Slp @F (prs os) m j (evj @F (prs os) m j).1 (evj @F (prs os) m j).2/\∀i,i < j->(evj @F (prs os) m i).2.length + (evj @F (prs os) m i).1.length < (@F).length,⟨_,0,ο,α,rfl,rfl,O.trans ρ,ρ.get ν,ι,M.Slp.start ξ,λi h=>kv h (LO i)⟩,?_⟩;clear f1 f2 ν ι O ρ ξ;rintro k σ H1 ⟨j,ο,α,rfl,rfl,O,ν,ι,S,hl⟩;have θ:evj @F (prs os) m (j + 1)=(M.acr ((evj @F (prs os) m j).2.map (· % 2 ^ (@F).length)) (@F).length,swy @F (prs os) m (M.acr ((evj @F (prs os) m j).2.map (· % 2 ^ (@F).length)) (@F).length)):=rfl;rw[aq] at θ hl;have un:(@F).length<=(evj @F (prs os) m j).2.length + (evj @F (prs os) m j).1.length->Fev @F (prs os) m (evj @F (prs os) m j).1 (evj @F (prs os) m j).2:=λh=>⟨⟨j,S,h⟩,j,rfl,h,by rw[aq];exact hl⟩
 have hl2:∀i,i < j + 1->(evj @F (prs os) m j).2.length + (evj @F (prs os) m j).1.length < nx.length->(evj @F (prs os) m i).2.length + (evj @F (prs os) m i).1.length < nx.length:=λi hi h=>by
  by_cases h':i < j
  ·exact hl i h'
  ·rw[show i=j by omega];exact h
 generalize a4:(evj @F (prs os) m j).1=bs at *
 generalize a0:(evj @F (prs os) m j).2=ws at *
 rw[aq] at un;lia;simp only[dt];have ll:=S.cnt;rw[aq] at ll;by_cases hd:ws.length + bs.length < nx.length
 ·rw[qb (pB @A)];have hl2:=λi hi=>hl2 i hi hd
  have lt':∀r∈ws.map (· % 2 ^ nx.length),r < 2 ^ nx.length:=λr Y=>by
   obtain⟨x,_,rfl⟩:=oi.mp Y;exact Nu _ (lh _)
  have rk:(M.fr (ws.map (· % 2 ^ nx.length))).length=ws.length:=by
   have:=M.fr_inj S.w.inj;rw[aq,dt] at this;exact this
  generalize χ:M.acr (ws.map (· % 2 ^ nx.length)) nx.length=ms at *
  refine⟨fun σ' H'=>∃(ο α:gn),σ'=[ak (.ref p),ak (nat nx.length),ak (.ref ο),ak (.ref α)]/\Same H H'/\H' ο=ak (.lst (ms.map nat))/\H' α=ak (.lst ((swy @F (prs os) m ms).map nat))/\M.Slp @F (prs os) m (j + 1) ms (swy @F (prs os) m ms),?_,?_⟩
  ·rintro σ' H' ⟨β,D4,rfl,s',e3,υ,S'⟩;have:=S'.le;rw[aq] at this;refine⟨nx.length - (j + 1),@A,j + 1,β,D4,rfl,rfl,s',?_,?_,?_,?_⟩
   ·rw[θ];exact e3
   ·rw[θ];exact υ
   ·rw[θ];exact S'
   ·first | exact hl2 | (rw[aq];exact hl2)
  ·have hc:CPow (1:Int) (nx.length:Int):=⟨@A,@A,@C⟩;clear θ un hl2 hl;lia;intro γ η;refine bW (xs:=ws.map nat) (λi ys H'=>Cs (λi ys=>ys=((ws.take i).map (· % 2 ^ nx.length)).map nat) H1 γ i ys H') (Cs.zero η rfl) (λi ys H' _ c=>SqL.of (c.same.get ι)) (λi v ys H' hv c=>?_) (λys H5 c=>?_)
   ·obtain⟨b,ζ,rfl⟩:=aK hv;have hi:=(eH.mp ζ).1;lia;refine Cs.put η c.same c.at' c.len @A ?_;rw[c.pv,take_succ ζ,hH,hH,BI];rfl
   have e5:=c.at';rw[c.pv,dt,z9] at e5;have ω:=c.same;clear c;lia;refine⟨γ,_,nx.length,rfl,e5,by rw[dt];omega,@A,lt',@A,λD6 H6 f6 ψ τ Z=>?_⟩;rw[χ] at τ Z;have ln:=Z.len;rw[rk] at ln;lia;refine⟨p,D6,m,nx,os,ms,rfl,ma.same ((O.trans ω).trans ψ),g,ε,τ,@A,Z.lt,λD7 H7 f7 φ e7 ξ=>?_⟩;lia;refine⟨D6,D7,rfl,((O.trans ω).trans ψ).trans φ,φ.get τ,e7,S.next (by rw[aq];omega) (by rw[aq];exact hd) (by rw[aq];exact Z.lt) (by rw[aq];exact ln) (by rw[aq];exact Z.ev) (by rw[aq];exact Z.all) ξ⟩
 ·rw[ov (by rw[Kc];omega)];have un:=un @A;lia;intro t8 H8 f8 π e8;exact q t8 ο α H8 bs ws (O.trans π) e8 (π.get ν) (π.get ι) un
end
section
variable {P:qc} {w:y3} {K:aS} {mg:F'} {base:Ke} {a:Ad}
local macro_rules | `(tactic| walk_at "l2step") =>`(tactic| first | ((with_reducible refine' d8 ?e ?_);(case e=>walk_at "l2kind")) | ((with_reducible refine' iA ?e ?_);(case e=>walk_at "l2kind")) | (with_reducible refine c9 ?_) | (with_reducible refine eV ?_))
theorem G2 (b n:Nat):(b:Int) / 2 ^ ((n:Int).toNat)=((b>>>n:Nat):Int):=by rw[pT,z3];push_cast;rfl
theorem tF (T:Tx K mg a):FnOk P w K mg base CX0 10 a.dr a.nT ["machine"] (yi a.aj):=by
 refine T.iL.1.okA bI λo0 A outer s H vs Q E hr h=>?_;obtain⟨p,m,nx,os,rfl,ma,g,l6,qN,qS⟩:=h;obtain⟨dx,δ,to,ho,hn,l7⟩:=ma.ho;have m6:=g.m6;have lo:=g.lo
 refine⟨_,((ae (au (i:=1) bI.nd rfl @E (ao (lV T) hr T.nE T.dI (!j 0 ag)))
  (ae (eZ (osc:=ah cD) (ON:=n12) (N:=["pair"]) (n:=1) (fx:=[]) (i:=2) bI.nd rfl rfl rfl rfl rfl rfl (by decide +kernel) (tj (K:=K) rfl (be (K:=K) rfl (pv 0) rfl)) (aX @C) (λ_ _ _ _ _=>⟨(ax (i:=0) (show y' (["pair"]:C') from by decide +kernel) rfl @E),bK,(!A @G (pv 0) af)⟩))
  (ae (c6 (iZ (K:=K) rfl z5 NU NT pK (pv 2) (aa (dY (osc:=ah cD) (ON:=n12) (N:=["bar","machine"]) (n:=1) (fx:=[0]) rfl rfl rfl (by decide +kernel) (aZ (K:=K) rfl (!A @G (pv 1) af)) (aX @C) (λ_ _ _ _ _=>⟨(ax (i:=0) (show y' (["bar","machine"]:C') from by decide +kernel) rfl @E),bK,(!A @G (dX (pv 1) T.aw T.iU (iq T) (hr.mono @C) T.ck.2 .nil thr0 (!j 0 ag)) af)⟩)) ag)))
  (ae (au (i:=3) bI.nd rfl @E (ao (pD T) hr T.tX T.kz (!j 2 (aa (be (K:=K) rfl (pv 0) rfl) ag))))
  (ae (cI (aD kB (aF (bf (K:=K) rfl) (by rfl) T.i5 Kd (!j 3 ag)) af (aI _)) (ai (aC Es)) aL)
  (ae (au (i:=4) bI.nd rfl @E (dE (pv 0) T.aw T.bR (bL T) (hr.mono @C) T.aT.2 .nil gX))
  (ae (au (i:=5) bI.nd rfl @E (dY (osc:=ah cD) (ON:=n12) (N:=n10) (n:=1) (fx:=[4]) rfl rfl rfl (by decide +kernel) (aZ (K:=K) rfl (!A @G (pv 1) af)) (aX @C) (λ_ _ _ _ _=>⟨(ax (i:=0) (show y' (n10:C') from by decide +kernel) rfl @E),bK,(ar fN (pv 0) (ar eJ (ar cE af (pv 1)) af))⟩)))
  (ae (eZ (osc:=ah cD) (ON:=n12) (N:=n10) (n:=1) (fx:=[4]) (i:=6) bI.nd rfl rfl rfl rfl rfl rfl (by decide +kernel) (aZ (K:=K) rfl (!A @G (pv 1) af)) (aX @C) (λ_ _ _ _ _=>⟨(ax (i:=0) (show y' (n10:C') from by decide +kernel) rfl @E),bK,(ar uR (pv 0) (pv 1))⟩))
  (ae (au (i:=7) bI.nd rfl @E (!A @G (ao (mU T) hr T.qd T.je (!j 5 (aa (!A @G (dX (pv 0) T.aw T.iT (ip T) (hr.mono @C) T.cj.2 .nil thr0 (aa af (aa (!A (gq (K:=K) rfl) (pv 3) af) ag))) af) ag))) af))
  (ae (eZ (osc:=ah cD) (ON:=n12) (N:=n16) (n:=2) (fx:=[5,0]) (i:=8) bI.nd rfl rfl rfl rfl rfl rfl (by decide +kernel) (HU (K:=K) rfl (by rfl) T.C3 (pv 5) (pv 6)) (xE (iJ (aX @C) (iJ (aX @C) tU))) (λ_ _ _ _ _=>⟨(tu (K:=K) (n:=2) rfl rfl (aM (ax (i:=0) (show y' (n16:C') from by decide +kernel) rfl @E) (aM (ax (i:=1) (show y' (n16:C') from by decide +kernel) rfl @E) ik))),bK,(!A @G (ao (mU T) hr T.qd T.je (!j 2 (aa (!A @G (dX (pv 3) T.aw T.iT (ip T) (hr.mono @C) T.cj.2 .nil thr0 (!j 0 (!j 1 ag))) af) ag))) af)⟩))
  (ai (aC (fh (aa gC (aa (!A (gq (K:=K) rfl) (pv 3) af) (!j 7 (!j 5 (!j 6 (!j 8 ag)))))))))))))))))))),aB (σ':=[ak _,hB,hB,hB,hB,hB,hB,hB,hB]) rfl ?_⟩
 lia;refine⟨p,m,nx,os,rfl,ma,g,l6,λt1 D1 α H1 bars O s1 et e1 e2 fv=>?_⟩;have l9:=s1.get ho;have f0:=s1.get l7;lia;refine bc l9 T.aw T.bZ rfl ?_;refine⟨to,rfl,⟨_,SqT.of f0⟩,?_⟩;intro D3 e0;refine oN (xs:=refs os) (λi ys H'=>Cs (λi ys=>ys=((os.take i).map λq=>q.2.2).map nat) H1 D3 i ys H') (Cs.zero e0 rfl) (λi ys H' _ c=>SqT.of (c.same.get f0)) (λi v ys H' hv c=>?_) (λys H3 c=>?_)
 ·obtain⟨r,c1,rfl⟩:=aK hv;have hi:=(eH.mp c1).1;have hm:=hQ c1;have er:=(s1.trans c.same).get (ma.hs r hm);lia;refine Cs.put e0 c.same c.at' c.len @A ?_;rw[c.pv,take_succ c1,hH,hH];rfl
 have e3:=c.at';rw[c.pv,show(refs os).length=os.length from dt ..,z9] at e3;have s3:=c.same;clear c;have b9:=s1.trans s3;have m5:=s3.get et;have η:=s3.get e1;have bl:bars.length<=nx.length:=by obtain⟨j,S,_⟩:=fv.ex;obtain⟨pr,_,_,h,_⟩:=S.cnt;rw[aq] at h;omega
 have blt:∀b∈bars,b < 2 ^ nx.length:=by obtain⟨j,S,_⟩:=fv.ex;have:=S.lt;rw[aq] at this;exact this
 lia;intro D4 c3;refine bW (xs:=bars.map nat) (λi ys H'=>Cs (λi ys=>ys=((bars.take i).map (M.sm (nx.map λq=>q.2.2))).map nat) H3 D4 i ys H') (Cs.zero c3 rfl) (λi ys H' _ c=>SqL.of (c.same.get η)) (λi v ys H' hv c=>?_) (λys Z c=>?_)
 ·obtain⟨b,a3,rfl⟩:=aK hv;have hi:=(eH.mp a3).1;have hm:=hQ a3;have g5:=b9.trans c.same;lia;refine cR (g5.get ho) rfl ?_;lia;refine⟨p,m,nx,os,nat b,"int",rfl,ma.same g5,g,rfl,λa1 ea ha t7 H7 s7 e7=>?_,fun β=>?_⟩
  ·have ea:=iR ea;subst ea;lia;refine Cs.put c3 (c.same.trans s7) (s7.get c.at') c.len @A ?_;rw[c.pv,take_succ a3,hH,hH];rfl
  ·rw[cT (blt b hm)] at β;cases β
 have e4:=c.at';rw[c.pv,dt,z9] at e4;have s4:=c.same;clear c;lia;have ι:D3≠D4:=λz=>by rw[<-z,e3] at c3;cases c3
 refine sY (s4.get e3) e4 (by rw[dt,dt,dt,dt];exact L9 (dh @A)) ι λH5 u5=>?_;have s5:=u5.same e0 (s3.trans s4);have e5:=u5.at';have er:(os.map λq=>q.2.2)++bars.map (M.sm (nx.map λq=>q.2.2))=(prs os).map (·.2)++bars.map (M.sm ((@F).map (·.2))):=by rw[show(@F).map (·.2)=nx.map λq=>q.2.2 by rw[Lc];rfl,show(prs os).map (·.2)=os.map λq=>q.2.2 by rw[Lc];rfl]
 rw[<-hH,er] at e5;have g4:=s1.trans s5
 have f3:∀r∈(prs os).map (·.2)++bars.map (M.sm ((prs nx).map (·.2))),r < 2 ^ m:=λr hr=>by
  rcases oT.mp hr with h | h
  ·obtain⟨q,hq,rfl⟩:=oi.mp h;obtain⟨r',c1,rfl⟩:=oi.mp hq;exact(g.bn r' (nv _ c1)).2
  ·obtain⟨b,a3,rfl⟩:=oi.mp h;refine M.sm_lt _ λx hx=>?_;obtain⟨q,hq,rfl⟩:=oi.mp hx;obtain⟨r,hr,rfl⟩:=oi.mp hq;exact(g.bn r (qB _ hr)).2
 have h5:((prs os).map (·.2)++bars.map (M.sm ((@F).map (·.2)))).length=os.length + bars.length:=by
  rw[hC,dt,aq,dt]
 have fi:=λu=>M.first_iff (ps:=prs nx) (os:=prs os) (bars:=bars) (u:=u) (by rw[aq];omega) (by rw[aq];omega);have m8:=s5.get e2;have m4:=s5.get et;clear u5 e3 e4 η m5 e0 c3 ι er s3 s4 b9 e1;lia;refine bc (g4.get ho) T.aw T.aR rfl ?_;lia;refine⟨D3,_,m,rfl,e5,by rw[h5];omega,@A,f3,qE (M.rank_le f3) @A,λD6 H6 f6 s6 e6 ac=>?_⟩;have b3:=g4.trans s6;clear e5;lia;have τ:H6 D6=ak (.lst ((fsts @F (prs os) m bars).map nat)):=e6;have b4:Acr ((prs os).map (·.2)++bars.map (M.sm ((@F).map (·.2)))) m (fsts @F (prs os) m bars):=ac;rw[show M.acr ((prs os).map (λx=>x.2)++bars.map (M.sm ((@F).map (λx=>x.2)))) m=fsts @F (prs os) m bars from rfl];clear e6 ac;cases hf:fsts @F (prs os) m bars with
 | nil=>
   dsimp only;rw[qb (by rw[Kc];rfl)];lia;refine qN H6 bars O b3 fv λu hu h1 h2=>?_;have:=b4.all u hu ((fi u).mpr ⟨h1,h2⟩);rw[hf] at this;exact this
 | cons u fs=>
   rw[hf] at τ b4;have u0:=b4.inj.nz (kb (a:=u));have ul:=b4.lt u kb;have f1:=(fi u).mp (b4.ev u kb);have hu:(fsts @F (prs os) m bars)[0]? =ak u:=by rw[hf];rfl
   clear b4 fi f3 h5 hf qN
   have lw:O.length<=nx.length:=by
    obtain⟨j,S,_⟩:=fv.ex
    have hl:∀r∈O.map (· % 2 ^ (prs nx).length),r < 2 ^ nx.length:=λr hr=>by
     obtain⟨x,_,rfl⟩:=oi.mp hr;rw[aq];exact Nu _ (lh _)
    have:=M.rank_le hl;rw[M.fr_inj S.w.inj,dt] at this;exact this
   have j1:∀w∈O,w < 2 ^ (nx.length + m):=by obtain⟨j,S,_⟩:=fv.ex;have:=S.w.lt;rw[aq] at this;exact this
   have gf:=λh=>fv.first (u:=u) h;have gg:=λw hw=>fv.goes (w:=w) hw;rw[aq] at gf;simp only[aq] at gg;dsimp only;rw[ov (by rw[Kc];intro z;have:=V.int.inj z;rw[dt,za] at this;omega)];have Y:=s6.get m8;have m3:=s6.get m4;lia;refine bJ (b3.get ho) rfl ?_;lia;refine⟨p,_,nx,os,rfl,ma.same b3,?_⟩;have hc:CPow (1:Int) (nx.length:Int):=⟨@A,@A,@C⟩;lia;intro D7 f5;refine bW (xs:=O.map nat) (λi ys H'=>Cs (λi ys=>ys=((O.take i).map (· % 2 ^ nx.length)).map nat) H6 D7 i ys H') (Cs.zero f5 rfl) (λi ys H' _ c=>SqL.of (c.same.get Y)) (λi v ys H' hv c=>?_) (λys H7 c=>?_)
   ·obtain⟨b,a3,rfl⟩:=aK hv;have hi:=(eH.mp a3).1;lia;refine Cs.put f5 c.same c.at' c.len @A ?_;rw[c.pv,take_succ a3,hH,hH,BI];rfl
   have e7:=c.at';rw[c.pv,dt,z9] at e7;have s7:=c.same;clear c;have n7:=s7.get m3;have m7:=s7.get Y;lia;intro D8 c2;refine bW (xs:=O.map nat) (λi ys H'=>Cs (λi ys=>ys=((O.take i).map (·>>>nx.length)).map nat) H7 D8 i ys H') (Cs.zero c2 rfl) (λi ys H' _ c=>SqL.of (c.same.get m7)) (λi v ys H' hv c=>?_) (λys H8 c=>?_)
   ·obtain⟨b,a3,rfl⟩:=aK hv;have hi:=(eH.mp a3).1;lia;refine Cs.put c2 c.same c.at' c.len @A ?_;rw[c.pv,take_succ a3,hH,hH,G2];rfl
   have e8:=c.at';rw[c.pv,dt,z9] at e8;have s8:=c.same;clear c;have g3:=s7.trans s8;have h7:=g3.get τ;lia;have ζ:=b3.trans g3;refine cR (ζ.get ho) rfl ?_;lia;refine yq (v:=nat u) (SqL.of h7) (jz (j:=0) rfl) ?_;lia
   refine⟨p,m,nx,os,nat 0,nat u,"int","int",rfl,ma.same ζ,g,rfl,rfl,λa0 b0 ea eb _ _ t9 H9 s9 e9=>?_,fun β=>by
    exfalso;rcases β with h | h
    ·rw[cT (lh _)] at h;cases h
    ·rw[cT ul] at h;cases h⟩
   have ea:=iR ea;have eb:=iR eb;subst ea eb
   have slt:∀r∈O.map (· % 2 ^ nx.length),r < 2 ^ 1000:=λr hr=>by
    obtain⟨x,_,rfl⟩:=oi.mp hr;exact f' (Nu _ (lh _)) (gA @C @A)
   have g0:∀x y,M.tr2 @F x y < 2 ^ 1000:=λx y=>by
    have:=M.tr2_lt @F x y;rw[aq] at this;exact f' this (gA @C @A)
   have f7:=(s8.trans s9).get e7;lia;refine⟨D7,_,_,rfl,f7,by rw[dt];omega,slt,g0 0 u,O5 (gf f1.2),fun ω θ f8 bq υ d2 ο φ sd=>?_,fun ω f8 mm d2 ο bd=>kv (gf f1.2) bd.ns⟩;lia;refine Hm ?_;have b5:=s9.trans d2;have a4:=d2.get f7;have a5:=b5.get e8;lia;refine⟨D7,D8,(O.map (· % 2 ^ nx.length)).map nat,(O.map (·>>>nx.length)).map nat,rfl,rfl,SqL.of a4,SqL.of a5,by rw[dt,dt,dt,dt],?_⟩;intro a6 χ;have c0:=ζ.trans b5;refine DN (xs:=(O.map (· % 2 ^ nx.length)).map nat) (ys:=(O.map (·>>>nx.length)).map nat) (by rw[dt,dt,dt,dt]) (λi zs H'=>∃ls:gs (gn×Nat),zs=ls.map (λq=>V.ref q.1)/\Same f8 H'/\H' a6=ak (.lst zs)/\ls.length=i/\(∀q∈ls,H' q.1=ak (.lst ((M.pl 1000 q.2).map nat)))/\(∀q∈ls,q.1≠a6/\f8 q.1=hB)/\∀(k w:Nat) (q:gn×Nat),O[k]? =ak w->ls[k]? =ak q->Sumd (O.map (· % 2 ^ nx.length)) (M.tr2 @F (w % 2 ^ nx.length) (w>>>nx.length)) q.2) ⟨[],rfl,c8 χ,aP,rfl,λq h=>kv h @D,λq h=>kv h @D,λk w q _ h=>kv h @D⟩ (λi zs H' _ ⟨_,_,s',_⟩=>⟨SqL.of (s'.get a4),SqL.of (s'.get a5)⟩) (λi x y zs H' pz o3 hx hy c fp sp ep=>?_) (λzs ε c=>?_)
   ·obtain⟨ls,rfl,s',eD,li,f4,d3,f2⟩:=c;obtain⟨x1,h4,rfl⟩:=aK hx;rw[lz] at h4;obtain⟨w,hw,rfl⟩:=KY.mp h4;obtain⟨y1,h3,rfl⟩:=aK hy;rw[lz] at h3;obtain⟨w2,ν,rfl⟩:=KY.mp h3;rw[hw] at ν;cases ν;have hi:=(eH.mp hw).1;have hm:=hQ hw;have sw:=c0.trans (s'.trans sp);have n5:pz≠a6:=λz=>by rw[z,eD] at fp;cases fp
    lia;refine cR (sw.get ho) rfl ?_;lia;have wd:=M.jd_of (j1 w hm)
    refine⟨p,m,nx,os,_,_,"int","int",rfl,ma.same sw,g,rfl,rfl,λa0 b0 ea eb _ _ n3 j0 γ h9=>?_,fun β=>by
     exfalso;rcases β with h | h
     ·rw[cT wd.2.1] at h;cases h
     ·rw[cT wd.2.2] at h;cases h⟩
    have ea:=iR ea;have eb:=iR eb;subst ea eb;have ρ:=(s'.trans (sp.trans γ)).get a4;lia;refine⟨D7,_,_,rfl,ρ,by rw[dt];omega,slt,g0 _ _,O5 (gg w hm),fun ψ f9 n0 q m1 b9 ξ η j2=>?_,fun ψ n0 mm b9 ξ bd=>kv (gg w hm) bd.ns⟩;have st:=sp.trans (γ.trans b9);have d1:H' f9=none:=(sp.trans γ).free m1;have h0:f9≠a6:=λz=>by rw[z,eD] at d1;cases d1
    lia;refine⟨st.get eD,by rw[dt];exact dh @A,ls++[(f9,q)],by rw[hH];rfl,λb o e=>?_,aP,by rw[hC,li];rfl,λq' h=>?_,λq' h=>?_,λk w' q' h1 h2=>?_⟩
    ·rw[aJ (ay e χ)];exact st.get (s'.get e)
    ·rcases oT.mp h with h | h
     ·rw[aJ (d3 q' h).1];exact st.get (f4 q' h)
     ·rw[hL.mp h,aJ h0];exact η
    ·rcases oT.mp h with h | h
     ·exact d3 q' h
     ·rw[hL.mp h];exact⟨h0,s'.free d1⟩
    ·by_cases hk:k < ls.length
     ·rw[u' hk] at h2;exact f2 k w' q' h1 h2
     ·have m0:=(eH.mp h2).1;rw[hC,Kb] at m0;have ek:k=i:=by omega
      subst ek;rw[vr @A,li,Ms] at h2;cases h2;rw[hw] at h1;cases h1;exact j2
   obtain⟨ls,rfl,s',eD,li,f4,d3,f2⟩:=c;rw[dt,dt] at li;lia;have j3:=s';have n2:=(s8.trans (s9.trans (d2.trans s')));refine yq (v:=nat u) (SqL.of ((b5.trans s').get h7)) (jz (j:=0) rfl) ?_;lia;intro tt j0 m2 γ h9;have n4:∀{b:gn} {o:HO},ε b=ak o->b≠tt:=λh z=>by rw[z,m2] at h;cases h
   have m9:=s'.get φ;have h6:=s'.get a4;have π:=s'.get a5;have l5:D7≠D8:=λz=>by rw[<-z,e7] at c2;cases c2
   have l0:θ≠D7:=λz=>by rw[z] at υ;rw[f7] at υ;cases υ
   have j7:θ≠D8:=λz=>by rw[z] at υ;rw[s9.get e8] at υ;cases υ
   have nB:θ≠a6:=λz=>by rw[<-z,φ] at χ;cases χ
   have l4:D7≠a6:=λz=>by rw[<-z,a4] at χ;cases χ
   have k6:D8≠a6:=λz=>by rw[<-z,a5] at χ;cases χ
   refine qS j0 tt θ D7 D8 a6 u bars O bq ls ((c0.trans s').trans γ) ⟨h9,γ.get m9,by rw[aq];exact γ.get h6,by rw[aq];exact γ.get π,γ.get eD,λq h=>γ.get (f4 q h),(ζ.trans s9).free υ,b3.free f5,(b3.trans s7).free c2,c0.free χ,by simp[l5,l0,j7,nB,l4,k6],λq h z=>?_,fv,hu,u0,ul,f1,by rw[aq];exact sd,li,by rw[aq];exact f2⟩;have hq:=d3 q h;simp only[qn,Ks,Lu] at z;rcases z with z | z | z | z
   ·rw[z,φ] at hq;cases hq.2
   ·rw[z,a4] at hq;cases hq.2
   ·rw[z,a5] at hq;cases hq.2
   ·exact hq.1 z
end
section
variable {P:qc} {w:y3} {K:aS} {mg:F'} {base:Ke} {a:Ad}
local macro_rules | `(tactic| walk_at "l2step") =>`(tactic| first | ((with_reducible refine' d8 ?e ?_);(case e=>walk_at "l2kind")) | ((with_reducible refine' iA ?e ?_);(case e=>walk_at "l2kind")) | (with_reducible refine c9 ?_) | (with_reducible refine eV ?_))
theorem qT (T:Tx K mg a):FnOk P w K mg base CX0 6 a.cK a.ml ["machine","delay","mask"] (zL a.aj):=by
 refine T.gY.1.okA bx λd1 A outer s H vs Q E ζ h=>?_;obtain⟨p,m,nx,os,d,μ,rfl,ma,g,c1,ld,θ,ο,q⟩:=h;obtain⟨dx,δ,to,ho,hn,τ⟩:=ma.ho;have m6:=g.m6;have lo:=g.lo
 refine⟨_,((ae (au (i:=3) bx.nd rfl @E (dE (pv 0) T.aw T.cy (bU T) (ζ.mono @C) T.aW.2 .nil gX))
  (ae (au (i:=4) bx.nd rfl @E af)
  (ae (eZ (osc:=ah eU) (ON:=n18) (N:=["pair"]) (n:=1) (fx:=[]) (i:=5) bx.nd rfl rfl rfl rfl rfl rfl (by decide +kernel) (tj (K:=K) rfl (be (K:=K) rfl (pv 0) rfl)) (aX @C) (λ_ _ _ _ _=>⟨(ax (i:=0) (show y' (["pair"]:C') from by decide +kernel) rfl @E),bK,(!A @G (pv 0) af)⟩))
  (ae (eX y2 rfl (aZ (K:=K) rfl (ao (pj T) ζ T.sg T.jc (!j 2 (!j 3 (aa (ar cx (pv 1) af) ag))))) (ax (i:=6) bx.nd rfl @E) (ae (eX y2 rfl (aZ (K:=K) rfl (ao (km T) ζ T.mf T.iC (!j 6 ag))) (ax (i:=7) bx.nd rfl @E) (ai (au (i:=4) bx.nd rfl @E (ar gP (pv 4) (!A (gq (K:=K) rfl) (pv 5) (pv 7))))))
  (ai (eZ (osc:=ah eU) (ON:=n18) (N:=["look","machine"]) (n:=1) (fx:=[0]) (i:=5) bx.nd rfl rfl rfl rfl rfl rfl (by decide +kernel) (aZ (K:=K) rfl (pv 5)) (aX @C) (λ_ _ _ _ _=>⟨(ax (i:=0) (show y' (["look","machine"]:C') from by decide +kernel) rfl @E),bK,(!A @G (dX (pv 1) T.aw T.iU (iq T) (ζ.mono @C) T.ck.2 .nil thr0 (!j 0 ag)) af)⟩)))))
  (ae (au (i:=8) bx.nd rfl @E (ar fN (pv 2) (ar eJ (ar cE af (ar iG (pv 1) (pv 3))) af)))
  (ai (aC (fh (aa (ar gP (pv 4) (ar cE (pv 8) (dE (pv 0) T.aw T.bR (bL T) (ζ.mono @C) T.aT.2 .nil gX))) (aa (ar uR (pv 2) (ar iG (pv 1) (pv 3))) ag))))))))))),aB (σ':=[ak _,ak _,ak _,hB,hB,hB,hB,hB,hB]) rfl ?_⟩
 lia;refine bJ ho rfl ?_;lia;refine⟨p,_,nx,os,rfl,ma,?_⟩;lia;refine bc ho T.aw T.bZ rfl ?_;refine⟨to,rfl,⟨_,SqT.of τ⟩,?_⟩;intro D1 a3;refine oN (xs:=refs os) (λi ys H'=>Cs (λi ys=>ys=((os.take i).map λq=>q.2.1).map nat) H D1 i ys H') (Cs.zero a3 rfl) (λi ys H' _ c=>SqT.of (c.same.get τ)) (λi v ys H' hv c=>?_) (λys H1 c=>?_)
 ·obtain⟨r,β,rfl⟩:=aK hv;have hi:=(eH.mp β).1;have er:=c.same.get (ma.hs r (hQ β));lia;refine Cs.put a3 c.same c.at' c.len @A ?_;rw[c.pv,take_succ β,hH,hH];rfl
 have e1:=c.at';rw[c.pv,show(refs os).length=os.length from dt ..,z9] at e1;have s1:=c.same;clear c;lia;refine⟨μ,os.length,d + 1,rfl,@A,@A,λD2 H2 f2 s2 e2=>?_⟩;have γ:=s1.trans s2;have c0:=s2.get e1;lia;have pA:(@F).map (·.1)=nx.map λq=>q.2.1:=by rw[Lc];rfl
 have pO:(prs os).map (·.1)=os.map λq=>q.2.1:=by rw[Lc];rfl
 have ξ:∀x∈nx.map (λq=>q.2.1),x < 2 ^ nx.length:=λx π=>by
  obtain⟨r,ζ,rfl⟩:=oi.mp π;exact(g.bn r (qB _ ζ)).1
 have hO:∀x∈os.map (λq=>q.2.1),x < 2 ^ nx.length:=λx π=>by
  obtain⟨r,ζ,rfl⟩:=oi.mp π;exact(g.bn r (nv _ ζ)).1
 have zs:∀i,M.zmk @F (prs os) μ (i + 1)=M.zmk @F (prs os) μ i^^^M.sm ((os.map λq=>q.2.1).map λl=>M.bkI (nx.map λq=>q.2.1) l i) ((μ>>>(i * os.length))&&&(2 ^ os.length - 1)):=λi=>by
  show M.zmk @F (prs os) μ i^^^_=_;rw[pA,pO,aq]
 generalize b5:nx.map (λq=>q.2.1)=As at *
 generalize b4:os.map (λq=>q.2.1)=Os at *
 have a5:Os.length=os.length:=by rw[<-b4,dt]
 refine fu (xs:=(M.upk os.length μ (d + 1)).map nat) (λi σ H'=>∃(ω:gn) (v1 v2:rl V),σ=[ak (.ref p),ak (nat d),ak (nat μ),ak (nat os.length),ak (nat (M.zmk @F (prs os) μ i)),ak (.ref ω),v1,v2,hB]/\Same H2 H'/\H' ω=ak (.lst ((Os.map λl=>M.bkI As l i).map nat))) ⟨D1,hB,hB,rfl,λ_ _ h=>h,by rw[show(Os.map λl=>M.bkI As l 0)=Os from S9 Os];exact c0⟩ (λi σ H' _ ⟨_,_,_,_,s',_⟩=>SqL.of (s'.get e2)) ?_ ?_
 ·rintro i y σ H' hy ⟨ω,v1,v2,rfl,s',eL⟩;obtain⟨an,ε,rfl⟩:=aK hy;have hi:=(eH.mp ε).1;rw[M.upk_len] at hi
  have b9:an=(μ>>>(i * os.length))&&&(2 ^ os.length - 1):=by
   unfold M.upk at ε;rw[lz,MQ hi] at ε;exact(kf ε).symm
  have ν:an < 2 ^ os.length:=M.upk_lt _ _ _ an (hQ ε);lia;refine⟨an,rfl,f' ν (gA @C @A),λD3 H3 f3 s3 e3=>?_⟩;rw[M.pl_up ν @A] at e3;have ψ:=s3.get eL;generalize η:Os.map (λl=>M.bkI As l i)=Ls at *
  have b0:Ls.length=os.length:=by rw[<-η,dt,a5]
  have a6:∀x∈Ls,x < 2 ^ nx.length:=λx π=>by
   rw[<-η] at π;obtain⟨l,hl,rfl⟩:=oi.mp π;exact M.bkI_lt ξ (hO l hl) i
  lia;refine fu (xs:=(M.pl os.length an).map nat) (λk σ O=>∃v,σ=[ak (.ref p),ak (nat d),ak (nat μ),ak (nat os.length),ak (nat (M.zmk @F (prs os) μ i^^^((M.pl os.length an).take k).foldl (λa p=>a^^^Ls.getD p 0) 0)),ak (.ref ω),ak (nat an),v,hB]/\O=H3) ⟨v2,by rw[RQ,PF,Lq],rfl⟩ (λk σ O _ ⟨_,_,e⟩=>by rw[e];exact SqL.of e3) ?_ ?_
  ·rintro k y σ O hy ⟨v,rfl,rfl⟩;obtain⟨k1,φ,rfl⟩:=aK hy;have α:k1 < os.length:=Kw.mp (LC.mp (hQ φ)).1;lia;refine yq (v:=nat (Ls.getD k1 0)) (SqL.of ψ) (jz <| by rw[lz,fy (by omega),eh,fy (by omega)];rfl) ?_;lia;refine⟨ak (nat k1),?_,rfl⟩;rw[bj,take_succ φ,LS,KP];rfl
  ·rintro σ H3 ⟨v,rfl,rfl⟩;rw[dt,z9,M.sm_places Ls an (by rw[b0];exact ν) os.length @A];lia;intro D4 a0;refine bW (xs:=Ls.map nat) (λk ys O=>Cs (λk ys=>ys=((Ls.take k).map (M.sm As)).map nat) H3 D4 k ys O) (Cs.zero a0 rfl) (λk ys O _ c=>SqL.of (c.same.get ψ)) (λk v ys O hv c=>?_) (λys Z c=>?_)
   ·obtain⟨b,ι,rfl⟩:=aK hv;have hk:=(eH.mp ι).1;have hm:=hQ ι;have ρ:=γ.trans (s'.trans (s3.trans c.same));lia;refine cR (ρ.get ho) rfl ?_;lia;refine⟨p,m,nx,os,nat b,"int",rfl,ma.same ρ,g,rfl,λa1 ea ha t7 H7 s7 e7=>?_,λa4=>?_⟩
    ·have ea:=iR ea;subst ea;rw[b5] at e7;lia;refine Cs.put a0 (c.same.trans s7) (s7.get c.at') c.len @A ?_;rw[c.pv,take_succ ι,hH,hH];rfl
    ·rw[cT (a6 b hm)] at a4;cases a4
   have υ:=c.at';rw[c.pv,dt,z9] at υ;have Y:=c.same;clear c;lia;refine⟨D4,ak (nat an),v,?_,s'.trans (s3.trans Y),?_⟩
   ·rw[zs i,η,b9]
   ·rw[υ,<-η,Lc (f:=λl=>M.bkI As l i)];rfl
 ·rintro σ H' ⟨ω,v1,v2,rfl,s',eL⟩;rw[dt,M.upk_len];have c2:d * os.length + os.length < 64:=by rw[Mm,MU] at θ;exact θ
  have hp:((d:Int) * (os.length:Int))=((d * os.length:Nat):Int):=by push_cast;rfl
  have hc:CPow (1:Int) ((d:Int) * (os.length:Int)):=by rw[hp];exact⟨@A,@A,@C⟩
  have χ:μ < 2 ^ 64:=f' ο (gA @C (L9 θ));have b3:μ % 2 ^ (d * os.length) < 2 ^ 64:=qE (Nat.mod_le _ _) χ;have sH:=γ.trans s';lia;rw[hp,BI];have c3:CPow ((μ % 2 ^ (d * os.length):Nat):Int) (nx.length:Int):=⟨@A,@A,by rw[P4];exact b3⟩;lia;refine bJ (sH.get ho) rfl ?_;lia;refine⟨p,_,nx,os,rfl,ma.same sH,?_⟩;lia;intro tt H5 f5 s5 e5;rw[Fn,bj,hp,G2] at e5;refine q tt H5 (sH.trans s5) ?_;rw[e5];unfold M.tel;rw[aq,aq]
end
section
variable {P:qc} {w:y3} {K:aS} {mg:F'} {base:Ke} {a:Ad}
local macro_rules | `(tactic| walk_at "l2step") =>`(tactic| first | ((with_reducible refine' d8 ?e ?_);(case e=>walk_at "l2kind")) | ((with_reducible refine' iA ?e ?_);(case e=>walk_at "l2kind")) | (with_reducible refine c9 ?_) | (with_reducible refine eV ?_))
theorem nZ (T:Tx K mg a):FnOk P w K mg base CX0 2 a.bP a.j5 ["pair","tellings"] Cu:=by
 refine T.fH.1.okA bQ λa3 A outer s H vs Q E τ h=>?_;obtain⟨t,D,x,y,ts,rfl,et,eD,ht,lt,Z,q⟩:=h
 refine⟨_,((ae (au (i:=2) bQ.nd rfl @E (!A @G (pv 0) af))
  (ae (au (i:=3) bQ.nd rfl @E af)
  (ae (eX y2 rfl (aZ (K:=K) rfl (ao (km T) τ T.mf T.iC (aa (!A @G (pv 0) af) ag))) (ax (i:=4) bQ.nd rfl @E) (ae (au (i:=2) bQ.nd rfl @E (ar gP (pv 2) (!A @G (!A (gq (K:=K) rfl) (pv 1) (pv 4)) af)))
  (ai (au (i:=3) bQ.nd rfl @E (ar gP (pv 3) (!A @G (!A (gq (K:=K) rfl) (pv 1) (pv 4)) af))))))
  (ai (aC (fh (!j 2 (!j 3 ag))))))))),aB (σ':=[ak _,ak _,hB,hB,hB]) rfl ?_⟩
 lia;refine⟨y,rfl,f' Z (gA @C @A),fun ο H1 f1 β ε=>?_⟩;rw[M.pl_up Z @A] at ε;have γ:(prs ts).map (·.1)=ts.map λq=>q.2.1:=by rw[Lc];rfl
 have θ:(prs ts).map (·.2)=ts.map λq=>q.2.2:=by rw[Lc];rfl
 have δ:∀(Y:gn) (H2:Hp),Same H H2->H2 Y=ak (.tup [nat (x^^^M.sm (ts.map λq=>q.2.1) y),nat (M.sm (ts.map λq=>q.2.2) y)])->Q (.ref Y) H2:=λY H2 s e=>q Y H2 s (by unfold M.fol;rw[γ,θ];exact e);clear q;generalize ξ:ts.map (λq=>q.2.1)=As at δ;generalize ζ:ts.map (λq=>q.2.2)=Bs at δ;have π:As.length=ts.length:=by rw[<-ξ,dt]
 have ν:Bs.length=ts.length:=by rw[<-ζ,dt]
 have a0:=β.get eD;lia;refine fu (xs:=(M.pl ts.length y).map nat) (λi σ H'=>∃v,σ=[ak (.ref t),ak (.ref D),ak (nat (x^^^((M.pl ts.length y).take i).foldl (λa p=>a^^^As.getD p 0) 0)),ak (nat (((M.pl ts.length y).take i).foldl (λa p=>a^^^Bs.getD p 0) 0)),v]/\H'=H1) ⟨hB,by rw[RQ,PF,PF,Lq];rfl,rfl⟩ (λi σ H' _ ⟨_,_,e⟩=>by rw[e];exact SqL.of ε) ?_ ?_
 ·rintro i y1 σ H' ι ⟨v,rfl,rfl⟩;obtain⟨k,ψ,rfl⟩:=aK ι;have α:k < ts.length:=Kw.mp (LC.mp (hQ ψ)).1;obtain⟨φ,O⟩:∃φ,ts[k]? =ak φ:=⟨_,fy α⟩;have υ:atI (refs ts) (k:Int)=ak (.ref φ.1):=jz (by unfold refs;rw[lz,O];rfl);have ρ:=β.get (ht φ (hQ O));have ω:As.getD k 0=φ.2.1:=by rw[<-ξ,eh,lz,O];rfl
  have χ:Bs.getD k 0=φ.2.2:=by rw[<-ζ,eh,lz,O];rfl
  lia;refine⟨ak (nat k),?_,rfl⟩;rw[bj,bj,take_succ ψ,LS,LS,KP];show _=[_,_,ak (nat (x^^^(_^^^As.getD k 0))),ak (nat (_^^^Bs.getD k 0)),_];rw[ω,χ]
 ·rintro σ H1 ⟨v,rfl,rfl⟩;rw[dt,z9,M.sm_places As y (by rw[π];exact Z) ts.length @A,M.sm_places Bs y (by rw[ν];exact Z) ts.length @A];lia;intro Y H2 f2 η e2;exact δ Y H2 (β.trans η) e2
theorem pC (T:Tx K mg a):FnOk P w K mg base CX0 2 a.b8 a.kL ["machine","delay"] (zU a.aj):=by
 refine T.gv.1.okA eQ λa5 A outer s H vs Q E ω h=>?_;obtain⟨p,m,nx,os,d,rfl,ma,g,a0,ld,ν,q⟩:=h;obtain⟨dx,δ,to,ho,hn,a3⟩:=ma.ho;have lo:=g.lo
 refine⟨_,((ae (au (i:=2) eQ.nd rfl @E (dE (pv 0) T.aw T.cy (bU T) (ω.mono @C) T.aW.2 .nil gX))
  (ae (eZ (osc:=ah dP) (ON:=["machine","delay","outs","moved","newest"]) (N:=["place","machine"]) (n:=1) (fx:=[0]) (i:=3) eQ.nd rfl rfl rfl rfl rfl rfl (by decide +kernel) (Aw (by rfl) T.iS (!j 2 (aa (ar iG (pv 1) (pv 2)) ag))) (aX @C) (λ_ _ _ _ _=>⟨(ax (i:=0) (show y' (["place","machine"]:C') from by decide +kernel) rfl @E),bK,(fh (aa (ar cE af (ar cx (dE (pv 1) T.aw T.bR (bL T) (ω.mono @C) T.aT.2 .nil gX) (pv 0))) (aa af ag)))⟩))
  (ae (au (i:=4) eQ.nd rfl @E (CU (aD nY (pv 1) af (aI _)) (dY (osc:=ah dP) (ON:=["machine","delay","outs","moved","newest"]) (N:=["out"]) (n:=1) (fx:=[]) rfl rfl rfl (by decide +kernel) (fg (by rfl) T.iS (!j 2 ag)) (aX @C) (λ_ _ _ _ _=>⟨(ax (i:=0) (show y' (["out"]:C') from by decide +kernel) rfl @E),bK,(fh (aa af (aa (ar cE af (pv 0)) ag)))⟩)) (de ag)))
  (ai (aC (ar lR (pv 3) (pv 4)))))))),aB (σ':=[ak _,ak _,hB,hB,hB]) rfl ?_⟩
 lia;refine bJ ho rfl ?_;lia;refine⟨p,_,nx,os,rfl,ma,?_⟩;lia;have a4:d * os.length + os.length < 64:=by rw[Mm,MU] at ν;exact ν
 have hp:((d:Int) * (os.length:Int))=((d * os.length:Nat):Int):=by push_cast;rfl
 rw[hp];refine⟨_,_,rfl,⟨@A,@A,@A,@A⟩,?_⟩;intro ο γ;refine gc (λi ys H'=>Cp (λO=>prs O=(lA O.length).map λj=>(2 ^ (nx.length + (os.length + j)),0)) H ο i ys H') (uf γ rfl) (λi ys H' hi c=>?_) (λys H1 c=>?_)
 ·obtain⟨O,rfl,η,pv,pt,s',ψ⟩:=c;have χ:os.length + i < 64:=by omega
  have hc:CPow (1:Int) ((nx.length:Int) + ((os.length:Int) + (i:Int))):=⟨@A,@A,@C⟩;lia;refine bJ (s'.get ho) rfl ?_;lia;refine⟨p,_,nx,os,rfl,ma.same s',?_⟩;lia;intro υ H2 f2 Y ξ;refine xN (x:=2 ^ (nx.length + (os.length + i))) (y:=0) γ η pt s' ψ Y ?_ @A ?_
  ·rw[ξ,show(1:Int) * 2 ^ ((nx.length:Int) + ((os.length:Int) + (i:Int))).toNat=((2 ^ (nx.length + (os.length + i)):Nat):Int) by rw[OH,show((nx.length:Int) + ((os.length:Int) + (i:Int))).toNat=nx.length + (os.length + i) by omega];push_cast;rfl];rfl
  ·show prs (O++[_])=_;rw[show prs (O++[(υ,2 ^ (nx.length + (os.length + i)),0)])=prs O++[(2 ^ (nx.length + (os.length + i)),0)] from hH ..,pv,hC,Kb,LB,hH,η];rfl
 obtain⟨O,rfl,η,pv,pt,π,e1⟩:=c
 try dsimp only at pv
 rw[η] at pv;have lr:(((d * os.length:Nat):Int) - (os.length:Int)).toNat=d * os.length - os.length:=by omega
 rw[lr] at pv;lia
 have kp:∀l,(prs O++l=M.kpt @F (prs os) d)↔l=(if 0 < d then (lA os.length).map (λk=>(0,2 ^ k)) else []):=λl=>by
  unfold M.kpt;rw[aq,aq,pv];exact List.append_right_inj _
 by_cases hd:0 < d;dsimp only
 ·rw[qb (by rw[Kc];omega)];lia;intro α φ;refine gc (λi ys H'=>Cp (λzs=>prs zs=(lA zs.length).map λk=>(0,2 ^ k)) H1 α i ys H') (uf φ rfl) (λi ys H' hi c=>?_) (λys H2 c=>?_)
  ·obtain⟨zs,rfl,ι,θ,ε,Y,ψ⟩:=c;have χ:i < 64:=by omega
   have hc:CPow (1:Int) (0 + (i:Int)):=⟨@A,@A,@C⟩;lia;intro υ τ ρ Z ζ;refine xN (x:=0) (y:=2 ^ i) φ ι ε Y ψ Z ?_ @A ?_
   ·rw[ζ,show(1:Int) * 2 ^ (0 + (i:Int)).toNat=((2 ^ i:Nat):Int) by rw[OH,show(0 + (i:Int)).toNat=i by omega];push_cast;rfl];rfl
   ·show prs (zs++[_])=_;rw[show prs (zs++[(υ,0,2 ^ i)])=prs zs++[(0,2 ^ i)] from hH ..,θ,hC,Kb,LB,hH,ι];rfl
  obtain⟨zs,rfl,ι,θ,ε,Y,ξ⟩:=c
  try dsimp only at θ
  rw[ι,pT] at θ;lia;refine qP (Y.get e1) ξ (by rw[dc,dc,η,ι,lr,qq,pT];omega) fun β τ ρ Z ζ=>?_;rw[show refs O++refs zs=refs (O++zs) from(hH ..).symm] at ζ;lia;refine q β τ (O++zs) ((π.trans Y).free ρ) ((π.trans Y).trans Z) ζ (λz hz=>?_) ?_
  ·rcases oT.mp hz with h | h
   ·exact(Y.trans Z).get (pt z h)
   ·exact Z.get (ε z h)
  ·rw[show prs (O++zs)=prs O++prs zs from hH ..,(kp _).mpr];rw[qb hd];exact θ
 dsimp only
 ·rw[ov (by rw[Kc];omega)];lia;intro α H2 f2 Y ξ;lia;refine qP (Y.get e1) ξ (by rw[dc,η,lr,qq];show _ + 0<=_;omega) fun β τ ρ Z ζ=>?_;rw[LD] at ζ;lia;refine q β τ O ((π.trans Y).free ρ) ((π.trans Y).trans Z) ζ (λz hz=>(Y.trans Z).get (pt z hz)) ?_;have:=(kp []).mpr (by rw[ov hd]);rwa [LD] at this
end
section
variable {P:qc} {w:y3} {K:aS} {mg:F'} {base:Ke} {a:Ad}
local macro_rules | `(tactic| walk_at "l2step") =>`(tactic| first | ((with_reducible refine' d8 ?e ?_);(case e=>walk_at "l2kind")) | ((with_reducible refine' iA ?e ?_);(case e=>walk_at "l2kind")) | (with_reducible refine c9 ?_) | (with_reducible refine eV ?_))
theorem lU (T:Tx K mg a):FnOk P w K mg base CX0 7 a.bp a.i8 ["machine","delay","masks"] (zM a.aj):=by
 refine T.dH.1.okA eP λd3 A outer s H vs Q E ι h=>?_;obtain⟨p,D,m,nx,os,d,μs,rfl,ma,g,a6,ld,θ,eD,mk,q⟩:=h;obtain⟨dx,δ,to,ho,hn,d1⟩:=ma.ho;have m6:=g.m6;have lo:=g.lo;have d2:d * os.length + os.length < 64:=by rw[Mm,MU] at θ;exact θ
 have lμ:=mk.len
 have ο:∀μ∈μs,μ < 2 ^ ((d + 1) * os.length):=fun μ h=>by
  obtain⟨i,hi⟩:=LW.mp h;have:=mk.lt i μ hi;rwa [aq] at this
 refine⟨_,((ae (au (i:=3) eP.nd rfl @E (dY (osc:=ah cv) (ON:=n19) (N:=["mask","machine","delay"]) (n:=1) (fx:=[0,1]) rfl rfl rfl (by decide +kernel) (aZ (K:=K) rfl (pv 2)) (aX @C) (λ_ _ _ _ _=>⟨(ax (i:=0) (show y' (["mask","machine","delay"]:C') from by decide +kernel) rfl @E),bK,(ao (qT T) ι T.tV T.gY (!j 1 (!j 2 (!j 0 ag))))⟩)))
  (ae (eZ (osc:=ah cv) (ON:=n19) (N:=["pair","tellings"]) (n:=1) (fx:=[3]) (i:=4) eP.nd rfl rfl rfl rfl rfl rfl (by decide +kernel) (tj (K:=K) rfl (be (K:=K) rfl (pv 0) rfl)) (aX @C) (λ_ _ _ _ _=>⟨(ax (i:=0) (show y' (["pair","tellings"]:C') from by decide +kernel) rfl @E),bK,(ao (nZ T) ι T.qe T.fH (!j 0 (!j 1 ag)))⟩))
  (ai (aC (pd T.vI (ir T) (ι.mono @C) (by rfl) T.qf T.bX.2 .nil gX (aa (dE (pv 0) T.aw T.cy (bU T) (ι.mono @C) T.aW.2 .nil gX) (aa (ar lR (pv 4) (ao (pC T) ι T.rF T.gv (!j 0 (!j 1 ag)))) (!j 3 ag))))))))),aB (σ':=[ak _,ak _,ak _,hB,hB]) rfl ?_⟩
 lia;intro D1 b0;refine bW (xs:=μs.map nat) (λi ys H'=>Cp (fun ε=>prs ε=(μs.take ε.length).map (M.tel @F (prs os) d)) H D1 i ys H') (uf b0 rfl) (λi ys H' _ ⟨_,_,_,_,_,s',_⟩=>SqL.of (s'.get eD)) (λi v ys H' hv c=>?_) (λys H1 c=>?_)
 ·obtain⟨ε,rfl,lq,pv,pt,s',τ⟩:=c;obtain⟨μ,ζ,rfl⟩:=aK hv;have hi:=(eH.mp ζ).1;lia;refine⟨p,m,nx,os,d,μ,rfl,ma.same s',g,a6,ld,θ,ο μ (hQ ζ),λt2 H2 ψ e2=>?_⟩;refine xN b0 lq pt s' τ ψ e2 @A ?_;show prs (ε++[_])=_;rw[show prs (ε++[(t2,(M.tel @F (prs os) d μ).1,(M.tel @F (prs os) d μ).2)])=prs ε++[M.tel @F (prs os) d μ] from hH ..,pv,hC,Kb,lq,take_succ ζ,hH];rfl
 obtain⟨χ,rfl,ρ,a3,a0,ω,e1⟩:=c;rw[dt] at ρ;have ξ:prs χ=M.telO @F (prs os) d μs:=by rw[a3,ρ,z9];rfl
 clear a3;lia;refine bc (ω.get ho) T.aw T.bE rfl ?_;refine⟨δ,rfl,⟨_,SqT.of (ω.get hn)⟩,?_⟩;intro α φ;refine oN (xs:=refs nx) (λi ys H'=>Cp (fun ε=>prs ε=((@F).take ε.length).map (M.fol (M.telO @F (prs os) d μs))) H1 α i ys H') (uf φ rfl) (λi ys H' _ ⟨_,_,_,_,_,s',_⟩=>SqT.of (s'.get (ω.get hn))) (λi v ys H' hv c=>?_) (λys H2 c=>?_)
 ·obtain⟨ε,rfl,lq,pv,pt,s',τ⟩:=c;obtain⟨r,β,rfl⟩:=aK hv;have hi:=(eH.mp β).1;have hm:=hQ β;have er:=(ω.trans s').get (ma.hn r hm);have c1:(@F)[i]? =ak r.2:=by rw[lz,β];rfl
  lia;refine⟨r.1,D1,r.2.1,r.2.2,χ,rfl,er,s'.get e1,λz hz=>s'.get (a0 z hz),@A,by rw[ρ,lμ];exact(g.bn r (qB _ hm)).2,λt3 H3 s3 e3=>?_⟩;rw[ξ] at e3;refine xN φ lq pt s' τ s3 e3 (by have:=g.ln;omega) ?_;show prs (ε++[_])=_;rw[show prs (ε++[(t3,(M.fol (M.telO @F (prs os) d μs) (r.2.1,r.2.2)).1,(M.fol (M.telO @F (prs os) d μs) (r.2.1,r.2.2)).2)])=prs ε++[M.fol (M.telO @F (prs os) d μs) r.2] from hH ..,pv,hC,Kb,lq,take_succ c1,hH];rfl
 obtain⟨Z,rfl,ν,a4,c0,ψ,e2⟩:=c;rw[dc] at ν;have c2:prs Z=(@F).map (M.fol (M.telO @F (prs os) d μs)):=by rw[a4,ν,N8 (OL (aq nx))]
 clear a4;have γ:=ω.trans ψ;lia;refine bJ (γ.get ho) rfl ?_;lia;refine⟨p,m,nx,os,rfl,ma.same γ,?_⟩;lia;refine⟨p,m,nx,os,d,rfl,ma.same γ,g,a6,ld,θ,λD3 H3 ks f3 s3 e3 b9 eK=>?_⟩;have a5:ks.length=d * os.length:=by rw[<-aq,eK,M.kpt_len,aq]
 lia;refine qP (s3.get e2) e3 (by rw[dc,dc,ν,a5,qq];omega) λD4 H4 f4 Y υ=>?_;rw[show refs Z++refs ks=refs (Z++ks) from(hH ..).symm] at υ
 have eN:prs (Z++ks)=M.telP @F (prs os) d μs:=by
  rw[show prs (Z++ks)=prs Z++prs ks from hH ..,c2,eK];rfl
 have lN:(Z++ks).length=nx.length + d * os.length:=by rw[hC,ν,a5]
 have η:=s3.trans Y;have b5:=γ.trans η
 have b3:∀q∈prs nx++prs os,q.1 < 2 ^ (@F).length:=λq hq=>by
  rw[aq];rcases oT.mp hq with h | h
  ·obtain⟨r,ι,rfl⟩:=oi.mp h;exact(g.bn r (qB _ ι)).1
  ·obtain⟨r,ι,rfl⟩:=oi.mp h;exact(g.bn r (nv _ ι)).1
 have π:∀μ∈μs,μ < 2 ^ ((d + 1) * (prs os).length):=by rw[aq];exact ο
 have tab:Tab H4 D4 D1 os.length (Z++ks) χ:=⟨lo,υ,(ψ.trans η).get e1,λz hz=>by
   rcases oT.mp hz with h | h
   ·exact η.get (c0 z h)
   ·exact Y.get (b9 z h),λz hz=>(ψ.trans η).get (a0 z hz),by rw[lN];omega,@A,λz hz=>by
   rw[lN];rcases oT.mp hz with h | h
   ·have:=M.telP_lt b3 π z.2 (by rw[<-eN];exact oi.mpr ⟨z,h,rfl⟩);rwa [aq,aq] at this
   ·have:=M.telO_lt b3 π z.2 (by rw[<-ξ];exact oi.mpr ⟨z,h,rfl⟩);rwa [aq,aq] at this⟩
 lia;intro x c3 H5 f5 s5 e5;refine⟨x,c3,D4,D1,os.length,Z++ks,χ,rfl,e5,tab.same s5,λH6 k6 O=>⟨rfl,?_⟩⟩;have b4:Same H4 H6:=λb ob e=>k6 _ _ (ay e f5) (s5.get e);exact q x H6 (Z++ks) χ (b5.trans b4) O tab.g eN ξ
end
section
variable {P:qc} {w:y3} {K:aS} {mg:F'} {base:Ke} {a:Ad}
local macro_rules | `(tactic| walk_at "l2step") =>`(tactic| first | ((with_reducible refine' d8 ?e ?_);(case e=>walk_at "l2kind")) | ((with_reducible refine' iA ?e ?_);(case e=>walk_at "l2kind")) | (with_reducible refine c9 ?_) | (with_reducible refine eV ?_))
theorem jW (T:Tx K mg a):FnOk P w K mg base CX0 11 a.d4 a.qp ["machine"] (yd a.aj):=by
 refine T.gi.1.okA cC λc1 A outer s H vs Q E hr h=>?_;obtain⟨p,m,nx,os,rfl,ma,g,a0,b5,qN,δ⟩:=h;have up:∀d,d<=nx.length->(d + 1) * os.length < 64:=λd h=>qE (LF _ @A) b5
 refine⟨_,((ae (au (i:=1) cC.nd rfl @E (ao (tF T) hr T.vh T.iL (!j 0 ag)))
  (ae (cI (aD FZ (pv 1) Es (aI _)) (ai (aC (pv 1))) aL)
  (ae (au (i:=2) cC.nd rfl @E (de ag))
  (ae (au (i:=3) cC.nd rfl @E af)
  (ae (au (i:=4) cC.nd rfl @E (ao (r6 T) hr T.vg T.ke (!j 0 (!j 3 ag))))
  (ae (lO y2 (aD kB (!A @G (pv 4) af) gC (aI _)) (ae (au (i:=2) cC.nd rfl @E (!A @G (pv 4) af))
  (ae (au (i:=3) cC.nd rfl @E (ar cx (pv 3) af))
  (ai (au (i:=4) cC.nd rfl @E (ao (r6 T) hr T.vg T.ke (!j 0 (!j 3 ag))))))))
  (ai (aC (fh (aa gC (!j 3 (aa (ao (lU T) hr T.nC T.dH (!j 0 (!j 3 (aa (!A @G (pv 4) af) ag)))) (!j 2 ag)))))))))))))),aB (σ':=[ak _,hB,hB,hB,hB]) rfl ?_⟩
 lia;refine⟨p,m,nx,os,rfl,ma,g,a0,λH1 bars ζ ψ fv h0=>?_,λH1 t B S I L u bars ζ π ls ψ τ=>?_⟩
 ·lia;intro α H2 f2 s2 e2;have γ:=ψ.trans s2;lia;refine⟨p,m,nx,os,0,rfl,ma.same γ,g,@A,up 0 @A,λt D H3 rs f3 ι et e3 sl=>?_,λt D H3 μs f3 ι et e3 mk no=>?_⟩
  all_goals lia
  all_goals refine⟨λk σ H'=>∃d,k=nx.length - d/\TbI H p nx os m d σ H',?_,?_⟩
  ·have:=Ek sl fv h0;rw[aq] at this;exact⟨_,0,rfl,α,t,D,[],rfl,@A,γ.trans ι,ψ.free f2,ι.get e2,.inl ⟨rfl,rfl⟩,λk h=>kv h (LO k),γ.free f3,.inl ⟨rs,et,e3,sl,this⟩⟩
  rotate_left
  ·exact⟨_,0,rfl,α,t,D,[],rfl,@A,γ.trans ι,ψ.free f2,ι.get e2,.inl ⟨rfl,rfl⟩,λk h=>kv h (LO k),γ.free f3,.inr ⟨μs,et,e3,mk,no⟩⟩
  all_goals
   clear γ ι et e3 f3 f2 e2 s2;rintro k σ Z ⟨d,rfl,Dr,ε,D4,a4,rfl,dl,Y,fr,er,b9,hy,f4,h⟩;rcases h with ⟨ρ,ν,υ,ξ,c0⟩ | ⟨O,ν,υ,ω,b0⟩
   ·lia;refine⟨fun σ' H'=>TbI H p nx os m (d + 1) σ' H',fun σ' H' h=>⟨nx.length - (d + 1),@A,d + 1,rfl,h⟩,?_⟩;lia;refine⟨p,m,nx,os,d + 1,rfl,ma.same Y,g,@A,up (d + 1) @A,λt5 D5 H5 a3 f5 η θ e5 φ=>?_,λt5 D5 H5 ο f5 η θ e5 b3 a6=>?_⟩
    ·lia;have:=Ek φ fv h0;rw[aq] at this;refine⟨D4,t5,D5,ρ,rfl,@A,Y.trans η,f4,η.get υ,.inr ⟨d,rfl,ξ⟩,λk hk=>?_,Y.free f5,.inl ⟨a3,θ,e5,φ,this⟩⟩;by_cases h:k < d
     ·exact hy k h
     ·rw[show k=d by omega];exact ξ.osm
    ·lia;refine⟨D4,t5,D5,ρ,rfl,@A,Y.trans η,f4,η.get υ,.inr ⟨d,rfl,ξ⟩,λk hk=>?_,Y.free f5,.inr ⟨ο,θ,e5,b3,a6⟩⟩;by_cases h:k < d
     ·exact hy k h
     ·rw[show k=d by omega];exact ξ.osm
   ·lia;refine⟨p,D4,m,nx,os,d,O,rfl,ma.same Y,g,a0,@A,up d dl,υ,ω,λx H5 a5 χ η b4 g5 eN eO=>?_⟩;lia;intro tt H6 β s6 e6;exact δ tt x Dr H6 d a5 χ O a4 fr ((Y.trans η).trans s6) e6 ((η.trans s6).get er) (b4.same s6) g5 eN eO ⟨ω,by rw[aq];exact dl,b0,hy,b9⟩
 ·lia;exact qN H1 t B S I L u bars ζ π ls ψ τ
end
local macro_rules | `(tactic| walk_at "l2step") =>`(tactic| first | ((with_reducible refine' qC ?e ?a ?_);(case e=>walk_at "l2hp");(case a=>walk_at "l2side")) | ((with_reducible refine' Gs ?a ?b ?_);(case a=>walk_at "l2side");(case b=>walk_at "l2side");(with_reducible intro _ _)))
section
variable {P:qc} {w:y3} {K:aS} {mg:F'} {base:Ke} {a:Ad}
local macro_rules | `(tactic| walk_at "l2step") =>`(tactic| first | ((with_reducible refine' d8 ?e ?_);(case e=>walk_at "l2kind")) | ((with_reducible refine' iA ?e ?_);(case e=>walk_at "l2kind")) | (with_reducible refine c9 ?_) | (with_reducible refine eV ?_))
local macro_rules | `(tactic| walk_at "l2step") =>`(tactic| first | ((with_reducible refine' qC ?e ?a ?_);(case e=>walk_at "l2hp");(case a=>walk_at "l2side")))
theorem Ih (T:Tx K mg a):FnOk P w K mg base CX0 13 a.yL a.IR ["_law_script"] (w4 K):=by
 refine T.Ea.okA nM λw3 A outer s H vs Q E hr h=>?_;obtain⟨p0,ns,rfl,hS,t3,q⟩:=h;have q5:=A6 hr;have h7:=FH hr
 refine⟨_,((ae (au (i:=1) nM.nd rfl @E (ao (pG T) hr T.rH T.gy (!j 0 (aa af (aa af ag)))))
  (ae (au (i:=2) nM.nd rfl @E (pd T.vI (ir T) (hr.mono @C) (by rfl) T.qf T.bX.2 .nil gX (aa (!A @G (pv 1) af) (aa (gD (g9 (K:=K) rfl) (by rfl) T.jE Kl (aa (!A @G (pv 1) af) ag)) (aa (gD (g9 (K:=K) rfl) (by rfl) T.jE Kl (aa (!A @G (pv 1) af) ag)) ag)))))
  (ae (au (i:=3) nM.nd rfl @E (ao (jW T) hr T.lH T.gi (!j 2 ag)))
  (ae (cI (PW.pt (iE (cS (cw (aF (dR (K:=K) rfl) (by rfl) T.bD z1 (!j 3 (aa (iQ (v:= .ty "tuple") (by rfl) T.tI MJ rfl) ag))))) (ij (aD (F0 (K:=K) rfl h7) (dE (pv 2) T.aw T.kI (jX T) (hr.mono @C) T.c5.2 .nil gX) (pv 1) (aI _))))) (ai (aC lg)) aL)
  (ae (cI (aD kB (!A @G (pv 3) af) gC (aI _)) (ae (eZ (osc:=ah vX) (ON:=["_law_script","_law_told","_law_machine_here","_law_found","_law_cells","_law_again","_law_some"]) (N:=["_law_k","_law_script"]) (n:=1) (fx:=[0]) (i:=4) nM.nd rfl rfl rfl rfl rfl rfl (by decide +kernel) (fg (by rfl) T.iS (aa (aF (BE rfl) (by rfl) T.JT PyProof.Rows.boot_max (aa af (aa (aF (BD rfl) (by rfl) T.JS PyProof.Rows.boot_min (aa (ar eJ (aF (bf (K:=K) rfl) (by rfl) T.i5 Kd (!j 0 ag)) af) (aa af ag))) ag))) ag)) (aX @C) (λ_ _ _ _ _=>⟨(ax (i:=0) (show y' (["_law_k","_law_script"]:C') from by decide +kernel) rfl @E),bK,(ao (nQ T) hr T.cJ T.bH (!j 1 (aa (ar cx af (pv 0)) ag)))⟩))
  (ae (cI (PW.pt (iE (aD nY (!A @G (pv 1) af) (aF (bf (K:=K) rfl) (by rfl) T.i5 Kd (aa (!A @G (pv 1) af) ag)) (aI _)) (ij (cS (cw (ao (i0 T) hr T.jF T.cV (!j 1 (!j 3 (!j 4 ag))))))))) (ai (aC lg)) aL)
  (ae (c6 (iZ (K:=K) rfl z5 Kq Kp dj (!A @G (pv 3) af) (aa af ag)))
  (ae (au (i:=5) nM.nd rfl @E (ao (jW T) hr T.lH T.gi (!j 2 ag)))
  (ai (aC (nP (il (AC (K:=K) rfl h7) (dW (vT (K:=K) rfl) (pv 5) gO (gN af)) (dW (vT (K:=K) rfl) (pv 3) gO (gN af)) (aI _)) (nP (ao (i0 T) hr T.jF T.cV (!j 1 (!j 5 (aa (dW (gT (K:=K) rfl) (pv 4) gO (gN af)) ag)))) (uQ (il (we (K:=K) rfl q5) (!A @G (pv 5) af) (dW (gT (K:=K) rfl) (!A @G (pv 3) af) gO (gN (Ax uB af))) (aI _))))))))))) aL)
  (ae (cI (PW.pt (iE (aD ph (!A @G (pv 3) af) gC (aI _)) (iE (aD kB (!A @G (pv 1) af) af (aI _)) (ij (cS (cw (ao (lX T) hr T.nH T.dJ (!j 1 (!j 3 ag))))))))) (ai (aC lg)) aL)
  (ae (eX y2 rfl (aZ (K:=K) rfl (de (aa (!A @G (pv 3) af) (aa (!A @G (pv 3) af) (aa (!A @G (pv 3) af) (aa (!A @G (pv 3) af) ag)))))) (ax (i:=6) nM.nd rfl @E) (ai (c6 (iZ (K:=K) rfl z5 Kq Kp dj (pv 6) (aa af ag)))))
  (ae (au (i:=5) nM.nd rfl @E (ao (jW T) hr T.lH T.gi (!j 2 ag)))
  (ai (aC (il (AC (K:=K) rfl h7) (pv 5) (ar (C0 (K:=K) rfl) (dW (vT (K:=K) rfl) (pv 3) gO (gN af)) (fh (aa (dW (gT (K:=K) rfl) (!A @G (pv 3) af) gO (gN (Ax uB af))) (aa (dW (gT (K:=K) rfl) (!A @G (pv 3) af) gO (gN (Ax uB af))) (aa (dW (gT (K:=K) rfl) (!A @G (pv 3) af) gO (gN (Ax uB af))) (aa (dW (gT (K:=K) rfl) (!A @G (pv 3) af) gO (gN (Ax uB af))) ag)))))) (aI _))))))))))))),aB (σ':=[ak _,hB,hB,hB,hB,hB,hB]) rfl ?_⟩
 lia;refine⟨p0,ns,0,5,rfl,hS,@C,@C,λt n o H1 m nx os s1 fn fo tt b5 c2=>?_⟩;have m5:=Same.seq s1 hS;have e0:=tt.t;have en:=tt.tab.n;have ψ:=tt.tab.o;have m6:=tt.tab.m6;lia;intro Dn H2 f2 s2 e2;have j2:=s2.get ψ;have t1:=s2.get e0;lia;intro Do H3 f3 s3 e3;lia;intro x dx H4 f4 s4 e4;have g5:=s3.trans s4;have e5:=s2.trans g5;refine⟨x,dx,Dn,Do,m,nx,os,rfl,e4,⟨m6,g5.get e2,s4.get e3,tt.tab.pn.same e5,tt.tab.po.same e5,tt.tab.ln,tt.tab.lo,tt.tab.bn⟩,λH5 k ma=>⟨rfl,?_⟩⟩;have h0:Same H1 H5:=λb ob e=>k b ob (ay (s3.get (s2.get e)) f4) (e5.get e);have π:=tt.same h0;have q9:=Same.seq h0 m5;have g:=π.tab.g;clear k h0 e5 g5 e4 s4 f4 e3 s3 f3 t1 j2 e2 s2 f2 ψ en e0 tt m5 s1 fn fo;lia;refine⟨x,m,nx,os,rfl,ma,g,b5,c2,λH6 f B S I L u bars a4 bq ls s6 τ=>?_,λf x7 D H6 d n5 n4 μs rs fD s6 ef eD p6 p5 r1 j2 bk=>?_⟩
 ·have et:=τ.ht;have O:=ma.same s6;obtain⟨dm,xn,xo,h9,_⟩:=O.ho;lia;refine bJ h9 rfl ?_;lia;refine⟨x,m,nx,os,rfl,O,g,λt2 D1 D2 H7 j1 j0 nd s7 e7 d1 c3=>?_⟩;have a0:=(π.same s6).same s7;have Y:=a0.t;have c1:=O.same s7;lia;refine CA (sZ e7 d1 c3 c1.hn c1.hs) (sZ Y a0.tab.n a0.tab.o a0.tab.pn a0.tab.po) (Bq _ _ _) ?_;rw[mj];clear e7 d1 c3 j1 j0 nd;have h3:=τ.same s7;have u6:=h3.ht
  have δ:¬(nat m=V.int 0):=λh=>by
   have e:m=0:=by have:=V.int.inj h;omega
   have h1:=τ.ul;rw[e] at h1;exact τ.u0 @A
  lia;dsimp only;rw[ov (by rw[Kc];exact δ)];lia;refine⟨t,n,o,m,nx,os,H5,f,B,S,I,L,u,bars,a4,bq,ls,rfl,a0,b5,h3,λH8 s8=>?_⟩;have b4:=h3.same s8;have u5:=b4.ht;lia;intro D9 ι f9 s9 e9;have b3:=b4.same s9;have c0:=s7.trans (s8.trans s9);obtain⟨ad,a5⟩:∃ad:K0,ad=[B,S,I,L]:=⟨_,rfl⟩;obtain⟨vl,hvl⟩:∃vl:gs (gs V),vl=[(M.pl 1000 bq).map nat,(a4.map (· % 2 ^ (@F).length)).map nat,(a4.map (·>>>(@F).length)).map nat,ls.map λq=>V.ref q.1]:=⟨_,rfl⟩;have m9:ad.Nodup:=by rw[a5];exact τ.ne
  have ξ:∀a∈ad,H5 a=none:=λa ha=>by
   rw[a5] at ha;simp only[qn,Ks,Lu] at ha;rcases ha with e | e | e | e
   ·rw[e];exact τ.fB
   ·rw[e];exact τ.fS
   ·rw[e];exact τ.fI
   ·rw[e];exact τ.fL
  have α:∀(k:Nat) (a:gn) (l:gs V),ad[k]? =ak a->vl[k]? =ak l->ι a=ak (.lst l):=λk a l ha hl=>by
   rw[a5] at ha;rw[hvl] at hl;rcases k with _ | _ | _ | _ | k
   ·have ha:=kf ha;have hl:=kf hl;subst ha hl;exact b3.hb
   ·have ha:=kf ha;have hl:=kf hl;subst ha hl;exact b3.hs
   ·have ha:=kf ha;have hl:=kf hl;subst ha hl;exact b3.hi
   ·have ha:=kf ha;have hl:=kf hl;subst ha hl;exact b3.hl
   ·simp at ha
  have l0:∀l∈vl,l.length<=1000:=λl hl=>by
   have lw:a4.length<=16:=by
    obtain⟨j,S,_⟩:=τ.fev.ex
    have hl:∀r∈a4.map (· % 2 ^ (prs nx).length),r < 2 ^ nx.length:=λr hr=>by
     obtain⟨x,_,rfl⟩:=oi.mp hr;rw[aq];exact Nu _ (lh _)
    have:=M.rank_le hl;rw[M.fr_inj S.w.inj,dt] at this;omega
   rw[hvl] at hl;simp only[qn,Ks,Lu] at hl;rcases hl with e | e | e | e
   ·rw[e,dt];exact M.pl_le 1000 bq
   ·rw[e,dt,dt];omega
   ·rw[e,dt,dt];omega
   ·rw[e,dt,τ.ll];omega
  have lad:ad.length=4:=by rw[a5];rfl
  have t7:vl.length=4:=by rw[hvl];rfl
  replace e9:ι D9=ak (.lst (ad.map V.ref)):=by rw[a5];exact e9
  have o3:D9∉ad:=λh=>by
   rw[a5] at h;simp only[qn,Ks,Lu] at h;rcases h with e | e | e | e
   ·have:=b4.hb;rw[<-e,f9] at this;cases this
   ·have:=b4.hs;rw[<-e,f9] at this;cases this
   ·have:=b4.hi;rw[<-e,f9] at this;cases this
   ·have:=b4.hl;rw[<-e,f9] at this;cases this
  lia;refine fu (xs:=ad.map V.ref) (λj σ H'=>∃v6,σ=[ak (V.ref p0),ak (V.ref t),ak (V.ref x),ak (V.ref f),hB,hB,v6]/\(∀b ob,b∉ad->ι b=ak ob->H' b=ak ob)/\∀k a l,ad[k]? =ak a->vl[k]? =ak l->H' a=ak (.lst (if k < j then l++[V.int 0] else l))) ⟨hB,rfl,λb ob _ h=>h,λk a l ha hl=>by rw[ov (LO k)];exact α k a l ha hl⟩ (λj σ H' _ ⟨_,_,k',_⟩=>SqL.of (k' _ _ o3 e9)) ?_ ?_
  ·rintro j y σ H' hy ⟨v6,rfl,k',a'⟩;obtain⟨b,hb,rfl⟩:=aK hy;have hj:=(eH.mp hb).1;have h6:vl[j]? =ak (vl[j]' @A):=fy @A;have m4:=a' j b _ hb h6;rw[ov (Lz j)] at m4;lia;refine gm m4 (by rw[qq];have:=l0 _ (hQ h6);omega) λw5 f5=>?_;lia;refine⟨λc ob hc h=>f5.oth _ _ (λe=>hc (by rw[e];exact hQ hb)) (k' c ob hc h),λk a l ha hl=>?_⟩;by_cases m3:k=j
   ·subst m3;rw[hb] at ha;rw[h6] at hl;cases ha;cases hl;rw[qb (LJ k)];exact f5.at'
   ·have q6:a≠b:=λe=>by
     subst e;have hk:=(eH.mp ha);have υ:=(eH.mp hb);rcases Rg m3 with h | h
     ·exact KG.mp m9 k j hk.1 υ.1 h (by rw[hk.2,υ.2])
     ·exact KG.mp m9 j k υ.1 hk.1 h (by rw[hk.2,υ.2])
    have:=f5.oth _ _ q6 (a' k a l ha hl);rw[this];by_cases m1:k < j
    ·rw[qb m1,qb @A]
    ·rw[ov m1,ov @A]
  ·rintro σ k6 ⟨v6,rfl,k',a'⟩;rw[dt,lad] at a';have e1:Same H5 k6:=λb ob e=>k' b ob (λh=>by rw[ξ b h] at e;cases e) ((s6.trans c0).get e);have h4:=ma.same e1;lia;refine⟨x,m,nx,os,rfl,h4,g,b5,c2,fun ε fA BA SA IA LA uA Z f1 ν q0 sA a3=>?_,λfB xB DB ε dB l6 l5 f0 n3 r0 sB φ j3 m0 l9 m8 m7 d2=>?_⟩
   ·obtain⟨rfl,rfl,rfl,r2⟩:=τ.again a3;have eA:=a3.ht
    have kA:∀k a l,ad[k]? =ak a->vl[k]? =ak l->ε a=ak (.lst (l++[V.int 0])):=λk a l ha hl=>by
     have:=a' k a l ha hl;rw[qb (by have:=(eH.mp ha).1;omega)] at this;exact sA.get this
    rw[a5,hvl] at kA;have eB:=kA 0 B _ rfl rfl;have eS:=kA 1 S _ rfl rfl;have eI:=kA 2 I _ rfl rfl;have eL:=kA 3 L _ rfl rfl
    have n7:f∉ad:=λh=>by
     obtain⟨k,hk,e⟩:=KW.mp h;have:=α k f vl[k] (by rw[fy hk,e]) (fy @A);rw[b3.ht] at this;cases this
    have a6:=sA.get (k' _ _ n7 b3.ht);have r3:∀q∈ls,ε q.1=ak (.lst ((M.pl 1000 q.2).map nat)):=λq hq=>sA.get (k' _ _ (by rw[a5];exact τ.nl q hq) (b3.el q hq));clear a' kA k' α;lia;refine Fs (SqT.of a6) (by show ¬(HT.sIx 6 0 hB=0/\HT.sIx 6 6 (ak 2)=6);decide) λp1 HC fC sC eC=>?_;replace eC:HC p1=ak (.tup [.str "never",nat u]):=eC;have v2:=sC.get a6;have v8:=sC.get eB;lia;intro q1 Ha fa sa ea;rw[my] at ea;have g0:=sC.trans sa;have v1:=g0.get a6;have v3:=g0.get eS;lia;intro q2 Hb fb sb eb;rw[my] at eb;have f8:=g0.trans sb;have v0:=f8.get a6;have v7:=f8.get eI;lia;intro q3 Hc fc sc ec;rw[my] at ec;have f7:=f8.trans sc;have u9:=f7.get a6;have v4:=f7.get eL;lia;intro q4 Hd fd sd ed;rw[my] at ed;have n2:=f7.trans sd;lia;intro p2 He fe se ee;refine Hx (SqT.of ((sa.trans (sb.trans (sc.trans (sd.trans se)))).get eC)) (SqT.of ee) @D @D (by rw[qq];show 2 + 4<=16777216;decide) λp3 Hf ff sf ef=>?_;have b0:=n2.trans (se.trans sf);have ρ:=se.trans sf;refine CA (uO (SqT.of (b0.get eA)) (b0.get a3.hb) (b0.get a3.hs) (b0.get a3.hi) (b0.get a3.hl) λq hq=>b0.get (a3.el q hq)) (uO (SqT.of ef) ((sb.trans (sc.trans (sd.trans ρ))).get ea) ((sc.trans (sd.trans ρ)).get eb) ((sd.trans ρ).get ec) (ρ.get ed) λq hq=>b0.get (r3 q hq)) (Br _ _ _ _ _) ?_;rw[r2,mj];exact q _
   ·exact KD (τ.no d2.mks (λq' θ=>by
     rw[show prs nx++prs os=prs (nx++os) from(hH ..).symm] at θ;obtain⟨r,β,rfl⟩:=oi.mp θ;rw[aq];exact(g.bn r β).1) (by
     have ω:=d2.le;rw[aq] at ω;rw[aq,aq];have:=LF os.length (show dB + 1<=nx.length + 1 by omega);omega) (by rw[aq];have:=g.lo;omega) @A)
 ·have O:=ma.same s6;obtain⟨dm,xn,xo,h9,_⟩:=O.ho;lia;refine bJ h9 rfl ?_;lia;refine⟨x,m,nx,os,rfl,O,g,λt2 D1 D2 H7 j1 j0 nd s7 e7 d1 c3=>?_⟩;have a0:=(π.same s6).same s7;have Y:=a0.t;have c1:=O.same s7;lia;refine CA (sZ e7 d1 c3 c1.hn c1.hs) (sZ Y a0.tab.n a0.tab.o a0.tab.pn a0.tab.po) (Bq _ _ _) ?_;rw[mj];clear e7 d1 c3 j1 j0 nd;have r7:=s7.get ef;have q8:=Same.seq s7 (Same.seq s6 q9)
  have hA:∀q∈prs nx++prs os,q.1 < 2 ^ (@F).length:=λq' θ=>by
   rw[show prs nx++prs os=prs (nx++os) from(hH ..).symm] at θ;obtain⟨r,β,rfl⟩:=oi.mp θ;rw[aq];exact(g.bn r β).1
  have m2:∀d,d<=nx.length->(@F).length + (d + 1) * (prs os).length<=1000:=λd hd=>by
   rw[aq,aq];have:=LF os.length (show d + 1<=nx.length + 1 by omega);omega
  have ω:=bk.le;rw[aq] at ω;have t9:m<=os.length:=by have:=M.few_ins bk.mks hA (m2 d ω) (by rw[aq];have:=g.lo;omega) @A;rw[aq] at this;exact this
  lia;refine⟨_,_,rfl,?_⟩;refine⟨_,_,rfl,?_⟩
  obtain⟨kc,q7,u2,u1⟩:∃kc:Nat,(if min ((((ns.map V.int).length:Nat):Int) - 5) 8 > 3 then min ((((ns.map V.int).length:Nat):Int) - 5) 8 else 3)=(kc:Int)/\3<=kc/\kc<=8:=by
   split
   ·exact⟨(min ((((ns.map V.int).length:Nat):Int) - 5) 8).toNat,@A,@A,@A⟩
   ·exact⟨3,rfl,@C,@C⟩
  refine⟨kc,by rw[q7],@A,@A,?_⟩;intro D8 e6;refine gc (λi ys H'=>Cs (λi ys=>∃cs:K3,ys=cs.map V.int/\cs.length=i) H7 D8 i ys H') (Cs.zero e6 ⟨[],rfl,rfl⟩) ?_ ?_
  ·rintro i ys H8 hi c;obtain⟨cs,χ,h5⟩:=c.pv;have u3:=Same.seq c.same q8;lia;refine Cs.put e6 c.same c.at' c.len @A ⟨cs++[_],by rw[χ,hH];rfl,by rw[hC,h5];rfl⟩
  ·rintro ys H8 c;obtain⟨cs,χ,h5⟩:=c.pv;have e8:=c.at';rw[χ] at e8;have s8:=c.same;clear c χ;have f6:=a0.same s8;have w2:=f6.t;have u7:=f6.tab.o;have r5:=s8.get r7;have g4:=s7.trans s8;lia;rw[dc];lia;dsimp only;rw[ov (by rw[Kc];omega)];lia;refine⟨t,n,o,m,nx,os,f,x7,D,d,n5,n4,μs,rs,D8,cs,rfl,f6,r5,g4.get eD,p6.same g4,p5,r1,j2,bk,b5,c2,e8,by rw[h5];omega,fun ι s9=>?_⟩;have c0:=g4.trans s9;have γ:=c0.get ef;have s0:=c0.get eD;lia;refine gm s0 (by rw[dt,bk.rws.1,qq];omega) λk6 ο=>?_;have e1:Same H5 k6:=λb ob e=>ο.oth _ _ (ay e fD) ((s6.trans c0).get e);have n0:=π.same e1;have h4:=ma.same e1;lia;refine⟨x,m,nx,os,rfl,h4,g,b5,c2,fun ε fA BA SA IA LA uA Z f1 ν q0 sA a3=>KD (a3.no bk.mks hA (m2 d ω) (by rw[aq];have:=g.lo;omega) @A),λfB xB DB ε dB l6 l5 f0 n3 r0 sB φ j3 m0 l9 m8 m7 d2=>?_⟩;obtain⟨rfl,rfl⟩:=bk.one d2;have o0:D≠f:=λz=>by rw[z,ef] at eD;cases eD
   have l7:D8≠D:=λz=>by rw[<-z] at eD;rw[s7.get eD] at e6;cases e6
   have a6:=sB.get (ο.oth _ _ o0.symm γ);have η:=sB.get ο.at';have s5:=sB.get (ο.oth _ _ l7 (s9.get e8));have l4:=n0.same sB;lia;refine Fs (SqT.of φ) (by show ¬(HT.sIx 4 0 hB=0/\HT.sIx 4 4 (ak 2)=4);decide) λp1 HC fC sC eC=>?_;replace eC:HC p1=ak (.tup [.str "back",nat d]):=eC;have r4:=sC.get a6;lia;refine Fs (SqT.of r4) (by show ¬(HT.sIx 4 0 hB=0/\HT.sIx 4 4 (ak 2)=4);decide) λp2 HD u4 sD j7=>?_;replace j7:HD p2=ak (.tup [.str "back",nat d]):=j7;refine CA (d:= .tup [.str "back",.int (d:Int)]) (e:= .tup [.str "back",.int (d:Int)]) (Rep.tup (SqT.of (sD.get eC)) rfl (c4 (Rep.str _) (c4 (Rep.int _) o7))) (Rep.tup (SqT.of j7) rfl (c4 (Rep.str _) (c4 (Rep.int _) o7))) (by simp[depD,kE]) ?_;rw[mj];have g3:=sC.trans sD;have t6:=l4.same g3;have w1:=g3.get s5;lia;intro p3 HE fE sE eE;rw[show(ak (1:Int))=ak ((1:Nat):Int) from rfl,oM _ _ (by rw[dt];omega),<-Nh] at eE;have b9:=g3.trans sE;lia;refine⟨t,n,o,m,nx,os,fB,xB,DB,d,l6,l5,f0,rs,p3,_,rfl,l4.same b9,b9.get φ,b9.get j3,m0.same b9,l9,m8,m7,d2,b5,c2,eE,by rw[Kt];omega,λHF sF=>?_⟩;have d3:=b9.trans sF;have u8:=d3.get φ;have ζ:=d3.get j3;have t4:=d3.get a6;have t5:=d3.get η;lia;intro p4 HG fG sG eG;rw[my] at eG;refine rS (SqL.of (sG.get ζ)) (SqL.of eG) ?_;exact q _
end
open PySem.W in
theorem all_mk {l:R7} {w:y3} {K:Frag} {h:Ke} {mg:F'} {fa:gn} (X:K.In h) (G:h.Ns La mg) (hfa:mg "law"=ak (.ref fa)){dG gG qj iz ix jt fW iy cM jv dq aN a9 aU bz aG bA a8 mC:gn}{qI:ia}{qH:K4}{qG:Nat}{qF:HB}{kJ:Tok}{qX rL:K4}{qJ:HB}{qY rD rJ qR kR rK:ia}{bB bb bC a7 bg cP bh qk iw jw ju cL bt dr b7 iu cK bP b8 bp d4 d6 fZ dw cb cf d5 fY d7 fX du bG cN cO bu:gn}{Ij IV:K4}{G1:HB}{Ik Ir IQ HR EH IS:ia}{yL aj:gn}(BP:NI K "Machine" aj){aV:gn}(Gx:NI K "Steps" aV)(y4:NI K "is_whole" dG)(yG:FR K "is_whole" "is_whole" mM dG)(BN:NI K "is_mask" gG)(AU:FR K "is_mask" "is_mask" o6 gG)(IY:NI K "even" qj)(Ip:FR K "even" "even" Af qj)(BO:NI K "bits_of" iz)(AV:FR K "bits_of" "bits_of" lL iz)(BL:NI K "mask_of" ix)(AR:FR K "mask_of" "mask_of" o4 ix)(DW:NI K "packed" jt)(C9:FR K "packed" "packed" sV jt)(yZ:NI K "unpacked" fW)(yF:FR K "unpacked" "unpacked" kj fW)(BM:NI K "is_pair" iy)(AS:FR K "is_pair" "is_pair" o5 iy)(uo:NI K "check_table" cM)(tO:FR K "check_table" "check_table" gU cM)(DY:NI K "is_odd" jv)(Dd:FR K "is_odd" "is_odd" sX jv)(vE:NI K "odd_places" dq)(uZ:FR K "odd_places" "odd_places" iF dq)(wV:FI K aj "__init__" aN)(l7:FR K "__init__" "Machine.__init__" eW aN)(zh:FI K aj "stores" a9)(ou:FR K "stores" "Machine.stores" gL a9)(xU:FI K aj "outputs" aU)(nu:FR K "outputs" "Machine.outputs" fT aU)(BY:FI K aj "told" bz)(rA:FR K "told" "Machine.told" iN bz)(uy:FI K aj "check_state" aG)(j0:FR K "check_state" "Machine.check_state" di aG)(BZ:FI K aj "step" bA)(rB:FR K "step" "Machine.step" iO bA)(zg:FI K aj "walked" a8)(ot:FR K "walked" "Machine.walked" gK a8)(B4:FI K aj "run" bB)(tR:K.lookup bB=ak ⟨qY,qX,.func (fnOf "run" "Machine.run" (gb dD) (dy dD) (ah dD) (.ref mC) rD rJ qR rL kR rK),qJ⟩)(rh:K.lookup mC=ak ⟨qI,qH,.seq #[.int 0 kJ] qG,qF⟩)(uh:codeIn K kR "Machine.run"=true)(lQ:keepIn K (.ref bB)=true)(zi:FI K aj "single" bb)(ox:FR K "single" "Machine.single" gM bb)(B0:FI K aj "back" bC)(rC:FR K "back" "Machine.back" iP bC)(zf:FI K aV "__init__" a7)(oq:FR K "__init__" "Steps.__init__" gJ a7)(zq:FI K aV "lowered" bg)(p5:FR K "lowered" "Steps.lowered" ie bg)(EZ:FI K aV "lay" cP)(wB:FR K "lay" "Steps.lay" k8 cP)(zr:FI K aV "barring" bh)(p6:FR K "barring" "Steps.barring" ig bh)(IZ:NI K "base" qk)(Iq:FR K "base" "base" Ah qk)(BK:NI K "sum_for" iw)(AQ:FR K "sum_for" "sum_for" oZ iw)(DZ:NI K "across" jw)(De:FR K "across" "across" oE jw)(DX:NI K "joined" ju)(Da:FR K "joined" "joined" sW ju)(um:NI K "silent_ways" cL)(tN:FR K "silent_ways" "silent_ways" cH cL)(nK:NI K "silent_for_ever" bt)(nk:FR K "silent_for_ever" "silent_for_ever" dC bt)(vF:NI K "never_told" dr)(u1:FR K "never_told" "never_told" cD dr)(rM:NI K "sign_answers" b7)(rj:FR K "sign_answers" "sign_answers" dO b7)(BJ:NI K "tellers" iu)(AO:FR K "tellers" "tellers" oY iu)(uk:NI K "teller_pair" cK)(tM:FR K "teller_pair" "teller_pair" eU cK)(qD:NI K "followed_pair" bP)(pZ:FR K "followed_pair" "followed_pair" h8 bP)(rN:NI K "kept_answers" b8)(rm:FR K "kept_answers" "kept_answers" dP b8)(nJ:NI K "telling_machine" bp)(nj:FR K "telling_machine" "telling_machine" cv bp)(wL:NI K "told_back" d4)(wu:FR K "told_back" "told_back" kX d4)(wN:NI K "_law_cell" d6)(wz:FR K "_law_cell" "_law_cell" k4 d6)(y9:NI K "_law_mix" fZ)(yJ:FR K "_law_mix" "_law_mix" mQ fZ)(vH:NI K "_law_masks" dw)(vb:FR K "_law_masks" "_law_masks" jU dw)(rO:NI K "_law_thinned" cb)(rp:FR K "_law_thinned" "_law_thinned" iM cb)(rP:NI K "_law_machine" cf)(rq:FR K "_law_machine" "_law_machine" cZ cf)(wM:NI K "_law_rows" d5)(wx:FR K "_law_rows" "_law_rows" kZ d5)(y8:NI K "_law_odd" fY)(yI:FR K "_law_odd" "_law_odd" mP fY)(wO:NI K "_law_bits" d7)(wA:FR K "_law_bits" "_law_bits" k7 d7)(y6:NI K "_law_run" fX)(yH:FR K "_law_run" "_law_run" mO fX)(vG:NI K "_law_whole" du)(va:FR K "_law_whole" "_law_whole" jT du)(oy:NI K "_law_back_good" bG)(om:FR K "_law_back_good" "_law_back_good" dU bG)(uq:NI K "_law_summed" cN)(tP:FR K "_law_summed" "_law_summed" jm cN)(ur:NI K "_law_places" cO)(tQ:FR K "_law_places" "_law_places" gW cO)(nL:NI K "_law_never_good" bu)(nr:FR K "_law_never_good" "_law_never_good" fQ bu)(J4:NI K "law" yL)(JV:K.lookup yL=ak ⟨Ik,Ij,.func (fnOf "law" "law" (gb vX) (dy vX) (ah vX) .none Ir IQ HR IV EH IS),G1⟩)(J1:codeIn K EH "law"=true)(JN:keepIn K (.ref yL)=true)(yc:isClsIn K aj=true)(yb:typeIn K (.ref aj)=ak (.type "type"))(ya:mroIn K aj (.ref aj)=ak true)(rX:plainGet K aj RD=true)(rW:hasDictIn K aj=true)(rV:plainOver K aj=true)(rT:findIn K (.ref aj) "__setattr__"=ak (ak (.builtin "object.__setattr__")))(yt:findIn K (.ref aj) "__class__"=ak (ak (.builtin "object.__class__")))(yr:mroIn K aj (.type "object")=ak true)(yP:makesIn K aj=true)(yO:FI K aj "__init__" aN)(yN:isFn K (.ref aN)=true)(yM:keepIn K (.ref aj)=true)(ng:FI K aj "stores" a9)(m8:isFn K (.ref a9)=true)(l6:FI K aj "outputs" aU)(l0:isFn K (.ref aU)=true)(pP:FI K aj "told" bz)(pL:isFn K (.ref bz)=true)(jO:FI K aj "check_state" aG)(jN:isFn K (.ref aG)=true)(pQ:FI K aj "step" bA)(pM:isFn K (.ref bA)=true)(nc:FI K aj "walked" a8)(mZ:isFn K (.ref a8)=true)(rg:FI K aj "run" bB)(rf:isFn K (.ref bB)=true)(nh:FI K aj "single" bb)(m9:isFn K (.ref bb)=true)(pR:FI K aj "back" bC)(pN:isFn K (.ref bC)=true)(n0:FN K aj "inputs")(pI:FN K aj "nexts")(q0:FN K aj "outs")(fV:mroIn K aj (.ref aj)=ak true)(CJ:plainGet K aV RD=true)(CH:hasDictIn K aV=true)(CG:plainOver K aV=true)(CF:findIn K (.ref aV) "__setattr__"=ak (ak (.builtin "object.__setattr__")))(DJ:makesIn K aV=true)(DI:FI K aV "__init__" a7)(DH:isFn K (.ref a7)=true)(DA:keepIn K (.ref aV)=true)(oh:FI K aV "lowered" bg)(oa:isFn K (.ref bg)=true)(uY:FI K aV "lay" cP)(uX:isFn K (.ref cP)=true)(oj:FI K aV "barring" bh)(og:isFn K (.ref bh)=true)(qZ:FN K aV "by_top")(lE:FN K aV "free_places")(lY:FN K aV "null_masks")(w1:specialIn K (.builtin "object.__class__") "__get__"=ak (ak (.builtin "getset_descriptor.__get__")))(w2:takesIn K (.builtin "object.__class__")=ak true){cU:gn}(BQ:NI K "BadMask" cU){hG:gn}(zb:NI K "BadTable" hG)(hX:excIn K cU [.type "ValueError",.type "Exception",.type "BaseException",.type "object"] "ValueError.__new__"=true)(eg:excIn K hG [.type "ValueError",.type "Exception",.type "BaseException",.type "object"] "ValueError.__new__"=true){jj:Tok}(uv:nsIn K La "MOST_INPUTS"=ak (ak (.int 6 jj))){kT:Tok}(wQ:nsIn K La "MOST_OUTS"=ak (ak (.int 6 kT))){ji:Tok}(uu:nsIn K La "MOST_STORES"=ak (ak (.int 120 ji)))(Jk:NN K "all")(GH:NN K "bool")(vJ:NN K "enumerate")(Jj:NN K "int")(ux:NN K "isinstance")(Ji:NN K "len")(GG:NN K "list")(Jh:NN K "max")(Jg:NN K "min")(ES:NN K "range")(Jf:NN K "set")(B3:NN K "sorted")(ER:NN K "tuple")(Je:NN K "zip"):∃fd:mu,(∀(s:ib) (v:ia),BindsTo s fd ⟨[v],[]⟩ [("_law_script",v)])/\∀base:Ke,K.In base->base.Ns La mg->FnOk l.prog w K mg base CX0 13 fa fd ["_law_script"] (w4 K):=by
 have e:=hfa.symm.trans (L8 X G J4);cases e;obtain⟨_,hU⟩:=yG.ok (ps:=["thing"]) (by walk_at "b");obtain⟨_,iB⟩:=AU.ok (ps:=["thing","width"]) (by walk_at "b");obtain⟨_,sJ⟩:=Ip.ok (ps:=["number"]) (by walk_at "b");obtain⟨_,iC⟩:=AV.ok (ps:=["mask"]) (by walk_at "b");obtain⟨_,kg⟩:=AR.ok (ps:=["places"]) (by walk_at "b");obtain⟨_,oO⟩:=C9.ok (ps:=["masks","width"]) (by walk_at "b");obtain⟨_,jc⟩:=yF.ok (ps:=["whole","width","count"]) (by walk_at "b");obtain⟨_,mE⟩:=AS.ok (ps:=["thing","stores","inputs"]) (by walk_at "b");obtain⟨_,gZ⟩:=tO.ok (ps:=["inputs","nexts","outs"]) (by walk_at "b");obtain⟨_,oP⟩:=Dd.ok (ps:=["pair","state","row"]) (by walk_at "b");obtain⟨_,gI⟩:=uZ.ok (ps:=["pairs","state","row"]) (by walk_at "b");obtain⟨_,bX⟩:=l7.ok (ps:=["self","inputs","nexts","outs"]) (by walk_at "b");obtain⟨_,aT⟩:=ou.ok (ps:=["self"]) (by walk_at "b");obtain⟨_,aW⟩:=nu.ok (ps:=["self"]) (by walk_at "b");obtain⟨_,c5⟩:=rA.ok (ps:=["self"]) (by walk_at "b");obtain⟨_,aQ⟩:=j0.ok (ps:=["self","state"]) (by walk_at "b");obtain⟨_,cj⟩:=rB.ok (ps:=["self","state","row"]) (by walk_at "b");obtain⟨_,cW⟩:=ot.ok (ps:=["self","rows","state"]) (by walk_at "b");have fK:=Gj (st:=dD) tR rh uh lQ;have b_Machine_run:=fK.binds (ps:=["self","rows","state"]) (ds:=[]) λ_ _ _ _ _ _ _ us hl=>match us,hl with | [_,_,_],_=>⟨_,rfl,rfl⟩
 have jB:=fK.binds (ps:=["self","rows","state"]) (ds:=[.int 0 kJ]) λ_ _ _ _ _ _ _ us hl=>match us,(show us.length=2 by simpa using hl) with | [_,_],_=>⟨_,rfl,rfl⟩
 obtain⟨_,cX⟩:=ox.ok (ps:=["self","which","turns"]) (by walk_at "b");obtain⟨_,ck⟩:=rC.ok (ps:=["self","mask"]) (by walk_at "b");obtain⟨_,bT⟩:=oq.ok (ps:=["self","rows"]) (by walk_at "b");obtain⟨_,cA⟩:=p5.ok (ps:=["self","mask"]) (by walk_at "b");obtain⟨_,iD⟩:=wB.ok (ps:=["self","place","row"]) (by walk_at "b");obtain⟨_,cB⟩:=p6.ok (ps:=["self","bit"]) (by walk_at "b");obtain⟨_,xT⟩:=Iq.ok (ps:=["rows"]) (by walk_at "b");obtain⟨_,je⟩:=AQ.ok (ps:=["rows","wish"]) (by walk_at "b");obtain⟨_,kz⟩:=De.ok (ps:=["rows","width"]) (by walk_at "b");obtain⟨_,mD⟩:=Da.ok (ps:=["pair","stores"]) (by walk_at "b");obtain⟨_,fz⟩:=tN.ok (ps:=["machine","bars"]) (by walk_at "b");obtain⟨_,dI⟩:=nk.ok (ps:=["machine"]) (by walk_at "b");obtain⟨_,iL⟩:=u1.ok (ps:=["machine"]) (by walk_at "b");obtain⟨_,gu⟩:=rj.ok (ps:=["machine","turns"]) (by walk_at "b");obtain⟨_,ke⟩:=AO.ok (ps:=["machine","delay"]) (by walk_at "b");obtain⟨_,gY⟩:=tM.ok (ps:=["machine","delay","mask"]) (by walk_at "b");obtain⟨_,fH⟩:=pZ.ok (ps:=["pair","tellings"]) (by walk_at "b");obtain⟨_,gv⟩:=rm.ok (ps:=["machine","delay"]) (by walk_at "b");obtain⟨_,dH⟩:=nj.ok (ps:=["machine","delay","masks"]) (by walk_at "b");obtain⟨_,gi⟩:=wu.ok (ps:=["machine"]) (by walk_at "b");obtain⟨_,bH⟩:=wz.ok (ps:=["_law_script","_law_k"]) (by walk_at "b");obtain⟨_,bS⟩:=yJ.ok (ps:=["_law_cell_here","_law_k"]) (by walk_at "b");obtain⟨_,cG⟩:=vb.ok (ps:=["_law_cell_here","_law_start","_law_many","_law_width","_law_digits"]) (by walk_at "b");obtain⟨_,gx⟩:=rp.ok (ps:=["_law_masks_here","_law_cell_here","_law_start","_law_way"]) (by walk_at "b");obtain⟨_,gy⟩:=rq.ok (ps:=["_law_script","_law_start","_law_most"]) (by walk_at "b");obtain⟨_,jA⟩:=wx.ok (ps:=["_law_cell_here","_law_many","_law_width"]) (by walk_at "b");obtain⟨_,jf⟩:=yI.ok (ps:=["_law_mask"]) (by walk_at "b");obtain⟨_,d9⟩:=wA.ok (ps:=["_law_pairs","_law_state","_law_row"]) (by walk_at "b");obtain⟨_,hV⟩:=yH.ok (ps:=["_law_told","_law_rows_here"]) (by walk_at "b");obtain⟨_,cF⟩:=va.ok (ps:=["_law_thing","_law_high"]) (by walk_at "b");obtain⟨_,cV⟩:=om.ok (ps:=["_law_told","_law_found","_law_cells"]) (by walk_at "b");obtain⟨_,g6⟩:=tP.ok (ps:=["_law_states","_law_places_here"]) (by walk_at "b");obtain⟨_,fJ⟩:=tQ.ok (ps:=["_law_some","_law_many"]) (by walk_at "b");obtain⟨_,dJ⟩:=nr.ok (ps:=["_law_told","_law_found"]) (by walk_at "b");have Ea:=EA (st:=vX) JV J1 JN;have b_law:=Ea.binds (ps:=["_law_script"]) λ_ _ _ _ _ _ us hl=>match us,hl with | [_],_=>rfl
 have T:Tx K mg ⟨dG,_,gG,_,qj,_,iz,_,ix,_,jt,_,fW,_,iy,_,cM,_,jv,_,dq,_,aN,_,a9,_,aU,_,bz,_,aG,_,bA,_,a8,_,bB,_,_,bb,_,bC,_,a7,_,bg,_,cP,_,bh,_,qk,_,iw,_,jw,_,ju,_,cL,_,bt,_,dr,_,b7,_,iu,_,cK,_,bP,_,b8,_,bp,_,d4,_,d6,_,fZ,_,dw,_,cb,_,cf,_,d5,_,fY,_,d7,_,fX,_,du,_,bG,_,cN,_,cO,_,bu,_,fa,_,aj,aV,cU,hG,_,_,_⟩:=⟨hU,L8 X G y4,iB,L8 X G BN,sJ,L8 X G IY,iC,L8 X G BO,kg,L8 X G BL,oO,L8 X G DW,jc,L8 X G yZ,mE,L8 X G BM,gZ,L8 X G uo,oP,L8 X G DY,gI,L8 X G vE,bX,aT,aW,c5,aQ,cj,cW,fK,jB,⟨_,rfl⟩,cX,ck,bT,cA,iD,cB,xT,L8 X G IZ,je,L8 X G BK,kz,L8 X G DZ,mD,L8 X G DX,fz,L8 X G um,dI,L8 X G nK,iL,L8 X G vF,gu,L8 X G rM,ke,L8 X G BJ,gY,L8 X G uk,fH,L8 X G qD,gv,L8 X G rN,dH,L8 X G nJ,gi,L8 X G wL,bH,L8 X G wN,bS,L8 X G y9,cG,L8 X G vH,gx,L8 X G rO,gy,L8 X G rP,jA,L8 X G wM,jf,L8 X G y8,d9,L8 X G wO,hV,L8 X G y6,cF,L8 X G vG,cV,L8 X G oy,g6,L8 X G uq,fJ,L8 X G ur,dJ,L8 X G nL,Ea,L8 X G BP,⟨rX,rW,rV,rT⟩,⟨⟨rX,rW,rV,rT⟩,yt,w1,w2,yr⟩,⟨yP,yO,yN,yM⟩,⟨ng,m8,aT.1.2⟩,⟨l6,l0,aW.1.2⟩,⟨pP,pL,c5.1.2⟩,⟨jO,jN,aQ.1.2⟩,⟨pQ,pM,cj.1.2⟩,⟨nc,mZ,cW.1.2⟩,⟨rg,rf,lQ⟩,⟨nh,m9,cX.1.2⟩,⟨pR,pN,ck.1.2⟩,n0,pI,q0,Iu yc yb fV ya,L8 X G Gx,⟨CJ,CH,CG,CF⟩,⟨DJ,DI,DH,DA⟩,⟨oh,oa,cA.1.2⟩,⟨uY,uX,iD.1.2⟩,⟨oj,og,cB.1.2⟩,qZ,lE,lY,L8 X G BQ,hX,L8 X G zb,eg,L8 X G uv,L8 X G wQ,L8 X G uu,LQ X G Jk,LQ X G GH,LQ X G vJ,LQ X G Jj,LQ X G ux,LQ X G Ji,LQ X G GG,LQ X G Jh,LQ X G Jg,LQ X G ES,LQ X G Jf,LQ X G B3,LQ X G ER,LQ X G Je⟩;exact⟨_,λs v=> .of_eq rfl,λbase _ _=>Ih T⟩
open PySem.W in
theorem walk {l:R7} {q:qc} {loose:C'} {XP:F'->Ke->Prop} {YP:y3->Ke->Prop} {d:DefRec} {K:Params->Frag} (hn:l.most=ak 63) (hdf:d.params.defaults=[])
  (hY:∀(w:y3) (h:Ke),YP w h->(K w.params).In h)
  (F:∀(w:y3) (mg:F') (fa:gn) (h:Ke),(K w.params).In h->h.Ns La mg->mg d.name=ak (.ref fa)->
   ∃fd:mu,(∀(s:ib) (u:ia),BindsTo s fd ⟨[u],[]⟩ [("_law_script",u)])/\∀base:Ke,(K w.params).In base->base.Ns La mg->FnOk l.prog w (K w.params) mg base CX0 13 fa fd ["_law_script"] (w4 (K w.params))):
  WalkO q loose XP YP l.row.toRowW d [] (λf vs=>QS f vs):=
 L2.walk_of (n:=63) (k:=13) (x:="_law_script") (CX:=λ_=>CX0) (sp:=λw=>w4 (K w.params)) hn @C hdf ⟨rfl,@C,@C⟩ hY F (λ_ _ a ns hl _ hS=>⟨a,ns,rfl,hS,hl,λ_=>rfl⟩) λ_ _ _ _ _ z=>z
end My
structure PySem.W.Fast:Prop where(tw10030110696162130177 tw10116832558059179385 tw10188535672523319221 tw10192049505096373849 tw10311721159314309491 tw10392232360596785291 tw1042015985831072755 tw10483371162265931177 tw10561644277841952121 tw10583401542906338716 tw10606011360526363666 tw10661798550245146566 tw10732482981275666820 tw10734094773424330857 tw10755042859992807003 tw10887233585836435489 tw10964369619193503046 tw10971511830150102124 tw10997941526026128200 tw11055614232017763321 tw11086263526480962714 tw11106957532396357543 tw11114785190024062656 tw11281839699238173002 tw11316958301198614732 tw11360169837244269047 tw11473829939723489778 tw11486235233501886303 tw11517327406608669729 tw116420037827797693 tw11853279134947891300 tw12112277832666849669 tw12139428997154148085 tw12163116110349437576 tw12249969789060024559 tw12262601873450698535 tw12453539699381676436 tw12456517503309836810 tw12480248079930112800 tw12551767185621457296 tw12587885529767313404 tw12666555317810657383 tw12707014453936037213 tw12784158418424289088 tw12824818739856332455 tw12873104036433315607 tw12927271843477586086 tw12954914999041654957 tw12956011184171838246 tw12983457479738637441 tw13008351804661306092 tw13106110573392980110 tw1334022729272816205 tw13429102888823658483 tw13449211177201926802 tw13492510185313999638 tw13571321904774619808 tw13587891643428101439 tw13707420605522718550 tw13752507711576039256 tw13785374517902234936 tw13787608202832353537 tw13832486112375076962 tw13848477911822213229 tw13873335811728781068 tw13912023372484601124 tw1393212960629945024 tw14110540972657712111 tw14115002882660146372 tw14129526429296134703 tw14320357868997423100 tw14388650859096745670 tw14427484128315470780 tw14471727612711473937 tw14639210377786074426 tw14644895735848987486 tw14675053434567850983 tw14704223336912773699 tw1473891506984319553 tw14814155003769700803 tw14823236837663153880 tw14861270141161344798 tw1493599834045874151 tw14991633761108494697 tw15012290276341368495 tw15018622606052565150 tw15085615816545466665 tw15108971725631913880 tw15188973416945543399 tw15207930358267999657 tw15322327048294681801 tw15384471191932197336 tw15388663568557117601 tw15401257477682429549 tw15443253040593485977 tw15552358839918826217 tw15568306836484751309 tw15591026593910402406 tw15593240796279000517 tw15594263638432140076 tw15594899695782918108 tw15603545880246214676 tw1561696704042442832 tw15642257395291084214 tw15714953177534524001 tw15753811737841088799 tw16136983511742876860 tw16150963872031374545 tw16188176052462725859 tw16193619131982055252 tw16228256535675092043 tw16240891896872463184 tw16270238212931750388 tw16323577725754720682 tw16399122641029290465 tw16417562841748139134 tw16500612903969320807 tw16521939829656921226 tw16595073324479351524 tw16798697276638870570 tw16805717657100747207 tw16807438571273826008 tw17000712306795180467 tw17003781228055788152 tw17142837728912011219 tw17294244042951213474 tw17311666881399463056 tw17335519997778829170 tw17463404723417042266 tw17477542548893948107 tw1749864355424136344 tw17561135053387089950 tw17590798099083347517 tw17736351760041916881 tw17796629511919109792 tw17824359872958820781 tw17839907663291809959 tw17949741019518045940 tw17959153759614278396 tw17963352951914930786 tw18015312896807475027 tw18284412472319530697 tw1836528525850259439 tw18382652692592574641 tw18416751206776054705 tw1844032750989204674 tw1857736706869047830 tw194449542829671048 tw2141712752031420674 tw2215212694782112764 tw2257693692626778795 tw2279265624205172996 tw2360923903031112775 tw2376936527876984121 tw2418231086824483247 tw2436080612476667878 tw244414226121729845 tw2515384750140093875 tw2632393702753319336 tw272520696350489298 tw2728524661380802855 tw2812934576244044372 tw2833880045119455356 tw2841955248675726280 tw2859349628163274685 tw2912123889186891003 tw2964180582670156443 tw2975932947119636575 tw2996395302346505248 tw3016258323258419747 tw3047733419478751015 tw30871496252412428 tw3095631726361787499 tw3151892632505591939 tw3286567818544604773 tw3302028322764288324 tw3421354564261630208 tw3470595607252934321 tw348625721723023413 tw3581766005483818514 tw3644552158261001249 tw3696050778244500073 tw3769541081099287042 tw3842328991448413432 tw3933660668785057561 tw4034441882544726380 tw4045200661780846509 tw407444886891731057 tw409329341902548557 tw4252335981438080044 tw4253515710780546657 tw4276934155137394342 tw430125241961773997 tw44046093563578608 tw448237107401119534 tw4492303004082146613 tw4599993323614659912 tw4747908959942828204 tw4766645231194268225 tw4782116973642199139 tw487449866860452215 tw488187170375224911 tw4885818997983074636 tw4930341944035255837 tw5090402439383929123 tw5121090403636501857 tw5136779773584329405 tw522306374635606565 tw5258184510952429133 tw5263378638225417569 tw5379062788972861391 tw5467990844450996384 tw5469980024699827861 tw5503589644715954725 tw5669795799629971979 tw5813271426684313477 tw5864135317608632635 tw5871638404064482862 tw5878738560399892998 tw5903733806079111777 tw5952458513892978192 tw5967889475675378203 tw607836990358564798 tw6095535641702862179 tw6131241303793340437 tw6149998020633805441 tw620732750150957759 tw6229813523627817358 tw6236193088522249767 tw6242879638473124333 tw6477326853247863714 tw6485784608336837194 tw6506169444250355507 tw6517637696881155810 tw6551230805921350359 tw6796555658958166523 tw6811352468210281017 tw6830769925515152154 tw6947785843193840311 tw6956983502907964237 tw6983666168210766681 tw704651159563061713 tw7071793864924237230 tw7286214369132252154 tw7289294853489624940 tw7345612798460834943 tw7398299283772870413 tw7425041858299241138 tw7429496047265969427 tw7434276244868106431 tw7451885688022592430 tw7484009870082607224 tw7675344257188351368 tw7726999988765353838 tw7728917423555566714 tw7805821078086105006 tw7813919914343026616 tw7887083420329407509 tw8003014342901781140 tw8064239642377122508 tw8150140732816902228 tw8182680118341948365 tw8215772775913479962 tw8259522103380923313 tw8369761726262131816 tw8418625151904210489 tw8432271516319585944 tw8542157284076096908 tw8615105419988648992 tw8658838112648701584 tw8676849372174117774 tw8762955287735034531 tw8770787265659025661 tw8773310658922577623 tw8919409993965525361 tw9013206033886099339 tw9083104296473468883 tw9088682603444643322 tw9095453266048334010 tw9174387781194632559 tw9501330141550886989 tw9540707042500216992 tw9646537548822752648 tw9656356250536202451 tw9669191863667990660 tw9674744451925253145 tw976166843473213435 tw983545647919458328 tw9862249446241736461 tw9897773038072184004:True)
open PySem PySem.W PyProof.Rows
set_option maxRecDepth 100000 in
set_option maxHeartbeats 0 in
theorem PySem.Challenge.cw_sumwires_k71_told_back_or_never_holds : PySem.Challenge.rw_sumwires_k71_told_back_or_never.Holds := by
 w_on;o_law;k_head;(case hw=>w_witness2)
 k_fill
 refine My.walk (l:=PySem.Challenge.rw_sumwires_k71_told_back_or_never) rfl rfl (λw h Y=>PySem.W.kIn_of Y) ?F
 case F=>
  intro w mg fa h KX G hmg;refine' My.all_mk KX G hmg _ _ _ _ _ _ _ _ _ _ _ _ _ _ _ _ _ _ _ _ _ _ _ _ _ _ _ _ _ _ _ _ _ _ _ _ _ _ _ _ _ _ _ _ _ _ _ _ _ _ _ _ _ _ _ _ _ _ _ _ _ _ _ _ _ _ _ _ _ _ _ _ _ _ _ _ _ _ _ _ _ _ _ _ _ _ _ _ _ _ _ _ _ _ _ _ _ _ _ _ _ _ _ _ _ _ _ _ _ _ _ _ _ _ _ _ _ _ _ _ _ _ _ _ _ _ _ _ _ _ _ _ _ _ _ _ _ _ _ _ _ _ _ _ _ _ _ _ _ _ _ _ _ _ _ _ _ _ _ _ _ _ _ _ _ _ _ _ _ _ _ ?hX ?eg _ _ _ _ _ _ _ _ _ _ _ _ _ _ _ _ _
  any_goals ((with_reducible show _=_);k_is)
  any_goals (refine' My.FR.mk ?u ?v ?w;(case u=>k_is);(case v=>k_is);(case w=>k_is))
  (case hX=>k_exc)
  (case eg=>k_exc)
