import PyProof.Rows.All
import Wide.FinOn
import Lean
import KE.KDictOf
import KE.KFromBytes
import KE.KIsAll
import KE.KItem
import KE.KItemsList
import KE.KRevIter
import PySem.Challenge.RW_sumwires_k72_delays_known
section
variable {α β γ δ ε ζ η θ ι : Sort _}{G:Prop}
theorem exx2{P:α→β→Prop}(h:∃a b,P a b)(k:∀a b,P a b→G):G:=h.elim fun a h=>Exists.elim h (k a)
theorem eyy2{P:α→β→Prop}(a:α)(b:β)(h:P a b):∃a b,P a b:=⟨a,b,h⟩
theorem exx3{P:α→β→γ→Prop}(h:∃a b c,P a b c)(k:∀a b c,P a b c→G):G:=h.elim fun a h=>exx2 h (k a)
theorem eyy3{P:α→β→γ→Prop}(a:α)(b:β)(c:γ)(h:P a b c):∃a b c,P a b c:=⟨a,b,c,h⟩
theorem exx4{P:α→β→γ→δ→Prop}(h:∃a b c d,P a b c d)(k:∀a b c d,P a b c d→G):G:=h.elim fun a h=>exx3 h (k a)
theorem eyy4{P:α→β→γ→δ→Prop}(a:α)(b:β)(c:γ)(d:δ)(h:P a b c d):∃a b c d,P a b c d:=⟨a,b,c,d,h⟩
theorem exx5{P:α→β→γ→δ→ε→Prop}(h:∃a b c d e,P a b c d e)(k:∀a b c d e,P a b c d e→G):G:=h.elim fun a h=>exx4 h (k a)
theorem eyy5{P:α→β→γ→δ→ε→Prop}(a:α)(b:β)(c:γ)(d:δ)(e:ε)(h:P a b c d e):∃a b c d e,P a b c d e:=⟨a,b,c,d,e,h⟩
theorem exx6{P:α→β→γ→δ→ε→ζ→Prop}(h:∃a b c d e f,P a b c d e f)(k:∀a b c d e f,P a b c d e f→G):G:=h.elim fun a h=>exx5 h (k a)
theorem eyy6{P:α→β→γ→δ→ε→ζ→Prop}(a:α)(b:β)(c:γ)(d:δ)(e:ε)(f:ζ)(h:P a b c d e f):∃a b c d e f,P a b c d e f:=⟨a,b,c,d,e,f,h⟩
theorem exx7{P:α→β→γ→δ→ε→ζ→η→Prop}(h:∃a b c d e f g,P a b c d e f g)(k:∀a b c d e f g,P a b c d e f g→G):G:=h.elim fun a h=>exx6 h (k a)
theorem eyy7{P:α→β→γ→δ→ε→ζ→η→Prop}(a:α)(b:β)(c:γ)(d:δ)(e:ε)(f:ζ)(g:η)(h:P a b c d e f g):∃a b c d e f g,P a b c d e f g:=⟨a,b,c,d,e,f,g,h⟩
theorem exx8{P:α→β→γ→δ→ε→ζ→η→θ→Prop}(h:∃a b c d e f g i,P a b c d e f g i)(k:∀a b c d e f g i,P a b c d e f g i→G):G:=h.elim fun a h=>exx7 h (k a)
theorem eyy8{P:α→β→γ→δ→ε→ζ→η→θ→Prop}(a:α)(b:β)(c:γ)(d:δ)(e:ε)(f:ζ)(g:η)(i:θ)(h:P a b c d e f g i):∃a b c d e f g i,P a b c d e f g i:=⟨a,b,c,d,e,f,g,i,h⟩
theorem exx9{P:α→β→γ→δ→ε→ζ→η→θ→ι→Prop}(h:∃a b c d e f g i j,P a b c d e f g i j)(k:∀a b c d e f g i j,P a b c d e f g i j→G):G:=h.elim fun a h=>exx8 h (k a)
theorem eyy9{P:α→β→γ→δ→ε→ζ→η→θ→ι→Prop}(a:α)(b:β)(c:γ)(d:δ)(e:ε)(f:ζ)(g:η)(i:θ)(j:ι)(h:P a b c d e f g i j):∃a b c d e f g i j,P a b c d e f g i j:=⟨a,b,c,d,e,f,g,i,j,h⟩
end
section
variable {G A B C D E F H I J K L M:Prop}
theorem axx3(h:A∧B∧C)(k:A→B→C→G):G:=k h.1 h.2.1 h.2.2
theorem ayy3(a:A)(b:B)(c:C):A∧B∧C:=⟨a,b,c⟩
theorem axx4(h:A∧B∧C∧D)(k:A→B→C→D→G):G:=axx3 h.2 (k h.1)
theorem ayy4(a:A)(b:B)(c:C)(d:D):A∧B∧C∧D:=⟨a,b,c,d⟩
theorem axx5(h:A∧B∧C∧D∧E)(k:A→B→C→D→E→G):G:=axx4 h.2 (k h.1)
theorem ayy5(a:A)(b:B)(c:C)(d:D)(e:E):A∧B∧C∧D∧E:=⟨a,b,c,d,e⟩
theorem axx6(h:A∧B∧C∧D∧E∧F)(k:A→B→C→D→E→F→G):G:=axx5 h.2 (k h.1)
theorem ayy6(a:A)(b:B)(c:C)(d:D)(e:E)(f:F):A∧B∧C∧D∧E∧F:=⟨a,b,c,d,e,f⟩
theorem axx7(h:A∧B∧C∧D∧E∧F∧H)(k:A→B→C→D→E→F→H→G):G:=axx6 h.2 (k h.1)
theorem ayy7(a:A)(b:B)(c:C)(d:D)(e:E)(f:F)(g:H):A∧B∧C∧D∧E∧F∧H:=⟨a,b,c,d,e,f,g⟩
theorem axx8(h:A∧B∧C∧D∧E∧F∧H∧I)(k:A→B→C→D→E→F→H→I→G):G:=axx7 h.2 (k h.1)
theorem ayy8(a:A)(b:B)(c:C)(d:D)(e:E)(f:F)(g:H)(i:I):A∧B∧C∧D∧E∧F∧H∧I:=⟨a,b,c,d,e,f,g,i⟩
theorem axx9(h:A∧B∧C∧D∧E∧F∧H∧I∧J)(k:A→B→C→D→E→F→H→I→J→G):G:=axx8 h.2 (k h.1)
theorem ayy9(a:A)(b:B)(c:C)(d:D)(e:E)(f:F)(g:H)(i:I)(j:J):A∧B∧C∧D∧E∧F∧H∧I∧J:=⟨a,b,c,d,e,f,g,i,j⟩
theorem axx10(h:A∧B∧C∧D∧E∧F∧H∧I∧J∧K)(k:A→B→C→D→E→F→H→I→J→K→G):G:=axx9 h.2 (k h.1)
theorem ayy10(a:A)(b:B)(c:C)(d:D)(e:E)(f:F)(g:H)(i:I)(j:J)(l:K):A∧B∧C∧D∧E∧F∧H∧I∧J∧K:=⟨a,b,c,d,e,f,g,i,j,l⟩
theorem axx11(h:A∧B∧C∧D∧E∧F∧H∧I∧J∧K∧L)(k:A→B→C→D→E→F→H→I→J→K→L→G):G:=axx10 h.2 (k h.1)
theorem ayy11(a:A)(b:B)(c:C)(d:D)(e:E)(f:F)(g:H)(i:I)(j:J)(l:K)(m:L):A∧B∧C∧D∧E∧F∧H∧I∧J∧K∧L:=⟨a,b,c,d,e,f,g,i,j,l,m⟩
theorem axx12(h:A∧B∧C∧D∧E∧F∧H∧I∧J∧K∧L∧M)(k:A→B→C→D→E→F→H→I→J→K→L→M→G):G:=axx11 h.2 (k h.1)
theorem ayy12(a:A)(b:B)(c:C)(d:D)(e:E)(f:F)(g:H)(i:I)(j:J)(l:K)(m:L)(n:M):A∧B∧C∧D∧E∧F∧H∧I∧J∧K∧L∧M:=⟨a,b,c,d,e,f,g,i,j,l,m,n⟩
end
open Lean in
local macro_rules
  | `(tactic| obtain ⟨$ps,*⟩ := $t:term) => do
    let ps := ps.getElems
    let n := ps.size
    if n < 3 then Macro.throwUnsupported
    -- what a pattern is bound to, and what is done behind
    let one (i : Nat) (p : TSyntax `Lean.Parser.Tactic.rcasesPatLo) : MacroM (TSyntax `term × Option (TSyntax `tactic)) := do
      let z := mkIdent (Name.mkSimple s!"zz{i}")
      match p with
      | `(Lean.Parser.Tactic.rcasesPatLo| $x:ident) => if x.getId == `rfl then return (z, some (← `(tactic| subst $z:term))) else return (x, none)
      | `(Lean.Parser.Tactic.rcasesPatLo| _) => return (← `(_), none)
      | `(Lean.Parser.Tactic.rcasesPatLo| $q:rcasesPatMed) => return (z, some (← `(tactic| obtain $q:rcasesPatMed := $z:term)))
      | _ => Macro.throwUnsupported
    let mut alts : Array (TSyntax ``Lean.Parser.Tactic.tacticSeq) := #[]
    let clr : TSyntax `tactic ← if t.raw.isIdent then `(tactic| try clear $(⟨t.raw⟩):ident) else `(tactic| skip)
    let w := mkIdent `ww
    for ex in [true, false] do
      for k in [0:n] do
        let i := if ex then n - 1 - k else n - k
        if i < 1 || i > (if ex then 9 else 12) || (!ex && i < 3) then continue
        let f := mkIdent (if ex then if i == 1 then `Exists.elim else Name.mkSimple s!"exx{i}" else Name.mkSimple s!"axx{i}")
        let m := if ex then i else if i == n then i else i - 1
        let mut bs : Array (TSyntax `term) := #[]
        let mut post : Array (TSyntax `tactic) := #[]
        for j in [0:m] do
          let (b, q) ← one j ps[j]!
          bs := bs.push b
          if let some q := q then post := post.push q
        if m < n then
          if m + 1 == n then
            let (b, q) ← one m ps[m]!
            bs := bs.push b
            if let some q := q then post := post.push q
          else
            bs := bs.push w
            let rest := ps.extract m n
            post := post.push (← `(tactic| obtain ⟨$rest,*⟩ := $w:term))
        alts := alts.push (← `(Lean.Parser.Tactic.tacticSeq| refine $f $t ?_; $clr:tactic; intro $bs*; $post;*))
    alts := alts.push (← `(Lean.Parser.Tactic.tacticSeq| rcases $t:term with ⟨$ps,*⟩))
    `(tactic| first $[| $alts]*)
open Lean in
local macro_rules
  | `(tactic| rintro $rs:rintroPat*) => do
    let mut out : Array (TSyntax `tactic) := #[]
    let mut any := false
    for r in rs do
      match r with
      | `(rintroPat| $x:ident) => if x.getId == `rfl then out := out.push (← `(tactic| (intro zz; subst zz))) else out := out.push (← `(tactic| intro $x:ident))
      | `(rintroPat| _) => out := out.push (← `(tactic| intro _))
      | `(rintroPat| ⟨$ps,*⟩) =>
        if ps.getElems.size ≥ 3 then any := true
        out := out.push (← `(tactic| (intro zz; obtain ⟨$ps,*⟩ := zz)))
      | _ => Macro.throwUnsupported
    if !any then Macro.throwUnsupported
    `(tactic| ($[$out:tactic];*))
open Lean in
local macro_rules
  | `(tactic| refine ⟨$xs,*⟩) => do
    let xs := xs.getElems
    let n := xs.size
    if n < 4 then Macro.throwUnsupported
    let mut alts : Array (TSyntax ``Lean.Parser.Tactic.tacticSeq) := #[]
    for k in [0:n] do
      let i := n - 1 - k
      if i > 9 then continue
      let ws := xs.extract 0 i
      let rs := xs.extract i n
      let m := n - i
      let cs : List (TSyntax `term) ← if m == 1 then pure [rs[0]!] else if m == 2 || m > 12 then pure [← `(⟨$rs,*⟩)] else pure [← `($(mkIdent (Name.mkSimple s!"ayy{m}")) $rs*), ← `(⟨$rs,*⟩)]
      for c in cs do
        if i == 0 then
          if m > 2 then alts := alts.push (← `(Lean.Parser.Tactic.tacticSeq| refine ($c)))
        else if i == 1 then alts := alts.push (← `(Lean.Parser.Tactic.tacticSeq| refine Exists.intro $(ws[0]!) $c))
        else alts := alts.push (← `(Lean.Parser.Tactic.tacticSeq| refine $(mkIdent (Name.mkSimple s!"eyy{i}")) $ws* $c))
    alts := alts.push (← `(Lean.Parser.Tactic.tacticSeq| refine (⟨$xs,*⟩)))
    `(tactic| first $[| $alts]*)
  | `(tactic| exact ⟨$xs,*⟩) => do
    let xs := xs.getElems
    if xs.size < 4 then Macro.throwUnsupported
    `(tactic| (refine ⟨$xs,*⟩))
open Option renaming some→ak,map_eq_some_iff→KD,isSome_map→Oi,getD_some→PD,getD_none→PF
open PySem.W renaming Frag→bp,findIn→z0,mg_of→Kc,fnOf→Kt,keepIn→Ku,mroIn→KH,emptyDict→KQ,instObj→Ld,mg_none_of→Lh,specialIn→LO,codeIn→LW,callWith_K→MS,plainGet→N7,isClsIn→Nf,methodCall_KW→Ng,lookIn→Nw,kitOne→Nx,plainGet_of→NL,excIn→NO,isFn→O5,methodObj→O6,hasDictIn→O7,handedIn→Oc,takesIn→Oq,takerIn→Ot,typeIn→OG,cellsFrom_some→P3,plainOver→PP,readsIn→Q6,makesIn→Q7,findCls→Q8,OpenLaw→Qe,nsIn→QH
open List renaming length_map→cY,getElem?_eq_some_iff→dt,getD_eq_getElem?_getD→eh,replicate→eH,getElem?_eq_getElem→gs,length_append→gw,map_append→gA,mem_singleton→hC,mem_of_getElem?→hR,getElem?_map→ic,mem_cons_self→iv,mem_cons_of_mem→lA,range→lB,mem_map→ov,mem_append_right→oD,mem_append→px,length_replicate→qq,getElem?_append_right→qE,getElem?_append_left→qM,mem_append_left→ro,mem_cons→rz,length_range→u2,size_toArray→u9,length_cons→ub,Nodup→vr,take_length→vu,length_singleton→y2,mem_range→zx,not_mem_nil→JV,length_take→JW,eq_of_mem_replicate→K5,map_cons→Ka,range_succ→Kj,mem_iff_getElem→Kn,append_nil→Kp,pairwise_iff_getElem→Kq,map_map→Ks,mem_filter→KB,foldl_append→KN,filter_append→KO,getElem_mem→KU,replicate_succ→KW,getElem?_eq_none→L7,foldl_cons→La,map_congr_left→Lb,getElem?_range→Lc,getElem?_replicate→Le,zipWith→Lk,take_add_one→Lo,take_of_length_le→Lp,filter_cons→LH,append_assoc→LM,map_singleton→LS,length_set→M6,filterMap_cons→M9,pairwise_cons→Me,getElem?_set_ne→Mf,getElem?_of_mem→Mg,length_drop→Ml,getElem?_set_self→Mo,map_take→Mx,pairwise_map→MB,getElem_take→MD,flatten_cons→ME,nodup_cons→MI,find?_cons→MJ,lookup→MK,length→ML,eq_nil_of_length_eq_zero→MN,lookup_cons→MO,all_eq_true→MQ,nodup_append→MX,nodup_range→N9,getElem_map→Na,pairwise_lt_range→Nq,forIn_cons→ND,mem_iff_getElem?→NJ,length_filter_le→NK,mem_of_mem_take→NS,length_eraseIdx→NT,ext_getElem→O1,take_succ_cons→O2,foldl_nil→O3,mem_filterMap→Oa,findIdx?_eq_some_iff_getElem→Oe,of_mem_zip→Oh,take_sublist→Oj,ext_getElem?→Ol,take_append_of_le_length→OL,map_nil→OW,mem_or_eq_of_mem_set→P4,getElem?_eq_none_iff→P5,findIdx?_eq_none_iff→P6,map_drop→Pc,any_cons→Pd,length_erase_of_mem→Pj,getElem?_cons_succ→Pn,range_succ_eq_map→Pr,getElem_replicate→Pt,getElem_cons_succ→Pu,map_set→PM,reverse_reverse→PR,pairwise_append→PU,mem_of_mem_drop→PV,foldl→Q4,count→Q5,getElem_range→Q9,getElem?_drop→Qa,reverse_cons→Ql,getElem_drop→Qm,map_id→Qo,zipIdx_cons→Qw,take_append→Qx,zipIdx_nil→QK,length_nil→QL,take_zero→QU,take_left→QV,forIn_nil→QW,drop_zero→QX,map_id'→Ri
open PySem renaming wpAny_bind→ew,Addr→fy,wpAny_pure→hH,Value→hJ,Shared→ib,FuncData→oe,wpAny→oi,sizeLine→qb,Program→qc,model→qA,starEach→qQ,sizeLine_eq→ri,World→u7,boot_len→u',Heap→z1,Around→z3,Expr→z8,Str→J9,wpAny_field→Kd,mem_of_lookup→Kg,mainGlobals→Kl,Value→Ko,wpAny_call_entry→Lg,codeAny_builtin→Lu,wpAny_truthy_bool→Lv,wpAny_pyIter_enum→Lw,wpAny_newObj_type→Lx,Scope→LG,wpAny_setField→LI,wpAny_seqItems→LJ,wpAny_mono→LQ,Spec→LZ,wpAny_passesOwn→L',wpAny_holding→M3,wpAny_pyIter_list→M8,Stmt→Mp,wpAny_setField_rec→Mr,wpAny_Call_Name_kw→Ms,wpAny_callSpecial?_slot→MF,codeAny_mono→MH,wpAny_pyIter_zip→MR,wpAny_loadPart'→MZ,wpAny_pyIter_tuple→Nb,tupleKind_room_in1→Nc,wpAny_setState_of→Nl,wpAny_nextOf_list_item→NU,wpAny_execs_nil→O0,Str→On,wpAny_onRaise→OA,wpAny_newList→OB,wpAny_rule→OE,call_meets→OF,Addr→OM,wpAny_isInstance→OZ,wpAny_execs_cons→P1,wpAny_askSetting→P2,Obj→P8,Within→Pk,Shared→Pl,wpAny_call→Px,intKind_is→Py,wpAny_runValue→Pz,isSubtype_type→PB,wpAny_standAt→PY,signature?_of→PZ,call→Q0,wpAny_comprehension_free→Q2,seqIndex_neg→Qf,wpAny_isTrue_Compare1→Qq,builtinLookup_eq_fast→Qr,wpAny_of_eq→QB,wpAny_letGo→QC,seqIndex_of→QD,layNew_perm→QE,wpAny_setEntries_of→QO,call_enumerate_list→QP,wpAny_load→R1,wpAny_Name→R3,typeIs_int→R4,wpAny_pyIter_slot→Rb,wpAny_assign_Name→Rc
open Nat renaming lt_of_lt_of_le→fb,pow_le_pow_right→gn,eq_of_testBit_eq→ka,two_pow_pos→kb,testBit_lt_two_pow→lT,testBit_two_pow→pY,le_refl→ru,testBit_xor→rv,shiftRight_eq_div_pow→so,lt_of_le_of_lt→v',pow_lt_pow_right→xv,testBit_shiftLeft→yv,zero_testBit→z5,not_lt_zero→J6,testBit_mod_two_pow→J7,ne_of_lt→JU,testBit_and→K4,xor_assoc→Ke,shiftLeft_eq→Kf,and_comm→Km,mod_two_eq_zero_or_one→Kz,le_of_lt→KA,xor_zero→KJ,and_two_pow_sub_one_eq_mod→KL,testBit_shiftRight→KM,zero_and→KR,and_zero→KS,lt_irrefl→KY,zero_le→L0,lt_succ_self→L1,and_le_right→L3,le_trans→L9,lt_pow_two_of_testBit→Lj,testBit_two_pow_self→Lr,sub_self→Lz,ne_of_gt→LB,mul_le_mul_right→LC,add_mul→LK,lt_log2_self→LL,lt_trichotomy→LU,lt_succ_of_lt→LV,xor_self→M4,mul_le_mul→M5,min_eq_left→M7,one_mul→Mb,and_xor_distrib_right→Mc,mod_lt→Mj,le_mul_of_pos_left→Mt,testBit_eq_decide_div_mod_eq→Mu,pow_add→Mw,add_comm→Mz,testBit_zero→MA,mod_eq_of_lt→MC,div_add_mod→MP,testBit_div_two→MT,two_pow_add_eq_or_of_lt→MW,zero_shiftLeft→M',xor_lt_two_pow→N0,xor_comm→N4,exists_eq_add_of_le→Nh,add_sub_cancel_left→Ni,pow_succ→Nj,le_succ→NB,testBit_or→NC,strongRecOn→NF,div_lt_iff_lt_mul→NM,div_lt_of_lt_mul→NV,zero_xor→NX,succ_mul→NY,mul_le_mul_left→O8,or_lt_two_pow→Ou,zero_mul→Ov,mul_comm→Ox,le_of_eq→Oy,add_zero→Oz,le_of_not_lt→OH,and_le_left→OQ,mul_lt_mul_of_pos_right→OT,log2_lt→OX,zero_mod→P9,zero_add→Pa,mul_succ→Pb,pow_le_pow_iff_right→Pm,le_of_ble_eq_true→PQ,or_comm→Q1,lt_or_eq_of_le→Qj,and_one_is_mod→Qk,shiftLeft_add→Qu,one_shiftLeft→Qv,lt_of_not_le→QI,log2_self_le→QJ,le_antisymm→QS,add_mod_mod→QT
open _root_ renaming List→f',decide_eq_false→ia,absurd→kf,decide_eq_true→lh,if_neg→oT,if_pos→pT,Option→sh,decide_eq_true_iff→t4,congrArg→y3,beq_eq_false_iff_ne→J8,Bool→JY,String→Kr,Array→Kw,beq_self_eq_true→Ky,or_false→L5,beq_iff_eq→LR,of_decide_eq_true→Nn,if_true→Og,decide_eq_true_eq→OP
open PySem.Heap renaming get?_push_of_some→gB,lt_size→hF,get?_push_size→pB,get?_update_self→KF,size_push→KP,SameBut→Ll,get?_update_other→LF,IsList→PN,get?_none_of_le→PX
open Array renaming length_toList→hE,getElem?_toList→JZ,getElem?_eq_getElem→KC,getElem?_eq_some_iff→M0,toList_filterMap→Mm,getElem?_eq_none→Mn,toList_push→N5,getD→O4,size_push→OI,replicate→Qz,toList→Ra
open Bool renaming false_ne_true→kv,true_and→z7,xor_false→za,false_and→zt,and_eq_true→Kb,false_xor→Kk,eq_iff_iff→Li,and_false→NR,noConfusion→OC,false_eq_true→Qd,eq_false_iff→Qn,not_eq_true→Qy,or_eq_true→QM,xor_assoc→QZ,false_or→R9
open Int renaming toNat_natCast→lS,zero_add→Lm,eq_ofNat_of_zero_le→Ly,one_mul→LD,natCast_nonneg→Mh,emod_lt_of_pos→N1,emod_nonneg→NH,toNat→NZ,natAbs_natCast→Od,fdiv_eq_ediv_of_nonneg→P7
open Option.some renaming inj→mu
open PySem.PassesOwn renaming never→ry
open PySem.F renaming plainAttrs_list→sx,type_list_append→wh,slot_list_append→wq,type_int_bit_length→K0,slot_int_bit_length→K3,excBase_ValueError→K6,plainAttrs_int→Kv,type_list_extend→N2,slot_list_extend→N3
open PySem.Builtin.Int renaming intBits→vl
open PyProof.Rows renaming boot_isinstance→wY,boot_list→zv,callWith_type1→JX,boot_tuple→MU,boot_max→N6,boot_bool→OD,boot_zip→OJ,boot_int→OK,subscriptTail_builtinR→Qh,Call_→QA,entry_proto_collect'→QG,Subscript_→R5
open PySem.Value renaming ref→z2,none→KG,type→Md,int→Om,str→Pe,bool→P',isStrOf→QQ,isInt→Rf,float→Rg,bytes→Rh
open PySem.Builtin.SmallTypes renaming nextOf→JT,ownedTupleIsFree→KI,ownedTupleHandOut→MY
open False renaming elim→K8
open PySem.Heap.SameBut renaming update→K9
open PySem.NameKind renaming free→Kh,cell→Mq
open Sum renaming inl→Ki,inr→Nu
open PySem.Builtin renaming bitNot→KZ,bitAnd→K',bitXor→Ny,bitOr→NQ
open Classical renaming byContradiction→L6,propDecidable→Ln,epsilon→Pw
open PySem.Obj renaming data_mapFields→L8,mapFields→Lq,isFreed_of_fields→MG,cls_mapFields→N8,mapSeq→Nv,putSet→Qg
open Ne renaming symm→Lf
open PySem.WalksT renaming enumerateD→LP,zip2→R6
open PySem.Around renaming under_plainId→LX,under→Pf
open PySem.Builtin.List renaming listTooLong→LY,listLengthHint→O9
open ForInStep renaming yield→Ma
open List.Pairwise renaming filter→Mi,imp_of_mem→Of,imp→OU
open Nat.succ renaming inj→MM
open PySem.Str renaming ofString→MV,empty→QF
open Or renaming inl→Nd,inr→Nz
open True renaming intro→Nk
open PySem.SetTable renaming fresh→Np,orStandIn→Pq,freeSlot→PJ,fits→Qi,put→Qt
open PySem.EntryCells renaming newEntry→Nr
open Int.ofNat renaming inj→NG
open PySem.Heap.IsList renaming push→NW
open PySem.Code renaming quiet_builtin→Ob,isFrame→Pp
open PySem.Shared renaming heap→Oo
open PySem.pickOrder renaming go→OO
open PySem.Calls renaming Name_function_global→OR,call_function_entry→OV,callWith_builtin→Po,evalArgs_plain→PL,spliced_cons→Q3,spliced_nil→Qc
open PySem.Paired renaming length→OS,snoc→R8
open Except renaming ok→OY,error→QY
open PySem.SeqAt.EqAt renaming str_int→Pg,int_str→Ph
open List.cons renaming inj→Qb
open Iff renaming rfl→Qp
open PySem.Flow renaming ret→QN
open Sum.inl renaming inj→QR
open PySem.W.WShape renaming has→Re
abbrev A':=f' (Nat×Nat)
abbrev C':=f' On
abbrev D8:=f' Nat
abbrev D9:=Ko->Pl->Prop
abbrev Dc:=f' (OM×PySem.Obj)
abbrev E':=f' Ko
abbrev F':=On->sh Ko
abbrev G':=Kw Ko
abbrev Hx:=Kw (sh Ko)
abbrev Hy:=Unit->Pl->Prop
abbrev I4:=f' OM
abbrev I9:=f' Int
abbrev J0:=sh OM
abbrev J1:=On->JY
abbrev J2:=PySem.Result->Pl->Prop
abbrev J3:=f' (On×OM)
abbrev J4:=f' (On×Ko)
abbrev J5:=sh Ko
set_option Elab.async false
set_option hygiene false in
local macro_rules
|`(@A)=>`((by omega))
|`(@D)=>`((by walk_at "o"))
|`(@C)=>`((by decide))
|`(@F)=>`((by simp))
|`(@E)=>`((prs nx))
|`(@H)=>`((az (K:=K) rfl))
|`(@G)=>`((prs os))
set_option hygiene false in
local macro_rules
|`(!A $a $b $c)=>`((aI $a $b $c (λ_ _=>rfl)))
|`(!j $a $b)=>`((aa (pv $a) $b))
local macro_rules | `(tactic| lia) => `(tactic| walk_at "l2")
set_option linter.all false
set_option maxRecDepth 100000
namespace L2
open PySem PySem.Spec PyProof.Rows
noncomputable abbrev Key:=Sum Int J9
noncomputable def uD:Key->hJ->JY
 | .inl k,v=>Rf k v
 | .inr x,v=>QQ x v
noncomputable def keyH (w:u7):Key->Int
 | .inl k=>hashInt k
 | .inr x=>hashStr w x
theorem b3:∀{k:Key} {v:hJ},uD k v=true->(∃i t,k=Ki i/\v=Om i t)∨(∃x t,k=Nu x/\v=Pe x t)
 | .inl i,v,h=>by
   obtain⟨t,e⟩:=Value.isInt_shape (k:=i) (v:=v) h;exact .inl ⟨i,t,rfl,e⟩
 | .inr x,v,h=>by
   obtain⟨t,e⟩:=Value.isStrOf_shape (x:=x) (v:=v) h;exact .inr ⟨x,t,rfl,e⟩
theorem AO (i:Int) (t:Tok):uD (.inl i) (.int i t)=true:=by simp[uD,Rf]
theorem AN (x:J9) (t:Tok):uD (.inr x) (.str x t)=true:=by simp[uD,QQ]
theorem Ik (a b:Int):decide ((Ki a:Key)=Ki b)=(a == b):=by
 by_cases e:a=b
 ·subst e;simp
 ·have h:¬(Ki a:Key)=Ki b:=λq=>e (QR q);rw[ia h];exact(J8.mpr e).symm
theorem Ih (a b:J9):decide ((Nu a:Key)=Nu b)=decide (a=b):=by
 by_cases e:a=b
 ·subst e;simp
 ·have h:¬(Nu a:Key)=Nu b:=λq=>e (Sum.inr.inj q);rw[ia h,ia e]
theorem Ij (a:Int) (b:J9):decide ((Ki a:Key)=Nu b)=false:=ia (λq=>nomatch q)
theorem Ii (a:J9) (b:Int):decide ((Nu a:Key)=Ki b)=false:=ia (λq=>nomatch q)
noncomputable def dc (prog:qc) (w:u7):PySem.KeyKind prog w Key where
 is:=uD
 hash:=keyH w
 inj:=λv a b ha hb=>by
  rcases b3 ha with ⟨i,t,rfl,rfl⟩ | ⟨x,t,rfl,rfl⟩
  ·rcases b3 hb with ⟨j,u,rfl,e⟩ | ⟨y,u,rfl,e⟩
   ·injection e with O _;rw[O]
   ·exact nomatch e
  ·rcases b3 hb with ⟨j,u,rfl,e⟩ | ⟨y,u,rfl,e⟩
   ·exact nomatch e
   ·injection e with O _;rw[O]
 byValue:=λk v h=>by
  rcases b3 h with ⟨i,t,rfl,rfl⟩ | ⟨x,t,rfl,rfl⟩<;>rfl
 pyHash:=λY h=>by
  rcases b3 Y with ⟨i,t,rfl,rfl⟩ | ⟨x,t,rfl,rfl⟩
  ·exact wpAny_pyHash_int h
  ·exact wpAny_pyHash_str h
 eqBool:=λhu Y h=>by
  rcases b3 hu with ⟨i,t,rfl,rfl⟩ | ⟨x,t,rfl,rfl⟩
  ·rcases b3 Y with ⟨j,u,rfl,rfl⟩ | ⟨y,u,rfl,rfl⟩
   ·rw[Ik] at h;exact wpAny_eqBool_int h
   ·rw[Ij] at h;exact Ph i t y u _ _ _ _ h
  ·rcases b3 Y with ⟨j,u,rfl,rfl⟩ | ⟨y,u,rfl,rfl⟩
   ·rw[Ii] at h;exact Pg x t j u _ _ _ _ h
   ·rw[Ih] at h;exact wpAny_eqBool_str h
 «strs»:=λk x t v h=>by
  rcases b3 h with ⟨i,u,rfl,e⟩ | ⟨y,u,rfl,e⟩
  ·exact nomatch e
  ·injection e with O _
   subst O
   cases v<;>rfl
theorem vQ (prog:qc) (w:u7) (i:Int) (t:Tok):(dc prog w).is (.inl i) (.int i t)=true:=AO i t
theorem vP (prog:qc) (w:u7) (x:J9) (t:Tok):(dc prog w).is (.inr x) (.str x t)=true:=AN x t
inductive V where
 | non | bl (b:JY) | int (i:Int) | str (x:J9) | byt (b:Kw UInt8) | flt (b:UInt64) | ref (a:fy) | ty (n:Kr)
 deriving DecidableEq
noncomputable def RelV:V->hJ->Prop
 | .non,u=>u=KG
 | .bl b,u=>u=P' b
 | .int i,u=>∃t,u=Om i t
 | .str x,u=>∃t,u=Pe x t
 | .byt b,u=>∃t,u=Rh b t
 | .flt b,u=>∃t,u=Rg b t
 | .ref a,u=>u=z2 a
 | .ty n,u=>u=Md n
noncomputable abbrev Vals:f' V->E'->Prop:=Paired RelV
theorem Vals.length {xs:f' V} {us:E'} (r:Vals xs us):xs.length=us.length:=OS r
theorem Vals.get:∀{xs:f' V} {us:E'} {i:Nat} {x:V},Vals xs us->xs[i]? =ak x->∃u,us[i]? =ak u/\RelV x u
 | _,_,_,_,.nil,e=>by simp at e
 | _,_,0,_,.cons r _,e=>by simp at e;subst e;exact⟨_,rfl,r⟩
 | _,_,i + 1,x,.cons _ t,e=>by
   obtain⟨u,h1,h2⟩:=Vals.get (i:=i) (x:=x) t (by simpa using e);exact⟨u,by simpa using h1,h2⟩
theorem Vals.set {x:V} {u:hJ} (r:RelV x u):∀{xs:f' V} {us:E'} (i:Nat),Vals xs us->Vals (xs.set i x) (us.set i u)
 | _,_,_,.nil=> .nil
 | _,_,0,.cons _ t=> .cons r t
 | _,_,i + 1,.cons q t=> .cons q (Vals.set r i t)
theorem Vals.append:∀{xs ys:f' V} {us ws:E'},Vals xs us->Vals ys ws->Vals (xs++ys) (us++ws)
 | _,_,_,_,.nil,s=>s
 | _,_,_,_,.cons r t,s=> .cons r (Vals.append t s)
theorem Vals.take:∀{xs:f' V} {us:E'} (n:Nat),Vals xs us->Vals (xs.take n) (us.take n)
 | _,_,0,_=> .nil
 | _,_,_ + 1,.nil=> .nil
 | _,_,n + 1,.cons r t=> .cons r (Vals.take n t)
theorem Vals.drop:∀{xs:f' V} {us:E'} (n:Nat),Vals xs us->Vals (xs.drop n) (us.drop n)
 | _,_,0,r=>r
 | _,_,_ + 1,.nil=> .nil
 | _,_,n + 1,.cons _ t=>Vals.drop n t
noncomputable def RelO:sh V->J5->Prop
 | some v,ak u=>RelV v u
 | none,none=>True
 | _,_=>False
noncomputable def KV {κ:Type}:f' (κ×V)->f' (κ×hJ)->Prop:=Paired λ(p:κ×V) (q:κ×hJ)=>p.1=q.1/\RelV p.2 q.2
noncomputable def kV:Key->V
 | .inl i=> .int i
 | .inr x=> .str x
inductive HO where
 | lst (xs:f' V)
 | tup (xs:f' V)
 | dK (kvs:f' (Key×V)) | dT (kvs:f' (f' Key×V))
 | set (S:Int->JY) (n:Nat)
 | ins (C dx:fy) (fs:f' (J9×V))
 | own (x:fy)
 | xd (fs:f' (J9×V))
 | met (f x:fy)
 | rng (lo hi:Int)
 | frz (o:P8) (u:HO)
 | tbl (ps:G')
 | ext (φ:z1->Prop)
noncomputable abbrev Hp:=fy->sh HO
noncomputable def upd (H:Hp) (a:fy) (o:HO):Hp:=λb=>if b=a then ak o else H b
theorem bg {H:Hp} {a:fy} {o:HO}:upd H a o a=ak o:=by unfold upd;rw[pT rfl]
theorem aV {H:Hp} {a b:fy} {o:HO} (h:b≠a):upd H a o b=H b:=by unfold upd;rw[oT h]
theorem gE {H:Hp} {a b:fy} {o u:HO} (h:H a=ak o) (h':H b=ak u) (d:o≠u):a≠b:=by
 intro e;subst e;rw[h] at h';exact d (mu h')
theorem aw {H:Hp} {a b:fy} {o:HO} (h:H a=ak o) (h':H b=none):a≠b:=by
 intro e;subst e;rw[h] at h';cases h'
section
variable (P:qc) (w:u7)
noncomputable def fV (H:Hp) (h:z1) (a:fy):HO->Prop
 | .lst xs=>xs.length<=qb/\∃(its:E') (n:Nat),Vals xs its/\h.get? a=ak {cls:= .type "list",data:= .seq its.toArray n}
 | .tup xs=>xs.length<=qb/\∃its:E',Vals xs its/\IsTup h a its.toArray
 | .dK kvs=>kvs.length<=qb/\(a == sysModules)=false/\∃vs,KV kvs vs/\h.DictOf (dc P w) a vs
 | .dT kvs=>kvs.length<=qb/\(a == sysModules)=false/\∃xs:f' (f' Key×fy×hJ),
   Paired (λ(p:f' Key×V) (q:f' Key×fy×hJ)=>p.1=q.1/\H q.2.1=ak (.tup (p.1.map kV))/\RelV p.2 q.2.2) kvs xs/\
   ∃o es ep,h.get? a=ak o/\o.ExactDict/\o.data= .dict es ep/\es.toList=xs.map (entryOfKey (tupleKind (dc P w)))/\(xs.map (·.1)).Nodup
 | .set S n=>h.SetOf (intKind P w) a S n
 | .ins C dx fs=>H dx=ak (.own a)/\fs.length<=1000/\dx≠a/\h.get? a=ak (Ld C dx)/\
   ∃mA,h.Ns1 dx mA/\(∀f,RelO (fs.lookup f) (mA f))/\Pk mA (fs.map (·.1))
 | .own _=>∃o,h.get? a=ak o
 | .xd fs=>∃mA,h.Ns1 a mA/\∀f,RelO (fs.lookup f) (mA f)
 | .rng lo hi=>∃t u v,h.get? a=ak {cls:= .type "range",data:= .fields #[.int lo t,.int hi u,.int 1 v]}
 | .frz o u=>h.get? a=ak o/\fV H h a u
 | .tbl ps=>h.get? a=ak {cls:= .none,data:= .fields ps}
 | .met f x=>h.get? a=ak (O6 (.ref f) (.ref x))
 | .ext φ=>φ h/\(∃o,h.get? a=ak o)/\∀h1 h2:z1,φ h1->(∀o,h1.get? a=ak o->h2.get? a=ak o)->φ h2
def HOk (H:Hp) (h:z1):Prop:=∀a o,H a=ak o->fV P w H h a o
end
section
variable {P:qc} {w:u7} {H H':Hp} {h h':z1} {a:fy} {o:HO}
theorem fV.lt (x:fV P w H h a o):a < h.objs.size:=by
 cases o with
 | lst xs=>obtain⟨_,_,_,_,e⟩:=x;exact hF e
 | tup xs=>obtain⟨_,_,_,p⟩:=x;exact p.lt
 | dK kvs=>obtain⟨_,_,_,_,o,_,_,e,_⟩:=x;exact hF e
 | dT kvs=>obtain⟨_,_,_,_,o,_,_,e,_⟩:=x;exact hF e
 | set S n=>obtain⟨o,_,_,_,e,_⟩:=x;exact hF e
 | ins C dx fs=>obtain⟨_,_,_,e,_⟩:=x;exact hF e
 | own y=>obtain⟨_,e⟩:=x;exact hF e
 | xd fs=>obtain⟨_,⟨_,_,_,e,_⟩,_⟩:=x;exact hF e
 | rng lo hi=>obtain⟨_,_,_,e⟩:=x;exact hF e
 | frz ob u=>obtain⟨e,_⟩:=x;exact hF e
 | tbl ps=>exact hF (show h.get? a=ak _ from x)
 | met f y=>exact hF (show h.get? a=ak _ from x)
 | ext φ=>obtain⟨_,⟨_,e⟩,_⟩:=x;exact hF e
theorem Paired.mapP {α β:Type} {F G:α->β->Prop}:∀{Y:f' α} {O:f' β},Paired F Y O->(∀a b,F a b->G a b)->Paired G Y O
 | _,_,.nil,_=> .nil
 | _,_,.cons r t,f=> .cons (f _ _ r) (Paired.mapP t f)
theorem fV.stay (x:fV P w H h a o) (k:∀b u,(b=a∨H b=ak (.own a))->h.get? b=ak u->h'.get? b=ak u)
  (ho:∀b,H b=ak (.own a)->H' b=ak (.own a)) (ht:∀b xs,H b=ak (.tup xs)->H' b=ak (.tup xs)):fV P w H' h' a o:=by
 induction o with
 | lst xs=>obtain⟨z,its,n,r,e⟩:=x;exact⟨z,its,n,r,k _ _ (.inl rfl) e⟩
 | tup xs=>obtain⟨z,its,r,ob,e,c⟩:=x;exact⟨z,its,r,ob,k _ _ (.inl rfl) e,c⟩
 | dK kvs=>obtain⟨z,y,vs,r,ob,es,ep,e,c⟩:=x;exact⟨z,y,vs,r,ob,es,ep,k _ _ (.inl rfl) e,c⟩
 | dT kvs=>
   obtain⟨z,y,xs,r,ob,es,ep,e,c⟩:=x;exact⟨z,y,xs,Paired.mapP r λp q z=>⟨z.1,ht _ _ z.2.1,z.2.2⟩,ob,es,ep,k _ _ (.inl rfl) e,c⟩
 | set S n=>obtain⟨ob,es,ep,t,e,c⟩:=x;exact⟨ob,es,ep,t,k _ _ (.inl rfl) e,c⟩
 | ins C dx fs=>
   obtain⟨d,z,ne,e,mA,⟨od,es,ep,O,c⟩,r⟩:=x;exact⟨ho _ d,z,ne,k _ _ (.inl rfl) e,mA,⟨od,es,ep,k _ _ (.inr d) O,c⟩,r⟩
 | own y=>obtain⟨ob,e⟩:=x;exact⟨ob,k _ _ (.inl rfl) e⟩
 | xd fs=>obtain⟨mA,⟨od,es,ep,e,c⟩,r⟩:=x;exact⟨mA,⟨od,es,ep,k _ _ (.inl rfl) e,c⟩,r⟩
 | rng lo hi=>obtain⟨t,u,v,e⟩:=x;exact⟨t,u,v,k _ _ (.inl rfl) e⟩
 | frz ob u ih=>obtain⟨e,q⟩:=x;exact⟨k _ _ (.inl rfl) e,ih q⟩
 | tbl ps=>
   have e:h.get? a=ak {cls:= .none,data:= .fields ps}:=x;show h'.get? a=ak {cls:= .none,data:= .fields ps};exact k a _ (.inl rfl) e
 | met f y=>
   have e:h.get? a=ak (O6 (.ref f) (.ref y)):=x;show h'.get? a=ak (O6 (.ref f) (.ref y));exact k a _ (.inl rfl) e
 | ext φ=>obtain⟨p,⟨o,e⟩,st⟩:=x;exact⟨st _ _ p λo q=>k _ _ (.inl rfl) q,⟨o,k _ _ (.inl rfl) e⟩,st⟩
theorem HOk.lt (x:HOk P w H h) (e:H a=ak o):a < h.objs.size:=(x a o e).lt
theorem HOk.fresh (x:HOk P w H h) (e:h.objs.size<=a):H a=none:=by
 cases q:H a with
 | none=>rfl
 | some u=>exact kf (fb (x.lt q) e) (KY _)
theorem HOk.kept (x:HOk P w H h) (k:∀b u,h.get? b=ak u->h'.get? b=ak u):HOk P w H h':=λa o e=>
 (x a o e).stay (λb u _ q=>k b u q) (λ_ q=>q) λ_ _ q=>q
theorem HOk.laid (x:HOk P w H h) (k:∀b u,h.get? b=ak u->h'.get? b=ak u) (O:h.objs.size<=a) (new:fV P w (upd H a o) h' a o):HOk P w (upd H a o) h':=λb u e=>by
 have hn:=x.fresh O;by_cases hb:b=a
 ·subst hb;rw[bg] at e;cases e;exact new
 ·rw[aV hb] at e;exact(x b u e).stay (λc v _ q=>k c v q) (λc q=>by rw[aV (aw q hn)];exact q) λc xs q=>by rw[aV (aw q hn)];exact q
end
def Rd (H:Hp) (a:fy) (u:HO):Prop:=H a=ak u∨∃o,H a=ak (.frz o u)
theorem Rd.ok {P:qc} {w:u7} {H:Hp} {h:z1} {a:fy} {u:HO} (r:Rd H a u) (x:HOk P w H h):fV P w H h a u:=by
 rcases r with r | ⟨o,r⟩
 ·exact x a u r
 ·obtain⟨_,q⟩:=x a _ r;exact q
noncomputable def Mut:sh HO->Prop
 | some (.lst _)=>True
 | some (.dK _)=>True
 | some (.dT _)=>True
 | some (.set _ _)=>True
 | some (.ins _ _ _)=>True
 | some (.ext _)=>True
 | _=>False
section
variable {P:qc} {w:u7} {H:Hp} {h h':z1} {x e:fy} {o':HO}
theorem HOk.write (ok:HOk P w H h) (α:Mut (H x)) (he:e=x∨H e=ak (.own x)) (k:∀b u,b≠e->h.get? b=ak u->h'.get? b=ak u) (β:∃u,h'.get? e=ak u)
  (new:fV P w (upd H x o') h' x o'):HOk P w (upd H x o') h':=λb u q=>by
 have Y:∀c y,H c=ak (.own y)->c≠x:=λc y r z=>by subst z;rw[r] at α;exact α
 have Z:∀c xs,H c=ak (.tup xs)->c≠x:=λc xs r z=>by subst z;rw[r] at α;exact α
 by_cases hb:b=x
 ·subst hb;rw[bg] at q;cases q;exact new
 ·rw[aV hb] at q;by_cases O:b=e
  ·have δ:H b=ak (.own x):=by
    rcases he with z | z
    ·exact kf (O.trans z) hb
    ·rw[O];exact z
   rw[q] at δ;cases δ;obtain⟨v,γ⟩:=β;exact⟨v,by rw[O];exact γ⟩
  ·refine(ok b u q).stay (λc v hc r=>k c v ?_ r) (λc r=>by rw[aV (Y c b r)];exact r) λc xs r=>by rw[aV (Z c xs r)];exact r
   rcases hc with rfl | hc
   ·exact O
   ·rintro rfl;rcases he with z | z
    ·exact Y c b hc z
    ·rw[hc] at z;cases z;exact hb rfl
end
structure Un (fs ex:I4) (H H':Hp) (h h':z1):Prop where
 keep:∀b o,h.get? b=ak o->H b=none->b∉fs->b∉ex->h'.get? b=ak o
 slot:∀b o,h.get? b=ak o->H b=none->b∈fs->b∉ex->∃sl,h'.get? b=ak {o with slots:=sl}
 free:∀b o,h.get? b=ak o->H b=none->b∉ex->H' b=none
 there:∀b o,h.get? b=ak o->b∉ex->∃o',h'.get? b=ak o'
 tups:∀b xs,H b=ak (.tup xs)->H' b=ak (.tup xs)
 frzs:∀b o u,H b=ak (.frz o u)->H' b=ak (.frz o u)
 tbls:∀b ps,H b=ak (.tbl ps)->∃more,H' b=ak (.tbl (ps++more))
section
variable {fs fs' ex ex':I4} {H H1 H2:Hp} {h h1 h2 h':z1} {a x e:fy} {o:HO}
theorem Un.any (u:Un fs ex H H1 h h1) {b:fy} {ob:P8} (q:h.get? b=ak ob) (n:H b=none) (hx:b∉ex):∃O,h1.get? b=ak {ob with slots:=O}:=by
 by_cases hb:b∈fs
 ·exact u.slot b ob q n hb hx
 ·exact⟨ob.slots,u.keep b ob q n hb hx⟩
theorem Un.kept (k:∀b u,h.get? b=ak u->h'.get? b=ak u):Un fs ex H H h h':=
 ⟨λb ob q _ _ _=>k b ob q,λb ob q _ _ _=>⟨ob.slots,k b ob q⟩,λ_ _ _ n _=>n,λb ob q _=>⟨ob,k b ob q⟩,λ_ _ q=>q,λ_ _ _ q=>q,λ_ ps q=>⟨#[],by rw[q];simp⟩⟩
theorem Un.refl:Un fs ex H H h h:=Un.kept λ_ _ q=>q
theorem Un.laid (k:∀b u,h.get? b=ak u->h'.get? b=ak u) (O:h.objs.size<=a) (hn:H a=none):Un fs ex H (upd H a o) h h' where
 keep:=λb u q _ _ _=>k b u q
 slot:=λb u q _ _ _=>⟨u.slots,k b u q⟩
 free:=λb u q n _=>by rw[aV (JU (fb (hF q) O))];exact n
 there:=λb u q _=>⟨u,k b u q⟩
 tups:=λb xs q=>by rw[aV (aw q hn)];exact q
 frzs:=λb u xs q=>by rw[aV (aw q hn)];exact q
 tbls:=λb ps q=>⟨#[],by rw[aV (aw q hn),q];simp⟩
theorem Un.write (Y:Mut (H x)) (he:e=x∨H e=ak (.own x)) (k:∀b u,b≠e->h.get? b=ak u->h'.get? b=ak u) (Z:∃u,h'.get? e=ak u):Un fs ex H (upd H x o) h h':=by
 have α:∀b,H b=none->b≠x:=λb n z=>by subst z;rw[n] at Y;exact Y
 have hb:∀b,H b=none->b≠e:=λb n z=>by
  subst z;rcases he with r | r
  ·exact α b n r
  ·rw[n] at r;cases r
 have hm:∀b u,H b=ak u->¬Mut (ak u)->b≠x:=λb u q nm z=>by subst z;rw[q] at Y;exact nm Y
 refine⟨λb u q n _ _=>k b u (hb b n) q,λb u q n _ _=>⟨u.slots,k b u (hb b n) q⟩,λb u q n _=>by rw[aV (α b n)];exact n,λb u q _=>?_,
  λb xs q=>by rw[aV (hm b _ q λz=>z)];exact q,λb u xs q=>by rw[aV (hm b _ q λz=>z)];exact q,λb ps q=>⟨#[],by rw[aV (hm b _ q λz=>z),q];simp⟩⟩
 by_cases O:b=e
 ·subst O;exact Z
 ·exact⟨u,k b u O q⟩
end
noncomputable def trk (h:z1) (H:Hp):I4:=(lB h.objs.size).filter λa=>(H a).isSome
noncomputable def hidT (h:z1) (H:Hp):Heap:=PySem.W.hideAll h (trk h H)
theorem AY (h:z1) (H:Hp):(hidT h H).objs.size=h.objs.size:=PySem.W.hideAll_size _ _
theorem C4 {h:z1} {H:Hp} {b:fy} {o:P8} (e:h.get? b=ak o) (n:H b=none):(hidT h H).get? b=ak o:=
 PySem.W.hideAll_get _ e λhm=>by
  have q:(H b).isSome=true:=(KB.mp hm).2;rw[n] at q;simp at q
theorem FW {h:z1} {H:Hp} {b:fy} {o:P8} (e:(hidT h H).get? b=ak o):h.get? b=ak o/\H b=none:=by
 have O:h.get? b=ak o:=PySem.W.of_hideAll (trk h H) e;refine⟨O,?_⟩;cases q:H b with
 | none=>rfl
 | some x=>
   have hm:b∈trk h H:=KB.mpr ⟨zx.mpr (hF O),by simp[q]⟩;have z:(hidT h H).get? b=none:=PySem.W.hideAll_none (trk h H) hm;rw[z] at e;cases e
noncomputable def Gp (g h:z1) (L:fy):Dc:=(lB h.objs.size).filterMap λa=>if a=L∨(g.get? a).isSome=true then none else (h.get? a).map λo=>(a,o)
noncomputable def rest (g h:z1) (L d:fy):Dc:=(Gp g h L).filter λp=>decide (p.1≠d)
structure Mod (K:bp) (mg:F') (base:z1):Prop where
 kin:K.In base
 glob:base.Ns Kl mg
 blt:∃mb,base.Ns builtinsNs mb/\∀x:J9,x≠"__name__"->mb x=bootBuiltins x
 nolimit:base.NoLimit
structure Cx where
 prog:qc
 w:u7
 K:bp
 mg:F'
 base:z1
 A:z3
 N:C'
 s₀:ib
 H₀:Hp
 env:Env
 outer:f' Env
 stack:f' Env
 ex:I4
 fn:J1
 calm:JY
 pn:Dc
 xe:D9
noncomputable def frs (l:f' Env):I4:=l.filterMap (·.frame)
noncomputable abbrev Cx.fs (X:Cx):I4:=frs X.outer
def Vis (O:LG) (x:J9):Prop:=O.names.lookup x=ak .local∨O.names.lookup x=ak .cell∨O.names.lookup x=ak .free
def Loc (O:LG) (x:J9):Prop:=O.names.lookup x=ak .local∨O.names.lookup x=ak .cell
def Look (env:Env) (h:z1) (m:F') (x:J9) (u:hJ):Prop:=
 (env.kindOf x=ak .local/\m x=ak u)∨((env.kindOf x=ak .cell∨env.kindOf x=ak .free)/\∃c,env.cells.lookup x=ak c/\h.IsCell c (ak u))
structure Cx.Ok (X:Cx):Prop where
 mod:Mod X.K X.mg X.base
 kind:X.env.scope.kind= .function
 glob:X.env.globals=Kl
 blt:X.env.builtins=builtinsNs
 above:X.s₀.heap.objs.size<=X.env.locals
 inj:∀x y c,X.env.cells.lookup x=ak c->X.env.cells.lookup y=ak c->x=y
 has:∀x,(X.env.kindOf x=ak .cell∨X.env.kindOf x=ak .free)->∃c,X.env.cells.lookup x=ak c
 cab:∀x c,X.fn x=true->X.env.cells.lookup x=ak c->X.s₀.heap.objs.size<=c
 hd:X.calm=true->X.A.handled=none
 frames:X.A.frames=ak X.stack
 stk:X.stack=X.outer∨(X.stack=X.env::X.outer/\X.env.frame=ak X.env.locals)
 exf:∀b∈X.ex,b≠X.env.locals/\∀x c,X.env.cells.lookup x=ak c->c≠b
 bs:∀b o,X.base.get? b=ak o->X.s₀.heap.get? b=ak o/\X.H₀ b=none
 bsz:X.base.objs.size<=X.s₀.heap.objs.size
 noex:∀b o,X.base.get? b=ak o->b∉X.ex
 exfs:∀b∈X.ex,b∉X.fs
 funs:X.s₀.heap.FunFrames X.base X.outer
 frf:∀b∈X.fs,X.H₀ b=none
structure Inv (X:Cx) (pins:Dc) (σ:f' (sh V)) (H:Hp) (s:ib):Prop where
 ok:X.Ok
 os:s.os=X.s₀.os
 bare:AllBare s.gens
 base:Un X.fs X.ex X.H₀ H X.s₀.heap s.heap
 loc:∃m,s.heap.Ns X.env.locals m/\∀(i:Nat) (x:J9) (v:V),X.N[i]? =ak x->σ[i]? =ak (ak v)->Vis X.env.scope x->∃u,RelV v u/\Look X.env s.heap m x u
 cell:∀x c,X.env.cells.lookup x=ak c->∃v,s.heap.IsCell c v
 free:H X.env.locals=none
 freeC:∀x c,X.env.cells.lookup x=ak c->H c=none
 pin:∀p∈X.pn++pins,s.heap.get? p.1=ak p.2/\H p.1=none/\p.1≠X.env.locals/\p.1∉X.fs/\∀v,p.2.data≠.cell v
 hok:HOk X.prog X.w H s.heap
 len:σ.length=X.N.length
section
variable {X:Cx} {pins:Dc} {σ:f' (sh V)} {H H':Hp} {s:ib} {h':z1}
theorem Cx.Ok.nofr (ok:X.Ok) {b:fy} {o:P8} (e:X.base.get? b=ak o):b∉X.fs:=λhb=>by
 have:=(ok.funs.mem hb).1;rw[e] at this;cases this
theorem Inv.bs (I:Inv X pins σ H s):∀b o,X.base.get? b=ak o->s.heap.get? b=ak o/\H b=none:=λb o e=>
 ⟨I.base.keep b o (I.ok.bs b o e).1 (I.ok.bs b o e).2 (I.ok.nofr e) (I.ok.noex b o e),I.base.free b o (I.ok.bs b o e).1 (I.ok.bs b o e).2 (I.ok.noex b o e)⟩
theorem Inv.bk (I:Inv X pins σ H s):∀b o,X.base.get? b=ak o->s.heap.get? b=ak o:=λb o e=>(I.bs b o e).1
theorem Inv.mod (I:Inv X pins σ H s):Mod X.K X.mg X.base:=I.ok.mod
theorem Inv.kIn (I:Inv X pins σ H s):X.K.In s.heap:=I.ok.mod.kin.keeps I.bk
theorem Inv.lt (I:Inv X pins σ H s):X.env.locals < s.heap.objs.size:=let ⟨_,hn,_⟩:=I.loc;hn.lt
theorem Inv.sz (I:Inv X pins σ H s):X.s₀.heap.objs.size<=s.heap.objs.size:=L9 I.ok.above (KA I.lt)
theorem Inv.nofs (I:Inv X pins σ H s) {a:fy} (h:s.heap.objs.size<=a):a∉X.fs:=λhb=>by
 obtain⟨_,o,ho,_⟩:=I.ok.funs.mem hb;exact kf (fb (hF ho) (L9 I.sz h)) (KY _)
theorem Inv.cne (I:Inv X pins σ H s):∀x c,X.env.cells.lookup x=ak c->c≠X.env.locals:=λx c e z=>by
 obtain⟨v,o,ho,hd⟩:=I.cell x c e;obtain⟨m,⟨o',es,ep,O,Y,_⟩,_⟩:=I.loc;rw[z,O] at ho;cases ho;rw[Y] at hd;cases hd
theorem Inv.funs (I:Inv X pins σ H s):s.heap.FunFrames X.base X.outer:=by
 have all:∀(l:f' Env),(∀b∈frs l,b∈X.fs)->X.s₀.heap.FunFrames X.base l->s.heap.FunFrames X.base l:=by
  intro l
  induction l with
  | nil=>intro _ _;trivial
  | cons env r ih=>
    intro hs hl;obtain⟨hk,⟨L,o,hf,hn,ho,hd⟩,Y⟩:=hl;have O:L∈X.fs:=hs L (by unfold frs;rw[M9,hf];exact iv);obtain⟨Z,e⟩:=I.base.slot L o ho (I.ok.frf L O) O λz=>I.ok.exfs L z O;exact⟨hk,⟨L,_,hf,hn,e,hd⟩,ih (λb hb=>hs b (by unfold frs;rw[M9,hf];exact lA _ hb)) Y⟩
 exact all X.outer (λ_ hb=>hb) I.ok.funs
theorem Inv.stack (I:Inv X pins σ H s):s.heap.FunFrames X.base X.stack:=by
 rcases I.ok.stk with e | ⟨e,hf⟩
 ·rw[e];exact I.funs
 ·rw[e];obtain⟨m,hn,_⟩:=I.loc;refine .cons (by rw[I.ok.kind];decide) hf hn ?_ I.funs;exact PX (L9 I.ok.bsz I.ok.above)
theorem Inv.stkSub (I:Inv X pins σ H s):∀b∈frs X.stack,b∈X.env.locals::X.fs:=λb hb=>by
 rcases I.ok.stk with e | ⟨e,hf⟩
 ·rw[e] at hb;exact lA _ hb
 ·rw[e] at hb;unfold frs at hb;rw[M9,hf] at hb;exact hb
theorem Inv.stkFree (I:Inv X pins σ H s):∀b∈frs X.stack,H b=none:=λb hb=>by
 rcases rz.mp (I.stkSub b hb) with e | hb
 ·rw[e];exact I.free
 ·obtain⟨_,o,ho,_⟩:=I.ok.funs.mem hb;exact I.base.free b o ho (I.ok.frf b hb) λz=>I.ok.exfs b z hb
theorem Inv.step {g':Kw GenState} {t':Nat} {d':Drawn} {ch:I4} (I:Inv X pins σ H s)
  (Y:∀b∈ch,(b∈X.ex∨X.s₀.heap.objs.size<=b)/\b≠X.env.locals/\(∀x c,X.env.cells.lookup x=ak c->c≠b)/\∀p∈X.pn++pins,p.1≠b)
  (keep:∀b o,b≠X.env.locals->b∉X.fs->b∉ch->s.heap.get? b=ak o->H b=none->h'.get? b=ak o)
  (slot:∀b o,b≠X.env.locals->b∈X.fs->b∉ch->s.heap.get? b=ak o->H b=none->∃δ,h'.get? b=ak {o with slots:=δ}) (free:∀b o,b∉ch->s.heap.get? b=ak o->H b=none->H' b=none)
  (there:∀b o,b∉ch->s.heap.get? b=ak o->∃o',h'.get? b=ak o')
  (tups:∀b xs,H b=ak (.tup xs)->H' b=ak (.tup xs)) (frzs:∀b o u,H b=ak (.frz o u)->H' b=ak (.frz o u)) (tbls:∀b ps,H b=ak (.tbl ps)->∃more,H' b=ak (.tbl (ps++more)))
  (ns:∀m,s.heap.Ns X.env.locals m->h'.Ns X.env.locals m) (hok:HOk X.prog X.w H' h') (ο:AllBare g'):
  Inv X pins σ H' {s with heap:=h',gens:=g',drawn:=d',toks:=t'}:=by
 have β:∀b o,X.s₀.heap.get? b=ak o->b≠X.env.locals:=λb o e=>JU (fb (hF e) I.ok.above)
 have Z:∀b o,X.s₀.heap.get? b=ak o->b∉X.ex->b∉ch:=λb o e O hb=>by
  rcases(Y b hb).1 with z | z
  ·exact O z
  ·exact kf (fb (hF e) z) (KY _)
 have θ:∀x c,X.env.cells.lookup x=ak c->∀v,s.heap.IsCell c v->h'.IsCell c v:=λx c e v ⟨o,ho,hd⟩=>by
  have η:c∉ch:=λz=>(Y c z).2.2.1 x c e rfl;by_cases ι:c∈X.fs
  ·obtain⟨δ,q⟩:=slot c o (I.cne x c e) ι η ho (I.freeC x c e);exact⟨_,q,hd⟩
  ·exact⟨o,keep c o (I.cne x c e) ι η ho (I.freeC x c e),hd⟩
 refine⟨I.ok,I.os,ο,⟨λb o e n hb O=>?_,λb o e n hb O=>?_,λb o e n O=>?_,λb o e O=>?_,λb xs e=>tups b xs (I.base.tups b xs e),λb o xs e=>frzs b o xs (I.base.frzs b o xs e),λb ps e=>?_⟩,?_,λx c e=>?_,?_,λx c e=>?_,λp ζ=>?_,hok,I.len⟩
 ·exact keep b o (β b o e) hb (Z b o e O) (I.base.keep b o e n hb O) (I.base.free b o e n O)
 ·obtain⟨δ,α⟩:=I.base.slot b o e n hb O;obtain⟨ε,γ⟩:=slot b _ (β b o e) hb (Z b o e O) α (I.base.free b o e n O);exact⟨ε,γ⟩
 ·obtain⟨o',α⟩:=I.base.there b o e O;exact free b o' (Z b o e O) α (I.base.free b o e n O)
 ·obtain⟨o',α⟩:=I.base.there b o e O;exact there b o' (Z b o e O) α
 ·obtain⟨ξ,α⟩:=I.base.tbls b ps e;obtain⟨ν,γ⟩:=tbls b _ α;exact⟨ξ++ν,by rw[γ,Array.append_assoc]⟩
 ·obtain⟨m,hn,hl⟩:=I.loc;refine⟨m,ns m hn,λi x v α γ π=>?_⟩;obtain⟨u,r,l⟩:=hl i x v α γ π;refine⟨u,r,?_⟩;rcases l with l | ⟨k,c,e,z⟩
  ·exact .inl l
  ·exact .inr ⟨k,c,e,θ x c e _ z⟩
 ·obtain⟨v,z⟩:=I.cell x c e;exact⟨v,θ x c e v z⟩
 ·obtain⟨m,⟨o,_,_,ho,_⟩,_⟩:=I.loc;exact free _ o (λz=>(Y _ z).2.1 rfl) ho I.free
 ·obtain⟨v,o,ho,hd⟩:=I.cell x c e;exact free c o (λz=>(Y c z).2.2.1 x c e rfl) ho (I.freeC x c e)
 ·obtain⟨e,n,ne,nf,d⟩:=I.pin p ζ;have η:p.1∉ch:=λz=>(Y p.1 z).2.2.2 p ζ rfl;exact⟨keep p.1 p.2 ne nf η e n,free p.1 p.2 η e n,ne,nf,d⟩
theorem Inv.un {t':Nat} (I:Inv X pins σ H s) (u:Un X.fs [] H H' s.heap h') (hok:HOk X.prog X.w H' h'):Inv X pins σ H' {s with heap:=h',toks:=t'}:=by
 obtain⟨m,⟨o,es,ep,ho,r⟩,_⟩:=id I.loc;obtain⟨β,α⟩:=u.any ho I.free @F
 exact I.step (g':=s.gens) (d':=s.drawn) (ch:=[]) (λ_ z=>nomatch z) (λb o _ hb _ e n=>u.keep b o e n hb @F) (λb o _ hb _ e n=>u.slot b o e n hb @F) (λb o _ e n=>u.free b o e n @F) (λb o _ e=>u.there b o e @F) u.tups u.frzs u.tbls (fun γ hm=>by
  obtain⟨o',Y,Z,O,r'⟩:=hm;rw[ho] at O;cases O;exact⟨_,Y,Z,α,r'⟩) hok I.bare
theorem Inv.call {g':Kw GenState} {t':Nat} {d':Drawn} {ch:I4} (I:Inv X pins σ H s) (u:Un (frs X.stack) ch H H' s.heap h') (hok:HOk X.prog X.w H' h') (δ:AllBare g')
  (Z:∀b∈ch,(b∈X.ex∨X.s₀.heap.objs.size<=b)/\b≠X.env.locals/\(∀x c,X.env.cells.lookup x=ak c->c≠b)/\∀p∈X.pn++pins,p.1≠b):
  Inv X pins σ H' {s with heap:=h',gens:=g',drawn:=d',toks:=t'}:=by
 obtain⟨m,⟨o,es,ep,ho,r⟩,_⟩:=id I.loc;obtain⟨ε,α⟩:=u.any ho I.free λz=>(Z _ z).2.1 rfl
 exact I.step (ch:=ch) Z (λb o α hb O e n=>u.keep b o e n (λz=>(rz.mp (I.stkSub b z)).elim α hb) O) (λb o _ _ O e n=>u.any e n O) (λb o O e n=>u.free b o e n O) (λb o O e=>u.there b o e O) u.tups u.frzs u.tbls (fun ζ hm=>by
  obtain⟨o',β,γ,Y,r'⟩:=hm;rw[ho] at Y;cases Y;exact⟨_,β,γ,α,r'⟩) hok δ
theorem Inv.turned {t':Nat} {it:fy} (I:Inv X pins σ H s) (k:∀b o,b≠it->s.heap.get? b=ak o->h'.get? b=ak o) (hn:H it=none) (Z:it≠X.env.locals)
  (h1:it∈X.ex∨X.s₀.heap.objs.size<=it) (h2:∀x c,X.env.cells.lookup x=ak c->c≠it) (α:∀p∈X.pn++pins,p.1≠it):Inv X pins σ H {s with heap:=h',toks:=t'}:=by
 have Y:∀b u,H b=ak u->b≠it:=λb u e z=>by rw[z,hn] at e;cases e
 refine I.step (g':=s.gens) (d':=s.drawn) (ch:=[it]) (λb hb=>?_) (λb o _ _ O e _=>k b o (λz=>O (by simp[z])) e) (λb o _ _ O e _=>⟨o.slots,k b o (λz=>O (by simp[z])) e⟩) (λ_ _ _ _ n=>n)
  (λb o O e=>⟨o,k b o (λz=>O (by simp[z])) e⟩) (λ_ _ e=>e) (λ_ _ _ e=>e) (λb ps e=>⟨#[],by rw[e];simp⟩) (λm hm=>?_) (λb u e=>?_) I.bare
 ·have e:b=it:=by simpa using hb
  subst e;exact⟨h1,Z,h2,α⟩
 ·obtain⟨o,es,ep,ho,r⟩:=hm;exact⟨o,es,ep,k _ o (Lf Z) ho,r⟩
 ·refine(I.hok b u e).stay (λc v O q=>k c v ?_ q) (λ_ q=>q) λ_ _ q=>q;rcases O with z | z
  ·rw[z];exact Y b u e
  ·exact Y c _ z
theorem Inv.tok (I:Inv X pins σ H s) (t:Nat):Inv X pins σ H {s with toks:=t}:=I.un (h':=s.heap) (t':=t) Un.refl I.hok
theorem Inv.kept {t':Nat} (I:Inv X pins σ H s) (k:∀b u,s.heap.get? b=ak u->h'.get? b=ak u):Inv X pins σ H {s with heap:=h',toks:=t'}:=I.un (Un.kept k) (I.hok.kept k)
theorem Inv.laid {a:fy} {o:HO} {t':Nat} (I:Inv X pins σ H s) (k:∀b u,s.heap.get? b=ak u->h'.get? b=ak u) (O:s.heap.objs.size<=a) (new:fV X.prog X.w (upd H a o) h' a o):
  Inv X pins σ (upd H a o) {s with heap:=h',toks:=t'}:=I.un (Un.laid k O (I.hok.fresh O)) (I.hok.laid k O new)
theorem Inv.write {x e:fy} {o:HO} {t':Nat} (I:Inv X pins σ H s) (Y:Mut (H x)) (he:e=x∨H e=ak (.own x)) (k:∀b u,b≠e->s.heap.get? b=ak u->h'.get? b=ak u) (O:∃u,h'.get? e=ak u)
  (new:fV X.prog X.w (upd H x o) h' x o):Inv X pins σ (upd H x o) {s with heap:=h',toks:=t'}:=I.un (Un.write Y he k O) (I.hok.write Y he k O new)
theorem Inv.weak {σ':f' (sh V)} (I:Inv X pins σ H s) (hl:σ'.length=σ.length) (w:∀(i:Nat) v,σ'[i]? =ak (ak v)->σ[i]? =ak (ak v)):Inv X pins σ' H s:=
 ⟨I.ok,I.os,I.bare,I.base,let ⟨m,hn,ζ⟩:=I.loc;⟨m,hn,λi x v Z Y O=>ζ i x v Z (w i v Y) O⟩,I.cell,I.free,I.freeC,I.pin,I.hok,hl.trans I.len⟩
theorem Inv.pins_of {ι:Dc} (I:Inv X pins σ H s) (h:∀p∈ι,s.heap.get? p.1=ak p.2/\H p.1=none/\p.1≠X.env.locals/\p.1∉X.fs/\∀v,p.2.data≠.cell v):Inv X ι σ H s:=
 ⟨I.ok,I.os,I.bare,I.base,I.loc,I.cell,I.free,I.freeC,λp O=>(px.mp O).elim (λz=>I.pin p (ro _ z)) (h p),I.hok,I.len⟩
theorem xh {N:C'} (ι:N.Nodup) {i j:Nat} {x:J9} (a:N[i]? =ak x) (b:N[j]? =ak x):i=j:=by
 obtain⟨h1,Y⟩:=dt.mp a;obtain⟨h2,O⟩:=dt.mp b;exact(List.getElem_inj ι).mp (Y.trans O.symm)
theorem tR {M:Model} {A:z3} {E:D9} {i:Nat} {x:J9} {v:V} {u:hJ} {Q:Hy} (I:Inv X pins σ H s) (hN:X.N.Nodup) (hi:X.N[i]? =ak x) (hx:Loc X.env.scope x) (r:RelV v u)
  (h:∀s',Inv X pins (σ.set i (ak v)) H s'->(∃a,Ll a s.heap s'.heap/\(a=X.env.locals∨X.env.cells.lookup x=ak a))->Q () s') (hf:X.fn x=true∨X.env.scope.names.lookup x=ak .local:=by first | exact .inl rfl | exact .inr rfl | assumption):oi M A (storeName X.env x u) Q E s:=by
 obtain⟨m,hn,hl⟩:=id I.loc;have ο:(X.env.scope.kind == .class||(X.env.scope.kind == .module&&X.env.locals != X.env.globals))=false:=by rw[I.ok.kind];rfl
 have ε:i < σ.length:=by rw[I.len];exact(dt.mp hi).1
 have cne:=I.cne
 have Y:∀{a:fy} {h':z1},(∃o,s.heap.get? a=ak o/\H a=none)->Ll a s.heap h'->HOk X.prog X.w H h':=λ{a h'} ha hs b ob e=>by
  obtain⟨_,_,α⟩:=ha;refine(I.hok b ob e).stay (λc ω hc q=>(hs.2 c ?_).trans q) (λ_ q=>q) λ_ _ q=>q;rintro rfl;rcases hc with rfl | hc
  ·rw[α] at e;cases e
  ·rw[α] at hc;cases hc
 rcases hx with hk | hk
 ·refine wpAny_storeName_local hk hn (λh' ν hs=>?_) ο;obtain⟨oL,_,_,χ,_⟩:=id hn;refine h _ ⟨I.ok,I.os,I.bare,⟨λb o e n hb hx=>?_,λb o e n hb hx=>?_,I.base.free,λb o e hx=>?_,I.base.tups,I.base.frzs,I.base.tbls⟩,⟨_,ν,λj y ψ Z γ e3=>?_⟩,λy c e=>?_,I.free,I.freeC,λp φ=>?_,Y ⟨oL,χ,I.free⟩ hs,by simpa using I.len⟩ ⟨_,hs,.inl rfl⟩
  ·exact(hs.2 b (JU (fb (hF e) I.ok.above))).trans (I.base.keep b o e n hb hx)
  ·obtain⟨υ,Z⟩:=I.base.slot b o e n hb hx;exact⟨υ,(hs.2 b (JU (fb (hF e) I.ok.above))).trans Z⟩
  ·obtain⟨o',Z⟩:=I.base.there b o e hx;exact⟨o',(hs.2 b (JU (fb (hF e) I.ok.above))).trans Z⟩
  ·by_cases ζ:j=i
   ·subst ζ;rw[hi] at Z;cases Z;rw[Mo ε] at γ;cases γ;exact⟨u,r,.inl ⟨hk,by simp⟩⟩
   ·rw[Mf (Lf ζ)] at γ;obtain⟨ι,r',q⟩:=hl j y ψ Z γ e3;refine⟨ι,r',?_⟩;rcases q with ⟨k,e⟩ | ⟨k,c,e,z⟩
    ·refine .inl ⟨k,?_⟩;have:y≠x:=λe=>ζ (xh hN Z (e ▸ hi));simp[this,e]
    ·exact .inr ⟨k,c,e,z.sameBut hs (cne y c e)⟩
  ·obtain⟨ω,z⟩:=I.cell y c e;exact⟨ω,z.sameBut hs (cne y c e)⟩
  ·obtain⟨e,n,ne,nf,d⟩:=I.pin p φ;exact⟨(hs.2 p.1 ne).trans e,n,ne,nf,d⟩
 ·have η:X.fn x=true:=by
   rcases hf with z | z
   ·exact z
   ·rw[z] at hk;cases hk
  obtain⟨c,hc⟩:=I.ok.has x (.inl hk);obtain⟨ω,z⟩:=I.cell x c hc;refine wpAny_storeName_cell I.ok.kind hk hc z (λh' ρ hs=>?_);obtain⟨oc,ξ,θ⟩:=id z;refine h {s with heap:=h'} ⟨I.ok,I.os,I.bare,⟨λb o e n hb hx=>?_,λb o e n hb hx=>?_,I.base.free,λb o e hx=>?_,I.base.tups,I.base.frzs,I.base.tbls⟩,⟨m,hn.sameBut hs (Lf (cne x c hc)),λj y ψ Z γ e3=>?_⟩,λy τ e=>?_,I.free,I.freeC,λp φ=>?_,Y ⟨oc,ξ,I.freeC x c hc⟩ hs,by simpa using I.len⟩ ⟨c,hs,.inr hc⟩
  ·exact(hs.2 b (JU (fb (hF e) (I.ok.cab x c η hc)))).trans (I.base.keep b o e n hb hx)
  ·obtain⟨υ,Z⟩:=I.base.slot b o e n hb hx;exact⟨υ,(hs.2 b (JU (fb (hF e) (I.ok.cab x c η hc)))).trans Z⟩
  ·obtain⟨o',Z⟩:=I.base.there b o e hx;exact⟨o',(hs.2 b (JU (fb (hF e) (I.ok.cab x c η hc)))).trans Z⟩
  ·by_cases ζ:j=i
   ·subst ζ;rw[hi] at Z;cases Z;rw[Mo ε] at γ;cases γ;exact⟨u,r,.inr ⟨.inl hk,c,hc,ρ⟩⟩
   ·rw[Mf (Lf ζ)] at γ;obtain⟨ι,r',q⟩:=hl j y ψ Z γ e3;refine⟨ι,r',?_⟩;rcases q with q | ⟨k,τ,e,z'⟩
    ·exact .inl q
    ·refine .inr ⟨k,τ,e,z'.sameBut hs ?_⟩;rintro rfl;exact ζ (xh hN Z (I.ok.inj _ _ _ e hc ▸ hi))
  ·by_cases π:τ=c
   ·subst π;exact⟨_,ρ⟩
   ·obtain⟨O,β⟩:=I.cell y τ e;exact⟨O,β.sameBut hs π⟩
  ·obtain⟨e,n,ne,nf,d⟩:=I.pin p φ;refine⟨(hs.2 p.1 ?_).trans e,n,ne,nf,d⟩;intro q;rw[q,ξ] at e;have δ:oc=p.2:=mu e;exact d ω (by rw[<-δ];exact θ)
theorem wJ {M:Model} {A:z3} {E:D9} {i:Nat} {x:J9} {v:V} {u:hJ} {Q:Hy} (I:Inv X pins σ H s) (ι:X.N.Nodup) (hi:X.N[i]? =ak x) (hx:Loc X.env.scope x) (r:RelV v u)
  (h:∀s',Inv X pins (σ.set i (ak v)) H s'->Q () s') (hf:X.fn x=true∨X.env.scope.names.lookup x=ak .local:=by first | exact .inl rfl | exact .inr rfl | assumption):oi M A (storeName X.env x u) Q E s:=
 tR I ι hi hx r (λs' γ _=>h s' γ) hf
theorem Inv.call' {s':ib} {ch:I4} (I:Inv X pins σ H s) (ho:s'.os=s.os) (u:Un (frs X.stack) ch H H' s.heap s'.heap) (hok:HOk X.prog X.w H' s'.heap) (Y:AllBare s'.gens)
  (O:∀b∈ch,(b∈X.ex∨X.s₀.heap.objs.size<=b)/\b≠X.env.locals/\(∀x c,X.env.cells.lookup x=ak c->c≠b)/\∀p∈X.pn++pins,p.1≠b):Inv X pins σ H' s':=by
 obtain⟨h',g',d',t',o'⟩:=s';have e:o'=s.os:=ho;subst e;exact I.call (g':=g') (t':=t') (d':=d') u hok Y O
end
noncomputable abbrev XK:=hJ->J0->Hp->Prop
noncomputable abbrev St:=f' (sh V)
noncomputable abbrev VK:=V->Hp->Prop
noncomputable abbrev TE:=St->Hp->VK->Prop
noncomputable abbrev TT:=St->Hp->(JY->Hp->Prop)->Prop
noncomputable abbrev TA:=St->Hp->(f' V->Hp->Prop)->Prop
structure Ends where
 nx:St->Hp->Prop
 rt:VK
 bk:St->Hp->Prop:=λ_ _=>False
 ct:St->Hp->Prop:=λ_ _=>False
noncomputable abbrev TS:=Ends->St->Hp->Prop
def EP (X:Cx) (pins:Dc) (σ:St) (Q:VK) (u:hJ) (s':ib):Prop:=∃v H',Inv X pins σ H' s'/\RelV v u/\Q v H'
def TP (X:Cx) (pins:Dc) (σ:St) (Q:JY->Hp->Prop) (b:JY) (s':ib):Prop:=∃H',Inv X pins σ H' s'/\Q b H'
def AP (X:Cx) (pins:Dc) (σ:St) (Q:f' V->Hp->Prop) (us:E') (s':ib):Prop:=∃vs H',Inv X pins σ H' s'/\Vals vs us/\Q vs H'
def SP (X:Cx) (pins:Dc) (D:Ends) (f:Flow) (s':ib):Prop:=
 match f with
 | .next=>∃σ' H',Inv X pins σ' H' s'/\D.nx σ' H'
 | .brk=>∃σ' H',Inv X pins σ' H' s'/\D.bk σ' H'
 | .cont=>∃σ' H',Inv X pins σ' H' s'/\D.ct σ' H'
 | .ret u=>∃v σ' H',Inv X pins σ' H' s'/\RelV v u/\D.rt v H'
def PE (X:Cx) (e:z8) (t:TE):Prop:=
 ∀(pins:Dc) (s:ib) (σ:St) (H:Hp) (Q:VK),Inv X pins σ H s->t σ H Q->oi (qA X.prog X.w) X.A (eval e X.env) (EP X pins σ Q) X.xe s
def PT (X:Cx) (e:z8) (t:TT):Prop:=
 ∀(pins:Dc) (s:ib) (σ:St) (H:Hp) (Q:JY->Hp->Prop),Inv X pins σ H s->t σ H Q->oi (qA X.prog X.w) X.A (isTrue e X.env (eval e X.env)) (TP X pins σ Q) X.xe s
def PW (X:Cx) (e:z8) (t:TT):Prop:=
 ∀(O:Sem hJ) (pins:Dc) (s:ib) (σ:St) (H:Hp) (Q:JY->Hp->Prop),Inv X pins σ H s->t σ H Q->oi (qA X.prog X.w) X.A (isTrue e X.env O) (TP X pins σ Q) X.xe s
theorem PW.pt {X:Cx} {e:z8} {t:TT} (h:PW X e t):PT X e t:=h _
def PA (X:Cx) (es:f' z8) (t:TA):Prop:=
 ∀(pos:Pos) (pins:Dc) (s:ib) (σ:St) (H:Hp) (Q:f' V->Hp->Prop),Inv X pins σ H s->t σ H Q->oi (qA X.prog X.w) X.A (spliced (backTo pos (qQ es X.env))) (AP X pins σ Q) X.xe s
def PS (X:Cx) (st:Mp) (t:TS):Prop:=
 ∀(pins:Dc) (s:ib) (σ:St) (H:Hp) (D:Ends),Inv X pins σ H s->t D σ H->oi (qA X.prog X.w) X.A (exec st X.env) (SP X pins D) X.xe s
def PSs (X:Cx) (st:f' Mp) (t:TS):Prop:=
 ∀(pins:Dc) (s:ib) (σ:St) (H:Hp) (D:Ends),Inv X pins σ H s->t D σ H->oi (qA X.prog X.w) X.A (execs st X.env) (SP X pins D) X.xe s
theorem thn {α:Type} {t:Sem α} {Q Q':α->ib->Prop} {M:Model} {A:z3} {E:D9} {s:ib} (h:oi M A t Q E s) (O:∀a s,Q a s->Q' a s):oi M A t Q' E s:=LQ h O λ_ _ x=>x
section
variable {X:Cx}
noncomputable def tVar (i:Nat):TE:=fun σ H Q=>∃v,σ[i]? =ak (ak v)/\Q v H
noncomputable abbrev tC (v:V):TE:=λ_ H Q=>Q v H
theorem HK {i:Nat} {x:J9} {pos:Pos} (ι:X.N[i]? =ak x) (Z:Vis X.env.scope x) (hd:(x == ("__debug__":J9))=false:=by decide) (O:(x == ("__classdict__":J9))=false:=by decide):PE X (.Name x pos) (tVar i):=by
 intro pins s σ H Q I h;obtain⟨v,e,h⟩:=h;obtain⟨m,hn,hl⟩:=I.loc;obtain⟨u,r,l⟩:=hl i x v ι e Z;have fin:EP X pins σ Q u s:=⟨v,H,I,r,h⟩;rcases l with ⟨hk,hm⟩ | ⟨hk,c,Y,ξ⟩
 ·exact R3 (wpAny_loadName_local I.ok.kind hk hn hm fin) hd
 ·rcases hk with hk | hk
  ·exact R3 (wpAny_loadName_cell I.ok.kind hk Y ξ fin) hd
  ·exact R3 (wpAny_loadName_free I.ok.kind hk Y ξ fin O) hd
theorem ag {i j pos}:PE X (.Constant (.int i) j pos) (tC (.int i)):=λ_ _ _ H _ I h=>wpAny_Constant_int ⟨.int i,H,I.tok _,⟨_,rfl⟩,h⟩
theorem mx {b j pos}:PE X (.Constant (.bool b) j pos) (tC (.bl b)):=λ_ _ _ H _ I h=>Constant_bool ⟨.bl b,H,I,rfl,h⟩
theorem Ej {j pos}:PE X (.Constant .none j pos) (tC .non):=λ_ _ _ H _ I h=>Constant_none ⟨.non,H,I,rfl,h⟩
theorem gh {x j pos}:PE X (.Constant (.str x) j pos) (tC (.str x)):=λ_ _ _ H _ I h=>Calls.Constant_str ⟨.str x,H,I.tok _,⟨_,rfl⟩,h⟩
def Gl (X:Cx) (x:J9):Prop:=X.env.kindOf x=ak .globalImplicit
theorem su {E:D9} {pins:Dc} {s:ib} {σ:St} {H:Hp} {x:J9} {u:hJ} {pos:Pos} {Q:D9} (I:Inv X pins σ H s) (O:Gl X x) (hm:X.mg x=ak u) (h:Q u s)
  (hd:(x == ("__debug__":J9))=false:=by decide):oi (qA X.prog X.w) X.A (eval (.Name x pos) X.env) Q E s:=
 OR I.ok.kind O (Calls.loadGlobal_global (by rw[I.ok.glob];exact I.mod.glob.keeps I.bk) hm h) hd
theorem jP {E:D9} {pins:Dc} {s:ib} {σ:St} {H:Hp} {x:J9} {u:hJ} {pos:Pos} {Q:D9} (I:Inv X pins σ H s) (Y:Gl X x) (hm:X.mg x=none) (O:bootBuiltins x=ak u) (h:Q u s)
  (hn:x≠"__name__":=by decide) (hd:(x == ("__debug__":J9))=false:=by decide):oi (qA X.prog X.w) X.A (eval (.Name x pos) X.env) Q E s:=by
 obtain⟨Z,h1,h2⟩:=I.mod.blt;exact OR I.ok.kind Y (Calls.loadGlobal_builtin (by rw[I.ok.glob];exact I.mod.glob.keeps I.bk) hm (by rw[I.ok.blt];exact h1.keeps I.bk) ((h2 x hn).trans O) h) hd
theorem rZ {x:J9} {v:V} {u:hJ} {pos:Pos} (O:Gl X x) (hm:X.mg x=ak u) (r:RelV v u) (hd:(x == ("__debug__":J9))=false:=by decide):PE X (.Name x pos) (tC v):=
 λ_ _ _ H _ I h=>su I O hm ⟨v,H,I,r,h⟩ hd
theorem jb {x:J9} {v:V} {u:hJ} {pos:Pos} (Y:Gl X x) (hm:X.mg x=none) (O:bootBuiltins x=ak u) (r:RelV v u) (hn:x≠"__name__":=by decide) (hd:(x == ("__debug__":J9))=false:=by decide):PE X (.Name x pos) (tC v):=
 λ_ _ _ H _ I h=>jP I Y hm O ⟨v,H,I,r,h⟩ hn hd
variable {a b:z8} {ta tb:TE} {pos:Pos}
def PC (X:Cx) (Z:CmpOp) (a b:z8) (t:TE):Prop:=
 ∀(pins:Dc) (s:ib) (σ:St) (H:Hp) (Q:VK),Inv X pins σ H s->t σ H Q->
  oi (qA X.prog X.w) X.A (eval a X.env) (λv Y=>oi (qA X.prog X.w) X.A (eval b X.env) (λu O=>oi (qA X.prog X.w) X.A (compareOp Z v u) (EP X pins σ Q) X.xe O) X.xe Y) X.xe s
noncomputable abbrev tB (t:TE):TT:=fun σ H Q=>t σ H λx H1=>∃c,x= .bl c/\Q c H1
theorem Ef {O:CmpOp} {t:TE} (h:PC X O a b t) (h1:behindInMarks O b=false:=by first | exact nobehind _ (by decide) (by decide) | rfl):PT X (.Compare a [O] [b] pos) (tB t):=by
 intro pins s σ H Q I hw;refine Qq (thn (h pins s σ H _ I hw) λv δ h1=>thn h1 λu γ h2=>thn h2 λc β ⟨x,H1,α,Y,Z⟩=>?_) h1;obtain⟨d,rfl,q⟩:=Z;cases Y;exact Lv ⟨H1,α,q⟩
theorem dG {e:z8} {t:TE} (h:PE X e t) (he:∀O,isTrue e X.env O=(do let v <-O;standAt e.pos;holding [v] (truthy v)):=by intro _;rfl):PT X e (tB t):=by
 intro pins s σ H Q I hw;refine isTrue_plain (thn (h pins s σ H _ I hw) λv β ⟨x,H1,α,Y,Z⟩=>?_) (he _);obtain⟨d,rfl,q⟩:=Z;cases Y;exact Lv ⟨H1,α,q⟩
variable {tA tB':TT} {rest:f' z8}
noncomputable abbrev tAnd (t u:TT):TT:=fun σ H Q=>t σ H λc H1=>if c=true then u σ H1 Q else Q false H1
noncomputable abbrev tOr (t u:TT):TT:=fun σ H Q=>t σ H λc H1=>if c=true then Q true H1 else u σ H1 Q
noncomputable abbrev tNot (t:TT):TT:=fun σ H Q=>t σ H λc H1=>Q (!c) H1
theorem Af (ha:PT X a tA):PW X (.BoolOp .And [a] pos) tA:=by
 intro O pins s σ H Q I h;refine isTrue_and (thn (ha pins s σ H Q I h) λc Y e=>?_);cases c with
 | true=>exact isTrue_and_nil e
 | false=>exact e
theorem iN (ha:PT X a tA):PW X (.BoolOp .Or [a] pos) tA:=by
 intro O pins s σ H Q I h;refine isTrue_or (thn (ha pins s σ H Q I h) λc Y e=>?_);cases c with
 | false=>exact isTrue_or_nil e
 | true=>exact e
theorem Ee (ha:PT X a tA) (hb:PW X (.BoolOp .And (b::rest) pos) tB'):PW X (.BoolOp .And (a::b::rest) pos) (tAnd tA tB'):=by
 intro Z pins s σ H Q I h;refine isTrue_and (thn (ha pins s σ H _ I h) λc α ⟨H1,Y,O⟩=>?_);cases c with
 | true=>exact hb Z pins α σ H1 Q Y O
 | false=>exact⟨H1,Y,O⟩
theorem i8 (ha:PT X a tA) (hb:PW X (.BoolOp .Or (b::rest) pos) tB'):PW X (.BoolOp .Or (a::b::rest) pos) (tOr tA tB'):=by
 intro Z pins s σ H Q I h;refine isTrue_or (thn (ha pins s σ H _ I h) λc α ⟨H1,Y,O⟩=>?_);cases c with
 | true=>exact⟨H1,Y,O⟩
 | false=>exact hb Z pins α σ H1 Q Y O
theorem eX (ha:PT X a tA):PT X (.UnaryOp .Not a pos) (tNot tA):=by
 intro pins s σ H Q I h;exact isTrue_not (ha pins s σ H (λc H1=>Q (!c) H1) I h)
noncomputable abbrev Jf (ta tb:TE):TE:=fun σ H Q=>ta σ H λx H1=>∃c,x= .bl c/\if c=true then tb σ H1 Q else Q (.bl false) H1
noncomputable abbrev Jc (ta:TE):TE:=fun σ H Q=>ta σ H λx H1=>∃c,x= .bl c/\Q (.bl (!c)) H1
theorem ui {op} {t:TE} (h:PE X a t):PE X (.BoolOp op [a] pos) t:=λpins s σ H Q I hw=>BoolOp_one (h pins s σ H Q I hw)
theorem oI (ha:PE X a ta) (hb:PE X (.BoolOp .And (b::rest) pos) tb):PE X (.BoolOp .And (a::b::rest) pos) (Jf ta tb):=by
 intro pins s σ H Q I h;refine BoolOp_and (thn (ha pins s σ H _ I h) λv Z ⟨x,H1,Y,α,O⟩=>?_);obtain⟨c,rfl,O⟩:=O;cases α;refine Lv ?_;cases c with
 | true=>exact hb pins Z σ H1 Q Y O
 | false=>exact⟨.bl false,H1,Y,rfl,O⟩
theorem Ei (ha:PE X a ta):PE X (.UnaryOp .Not a pos) (Jc ta):=by
 intro pins s σ H Q I h;refine UnaryOp_ (thn (ha pins s σ H _ I h) λv α ⟨x,H1,Z,Y,O⟩=>?_);obtain⟨c,rfl,O⟩:=O;cases Y;exact not_of (Lv ⟨.bl (!c),H1,Z,rfl,O⟩)
noncomputable abbrev tIf (t:TT) (ta tb:TE):TE:=fun σ H Q=>t σ H λc H1=>if c=true then ta σ H1 Q else tb σ H1 Q
theorem CC {c:z8} (hc:PT X c tA) (ha:PE X a ta) (hb:PE X b tb):PE X (.IfExp c a b pos) (tIf tA ta tb):=by
 intro pins s σ H Q I h;refine wpAny_IfExp (thn (hc pins s σ H _ I h) λd O ⟨H1,Z,Y⟩=>?_);cases d with
 | true=>exact ha pins O σ H1 Q Z Y
 | false=>exact hb pins O σ H1 Q Z Y
end
def SqL (K:bp) (H:Hp) (a:fy) (xs:f' V):Prop:=
 Rd H a (.lst xs)∨
  ∃(o:P8) (its:G') (n:Nat),K.lookup a=ak o/\o.cls= .type "list"/\o.dict=none/\o.data= .seq its n/\its.size<=qb/\Vals xs its.toList
def SqT (K:bp) (H:Hp) (a:fy) (xs:f' V):Prop:=
 Rd H a (.tup xs)∨
  ∃(o:P8) (its:G') (n:Nat),K.lookup a=ak o/\o.cls= .type "tuple"/\o.data= .seq its n/\its.size<=qb/\Vals xs its.toList
noncomputable def absV:hJ->sh V
 | .none=>ak .non
 | .bool b=>ak (.bl b)
 | .int i _=>ak (.int i)
 | .str x _=>ak (.str x)
 | .bytes b _=>ak (.byt b)
 | .float b _=>ak (.flt b)
 | .ref a=>ak (.ref a)
 | .type n=>ak (.ty n)
 | _=>none
theorem RelV.abs {x:V} {u:hJ} (r:RelV x u):absV u=ak x:=by
 cases x with
 | non=>cases r;rfl
 | bl _=>cases r;rfl
 | int _=>obtain⟨t,rfl⟩:=r;rfl
 | str _=>obtain⟨t,rfl⟩:=r;rfl
 | byt _=>obtain⟨t,rfl⟩:=r;rfl
 | flt _=>obtain⟨t,rfl⟩:=r;rfl
 | ref _=>cases r;rfl
 | ty _=>cases r;rfl
theorem RelV.inj {x y:V} {u:hJ} (r:RelV x u) (q:RelV y u):x=y:=mu (r.abs.symm.trans q.abs)
theorem Vals.inj:∀{xs ys:f' V} {us:E'},Vals xs us->Vals ys us->xs=ys
 | _,_,_,.nil,.nil=>rfl
 | _,_,_,.cons r t,.cons r' t'=>by rw[r.inj r',Vals.inj t t']
section
variable {X:Cx} {pins:Dc} {σ:St} {H:Hp} {s:ib} {a:fy} {xs ys:f' V}
theorem SqL.of {K:bp} (h:H a=ak (.lst xs)):SqL K H a xs:= .inl (.inl h)
theorem SqT.of {K:bp} (h:H a=ak (.tup xs)):SqT K H a xs:= .inl (.inl h)
theorem Inv.list (I:Inv X pins σ H s) (h:SqL X.K H a xs):∃its:E',Vals xs its/\PlainL s.heap a its.toArray/\xs.length<=sizeLine:=by
 rcases h with h | ⟨o,its,n,hk,O,hd,hs,hz,r⟩
 ·obtain⟨z,its,n,r,e⟩:=h.ok I.hok;exact⟨its,r,⟨_,n,e,rfl,rfl,rfl⟩,z⟩
 ·refine⟨its.toList,r,⟨o,n,I.kIn a o hk,O,hd,by simpa using hs⟩,?_⟩;have e:=r.length;simp only[hE] at e;omega
theorem Inv.tuple (I:Inv X pins σ H s) (h:SqT X.K H a xs):∃its:E',Vals xs its/\IsTup s.heap a its.toArray/\xs.length<=sizeLine:=by
 rcases h with h | ⟨o,its,n,hk,O,hs,hz,r⟩
 ·obtain⟨z,its,r,p⟩:=h.ok I.hok;exact⟨its,r,p,z⟩
 ·refine⟨its.toList,r,⟨o,I.kIn a o hk,O,n,by simpa using hs⟩,?_⟩;have e:=r.length;simp only[hE] at e;omega
theorem Inv.list_inj (I:Inv X pins σ H s) (h:SqL X.K H a xs) (h':SqL X.K H a ys):xs=ys:=by
 obtain⟨its,r,⟨o,n,e,_,_,d⟩,_⟩:=I.list h;obtain⟨its',r',⟨o',Y,O,_,_,d'⟩,_⟩:=I.list h';rw[e] at O;cases O;rw[d] at d';injection d' with ν _
 have:its=its':=by simpa using y3 Ra ν
 subst this;exact r.inj r'
theorem Inv.tuple_inj (I:Inv X pins σ H s) (h:SqT X.K H a xs) (h':SqT X.K H a ys):xs=ys:=by
 obtain⟨its,r,⟨o,e,_,n,d⟩,_⟩:=I.tuple h;obtain⟨its',r',⟨o',O,_,Y,d'⟩,_⟩:=I.tuple h';rw[e] at O;cases O;rw[d] at d';injection d' with ν _
 have:its=its':=by simpa using y3 Ra ν
 subst this;exact r.inj r'
end
noncomputable abbrev Cx.wish (X:Cx) (E:D9):Cx:={X with xe:=E}
noncomputable abbrev Cx.nox (X:Cx):Cx:=X.wish λ_ _=>False
theorem Cx.Ok.wish {X:Cx} (ok:X.Ok) (E:D9):(X.wish E).Ok:=
 ⟨ok.mod,ok.kind,ok.glob,ok.blt,ok.above,ok.inj,ok.has,ok.cab,ok.hd,ok.frames,ok.stk,ok.exf,ok.bs,ok.bsz,ok.noex,ok.exfs,ok.funs,ok.frf⟩
theorem Cx.Ok.unwish {X:Cx} {E:D9} (ok:(X.wish E).Ok):X.Ok:=
 ⟨ok.mod,ok.kind,ok.glob,ok.blt,ok.above,ok.inj,ok.has,ok.cab,ok.hd,ok.frames,ok.stk,ok.exf,ok.bs,ok.bsz,ok.noex,ok.exfs,ok.funs,ok.frf⟩
section
variable {X:Cx} {pins:Dc} {σ:St} {H:Hp} {s:ib} {E:D9}
theorem Inv.wish (I:Inv X pins σ H s) (E:D9):Inv (X.wish E) pins σ H s:=⟨I.ok.wish E,I.os,I.bare,I.base,I.loc,I.cell,I.free,I.freeC,I.pin,I.hok,I.len⟩
theorem Inv.unwish (I:Inv (X.wish E) pins σ H s):Inv X pins σ H s:=⟨I.ok.unwish,I.os,I.bare,I.base,I.loc,I.cell,I.free,I.freeC,I.pin,I.hok,I.len⟩
theorem SP.unwish {D:Ends} {f:Flow} {s':ib} (h:SP (X.wish E) pins D f s'):SP X pins D f s':=by
 cases f with
 | next=>obtain⟨σ',H',I,q⟩:=h;exact⟨σ',H',I.unwish,q⟩
 | brk=>obtain⟨σ',H',I,q⟩:=h;exact⟨σ',H',I.unwish,q⟩
 | cont=>obtain⟨σ',H',I,q⟩:=h;exact⟨σ',H',I.unwish,q⟩
 | ret u=>obtain⟨v,σ',H',I,r,q⟩:=h;exact⟨v,σ',H',I.unwish,r,q⟩
theorem PSs.nox {st:f' Mp} {t:TS} (h:PSs X.nox st t):PSs X st t:=λpins s σ H D I hw=>
 LQ (h pins s σ H D (I.wish _) hw) (λ_ _ q=>q.unwish) λ_ _ z=>K8 z
end
section
variable {X:Cx} {st:Mp} {rest:f' Mp} {t u:TS} {e:z8} {te:TE} {pos:Pos}
noncomputable def GI:TS:=λD σ H=>D.nx σ H
noncomputable def tSeq (t u:TS):TS:=λD σ H=>t {D with nx:=u D} σ H
theorem bh:PSs X [] GI:=λ_ _ σ H _ I h=>O0 ⟨σ,H,I,h⟩
theorem ae (h1:PS X st t) (h2:PSs X rest u):PSs X (st::rest) (tSeq t u):=by
 intro pins s σ H D I h;refine P1 (thn (h1 pins s σ H {D with nx:=u D} I h) λf O q=>?_);cases f with
 | next=>
   obtain⟨σ',H',γ,q⟩:=q;exact h2 pins O σ' H' D γ q
 | ret v=>exact q
 | brk=>exact q
 | cont=>exact q
theorem ai (h1:PS X st t):PSs X [st] t:=by
 intro pins s σ H D I h;refine P1 (thn (h1 pins s σ H D I h) λf O q=>?_);cases f with
 | next=>exact O0 q
 | ret v=>exact q
 | brk=>exact q
 | cont=>exact q
theorem Inv.quiet {pins:Dc} {σ:St} {H:Hp} {s:ib} (I:Inv X pins σ H s):interactive X.env=false:=by simp[interactive,I.ok.kind]
noncomputable abbrev Jd (te:TE):TS:=λD σ H=>te σ H λ_ H1=>D.nx σ H1
theorem bX (he:PE X e te) (hs:swapsWith e none pos.line X.env=pure false:=by rfl):PS X (.Expr e pos) (Jd te):=by
 intro pins s σ H D I h;exact wpAny_Expr_any (thn (he pins s σ H _ I h) λv Z ⟨x,H1,Y,α,O⟩=>⟨σ,H1,Y,O⟩) I.quiet hs
noncomputable abbrev tRet (te:TE):TS:=λD σ H=>te σ H D.rt
theorem aC (he:PE X e te):PS X (.Return (ak e) pos) (tRet te):=by
 intro pins s σ H D I h;exact wpAny_Return_some (thn (he pins s σ H _ I h) λv α ⟨x,H1,Z,O,Y⟩=>⟨x,σ,H1,Z,O,Y⟩)
noncomputable abbrev tIfS (c:TT) (t u:TS):TS:=λD σ H=>c σ H λb H1=>if b=true then t D σ H1 else u D σ H1
theorem dN {c:z8} {a b:f' Mp} {tc:TT} (hc:PT X c tc) (ha:PSs X a t) (hb:PSs X b u):PS X (.If c a b pos) (tIfS tc t u):=by
 intro pins s σ H D I h;refine wpAny_If (thn (hc pins s σ H _ I h) λd O ⟨H1,Z,Y⟩=>?_);cases d with
 | true=>exact ha pins O σ H1 D Z Y
 | false=>exact hb pins O σ H1 D Z Y
end
noncomputable abbrev TG:=V->St->Hp->(St->Hp->Prop)->Prop
noncomputable abbrev TGs:=f' V->St->Hp->(St->Hp->Prop)->Prop
def PG (X:Cx) (ξ:z8) (t:TG):Prop:=
 ∀(pins:Dc) (s:ib) (σ:St) (H:Hp) (v:V) (u:hJ) (Q:St->Hp->Prop),Inv X pins σ H s->RelV v u->t v σ H Q->
  oi (qA X.prog X.w) X.A (assign ξ X.env u) (λ_ s'=>∃σ' H',Inv X pins σ' H' s'/\Q σ' H') X.xe s
def PGs (X:Cx) (ts:f' z8) (t:TGs):Prop:=
 ∀(pins:Dc) (s:ib) (σ:St) (H:Hp) (vs:f' V) (us:E') (Q:St->Hp->Prop),Inv X pins σ H s->Vals vs us->t vs σ H Q->
  oi (qA X.prog X.w) X.A (assignInOrder ((assignEach ts X.env).map (·.2)) us) (λ_ s'=>∃σ' H',Inv X pins σ' H' s'/\Q σ' H') X.xe s
noncomputable abbrev TSet:=V->V->V->Hp->(Hp->Prop)->Prop
def PSet (X:Cx) (t:TSet):Prop:=
 ∀(pins:Dc) (s:ib) (σ:St) (H:Hp) (o i v:V) (O Y u:hJ) (Q:Hp->Prop),Inv X pins σ H s->RelV o O->RelV i Y->RelV v u->t o i v H Q->
  oi (qA X.prog X.w) X.A (setItem O Y u) (λ_ s'=>∃H',Inv X pins σ H' s'/\Q H') X.xe s
section
variable {X:Cx} {pos:Pos}
noncomputable def A5 (i:Nat):TG:=λv σ H Q=>Q (σ.set i (ak v)) H
theorem av {i:Nat} {x:J9} (ι:X.N.Nodup) (hi:X.N[i]? =ak x) (hx:Loc X.env.scope x) (hf:X.fn x=true∨X.env.scope.names.lookup x=ak .local:=by first | exact .inl rfl | exact .inr rfl | assumption):PG X (.Name x pos) (A5 i):=by
 intro pins s σ H v u Q I r h;exact Rc (wJ I ι hi hx r (λs' γ=>⟨_,H,γ,h⟩) hf)
noncomputable def gNil:TGs:=λvs σ H Q=>vs=[]/\Q σ H
noncomputable def Ga (t:TG) (u:TGs):TGs:=λvs σ H Q=>∃v r,vs=v::r/\t v σ H fun σ' H'=>u r σ' H' Q
theorem eZ:PGs X [] gNil:=by
 intro pins s σ H vs us Q I r h;obtain⟨e,h⟩:=h;subst e;cases r;exact assignInOrder_nil ⟨σ,H,I,h⟩
theorem aF {e:z8} {es:f' z8} {t:TG} {u:TGs} (h1:PG X e t) (h2:PGs X es u)
  (hs:(assignEach (e::es) X.env).map (·.2)=assign e X.env::(assignEach es X.env).map (·.2):=by rfl):PGs X (e::es) (Ga t u):=by
 intro pins s σ H vs us Q I r h;obtain⟨v,γ,α,h⟩:=h;subst α;cases r with
 | cons r θ=>
   rw[hs];refine assignInOrder_cons (thn (h1 pins s σ H _ _ _ I r h) λ_ Y ⟨O,H1,β,Z⟩=>?_);exact h2 pins Y O H1 _ _ Q β θ Z
noncomputable def gTup (K:bp) (n:Nat) (t:TGs):TG:=λv σ H Q=>∃a xs,v= .ref a/\SqT K H a xs/\xs.length=n/\t xs σ H Q
theorem iP {es:f' z8} {k:Nat} {t:TGs} {n:Nat} (hc:X.calm=true) (h:PGs X es t)
  (hn:(assignEach es X.env).length=n:=by rfl) (ο:(assignEach es X.env).findIdx? (·.1)=none:=by rfl):PG X (.Tuple es k pos) (gTup X.K n t):=by
 intro pins s σ H v u Q I r hw;obtain⟨a,xs,Z,Y,hl,hw⟩:=hw;subst Z;cases r;obtain⟨its,ι,ht,hz⟩:=I.tuple Y;refine assign_Tuple_tuple (I.ok.hd hc) ht (by simp[hn,<-hl,ι.length]) ο λh' O=>?_;have α:Inv X pins σ H {s with heap:=h'}:=I.kept (t':=s.toks) λb o e=>O b o (JU (hF e)) e;exact h pins _ σ H xs _ Q α (by simpa using ι) hw
noncomputable def gSub (to ti:TE) (t:TSet):TG:=λv σ H Q=>to σ H λo H1=>ti σ H1 λi H2=>t o i v H2 λO=>Q σ O
theorem Eh {o i:z8} {to ti:TE} {t:TSet} (ho:PE X o to) (hi:PE X i ti) (hs:PSet X t)
  (ha:∀v,assign (.Subscript o i pos) X.env v=(do
   let O <-holding [v] (eval o X.env)
   let Y <-holding [v,O] (eval i X.env)
   standAt pos
   holding [v,O,Y] (setItem O Y v)
   release [v,O,Y] []):=by intro _;rfl):PG X (.Subscript o i pos) (gSub to ti t):=by
 intro pins s σ H v u Q I r h;rw[ha];refine ew (M3 (thn (ho pins s σ H _ I h) λO α ⟨x,H1,θ,γ,ε⟩=>?_));refine ew (M3 (thn (hi pins α σ H1 _ θ ε) λY Z ⟨y,H2,η,β,π⟩=>?_));refine ew (PY (ew (M3 (thn (hs pins Z σ H2 x y v O Y u _ η γ β r π) λ_ ν ⟨ι,ζ,δ⟩=>?_))));exact wpAny_release ⟨σ,ι,ζ,δ⟩
noncomputable abbrev tAsg (te:TE) (g:TG):TS:=λD σ H=>te σ H λx H1=>g x σ H1 D.nx
theorem qY {tg e:z8} {te:TE} {g:TG} (he:PE X e te) (α:PG X tg g) (hs:swapsWithSole [tg] e pos.line X.env=pure false:=by rfl) (hw:swappedStores [tg] e X.env=pure none:=by rfl)
  (h1:(assignEach [tg] X.env).map (·.2)=[assign tg X.env]:=by rfl):PS X (.Assign [tg] e pos) (tAsg te g):=by
 intro pins s σ H D I h;refine wpAny_Assign_stores (thn (he pins s σ H _ I h) λv O ⟨x,H1,β,Y,Z⟩=>?_) hs hw;rw[h1];exact thn (α pins O σ H1 x v _ β Y Z) λ_ γ q=>q
theorem ax {i:Nat} {x:J9} {e:z8} {te:TE} {pos':Pos} (ι:X.N.Nodup) (hi:X.N[i]? =ak x) (hx:Loc X.env.scope x) (he:PE X e te) (hs:swapsWith e (ak (.Name x pos')) pos.line X.env=pure false:=by rfl) (hf:X.fn x=true∨X.env.scope.names.lookup x=ak .local:=by first | exact .inl rfl | exact .inr rfl | assumption):
  PS X (.Assign [.Name x pos'] e pos) (tAsg te (A5 i)):=by
 intro pins s σ H D I h;refine wpAny_Assign_Name (thn (he pins s σ H _ I h) λv γ ⟨y,H1,α,O,Y⟩=>?_) hs;exact wJ α ι hi hx O (fun β Z=>⟨_,H1,Z,Y⟩) hf
end
section
variable {X:Cx} {pos:Pos}
noncomputable def GG (c:TT) (tb:TS):TS:=λD σ H=>∃W:Nat->St->Hp->Prop,(∃m,W m σ H)/\∀m σ H,W m σ H->
 c σ H λb H1=>if b=true then ∃N:St->Hp->Prop,(∀σ' H',N σ' H'->∃O,O < m/\W O σ' H')/\tb {D with nx:=N,ct:=N,bk:=D.nx} σ H1 else D.nx σ H1
theorem k4 {c:z8} {Z:f' Mp} {tc:TT} {tb:TS} (ν:PassesOwn (qA X.prog X.w) X.A X.env X.xe) (hc:PT X c tc) (hb:PSs X Z tb):PS X (.While c Z [] pos) (GG tc tb):=by
 intro pins s σ H D I h;obtain⟨W,⟨τ,w0⟩,α⟩:=h;refine wpAny_While (codeAny_whileLoop (λn s'=>∃σ' H',Inv X pins σ' H' s'/\W n σ' H') ?_ τ ⟨σ,H,I,w0⟩);rintro n ρ ⟨Y,H1,υ,θ⟩;refine L' ν (thn (hc pins ρ Y H1 _ υ (α n Y H1 θ)) λb ο ⟨H2,ξ,π⟩=>?_);cases b with
 | true=>
   obtain⟨N,ι,π⟩:=π;rw[pT rfl];refine L' ν (thn (hb pins ο Y H2 _ ξ π) λf φ γ=>?_);cases f with
   | next=>
     obtain⟨O,β,ζ,η⟩:=γ;obtain⟨ε,hm,δ⟩:=ι O β η;exact⟨ε,hm,O,β,ζ,δ⟩
   | cont=>
     obtain⟨O,β,ζ,η⟩:=γ;obtain⟨ε,hm,δ⟩:=ι O β η;exact⟨ε,hm,O,β,ζ,δ⟩
   | brk=>exact γ
   | ret v=>exact γ
 | false=>
   rw[oT kv];exact O0 ⟨Y,H2,ξ,π⟩
end
structure It where
 go:Nat->Hp->Prop
 yld:Nat->Hp->V->Hp->Prop
 stop:Nat->Hp->Prop
def FpOk (X:Cx) (pins:Dc) (H:Hp) (b:fy):Prop:=
 H b=none/\b≠X.env.locals/\b∉X.fs/\(b∈X.ex∨X.s₀.heap.objs.size<=b)/\(∀x c,X.env.cells.lookup x=ak c->c≠b)/\∀p∈X.pn++pins,p.1≠b
theorem Inv.fpOk {X:Cx} {pins:Dc} {σ:St} {H H':Hp} {s:ib} {b:fy} (I:Inv X pins σ H s) (hb:s.heap.objs.size<=b) (hn:H' b=none):FpOk X pins H' b:=by
 refine⟨hn,LB (fb I.lt hb),I.nofs hb,.inr (L9 I.sz hb),λx c e z=>?_,λp O z=>?_⟩
 ·obtain⟨v,q⟩:=I.cell x c e;exact kf (fb q.lt (by rw[z];exact hb)) (KY _)
 ·exact kf (fb (hF (I.pin p O).1) (by rw[z];exact hb)) (KY _)
structure Turn (P:qc) (w:u7) (K:bp) (tg:z8) (J:It) (fp:I4) (it:fy) (tn:Nat->z1->Prop):Prop where
 mem:it∈fp
 obj:∀i h,tn i h->∀b∈fp,∃o,h.get? b=ak o/\∀v,o.data≠.cell v
 keep:∀i h h',tn i h->(∀b∈fp,∀o,h.get? b=ak o->h'.get? b=ak o)->tn i h'
 item:∀(X:Cx),X.prog=P->X.w=w->X.K=K->X.calm=true->∀(i:Nat) (pins:Dc) (s:ib) (σ:St) (H:Hp) (E:D9),Inv X pins σ H s->(∀b∈fp,FpOk X pins H b)->tn i s.heap->J.go i H->
  oi (qA P w) X.A (pyNext (.ref it)) (λr s1=>∃u,r=ak u/\
   oi (qA P w) X.A (letOwnedTupleGo tg (.ref it) u) (λ_ s2=>∃x H',Inv X pins σ H' s2/\RelV x u/\J.yld i H x H'/\tn (i + 1) s2.heap/\∀b∈fp,H' b=none) E s1) E s
 done:∀(X:Cx),X.prog=P->X.w=w->X.K=K->X.calm=true->∀(i:Nat) (pins:Dc) (s:ib) (σ:St) (H:Hp) (E:D9),Inv X pins σ H s->(∀b∈fp,FpOk X pins H b)->tn i s.heap->J.stop i H->
  oi (qA P w) X.A (pyNext (.ref it)) (λr s1=>r=none/\Inv X pins σ H s1) E s
 self:∀(A:z3) (i:Nat) (s:ib) (Q:D9) (E:D9),tn i s.heap->Q (.ref it) s->oi (qA P w) A (pyIter (.ref it)) Q E s
noncomputable abbrev TI:=St->Hp->(It->Hp->Prop)->Prop
def PIE (X:Cx) (pins:Dc) (σ:St) (tg:z8) (R:It->Hp->Prop) (O:hJ) (Z:ib):Prop:=
 ∃(it:fy) (fp:I4) (Y:Nat->z1->Prop) (J:It) (H':Hp),O= .ref it/\Inv X pins σ H' Z/\Turn X.prog X.w X.K tg J fp it Y/\Y 0 Z.heap/\(∀b∈fp,FpOk X pins H' b)/\R J H'
def PI (X:Cx) (tg iter:z8) (O:TI):Prop:=
 ∀(pins:Dc) (s:ib) (σ:St) (H:Hp) (R:It->Hp->Prop),Inv X pins σ H s->O σ H R->
  oi (qA X.prog X.w) X.A (eval iter X.env) (λv Y=>oi (qA X.prog X.w) X.A (pyIter v) (PIE X pins σ tg R) X.xe Y) X.xe s
theorem F9 {M:Model} {A:z3} {E:D9} {s:ib} {tg:z8} {it:fy} {u:hJ} {o:P8} {n:Kr} {vs:G'} {Q:Hy} (ho:s.heap.get? it=ak o) (hc:o.cls= .type n) (hd:o.data= .fields vs)
  (hn:["enumerate","zip","dict_itemiterator","dict_reverseitemiterator","odict_iterator","itertools.zip_longest","itertools.pairwise"].contains n=false) (O:Q () s):oi M A (letOwnedTupleGo tg (.ref it) u) Q E s:=by
 unfold letOwnedTupleGo
 cases tg<;>first
  | exact hH O
  | (cases u<;>first
    | exact hH O
    | (refine ew (R1 ho ?_)
       rw[hc,hd];show oi M A (if (["enumerate","zip","dict_itemiterator","dict_reverseitemiterator","odict_iterator","itertools.zip_longest","itertools.pairwise"].contains n&&vs[0]? == ak (rawInt _))=true then _ else _) Q E s;rw[oT (by intro h;rw[hn,zt] at h;cases h)];exact hH O))
noncomputable def Itl (K:bp) (a:fy):It:=
 ⟨λi H=>∃xs x,SqL K H a xs/\xs[i]? =ak x,λi H x H'=>H'=H/\∀xs,SqL K H a xs->xs[i]? =ak x,λi H=>∃xs,SqL K H a xs/\xs.length<=i⟩
noncomputable def Itt (K:bp) (a:fy):It:=
 ⟨λi H=>∃xs x,SqT K H a xs/\xs[i]? =ak x,λi H x H'=>H'=H/\∀xs,SqT K H a xs->xs[i]? =ak x,λi H=>∃xs,SqT K H a xs/\xs.length<=i⟩
noncomputable def Itr (lo:Int) (n:Nat):It:=⟨λi _=>i < n,λi H x H'=>H'=H/\x= .int (lo + i),λi _=>n<=i⟩
theorem zm {P:qc} {w:u7} {K:bp} {tg:z8} (a it:fy):Turn P w K tg (Itl K a) [it] it (λi h=>h.IsListIter it a i) where
 mem:=by simp
 obj:=λi h st b hb=>by
  have e:b=it:=by simpa using hb
  subst e;obtain⟨o,e,c,d⟩:=st;exact⟨o,e,λv z=>by rw[d] at z;cases z⟩
 keep:=λi h h' st k=>st.at λo e=>k it @F o e
 item:=by
  intro X β hw γ η i pins s σ H E I hf st α;subst β hw γ;obtain⟨xs,x,O,Z⟩:=α;obtain⟨its,Y,p,hz⟩:=I.list O;obtain⟨u,hu,ν⟩:=Y.get Z;obtain⟨θ,ζ,π,υ,ε,δ⟩:=hf it @F;refine wpAny_pyNext_list_item st p.isList (x:=u) (by simpa using hu) λh' ι ξ=>?_;have τ:Inv X pins σ H {s with heap:=h'}:=I.turned (t':=s.toks) (λb o hb e=>(ξ.2 b hb).trans e) θ ζ υ ε δ;obtain⟨o,e,c,d⟩:=id ι;exact⟨u,rfl,F9 (s:={s with heap:=h'}) e c d @C ⟨x,H,τ,ν,⟨rfl,λys ο=>by rw[I.list_inj ο O];exact Z⟩,ι,λb hb=>(hf b hb).1⟩⟩
 done:=by
  intro X β hw γ η i pins s σ H E I hf st α;subst β hw γ;obtain⟨xs,O,Z⟩:=α;obtain⟨its,Y,p,hz⟩:=I.list O;obtain⟨θ,ζ,π,υ,ε,δ⟩:=hf it @F;have hl:=Y.length;exact wpAny_pyNext_list_end (I.ok.hd η) st p.isList (by simp;omega) λh' ρ=>⟨rfl,I.turned (t':=s.toks) (λb o hb e=>ρ b o hb e) θ ζ υ ε δ⟩
 self:=λ_ _ _ _ _ st h=>wpAny_pyIter_listiter st h
theorem xQ {P:qc} {w:u7} {K:bp} {tg:z8} (a it:fy):Turn P w K tg (Itt K a) [it] it (λi h=>h.IsTupleIter it a i) where
 mem:=by simp
 obj:=λi h st b hb=>by
  have e:b=it:=by simpa using hb
  subst e;obtain⟨o,e,c,d⟩:=st;exact⟨o,e,λv z=>by rw[d] at z;cases z⟩
 keep:=λi h h' st k=>st.at λo e=>k it @F o e
 item:=by
  intro X β hw γ η i pins s σ H E I hf st α;subst β hw γ;obtain⟨xs,x,O,Z⟩:=α;obtain⟨its,Y,p,hz⟩:=I.tuple O;obtain⟨u,hu,ν⟩:=Y.get Z;obtain⟨θ,ζ,π,υ,ε,δ⟩:=hf it @F;refine wpAny_pyNext_tuple_item st (show s.heap.IsTuple a its.toArray from p) (x:=u) (by simpa using hu) λh' ι ξ=>?_;have τ:Inv X pins σ H {s with heap:=h'}:=I.turned (t':=s.toks) (λb o hb e=>(ξ.2 b hb).trans e) θ ζ υ ε δ;obtain⟨o,e,c,d⟩:=id ι;exact⟨u,rfl,F9 (s:={s with heap:=h'}) e c d @C ⟨x,H,τ,ν,⟨rfl,λys ο=>by rw[I.tuple_inj ο O];exact Z⟩,ι,λb hb=>(hf b hb).1⟩⟩
 done:=by
  intro X β hw γ η i pins s σ H E I hf st α;subst β hw γ;obtain⟨xs,O,Z⟩:=α;obtain⟨its,Y,p,hz⟩:=I.tuple O;obtain⟨θ,ζ,π,υ,ε,δ⟩:=hf it @F;have hl:=Y.length;exact wpAny_pyNext_tuple_end (I.ok.hd η) st (show s.heap.IsTuple a its.toArray from p) (by simp;omega) λh' ρ=>⟨rfl,I.turned (t':=s.toks) (λb o hb e=>ρ b o hb e) θ ζ υ ε δ⟩
 self:=λ_ _ _ _ _ st h=>wpAny_pyIter_tupleiter st h
theorem xR {P:qc} {w:u7} {K:bp} {tg:z8} (it:fy) (lo:Int) (n:Nat):Turn P w K tg (Itr lo n) [it] it (λi h=>IsRangeIter h it (lo + (i:Nat) * 1) ((n:Int) - (i:Nat)) 1) where
 mem:=by simp
 obj:=λi h st b hb=>by
  have e:b=it:=by simpa using hb
  subst e
  exact⟨_,st,λv z=>by
   have ε:Data.fields _=Data.cell v:=z;cases ε⟩
 keep:=λi h h' st k=>k it @F _ st
 item:=by
  intro X Z hw α Y i pins s σ H E I hf st O;subst Z hw α;obtain⟨θ,δ,η,υ,γ,β⟩:=hf it @F;have W:=Walks.range (prog:=X.prog) (w:=X.w) (I.ok.hd Y) it lo 1 n;refine W.item i s _ _ O st λv h' tk ζ ι ν=>?_;obtain⟨t,rfl⟩:=ζ;have ο:Inv X pins σ H {s with heap:=h',toks:=tk}:=I.turned (λb o hb e=>ν b o (by simpa using hb) e) θ δ υ γ β;refine⟨_,rfl,F9 (s:={s with heap:=h',toks:=tk}) (n:="range_iterator") ι rfl rfl @C ⟨.int (lo + i),H,ο,⟨t,?_⟩,⟨rfl,rfl⟩,ι,λb hb=>(hf b hb).1⟩⟩;rw[Int.mul_one]
 done:=by
  intro X Z hw α Y i pins s σ H E I hf st O;subst Z hw α;obtain⟨θ,δ,η,υ,γ,β⟩:=hf it @F;exact wpAny_pyNext_range_end (I.ok.hd Y) st (by have:n<=i:=O;omega) λh' ξ=>⟨rfl,I.turned (t':=s.toks) (λb o hb e=>ξ b o hb e) θ δ υ γ β⟩
 self:=λ_ _ _ _ _ st h=>wpAny_pyIter_rangeiter st h
section
variable {X:Cx} {tg:z8}
noncomputable abbrev Io (K:bp) (tl:TE):TI:=fun σ H R=>tl σ H λx H1=>∃a,x= .ref a/\(∃xs,SqL K H1 a xs)/\R (Itl K a) H1
noncomputable abbrev iTup (K:bp) (tl:TE):TI:=fun σ H R=>tl σ H λx H1=>∃a,x= .ref a/\(∃xs,SqT K H1 a xs)/\R (Itt K a) H1
theorem FL {l:z8} {tl:TE} (hl:PE X l tl):PI X tg l (Io X.K tl):=by
 intro pins s σ H R I h;refine thn (hl pins s σ H _ I h) λv O ⟨x,H1,I1,Y,Z⟩=>?_;obtain⟨a,e,⟨xs,α⟩,q⟩:=Z;subst e;cases Y;obtain⟨its,ι,p,hz⟩:=I1.list α;refine M8 p.isList ?_;refine⟨O.heap.objs.size,[O.heap.objs.size],_,_,H1,rfl,I1.kept (t':=O.toks) λb o e=>gB _ e,zm a _,⟨_,pB _ rfl,rfl,rfl⟩,λb hb=>?_,q⟩;have e:b=O.heap.objs.size:=by simpa using hb
 subst e;exact I1.fpOk (ru _) (I1.hok.fresh (ru _))
theorem HJ {l:z8} {tl:TE} (hl:PE X l tl):PI X tg l (iTup X.K tl):=by
 intro pins s σ H R I h;refine thn (hl pins s σ H _ I h) λv O ⟨x,H1,I1,Y,Z⟩=>?_;obtain⟨a,e,⟨xs,α⟩,q⟩:=Z;subst e;cases Y;obtain⟨its,ι,p,hz⟩:=I1.tuple α;refine Nb (show O.heap.IsTuple a its.toArray from p) ?_;refine⟨O.heap.objs.size,[O.heap.objs.size],_,_,H1,rfl,I1.kept (t':=O.toks) λb o e=>gB _ e,xQ a _,⟨_,pB _ rfl,rfl,rfl⟩,λb hb=>?_,q⟩;have e:b=O.heap.objs.size:=by simpa using hb
 subst e;exact I1.fpOk (ru _) (I1.hok.fresh (ru _))
theorem wV {pins:Dc} {σ:St} {H:Hp} {s:ib} {R:It->Hp->Prop} {E:D9} {lo hi:Int} {t u v:Tok} {tk:Nat} (I:Inv X pins σ H s) (h1: -(2 ^ 62)<=lo) (h2:lo < 2 ^ 62) (O: -(2 ^ 62)<=hi) (ρ:hi < 2 ^ 62)
  (q:R (Itr lo (hi - lo).toNat) H):oi (qA X.prog X.w) X.A (pyIter (.ref s.heap.objs.size)) (PIE X pins σ tg R) E {s with heap:=s.heap.push {cls:= .type "range",data:= .fields #[.int lo t,.int hi u,.int 1 v]},toks:=tk}:=by
 refine wpAny_pyIter_range (IsRange.new ..) (small_one h1 h2 O ρ) ?_;have I1:Inv X pins σ H {s with heap:=s.heap.push {cls:= .type "range",data:= .fields #[.int lo t,.int hi u,.int 1 v]},toks:=tk}:=I.kept λb o e=>gB _ e
 refine⟨(s.heap.push {cls:= .type "range",data:= .fields #[.int lo t,.int hi u,.int 1 v]}).objs.size,[(s.heap.push {cls:= .type "range",data:= .fields #[.int lo t,.int hi u,.int 1 v]}).objs.size],_,_,H,rfl,
  I1.kept (t':=tk) λb o e=>gB _ e,xR _ lo (hi - lo).toNat,?_,λb hb=>?_,q⟩
 ·have Z:lo + ((0:Nat):Int) * 1=lo:=by simp
  have Y:(((hi - lo).toNat:Nat):Int) - ((0:Nat):Int)=Builtin.Range.rangeSize lo hi 1:=by rw[rangeSize_one];split<;>omega
  show IsRangeIter _ _ (lo + ((0:Nat):Int) * 1) ((((hi - lo).toNat:Nat):Int) - ((0:Nat):Int)) 1;rw[Z,Y];exact pB _ rfl
 ·have e:b=(s.heap.push {cls:= .type "range",data:= .fields #[.int lo t,.int hi u,.int 1 v]}).objs.size:=by simpa using hb
  subst e;exact I1.fpOk (ru _) (I1.hok.fresh (ru _))
noncomputable abbrev JE (ta:TA):TI:=fun σ H R=>ta σ H λvs H1=>∃j:Int,vs=[.int j]/\-(2 ^ 62)<=j/\j < 2 ^ 62/\R (Itr 0 j.toNat) H1
noncomputable abbrev JD (ta:TA):TI:=fun σ H R=>ta σ H λvs H1=>∃i j:Int,vs=[.int i,.int j]/\(-(2 ^ 62)<=i/\i < 2 ^ 62/\-(2 ^ 62)<=j/\j < 2 ^ 62)/\R (Itr i (j - i).toNat) H1
theorem cq {a:z8} {ta:TA} {p pos:Pos} (Z:Gl X "range") (hm:X.mg "range"=none) (ha:PA X [a] ta) (hs:qQ [a] X.env=[(false,eval a X.env)]:=by rfl):PI X tg (.Call (.Name "range" p) [a] [] pos) (JE ta):=by
 intro pins s σ H R I h;refine QA (jP I Z hm boot_range (JX (thn (ha pos pins s σ H _ I h) λus β ⟨vs,H1,α,Y,O⟩=>?_) hs rfl));obtain⟨j,e,O,π,q⟩:=O;subst e;cases Y with
 | cons r θ=>
   cases θ;obtain⟨t,rfl⟩:=r;exact call_range_1 (wV α @A @A O π (by simpa using q))
theorem Ak {a b:z8} {ta:TA} {p pos:Pos} (β:Gl X "range") (hm:X.mg "range"=none) (ha:PA X [a,b] ta) (hs:qQ [a,b] X.env=[(false,eval a X.env),(false,eval b X.env)]:=by rfl) (ο:qQ [b] X.env=[(false,eval b X.env)]:=by rfl):
  PI X tg (.Call (.Name "range" p) [a,b] [] pos) (JD ta):=by
 intro pins s σ H R I h;refine QA (jP I β hm boot_range (JX (thn (ha pos pins s σ H _ I h) λus δ ⟨vs,H1,γ,Y,O⟩=>?_) (by rw[hs,ο]) (by rw[ο];rfl)));obtain⟨i,j,e,⟨O,α,Z,π⟩,q⟩:=O;subst e;cases Y with
 | cons r θ=>
   cases θ with
   | cons r' θ=>
     cases θ;obtain⟨t,rfl⟩:=r;obtain⟨t',rfl⟩:=r';exact call_range_2 (wV γ O α Z π q)
noncomputable def tFor (Y:TI) (g:TG) (tb:TS):TS:=λD σ H=>Y σ H λJ H1=>∃W:Nat->Nat->St->Hp->Prop,(∃m,W 0 m σ H1)/\∀i m σ H,W i m σ H->
 (J.stop i H/\D.nx σ H)∨(J.go i H/\∃N:St->Hp->Prop,(∀σ' H',N σ' H'->∃O,O < m/\W (i + 1) O σ' H')/\∀x H',J.yld i H x H'->g x σ H' fun ν H2=>tb {D with nx:=N,ct:=N,bk:=D.nx} ν H2)
noncomputable def uh (fp:I4) (h:z1):Dc:=fp.filterMap λb=>(h.get? b).map λo=>(b,o)
theorem j5 {fp:I4} {h:z1} {b:fy} {o:P8} (hb:b∈fp) (e:h.get? b=ak o):(b,o)∈uh fp h:=Oa.mpr ⟨b,hb,by rw[e];rfl⟩
theorem Av {fp:I4} {h:z1} {p:fy×P8} (O:p∈uh fp h):p.1∈fp/\h.get? p.1=ak p.2:=by
 obtain⟨b,hb,e⟩:=Oa.mp O;cases q:h.get? b with
 | none=>rw[q] at e;cases e
 | some o=>
   rw[q] at e;have Y:(b,o)=p:=mu e;subst Y;exact⟨hb,q⟩
theorem Inv.pinned {pins:Dc} {σ:St} {H:Hp} {s:ib} {fp:I4} (I:Inv X pins σ H s) (hf:∀b∈fp,FpOk X pins H b) (ho:∀b∈fp,∃o,s.heap.get? b=ak o/\∀v,o.data≠.cell v):Inv X (pins++uh fp s.heap) σ H s:=
 I.pins_of λp Y=>(px.mp Y).elim (λz=>I.pin p (oD _ z)) λz=>by
  obtain⟨hb,e⟩:=Av z;obtain⟨θ,α,Z,_⟩:=hf p.1 hb;obtain⟨o,O,d⟩:=ho p.1 hb;rw[e] at O;cases O;exact⟨e,θ,α,Z,d⟩
theorem Inv.unpinned {pins pl:Dc} {σ:St} {H:Hp} {s:ib} (I:Inv X (pins++pl) σ H s):Inv X pins σ H s:=I.pins_of λp O=>I.pin p (oD _ (ro _ O))
theorem c8 {iter:z8} {δ:f' Mp} {wi:TI} {g:TG} {tb:TS} {pos:Pos} (υ:PassesOwn (qA X.prog X.w) X.A X.env X.xe) (hc:X.calm=true) (hi:PI X tg iter wi) (hg:PG X tg g) (hb:PSs X δ tb)
  (hs:∀x,foldedSetIterable iter X.env x=pure x:=by intro _;rfl):PS X (.For tg iter δ [] pos) (tFor wi g tb):=by
 intro pins s σ H D I h;refine wpAny_For (thn (hi pins s σ H _ I h) λv s1 h1=>thn h1 λa0 s2 h2=>?_) hs;obtain⟨it,fp,tn,J,H2,e,I2,T,ξ,f2,W,⟨m0,w0⟩,η⟩:=h2;subst e;have α:∀{H':Hp},(∀b∈fp,H' b=none)->∀b∈fp,FpOk X pins H' b:=λhn b hb=>⟨hn b hb,(f2 b hb).2⟩;refine codeAny_forLoop_any (λn s'=>∃i σ' H',Inv X pins σ' H' s'/\tn i s'.heap/\(∀b∈fp,H' b=none)/\W i n σ' H') ?_ m0 ⟨0,σ,H2,I2,ξ,λb hb=>(f2 b hb).1,w0⟩;rintro n s3 ⟨i,Z,χ,I3,θ,φ,w3⟩;rcases η i n Z χ w3 with ⟨stop,qn⟩ | ⟨go,N,hN,step⟩
 ·refine L' υ (thn (T.done X rfl rfl rfl hc i pins s3 Z χ X.xe I3 (α φ) θ stop) λr Y ⟨ω,γ⟩=>?_);subst ω;exact O0 ⟨Z,χ,γ,qn⟩
 ·refine L' υ (thn (T.item X rfl rfl rfl hc i pins s3 Z χ X.xe I3 (α φ) θ go) λr Y ⟨u,ω,h4⟩=>?_);subst ω;refine L' υ (thn h4 λ_ ε ⟨x,H5,I5,r5,y5,ζ,ρ⟩=>?_);have ι:=I5.pinned (α ρ) (T.obj _ _ ζ);refine L' υ (thn (hg _ ε Z H5 x u _ ι r5 (step x H5 y5)) λ_ s6 ⟨π,H6,I6,q6⟩=>?_);refine L' υ (thn (hb _ s6 π H6 _ I6 q6) λf ψ ο=>?_)
  have again:∀{O:St} {β:Hp},Inv X (pins++uh fp ε.heap) O β ψ->N O β->∃m,m < n/\∃i σ' H',Inv X pins σ' H' ψ/\tn i ψ.heap/\(∀b∈fp,H' b=none)/\W i m σ' H':=λ{O β} I7 τ=>by
   obtain⟨m',hm,w7⟩:=hN O β τ;refine⟨m',hm,i + 1,O,β,I7.unpinned,T.keep _ _ _ ζ λb hb o e=>(I7.pin (b,o) (oD _ (oD _ (j5 hb e)))).1,λb hb=>?_,w7⟩;obtain⟨o,e,d⟩:=T.obj _ _ ζ b hb;exact(I7.pin (b,o) (oD _ (oD _ (j5 hb e)))).2.1
  cases f with
  | next=>obtain⟨O,β,I7,τ⟩:=ο;exact again I7 τ
  | cont=>obtain⟨O,β,I7,τ⟩:=ο;exact again I7 τ
  | brk=>obtain⟨O,β,I7,ο⟩:=ο;exact⟨O,β,I7.unpinned,ο⟩
  | ret v=>obtain⟨x7,O,β,I7,ν,ο⟩:=ο;exact⟨x7,O,β,I7.unpinned,ν,ο⟩
end
theorem fX {K:bp} {a:fy} {xs:f' V} {g:TG} {tb:TS} {D:Ends} {σ:St} {H:Hp} (O:Nat->St->Hp->Prop) (h0:O 0 σ H) (hl:∀i σ H,i<=xs.length->O i σ H->SqL K H a xs)
  (hs:∀i x σ H,xs[i]? =ak x->O i σ H->g x σ H fun ν H2=>tb {D with nx:=O (i + 1),ct:=O (i + 1),bk:=D.nx} ν H2) (hd:∀σ H,O xs.length σ H->D.nx σ H):
  ∃W:Nat->Nat->St->Hp->Prop,(∃m,W 0 m σ H)/\∀i m σ H,W i m σ H->
    ((Itl K a).stop i H/\D.nx σ H)∨((Itl K a).go i H/\∃N:St->Hp->Prop,(∀σ' H',N σ' H'->∃Z,Z < m/\W (i + 1) Z σ' H')/\∀x H',(Itl K a).yld i H x H'->g x σ H' fun ν H2=>tb {D with nx:=N,ct:=N,bk:=D.nx} ν H2):=by
 refine⟨λi m σ H=>m=xs.length - i/\i<=xs.length/\O i σ H,⟨xs.length,@F,L0 _,h0⟩,?_⟩;rintro i m σ H ⟨rfl,hi,p⟩;have q:=hl i σ H hi p;by_cases Y:i < xs.length
 ·refine .inr ⟨⟨xs,xs[i],q,by simp[Y]⟩,O (i + 1),fun σ' H' α=>⟨xs.length - (i + 1),by omega,rfl,Y,α⟩,λx H' y=>?_⟩;obtain⟨e,y⟩:=y;subst e;exact hs i x σ _ (y xs q) p
 ·have e:i=xs.length:=by omega
  subst e;exact .inl ⟨⟨xs,q,ru _⟩,hd σ H p⟩
theorem jR {lo:Int} {n:Nat} {g:TG} {tb:TS} {D:Ends} {σ:St} {H:Hp} (Y:Nat->St->Hp->Prop) (h0:Y 0 σ H)
  (hs:∀i σ H,i < n->Y i σ H->g (.int (lo + i)) σ H fun ν H2=>tb {D with nx:=Y (i + 1),ct:=Y (i + 1),bk:=D.nx} ν H2) (hd:∀σ H,Y n σ H->D.nx σ H):
  ∃W:Nat->Nat->St->Hp->Prop,(∃m,W 0 m σ H)/\∀i m σ H,W i m σ H->
    ((Itr lo n).stop i H/\D.nx σ H)∨((Itr lo n).go i H/\∃N:St->Hp->Prop,(∀σ' H',N σ' H'->∃Z,Z < m/\W (i + 1) Z σ' H')/\∀x H',(Itr lo n).yld i H x H'->g x σ H' fun ν H2=>tb {D with nx:=N,ct:=N,bk:=D.nx} ν H2):=by
 refine⟨λi m σ H=>m=n - i/\i<=n/\Y i σ H,⟨n,@F,L0 _,h0⟩,?_⟩;rintro i m σ H ⟨rfl,hi,p⟩;by_cases O:i < n
 ·refine .inr ⟨O,Y (i + 1),fun σ' H' α=>⟨n - (i + 1),by omega,rfl,O,α⟩,λx H' y=>?_⟩;obtain⟨e,y⟩:=y;subst e y;exact hs i σ _ O p
 ·have e:i=n:=by omega
  subst e;exact .inl ⟨ru _,hd σ H p⟩
noncomputable abbrev R2:=V->V->Hp->VK->Prop
def OpR (X:Cx) (f:hJ->hJ->Sem hJ) (r:R2):Prop:=
 ∀(pins:Dc) (s:ib) (σ:St) (H:Hp) (x y:V) (v u:hJ) (Q:VK),Inv X pins σ H s->RelV x v->RelV y u->r x y H Q->
  oi (qA X.prog X.w) X.A (f v u) (EP X pins σ Q) X.xe s
def kU (X:Cx) (f:hJ) (r:f' V->Hp->VK->Prop):Prop:=
 ∀(pins:Dc) (s:ib) (σ:St) (H:Hp) (xs:f' V) (us:E') (Q:VK),Inv X pins σ H s->Vals xs us->r xs H Q->
  oi (qA X.prog X.w) X.A (call f us) (EP X pins σ Q) X.xe s
noncomputable abbrev tOp (r:R2) (ta tb:TE):TE:=fun σ H Q=>ta σ H λx H1=>tb σ H1 λy H2=>r x y H2 Q
noncomputable def rI (C:Int->Int->Prop) (g:Int->Int->V):R2:=λx y H Q=>∃i j,x= .int i/\y= .int j/\C i j/\Q (g i j) H
noncomputable def rI0 (g:Int->Int->V):R2:=λx y H Q=>∃i j,x= .int i/\y= .int j/\Q (g i j) H
section
variable {X:Cx} {a b c:z8} {ta tb tc:TE} {pos:Pos}
theorem binT (ha:PE X a ta) (hb:PE X b tb) {pins:Dc} {s:ib} {σ:St} {H:Hp} {R:V->V->Hp->Prop} (I:Inv X pins σ H s)
  (h:ta σ H λx H1=>tb σ H1 λy H2=>R x y H2) {Q:D9} {f:hJ->hJ->Sem hJ}
  (hf:∀v u Z x y H2,Inv X pins σ H2 Z->RelV x v->RelV y u->R x y H2->oi (qA X.prog X.w) X.A (f v u) Q X.xe Z):
  oi (qA X.prog X.w) X.A (eval a X.env) (λv Y=>oi (qA X.prog X.w) X.A (eval b X.env) (λu O=>oi (qA X.prog X.w) X.A (f v u) Q X.xe O) X.xe Y) X.xe s:=by
 refine thn (ha pins s σ H _ I h) λv α ⟨x,H1,ζ,γ,δ⟩=>?_;refine thn (hb pins α σ H1 _ ζ δ) λu Z ⟨y,H2,ε,β,π⟩=>?_;exact hf v u Z x y H2 ε γ β π
theorem au {O:Operator} {r:R2} (ho:OpR X (binaryOp O) r) (ha:PE X a ta) (hb:PE X b tb):PE X (.BinOp a O b pos) (tOp r ta tb):=by
 intro pins s σ H Q I h;exact wpAny_BinOp (binT ha hb I h λv u Y x y H2 β α Z q=>ho pins Y σ H2 x y v u Q β α Z q)
theorem opI {f:hJ->hJ->Sem hJ} {C:Int->Int->Prop} {g:Int->Int->Int}
  (rule:∀(i j:Int) (t u:Tok) (s:ib) (Q:D9) (E:D9),C i j->Q (.int (g i j) s.toks) {s with toks:=s.toks + 1}->oi (qA X.prog X.w) X.A (f (.int i t) (.int j u)) Q E s):
  OpR X f (rI C λi j=> .int (g i j)):=by
 intro pins s σ H x y v u Q I Y O h;obtain⟨i,j,rfl,rfl,Z,q⟩:=h;obtain⟨t,rfl⟩:=Y;obtain⟨t',rfl⟩:=O;exact rule i j t t' s _ _ Z ⟨.int (g i j),H,I.tok _,⟨_,rfl⟩,q⟩
theorem opI0 {f:hJ->hJ->Sem hJ} {g:Int->Int->Int}
  (rule:∀(i j:Int) (t u:Tok) (s:ib) (Q:D9) (E:D9),Q (.int (g i j) s.toks) {s with toks:=s.toks + 1}->oi (qA X.prog X.w) X.A (f (.int i t) (.int j u)) Q E s):
  OpR X f (rI0 λi j=> .int (g i j)):=by
 intro pins s σ H x y v u Q I Y O h;obtain⟨i,j,rfl,rfl,q⟩:=h;obtain⟨t,rfl⟩:=Y;obtain⟨t',rfl⟩:=O;exact rule i j t t' s _ _ ⟨.int (g i j),H,I.tok _,⟨_,rfl⟩,q⟩
theorem opB0 {f:hJ->hJ->Sem hJ} {g:Int->Int->JY}
  (rule:∀(i j:Int) (t u:Tok) (s:ib) (Q:D9) (E:D9),Q (.bool (g i j)) s->oi (qA X.prog X.w) X.A (f (.int i t) (.int j u)) Q E s):
  OpR X f (rI0 λi j=> .bl (g i j)):=by
 intro pins s σ H x y v u Q I Y O h;obtain⟨i,j,rfl,rfl,q⟩:=h;obtain⟨t,rfl⟩:=Y;obtain⟨t',rfl⟩:=O;exact rule i j t t' s _ _ ⟨.bl (g i j),H,I,rfl,q⟩
def CDiv (i j:Int):Prop:=0 < j/\j < 1073741824
def JP (i j:Int):Prop:=j≠0/\j.natAbs < 1073741824
def CPow (i j:Int):Prop:=0<=j/\j<=1000000/\i.natAbs < 2 ^ 64
def CMul (i j:Int):Prop:=(-(2 ^ 64) < i/\i < 2 ^ 64)∨(-(2 ^ 64) < j/\j < 2 ^ 64)
theorem CMul.ok {i j:Int} (h:CMul i j):IntMulOk i j:=by
 rcases h with ⟨h1,h2⟩ | ⟨h1,h2⟩
 ·exact .of_left (intBits_le_64 h1 h2)
 ·exact .of_right (intBits_le_64 h1 h2)
theorem xP (k:Nat):(0:Int)<=2 ^ k:=by
 rw[two_pow_cast];exact Mh _
theorem dH:OpR X (binaryOp .Add) (rI0 λi j=> .int (i + j)):=opI0 λ_ _ _ _ _ _ _ q=>add_int q
theorem eg:OpR X (binaryOp .Sub) (rI0 λi j=> .int (i - j)):=opI0 λ_ _ _ _ _ _ _ q=>sub_int q
theorem hU:OpR X (binaryOp .Mult) (rI CMul λi j=> .int (i * j)):=opI λ_ _ _ _ _ _ _ hc q=>mul_int q hc.ok
theorem jM:OpR X (binaryOp .FloorDiv) (rI CDiv λi j=> .int (i / j)):=opI λi j _ _ _ _ _ hc q=>by
 have h1:(0:Int) < j:=hc.1;have h2:j < 1073741824:=hc.2;exact floordiv_int @A (by rw[P7 i @A];exact q) (.inl (PyProof.noPylong_small @A))
theorem gG:OpR X (binaryOp .Mod) (rI (λ_ j=>0 < j) λi j=> .int (i % j)):=opI λi j _ _ _ _ _ hc q=>by
 have h1:(0:Int) < j:=hc;exact mod_int' @A (by rw[Int.fmod_eq_emod_of_nonneg i @A];exact q)
theorem bM:OpR X (binaryOp .LShift) (rI CPow λi j=> .int (i * 2 ^ j.toNat)):=opI λ_ _ _ _ _ _ _ hc q=>lshift_int_small hc.1 hc.2.1 hc.2.2 q
theorem oM:OpR X (binaryOp .RShift) (rI (λ_ j=>0<=j) λi j=> .int (i / 2 ^ j.toNat)):=opI λi j _ _ _ _ _ hc q=>
 rshift_int hc (by rw[P7 i (xP _)];exact q)
theorem gH:OpR X (binaryOp .BitAnd) (rI0 λi j=> .int (K' i j)):=opI0 λ_ _ _ _ _ _ _ q=>and_int q
theorem FQ:OpR X (binaryOp .BitOr) (rI0 λi j=> .int (NQ i j)):=opI0 λ_ _ _ _ _ _ _ q=>or_int q
theorem fw:OpR X (binaryOp .BitXor) (rI0 λi j=> .int (Ny i j)):=opI0 λ_ _ _ _ _ _ _ q=>xor_int q
end
noncomputable def scal:V->V->JY
 | .non,.non=>true | .non,.int _=>true | .int _,.non=>true | .non,.bl _=>true | .bl _,.non=>true | .non,.str _=>true | .str _,.non=>true
 | .int _,.int _=>true | .bl _,.bl _=>true | .str _,.str _=>true | .byt _,.byt _=>true
 | .int _,.str _=>true | .str _,.int _=>true | .bl _,.str _=>true | .str _,.bl _=>true
 | _,_=>false
noncomputable def rEq:R2:=λx y H Q=>scal x y=true/\Q (.bl (decide (x=y))) H
noncomputable def rNe:R2:=λx y H Q=>scal x y=true/\Q (.bl (!decide (x=y))) H
theorem Bk {i j:Int}:decide (V.int i=V.int j)=(i == j):=by
 rw[Li];simp
theorem Ex {i j:JY}:decide (V.bl i=V.bl j)=(i == j):=by
 rw[Li];simp
theorem Bj {i j:J9}:decide (V.str i=V.str j)=(i == j):=by
 rw[Li];simp
theorem Bl {i j:Kw UInt8}:decide (V.byt i=V.byt j)=(i.toList == j.toList):=by
 rw[Li];cases i;cases j;simp
section
variable {X:Cx} {a b c:z8} {ta tb tc:TE} {pos:Pos}
theorem bN {pins:Dc} {σ:St} {H:Hp} {s:ib} {Q:VK} {k O:JY} (I:Inv X pins σ H s) (q:Q (.bl k) H) (e:k=O):EP X pins σ Q (.bool O) s:=by
 subst e;exact⟨.bl k,H,I,rfl,q⟩
theorem kO:OpR X (compareOp .Eq) rEq:=by
 intro pins s σ H x y v u Q I Y O h;obtain⟨hs,q⟩:=h;cases x with
 | non=>
   cases Y;cases y with
   | non=>cases O;exact PySem.EqNone.eq_none_none (bN I q @F)
   | bl j=>cases O;exact PySem.EqNone.eq_none_bool (bN I q @F)
   | int j=>obtain⟨t',rfl⟩:=O;exact PySem.EqNone.eq_none_int (bN I q @F)
   | str j=>obtain⟨t',rfl⟩:=O;exact PySem.EqNone.eq_none_str (bN I q @F)
   | _=>exact kf (show false=true from hs) kv
 | bl i=>
   cases Y;cases y with
   | non=>cases O;exact PySem.EqNone.eq_bool_none (bN I q @F)
   | bl j=>cases O;exact eq_bool (bN I q Ex)
   | str j=>obtain⟨t',rfl⟩:=O;exact PySem.EqMixed.eq_bool_str (bN I q @F)
   | _=>exact kf (show false=true from hs) kv
 | int i=>
   obtain⟨t,rfl⟩:=Y;cases y with
   | non=>cases O;exact PySem.EqNone.eq_int_none (bN I q @F)
   | int j=>obtain⟨t',rfl⟩:=O;exact eq_int (bN I q Bk)
   | str j=>obtain⟨t',rfl⟩:=O;exact PySem.EqMixed.eq_int_str (bN I q @F)
   | _=>exact kf (show false=true from hs) kv
 | str i=>
   obtain⟨t,rfl⟩:=Y;cases y with
   | non=>cases O;exact PySem.EqNone.eq_str_none (bN I q @F)
   | bl j=>cases O;exact PySem.EqMixed.eq_str_bool (bN I q @F)
   | int j=>obtain⟨t',rfl⟩:=O;exact PySem.EqMixed.eq_str_int (bN I q @F)
   | str j=>obtain⟨t',rfl⟩:=O;exact eq_str (bN I q Bj)
   | _=>exact kf (show false=true from hs) kv
 | byt i=>
   obtain⟨t,rfl⟩:=Y;cases y with
   | byt j=>obtain⟨t',rfl⟩:=O;exact PySem.W.eq_bytes (bN I q Bl)
   | _=>exact kf (show false=true from hs) kv
 | _=>cases y<;>exact kf (show false=true from hs) kv
theorem mz:OpR X (compareOp .NotEq) rNe:=by
 intro pins s σ H x y v u Q I Y O h;obtain⟨hs,q⟩:=h;cases x with
 | non=>
   cases Y;cases y with
   | non=>cases O;exact PySem.EqNone.ne_none_none (bN I q @F)
   | bl j=>cases O;exact PySem.EqNone.ne_none_bool (bN I q @F)
   | int j=>obtain⟨t',rfl⟩:=O;exact PySem.EqNone.ne_none_int (bN I q @F)
   | str j=>obtain⟨t',rfl⟩:=O;exact PySem.EqNone.ne_none_str (bN I q @F)
   | _=>exact kf (show false=true from hs) kv
 | bl i=>
   cases Y;cases y with
   | non=>cases O;exact PySem.EqNone.ne_bool_none (bN I q @F)
   | bl j=>cases O;exact ne_bool (bN I q (y3 not Ex))
   | str j=>obtain⟨t',rfl⟩:=O;exact PySem.EqMixed.ne_bool_str (bN I q @F)
   | _=>exact kf (show false=true from hs) kv
 | int i=>
   obtain⟨t,rfl⟩:=Y;cases y with
   | non=>cases O;exact PySem.EqNone.ne_int_none (bN I q @F)
   | int j=>obtain⟨t',rfl⟩:=O;exact ne_int (bN I q (y3 not Bk))
   | str j=>obtain⟨t',rfl⟩:=O;exact PySem.EqMixed.ne_int_str (bN I q @F)
   | _=>exact kf (show false=true from hs) kv
 | str i=>
   obtain⟨t,rfl⟩:=Y;cases y with
   | non=>cases O;exact PySem.EqNone.ne_str_none (bN I q @F)
   | bl j=>cases O;exact PySem.EqMixed.ne_str_bool (bN I q @F)
   | int j=>obtain⟨t',rfl⟩:=O;exact PySem.EqMixed.ne_str_int (bN I q @F)
   | str j=>obtain⟨t',rfl⟩:=O;exact ne_str (bN I q (y3 not Bj))
   | _=>exact kf (show false=true from hs) kv
 | byt i=>
   obtain⟨t,rfl⟩:=Y;cases y with
   | byt j=>obtain⟨t',rfl⟩:=O;exact PySem.W.ne_bytes (bN I q (y3 not Bl))
   | _=>exact kf (show false=true from hs) kv
 | _=>cases y<;>exact kf (show false=true from hs) kv
theorem CH:OpR X (compareOp .Lt) (rI0 λi j=> .bl (decide (i < j))):=opB0 λ_ _ _ _ _ _ _ q=>lt_int q
theorem FU:OpR X (compareOp .LtE) (rI0 λi j=> .bl (decide (i<=j))):=opB0 λ_ _ _ _ _ _ _ q=>le_int q
theorem uj:OpR X (compareOp .Gt) (rI0 λi j=> .bl (decide (j < i))):=opB0 λ_ _ _ _ _ _ _ q=>gt_int q
theorem HR:OpR X (compareOp .GtE) (rI0 λi j=> .bl (decide (j<=i))):=opB0 λ_ _ _ _ _ _ _ q=>ge_int q
theorem FS:OpR X (compareOp .IsNot) (λx y H Q=>y= .non/\Q (.bl (!decide (x= .non))) H):=by
 intro pins s σ H x y v u Q I O Y h;obtain⟨rfl,q⟩:=h;cases Y;refine isnot_none_gen (bN I q ?_)
 cases x<;>first
  | (cases O;rfl)
  | (obtain⟨t,rfl⟩:=O;rfl)
theorem aK (b:z8) {O:CmpOp} (h:O≠.In:=by decide) (h2:O≠.NotIn:=by decide):behindInMarks O b=false:=by
 have Z:(O == CmpOp.In)=false:=by cases O<;>first | rfl | exact kf rfl h
 have Y:(O == CmpOp.NotIn)=false:=by cases O<;>first | rfl | exact kf rfl h2
 cases b<;>simp[behindInMarks,Z,Y]
theorem ja {O:CmpOp} {r:R2} (ho:OpR X (compareOp O) r) (ha:PE X a ta) (hb:PE X b tb) (hm:behindInMarks O b=false):PE X (.Compare a [O] [b] pos) (tOp r ta tb):=by
 intro pins s σ H Q I h;exact wpAny_Compare1 (binT ha hb I h λv u Y x y H2 β α Z q=>ho pins Y σ H2 x y v u Q β α Z q) hm
noncomputable abbrev Ja (t:TE):TT:=fun σ H Q=>t σ H λx H'=>∃k,x= .bl k/\Q k H'
theorem aH {O:CmpOp} {r:R2} (ho:OpR X (compareOp O) r) (ha:PE X a ta) (hb:PE X b tb) (hm:behindInMarks O b=false):PT X (.Compare a [O] [b] pos) (Ja (tOp r ta tb)):=by
 intro pins s σ H Q I h
 refine Qq (thn (ha pins s σ H _ I h) λv Z ⟨x,H1,θ,γ,ε⟩=>thn (hb pins Z σ H1 _ θ ε) λu Y ⟨y,H2,η,β,π⟩=>
  thn (ho pins Y σ H2 x y v u _ η γ β π) λc ν ⟨z,ι,ζ,α,k,e,δ⟩=>?_) hm
 subst e;cases α;exact Lv ⟨ι,ζ,δ⟩
noncomputable abbrev GL (r r':R2) (ta tb tc:TE):TE:=fun σ H Q=>ta σ H λx H1=>tb σ H1 λy H2=>r x y H2 λz O=>∃k,z= .bl k/\
 (if k=true then tc σ O fun ω Z=>r' y ω Z Q else Q (.bl false) O)
theorem CF {α O:CmpOp} {r r':R2} (ho:OpR X (compareOp α) r) (β:OpR X (compareOp O) r') (ha:PE X a ta) (hb:PE X b tb) (hc:PE X c tc)
  (hm:lastMarks [α,O] [b,c]=false:=by with_unfolding_all rfl):PE X (.Compare a [α,O] [b,c] pos) (GL r r' ta tb tc):=by
 intro pins s σ H Q I h
 refine Compare_chain (thn (ha pins s σ H _ I h) λv ξ ⟨x,H1,ψ,τ,φ⟩=>chain_link (thn (hb pins ξ σ H1 _ ψ φ) λu ν ⟨y,H2,χ,δ,υ⟩=>
  thn (ho pins ν σ H2 x y v u _ χ τ δ υ) λd ι ⟨z,η,ζ,ρ,k,e,ε⟩=>?_)) hm
 subst e;cases ρ;refine Lv ?_;cases k with
 | false=>exact ite_ff ⟨.bl false,η,ζ,rfl,ε⟩
 | true=>exact ite_tt (chain_last (thn (hc pins ι σ η _ ζ ε) fun ω Y ⟨θ,Z,γ,ο,π⟩=>β pins Y σ Z y θ u ω Q γ δ ο π))
theorem xl:(qb:Nat) < 2 ^ 63:=by rw[ri];decide
theorem xO {x:V} {us:E'} (r:Vals [x] us):∃u,us=[u]/\RelV x u:=by
 cases r with
 | cons Y O=>cases O;exact⟨_,rfl,Y⟩
theorem EW {x y:V} {us:E'} (r:Vals [x,y] us):∃u ω,us=[u,ω]/\RelV x u/\RelV y ω:=by
 cases r with
 | cons α Z=>
   cases Z with
   | cons Y O=>cases O;exact⟨_,_,rfl,α,Y⟩
theorem Bp (hc:X.calm=true):kU X (.builtin "max") (λxs H Q=>∃i j,xs=[.int i,.int j]/\Q (.int (if j > i then j else i)) H):=by
 intro pins s σ H xs us Q I r h;obtain⟨i,j,rfl,q⟩:=h;obtain⟨u,ω,rfl,⟨t,rfl⟩,⟨t',rfl⟩⟩:=EW r;refine max_two_ints (I.ok.hd hc) λh' tk k=>⟨_,H,I.kept k,?_,q⟩;by_cases O:j > i
 ·rw[pT O,pT O];exact⟨_,rfl⟩
 ·rw[oT O,oT O];exact⟨_,rfl⟩
def LenV (K:bp) (x:V) (H:Hp) (n:Nat):Prop:=
 match x with
 | .str y=>y.length<=qb/\n=y.length
 | .byt y=>y.size<=qb/\n=y.size
 | .ref p=>(∃xs,SqL K H p xs/\n=xs.length)∨∃xs,SqT K H p xs/\n=xs.length
 | _=>False
theorem Dz:kU X (.builtin "len") (λxs H Q=>∃x n,xs=[x]/\LenV X.K x H n/\Q (.int n) H):=by
 intro pins s σ H xs us Q I r h;obtain⟨x,n,rfl,e,q⟩:=h;obtain⟨u,rfl,Z⟩:=xO r;have hl:=xl;have hs:qb=16777216:=ri;cases x with
 | str y=>
   obtain⟨t,rfl⟩:=Z;obtain⟨β,Y⟩:y.length<=qb/\n=y.length:=e;subst Y;exact len_str @A ⟨.int _,H,I.tok _,⟨_,rfl⟩,q⟩
 | byt y=>
   obtain⟨t,rfl⟩:=Z;obtain⟨β,Y⟩:y.size<=qb/\n=y.size:=e;subst Y;exact PySem.W.len_bytes @A ⟨.int _,H,I.tok _,⟨_,rfl⟩,q⟩
 | ref p=>
   cases Z;have Y:(∃xs,SqL X.K H p xs/\n=xs.length)∨∃xs,SqT X.K H p xs/\n=xs.length:=e;rcases Y with ⟨xs,α,Y⟩ | ⟨xs,α,Y⟩
   ·subst Y;obtain⟨its,r',pl,hz⟩:=I.list α;have O:=r'.length;exact Calls.call_len_list pl.isList (by simp only[u9];omega) ⟨.int xs.length,H,I.tok _,⟨_,by simp only[u9];rw[O]⟩,q⟩
   ·subst Y;obtain⟨its,r',pl,hz⟩:=I.tuple α;have O:=r'.length;exact len_tuple pl (by simp only[u9];omega) ⟨.int xs.length,H,I.tok _,⟨_,by simp only[u9];rw[O]⟩,q⟩
 | _=>exact(show False from e).elim
end
structure ObjM (h:z1) (x dx C:fy) (mA:F'):Prop where
 obj:h.get? x=ak (Ld C dx)
 ns:h.Ns1 dx mA
 ne:dx≠x
theorem AC {h:z1} {dx:fy} {mA:F'} (n:h.Ns1 dx mA):∃od,h.get? dx=ak od/\∀name,Nw name od=ak (mA name):=by
 obtain⟨o,es,ep,ho,hd,hk,_,hm⟩:=n;refine⟨o,ho,λname=>?_⟩;have e:=hm name;unfold nsFind findBy at e;rw[<-Array.find?_toList] at e;unfold Nw;rw[hd];dsimp only;split
 ·rename_i y q;rw[q] at e;exact y3 ak e
 ·rename_i q;rw[q] at e
  have a:es.toList.any (·.refKey)=false:=by
   rw[List.any_eq_false];intro y O;obtain⟨z,t,ρ⟩:=hk y (Array.mem_toList_iff.mp O);simp[DictEntry.refKey,ρ]
  have Y:¬es.toList.any (·.refKey)=true:=by rw[a];exact kv
  rw[oT Y];exact y3 ak e
theorem ObjM.look {h:z1} {x dx C:fy} {mA:F'} (I:ObjM h x dx C mA):∃od,PySem.W.InstAt h x (Ld C dx) C (ak od)/\∀name,Nw name od=ak (mA name):=
 let ⟨od,ho,hl⟩:=AC I.ns
 ⟨od,⟨I.obj,rfl,rfl,ho⟩,hl⟩
section
variable {prog:qc} {w:u7} {A:z3} {E:D9} {s:ib} {K:bp} {x dx C f:fy} {mA:F'} {name:J9} {v:hJ}
theorem aJ {O:JY} {Q:D9} (X:K.In s.heap) (I:ObjM s.heap x dx C mA) (α:N7 K C name=true) (Z:O7 K C=true)
  (ha:z0 K (.ref C) name=ak none) (Y:mA name=ak v) (ο:Oc v=true) (h:Q v {s with toks:=s.toks + 1}):
  oi (qA prog w) A (getAttr (.ref x) name O) Q E s:=by
 obtain⟨od,J,hl⟩:=I.look;exact PySem.W.get_value X J (NL α).1 (PySem.W.findObj_own Z ha rfl (by rw[hl,Y])) ο h
theorem C5 {pl:Sem JY} {Q:hJ×f' hJ->ib->Prop} (X:K.In s.heap) (I:ObjM s.heap x dx C mA) (O:N7 K C name=true)
  (hf:z0 K (.ref C) name=ak (ak (.ref f))) (ht:O5 K (.ref f)=true) (Y:mA name=none) (h:Q (.ref f,[.ref x]) s):
  oi (qA prog w) A (getMethod (.ref x) name pl) Q E s:=by
 obtain⟨od,J,hl⟩:=I.look;exact PySem.W.method_fn X J (NL O).1 (NL O).2 hf (LR.mp ht) (by show(Nw name od).map (·.isSome)=ak false;rw[hl,Y];rfl) h
theorem Fh {ns:C'} {Q:Hy} (X:K.In s.heap) (I:ObjM s.heap x dx C mA)
  (hs:z0 K (.ref C) "__setattr__"=ak (ak (.builtin "object.__setattr__"))) (α:PP K C=true) (ht:Ot K C name=ak none) (β:O7 K C=true)
  (hw:Pk mA ns) (hsz:ns.length<=qb)
  (h:∀h',ObjM h' x dx C (λy=>if y=name then ak v else mA y)->Ll dx s.heap h'->Q () {s with heap:=h',toks:=s.toks + 2}):
  oi (qA prog w) A (setAttr (.ref x) name v) Q E s:=by
 obtain⟨od,J,hl⟩:=I.look;refine PySem.W.set_plain X J hs (PySem.W.osa_open (s:={s with toks:=s.toks + 1}) (r:=none) X J α ht λb=>?_);obtain⟨γ,δ,O⟩:=PySem.W.any_some β;have Z:s.heap.get? x=ak ⟨.ref C,ak dx,.plain,#[]⟩:=I.obj;refine ew (hH (ew (ew (wpAny_loadPart Z (ew (PySem.W.Looks.here (s:={s with toks:=s.toks + 1}) (PySem.W.looks_clsIn X δ) ?_))))));rw[O];refine hH (a:=ak dx) (ew (hH (ew ?_)));refine wpAny_nsSet1 (s:={s with toks:=s.toks + 1}) I.ns λh' ξ ο=>?_;obtain⟨η,ε,ζ,π,ρ,Y⟩:=ξ.count (PySem.Within.cons name v hw);refine ew (wpAny_lookBehind π (by rw[ρ];exact pastItsLine_dict (L9 Y (by rw[ub];omega))) ?_);exact hH (h _ ⟨(ο.2 _ (Lf I.ne)).trans I.obj,ξ,I.ne⟩ ο)
theorem CO {R:J2} {vs:E'} {O:J4} (X:K.In s.heap) (hm:Q7 K C=true)
  (hi:z0 K (.ref C) "__init__"=ak (ak (.ref f))) (hf:OG K (.ref f)=ak (.type "function"))
  (h:codeAny (qA prog w) (A.under (.builtin "type.__call__" ⟨.ref C::vs,O⟩)) (.call (.ref f) ⟨.ref (s.heap.objs.size + 1)::vs,O⟩) (PySem.W.InitBack (s.heap.objs.size + 1) R)
   {s with heap:=(s.heap.push KQ).push (Ld C s.heap.objs.size)}):
  codeAny (qA prog w) A (.call (.ref C) ⟨vs,O⟩) R s:=by
 obtain⟨Y,g,d,t,os⟩:=s;exact PySem.W.make_core (PySem.W.makes_of X hm) (PySem.W.looks_findIn X hi) (λself=>PySem.W.bind_fn X self hf) (.inl rfl) h
end
noncomputable def putF (f:J9) (v:V):f' (J9×V)->f' (J9×V)
 | []=>[(f,v)]
 | (g,x)::r=>if g=f then (g,v)::r else (g,x)::putF f v r
theorem o8 (f g:J9) (v:V):∀fs:f' (J9×V),(putF f v fs).lookup g=if g=f then ak v else fs.lookup g
 | []=>by
   show MK g [(f,v)]=_;by_cases h:g=f
   ·have hb:(g == f)=true:=LR.mpr h;simp only[MK,hb,pT h]
   ·have hb:(g == f)=false:=J8.mpr h;simp only[MK,hb,oT h]
 | (k,x)::r=>by
   have ih:=o8 f g v r;rw[show putF f v ((k,x)::r)=(if k=f then (k,v)::r else (k,x)::putF f v r) from rfl];by_cases hk:k=f
   ·rw[pT hk];by_cases h:g=k
    ·have hb:(g == k)=true:=LR.mpr h;simp only[MK,hb,pT (h.trans hk)]
    ·have hb:(g == k)=false:=J8.mpr h;simp only[MK,hb,oT (λe:g=f=>h (e.trans hk.symm))]
   ·rw[oT hk];by_cases h:g=k
    ·have hb:(g == k)=true:=LR.mpr h;simp only[MK,hb,oT (λe:g=f=>hk (h.symm.trans e))]
    ·have hb:(g == k)=false:=J8.mpr h;simp only[MK,hb];exact ih
theorem pC (f:J9) (v:V):∀fs:f' (J9×V),f∈(putF f v fs).map (·.1)/\∀g,g∈fs.map (·.1)->g∈(putF f v fs).map (·.1)
 | []=>⟨by simp[putF],λg h=>by simp at h⟩
 | (k,x)::r=>by
   obtain⟨i1,i2⟩:=pC f v r;rw[show putF f v ((k,x)::r)=(if k=f then (k,v)::r else (k,x)::putF f v r) from rfl];by_cases hk:k=f
   ·rw[pT hk];subst hk;exact⟨@F,λg h=>by simpa using h⟩
   ·rw[oT hk];refine⟨?_,λg h=>?_⟩
    ·rw[Ka];exact lA _ i1
    ·rw[Ka] at h ⊢;rcases rz.mp h with e | e
     ·exact rz.mpr (.inl e)
     ·exact lA _ (i2 g e)
theorem pf (f:J9) (v:V):∀fs:f' (J9×V),(putF f v fs).length<=fs.length + 1
 | []=>by simp[putF]
 | (k,x)::r=>by
   have ih:=pf f v r;rw[show putF f v ((k,x)::r)=(if k=f then (k,v)::r else (k,x)::putF f v r) from rfl];by_cases hk:k=f
   ·rw[pT hk,ub,ub];omega
   ·rw[oT hk,ub,ub];omega
theorem RelO.some_of {v:V} {o:J5} (r:RelO (ak v) o):∃u,o=ak u/\RelV v u:=by
 cases o with
 | none=>exact(show False from r).elim
 | some u=>exact⟨u,rfl,r⟩
theorem RelO.none_of {o:J5} (r:RelO none o):o=none:=by
 cases o with
 | none=>rfl
 | some u=>exact(show False from r).elim
theorem AZ {v:V} {u:hJ} (r:RelV v u):Oc u=true:=by
 cases v with
 | non=>cases(show u=KG from r);rfl
 | bl b=>cases(show u=P' b from r);rfl
 | int i=>obtain⟨t,e⟩:=(show ∃t,u=Om i t from r);cases e;rfl
 | str x=>obtain⟨t,e⟩:=(show ∃t,u=Pe x t from r);cases e;rfl
 | byt b=>obtain⟨t,e⟩:=(show ∃t,u=Rh b t from r);cases e;rfl
 | flt b=>obtain⟨t,e⟩:=(show ∃t,u=Rg b t from r);cases e;rfl
 | ref a=>cases(show u=z2 a from r);rfl
 | ty n=>cases(show u=Md n from r);rfl
section
variable {P:qc} {w:u7} {H H':Hp} {h h':z1} {a C dx:fy} {fs fs':f' (J9×V)}
theorem sP (hok:HOk P w H h) (e:H a=ak (.ins C dx fs)):∃mA,ObjM h a dx C mA/\(∀f,RelO (fs.lookup f) (mA f))/\Pk mA (fs.map (·.1))/\fs.length<=1000/\H dx=ak (.own a):=by
 obtain⟨d,z,ne,ob,mA,n,r,q⟩:=(show fV P w H h a (.ins C dx fs) from hok a _ e);exact⟨mA,⟨ob,n,ne⟩,r,q,z,d⟩
end
structure Cls (K:bp) (C:fy):Prop where
 pg:N7 K C QF=true
 hd:O7 K C=true
 po:PP K C=true
 sa:z0 K (.ref C) "__setattr__"=ak (ak (.builtin "object.__setattr__"))
theorem Cls.get {K:bp} {C:fy} (c:Cls K C) (f:J9):N7 K C f=true:=c.pg
def gI (K:bp) (C:fy) (f:J9):Prop:=z0 K (.ref C) f=ak none
theorem gI.taker {K:bp} {C:fy} {f:J9} (n:gI K C f):Ot K C f=ak none:=by
 unfold Ot;rw[show z0 K (.ref C) f=ak none from n];rfl
structure Con (K:bp) (C:fy) (f:J9) (v:V) (u:hJ):Prop where
 at_:z0 K (.ref C) f=ak (ak u)
 rel:RelV v u
 get:LO K u "__get__"=ak none
 cp:PySem.W.copiedNames.contains f=false
structure Meth (K:bp) (C:fy) (m:J9) (f:fy):Prop where
 at_:z0 K (.ref C) m=ak (ak (.ref f))
 fn:O5 K (.ref f)=true
 kp:Ku K (.ref f)=true
section
variable {X:Cx} {pins:Dc} {σ:St} {H:Hp} {s:ib} {a C dx:fy} {fs:f' (J9×V)} {f:J9} {v:V} {A:z3} {E:D9}
theorem yz {b:JY} {Q:D9} (I:Inv X pins σ H s) (e:H a=ak (.ins C dx fs)) (c:Cls X.K C) (n:gI X.K C f) (l:fs.lookup f=ak v)
  (h:∀u s',Inv X pins σ H s'->RelV v u->Q u s'):oi (qA X.prog X.w) A (getAttr (.ref a) f b) Q E s:=by
 obtain⟨mA,O,r,_,_,_⟩:=sP I.hok e;obtain⟨u,hu,ν⟩:=RelO.some_of (v:=v) (o:=mA f) (by rw[<-l];exact r f);exact aJ I.kIn O (c.get f) c.hd n hu (AZ ν) (h u _ (I.tok _) ν)
theorem mT {m:J9} {g:fy} {pl:Sem JY} {Q:hJ×f' hJ->ib->Prop} (I:Inv X pins σ H s) (e:H a=ak (.ins C dx fs)) (c:Cls X.K C) (k:Meth X.K C m g) (l:fs.lookup m=none)
  (h:Q (.ref g,[.ref a]) s):oi (qA X.prog X.w) A (getMethod (.ref a) m pl) Q E s:=by
 obtain⟨mA,O,r,_,_,_⟩:=sP I.hok e;have hn:mA m=none:=RelO.none_of (by rw[<-l];exact r m);exact C5 I.kIn O (c.get m) k.at_ k.fn hn h
theorem yd {y:V} {u:hJ} {Q:Hy} (I:Inv X pins σ H s) (e:H a=ak (.ins C dx fs)) (c:Cls X.K C) (n:gI X.K C f) (hl:fs.length < 1000) (α:RelV y u)
  (h:∀s',Inv X pins σ (upd H a (.ins C dx (putF f y fs))) s'->Q () s'):oi (qA X.prog X.w) A (setAttr (.ref a) f u) Q E s:=by
 obtain⟨mA,O,r,Y,_,ho⟩:=sP I.hok e;have hz:(fs.map (·.1)).length<=sizeLine:=by rw[cY,ri];omega
 refine Fh I.kIn O c.sa c.po n.taker c.hd Y hz λh' O' Z=>h _ ?_;have hd:∃o,h'.get? dx=ak o:=let ⟨o,_,_,γ,_⟩:=O'.ns;⟨o,γ⟩
 refine I.write (x:=a) (e:=dx) (by rw[e];exact Nk) (.inr ho) (λb q hb z=>(Z.2 b hb).trans z) hd ?_;refine⟨by rw[aV O.ne];exact ho,?_,O.ne,O'.obj,_,O'.ns,λg=>?_,λg β=>?_⟩
 ·have:=pf f y fs;omega
 ·show RelO ((putF f y fs).lookup g) (if g=f then ak u else mA g);rw[o8];by_cases q:g=f
  ·rw[pT q,pT q];exact α
  ·rw[oT q,oT q];exact r g
 ·by_cases q:g=f
  ·rw[q];exact(pC f y fs).1
  ·refine(pC f y fs).2 g (Y g λz=>β ?_);show(if g=f then ak u else mA g)=none;rw[oT q];exact z
theorem Inv.made (I:Inv X pins σ H s):Inv X pins σ (upd (upd H s.heap.objs.size (.own (s.heap.objs.size + 1))) (s.heap.objs.size + 1) (.ins C s.heap.objs.size []))
  {s with heap:=(s.heap.push KQ).push (Ld C s.heap.objs.size)}:=by
 have O:(s.heap.push KQ).get? s.heap.objs.size=ak PySem.W.emptyDict:=pB s.heap rfl
 have α:((s.heap.push KQ).push (Ld C s.heap.objs.size)).get? (s.heap.objs.size + 1)=ak (Ld C s.heap.objs.size):=by
  have:=pB (s.heap.push KQ) (o:=Ld C s.heap.objs.size) rfl;rwa [KP] at this
 have Z:(s.heap.push KQ).Ns s.heap.objs.size (λ_=>none):=⟨KQ,#[],_,O,rfl,(λe he=>kf he @F),λ_=>rfl⟩;have I1:=I.laid (a:=s.heap.objs.size) (o:= .own (s.heap.objs.size + 1)) (h':=s.heap.push KQ) (t':=s.toks) (λb u q=>gB _ q) (ru _) ⟨_,O⟩;refine I1.laid (a:=s.heap.objs.size + 1) (o:= .ins C s.heap.objs.size []) (t':=s.toks) (λb u q=>gB _ q) (Oy (KP _ _)) ?_;have ne:s.heap.objs.size≠s.heap.objs.size + 1:=JU (L1 _);refine⟨by rw[aV ne,bg],L0 _,ne,α,λ_=>none,(Heap.Ns1.of_empty Z).at λo q=>gB _ q,λ_=>Nk,λy Y=>kf rfl Y⟩
theorem Gm {prog:qc} {w:u7} {env:Env} {e:z8} {f:J9} {pos:Pos} {s:ib} {Q:D9} (hb:attributeBase e f env (eval e env)=eval e env)
  (h:oi (qA prog w) A (eval e env) (λo O=>oi (qA prog w) A (getAttr o f true) Q E O) E s):oi (qA prog w) A (eval (.Attribute e f pos) env) Q E s:=
 Attribute_any_ h (by rw[arm_eval_Attribute,hb])
end
noncomputable def tFld (K:bp) (ta:TE) (f:J9):TE:=fun σ H Q=>ta σ H λx H1=>∃a C dx fs v,x= .ref a/\H1 a=ak (.ins C dx fs)/\Cls K C/\gI K C f/\fs.lookup f=ak v/\Q v H1
noncomputable def sFld (K:bp) (ta tv:TE) (f:J9):TS:=λD σ H=>tv σ H λy H1=>ta σ H1 λx H2=>∃a C dx fs,x= .ref a/\H2 a=ak (.ins C dx fs)/\Cls K C/\gI K C f/\fs.length < 1000/\
 D.nx σ (upd H2 a (.ins C dx (putF f y fs)))
section
variable {X:Cx} {o e value:z8} {f:J9} {pos pos' tpos:Pos} {ta tv:TE}
theorem HL (he:PE X e ta) (hb:attributeBase e f X.env (eval e X.env)=eval e X.env):PE X (.Attribute e f pos) (tFld X.K ta f):=by
 intro pins s σ H Q I h;refine Gm hb (thn (he pins s σ H _ I h) λu β ⟨x,H1,Z,O,a,C,dx,fs,v,ex,ea,c,n,l,q⟩=>?_);subst ex;obtain rfl:u=z2 a:=O;exact yz Z ea c n l fun ι α Y ν=>⟨v,H1,Y,ν,q⟩
theorem Hv (ha:PE X o ta) (β:PE X value tv) (hs:swapsWith value (ak (.Attribute o f pos')) pos.line X.env=pure false):PS X (.Assign [.Attribute o f pos'] value pos) (sFld X.K ta tv f):=by
 intro pins s σ H D I h;refine plainObj_wpAny_Assign_Attribute (thn (β pins s σ H _ I h) λu O ⟨y,H1,ε,Y,q⟩=>thn (ha pins O σ H1 _ ε q) fun α η ⟨x,H2,δ,Z,a,C,dx,fs,ex,ea,c,n,l,π⟩=>?_) hs;subst ex;obtain rfl:α=z2 a:=Z;exact yd δ ea c n l Y fun ζ γ=>⟨σ,_,γ,π⟩
end
section
variable {X:Cx} {pins:Dc} {σ:St} {H:Hp} {s:ib} {A:z3} {E:D9} {Q:D9} {c:hJ} {b:JY}
inductive TyOf (K:bp) (H:Hp):V->hJ->Prop where
 | non:TyOf K H .non (.type "NoneType")
 | bl (x:JY):TyOf K H (.bl x) (.type "bool")
 | int (i:Int):TyOf K H (.int i) (.type "int")
 | str (x:J9):TyOf K H (.str x) (.type "str")
 | flt (x:UInt64):TyOf K H (.flt x) (.type "float")
 | lst {a:fy} {xs:f' V} (e:H a=ak (.lst xs)):TyOf K H (.ref a) (.type "list")
 | frz {a:fy} {o:P8} {xs:f' V} (e:H a=ak (.frz o (.lst xs))):TyOf K H (.ref a) (.type "list")
 | tup {a:fy} {xs:f' V} (e:H a=ak (.tup xs)):TyOf K H (.ref a) (.type "tuple")
 | dK {a:fy} {kvs:f' (Key×V)} (e:H a=ak (.dK kvs)):TyOf K H (.ref a) (.type "dict")
 | dT {a:fy} {kvs:f' (f' Key×V)} (e:H a=ak (.dT kvs)):TyOf K H (.ref a) (.type "dict")
 | ins {a C dx:fy} {fs:f' (J9×V)} (e:H a=ak (.ins C dx fs)) (cl:Cls K C) (ha:z0 K (.ref C) "__class__"=ak (ak (.builtin "object.__class__")))
   (hn:LO K (.builtin "object.__class__") "__get__"=ak (ak (.builtin "getset_descriptor.__get__"))) (htk:Oq K (.builtin "object.__class__")=ak true)
   (hm:KH K C (.type "object")=ak true):TyOf K H (.ref a) (.ref C)
end
structure Room (k:Nat) (A:z3):Prop where
 hd:A.handled=none
 dp:A.depth + 3 * k + 5 < recursionLimit
 un:A.units + 16 * k + 200 < cLine
theorem Room.mono {j k:Nat} {A:z3} (r:Room k A) (h:j<=k):Room j A:=⟨r.hd,by have:=r.dp;omega,by have:=r.un;omega⟩
theorem Room.deeper {k:Nat} {A:z3} (r:Room (k + 1) A) (env:Env):Room k (A.deeper env):=
 ⟨r.hd,by have:=r.dp;show A.depth + 1 + 3 * k + 5 < _;omega,by have:=r.un;show A.units + 3 + 16 * k + 200 < _;omega⟩
theorem yr {A:z3} {C:fy} {us:E'} {O:J4}:(A.under (.builtin "type.__call__" ⟨.ref C::us,O⟩)).depth=A.depth + 1:=by
 first | rfl | simp[Pf,Code.weight,Code.isCreation,Code.isGuard,Code.isCaller,Code.frames,Pp,guardIds]
theorem yq {A:z3} {C:fy} {us:E'} {O:J4}:(A.under (.builtin "type.__call__" ⟨.ref C::us,O⟩)).units=A.units + 1:=by
 first | rfl | simp[Pf,Code.cUnits,Code.frames,Pp]
theorem Room.make {k:Nat} {A:z3} (r:Room (k + 1) A) (C:fy) (us:E') (O:J4):Room k (A.under (.builtin "type.__call__" ⟨.ref C::us,O⟩)):=
 ⟨r.hd,by have:=r.dp;rw[yr];omega,by have:=r.un;rw[yq];omega⟩
theorem Room.depth {k:Nat} {A:z3} (r:Room k A):A.depth < recursionLimit:=by have:=r.dp;omega
theorem Room.units {k:Nat} {A:z3} (r:Room k A):A.units + 64 < cLine:=by have:=r.un;omega
noncomputable abbrev tNil:TA:=λ_ H Q=>Q [] H
noncomputable abbrev Je (ta:TE) (tr:TA):TA:=fun σ H Q=>ta σ H λx H1=>tr σ H1 λxs H2=>Q (x::xs) H2
section
variable {X:Cx} {e:z8} {es:f' z8} {te:TE} {t:TA} {pos:Pos}
theorem af:PA X [] tNil:=λ_ _ _ _ H Q I h=>Qc ⟨[],H,I,.nil,h⟩
theorem aa (ha:PE X e te) (β:PA X es t) (hs:qQ (e::es) X.env=(false,eval e X.env)::qQ es X.env:=by rfl):PA X (e::es) (Je te t):=by
 intro pos pins s σ H Q I h;rw[hs];show oi _ _ (spliced ((false,eval e X.env)::backTo pos (qQ es X.env))) _ _ s;refine Q3 (thn (ha pins s σ H _ I h) λu O ⟨x,H1,δ,Z,α⟩=>?_);exact thn (β pos pins O σ H1 _ δ α) λus ε ⟨xs,H2,γ,Y,π⟩=>⟨x::xs,H2,γ,.cons Z Y,π⟩
noncomputable def tTup (t:TA):TE:=fun σ H Q=>t σ H λxs H1=>xs.length<=qb/\∀p,H1 p=none->Q (.ref p) (upd H1 p (.tup xs))
noncomputable def tLst (t:TA):TE:=fun σ H Q=>t σ H λxs H1=>xs.length<=qb/\∀p,H1 p=none->Q (.ref p) (upd H1 p (.lst xs))
theorem b8 {x1} (h:PA X es t):PE X (.Tuple es x1 pos) (tTup t):=by
 intro pins s σ H Q I Y;refine wpAny_Tuple_spliced (thn (h pos pins s σ H _ I Y) λus O ⟨xs,H1,I1,r,z,q⟩=>⟨by rw[<-r.length];exact z,?_⟩);have hf:H1 O.heap.objs.size=none:=I1.hok.fresh (ru _);refine⟨.ref O.heap.objs.size,upd H1 O.heap.objs.size (.tup xs),I1.laid (t':=O.toks) (λb u e=>gB _ e) (ru _) ?_,rfl,q _ hf⟩;exact⟨z,us,r,⟨_,pB _ rfl,rfl,_,rfl⟩⟩
theorem cC (h:PA X es t):PE X (.List es pos) (tLst t):=by
 intro pins s σ H Q I Y;refine wpAny_List_spliced (thn (h pos pins s σ H _ I Y) λus O ⟨xs,H1,I1,r,z,q⟩=>⟨by rw[<-r.length];exact z,?_⟩);have hf:H1 O.heap.objs.size=none:=I1.hok.fresh (ru _);refine⟨.ref O.heap.objs.size,upd H1 O.heap.objs.size (.lst xs),I1.laid (t':=O.toks) (λb u e=>gB _ e) (ru _) ?_,rfl,q _ hf⟩;exact⟨z,us,0,r,pB _ rfl⟩
end
noncomputable abbrev Sp:=f' V->Hp->VK->XK->Prop
noncomputable abbrev CXT:=f' Env->Hp->ib->XK->D9
structure Env0 (P:qc) (w:u7) (K:bp) (mg:F') (base:z1) (A:z3) (outer:f' Env) (s:ib) (H:Hp):Prop where
 frames:A.frames=ak outer
 mod:Mod K mg base
 bs:∀b o,base.get? b=ak o->s.heap.get? b=ak o/\H b=none
 bsz:base.objs.size<=s.heap.objs.size
 funs:s.heap.FunFrames base outer
 frf:∀b∈frs outer,H b=none
 hok:HOk P w H s.heap
 bare:AllBare s.gens
def CE (outer:f' Env) (P:qc) (w:u7) (H:Hp) (s:ib) (Q:VK) (u:hJ) (s':ib):Prop:=
 ∃v H',s'.os=s.os/\AllBare s'.gens/\Un (frs outer) [] H H' s.heap s'.heap/\HOk P w H' s'.heap/\RelV v u/\Q v H'
def CR (CX:CXT) (outer:f' Env) (P:qc) (w:u7) (H:Hp) (s:ib) (Q:VK) (E:XK) (r:Result) (s':ib):Prop:=
 match r with
 | .ok (.ret u)=>CE outer P w H s Q u s'
 | .ok _=>False
 | .error e=>CX outer H s E e s'
structure FnOk (P:qc) (w:u7) (K:bp) (mg:F') (base:z1) (CX:CXT) (k:Nat) (f:fy) (fd:oe) (ps:C') (sp:Sp):Prop where
 len:∀vs H Q E,sp vs H Q E->vs.length=ps.length
 run:∀(A:z3) (outer:f' Env) (s:ib) (H:Hp) (args:Args) (us:E') (vs:f' V) (Q:VK) (E:XK),Room k A->Env0 P w K mg base A outer s H->BindsTo s fd args (ps.zip us)->Vals vs us->sp vs H Q E->
  codeAny (qA P w) A (.call (.ref f) args) (CR CX outer P w H s Q E) s
theorem Env0.make {P:qc} {w:u7} {K:bp} {mg:F'} {base:z1} {A:z3} {outer:f' Env} {s:ib} {H:Hp} (e:Env0 P w K mg base A outer s H) (C:fy) (us:E') (O:J4):
  Env0 P w K mg base (A.under (.builtin "type.__call__" ⟨.ref C::us,O⟩)) outer s H:=⟨by first | exact e.frames | (simpa[Pf,Code.envs,Pp,pushEnvs] using e.frames),e.mod,e.bs,e.bsz,e.funs,e.frf,e.hok,e.bare⟩
section
variable {X:Cx} {pins:Dc} {σ:St} {H:Hp} {s s':ib}
theorem Inv.env0 (I:Inv X pins σ H s):Env0 X.prog X.w X.K X.mg X.base X.A X.stack s H:=
 ⟨I.ok.frames,I.ok.mod,I.bs,L9 I.ok.bsz I.sz,I.stack,I.stkFree,I.hok,I.bare⟩
theorem Inv.after {Q:VK} {u:hJ} (I:Inv X pins σ H s) (h:CE X.stack X.prog X.w H s Q u s'):EP X pins σ Q u s':=by
 obtain⟨v,H',os,bare,un,hok,r,q⟩:=h;obtain⟨O,g,d,t,τ⟩:=s';obtain rfl:τ=s.os:=os;exact⟨v,H',I.call (h':=O) (g':=g) (d':=d) (t':=t) (ch:=[]) un hok bare (λb z=>kf z @F),r,q⟩
end
noncomputable def B3 (sp:Sp) (dvs:f' V) (E:XK) (t:TA):TE:=fun σ H Q=>t σ H λvs H1=>sp (vs++dvs) H1 Q E
noncomputable def E2 (C:fy) (m:J9) (sp:Sp) (dvs:f' V) (E:XK) (ta:TE) (t:TA):TE:=fun σ H Q=>ta σ H λx H1=>∃a dx fs,x= .ref a/\H1 a=ak (.ins C dx fs)/\fs.lookup m=none/\
 t σ H1 λvs H2=>sp (x::(vs++dvs)) H2 Q E
noncomputable def GJ (C:fy) (sp:Sp) (dvs:f' V) (E:XK) (t:TA):TE:=fun σ H Q=>t σ H λvs H1=>∀x dx,H1 x=none->H1 dx=none->dx≠x->
 sp (.ref x::(vs++dvs)) (upd (upd H1 dx (.own x)) x (.ins C dx [])) (λv H2=>v= .non/\Q (.ref x) H2) E
def md (K:bp) (fd:oe) (ps:C') (ds:E'):Prop:=
 ∀(s:ib) (us:E'),K.In s.heap->(us++ds).length=ps.length->BindsTo s fd ⟨us,[]⟩ (ps.zip (us++ds))
theorem md.all {K:bp} {fd:oe} {ps:C'} (h:∀us:E',us.length=ps.length->bindArgs fd ⟨us,[]⟩=pure (ps.zip us)):md K fd ps []:=λs us _ hl=>by
 rw[Kp] at hl ⊢;exact .of_eq (h us hl)
def nD (CX:CXT) (X:Cx) (E:XK):Prop:=∀(pins:Dc) (σ:St) (H:Hp) (s:ib) (e:hJ) (s':ib),Inv X pins σ H s->CX X.stack H s E e s'->X.xe e s'
section
variable {X:Cx} {CX:CXT} {k:Nat} {f C:fy} {fd:oe} {ps:C'} {sp:Sp} {dvs:f' V} {ds:E'} {E:XK} {x m:J9} {p pos apos:Pos} {e o:z8} {es:f' z8} {ta:TE} {t:TA}
theorem zY {pins:Dc} {σ:St} {H:Hp} {s:ib} {Q:VK} {us:E'} {vs:f' V} (F:FnOk X.prog X.w X.K X.mg X.base CX k f fd ps sp) (Z:Room k X.A) (hb:md X.K fd ps ds) (hd:Vals dvs ds) (hx:nD CX X E)
  (I:Inv X pins σ H s) (r:Vals vs us) (h:sp (vs++dvs) H Q E):oi (qA X.prog X.w) X.A (call (.ref f) us) (EP X pins σ Q) X.xe s:=by
 have Y:Vals (vs++dvs) (us++ds):=r.append hd;have hl:(us++ds).length=ps.length:=by rw[<-Y.length];exact F.len _ _ _ _ h
 refine Px (MH (F.run X.A X.stack s H ⟨us,[]⟩ (us++ds) (vs++dvs) Q E Z I.env0 (hb s us I.kIn hl) Y h) λr s' O=>?_);cases r with
 | error e=>exact hx pins σ H s e s' I O
 | ok α=>
   cases α with
   | ret u=>exact I.after O
   | next=>exact K8 O
   | brk=>exact K8 O
   | cont=>exact K8 O
theorem FM (F:FnOk X.prog X.w X.K X.mg X.base CX k f fd ps sp) (Z:Room k X.A) (α:Gl X x) (hm:X.mg x=ak (.ref f)) (hk:Ku X.K (.ref f)=true) (hb:md X.K fd ps ds) (hd:Vals dvs ds) (hx:nD CX X E)
  (ha:PA X (e::es) t) (O:(x == ("__debug__":J9))=false:=by decide) (he:qQ (e::es) X.env=(false,eval e X.env)::qQ es X.env:=by rfl) (Y:(backTo pos (qQ es X.env)).any (·.1)=false:=by rfl):
  PE X (.Call (.Name x p) (e::es) [] pos) (B3 sp dvs E t):=by
 intro pins s σ H Q I h;refine Ms (su I α hm ?_ O);refine MS (h₀:=X.base) I.ok.mod.kin hk (thn (ha pos pins s σ H _ I h) λus β ⟨vs,H1,I1,r,q⟩=>⟨I1.kIn,?_⟩) he Y;exact zY F Z hb hd hx I1 r q
theorem oG {pl:Sem JY} (he:PE X o ta) (c:Cls X.K C) (hm:Meth X.K C m f) (F:FnOk X.prog X.w X.K X.mg X.base CX k f fd ps sp) (γ:Room k X.A) (hb:md X.K fd ps ds) (hd:Vals dvs ds) (hx:nD CX X E) (ha:PA X (e::es) t)
  (ο:qQ (e::es) X.env=(false,eval e X.env)::qQ es X.env:=by rfl) (O:(backTo pos (qQ es X.env)).any (·.1)=false:=by rfl)
  (ht:eval (.Call (.Attribute o m apos) (e::es) [] pos) X.env=(do
   let Y <-eval o X.env
   standAt apos.atName
   let (f,first) <-holding [Y] (getMethod Y m pl)
   callWith pos f first (backTo pos (qQ (e::es) X.env)) (backToKw pos (keywordEach [] X.env))):=by rfl):
  PE X (.Call (.Attribute o m apos) (e::es) [] pos) (E2 C m sp dvs E ta t):=by
 intro pins s σ H Q I h;refine Ng (pl:=pl) (thn (he pins s σ H _ I h) λu α ⟨x,H1,Z,β,a,dx,fs,ex,ea,l,q⟩=>?_) ht;subst ex;obtain rfl:u=z2 a:=β;refine mT Z ea c hm l ?_;refine MS (first:=[.ref a]) (h₀:=X.base) I.ok.mod.kin hm.kp (thn (ha pos pins α σ H1 _ Z q) λus δ ⟨vs,H2,I2,r,π⟩=>⟨I2.kIn,?_⟩) ο O;exact zY (us:= .ref a::us) (vs:= .ref a::vs) F γ hb hd hx I2 (.cons rfl r) π
theorem fc {pl:Sem JY} (he:PE X o ta) (c:Cls X.K C) (hm:Meth X.K C m f) (F:FnOk X.prog X.w X.K X.mg X.base CX k f fd ps sp) (Z:Room k X.A) (hb:md X.K fd ps ds) (hd:Vals dvs ds) (hx:nD CX X E)
  (ht:eval (.Call (.Attribute o m apos) [] [] pos) X.env=(do
   let O <-eval o X.env
   standAt apos.atName
   let (f,first) <-holding [O] (getMethod O m pl)
   callWith pos f first (backTo pos (qQ [] X.env)) (backToKw pos (keywordEach [] X.env))):=by rfl):
  PE X (.Call (.Attribute o m apos) [] [] pos) (E2 C m sp dvs E ta tNil):=by
 intro pins s σ H Q I h;refine Ng (pl:=pl) (thn (he pins s σ H _ I h) λu α ⟨x,H1,I1,Y,a,dx,fs,ex,ea,l,q⟩=>?_) ht;subst ex;obtain rfl:u=z2 a:=Y;refine mT I1 ea c hm l ?_;exact PySem.W.callWith_K0 (first:=[.ref a]) I1.kIn hm.kp (zY (us:=[.ref a]) (vs:=[.ref a]) F Z hb hd hx I1 (.cons rfl .nil) q)
structure Mk (K:bp) (C f:fy):Prop where
 makes:Q7 K C=true
 init:z0 K (.ref C) "__init__"=ak (ak (.ref f))
 fn:O5 K (.ref f)=true
 kp:Ku K (.ref C)=true
theorem Cm {pins:Dc} {σ:St} {H:Hp} {s:ib} {Q:VK} {us:E'} {vs:f' V} (M:Mk X.K C f) (F:FnOk X.prog X.w X.K X.mg X.base CX k f fd ps sp) (γ:Room (k + 1) X.A) (hb:md X.K fd ps ds) (hd:Vals dvs ds)
  (β:nD CX X E) (I:Inv X pins σ H s) (r:Vals vs us)
  (h:∀x dx,H x=none->H dx=none->dx≠x->sp (.ref x::(vs++dvs)) (upd (upd H dx (.own x)) x (.ins C dx [])) (λv H2=>v= .non/\Q (.ref x) H2) E):
  oi (qA X.prog X.w) X.A (call (.ref C) us) (EP X pins σ Q) X.xe s:=by
 have Z:=h (s.heap.objs.size + 1) s.heap.objs.size (I.hok.fresh (NB _)) (I.hok.fresh (ru _)) (JU (L1 _));have I2:=Inv.made (C:=C) I;have Y:Vals (V.ref (s.heap.objs.size + 1)::(vs++dvs)) (z2 (s.heap.objs.size + 1)::(us++ds)):= .cons rfl (r.append hd)
 have hl:(z2 (s.heap.objs.size + 1)::us++ds).length=ps.length:=by
  have e:=Y.length;rw[F.len _ _ _ _ Z] at e;exact e.symm
 refine Px (CO (f:=f) I.kIn M.makes M.init (LR.mp M.fn) (MH (F.run _ X.stack _ _ ⟨z2 (s.heap.objs.size + 1)::us,[]⟩ (z2 (s.heap.objs.size + 1)::(us++ds)) _ _ E (γ.make C us [])
  (I2.env0.make C us []) (hb _ (z2 (s.heap.objs.size + 1)::us) I2.kIn hl) Y Z) λr s' O=>?_))
 cases r with
 | error e=>exact β pins σ _ _ e s' I2 O
 | ok δ=>
   cases δ with
   | ret u=>
     obtain⟨v,H',ε,ι,ev,α⟩:=I2.after O;subst ev;exact⟨ι,⟨V.ref (s.heap.objs.size + 1),H',ε,rfl,α⟩⟩
   | next=>exact K8 O
   | brk=>exact K8 O
   | cont=>exact K8 O
theorem oH (M:Mk X.K C f) (F:FnOk X.prog X.w X.K X.mg X.base CX k f fd ps sp) (Z:Room (k + 1) X.A) (α:Gl X x) (hm:X.mg x=ak (.ref C)) (hb:md X.K fd ps ds) (hd:Vals dvs ds) (hx:nD CX X E)
  (ha:PA X (e::es) t) (O:(x == ("__debug__":J9))=false:=by decide) (he:qQ (e::es) X.env=(false,eval e X.env)::qQ es X.env:=by rfl) (Y:(backTo pos (qQ es X.env)).any (·.1)=false:=by rfl):
  PE X (.Call (.Name x p) (e::es) [] pos) (GJ C sp dvs E t):=by
 intro pins s σ H Q I h;refine Ms (su I α hm ?_ O);refine MS (h₀:=X.base) I.ok.mod.kin M.kp (thn (ha pos pins s σ H _ I h) λus β ⟨vs,H1,I1,r,q⟩=>⟨I1.kIn,?_⟩) he Y;exact Cm M F Z hb hd hx I1 r q
end
section
variable {X:Cx} {CX:CXT} {k:Nat} {f C:fy} {fd:oe} {ps ks:C'} {sp:Sp} {E:XK} {x m:J9} {p pos apos kpos:Pos} {e o:z8} {es:f' z8} {kws:f' Keyword} {te ta:TE} {t tk:TA} {nm:sh J9}
structure JQ (K:bp) (fd:oe) (ps ks:C') (g:E'->E'->E') (gV:f' V->f' V->f' V):Prop where
 to:∀(s:ib) (us ws:E'),K.In s.heap->(g us ws).length=ps.length->BindsTo s fd ⟨us,ks.zip ws⟩ (ps.zip (g us ws))
 rel:∀{vs:f' V} {us:E'} {zs:f' V} {ws:E'},Vals vs us->Vals zs ws->Vals (gV vs zs) (g us ws)
variable {g:E'->E'->E'} {gV:f' V->f' V->f' V}
end
structure aA (N P:C') (sc:LG):Prop where
 kind:sc.kind= .function
 co:sc.isCoroutine=false
 gen:sc.isGenerator=false
 nd:N.Nodup
 pre:N.take P.length=P
 par:∀x∈P,sc.names.lookup x=ak .local∨sc.names.lookup x=ak .cell
 nofree:∀y∈sc.names,y.2≠.free
theorem uZ {kindOf:J9->sh NameKind} {x:J9}:∀{binds:J4} {m:F'},(∀v,(x,v)∉binds)->bindL kindOf binds m x=m x
 | [],_,_=>rfl
 | (n,v)::r,m,h=>by
   unfold bindL;rw[uZ λw hw=>h w (lA _ hw)];split
   ·have:x≠n:=by rintro rfl;exact h v iv
    simp[this]
   ·rfl
theorem va {kindOf:J9->sh NameKind} {x:J9}:∀{binds:J4} {m:F'},(∀v,(x,v)∉binds)->bindC kindOf binds m x=m x
 | [],_,_=>rfl
 | (n,v)::r,m,h=>by
   unfold bindC;rw[va λw hw=>h w (lA _ hw)];split
   ·rfl
   ·have:x≠n:=by rintro rfl;exact h v iv
    simp[this]
theorem u1 {kindOf:J9->sh NameKind} {x:J9} {v:hJ}:∀{P:C'} {vs:E'} {i:Nat} {m:F'},P.Nodup->P[i]? =ak x->vs[i]? =ak v->kindOf x=ak .local->
  bindL kindOf (P.zip vs) m x=ak v
 | [],_,_,_,_,h,_,_=>by simp at h
 | _::_,[],_,_,_,_,h,_=>by simp at h
 | p::P,w::vs,0,m,nd,h1,h2,hk=>by
   simp at h1 h2;subst h1;subst h2;show bindL kindOf ((p,w)::P.zip vs) m p=_;unfold bindL;rw[uZ λv O=>(MI.mp nd).1 (Oh O).1,pT hk];simp
 | p::P,w::vs,i + 1,m,nd,h1,h2,hk=>by
   show bindL kindOf ((p,w)::P.zip vs) m x=_;unfold bindL;exact u1 (i:=i) (MI.mp nd).2 (by simpa using h1) (by simpa using h2) hk
theorem vb {kindOf:J9->sh NameKind} {x:J9} {v:hJ}:∀{P:C'} {vs:E'} {i:Nat} {m:F'},P.Nodup->P[i]? =ak x->vs[i]? =ak v->kindOf x≠ak .local->
  bindC kindOf (P.zip vs) m x=ak v
 | [],_,_,_,_,h,_,_=>by simp at h
 | _::_,[],_,_,_,_,h,_=>by simp at h
 | p::P,w::vs,0,m,nd,h1,h2,hk=>by
   simp at h1 h2;subst h1;subst h2;show bindC kindOf ((p,w)::P.zip vs) m p=_;unfold bindC;rw[va λv O=>(MI.mp nd).1 (Oh O).1,oT hk];simp
 | p::P,w::vs,i + 1,m,nd,h1,h2,hk=>by
   show bindC kindOf ((p,w)::P.zip vs) m x=_;unfold bindC;exact vb (i:=i) (MI.mp nd).2 (by simpa using h1) (by simpa using h2) hk
noncomputable def start (N:C') (vs:f' V):St:=vs.map ak++eH (N.length - vs.length) none
noncomputable def cxOf (CX:CXT) (P:qc) (w:u7) (K:bp) (mg:F') (base:z1) (N:C') (O:J9) (scope:LG) (f:fy) (γ:hJ) (A:z3) (outer:f' Env) (s:ib) (H:Hp) (E:XK):Cx where
 prog:=P
 w:=w
 K:=K
 mg:=mg
 base:=base
 A:=A.deeper (envOfC O scope s.heap.objs.size f γ)
 N:=N
 s₀:=s
 H₀:=H
 env:=envOfC O scope s.heap.objs.size f γ
 outer:=outer
 stack:=envOfC O scope s.heap.objs.size f γ::outer
 ex:=[]
 calm:=true
 fn:=λ_=>true
 pn:=[]
 xe:=λe s'=>oi (qA P w) (A.deeper (envOfC O scope s.heap.objs.size f γ)) (leaving (envOfC O scope s.heap.objs.size f γ) e) (λ_ υ=>CX outer H s E e υ) (λY υ=>CX outer H s E Y υ) s'
theorem xF {O:LG} {n:Nat} {x:J9} (h:O.names.lookup x=ak .cell):∃c,(cellsFrom n O.names []).lookup x=ak c:=by
 have q:=P3 O.names n [] (.inl h);exact Option.isSome_iff_exists.mp q
theorem AU {CX:CXT} {P:qc} {w:u7} {K:bp} {mg:F'} {base:z1} {N ps:C'} {O:J9} {scope:LG} {f:fy} {γ:hJ} {A:z3} {outer:f' Env} {s β:ib} {H:Hp} {E:XK} {us:E'} {vs:f' V}
  (S:aA N ps scope) (hd:A.handled=none) (Y:Env0 P w K mg base A outer s H) (hl:vs.length=ps.length) (r:Vals vs us)
  (x:InCallC s s.heap.objs.size (bindL (envOfC O scope s.heap.objs.size f γ).kindOf (ps.zip us) λ_=>none) (cellsFrom (s.heap.objs.size + 1) scope.names []) (bindC (envOfC O scope s.heap.objs.size f γ).kindOf (ps.zip us) λ_=>none) β):
  Inv (cxOf CX P w K mg base N O scope f γ A outer s H E) [] (start N vs) H β:=by
 have δ:ps.length<=N.length:=by have:=y3 ML S.pre;rw[JW] at this;omega
 obtain⟨h1,tk,rfl,hk⟩:=x.done;have φ:∀b:fy,b∉(cxOf CX P w K mg base N O scope f γ A outer s H E).ex:=λb z=>kf (show b∈([]:I4) from z) @F
 refine⟨⟨Y.mod,S.kind,rfl,rfl,ru _,λy z c h1 h2=>?_,λy hy=>?_,λy c _ h=>?_,λ_=>hd,Around.frames_deeper Y.frames,.inr ⟨rfl,rfl⟩,λb z=>kf z (φ b),Y.bs,Y.bsz,λb _ _=>φ b,λb z=>kf z (φ b),Y.funs,Y.frf⟩,
  rfl,Y.bare,Un.kept hk,⟨_,x.toInCall.ns,λi y v h1 h2 ε=>?_⟩,λy c h=>⟨_,x.cell y c h⟩,Y.hok.fresh (ru _),λy c h=>?_,λp α=>kf (show p∈([]:Dc) from α) @F,Y.hok.kept hk,?_⟩
 ·exact name_of_addr x.apart (Kg h1) (Kg h2)
 ·have hy:scope.names.lookup y=ak .cell∨scope.names.lookup y=ak .free:=hy;rcases hy with hy | hy
  ·exact xF hy
  ·exact kf rfl (S.nofree _ (Kg hy))
 ·exact KA (x.above y c (Kg h))
 ·have hi:i < vs.length:=by
   unfold start at h2;by_cases hi:i < vs.length
   ·exact hi
   ·rw[qE (by simpa using hi)] at h2;rw[Le] at h2;split at h2<;>cases h2
  have ha:vs[i]? =ak v:=by
   unfold start at h2;rw[qM (by simpa using hi),ic] at h2;cases e:vs[i]? with
   | none=>rw[e] at h2;cases h2
   | some a=>rw[e] at h2;cases h2;rfl
  obtain⟨u,hu,ι⟩:=r.get ha
  have α:ps[i]? =ak y:=by
   rw[<-S.pre,List.getElem?_take_of_lt @A];exact h1
  have Z:ps.Nodup:=by rw[<-S.pre];exact S.nd.sublist (Oj _ _)
  refine⟨u,ι,?_⟩;rcases S.par y (hR α) with k | k
  ·exact .inl ⟨k,u1 Z α hu k⟩
  ·obtain⟨c,e⟩:=xF (n:=s.heap.objs.size + 1) k;refine .inr ⟨.inl k,c,e,?_⟩;have q:=x.cell y c e;rw[vb Z α hu (by show scope.names.lookup y≠_;rw[k];decide)] at q;exact q
 ·exact Y.hok.fresh (KA (x.above y c (Kg h)))
 ·unfold start;show _=N.length;rw[gw,cY,qq];omega
theorem Ge {CX:CXT} {P:qc} {w:u7} {K:bp} {mg:F'} {base:z1} {k:Nat} {f:fy} {name O:J9} {Z:Arguments} {β:f' Mp} {scope:LG} {dV kV η α Y ct ρ:hJ} {an od:J0}
  {ζ:Hx} {N ps:C'} {sp:Sp} (lk:K.lookup f=ak ⟨ρ,od,.func (Kt name O Z β scope dV kV η α an Y ct),ζ⟩) (ν:LW K Y O=true) (S:aA N ps scope)
  (len:∀vs H Q E,sp vs H Q E->vs.length=ps.length)
  (δ:∀(A:z3) (outer:f' Env) (s:ib) (H:Hp) (vs:f' V) (Q:VK) (E:XK),Room k (A.deeper (envOfC O scope s.heap.objs.size f Y))->sp vs H Q E->
   ∃t,PSs (cxOf CX P w K mg base N O scope f Y A outer s H E) β t/\t {nx:=λ_ H'=>Q .non H',rt:=Q} (start N vs) H):
  FnOk P w K mg base CX (k + 1) f (Kt name O Z β scope dV kV η α an Y ct) ps sp:=by
 refine⟨len,λA outer s H args us vs Q E θ ε hb r ο=>?_⟩;have hl:=len _ _ _ _ ο;have π:K.In s.heap:=ε.mod.kin.keeps λb o e=>(ε.bs b o e).1;have τ:s.heap.NoLimit:=ε.mod.nolimit.keeps λb o e=>(ε.bs b o e).1
 have γ:∀y∈ps.zip us,scope.names.lookup y.1=ak .local∨(scope.names.lookup y.1=ak .cell/\((cellsFrom (s.heap.objs.size + 1) scope.names []).lookup y.1).isSome=true):=λ⟨n,v⟩ υ=>by
  rcases S.par n (Oh υ).1 with q | q
  ·exact .inl q
  ·exact .inr ⟨q,P3 _ _ _ (.inl q)⟩
 refine codeAny_call_function θ.depth (π _ _ lk) rfl S.co S.gen rfl (PySem.W.codeRec_of π ν) (hb _ _ _ _ ?_);refine wpAny_newFunctionEnv_cells S.kind γ λenv he ξ x=>?_;subst he;refine⟨τ.keeps x.toInCall.keep,codeAny_func ?_⟩;obtain⟨t,ht,φ⟩:=δ A outer s H vs Q E (θ.deeper _) ο;have I:Inv (cxOf CX P w K mg base N O scope f Y A outer s H E) [] (start N vs) H ξ:=AU S θ.hd ε hl r x;refine LQ (ht [] ξ (start N vs) H _ I φ) (fun χ s' hs=>?_) λe s' hs=>hs
 have fin:∀{σ':St} {H':Hp} {v:V} {u:hJ},Inv (cxOf CX P w K mg base N O scope f Y A outer s H E) [] σ' H' s'->RelV v u->Q v H'->CE outer P w H s Q u s':=
  λ{σ' H' v u} J ι q=>⟨v,H',J.os,J.bare,J.base,J.hok,ι,q⟩
 cases χ with
 | ret u=>
   obtain⟨v,σ',H',J,ι,q⟩:=hs;exact fin J ι q
 | next=>
   obtain⟨σ',H',J,q⟩:=hs;exact fin (v:=V.non) (u:=KG) J rfl q
 | brk=>
   obtain⟨_,_,_,q⟩:=hs;exact K8 q
 | cont=>
   obtain⟨_,_,_,q⟩:=hs;exact K8 q
section
variable {X:Cx} {x:J9} {p pos:Pos} {e:z8} {es:f' z8} {t:TA} {id T:Kr} {r:f' V->Hp->VK->Prop}
noncomputable abbrev tCB (r:f' V->Hp->VK->Prop) (t:TA):TE:=fun σ H Q=>t σ H λvs H1=>r vs H1 Q
theorem aD (hc:kU X (.builtin id) r) (δ:Gl X x) (hm:X.mg x=none) (γ:bootBuiltins x=ak (.builtin id)) (ha:PA X (e::es) t) (hn:x≠"__name__":=by decide) (O:(x == ("__debug__":J9))=false:=by decide)
  (he:qQ (e::es) X.env=(false,eval e X.env)::qQ es X.env:=by rfl) (Y:(backTo pos (qQ es X.env)).any (·.1)=false:=by rfl):PE X (.Call (.Name x p) (e::es) [] pos) (tCB r t):=by
 intro pins s σ H Q I h;refine Ms (jP I δ hm γ ?_ hn O);exact PyProof.Rows.callWith_builtin1 (thn (ha pos pins s σ H _ I h) λus Z ⟨vs,H1,ε,α,β⟩=>hc pins Z σ H1 vs us Q ε α β) he Y
theorem gi (hc:kU X (.type T) r) (δ:Gl X x) (hm:X.mg x=none) (γ:bootBuiltins x=ak (.type T)) (ha:PA X (e::es) t) (hn:x≠"__name__":=by decide) (O:(x == ("__debug__":J9))=false:=by decide)
  (he:qQ (e::es) X.env=(false,eval e X.env)::qQ es X.env:=by rfl) (Y:(backTo pos (qQ es X.env)).any (·.1)=false:=by rfl):PE X (.Call (.Name x p) (e::es) [] pos) (tCB r t):=by
 intro pins s σ H Q I h;refine Ms (jP I δ hm γ ?_ hn O);exact JX (thn (ha pos pins s σ H _ I h) λus Z ⟨vs,H1,ε,α,β⟩=>hc pins Z σ H1 vs us Q ε α β) he Y
end
end L2
namespace HT
open PySem PyProof.Rows
section
variable {prog:qc} {w:u7} {A:z3} {E:D9} {s:ib}
noncomputable def sIx (n d:Nat):sh Int->Nat
 | none=>d
 | some v=>if v < 0 then (v + (n:Int)).toNat else min v.toNat n
theorem sIx_none (n d:Nat):sIx n d none=d:=rfl
theorem sIx_nat (n d k:Nat):sIx n d (ak (k:Int))=min k n:=by
 show(if (k:Int) < 0 then ((k:Int) + (n:Int)).toNat else min (k:Int).toNat n)=min k n;rw[oT @A,lS]
end
end HT
namespace L2
open PySem PySem.Spec PyProof.Rows
noncomputable abbrev TO:=St->Hp->(sh Int->Hp->Prop)->Prop
def PO (X:Cx) (e:sh z8) (t:TO):Prop:=
 ∀(pins:Dc) (s:ib) (σ:St) (H:Hp) (Q:sh Int->Hp->Prop),Inv X pins σ H s->t σ H Q->
  oi (qA X.prog X.w) X.A (evalPart e X.env) (λu s'=>∃o H',Inv X pins σ H' s'/\IsPart u o/\Q o H') X.xe s
noncomputable abbrev E1:TO:=λ_ H Q=>Q none H
noncomputable abbrev Jb (t:TE):TO:=fun σ H Q=>t σ H λx H1=>∃i,x= .int i/\Q (ak i) H1
section
variable {X:Cx} {e:z8} {te:TE} {lo hi:sh z8} {tl th:TO} {pos p2:Pos}
theorem vH:PO X none E1:=by
 intro pins s σ H Q I h;rw[evalPart_none];exact hH ⟨none,H,I,.none,h⟩
theorem vG (h:PE X e te):PO X (ak e) (Jb te):=by
 intro pins s σ H Q I hw;rw[evalPart_some];refine thn (h pins s σ H _ I hw) λu α ⟨x,H1,Z,O,Y⟩=>?_;obtain⟨i,rfl,q⟩:=Y;obtain⟨t,rfl⟩:=O;exact⟨ak i,H1,Z,.int i t,q⟩
def SlR (X:Cx) (r:V->sh Int->sh Int->Hp->VK->Prop):Prop:=
 ∀(pins:Dc) (s:ib) (σ:St) (H:Hp) (x:V) (v Y O:hJ) (lo hi:sh Int) (Z:fy) (Q:VK),Inv X pins σ H s->RelV x v->s.heap.IsSliceOf Z Y O .none->IsPart Y lo->IsPart O hi->r x lo hi H Q->
  ∃T id,typeLookup (.type T) "__getitem__"=pure (ak (.builtin id))/\s.TypeIs v T/\oi (qA X.prog X.w) X.A (getItem v (.ref Z)) (EP X pins σ Q) X.xe s
noncomputable abbrev tSl (r:V->sh Int->sh Int->Hp->VK->Prop) (te:TE) (tl th:TO):TE:=fun σ H Q=>te σ H λx H1=>tl σ H1 λl H2=>th σ H2 λu O=>r x l u O Q
theorem rY {r:V->sh Int->sh Int->Hp->VK->Prop} (θ:SlR X r) (he:PE X e te) (hl:PO X lo tl) (hu:PO X hi th):PE X (.Subscript e (.Slice lo hi none p2) pos) (tSl r te tl th):=by
 intro pins s σ H Q I h;refine R5 (thn (he pins s σ H _ I h) λv δ ⟨x,H1,ξ,ε,η⟩=>?_);refine wpAny_Slice (thn (hl pins δ σ H1 _ ξ η) λZ β ⟨l,H2,ν,pl,π⟩=>thn (hu pins β σ H2 _ ν π) λO Y ⟨u,α,I3,υ,ζ⟩=>?_);rw[evalPart_none];refine hH ?_;have γ:Inv X pins σ α {Y with heap:=Y.heap.push {cls:= .type "slice",data:= .fields #[Z,O,.none]}}:=I3.kept (t':=Y.toks) λb ob q=>gB _ q;obtain⟨T,id,hT,ht,ι⟩:=θ pins {Y with heap:=Y.heap.push {cls:= .type "slice",data:= .fields #[Z,O,.none]}} σ α x v Z O l u Y.heap.objs.size Q γ ε (Heap.IsSliceOf.new ..) pl υ ζ;show oi (qA X.prog X.w) X.A (subscriptTail e (.Slice lo hi none p2) v (.ref Y.heap.objs.size)) (EP X pins σ Q) X.xe {Y with heap:=Y.heap.push {cls:= .type "slice",data:= .fields #[Z,O,.none]}};exact tail_any (ops:=[.ref Y.heap.objs.size,v]) ht hT ι (by with_unfolding_all rfl)
noncomputable def cutV (xs:f' V) (lo hi:sh Int):f' V:=(xs.drop (HT.sIx xs.length 0 lo)).take (HT.sIx xs.length xs.length hi - HT.sIx xs.length 0 lo)
theorem wk (xs:f' V) (lo hi:sh Int):(cutV xs lo hi).length<=xs.length:=by
 unfold cutV;rw[JW,Ml];omega
end
noncomputable def ixN (n:Nat) (i:Int):sh Nat:=if 0<=i then (if i < n then ak i.toNat else none) else if -(n:Int)<=i then ak (i + n).toNat else none
noncomputable def atI {α:Type} (xs:f' α) (i:Int):sh α:=(ixN xs.length i).bind λj=>xs[j]?
theorem AR {n:Nat} {i:Int} {j:Nat} (h:ixN n i=ak j):seqIndex? i n=ak j/\j < n/\-(n:Int)<=i/\i < n:=by
 unfold ixN at h;by_cases O:0<=i
 ·rw[pT O] at h;by_cases h1:i < n
  ·rw[pT h1] at h;have e:i.toNat=j:=mu h;exact⟨by rw[QD O h1,e],@A,@A,h1⟩
  ·rw[oT h1] at h;cases h
 ·rw[oT O] at h;by_cases h1: -(n:Int)<=i
  ·rw[pT h1] at h;have e:(i + n).toNat=j:=mu h;exact⟨by rw[Qf @A h1,e],@A,h1,@A⟩
  ·rw[oT h1] at h;cases h
theorem Bv {α:Type} {xs:f' α} {i:Int} {v:α} (h:atI xs i=ak v):∃j,seqIndex? i xs.length=ak j/\xs[j]? =ak v/\j < xs.length/\-(xs.length:Int)<=i/\i < xs.length:=by
 unfold atI at h;cases e:ixN xs.length i with
 | none=>rw[e] at h;cases h
 | some j=>
   rw[e] at h;obtain⟨h1,h2,O,ρ⟩:=AR e;exact⟨j,h1,h,h2,O,ρ⟩
theorem ip {α:Type} {xs:f' α} {j:Nat} {v:α} (h:xs[j]? =ak v):atI xs (j:Int)=ak v:=by
 have O:j < xs.length:=(dt.mp h).1
 have e:ixN xs.length (j:Int)=ak j:=by
  unfold ixN;rw[pT @A,pT @A];simp
 unfold atI;rw[e];exact h
def Gu (b:z8):Prop:=∀o i,subscripted b false o i=operate [o,i] (getItem o i)
def IxR (X:Cx) (r:R2):Prop:=
 ∀(value O:z8) (pins:Dc) (s:ib) (σ:St) (H:Hp) (x y:V) (v u:hJ) (Q:VK),Inv X pins σ H s->RelV x v->RelV y u->r x y H Q->
  subscripted O false v u=operate [v,u] (getItem v u)->oi (qA X.prog X.w) X.A (subscriptTail value O v u) (EP X pins σ Q) X.xe s
def MtR (X:Cx) (id:Kr) (r:V->f' V->Hp->VK->Prop):Prop:=
 ∀(pins:Dc) (s:ib) (σ:St) (H:Hp) (x:V) (xs:f' V) (v:hJ) (us:E') (Q:VK),Inv X pins σ H s->RelV x v->Vals xs us->r x xs H Q->
  oi (qA X.prog X.w) X.A (call (.builtin id) (v::us)) (EP X pins σ Q) X.xe s
section
variable {X:Cx} {a b:z8} {ta tb:TE} {pos:Pos}
theorem aI {r:R2} (α:IxR X r) (ha:PE X a ta) (hb:PE X b tb) (hs:Gu b):PE X (.Subscript a b pos) (tOp r ta tb):=by
 intro pins s σ H Q I h;exact R5 (binT ha hb I h λv u O x y H2 β Z Y q=>α a b pins O σ H2 x y v u Q β Z Y q (hs _ _))
noncomputable def rIxL (K:bp):R2:=λx y H Q=>∃p xs i v,x= .ref p/\y= .int i/\SqL K H p xs/\atI xs i=ak v/\Q v H
noncomputable def rIxT (K:bp):R2:=λx y H Q=>∃p xs i v,x= .ref p/\y= .int i/\SqT K H p xs/\atI xs i=ak v/\Q v H
theorem F2:IxR X (rIxL X.K):=by
 intro value O pins s σ H x y v u Q I ε γ h hs;obtain⟨p,xs,i,z,rfl,rfl,ζ,he,q⟩:=h;cases ε;obtain⟨t,rfl⟩:=γ;obtain⟨its,r,pl,hz⟩:=I.list ζ;obtain⟨j,h1,h2,η,ρ,δ⟩:=Bv he;obtain⟨w,β,Y⟩:=r.get h2;have hl:=r.length;have hn:=xl;have fin:EP X pins σ Q w s:=⟨z,H,I,Y,q⟩;by_cases α:0<=i
 ·have Z:i.toNat=j:=by
   rw[QD α δ] at h1;exact mu h1
  exact item_listR pl.isList α @A (by rw[Z];simpa using β) fin hs
 ·have Z:(i + (its.toArray.size:Int)).toNat=j:=by
   rw[Qf @A ρ] at h1;rw[u9,<-hl];exact mu h1
  exact Qh (x:=w) pl.isList.typeIs slot_list_getitem.lookup
   (wpAny_getItem_list_neg (Q:=λr s'=>r=w/\EP X pins σ Q r s') pl.isList @A (by rw[u9]<;>omega) @A (by rw[Z];simpa using β) ⟨rfl,fin⟩) hs
theorem Il:IxR X (rIxT X.K):=by
 intro value O pins s σ H x y v u Q I α Z h hs;obtain⟨p,xs,i,z,rfl,rfl,β,he,q⟩:=h;cases α;obtain⟨t,rfl⟩:=Z;obtain⟨its,r,pl,hz⟩:=I.tuple β;obtain⟨j,h1,h2,ε,ρ,δ⟩:=Bv he;obtain⟨w,γ,Y⟩:=r.get h2;have hl:=r.length;have hn:=xl;have fin:EP X pins σ Q w s:=⟨z,H,I,Y,q⟩
 exact Qh (x:=w) pl.typeIs slot_tuple_getitem.lookup
  (getItem_tuple (j:=j) (Q:=λr s'=>r=w/\EP X pins σ Q r s') pl @A @A (by rw[u9,<-hl];exact h1) (by simpa using γ) ⟨rfl,fin⟩) hs
theorem yp (its:E') (n j:Nat) (u:hJ):Nv (·.setIfInBounds j u) {cls:= .type "list",data:= .seq its.toArray n}={cls:= .type "list",data:= .seq (its.set j u).toArray n}:=by
 simp[Nv]
theorem Inv.lst {pins:Dc} {σ:St} {H:Hp} {s:ib} {p:fy} {xs:f' V} (I:Inv X pins σ H s) (h:H p=ak (.lst xs)):
  ∃(its:E') (n:Nat),Vals xs its/\s.heap.get? p=ak {cls:= .type "list",data:= .seq its.toArray n}/\xs.length<=sizeLine:=by
 obtain⟨z,its,n,r,e⟩:=I.hok p _ h;exact⟨its,n,r,e,z⟩
theorem Inv.lstUpd {pins:Dc} {σ:St} {H:Hp} {s:ib} {p:fy} {xs ys:f' V} {its its':E'} {n O:Nat} {f:P8->P8} (I:Inv X pins σ H s) (h:H p=ak (.lst xs))
  (ho:s.heap.get? p=ak {cls:= .type "list",data:= .seq its.toArray n}) (hf:f {cls:= .type "list",data:= .seq its.toArray n}={cls:= .type "list",data:= .seq its'.toArray O}) (r:Vals ys its') (hz:ys.length<=qb) (t:Nat):
  Inv X pins σ (upd H p (.lst ys)) {s with heap:=s.heap.update p f,toks:=t}:=by
 have e:(s.heap.update p f).get? p=ak {cls:= .type "list",data:= .seq its'.toArray O}:=by
  rw[KF f ho (by rw[hf]<;>rfl),hf]
 refine I.write (x:=p) (e:=p) (by rw[h];trivial) (.inl rfl) (λb u hb q=>(LF _ _ (Lf hb)).trans q) ⟨_,e⟩ ?_;exact⟨hz,its',O,r,e⟩
noncomputable def Ho:V->V->V->Hp->(Hp->Prop)->Prop:=λo i v H Q=>∃p xs k j,o= .ref p/\i= .int k/\H p=ak (.lst xs)/\ixN xs.length k=ak j/\Q (upd H p (.lst (xs.set j v)))
theorem wQ:PSet X Ho:=by
 intro pins s σ H o i v δ ε u Q I α φ ι h;obtain⟨p,xs,k,j,rfl,rfl,O,β,q⟩:=h;cases α;obtain⟨t,rfl⟩:=φ;obtain⟨its,n,r,ho,hz⟩:=I.lst O;obtain⟨h1,h2,Y,ρ⟩:=AR β;have hl:=r.length;have hn:=xl
 have γ:Inv X pins σ (upd H p (.lst (xs.set j v))) {s with heap:=s.heap.update p (Nv (·.setIfInBounds j u))}:=
  I.lstUpd O ho (yp its n j u) (r.set ι j) (by rw[M6];exact hz) s.toks
 by_cases Z:0<=k
 ·have hk:k.toNat=j:=by
   rw[QD Z ρ] at h1;exact mu h1
  exact PySem.W.ki_setAt ho Z @A (by rw[u9,<-hl];exact ρ) (by rw[hk];exact⟨_,γ,q⟩)
 ·have hk:(k + (its.toArray.size:Int)).toNat=j:=by
   rw[Qf @A Y] at h1;rw[u9,<-hl];exact mu h1
  exact PySem.W.ki_setBack ho @A (by rw[u9,<-hl];exact Y) @A (by rw[hk];exact⟨_,γ,q⟩)
theorem tX (lo hi:sh Int) (n:Nat):(sliceBounds lo hi none n).1=((HT.sIx n 0 lo:Nat):Int)/\(sliceBounds lo hi none n).2.1=((HT.sIx n n hi:Nat):Int)/\(sliceBounds lo hi none n).2.2=1:=by
 refine⟨?_,?_,rfl⟩
 ·cases lo with
  | none=>simp[sliceBounds,HT.sIx]
  | some i=>
    simp only[sliceBounds,HT.sIx,PF,show(1:Int) > 0 by decide,Og];by_cases h:i < 0
    ·simp only[h,Og]<;>omega
    ·simp only[h,if_false]<;>omega
 ·cases hi with
  | none=>simp[sliceBounds,HT.sIx]
  | some i=>
    simp only[sliceBounds,HT.sIx,PF,show(1:Int) > 0 by decide,Og];by_cases h:i < 0
    ·simp only[h,Og]<;>omega
    ·simp only[h,if_false]<;>omega
theorem rN (its:E') (lo hi:sh Int):slicePick its.toArray lo hi none=((its.drop (HT.sIx its.length 0 lo)).take (HT.sIx its.length its.length hi - HT.sIx its.length 0 lo)).toArray:=by
 obtain⟨h1,h2,O⟩:=tX lo hi its.toArray.size;unfold slicePick;rw[h1,h2,O];simp only[sliceRange_one,pick_run,u9]<;>rfl
noncomputable def rSlL (K:bp):V->sh Int->sh Int->Hp->VK->Prop:=λx lo hi H Q=>∃a xs,x= .ref a/\SqL K H a xs/\∀p,H p=none->Q (.ref p) (upd H p (.lst (cutV xs lo hi)))
theorem Fe:SlR X (rSlL X.K):=by
 intro pins s σ H x v β O lo hi γ Q I Z hs pl υ h;obtain⟨a,xs,rfl,α,q⟩:=h;cases Z;obtain⟨its,r,ht,hz⟩:=I.list α;have Y:=r.length;refine⟨"list",_,slot_list_getitem.lookup,ht.isList.typeIs,?_⟩;refine wpAny_getItem_list_slice ht.isList hs pl υ .none @F ?_ (by rw[u9]<;>omega);rw[rN,<-Y];refine⟨.ref s.heap.objs.size,_,I.laid (t':=s.toks) (o:= .lst (cutV xs lo hi)) (λb ob q=>gB _ q) (ru _) ?_,rfl,q _ (I.hok.fresh (ru _))⟩;exact⟨L9 (wk xs lo hi) hz,_,0,(r.drop (HT.sIx xs.length 0 lo)).take (HT.sIx xs.length xs.length hi - HT.sIx xs.length 0 lo),pB _ rfl⟩
noncomputable def pI:V->JY
 | .non=>true
 | .bl _=>true
 | .int _=>true
 | .str _=>true
 | _=>false
noncomputable def eqV:V->V->JY
 | .non,.non=>true
 | .bl a,.bl b=>a == b
 | .bl a,.int b=>(if a then 1 else 0) == b
 | .int a,.bl b=>a == (if b then 1 else 0)
 | .int a,.int b=>a == b
 | .str a,.str b=>a == b
 | _,_=>false
theorem Iw {A:z3} {s:ib} {y x:V} {u v:hJ} (Y:RelV y u) (O:RelV x v) (Z:pI y=true) (fx:pI x=true):SeqAt.EqAt A s u v (eqV y x):=by
 cases y with
 | non=>
   cases Y;cases x with
   | non=>cases O;exact SeqAt.EqAt.same _
   | bl b=>cases O;exact SeqAt.EqAt.none_bool b
   | int b=>obtain⟨t,rfl⟩:=O;exact SeqAt.EqAt.none_int b t
   | str b=>obtain⟨t,rfl⟩:=O;exact SeqAt.EqAt.none_str b t
   | _=>exact kf (show false=true from fx) kv
 | bl a=>
   cases Y;cases x with
   | non=>cases O;exact SeqAt.EqAt.bool_none a
   | bl b=>cases O;exact SeqAt.EqAt.bool_bool a b
   | int b=>obtain⟨t,rfl⟩:=O;exact SeqAt.EqAt.bool_int a b t
   | str b=>obtain⟨t,rfl⟩:=O;exact SeqAt.EqAt.bool_str a b t
   | _=>exact kf (show false=true from fx) kv
 | int a=>
   obtain⟨t',rfl⟩:=Y;cases x with
   | non=>cases O;exact SeqAt.EqAt.int_none a t'
   | bl b=>cases O;exact SeqAt.EqAt.int_bool a t' b
   | int b=>obtain⟨t,rfl⟩:=O;exact SeqAt.EqAt.int_int a t' b t
   | str b=>obtain⟨t,rfl⟩:=O;exact Ph a t' b t
   | _=>exact kf (show false=true from fx) kv
 | str a=>
   obtain⟨t',rfl⟩:=Y;cases x with
   | non=>cases O;exact SeqAt.EqAt.str_none a t'
   | bl b=>cases O;exact SeqAt.EqAt.str_bool a t' b
   | int b=>obtain⟨t,rfl⟩:=O;exact Pg a t' b t
   | str b=>obtain⟨t,rfl⟩:=O;exact SeqAt.EqAt.str_str a t' b t
   | _=>exact kf (show false=true from fx) kv
 | _=>exact kf (show false=true from Z) kv
theorem uX:kU X (.type "list") (λxs H Q=>∃p ys,xs=[.ref p]/\(SqL X.K H p ys∨SqT X.K H p ys)/\∀l,H l=none->Q (.ref l) (upd H l (.lst ys))):=by
 intro pins s σ H xs us Q I r h;obtain⟨p,ys,rfl,hq,q⟩:=h;obtain⟨u,rfl,α⟩:=xO r;cases α
 have fin:∀(its:E'),Vals ys its->ys.length<=qb->∀(h':z1) (O:Nat),(∀b o',s.heap.get? b=ak o'->h'.get? b=ak o')->
   h'.get? s.heap.objs.size=ak {cls:= .type "list",dict:=none,data:= .seq its.toArray O,slots:=#[]}->EP X pins σ Q (.ref s.heap.objs.size) {s with heap:=h'}:=λits r' hz h' O kp e=>
  ⟨.ref s.heap.objs.size,_,I.laid (t':=s.toks) kp (ru _) (show fV X.prog X.w _ h' _ (.lst ys) from⟨hz,its,O,r',e⟩),rfl,q _ (I.hok.fresh (ru _))⟩
 rcases hq with hq | hq
 ·obtain⟨its,r',pl,hz⟩:=I.list hq;have Y:=r'.length;obtain⟨o,ho,Z,n,hd⟩:=pl.isList;exact call_list_seq p (.inl rfl) ho Z hd (λh' O kp e=>fin its r' hz h' O kp e) (by simp only[u9]<;>omega)
 ·obtain⟨its,r',pl,hz⟩:=I.tuple hq;have Y:=r'.length;obtain⟨o,ho,Z,n,hd⟩:=pl;exact call_list_seq p (.inr rfl) ho Z hd (λh' O kp e=>fin its r' hz h' O kp e) (by simp only[u9]<;>omega)
theorem tf:kU X (.type "tuple") (λxs H Q=>∃p ys,xs=[.ref p]/\((SqL X.K H p ys/\∀l,H l=none->Q (.ref l) (upd H l (.tup ys)))∨(SqT X.K H p ys/\Q (.ref p) H))):=by
 intro pins s σ H xs us Q I r h;obtain⟨p,ys,rfl,h⟩:=h;obtain⟨u,rfl,Z⟩:=xO r;cases Z;rcases h with ⟨O,q⟩ | ⟨O,q⟩
 ·obtain⟨its,r',pl,hz⟩:=I.list O;have Y:=r'.length;refine call_tuple_list pl.isList (λh' kp=>?_) (by simp only[u9]<;>omega);have I1:Inv X pins σ H {s with heap:=h'}:=I.kept (t':=s.toks) kp
  have α:Inv X pins σ (upd H h'.objs.size (.tup ys)) {s with heap:=h'.push {cls:= .type "tuple",data:= .seq its.toArray}}:=
   I1.laid (t':=s.toks) (λb o e=>gB _ e) (ru _) (show fV X.prog X.w _ _ _ (.tup ys) from⟨hz,its,r',IsTup.new _ _⟩)
  exact⟨.ref h'.objs.size,_,α,rfl,q _ (I1.hok.fresh (ru _))⟩
 ·obtain⟨its,r',pl,hz⟩:=I.tuple O;exact call_tuple_same pl ⟨.ref p,H,I,rfl,q⟩
def tyV (K:bp) (T:Kr) (x:V) (H:Hp):Prop:=match x with
 | .str _=>T="str"
 | .int _=>T="int"
 | .ref p=>(T="list"/\∃xs,SqL K H p xs)∨(T="tuple"/\∃o,K.lookup p=ak o/\o.cls= .type "tuple"/\o.dict=none)∨
   (T="dict"/\((∃kvs,H p=ak (.dK kvs))∨∃kvs,H p=ak (.dT kvs)))∨(T="set"/\∃S n,H p=ak (.set S n))
 | _=>False
theorem DS {pins:Dc} {σ:St} {H:Hp} {s:ib} {T:Kr} {x:V} {v:hJ} (I:Inv X pins σ H s) (r:RelV x v) (ty:tyV X.K T x H):
  s.TypeIs v T/\∀a,v= .ref a->∃ob,s.heap.get? a=ak ob/\ob.dict=none:=by
 cases x with
 | str z=>
   obtain⟨t,rfl⟩:=r;cases(show T="str" from ty);exact⟨typeIs_str s z t,λ_ e=>nomatch e⟩
 | int i=>
   obtain⟨t,rfl⟩:=r;cases(show T="int" from ty);exact⟨R4 s i t,λ_ e=>nomatch e⟩
 | ref p=>
   cases r;rcases ty with ⟨rfl,xs,Y⟩ | ⟨rfl,o,hk,Z,hd⟩ | ⟨rfl,hk⟩ | ⟨rfl,S,n,hk⟩
   ·obtain⟨its,_,pl,_⟩:=I.list Y;refine⟨pl.isList.typeIs,λa e=>?_⟩;cases e;obtain⟨o,n,e,c,hd,_⟩:=pl;exact⟨o,e,hd⟩
   ·refine⟨⟨o,I.kIn p o hk,Z⟩,λa e=>?_⟩;cases e;exact⟨o,I.kIn _ o hk,hd⟩
   ·have z:∃o,s.heap.get? p=ak o/\o.ExactDict:=by
     rcases hk with ⟨kvs,hk⟩ | ⟨kvs,hk⟩
     ·obtain⟨_,_,_,_,o,_,_,e,ex,_⟩:=I.hok p _ hk;exact⟨o,e,ex⟩
     ·obtain⟨_,_,_,_,o,_,_,e,ex,_⟩:=I.hok p _ hk;exact⟨o,e,ex⟩
    obtain⟨o,e,ex⟩:=z;refine⟨⟨o,e,ex.1⟩,λa O=>?_⟩;cases O;exact⟨o,e,ex.2.1⟩
   ·obtain⟨o,_,_,_,e,ex,_⟩:=I.hok p _ hk;refine⟨⟨o,e,ex.1⟩,λa O=>?_⟩;cases O;exact⟨o,e,ex.2.1⟩
 | _=>exact K8 ty
noncomputable abbrev tBM0 (K:bp) (T:Kr) (r:V->f' V->Hp->VK->Prop) (to:TE):TE:=fun σ H Q=>to σ H λx H1=>tyV K T x H1/\r x [] H1 Q
noncomputable abbrev tBM (K:bp) (T:Kr) (r:V->f' V->Hp->VK->Prop) (to:TE) (t:TA):TE:=fun σ H Q=>to σ H λx H1=>tyV K T x H1/\t σ H1 λxs H2=>r x xs H2 Q
variable {o e:z8} {es:f' z8} {to:TE} {t:TA} {name:J9} {apos cpos:Pos} {T id:Kr} {r:V->f' V->Hp->VK->Prop}
theorem HM (π:PlainAttrs T) (slot:Slot T name id) (ο:typeOf (.builtin id)=pure (.type "method_descriptor")) (hm:MtR X id r) (ho:PE X o to)
  (δ:attributeBase o name X.env (eval o X.env)=eval o X.env:=by rfl) (γ:(apos.endLine == cpos.line)=true:=by rfl):PE X (.Call (.Attribute o name apos) [] [] cpos) (tBM0 X.K T r to):=by
 intro pins s σ H Q I h;refine wpAny_Call_method0_late δ γ (thn (ho pins s σ H _ I h) λv Z ⟨x,H1,Y,O,ty,α⟩=>?_);obtain⟨h1,h2⟩:=DS Y O ty;exact⟨T,id,π,slot,ο,h1,h2,Po rfl (PySem.evalArgs_none (hm pins Z σ H1 x [] v [] Q Y O .nil α))⟩
theorem Jv (ι:PlainAttrs T) (slot:Slot T name id) (ο:typeOf (.builtin id)=pure (.type "method_descriptor")) (hm:MtR X id r) (ho:PE X o to) (ha:PA X (e::es) t)
  (δ:attributeBase o name X.env (eval o X.env)=eval o X.env:=by rfl)
  (Y:((backTo cpos (qQ (e::es) X.env)).all (λx=> !x.1)&&(backToKw cpos (keywordEach [] X.env)).all (λx=>x.1.isSome)
   &&decide ((e::es).length + ([]:f' Keyword).length + (if ([]:f' Keyword).isEmpty then 0 else 1) < 30))=true:=by rfl)
  (γ:(apos.endLine == cpos.line)=true:=by rfl) (hs:qQ (e::es) X.env=(false,eval e X.env)::qQ es X.env:=by rfl) (O:(backTo cpos (qQ es X.env)).any (·.1)=false:=by rfl):
  PE X (.Call (.Attribute o name apos) (e::es) [] cpos) (tBM X.K T r to t):=by
 intro pins s σ H Q I h;refine wpAny_Call_method_late δ Y γ rfl (thn (ho pins s σ H _ I h) λv ζ ⟨x,H1,β,Z,ty,θ⟩=>?_);obtain⟨h1,h2⟩:=DS β Z ty;refine⟨T,id,ι,slot,ο,h1,h2,?_⟩;have α:=ha cpos pins ζ σ H1 _ β θ;rw[hs] at α ⊢;refine Po (by show(false||(backTo cpos (qQ es X.env)).any (·.1))=false;rw[O]<;>rfl) (PL ?_);exact thn α λus ε ⟨vs,H2,ν,η,π⟩=>hm pins ε σ H2 x vs v us Q ν Z η π
end
def MtM (X:Cx) (id:Kr) (r:V->f' V->Hp->VK->Prop):Prop:=
 ∀(pins:Dc) (s:ib) (σ:St) (H:Hp) (x:V) (xs:f' V) (v:hJ) (us:E') (Q:VK),Inv X pins σ H s->RelV x v->Vals xs us->r x xs H Q->
  oi (qA X.prog X.w) X.A (call (.builtin id) (v::us)) (EP X pins σ Q) X.xe s
theorem Vals.one:∀{x:V} {us:E'},Vals [x] us->∃u,us=[u]/\RelV x u
 | _,_,.cons r .nil=>⟨_,rfl,r⟩
theorem Vals.eraseIdx:∀{xs:f' V} {us:E'} (i:Nat),Vals xs us->Vals (xs.eraseIdx i) (us.eraseIdx i)
 | _,_,_,.nil=> .nil
 | _,_,0,.cons _ t=>t
 | _,_,i + 1,.cons r t=> .cons r (Vals.eraseIdx i t)
theorem Vals.rep {xs:f' V} {us:E'} (h:Vals xs us):∀k:Nat,Vals (eH k xs).flatten (eH k us).flatten
 | 0=> .nil
 | k + 1=>by
   rw[KW,KW,ME,ME];exact Vals.append h (Vals.rep h k)
theorem uv {α:Type}:∀(l:f' α) (i:Nat),(l.eraseIdx i).length<=l.length
 | [],_=>ru _
 | _::_,0=>NB _
 | _::r,i + 1=>Nat.succ_le_succ (uv r i)
theorem uM (its:E'):∀(k:Nat) (O:E'),
  Q4 (λx1 x2=>x1++x2) O.toArray (eH k its.toArray)=(O++(eH k its).flatten).toArray
 | 0,O=>by simp
 | k + 1,O=>by
   have e:O.toArray++its.toArray=(O++its).toArray:=by simp
   have Y:(O++its)++(eH k its).flatten=O++(eH (k + 1) its).flatten:=by
    rw[KW,ME,LM]
   rw[<-Y,<-uM its k (O++its),<-e,KW,La]
section
variable {X:Cx} {pins:Dc} {σ:St} {H:Hp} {s:ib} {l b:fy} {xs ys zs:f' V}
theorem Inv.lset {its its':E'} {n:Nat} {f:G'->G'} {t':Nat} (I:Inv X pins σ H s) (η:H l=ak (.lst xs))
  (e:s.heap.get? l=ak {cls:= .type "list",data:= .seq its.toArray n}) (hf:f its.toArray=its'.toArray) (O:Vals ys its') (hz:ys.length<=qb):
  Inv X pins σ (upd H l (.lst ys)) {s with heap:=s.heap.update l (Nv f),toks:=t'}:=by
 have q:=PySem.IsL.update e f;rw[hf] at q;refine I.write (x:=l) (e:=l) (by rw[η];exact trivial) (.inl rfl) (fun χ u hb hu=>(LF s.heap (Nv f) (Lf hb)).trans hu) ⟨_,q⟩ ?_;exact⟨hz,its',_,O,q⟩
theorem Inv.lnew {its:E'} {t':Nat} (I:Inv X pins σ H s) (O:Vals ys its) (hz:ys.length<=qb):
  Inv X pins σ (upd H s.heap.objs.size (.lst ys)) {s with heap:=s.heap.push {cls:= .type "list",data:= .seq its.toArray},toks:=t'}:=
 I.laid (λ_ _ q=>gB _ q) (ru _) ⟨hz,its,0,O,pB _ rfl⟩
theorem Inv.fresh (I:Inv X pins σ H s):H s.heap.objs.size=none:=I.hok.fresh (ru _)
theorem Inv.lstM (I:Inv X pins σ H s) (η:H l=ak (.lst xs)):xs.length<=qb/\∃(its:E') (n:Nat),Vals xs its/\xs.length=its.length/\s.heap.get? l=ak {cls:= .type "list",data:= .seq its.toArray n}:=by
 obtain⟨z,its,n,r,e⟩:=I.hok l _ η;exact⟨z,its,n,r,r.length,e⟩
theorem xg {n:Nat} (h:n<=qb):LY n=false:=by
 unfold LY;exact ia @A
end
section
variable {X:Cx}
noncomputable def Ac:V->f' V->Hp->VK->Prop:=λx vs H Q=>∃l xs y,x= .ref l/\vs=[y]/\H l=ak (.lst xs)/\xs.length < qb/\Q .non (upd H l (.lst (xs++[y])))
theorem cv:MtM X "list.append" Ac:=by
 intro pins s σ H x vs v us Q I O ι h;obtain⟨l,xs,y,rfl,rfl,η,hz,q⟩:=h;cases O;obtain⟨u,rfl,ν⟩:=ι.one;obtain⟨z,its,n,r,hl,e⟩:=I.lstM η;refine OF F.slot_list_append ⟨_,e,rfl⟩ F.entry_list_append (F.args_list_append_2 _ _) (PySem.list_append l its.toArray n u (by rw[u9];omega)) ⟨e,?_⟩;refine⟨.non,_,I.lset (its':=its++[u]) η e @F (r.append (.cons ν .nil)) ?_,rfl,q⟩;rw[gw,y2];omega
noncomputable def Ab:V->f' V->Hp->VK->Prop:=λx vs H Q=>∃l b xs zs,x= .ref l/\vs=[.ref b]/\H l=ak (.lst xs)/\H b=ak (.lst zs)/\xs.length + zs.length<=qb/\Q .non (upd H l (.lst (xs++zs)))
theorem oX:MtM X "list.extend" Ab:=by
 intro pins s σ H x vs v us Q I Y ι h;obtain⟨l,b,xs,zs,rfl,rfl,η,γ,hz,q⟩:=h;cases Y;obtain⟨u,rfl,ν⟩:=ι.one;cases ν;obtain⟨z,its,n,r,hl,e⟩:=I.lstM η;obtain⟨β,O,α,Z,hl2,δ⟩:=I.lstM γ;have hsz:its.toArray.size + O.toArray.size<=sizeLine:=by rw[u9,u9];omega
 have π:¬(!its.toArray.isEmpty&&LY (its.toArray.size + O.toArray.size))=true:=by
  rw[xg hsz,NR];exact kv
 refine OF F.slot_list_extend ⟨_,e,rfl⟩ F.entry_list_extend (F.args_list_extend_2 _ _)
  (AutoSeq1.list_extend_list_list_0 l its.toArray n b O.toArray α π (by rw[u9];omega) @A) ⟨e,δ,?_⟩
 refine⟨.non,_,I.lset (its':=its++O) η e @F (r.append Z) ?_,rfl,q⟩;rw[gw];omega
noncomputable def Hq:V->f' V->Hp->VK->Prop:=λx vs H Q=>∃l xs i k y,x= .ref l/\vs=[.int i]/\H l=ak (.lst xs)/\-(2 ^ 63)<=i/\i < 2 ^ 63/\seqIndex? i xs.length=ak k/\xs[k]? =ak y/\Q y (upd H l (.lst (xs.eraseIdx k)))
theorem CN:MtM X "list.pop" Hq:=by
 intro pins s σ H x vs v us Q I Y ι h;obtain⟨l,xs,i,k,y,rfl,rfl,η,h1,h2,hk,Z,q⟩:=h;cases Y;obtain⟨u,rfl,ν⟩:=ι.one;obtain⟨t,rfl⟩:=ν;obtain⟨z,its,n,r,hl,e⟩:=I.lstM η;obtain⟨w,hw,O⟩:=r.get Z
 refine OF F.slot_list_pop ⟨_,e,rfl⟩ F.entry_list_pop (F.args_list_pop_2 _ _)
  (MeetsSeq.list_pop_at l its.toArray n i t k w (fitsIndex_both h1 h2) (by rw[u9,<-hl];exact hk) (by rw[<-JZ];exact hw) (by rw[u9];omega)) ⟨e,?_⟩
 refine⟨y,_,I.lset (its':=its.eraseIdx k) η e ?_ (r.eraseIdx k) ?_,O,q⟩
 ·show its.toArray.eraseIdxIfInBounds k=(its.eraseIdx k).toArray;rw[List.eraseIdxIfInBounds_toArray]
 ·have:=uv xs k;omega
noncomputable def rCat:R2:=λx y H Q=>∃l b xs zs,x= .ref l/\y= .ref b/\H l=ak (.lst xs)/\H b=ak (.lst zs)/\xs.length + zs.length<=qb/\∀p,H p=none->Q (.ref p) (upd H p (.lst (xs++zs)))
theorem k9:OpR X (binaryOp .Add) rCat:=by
 intro pins s σ H x y v u Q I Z Y h;obtain⟨l,b,xs,zs,rfl,rfl,η,γ,hz,q⟩:=h;cases Z;cases Y;obtain⟨z,its,n,r,hl,e⟩:=I.lstM η;obtain⟨β,O,ε,α,hl2,δ⟩:=I.lstM γ;refine PySem.P.add_list e δ ?_ (by rw[u9,u9];omega);have ea:its.toArray++O.toArray=(its++O).toArray:=by simp
 rw[ea];exact⟨.ref _,_,I.lnew (t':=s.toks) (r.append α) (by rw[gw];omega),rfl,q _ I.fresh⟩
noncomputable def rRep:R2:=λx y H Q=>∃l k xs,x= .ref l/\y= .int k/\H l=ak (.lst xs)/\-(2 ^ 63)<=k/\k < 2 ^ 63/\xs.length * k.toNat<=qb/\
 ∀p,H p=none->Q (.ref p) (upd H p (.lst (eH k.toNat xs).flatten))
theorem F1 {α:Type} (xs:f' α) (k:Nat):(eH k xs).flatten.length=k * xs.length:=by
 induction k with
 | zero=>simp
 | succ k ih=>rw[KW,ME,gw,ih,NY,Mz]
theorem xa:OpR X (binaryOp .Mult) rRep:=by
 intro pins s σ H x y v u Q I β α h;obtain⟨l,k,xs,rfl,rfl,η,h1,h2,hz,q⟩:=h;cases β;obtain⟨t,rfl⟩:=α;obtain⟨z,its,n,r,hl,e⟩:=I.lstM η;have Y:its.toArray.size * k.toNat<=sizeLine:=by rw[u9,<-hl];exact hz
 have Z:¬its.toArray.size * k.toNat > (2 ^ 63 - 1) / 8:=by
  have:(qb:Nat)<=(2 ^ 63 - 1) / 8:=by decide
  omega
 have χ:¬(!Builtin.List.listFitsIndex k)=true:=by
  rw[fitsIndex_both h1 h2];exact kv
 have π:¬LY (its.toArray.size * k.toNat)=true:=by
  rw[xg Y];exact kv
 have O:Q4 (λx1 x2=>x1++x2) #[] (eH (if its.toArray.isEmpty=true then 0 else k.toNat) its.toArray)=(eH k.toNat its).flatten.toArray:=by
  have θ:∀m:Nat,Q4 (λx1 x2=>x1++x2) #[] (eH m its.toArray)=(eH m its).flatten.toArray:=λm=>by
   have:=uM its m [];rw[List.nil_append] at this;exact this
  rw[θ];cases its with
  | nil=>simp
  | cons a r'=>rw[oT @F]
 refine wpAny_binaryOp_repeat_ref (T:="list") (U:="int") @C ⟨_,e,rfl⟩ (λs'=>R4 s' k t) noFill_list_mul F.fills_int_mul F.slot_int_rmul repeat_list F.slot_int_index.lookup
  (OF F.slot_int_rmul (R4 s k t) F.entry_int_rmul (F.args_int_rmul_2 _ _) (int___rmul___int_list k t l its.toArray n)
   ⟨e,rfl,⟨_,e,rfl⟩,OF F.slot_list_mul ⟨_,e,rfl⟩ F.entry_list_mul (F.args_list_mul_2 _ _) (AutoListH.list___mul___list_int_3 l its.toArray n k t χ Z π) ⟨e,?_⟩⟩)
 rw[O];exact⟨.ref _,_,I.lnew (t':=s.toks) (r.rep k.toNat) (by rw[F1,Ox];exact hz),rfl,q _ I.fresh⟩
end
end L2
namespace Att
open PySem PySem.W PySem.Calls PyProof.Rows
theorem pD {P:Params} {h:z1}:∀(ns:I9) (vs:E'),WellAll P h vs (ns.map WData.int)->IntsAre vs ns:=by
 intro ns
 induction ns with
 | nil=>
   intro vs w;rw[OW] at w;cases w;exact .nil
 | cons n ns ih=>
   intro vs w;rw[Ka] at w;cases w with
   | cons a b=>
     cases a;exact .cons _ _ (ih _ b)
theorem zR {l:Qe} {n:Nat} (hn:l.most=ak n) {P:Params} {h:z1} {args:f' WData} {β:E'}
  (Y:l.row.toRowW.claim.pre args=true) (α:WellAll P h β args):
  ∃a vs ns,β=[z2 a]/\args=[WData.list (ns.map WData.int)]/\h.get? a=ak {cls:= .type "list",data:= .seq vs.toArray}/\IntsAre vs ns/\ns.length<=n:=by
 have γ:WShape.hasAll [] args [.list .int]=true:=(pre_splitW Y).1;have ε:l.pre.holds [] {args:=args}=true:=(pre_splitW Y).2;obtain⟨d,r,rfl,h1,h2⟩:=hasAllW_cons γ;obtain rfl:=hasAllW_nil h2;obtain⟨xs,rfl,ι⟩:=hasW_list h1;obtain⟨ns,rfl⟩:=items_int ι
 have Z:ns.length<=n:=by
  unfold OpenLaw.pre at ε
  have ρ:(WTm.not (.lt (.lit (.int (n:Int))) (.len (.arg 0)))).holds [] {args:=[.list (ns.map .int)]}=true:=by
   have ρ:=(holds_andW ε).1;rw[hn] at ρ;exact ρ
  have δ:=condW_of ρ (w_not (w_lt w_lit (w_len_list (w_arg rfl))));rw[cY] at δ;refine OH λq=>?_;have η:(n:Int) < ((ns.length:Nat):Int):=by omega
  first
   | (rw[lh η] at δ;exact kf δ @C)
   | (simp at δ;omega)
 cases α with
 | cons ζ O=>
   cases O;cases ζ with
   | list ho θ=>exact⟨_,_,ns,rfl,rfl,ho,pD ns _ θ,Z⟩
theorem Ag (l:Qe) (args:f' WData):l.row.toRowW.claim.post args (.bool true) args=true:=
 postW_of (r:=l.row.toRowW) (X:=(true == true))
  (show Re [] (.bool true) .bool=true by first | rfl | decide | simp[Re,WShape.arms,WShape.armsAll])
  (show(WTm.eq .res (.lit (.bool true))).value [] {args:=args,res:=ak (.bool true),after:=args}=ak (.bool (true == true)) from w_eq_bool (w_res rfl) w_lit) rfl
theorem attach_call {l:Qe} {n:Nat} {q:qc} {Z:C'} {φ:F'->z1->Prop} {υ:u7->z1->Prop} {d:DefRec}
  (hn:l.most=ak n) (ξ:d.params.defaults=[])
  (call:∀(w:u7) (s₀ O:ib) (mg θ:F') (ζ:fy) (o:P8) (α γ η:hJ) (a:fy) (vs:E') (ns:I9),
   Ground q Z [] φ w s₀ mg θ O.heap->υ w O.heap->
   O.heap.get? ζ=ak o->o.data= .func (docDef d.name d.params d.body d.scope α γ η)->O.heap.CodeRec γ d.name->mg d.name=ak (.ref ζ)->
   O.heap.get? a=ak {cls:= .type "list",data:= .seq vs.toArray}->IntsAre vs ns->ns.length<=n->O.gens=#[]->
   codeAny (qA l.prog w) callerA (.call (.ref ζ) ⟨[.ref a],[]⟩) (λr s'=>r= .ok (.ret (.bool true))/\OldK O.heap s'.heap/\s'.os=O.os/\AllBare s'.gens) O):
  WalkO q Z φ υ l.row.toRowW d [] (λf vs=>Q0 f vs):=by
 intro w s₀ O mg θ G Y ζ o α γ η dV kV ho hd ο τ ν hg args β as δ π χ ι a0;obtain rfl:dV= .none:=Dflts.none τ ξ;obtain rfl:kV= .none:=Dflts.noKw τ;obtain⟨a,vs,ns,rfl,rfl,ψ,ρ,ε⟩:=zR hn δ ι;refine enter_call (MH (call w s₀ O mg θ ζ o α γ η a vs ns G Y ho (fd_plain hd) ο ν ψ ρ ε hg) λr s' ω=>?_);obtain⟨rfl,h2,h3,h4⟩:=ω;exact⟨.inl ⟨.bool true,.bool true,[],rfl,λ_=>rfl,.bool true,Ag l _,λ_=>⟨List.Pairwise.nil,λ_ hm=>(nomatch hm)⟩⟩,h2,h3,h4⟩
end Att
namespace L2
open PySem PySem.Spec PyProof.Rows
theorem om:∀{vs:E'} {ns:I9},IntsAre vs ns->Vals (ns.map V.int) vs
 | _,_,.nil=> .nil
 | _,_,.cons n t h=> .cons ⟨t,rfl⟩ (om h)
def Only (H:Hp):Prop:=∀b,H b=none∨∃o xs,H b=ak (.frz o (.lst xs))
theorem CV {P:qc} {w:u7} {K:bp} {mg ξ:F'} {CX:CXT} {k:Nat} {ρ a:fy} {fd:oe} {x:J9} {sp:Sp} {Y:ib} {vs:E'} {ns:I9}
  (KX:K.In Y.heap) (η:Y.heap.Ns Kl mg) (hb:Y.heap.Ns builtinsNs ξ) (ψ:∀x:J9,x≠"__name__"->ξ x=bootBuiltins x) (θ:Y.heap.NoLimit) (hg:Y.gens=#[])
  (ha:Y.heap.get? a=ak {cls:= .type "list",data:= .seq vs.toArray}) (hi:IntsAre vs ns) (hl:ns.length<=qb) (hr:Room k callerA)
  (F:∀base:z1,K.In base->base.Ns Kl mg->FnOk P w K mg base CX k ρ fd [x] sp) (α:∀(s:ib) (u:hJ),BindsTo s fd ⟨[u],[]⟩ [(x,u)])
  (ο:∀H:Hp,Only H->SqL K H a (ns.map V.int)->sp [.ref a] H (λv _=>v= .bl true) λ_ _ _=>False)
  (π:∀H e s',CX [] H Y (λ_ _ _=>False) e s'->False):
  codeAny (qA P w) callerA (.call (.ref ρ) ⟨[.ref a],[]⟩) (λr s'=>r= .ok (.ret (.bool true))/\OldK Y.heap s'.heap/\s'.os=Y.os/\AllBare s'.gens) Y:=by
 have ι:=om hi;have ε:=hi.length
 have Z:∀H:Hp,Only H->SqL K H a (ns.map V.int)->HOk P w H Y.heap->(∀b,H b≠none->b=a)->(H a≠none->K.lookup a=none)->
   codeAny (qA P w) callerA (.call (.ref ρ) ⟨[.ref a],[]⟩) (λr s'=>r= .ok (.ret (.bool true))/\OldK Y.heap s'.heap/\s'.os=Y.os/\AllBare s'.gens) Y:=by
  intro H hO hS hok χ hK;have O:∀{b:fy} {o:P8},Y.heap.get? b=ak o->H b=none->(hidT Y.heap H).get? b=ak o:=λe n=>C4 e n
  have φ:∀{b:fy} {o:P8} {es:Kw DictEntry} {ep:Nat},Y.heap.get? b=ak o->o.data= .dict es ep->H b=none:=λ{b o es ep} e d=>by
   cases q:H b with
   | none=>rfl
   | some u=>
     have υ:b=a:=χ b (by rw[q];simp);subst υ;rw[ha] at e;cases e;have d':Data.seq vs.toArray _=Data.dict es ep:=d;cases d'
  have τ:∀{b:fy} {m:F'},Y.heap.Ns b m->(hidT Y.heap H).Ns b m:=λ{b m} ⟨o,es,ep,e,d,r⟩=>⟨o,es,ep,O e (φ e d),d,r⟩
  have ν:K.In (hidT Y.heap H):=λb o e=>O (KX b o e) (by
   cases q:H b with
   | none=>rfl
   | some u=>
     have υ:b=a:=χ b (by rw[q];simp);subst υ;rw[hK (by rw[q];simp)] at e;cases e)
  have hM:Mod K mg (hidT Y.heap H):=⟨ν,τ η,⟨ξ,τ hb,ψ⟩,let ⟨mc,h1,h2⟩:=θ;⟨mc,τ h1,h2⟩⟩;have e0:Env0 P w K mg (hidT Y.heap H) callerA [] Y H:=⟨rfl,hM,λb o e=>FW e,Oy (AY _ _),trivial,λb hb=>kf (show b∈([]:I4) from hb) @F,hok,.of_eq hg⟩;refine MH ((F _ ν (τ η)).run callerA [] Y H ⟨[.ref a],[]⟩ [.ref a] [.ref a] _ _ hr e0 (α Y (.ref a)) (.cons rfl .nil) (ο H hO hS)) λr s' h=>?_;cases r with
  | error e=>exact(π H e s' h).elim
  | ok fl=>
    cases fl with
    | next=>exact K8 h
    | brk=>exact K8 h
    | cont=>exact K8 h
    | ret u=>
      obtain⟨v,H',os,bare,un,ζ,r',q⟩:=h;have δ:v= .bl true:=q;subst δ;obtain rfl:u=P' true:=r';refine⟨rfl,OldK.of_keep λb o e=>?_,os,bare⟩;cases q:H b with
      | none=>exact un.keep b o e q (by intro z;exact kf (show b∈([]:I4) from z) @F) @F
      | some u=>
        rcases hO b with z | ⟨ob,xs,z⟩
        ·rw[q] at z;cases z
        ·have β:=un.frzs b ob _ z;obtain⟨ω,_⟩:=hok b _ z;obtain⟨e2,_⟩:=ζ b _ β;rw[e] at ω;cases ω;exact e2
 cases hk:K.lookup a with
 | some o=>
   have e:=KX a o hk;rw[ha] at e;cases e;refine Z (λ_=>none) (λ_=> .inl rfl) (.inr ⟨_,vs.toArray,_,hk,rfl,rfl,rfl,by rw[u9,ε];exact hl,by simpa using ι⟩) (λb u z=>by have γ:(none:sh HO)=ak u:=z;cases γ) (λb z=>kf rfl z) λz=>kf rfl z
 | none=>
   refine Z (λb=>if b=a then ak (.frz {cls:= .type "list",data:= .seq vs.toArray} (.lst (ns.map V.int))) else none) (λb=>?_) (.inl (.inr ⟨{cls:= .type "list",data:= .seq vs.toArray},pT rfl⟩)) (λb u z=>?_) (λb z=>?_) λ_=>hk
   ·by_cases hb:b=a
    ·exact .inr ⟨_,_,pT hb⟩
    ·exact .inl (oT hb)
   ·by_cases hb:b=a
    ·have γ:=(pT hb).symm.trans z;cases γ;subst hb;exact⟨ha,by rw[cY];exact hl,vs,_,ι,ha⟩
    ·have γ:=(oT hb).symm.trans z;cases γ
   ·by_cases hb:b=a
    ·exact hb
    ·exact kf (oT hb) z
theorem walk_of {l:PySem.W.OpenLaw} {n k:Nat} {q:qc} {Z:C'} {XP:F'->z1->Prop} {ι:u7->z1->Prop} {d:DefRec} {K:Params->bp} {CX:u7->CXT} {sp:u7->Sp} {x:J9}
  (hn:l.most=ak n) (ξ:n<=qb) (ζ:d.params.defaults=[]) (π:Room k callerA)
  (φ:∀(w:u7) (h:z1),ι w h->(K w.params).In h)
  (F:∀(w:u7) (mg:F') (δ:fy) (h:z1),(K w.params).In h->h.Ns Kl mg->mg d.name=ak (.ref δ)->
   ∃fd:oe,(∀(s:ib) (u:hJ),BindsTo s fd ⟨[u],[]⟩ [(x,u)])/\
     ∀base:z1,(K w.params).In base->base.Ns Kl mg->FnOk l.prog w (K w.params) mg base (CX w) k δ fd [x] (sp w))
  (ο:∀(w:u7) (H:Hp) (a:fy) (ns:I9),ns.length<=n->Only H->SqL (K w.params) H a (ns.map V.int)->sp w [.ref a] H (λv _=>v= .bl true) λ_ _ _=>False)
  (θ:∀(w:u7) (H:Hp) (s:ib) (e:hJ) (s':ib),CX w [] H s (λ_ _ _=>False) e s'->False):
  PySem.W.WalkO q Z XP ι l.row.toRowW d [] (λf vs=>Q0 f vs):=by
 refine Att.attach_call hn ζ λw s₀ β mg mb δ o α γ η a vs ns G Y ho hd υ ε ψ ρ O τ=>?_;have ν:=φ w _ Y;obtain⟨fd,hb,ω⟩:=F w mg δ _ ν G.T.g ε;exact CV ν G.T.g G.T.b G.T.builtins G.T.nolimit τ ψ ρ (L9 O ξ) π ω hb (λH hO χ=>ο w H a ns O hO χ) λH e s'=>θ w H β e s'
noncomputable def fh (s:Mp) (j:Nat):Stmt:=match s with
 | .ClassDef _ _ _ O _ _ _ _ _ _ _=>O.getD j (.Pass ⟨0,0,0,0⟩)
 | _=> .Pass ⟨0,0,0,0⟩
noncomputable def fU (s:Mp):Arguments:=match s with
 | .FunctionDef _ a _ _ _ _ _ _ _ _=>a
 | _=>{posonlyargs:=[],args:=[],vararg:=none,kwonlyargs:=[],kw_defaults:=[],kwarg:=none,defaults:=[]}
noncomputable def dq (s:Mp):f' Stmt:=match s with
 | .FunctionDef _ _ b _ _ _ _ _ _ _=>b
 | _=>[]
noncomputable def ah (s:Mp):Scope:=match s with
 | .FunctionDef _ _ _ _ _ _ O _ _ _=>O
 | _=>{kind:= .function,names:=[],isGenerator:=false,isCoroutine:=false}
noncomputable abbrev CX0:CXT:=λ_ _ _ _ _ _=>False
noncomputable abbrev E0:XK:=λ_ _ _=>False
theorem iw {X:Cx}:nD CX0 X E0:=λ_ _ _ _ _ _ _ h=>h.elim
structure Fun (K:bp) (x qual:J9) (st:Mp) (f:fy) (fd:oe):Prop where
 ex:∃(oc:hJ) (od:J0) (kV doc pm:hJ) (an:J0) (cdv ct:hJ) (osl:Hx),
  fd=Kt x qual (fU st) (dq st) (ah st) .none kV doc pm an cdv ct/\K.lookup f=ak ⟨oc,od,.func fd,osl⟩/\LW K cdv qual=true
 kp:Ku K (.ref f)=true
section
variable {P:qc} {w:u7} {K:bp} {mg:F'} {base:z1}
theorem Fun.ok {x O:J9} {st:Mp} {f:fy} {fd:oe} {N ps:C'} {k:Nat} {sp:Sp} (F:Fun K x O st f fd) (S:aA N ps (ah st)) (len:∀vs H Q E,sp vs H Q E->vs.length=ps.length)
  (Z:∀(Y:hJ) (A:z3) (outer:f' Env) (s:ib) (H:Hp) (vs:f' V) (Q:VK) (E:XK),Room k (A.deeper (envOfC O (ah st) s.heap.objs.size f Y))->sp vs H Q E->
   ∃t,PSs (cxOf CX0 P w K mg base N O (ah st) f Y A outer s H E).nox (dq st) t/\t {nx:=λ_ H'=>Q .non H',rt:=Q} (start N vs) H):FnOk P w K mg base CX0 (k + 1) f fd ps sp:=by
 obtain⟨ε,od,kV,η,α,an,Y,ct,γ,rfl,lk,β⟩:=F.ex;refine Ge lk β S len λA outer s H vs Q E δ ο=>?_;obtain⟨t,h,q⟩:=Z Y A outer s H vs Q E δ ο;exact⟨t,h.nox,q⟩
theorem Fun.okA {x O:J9} {st:Mp} {f:fy} {fd:oe} {N ps:C'} {k:Nat} {sp:Sp} (F:Fun K x O st f fd) (S:aA N ps (ah st))
  (Y:∀(Z:hJ) (A:z3) (outer:f' Env) (s:ib) (H:Hp) (vs:f' V) (Q:VK) (E:XK),Room k (A.deeper (envOfC O (ah st) s.heap.objs.size f Z))->sp vs H Q E->
   ∃t,PSs (cxOf CX0 P w K mg base N O (ah st) f Z A outer s H E).nox (dq st) t/\t {nx:=λ_ H'=>Q .non H',rt:=Q} (start N vs) H) (len:∀vs H Q E,sp vs H Q E->vs.length=ps.length:=by walk_at "n"):FnOk P w K mg base CX0 (k + 1) f fd ps sp:=F.ok S len Y
theorem Fun.binds {x O:J9} {st:Mp} {f:fy} {fd:oe} {ps:C'} (F:Fun K x O st f fd)
  (h:∀(kV η α:hJ) (an:J0) (Y ct:hJ) (us:E'),us.length=ps.length->bindArgs (Kt x O (fU st) (dq st) (ah st) .none kV η α an Y ct) ⟨us,[]⟩=pure (ps.zip us)):md K fd ps []:=by
 obtain⟨γ,od,kV,η,α,an,Y,ct,Z,rfl,lk,β⟩:=F.ex;exact .all (h kV η α an Y ct)
theorem Et {x O:J9} {st:Mp} {f:fy} {β:hJ} {od an:J0} {Z:Hx} {kV η α Y ct:hJ} (l:K.lookup f=ak ⟨β,od,.func (Kt x O (fU st) (dq st) (ah st) .none kV η α an Y ct),Z⟩)
  (c:LW K Y O=true) (k:Ku K (.ref f)=true):Fun K x O st f (Kt x O (fU st) (dq st) (ah st) .none kV η α an Y ct):=⟨⟨β,od,kV,η,α,an,Y,ct,Z,rfl,l,c⟩,k⟩
end
theorem AW {A:z3} {k:Nat} (O:Room k A):A.units + 1 < cLine:=v' (Nat.add_le_add_left (by decide:1<=64) _) O.units
theorem c4 {n:Nat} (h:n<=1000):n < sizeLine:=v' h @C
section
variable {X:Cx}
theorem pv (i:Nat) {x:J9} {pos:Pos} (ι:X.N[i]? =ak x:=by rfl) (Y:Vis X.env.scope x:=by first | exact Nd rfl | exact Nz (Nd rfl) | exact Nz (Nz rfl)) (hd:(x == ("__debug__":J9))=false:=by decide)
  (O:(x == ("__classdict__":J9))=false:=by decide):PE X (.Name x pos) (tVar i):=HK ι Y hd O
end
theorem ite2 {c A B:Prop} [Decidable c] (h1:c->A) (h2:¬c->B):if c then A else B:=by
 by_cases h:c
 ·rw[pT h];exact h1 h
 ·rw[oT h];exact h2 h
def Same (H H':Hp):Prop:=∀b o,H b=ak o->H' b=ak o
theorem Same.refl (H:Hp):Same H H:=λ_ _ h=>h
theorem Same.trans {H H1 H2:Hp} (a:Same H H1) (b:Same H1 H2):Same H H2:=λc o h=>b c o (a c o h)
theorem Same.free {H H':Hp} (e:Same H H') {l:fy} (h:H' l=Option.none):H l=Option.none:=by
 cases q:H l with
 | none=>rfl
 | some o=>
   rw[e l o q] at h;cases h
theorem Same.seq {K:bp} {H H':Hp} {a:fy} {xs:f' V} (e:Same H H') (h:SqL K H a xs):SqL K H' a xs:=by
 rcases h with (h | ⟨o,h⟩) | h
 ·exact .inl (.inl (e _ _ h))
 ·exact .inl (.inr ⟨o,e _ _ h⟩)
 ·exact .inr h
section
variable {κ:Type} [DecidableEq κ]
noncomputable def valV (kvs:f' (κ×V)) (k:κ):sh V:=(kvs.find? fun ρ=>decide (ρ.1=k)).map (·.2)
noncomputable def putK (kvs:f' (κ×V)) (k:κ) (v:V):f' (κ×V):=
 if (kvs.any fun ρ=>decide (ρ.1=k))=true then kvs.map (fun ρ=>if ρ.1=k then (ρ.1,v) else ρ) else kvs++[(k,v)]
theorem nU {p:κ×V} {r:f' (κ×V)} {k:κ} (e:p.1=k):valV (p::r) k=ak p.2:=by simp[valV,MJ,e]
theorem nV {p:κ×V} {r:f' (κ×V)} {k:κ} (e:¬p.1=k):valV (p::r) k=valV r k:=by simp[valV,MJ,e]
theorem rH (k:κ):∀kvs:f' (κ×V),(kvs.any fun ρ=>decide (ρ.1=k))=(valV kvs k).isSome
 | []=>rfl
 | p::r=>by
   rw[Pd];by_cases e:p.1=k
   ·simp only[nU e,lh e,Bool.true_or,Option.isSome_some]
   ·rw[nV e,ia e,R9];exact rH k r
theorem pe (kvs:f' (κ×V)) (k:κ) (v:V):(putK kvs k v).length<=kvs.length + 1:=by
 unfold putK;split
 ·rw[cY];omega
 ·rw[gw,ub,QL];omega
theorem RelO.isSome_eq {o:sh V} {u:J5} (r:RelO o u):o.isSome=u.isSome:=by
 cases o with
 | none=>cases u with
   | none=>rfl
   | some _=>exact(show False from r).elim
 | some _=>cases u with
   | none=>exact(show False from r).elim
   | some _=>rfl
theorem KV.val {kvs:f' (κ×V)} {vs:f' (κ×hJ)} (r:KV kvs vs) (k:κ):RelO (valV kvs k) (valueAt vs k):=by
 unfold KV at r
 induction r with
 | nil=>exact Nk
 | @cons p q ps qs h t ih=>
   obtain⟨h1,h2⟩:=h;by_cases e:p.1=k
   ·have O:q.1=k:=h1.symm.trans e;have b:valueAt (q::qs) k=ak q.2:=by simp[valueAt,MJ,O]
    rw[nU e,b];exact h2
   ·have O:¬q.1=k:=λz=>e (h1.trans z);have b:valueAt (q::qs) k=valueAt qs k:=by simp[valueAt,MJ,O]
    rw[nV e,b];exact ih
theorem KV.any {kvs:f' (κ×V)} {vs:f' (κ×hJ)} (r:KV kvs vs) (k:κ):(kvs.any fun ρ=>decide (ρ.1=k))=vs.any fun ρ=>decide (ρ.1=k):=by
 unfold KV at r
 induction r with
 | nil=>rfl
 | cons h t ih=>rw[Pd,Pd,ih,h.1]
theorem KV.repl {kvs:f' (κ×V)} {vs:f' (κ×hJ)} (r:KV kvs vs) (k:κ) {y:V} {u:hJ} (O:RelV y u):
  KV (kvs.map fun ρ=>if ρ.1=k then (ρ.1,y) else ρ) (vs.map fun ρ=>if ρ.1=k then (ρ.1,u) else ρ):=by
 unfold KV at r ⊢
 induction r with
 | nil=>exact .nil
 | @cons p q ps qs h t ih=>
   rw[Ka,Ka];refine .cons ?_ ih;obtain⟨h1,h2⟩:=h;by_cases e:p.1=k
   ·rw[pT e,pT (h1.symm.trans e)];exact⟨h1,O⟩
   ·rw[oT e,oT (λz=>e (h1.trans z))];exact⟨h1,h2⟩
theorem KV.put {kvs:f' (κ×V)} {vs:f' (κ×hJ)} (r:KV kvs vs) (k:κ) {y:V} {u:hJ} (O:RelV y u):KV (putK kvs k y) (stored vs k u):=by
 unfold putK stored;rw[r.any k];by_cases e:(vs.any fun ρ=>decide (ρ.1=k))=true
 ·rw[pT e,pT e];exact r.repl k O
 ·rw[oT e,oT e];exact R8 r ⟨rfl,O⟩
theorem KV.keys {kvs:f' (κ×V)} {vs:f' (κ×hJ)} (r:KV kvs vs):kvs.map (·.1)=vs.map (·.1):=by
 unfold KV at r
 induction r with
 | nil=>rfl
 | cons h t ih=>rw[Ka,Ka,ih,h.1]
theorem KV.length {kvs:f' (κ×V)} {vs:f' (κ×hJ)} (r:KV kvs vs):kvs.length=vs.length:=OS r
end
theorem AQ {P:qc} {w:u7} {k:Key} {u:hJ} (r:RelV (kV k) u):(dc P w).is k u=true:=by
 cases k with
 | inl i=>obtain⟨t,e⟩:=(show ∃t,u=Om i t from r);subst e;exact vQ P w i t
 | inr x=>obtain⟨t,e⟩:=(show ∃t,u=Pe x t from r);subst e;exact vP P w x t
theorem uE {P:qc} {w:u7}:∀{ks:f' Key} {us:E'},Vals (ks.map kV) us->ItemsAre (dc P w) ks us
 | [],_,r=>by rw[OW] at r;cases r;exact .nil
 | k::ks,_,r=>by
   rw[Ka] at r;cases r with
   | cons h t=>exact .cons (AQ h) (uE t)
noncomputable abbrev KT (H:Hp):f' (f' Key×V)->f' (f' Key×fy×hJ)->Prop:=Paired λp q=>p.1=q.1/\H q.2.1=ak (.tup (p.1.map kV))/\RelV p.2 q.2.2
theorem KT.val {H:Hp} {kvs:f' (f' Key×V)} {xs:f' (f' Key×fy×hJ)} (r:KT H kvs xs) (k:f' Key):RelO (valV kvs k) ((atKey xs k).map (·.2)):=by
 induction r with
 | nil=>exact Nk
 | @cons p q ps qs h t ih=>
   obtain⟨h1,_,h2⟩:=h;by_cases e:p.1=k
   ·have O:q.1=k:=h1.symm.trans e;have b:atKey (q::qs) k=ak q.2:=by simp[atKey,MJ,O]
    rw[nU e,b];exact h2
   ·have O:¬q.1=k:=λz=>e (h1.trans z);have b:atKey (q::qs) k=atKey qs k:=by simp[atKey,MJ,O]
    rw[nV e,b];exact ih
theorem KT.repl {H:Hp} {kvs:f' (f' Key×V)} {xs:f' (f' Key×fy×hJ)} (r:KT H kvs xs) (k:f' Key) {y:V} {u:hJ} (O:RelV y u):
  KT H (kvs.map fun ρ=>if ρ.1=k then (ρ.1,y) else ρ) (xs.map (putAt k u)):=by
 induction r with
 | nil=>exact .nil
 | @cons p q ps qs h t ih=>
   rw[Ka,Ka];refine .cons ?_ ih;obtain⟨h1,h2,Y⟩:=h;unfold putAt;by_cases e:p.1=k
   ·rw[pT e,pT (h1.symm.trans e)];exact⟨h1,h2,O⟩
   ·rw[oT e,oT (λz=>e (h1.trans z))];exact⟨h1,h2,Y⟩
theorem KT.put {H:Hp} {kvs:f' (f' Key×V)} {xs:f' (f' Key×fy×hJ)} (r:KT H kvs xs) (k:f' Key) {b:fy} {y:V} {u:hJ} (hb:H b=ak (.tup (k.map kV))) (O:RelV y u):
  KT H (putK kvs k y) (storedH xs k b u):=by
 have e:(kvs.any fun ρ=>decide (ρ.1=k))=(atKey xs k).isSome:=by
  rw[rH,(r.val k).isSome_eq,Oi]
 unfold putK storedH;rw[e];by_cases q:(atKey xs k).isSome=true
 ·rw[pT q,pT q];exact r.repl k O
 ·rw[oT q,oT q];exact R8 r ⟨rfl,hb,O⟩
theorem KT.keeps {H H':Hp} {kvs:f' (f' Key×V)} {xs:f' (f' Key×fy×hJ)} (r:KT H kvs xs) (ht:∀b ys,H b=ak (.tup ys)->H' b=ak (.tup ys)):KT H' kvs xs:=
 Paired.mapP r λ_ _ z=>⟨z.1,ht _ _ z.2.1,z.2.2⟩
section
variable {P:qc} {w:u7} {H:Hp} {h:z1} {a:fy}
theorem Hn {u:HO} (ok:HOk P w H h) (e:Rd H a u):fV P w H h a u:=e.ok ok
theorem Bi {kvs:f' (Key×V)} (ok:HOk P w H h) (e:Rd H a (.dK kvs)):kvs.length<=qb/\(a == sysModules)=false/\∃vs,KV kvs vs/\h.DictOf (dc P w) a vs:=
 show fV P w H h a (.dK kvs) from Hn ok e
theorem Iy {kvs:f' (Key×V)} (ok:HOk P w H h) (e:H a=ak (.dK kvs)):kvs.length<=qb/\(a == sysModules)=false/\∃vs,KV kvs vs/\h.DictOf (dc P w) a vs:=Bi ok (.inl e)
theorem uC {ks:f' Key} (ok:HOk P w H h) (e:H a=ak (.tup (ks.map kV))):(tupleKind (dc P w)).is h ks a:=by
 obtain⟨_,its,r,o,h1,h2,n,O⟩:=(show fV P w H h a (.tup (ks.map kV)) from ok a _ e);exact⟨o,its.toArray,n,h1,h2,O,by simpa using uE r⟩
theorem Bg {kvs:f' (f' Key×V)} (ok:HOk P w H h) (e:Rd H a (.dT kvs)):kvs.length<=qb/\(a == sysModules)=false/\
  ∃xs,KT H kvs xs/\h.DictOfH (tupleKind (dc P w)) a xs:=by
 obtain⟨z,y,xs,r,o,es,ep,h1,h2,Y,ρ,δ⟩:=(show fV P w H h a (.dT kvs) from Hn ok e);refine⟨z,y,xs,r,o,es,ep,h1,h2,Y,ρ,λx hx=>?_,δ⟩
 have all:∀{l:f' (f' Key×V)} {m:f' (f' Key×fy×hJ)},KT H l m->∀x∈m,(tupleKind (dc P w)).is h x.1 x.2.1:=by
  intro l m q
  induction q with
  | nil=>intro x hx;exact nomatch hx
  | @cons p q ps qs O t ih=>
    intro x hx;rcases rz.mp hx with e | hx
    ·subst e;exact uC ok (by rw[<-O.1];exact O.2.1)
    ·exact ih x hx
 exact all r x hx
theorem JH {kvs:f' (f' Key×V)} (ok:HOk P w H h) (e:H a=ak (.dT kvs)):kvs.length<=qb/\(a == sysModules)=false/\
  ∃xs,KT H kvs xs/\h.DictOfH (tupleKind (dc P w)) a xs:=Bg ok (.inl e)
end
def DGet (H:Hp) (a:fy) (y:V) (r:sh V):Prop:=
 (∃kvs k,Rd H a (.dK kvs)/\y=kV k/\r=valV kvs k)∨∃kvs k b,Rd H a (.dT kvs)/\y= .ref b/\H b=ak (.tup (k.map kV))/\r=valV kvs k
def DPut (H:Hp) (a:fy) (y v:V) (H':Hp):Prop:=
 (∃kvs k,H a=ak (.dK kvs)/\y=kV k/\kvs.length < qb/\H'=upd H a (.dK (putK kvs k v)))∨
 ∃kvs k b,H a=ak (.dT kvs)/\y= .ref b/\H b=ak (.tup (k.map kV))/\kvs.length < qb/\H'=upd H a (.dT (putK kvs k v))
theorem DGet.k {H:Hp} {a:fy} {kvs:f' (Key×V)} {k:Key} (e:H a=ak (.dK kvs)):DGet H a (kV k) (valV kvs k):= .inl ⟨kvs,k,.inl e,rfl,rfl⟩
theorem DPut.k {H:Hp} {a:fy} {kvs:f' (Key×V)} {k:Key} {v:V} (e:H a=ak (.dK kvs)) (hl:kvs.length < qb):DPut H a (kV k) v (upd H a (.dK (putK kvs k v))):= .inl ⟨kvs,k,e,rfl,hl,rfl⟩
section
variable {X:Cx} {pins:Dc} {σ:St} {H:Hp} {s:ib} {a:fy} {y v:V} {u r:hJ} {o:sh V} {A:z3} {E:D9}
theorem Inv.big (I:Inv X pins σ H s):sysModules < s.heap.objs.size:=by
 have h:Kl < s.heap.objs.size:=(I.mod.glob.keeps I.bk).lt;exact Nat.lt_trans @C h
theorem Bo {Q:D9} (hu:A.units + 1 < cLine) (I:Inv X pins σ H s) (g:DGet H a y (ak v)) (Z:RelV y u) (h:∀ω s',Inv X pins σ H s'->RelV v ω->Q ω s'):
  oi (qA X.prog X.w) A (getItem (.ref a) u) Q E s:=by
 rcases g with ⟨kvs,k,e,ey,l⟩ | ⟨kvs,k,b,e,ey,β,l⟩
 ·subst ey;obtain⟨z,hd,vs,rel,dd⟩:=Bi I.hok e;obtain⟨ω,hw,O⟩:=RelO.some_of (v:=v) (o:=valueAt vs k) (by rw[l];exact rel.val k);exact wpAny_getItem_of (AQ Z) dd.mapOf hw (h ω _ (I.tok _) O)
 ·subst ey;cases(show u=z2 b from Z);obtain⟨z,hd,xs,rel,dd⟩:=Bg I.hok e;obtain⟨ω,hw,O⟩:=RelO.some_of (v:=v) (o:=(atKey xs k).map (·.2)) (by rw[l];exact rel.val k);obtain⟨p,α,Y⟩:=KD.mp hw;refine wpAny_getItem_heap (Nc hu) (uC I.hok β) dd α ?_;rw[Y];exact h ω _ (I.tok _) O
theorem d_in {Q:D9} (hu:A.units + 1 < cLine) (I:Inv X pins σ H s) (g:DGet H a y o) (O:RelV y u) (h:∀s',Inv X pins σ H s'->Q (.bool o.isSome) s'):
  oi (qA X.prog X.w) A (compareOp .In u (.ref a)) Q E s:=by
 rcases g with ⟨kvs,k,e,ey,l⟩ | ⟨kvs,k,b,e,ey,Y,l⟩
 ·subst ey;obtain⟨z,hd,vs,rel,dd⟩:=Bi I.hok e;refine wpAny_in_of (AQ O) hd dd.mapOf ?_;rw[<-(rel.val k).isSome_eq,<-l];exact h _ (I.tok _)
 ·subst ey;cases(show u=z2 b from O);obtain⟨z,hd,xs,rel,dd⟩:=Bg I.hok e;refine wpAny_in_heap (Nc hu) (uC I.hok Y) hd dd ?_;have q:=(rel.val k).isSome_eq;rw[Oi] at q;rw[<-q,<-l];exact h _ (I.tok _)
theorem Gh {Q:D9} (hu:A.units + 1 < cLine) (I:Inv X pins σ H s) (g:DGet H a y o) (O:RelV y u) (h:∀s',Inv X pins σ H s'->Q (.bool (!o.isSome)) s'):
  oi (qA X.prog X.w) A (compareOp .NotIn u (.ref a)) Q E s:=by
 rcases g with ⟨kvs,k,e,ey,l⟩ | ⟨kvs,k,b,e,ey,Y,l⟩
 ·subst ey;obtain⟨z,hd,vs,rel,dd⟩:=Bi I.hok e;refine wpAny_notIn_of (AQ O) hd dd.mapOf ?_;rw[<-(rel.val k).isSome_eq,<-l];exact h _ (I.tok _)
 ·subst ey;cases(show u=z2 b from O);obtain⟨z,hd,xs,rel,dd⟩:=Bg I.hok e;refine wpAny_notIn_heap (Nc hu) (uC I.hok Y) hd dd ?_;have q:=(rel.val k).isSome_eq;rw[Oi] at q;rw[<-q,<-l];exact h _ (I.tok _)
theorem Bm {h':z1} {t':Nat} {ob:HO} (I:Inv X pins σ H s) (O:Mut (H a)) (hs:Ll a s.heap h') (he:∃q,h'.get? a=ak q) (new:fV X.prog X.w (upd H a ob) h' a ob):
  Inv X pins σ (upd H a ob) {s with heap:=h',toks:=t'}:=
 I.write (x:=a) (e:=a) O (.inl rfl) (λb q hb z=>(hs.2 b hb).trans z) he new
theorem Iz {P:qc} {w:u7} {H':Hp} {h':z1} {kvs:f' (Key×V)} {vs:f' (Key×hJ)} (z:kvs.length<=qb) (hd:(a == sysModules)=false) (rel:KV kvs vs) (dd:h'.DictOf (dc P w) a vs):
  fV P w H' h' a (.dK kvs):=⟨z,hd,vs,rel,dd⟩
theorem Bn {H':Hp} {Q:Hy} (hu:A.units + 1 < cLine) (I:Inv X pins σ H s) (g:DPut H a y v H') (Y:RelV y u) (ι:RelV v r) (h:∀s',Inv X pins σ H' s'->Q () s'):
  oi (qA X.prog X.w) A (setItem (.ref a) u r) Q E s:=by
 rcases g with ⟨kvs,k,e,ey,l,ω⟩ | ⟨kvs,k,b,e,ey,α,l,ω⟩
 ·subst ey ω;obtain⟨z,hd,vs,rel,dd⟩:=Iy I.hok e;have hz:vs.length<=sizeLine:=by rw[<-rel.length];exact z
  have hl:(putK kvs k v).length<=sizeLine:=by have:=pe kvs k v;omega
  refine wpAny_setItem_pairs (hsz:=hz) (AQ Y) dd λh' υ hs=>h _ ?_;have he:∃q,h'.get? a=ak q:=let ⟨q,_,_,O,_⟩:=υ;⟨q,O⟩
  exact Bm I (by rw[e];exact Nk) hs he (Iz hl hd (rel.put k ι) υ)
 ·subst ey ω;cases(show u=z2 b from Y);obtain⟨z,hd,xs,rel,dd⟩:=JH I.hok e;have hz:xs.length<=sizeLine:=by rw[<-OS rel];exact z
  have hl:(putK kvs k v).length<=sizeLine:=by have:=pe kvs k v;omega
  refine wpAny_setItem_heap (hsz:=hz) (Nc hu) (uC I.hok α) dd λh' υ hs=>h _ ?_;obtain⟨q,es,ep,O,h2,β,ρ,_,δ⟩:=υ;refine Bm I (by rw[e];exact Nk) hs ⟨q,O⟩ ⟨hl,hd,_,(rel.put k α ι).keeps λc ys Z=>?_,q,es,ep,O,h2,β,ρ,δ⟩;rw[aV (gE Z e (λz=>nomatch z))];exact Z
end
def NoSl (i:z8):Prop:=∀O Y,subscripted i false O Y=operate [O,Y] (getItem O Y)
theorem E3 {prog:qc} {w:u7} {A:z3} {E:D9} {s:ib} {env:Env} {value O:z8} {pos:Pos} {T id:Kr} {Q:D9}
  (hl:typeLookup (.type T) "__getitem__"=pure (ak (.builtin id))) (hs:NoSl O)
  (h:oi (qA prog w) A (eval value env) (λo β=>oi (qA prog w) A (eval O env) (λi Y=>Y.TypeIs o T/\oi (qA prog w) A (getItem o i) Q E Y) E β) E s):
  oi (qA prog w) A (eval (.Subscript value O pos) env) Q E s:=by
 refine R5 (LQ h (λo β γ=>LQ γ (λi Y Z=>?_) λ_ _ x=>x) λ_ _ x=>x);obtain⟨hT,Z⟩:=Z;unfold subscriptTail;refine ew ?_;rw[getitemInPython_of_ne hT.not_modules];refine ew (wpAny_specialOf hT hl ?_)
 have fin:oi (qA prog w) A (subscripted O false o i) (λr α=>oi (qA prog w) A (letTemporaryGo value o r >>=λ_=>pure r) Q E α) E Y:=by
  rw[hs o i];exact wpAny_operating (LQ Z (λr α ω=>ew (wpAny_letTemporaryGo (hH ω))) λ_ _ x=>x)
 first
  | exact hH (ew fin)
  | exact ew (hH (ew fin))
  | exact ew fin
theorem wj {X:Cx} {pins:Dc} {σ:St} {H:Hp} {s:ib} {a:fy} {y:V} {o:sh V} (I:Inv X pins σ H s) (g:DGet H a y o):s.TypeIs (.ref a) "dict":=by
 rcases g with ⟨kvs,k,e,_,_⟩ | ⟨kvs,k,b,e,_,_,_⟩
 ·obtain⟨_,_,vs,_,dd⟩:=Bi I.hok e;exact dd.typeIs
 ·obtain⟨_,_,xs,_,dd⟩:=Bg I.hok e;exact dd.typeIs
noncomputable def GK (td ty:TE):TE:=fun σ H Q=>td σ H λx H1=>ty σ H1 λy H2=>∃a v,x= .ref a/\DGet H2 a y (ak v)/\Q v H2
noncomputable def tDIn (ty td:TE):TE:=fun σ H Q=>ty σ H λy H1=>td σ H1 λx H2=>∃a o,x= .ref a/\DGet H2 a y o/\Q (.bl o.isSome) H2
noncomputable def zz (ty td:TE):TE:=fun σ H Q=>ty σ H λy H1=>td σ H1 λx H2=>∃a o,x= .ref a/\DGet H2 a y o/\Q (.bl (!o.isSome)) H2
noncomputable def Hm (td ty tv:TE):TS:=λD σ H=>tv σ H λv H1=>td σ H1 λx H2=>ty σ H2 λy O=>∃a Z,x= .ref a/\DPut O a y v Z/\D.nx σ Z
section
variable {X:Cx} {o i e value:z8} {pos pos' tpos:Pos} {td ty tv:TE}
theorem An (hu:X.A.units + 1 < cLine) (ho:PE X o td) (hi:PE X i ty) (hs:NoSl i):PE X (.Subscript o i pos) (GK td ty):=by
 intro pins s σ H Q I h;refine E3 PySem.F.slot_dict_getitem.lookup hs (thn (ho pins s σ H _ I h) λu Z ⟨x,H1,ε,β,γ⟩=>thn (hi pins Z σ H1 _ ε γ) fun θ η ⟨y,H2,Y,α,a,v,ex,g,π⟩=>?_);subst ex;obtain rfl:u=z2 a:=β;exact⟨wj Y g,Bo hu Y g α fun ω ζ δ O=>⟨v,H2,δ,O,π⟩⟩
theorem HN (hu:X.A.units + 1 < cLine) (hi:PE X i ty) (ho:PE X o td):PC X .In i o (tDIn ty td):=by
 intro pins s σ H Q I h;refine thn (hi pins s σ H _ I h) fun θ O ⟨y,H1,ε,Y,α⟩=>thn (ho pins O σ H1 _ ε α) λu η ⟨x,H2,δ,Z,a,β,ex,g,π⟩=>?_;subst ex;obtain rfl:u=z2 a:=Z;exact d_in hu δ g Y fun ζ γ=>⟨.bl β.isSome,H2,γ,rfl,π⟩
theorem Ao (hu:X.A.units + 1 < cLine) (hi:PE X i ty) (ho:PE X o td):PC X .NotIn i o (zz ty td):=by
 intro pins s σ H Q I h;refine thn (hi pins s σ H _ I h) fun θ O ⟨y,H1,ε,Y,α⟩=>thn (ho pins O σ H1 _ ε α) λu η ⟨x,H2,δ,Z,a,β,ex,g,π⟩=>?_;subst ex;obtain rfl:u=z2 a:=Z;exact Gh hu δ g Y fun ζ γ=>⟨.bl (!β.isSome),H2,γ,rfl,π⟩
theorem FD (hu:X.A.units + 1 < cLine) (ho:PE X o td) (hi:PE X i ty) (η:PE X value tv) (hs:swapsWith value (ak (.Subscript o i pos')) pos.line X.env=pure false):
  PS X (.Assign [.Subscript o i pos'] value pos) (Hm td ty tv):=by
 intro pins s σ H D I h;refine wpAny_Assign_Subscript (thn (η pins s σ H _ I h) λr α ⟨v,H1,ξ,ι,ζ⟩=>thn (ho pins α σ H1 _ ξ ζ) λu O ⟨x,H2,ν,δ,π⟩=>thn (hi pins O σ H2 _ ν π) fun ρ ο ⟨y,τ,θ,β,a,Z,ex,g,ε⟩=>?_) hs;subst ex;obtain rfl:u=z2 a:=δ;exact Bn hu θ g β ι λY γ=>⟨σ,Z,γ,ε⟩
end
theorem Dp {P:qc} {w:u7} {H:Hp} (h:z1) (hb:sysModules < h.objs.size):fV P w H (h.push {cls:= .type "dict",data:= .dict #[]}) h.objs.size (.dK []):=
 ⟨L0 _,J8.mpr (Lf (JU hb)),[],.nil,Heap.DictOf.new h⟩
noncomputable def DX:TE:=λ_ H Q=>∀p,H p=none->Q (.ref p) (upd H p (.dK []))
section
variable {X:Cx} {pos:Pos}
theorem CD:PE X (.Dict [] [] pos) DX:=λpins s σ H Q I h=>
 wpAny_Dict_empty ⟨.ref s.heap.objs.size,_,I.laid (a:=s.heap.objs.size) (o:= .dK []) (t':=s.toks) (λ_ _ q=>gB _ q) (ru _) (Dp s.heap I.big),rfl,h _ (I.hok.fresh (ru _))⟩
end
structure M1 (X:Cx) (o:z8) (m:J9) (apos:Pos) (e:z8) (cpos:Pos):Prop where
 base:attributeBase o m X.env (eval o X.env)=eval o X.env
 few:((backTo cpos (qQ [e] X.env)).all (λx=> !x.1)&&(backToKw cpos (keywordEach [] X.env)).all (λx=>x.1.isSome)
  &&decide (([e]:f' z8).length + ([]:f' Keyword).length + (if ([]:f' Keyword).isEmpty then 0 else 1) < 30))=true
 line:(apos.endLine == cpos.line)=true
 trees:backTo cpos (qQ [e] X.env)=[(false,eval e X.env)]
structure M2 (X:Cx) (o:z8) (m:J9) (apos:Pos) (e f:z8) (cpos:Pos):Prop where
 base:attributeBase o m X.env (eval o X.env)=eval o X.env
 few:((backTo cpos (qQ [e,f] X.env)).all (λx=> !x.1)&&(backToKw cpos (keywordEach [] X.env)).all (λx=>x.1.isSome)
  &&decide (([e,f]:f' z8).length + ([]:f' Keyword).length + (if ([]:f' Keyword).isEmpty then 0 else 1) < 30))=true
 line:(apos.endLine == cpos.line)=true
 trees:backTo cpos (qQ [e,f] X.env)=[(false,eval e X.env),(false,eval f X.env)]
end L2
set_option maxHeartbeats 4000000
namespace L2
open PySem PySem.Spec PyProof.Rows
section
variable {P0:qc} {w0:u7} {A0:z3} {R0:J2} {t0:ib}
theorem yG {ε tg iter:z8} {θ:f' z8} {τ:LG} {pos:Pos} {it ν:hJ} {ι:Env} (J:Nat->ib->Prop)
  (ξ:∀n s,J n s->oi (qA P0 w0) A0 (pyNext it) (λr Y=>match r with
   | none=>R0 (.ok .next) Y
   | some v=>oi (qA P0 w0) A0 (letOwnedTupleGo tg it v) (λ_ ζ=>oi (qA P0 w0) A0 (assign tg ι v) (λ_ δ=>
     oi (qA P0 w0) A0 (forIn θ true λc r=>if r=true then do let ok <-isTrue c ι (eval c ι);pure (Ma ok) else pure (Ma r)) (λok O=>
      if ok=true then oi (qA P0 w0) A0 (eval ε ι) (λx γ=>
       oi (qA P0 w0) A0 (call (.builtin "list.append") [ν,x]) (λ_ β=>∃m,m < n/\J m β) (λ_ _=>False) γ) (λ_ _=>False) O
      else ∃m,m < n/\J m O) (λ_ _=>False) δ) (λ_ _=>False) ζ) (λ_ _=>False) Y) (λ_ _=>False) s)
  (n:Nat) (h:J n t0):
  codeAny (qA P0 w0) A0 (.compLoop (.ListComp ε [⟨tg,iter,θ,0⟩] τ pos) 0 it ν ι) R0 t0:=by
 have no:∀{α:Type} {t:Sem α} {Q:α->ib->Prop} {E:D9} {s:ib},oi (qA P0 w0) A0 t Q (λ_ _=>False) s->oi (qA P0 w0) A0 t Q E s:=
  λh=>LQ h (λ_ _ q=>q) λ_ _ z=>z.elim
 refine codeAny_loop rfl J (λn s υ=>?_) n h;show oi _ A0 ((compTurn (.ListComp ε [⟨tg,iter,θ,0⟩] τ pos) 0 it ν ι).onRaise (λx=>do noteFrame x ι;theTreesLotGoes x)) _ _ s;refine wpAny_noted ?_;rw[compTurn_list];refine ew (PY (ew (thn (no (ξ n s υ)) λr Y η=>?_)));cases r with
 | none=>exact hH η
 | some v=>
   refine ew (thn (no η) λ_ ζ ρ=>?_);refine ew (thn (no ρ) λ_ δ ω=>ew (thn (no ω) λok O Z=>?_));cases ok with
   | false=>exact hH ⟨rfl,Z⟩
   | true=>
     rw[pT rfl] at Z;refine ew (ew (thn (no Z) λx γ π=>?_));refine ew (thn (no π) λ_ β ο=>?_);exact hH (hH ⟨rfl,ο⟩)
end
theorem mZ (env:Env):∀(l:f' (J9×NameKind)) (ω:J3),(∀y∈l,y.2= .free->∃c,env.cells.lookup y.1=ak c)->
  ∃r:J3,(forIn l ω (λ(x:J9×NameKind) (r:J3)=>if x.2 == Kh then (do let c <-cellOf env x.1;pure (Ma ((x.1,c)::r))) else pure (Ma r)):Sem J3)=pure r/\
   (∀p∈r,p∈ω∨env.cells.lookup p.1=ak p.2)/\(∀p∈ω,p∈r)/\(∀y∈l,y.2= .free->∃c,(y.1,c)∈r)
 | [],ω,_=>⟨ω,rfl,λp Y=> .inl Y,λp Y=>Y,λy O=>nomatch O⟩
 | (x,k)::l,ω,h=>by
   by_cases hk:k= .free
   ·subst hk;obtain⟨c,α⟩:=h (x,.free) iv rfl;obtain⟨r,e,h1,h2,Z⟩:=mZ env l ((x,c)::ω) λy O=>h y (lA _ O);refine⟨r,?_,λp Y=>?_,λp Y=>h2 p (lA _ Y),λy O hf=>?_⟩
    ·rw[ND];have β:cellOf env x=pure c:=by unfold cellOf;rw[α]
     simp only[Ky,Og,β,pure_bind];exact e
    ·rcases h1 p Y with q | q
     ·rcases rz.mp q with z | z
      ·subst z;exact .inr α
      ·exact .inl z
     ·exact .inr q
    ·rcases rz.mp O with z | z
     ·subst z;exact⟨c,h2 _ iv⟩
     ·exact Z y z hf
   ·obtain⟨r,e,h1,h2,Z⟩:=mZ env l ω λy O=>h y (lA _ O);refine⟨r,?_,h1,h2,λy O hf=>?_⟩
    ·rw[ND];have hb:(k == Kh)=false:=by cases k<;>first | rfl | exact kf rfl hk
     simp only[hb,Qd,if_false,pure_bind];exact e
    ·rcases rz.mp O with z | z
     ·subst z;exact kf hf hk
     ·exact Z y z hf
theorem rD (O:LG) (env:Env) (h:∀y∈O.names,y.2= .free->∃c,env.cells.lookup y.1=ak c):
  ∃Y,closureFor O env=pure Y/\(∀p∈Y,env.cells.lookup p.1=ak p.2)/\∀y∈O.names,y.2= .free->∃c,(y.1,c)∈Y:=by
 obtain⟨r,e,h1,h2,α⟩:=mZ env O.names [] h;refine⟨r,?_,λp Z=>(h1 p Z).resolve_left (λz=>nomatch z),α⟩;unfold closureFor;have:=e;simp only[bind_pure] at *
 exact e
theorem sj {κ β:Type} [BEq κ] [LawfulBEq κ]:∀{l:f' (κ×β)} {x:κ} {c:β},(x,c)∈l->∃O,l.lookup x=ak O
 | [],_,_,h=>nomatch h
 | (y,d)::l,x,c,h=>by
   by_cases e:x=y
   ·subst e;exact⟨d,by simp[MO]⟩
   ·have hb:(x == y)=false:=J8.mpr e;rcases rz.mp h with z | z
    ·exact kf (y3 Prod.fst z) e
    ·obtain⟨O,q⟩:=sj z;exact⟨O,by rw[MO,hb];exact q⟩
theorem kZ {env:Env}:∀{names:f' (J9×NameKind)} {x:J9} {Y:NameKind},
  (names.map λ(n,k)=>if (k == Kh&&env.scope.kind == .function&&env.kindOf n == ak .cell) then (n,Mq) else (n,k)).lookup x=ak Y->∃k,(x,k)∈names/\(Y=k∨k= .free)
 | [],_,_,h=>by cases h
 | (y,k)::l,x,Y,h=>by
   rw[Ka,MO] at h;by_cases e:x=y
   ·subst e;by_cases O:(k == Kh&&env.scope.kind == .function&&env.kindOf x == ak .cell)=true
    ·refine⟨k,iv,.inr ?_⟩;rw[Kb,Kb] at O;exact eq_of_beq O.1.1
    ·refine⟨k,iv,.inl ?_⟩;simp only[oT O,Ky] at h;exact(mu h).symm
   ·have hb:(x == y)=false:=J8.mpr e
    have h':(l.map λ(n,k)=>if (k == Kh&&env.scope.kind == .function&&env.kindOf n == ak .cell) then (n,Mq) else (n,k)).lookup x=ak Y:=by
     by_cases O:(k == Kh&&env.scope.kind == .function&&env.kindOf y == ak .cell)=true
     ·simp only[pT O,hb] at h;exact h
     ·simp only[oT O,hb] at h;exact h
    obtain⟨q,hm,z⟩:=kZ h';exact⟨q,lA _ hm,z⟩
theorem nc {env:Env}:∀{names:f' (J9×NameKind)} {x:J9},names.lookup x=ak .free->
  (names.map λ(n,k)=>if (k == Kh&&env.scope.kind == .function&&env.kindOf n == ak .cell) then (n,Mq) else (n,k)).lookup x=ak .cell∨
  (names.map λ(n,k)=>if (k == Kh&&env.scope.kind == .function&&env.kindOf n == ak .cell) then (n,Mq) else (n,k)).lookup x=ak .free
 | [],_,h=>by cases h
 | (y,k)::l,x,h=>by
   rw[MO] at h;rw[Ka,MO];by_cases e:x=y
   ·subst e;simp only[Ky] at h;cases h;by_cases O:(Kh == Kh&&env.scope.kind == .function&&env.kindOf x == ak .cell)=true
    ·refine .inl ?_;rw[pT O];simp only[Ky]
    ·refine .inr ?_;rw[oT O];simp only[Ky]
   ·have hb:(x == y)=false:=J8.mpr e;simp only[hb] at h;have q:=nc (env:=env) h;by_cases O:(k == Kh&&env.scope.kind == .function&&env.kindOf y == ak .cell)=true
    ·simp only[pT O,hb];exact q
    ·simp only[oT O,hb];exact q
structure iX (osc:LG) (ON N:C') (n:Nat) (fx:D8) (sc:LG):Prop where
 kind:sc.kind= .function
 noc:∀y∈sc.names,y.2≠.cell
 own:∀y∈sc.names,y.2= .local->sc.names.lookup y.1=ak .local
 fre:∀y∈sc.names,y.2= .free->osc.names.lookup y.1=ak .cell∨osc.names.lookup y.1=ak .free
 len:N.length=n + fx.length
 frn:∀k,k < fx.length->∃x j,N[n + k]? =ak x/\fx[k]? =ak j/\ON[j]? =ak x/\sc.names.lookup x=ak .free
noncomputable def C8 (ON:C') (O:LG):C'->D8->JY
 | [],[]=>true
 | x::xs,j::js=>decide (ON[j]? =ak x)&&decide (O.names.lookup x=ak .free)&&C8 ON O xs js
 | _,_=>false
theorem uL {ON:C'} {Y:LG}:∀{xs:C'} {O:D8},C8 ON Y xs O=true->xs.length=O.length/\∀k,k < O.length->∃x j,xs[k]? =ak x/\O[k]? =ak j/\ON[j]? =ak x/\Y.names.lookup x=ak .free
 | [],[],_=>⟨rfl,λk h=>kf h (J6 k)⟩
 | [],_::_,h=>by cases h
 | _::_,[],h=>by cases h
 | x::xs,j::O,h=>by
   simp only[C8,Kb,OP] at h;obtain⟨l,q⟩:=uL h.2;refine⟨y3 Nat.succ l,λk hk=>?_⟩;cases k with
   | zero=>exact⟨x,j,rfl,rfl,h.1.1,h.1.2⟩
   | succ k=>
     obtain⟨Z,α,a,b,c⟩:=q k (Nat.lt_of_succ_lt_succ hk);exact⟨Z,α,by simpa using a,by simpa using b,c⟩
noncomputable def xE (osc:LG) (ON N:C') (n:Nat) (fx:D8) (O:LG):Bool:=
 decide (O.kind= .function)&&decide (∀y∈O.names,y.2≠.cell)&&decide (∀y∈O.names,y.2= .local->O.names.lookup y.1=ak .local)&&
 decide (∀y∈O.names,y.2= .free->osc.names.lookup y.1=ak .cell∨osc.names.lookup y.1=ak .free)&&decide (n<=N.length)&&C8 ON O (N.drop n) fx
theorem iX.of {osc:LG} {ON N:C'} {n:Nat} {fx:D8} {O:LG} (h:xE osc ON N n fx O=true):iX osc ON N n fx O:=by
 simp only[xE,Kb,OP] at h;obtain⟨⟨⟨⟨⟨h1,h2⟩,Z⟩,ρ⟩,δ⟩,Y⟩:=h;obtain⟨l,q⟩:=uL Y;refine⟨h1,h2,Z,ρ,?_,λk hk=>?_⟩
 ·rw[Ml] at l;omega
 ·obtain⟨x,j,a,b⟩:=q k hk;exact⟨x,j,by rw[Qa] at a;exact a,b⟩
noncomputable def jz (X:Cx) (N:C') (O:LG) (Y:J3) (C:fy) (fp:I4) (s:ib) (H:Hp):Cx where
 prog:=X.prog
 w:=X.w
 K:=X.K
 mg:=X.mg
 base:=X.base
 A:=X.A
 N:=N
 s₀:=s
 H₀:=H
 env:=compEnvC O Y C X.env
 outer:=X.stack
 stack:=X.stack
 ex:=fp
 fn:=λ_=>false
 calm:=X.calm
 pn:=[]
 xe:=λ_ _=>False
noncomputable def dI (n:Nat) (fx:D8) (σ:St):St:=eH n none++fx.map λj=>(σ[j]?).join
def yW (n:Nat) (g:TG):Prop:=∀v σ H (Q Q':St->Hp->Prop),(∀σ' H',Q σ' H'->σ'.drop n=σ.drop n->σ'.length=σ.length->Q' σ' H')->g v σ H Q->g v σ H Q'
def xK (n:Nat) (g:TGs):Prop:=∀vs σ H (Q Q':St->Hp->Prop),(∀σ' H',Q σ' H'->σ'.drop n=σ.drop n->σ'.length=σ.length->Q' σ' H')->g vs σ H Q->g vs σ H Q'
theorem bc {n i:Nat} (h:i < n):yW n (A5 i):=λv σ H Q Q' k q=>k _ _ q (by rw[List.drop_set_of_lt h]) (by rw[M6])
theorem A2 {n:Nat}:xK n gNil:=λvs σ H Q Q' k ⟨e,q⟩=>⟨e,k _ _ q rfl rfl⟩
theorem n6 {n:Nat} {t:TG} {u:TGs} (ht:yW n t) (hu:xK n u):xK n (Ga t u):=λvs σ H Q Q' k ⟨v,r,e,q⟩=>
 ⟨v,r,e,ht v σ H _ _ (λO H1 Y α l1=>hu r O H1 Q Q' (fun ν H2 π Z l2=>k ν H2 π (Z.trans α) (l2.trans l1)) Y) q⟩
theorem Es {K:bp} {n m:Nat} {t:TGs} (h:xK n t):yW n (gTup K m t):=λv σ H Q Q' k ⟨a,xs,e,hs,hl,q⟩=>⟨a,xs,e,hs,hl,h xs σ H Q Q' k q⟩
def PTs (X:Cx) (O:f' z8) (t:TT):Prop:=
 ∀(pins:Dc) (s:ib) (σ:St) (H:Hp) (Q:JY->Hp->Prop),Inv X pins σ H s->t σ H Q->
  oi (qA X.prog X.w) X.A (forIn O true λc r=>if r=true then do let ok <-isTrue c X.env (eval c X.env);pure (Ma ok) else pure (Ma r)) (TP X pins σ Q) X.xe s
noncomputable def tYes:TT:=λ_ H Q=>Q true H
theorem bJ {X:Cx}:PTs X [] tYes:=λ_ _ _ H _ I h=>wpAny_tests_nil ⟨H,I,h⟩
theorem oF {X:Cx} {c:z8} {t:TT} (h:PT X c t):PTs X [c] t:=λpins s σ H Q I q=>wpAny_tests_one (h pins s σ H Q I q)
noncomputable def B2 (n:Nat) (fx:D8) (ε:TI) (g:TG) (tc:TT) (te:TE):TE:=fun σ H Q=>ε σ H λJ H1=>∀D,H1 D=none->
 ∃W:Nat->Nat->f' V->Hp->Prop,(∃m,W 0 m [] (upd H1 D (.lst [])))/\∀i m ys H2,W i m ys H2->(J.stop i H2/\Q (.ref D) H2)∨
   (J.go i H2/\∃N:f' V->Hp->Prop,(∀O H',N O H'->∃Y,Y < m/\W (i + 1) Y O H')/\∀x δ,J.yld i H2 x δ->g x (dI n fx σ) δ fun α Z=>tc α Z λb γ=>
    if b=true then te α γ λv β=>β D=ak (.lst ys)/\ys.length < qb/\N (ys++[v]) (upd β D (.lst (ys++[v]))) else N ys γ)
section
variable {X:Cx} {pins:Dc} {σ:St} {H:Hp} {s:ib}
theorem yI {n:Nat} {fx:D8}:(dI n fx σ).length=n + fx.length:=by unfold dI;simp
theorem rC {n:Nat} {fx:D8} {i:Nat} {v:V} (e:(dI n fx σ)[i]? =ak (ak v)):∃k j,i=n + k/\fx[k]? =ak j/\σ[j]? =ak (ak v):=by
 unfold dI at e;by_cases h:i < n
 ·rw[qM (by simpa using h),Le,pT h] at e;cases e
 ·rw[qE (by simpa using h),qq,ic] at e;cases q:fx[i - n]? with
  | none=>rw[q] at e;cases e
  | some j=>
    rw[q] at e;have O:(σ[j]?).join=ak v:=mu e;refine⟨i - n,j,@A,q,?_⟩;cases z:σ[j]? with
    | none=>rw[z] at O;cases O
    | some o=>rw[z] at O;have:o=ak v:=O;rw[this]
theorem Dw {osc:LG} {ON N:C'} {n:Nat} {fx:D8} {β:LG} {ζ:J3} {fp:I4} {ρ:z1} {tk:Nat}
  (ho:X.env.scope=osc) (ι:X.N=ON) (S:iX osc ON N n fx β)
  (γ:∀p∈ζ,X.env.cells.lookup p.1=ak p.2) (Y:∀y∈β.names,y.2= .free->∃c,(y.1,c)∈ζ)
  (I:Inv X pins σ H s) (hf:∀b∈fp,FpOk X pins H b) (ξ:∀b∈fp,b < s.heap.objs.size)
  (Z:∃m,ρ.Ns s.heap.objs.size m) (O:∀b o,s.heap.get? b=ak o->ρ.get? b=ak o):
  Inv (jz X N β ζ s.heap.objs.size fp s H) [] (dI n fx σ) H {s with heap:=ρ,toks:=tk}:=by
 have look:∀{x:J9} {c:fy},ζ.lookup x=ak c->X.env.cells.lookup x=ak c:=λ{x c} e=>γ (x,c) (Kg e)
 have ok:(jz X N β ζ s.heap.objs.size fp s H).Ok:=by
  refine⟨I.ok.mod,S.kind,I.ok.glob,I.ok.blt,ru _,λx y c h1 h2=>I.ok.inj x y c (look h1) (look h2),λx hx=>?_,λx c z=>(by cases z),I.ok.hd,I.ok.frames,.inl rfl,λb hb=>⟨JU (ξ b hb),λx c e=>(hf b hb).2.2.2.2.1 x c (look e)⟩,
   I.bs,L9 I.ok.bsz I.sz,λb o e hb=>?_,λb hb z=>?_,I.stack,I.stkFree⟩
  ·have ν:∃η,(η=Mq∨η=Kh)/\(β.names.map λ(n,k)=>if (k == Kh&&X.env.scope.kind == .function&&X.env.kindOf n == ak .cell) then (n,Mq) else (n,k)).lookup x=ak η:=by
    rcases hx with hx | hx
    ·exact⟨_,.inl rfl,hx⟩
    ·exact⟨_,.inr rfl,hx⟩
   obtain⟨η,hk,e⟩:=ν;obtain⟨k,hm,z⟩:=kZ e
   have χ:k= .free:=by
    rcases z with z | z
    ·subst z;rcases hk with q | q
     ·exact kf q (S.noc _ hm)
     ·exact q
    ·exact z
   subst χ;obtain⟨c,hc⟩:=Y _ hm rfl;exact sj hc
  ·rcases(hf b hb).2.2.2.1 with z | z
   ·exact I.ok.noex b o e z
   ·exact kf (fb (hF (I.ok.bs b o e).1) z) (KY _)
  ·rcases rz.mp (I.stkSub b z) with q | q
   ·exact(hf b hb).2.1 q
   ·exact(hf b hb).2.2.1 q
 obtain⟨m,Z⟩:=Z;refine⟨ok,rfl,I.bare,Un.kept O,⟨m,Z,λi x v e1 e2 e3=>?_⟩,λx c e=>?_,I.hok.fresh (ru _),λx c e=>I.freeC x c (look e),λp hp=>kf (show p∈([]:Dc) from hp) @F,I.hok.kept O,?_⟩
 ·obtain⟨k,j,rfl,υ,ω⟩:=rC e2;obtain⟨α,τ,a1,a2,ε,δ⟩:=S.frn k (dt.mp υ).1;have ex:α=x:=mu (a1.symm.trans e1);have ej:τ=j:=mu (a2.symm.trans υ);subst ex;subst ej;obtain⟨m',_,hl⟩:=I.loc;have hk:X.env.scope.names.lookup α=ak .cell∨X.env.scope.names.lookup α=ak .free:=by rw[ho];exact S.fre _ (Kg δ) rfl
  have θ:Vis X.env.scope α:=by rcases hk with z | z;exact .inr (.inl z);exact .inr (.inr z)
  obtain⟨u,r,q⟩:=hl τ α v (by rw[ι];exact ε) ω θ;rcases q with ⟨z,_⟩ | ⟨_,c,ec,ψ⟩
  ·have π:X.env.scope.names.lookup α=ak .local:=z;rcases hk with q | q<;>(rw[q] at π;cases π)
  ·refine⟨u,r,.inr ⟨nc δ,c,?_,ψ.keeps O⟩⟩;obtain⟨c0,ο⟩:=Y _ (Kg δ) rfl;obtain⟨c1,φ⟩:=sj ο;have:=look φ;rw[ec] at this;cases this;exact φ
 ·obtain⟨v,q⟩:=I.cell x c (look e);exact⟨v,q.keeps O⟩
 ·show _=N.length;rw[yI,S.len]
theorem uU {osc:LG} {ON N:C'} {n:Nat} {fx:D8} {ω:LG} {cl:J3} {ε tg iter:z8} {d0:f' z8} {pos:Pos} {wi:TI} {g:TG} {tc:TT} {te:TE} {Q:VK} {RR:hJ->fy->J2}
  (d2:X.calm=true) (ho:X.env.scope=osc) (hN:X.N=ON) (S:iX osc ON N n fx ω)
  (c1:∀p∈cl,X.env.cells.lookup p.1=ak p.2) (e4:∀y∈ω.names,y.2= .free->∃c,(y.1,c)∈cl)
  (hi:PI X tg iter wi) (gk:yW n g) (hb:∀cl C fp s H,PG (jz X N ω cl C fp s H) tg g/\PTs (jz X N ω cl C fp s H) d0 tc/\PE (jz X N ω cl C fp s H) ε te)
  (I:Inv X pins σ H s) (h:B2 n fx wi g tc te σ H Q)
  (f4:∀D C H' s',Inv X pins σ H' s'->(∃m,s'.heap.Ns C m)->FpOk X pins H' C->Q (.ref D) H'->RR (.ref D) C (.ok .next) s'):
  oi (qA X.prog X.w) X.A (eval iter X.env) (λx s₁=>oi (qA X.prog X.w) X.A (pyIter x) (λit s₂=>oi (qA X.prog X.w) X.A (newList []) (λe6 s₃=>
   oi (qA X.prog X.w) X.A (newFunctionEnv ω X.env.globals cl [] X.env.qual none .none (ak X.env)) (λc2 s₄=>
    codeAny (qA X.prog X.w) X.A (.compStart (.ListComp ε [⟨tg,iter,d0,0⟩] ω pos) 0 it e6 {c2 with scope:=relabel ω X.env}) (RR e6 c2.locals) s₄) X.xe s₃) X.xe s₂) X.xe s₁) X.xe s:=by
 refine thn (hi pins s σ H _ I h) λv s1 h1=>thn h1 λg4 α h2=>?_;obtain⟨it,fp,tn,J,H2,e2,I2,T,ξ,f2,hW⟩:=h2;subst e2;obtain⟨W,⟨m0,w0⟩,d1⟩:=hW α.heap.objs.size I2.fresh;refine Lx ?_;have I3:Inv X pins σ (upd H2 α.heap.objs.size (.lst [])) {α with heap:=α.heap.push {cls:= .type "list",data:= .seq ([]:E').toArray}}:=I2.lnew (t':=α.toks) (its:=[]) .nil (L0 _)
 have υ:∀b∈fp,FpOk X pins (upd H2 α.heap.objs.size (.lst [])) b/\b < α.heap.objs.size:=λb hb=>by
  obtain⟨o,e,_⟩:=T.obj _ _ ξ b hb;have l:=hF e;obtain⟨a1,a2⟩:=f2 b hb;exact⟨⟨by rw[aV (JU l)];exact a1,a2⟩,l⟩
 have sz:({α with heap:=α.heap.push {cls:= .type "list",data:= .seq ([]:E').toArray}}:ib).heap.objs.size=α.heap.objs.size + 1:=KP ..
 generalize f0:({α with heap:=α.heap.push {cls:= .type "list",data:= .seq ([]:E').toArray}}:ib)=β at I3 sz ⊢;generalize g5:upd H2 α.heap.objs.size (.lst [])=H3 at I3 υ w0;have e1:∀b o,α.heap.get? b=ak o->β.heap.get? b=ak o:=λb o e=>by rw[<-f0];exact gB _ e
 refine wpAny_newFunctionEnv (λy hy=>S.noc y hy) (λy hy=>nomatch hy) (λh4 f1 e9=>?_) S.kind;have b9:∀b o,β.heap.get? b=ak o->h4.get? b=ak o:=λb o e=>e9.extBut b o (JU (hF e)) (gB _ e);have γ:=Dw (tk:=β.toks + ([]:J4).length) ho hN S c1 e4 I3 (λb hb=>(υ b hb).1) (λb hb=>by rw[sz];exact LV (υ b hb).2) ⟨_,f1⟩ b9;have b0:=hb cl β.heap.objs.size fp β H3;generalize hY:jz X N ω cl β.heap.objs.size fp β H3=Y at γ b0
 have a0:∀{H':Hp},(∀b∈fp,H' b=none)->∀b∈fp,FpOk Y [] H' b:=λ{H'} hn b hb=>by
  subst hY;obtain⟨⟨a1,a2,a3,a4,χ,θ⟩,l⟩:=υ b hb;refine⟨hn b hb,JU (show b < β.heap.objs.size by rw[sz];exact LV l),λz=>?_,.inl hb,λx c e=>χ x c (c1 (x,c) (Kg e)),λp hp=>kf (show p∈([]:Dc) from hp) @F⟩;rcases rz.mp (I3.stkSub b z) with q | q
  ·exact a2 q
  ·exact a3 q
 have fin:∀{π:St} {H6:Hp} {s6:ib},Inv Y [] π H6 s6->Q (.ref α.heap.objs.size) H6->RR (.ref α.heap.objs.size) β.heap.objs.size (.ok .next) s6:=λ{π H6 s6} I6 q=>by
  subst hY;refine f4 _ _ H6 s6 ?_ (let ⟨m,hm,_⟩:=I6.loc;⟨m,hm⟩) (I3.fpOk (ru _) I6.free) q;obtain⟨hh,gg,dd,tt,τ⟩:=s6;obtain rfl:τ=β.os:=I6.os
  exact I3.call (h':=hh) (g':=gg) (d':=dd) (t':=tt) (ch:=fp) I6.base I6.hok I6.bare λb hb=>by
   obtain⟨⟨a1,a2,a3,a4,χ,θ⟩,l⟩:=υ b hb;exact⟨a4,a2,χ,θ⟩
 have ζ:Y.prog=X.prog:=by subst hY;rfl
 have δ:Y.w=X.w:=by subst hY;rfl
 have kY:Y.K=X.K:=by subst hY;rfl
 have aY:Y.A=X.A:=by subst hY;rfl
 have η:Y.calm=true:=by subst hY;exact d2
 have eY:Y.env=compEnvC ω cl β.heap.objs.size X.env:=by subst hY;rfl
 have xY:Y.xe=λ_ _=>False:=by subst hY;rfl
 have T':Turn Y.prog Y.w Y.K tg J fp it tn:=by rw[ζ,δ,kY];exact T
 have d3:tn 0 h4:=T.keep _ _ _ ξ λb hb o e=>b9 b o (e1 b o e)
 have c0:codeAny (qA X.prog X.w) X.A (.compLoop (.ListComp ε [⟨tg,iter,d0,0⟩] ω pos) 0 (.ref it) (.ref α.heap.objs.size) (compEnvC ω cl β.heap.objs.size X.env)) (RR (.ref α.heap.objs.size) β.heap.objs.size)
   {β with heap:=h4,toks:=β.toks + ([]:J4).length}:=by
  rw[<-ζ,<-δ,<-aY,<-eY];refine yG (λk s'=>∃i ys σ' H',Inv Y [] σ' H' s'/\σ'.drop n=(dI n fx σ).drop n/\σ'.length=(dI n fx σ).length/\tn i s'.heap/\(∀b∈fp,H' b=none)/\W i k ys H') ?_ m0 ⟨0,[],_,H3,γ,rfl,rfl,d3,λb hb=>(υ b hb).1.1,w0⟩;rintro k s5 ⟨i,ys,σ5,H5,I5,ed,el,e0,ρ,w5⟩
  have I5:Inv Y [] (dI n fx σ) H5 s5:=I5.weak el.symm λj v e=>by
   obtain⟨k',j',rfl,_,_⟩:=rC e;have q:=y3 (λl=>l[k']?) ed;simp only[Qa] at q;rw[q];exact e
  rcases d1 i k ys H5 w5 with ⟨stop,q⟩ | ⟨go,N',f5,step⟩
  ·refine LQ (T'.done Y rfl rfl rfl η i [] s5 _ H5 (λ_ _=>False) I5 (a0 ρ) e0 stop) (λr s6 ⟨hr,I6⟩=>?_) λ_ _ z=>z;subst hr;exact fin I6 q
  ·rw[<-xY];refine thn (T'.item Y rfl rfl rfl η i [] s5 _ H5 Y.xe I5 (a0 ρ) e0 go) λr s6 ⟨u,hr,h6⟩=>?_;subst hr;show oi _ _ _ _ _ _;refine thn h6 λ_ s7 ⟨x,H7,I7,ν,y7,c3,f6⟩=>?_;have g0:=I7.pinned (a0 f6) (T.obj _ _ c3);refine thn (b0.1 _ s7 _ H7 x u _ g0 ν (gk _ _ _ _ _ (fun σ' H' q e l=>(⟨q,e,l⟩:_/\_/\_)) (step x H7 y7))) λ_ s8 ⟨σ8,H8,I8,q8,f8,f7⟩=>?_;refine thn (b0.2.1 _ s8 σ8 H8 _ I8 q8) λok s9 ⟨H9,ι,q9⟩=>?_
   have again:∀{ο:Hp} {φ:ib} {zs:f' V},Inv Y ([]++uh fp s7.heap) σ8 ο φ->N' zs ο->
     ∃m,m < k/\∃i ys σ' H',Inv Y [] σ' H' φ/\σ'.drop n=(dI n fx σ).drop n/\σ'.length=(dI n fx σ).length/\tn i φ.heap/\(∀b∈fp,H' b=none)/\W i m ys H':=λ{ο φ zs} I10 c5=>by
    obtain⟨m',hm,e7⟩:=f5 _ _ c5;refine⟨m',hm,i + 1,zs,σ8,ο,I10.unpinned,f8,f7,T.keep _ _ _ c3 λb hb o e=>(I10.pin (b,o) (oD _ (oD _ (j5 hb e)))).1,λb hb=>?_,e7⟩;obtain⟨o,e,d⟩:=T.obj _ _ c3 b hb;exact(I10.pin (b,o) (oD _ (oD _ (j5 hb e)))).2.1
   cases ok with
   | false=>exact again ι q9
   | true=>
     rw[pT rfl];refine thn (b0.2.2 _ s9 σ8 H9 _ ι q9) λy φ ⟨ψ,ο,I10,e8,e5,e3,c5⟩=>?_;refine thn (cv (X:=Y) _ φ σ8 ο (.ref α.heap.objs.size) [ψ] (.ref α.heap.objs.size) [y] (λ_ H'=>H'=upd ο α.heap.objs.size (.lst (ys++[ψ]))) I10 rfl (.cons e8 .nil) ⟨_,ys,ψ,rfl,rfl,e5,e3,rfl⟩) λ_ O ⟨_,Z,g3,_,f9⟩=>?_;subst f9;exact again g3 c5
 exact codeAny_compStart_list c0 (T.self X.A 0 _ _ _ d3 c0)
theorem cW {osc:LG} {ON N:C'} {n:Nat} {fx:D8} {Y:LG} {ε tg iter:z8} {Z:f' z8} {pos:Pos} {η:TI} {g:TG} {tc:TT} {te:TE}
  (O:X.calm=true) (ho:X.env.scope=osc) (ι:X.N=ON) (S:xE osc ON N n fx Y=true) (hi:PI X tg iter η) (ξ:yW n g)
  (hb:∀γ C fp s H,PG (jz X N Y γ C fp s H) tg g/\PTs (jz X N Y γ C fp s H) Z tc/\PE (jz X N Y γ C fp s H) ε te)
  (hs:∀x,foldedSetIterable iter X.env x=pure x:=by intro _;rfl):PE X (.ListComp ε [⟨tg,iter,Z,0⟩] Y pos) (B2 n fx η g tc te):=by
 intro pins s σ H Q I h;have S:=iX.of S;obtain⟨γ,τ,β,α⟩:=rD Y X.env λy ν hf=>I.ok.has y.1 (by show X.env.scope.names.lookup y.1=ak .cell∨X.env.scope.names.lookup y.1=ak .free;rw[ho];exact S.fre y ν hf);rw[eval_ListComp];refine Q2 (use:=none) rfl hs τ S.kind S.own (uU (RR:=fun ζ C=>compPost (qA X.prog X.w) X.A X.xe none (EP X pins σ Q) ζ C) O ho ι S β α hi ξ hb I h ?_);intro D C H' s' I' hm hf q;obtain⟨m,hm⟩:=hm;obtain⟨θ,ρ,φ,υ,π,ο⟩:=hf;exact⟨m,hm,λh' δ=>⟨.ref D,H',I'.turned (t':=s'.toks) (λb o hb e=>(δ.2 b hb).trans e) θ ρ υ π ο,rfl,q⟩⟩
theorem hG {i:Nat} {x:J9} {δ:Pos} {Y:Pos} {osc:LG} {ON N:C'} {n:Nat} {fx:D8} {O:LG} {ε tg iter:z8} {Z:f' z8} {pos:Pos} {ψ:TI} {g:TG} {tc:TT} {te:TE}
  (π:X.N.Nodup) (hx:X.N[i]? =ak x) (hl:X.env.scope.names.lookup x=ak .local) (ξ:swapsWith (.ListComp ε [⟨tg,iter,Z,0⟩] O pos) (ak (.Name x δ)) Y.line X.env=pure true)
  (β:X.calm=true) (ho:X.env.scope=osc) (ι:X.N=ON) (S:xE osc ON N n fx O=true) (hi:PI X tg iter ψ) (gk:yW n g)
  (hb:∀ν C fp s H,PG (jz X N O ν C fp s H) tg g/\PTs (jz X N O ν C fp s H) Z tc/\PE (jz X N O ν C fp s H) ε te)
  (hs:∀x,foldedSetIterable iter X.env x=pure x:=by intro _;rfl):PS X (.Assign [.Name x δ] (.ListComp ε [⟨tg,iter,Z,0⟩] O pos) Y) (tAsg (B2 n fx ψ g tc te) (A5 i)):=by
 intro pins s σ H D I h;have S:=iX.of S;obtain⟨ν,τ,η,ζ⟩:=rD O X.env λy hy hf=>I.ok.has y.1 (by show X.env.scope.names.lookup y.1=ak .cell∨X.env.scope.names.lookup y.1=ak .free;rw[ho];exact S.fre y hy hf);rw[exec_Assign_Name_used _ _ _ _ ξ];refine ew (PY (ew ?_));show oi _ X.A (do let _ <-comprehension (.ListComp ε [⟨tg,iter,Z,0⟩] O pos) O X.env _ (newList []) false (eval iter X.env) (ak (assign (.Name x δ) X.env))) _ _ s
 refine ew (thn (Q2 (use:=ak (assign (.Name x δ) X.env)) (Q:=λ_ s'=>SP X pins D .next s') rfl hs τ S.kind S.own
  (uU (RR:=fun χ C=>compPost (qA X.prog X.w) X.A X.xe (ak (assign (.Name x δ) X.env)) (λ_ s'=>SP X pins D .next s') χ C) β ho ι S η ζ hi gk hb I h ?_)) λ_ s' q=>hH (hH q))
 intro D' C H' s' γ hm hf q;obtain⟨m,hm⟩:=hm;obtain⟨θ,f1,f2,υ,ω,f5⟩:=hf;show oi _ X.A (assign (.Name x δ) X.env (.ref D')) _ _ _;refine Rc (tR γ π hx (.inl hl) (v:= .ref D') rfl (λs2 I2 ρ=>?_) (.inr hl));obtain⟨a,ο,ha⟩:=ρ
 have φ:C≠a:=by
  rcases ha with z | z
  ·rw[z];exact f1
  ·exactλe=>ω _ _ z e.symm
 exact⟨m,hm.sameBut ο φ,λh' α=>⟨_,H',I2.turned (t':=s2.toks) (λb o hb e=>(α.2 b hb).trans e) θ f1 υ ω f5,q⟩⟩
end
section
variable {K:bp} {n:Nat} {fx:D8} {g:TG} {tc:TT} {te:TE} {σ:St} {H1:Hp} {D:fy} {Q:Hp->Prop}
theorem dB {lo:Int} {k:Nat} (β:Nat->f' V->Hp->Prop) (h0:β 0 [] (upd H1 D (.lst [])))
  (hs:∀i ys H,i < k->β i ys H->g (.int (lo + i)) (dI n fx σ) H fun α Z=>tc α Z λb δ=>if b=true then te α δ λv γ=>γ D=ak (.lst ys)/\ys.length < qb/\β (i + 1) (ys++[v]) (upd γ D (.lst (ys++[v]))) else β (i + 1) ys δ)
  (hd:∀ys H,β k ys H->Q H):
  ∃W:Nat->Nat->f' V->Hp->Prop,(∃m,W 0 m [] (upd H1 D (.lst [])))/\∀i m ys H2,W i m ys H2->((Itr lo k).stop i H2/\Q H2)∨
    ((Itr lo k).go i H2/\∃N:f' V->Hp->Prop,(∀O H',N O H'->∃ε,ε < m/\W (i + 1) ε O H')/\∀x ζ,(Itr lo k).yld i H2 x ζ->g x (dI n fx σ) ζ fun α Z=>tc α Z λb δ=>
      if b=true then te α δ λv γ=>γ D=ak (.lst ys)/\ys.length < qb/\N (ys++[v]) (upd γ D (.lst (ys++[v]))) else N ys δ):=by
 refine⟨λi m ys H=>m=k - i/\i<=k/\β i ys H,⟨k,@F,L0 _,h0⟩,?_⟩;rintro i m ys H ⟨rfl,hi,p⟩;by_cases Y:i < k
 ·refine .inr ⟨Y,β (i + 1),λO H' η=>⟨k - (i + 1),by omega,rfl,Y,η⟩,λx H' y=>?_⟩;obtain⟨e,y⟩:=y;subst e;subst y;exact hs i ys _ Y p
 ·have e:i=k:=by omega
  subst e;exact .inl ⟨ru _,hd ys H p⟩
theorem bU {a:fy} {xs:f' V} (O:Nat->f' V->Hp->Prop) (h0:O 0 [] (upd H1 D (.lst []))) (hl:∀i ys H,i<=xs.length->O i ys H->SqL K H a xs)
  (hs:∀i x ys H,xs[i]? =ak x->O i ys H->g x (dI n fx σ) H fun α Z=>tc α Z λb δ=>if b=true then te α δ λv γ=>γ D=ak (.lst ys)/\ys.length < qb/\O (i + 1) (ys++[v]) (upd γ D (.lst (ys++[v]))) else O (i + 1) ys δ)
  (hd:∀ys H,O xs.length ys H->Q H):
  ∃W:Nat->Nat->f' V->Hp->Prop,(∃m,W 0 m [] (upd H1 D (.lst [])))/\∀i m ys H2,W i m ys H2->((Itl K a).stop i H2/\Q H2)∨
    ((Itl K a).go i H2/\∃N:f' V->Hp->Prop,(∀Y H',N Y H'->∃ε,ε < m/\W (i + 1) ε Y H')/\∀x ζ,(Itl K a).yld i H2 x ζ->g x (dI n fx σ) ζ fun α Z=>tc α Z λb δ=>
      if b=true then te α δ λv γ=>γ D=ak (.lst ys)/\ys.length < qb/\N (ys++[v]) (upd γ D (.lst (ys++[v]))) else N ys δ):=by
 refine⟨λi m ys H=>m=xs.length - i/\i<=xs.length/\O i ys H,⟨xs.length,@F,L0 _,h0⟩,?_⟩;rintro i m ys H ⟨rfl,hi,p⟩;have q:=hl i ys H hi p;by_cases β:i < xs.length
 ·refine .inr ⟨⟨xs,xs[i],q,by simp[β]⟩,O (i + 1),λY H' η=>⟨xs.length - (i + 1),by omega,rfl,β,η⟩,λx H' y=>?_⟩;obtain⟨e,y⟩:=y;subst e;exact hs i x ys _ (y xs q) p
 ·have e:i=xs.length:=by omega
  subst e;exact .inl ⟨⟨xs,q,ru _⟩,hd ys H p⟩
theorem n9 {a:fy} {xs:f' V} (O:Nat->f' V->Hp->Prop) (h0:O 0 [] (upd H1 D (.lst []))) (hl:∀i ys H,i<=xs.length->O i ys H->SqT K H a xs)
  (hs:∀i x ys H,xs[i]? =ak x->O i ys H->g x (dI n fx σ) H fun α Z=>tc α Z λb δ=>if b=true then te α δ λv γ=>γ D=ak (.lst ys)/\ys.length < qb/\O (i + 1) (ys++[v]) (upd γ D (.lst (ys++[v]))) else O (i + 1) ys δ)
  (hd:∀ys H,O xs.length ys H->Q H):
  ∃W:Nat->Nat->f' V->Hp->Prop,(∃m,W 0 m [] (upd H1 D (.lst [])))/\∀i m ys H2,W i m ys H2->((Itt K a).stop i H2/\Q H2)∨
    ((Itt K a).go i H2/\∃N:f' V->Hp->Prop,(∀Y H',N Y H'->∃ε,ε < m/\W (i + 1) ε Y H')/\∀x ζ,(Itt K a).yld i H2 x ζ->g x (dI n fx σ) ζ fun α Z=>tc α Z λb δ=>
      if b=true then te α δ λv γ=>γ D=ak (.lst ys)/\ys.length < qb/\N (ys++[v]) (upd γ D (.lst (ys++[v]))) else N ys δ):=by
 refine⟨λi m ys H=>m=xs.length - i/\i<=xs.length/\O i ys H,⟨xs.length,@F,L0 _,h0⟩,?_⟩;rintro i m ys H ⟨rfl,hi,p⟩;have q:=hl i ys H hi p;by_cases β:i < xs.length
 ·refine .inr ⟨⟨xs,xs[i],q,by simp[β]⟩,O (i + 1),λY H' η=>⟨xs.length - (i + 1),by omega,rfl,β,η⟩,λx H' y=>?_⟩;obtain⟨e,y⟩:=y;subst e;exact hs i x ys _ (y xs q) p
 ·have e:i=xs.length:=by omega
  subst e;exact .inl ⟨⟨xs,q,ru _⟩,hd ys H p⟩
end
def jD (K:bp) (H:Hp) (x:V) (k:Kr):Prop:=match x with
 | .non=>k="NoneType"
 | .bl _=>k="bool"
 | .int _=>k="int"
 | .str _=>k="str"
 | .ref p=>(k="list"/\∃xs,SqL K H p xs)∨(k="tuple"/\∃xs,SqT K H p xs)∨(k="dict"/\∃kvs,Rd H p (.dK kvs))
 | _=>False
noncomputable def subB (k T:Kr):Bool:=k == T||(k == "bool"&&T == "int")
noncomputable def rIsi (K:bp):f' V->Hp->VK->Prop:=λxs H Q=>∃x k T,xs=[x,.ty T]/\jD K H x k/\T∈["int","bool","str","list","tuple","dict"]/\Q (.bl (subB k T)) H
section
variable {X:Cx}
theorem DA:kU X (.builtin "isinstance") (rIsi X.K):=by
 intro pins s σ H xs us Q I r h;obtain⟨x,k,T,rfl,hk,hT,q⟩:=h;obtain⟨u,v,rfl,Z,rt⟩:=EW r;cases rt;have θ:∀b,b=subB k T->EP X pins σ Q (.bool b) s:=λb e=>⟨.bl b,H,I,rfl,by rw[e];exact q⟩;have O:∀b,b=subB k T->EP X pins σ Q (.bool b) {s with toks:=s.toks + 1}:=λb e=>⟨.bl b,H,I.tok _,rfl,by rw[e];exact q⟩;simp only[rz,JV,L5] at hT;cases x with
 | non=>
   cases Z;cases hk;rcases hT with rfl | rfl | rfl | rfl | rfl | rfl
   ·exact IsiPair.NoneType_int (O _ @C)
   ·exact IsiPair.NoneType_bool (O _ @C)
   ·exact IsiPair.NoneType_str (O _ @C)
   ·exact IsiPair.NoneType_list (O _ @C)
   ·exact IsiPair.NoneType_tuple (O _ @C)
   ·exact IsiPair.NoneType_dict (O _ @C)
 | bl b=>
   cases Z;cases hk;rcases hT with rfl | rfl | rfl | rfl | rfl | rfl
   ·exact IsiPair.bool_int (θ _ @C)
   ·exact IsiPair.bool_bool (θ _ @C)
   ·exact IsiPair.bool_str (O _ @C)
   ·exact IsiPair.bool_list (O _ @C)
   ·exact IsiPair.bool_tuple (O _ @C)
   ·exact IsiPair.bool_dict (O _ @C)
 | int i=>
   obtain⟨t,rfl⟩:=Z;cases hk;rcases hT with rfl | rfl | rfl | rfl | rfl | rfl
   ·exact IsiPair.int_int (θ _ @C)
   ·exact IsiPair.int_bool (O _ @C)
   ·exact IsiPair.int_str (O _ @C)
   ·exact IsiPair.int_list (O _ @C)
   ·exact IsiPair.int_tuple (O _ @C)
   ·exact IsiPair.int_dict (O _ @C)
 | str z=>
   obtain⟨t,rfl⟩:=Z;cases hk;rcases hT with rfl | rfl | rfl | rfl | rfl | rfl
   ·exact IsiPair.str_int (O _ @C)
   ·exact IsiPair.str_bool (O _ @C)
   ·exact IsiPair.str_str (θ _ @C)
   ·exact IsiPair.str_list (O _ @C)
   ·exact IsiPair.str_tuple (O _ @C)
   ·exact IsiPair.str_dict (O _ @C)
 | ref p=>
   cases Z;rcases hk with ⟨rfl,xs,α⟩ | ⟨rfl,xs,α⟩ | ⟨rfl,kvs,α⟩
   ·obtain⟨its,_,pl,_⟩:=I.list α;obtain⟨o,ho,Y,_⟩:=pl.isList;rcases hT with rfl | rfl | rfl | rfl | rfl | rfl
    ·exact IsiPair.list_int ho Y (O _ @C)
    ·exact IsiPair.list_bool ho Y (O _ @C)
    ·exact IsiPair.list_str ho Y (O _ @C)
    ·exact IsiPair.list_list ho Y (θ _ @C)
    ·exact IsiPair.list_tuple ho Y (O _ @C)
    ·exact IsiPair.list_dict ho Y (O _ @C)
   ·obtain⟨its,_,pl,_⟩:=I.tuple α;obtain⟨o,ho,Y,_⟩:=pl;rcases hT with rfl | rfl | rfl | rfl | rfl | rfl
    ·exact IsiPair.tuple_int ho Y (O _ @C)
    ·exact IsiPair.tuple_bool ho Y (O _ @C)
    ·exact IsiPair.tuple_str ho Y (O _ @C)
    ·exact IsiPair.tuple_list ho Y (O _ @C)
    ·exact IsiPair.tuple_tuple ho Y (θ _ @C)
    ·exact IsiPair.tuple_dict ho Y (O _ @C)
   ·obtain⟨_,_,_,_,o,_,_,ho,ex,_⟩:=α.ok I.hok;have Y:o.cls= .type "dict":=ex.1;rcases hT with rfl | rfl | rfl | rfl | rfl | rfl
    ·exact IsiPair.dict_int ho Y (O _ @C)
    ·exact IsiPair.dict_bool ho Y (O _ @C)
    ·exact IsiPair.dict_str ho Y (O _ @C)
    ·exact IsiPair.dict_list ho Y (O _ @C)
    ·exact IsiPair.dict_tuple ho Y (O _ @C)
    ·exact IsiPair.dict_dict ho Y (θ _ @C)
 | _=>exact K8 hk
noncomputable def Ht:V->f' V->Hp->VK->Prop:=λx xs H Q=>∃i,x= .int i/\xs=[]/\Q (.int (vl i:Nat)) H
theorem kS:MtR X "int.bit_length" Ht:=by
 intro pins s σ H x xs v us Q I O rs h;obtain⟨i,rfl,rfl,q⟩:=h;obtain⟨t,rfl⟩:=O;cases rs;exact call_int_bit_length ⟨.int _,H,I.tok _,⟨_,rfl⟩,q⟩
noncomputable def eqVs (xs ys:f' V):Bool:=xs.length == ys.length&&(lB xs.length).all λj=>eqV (xs.getD j .non) (ys.getD j .non)
noncomputable def rEqL (K:bp) (neg:JY):R2:=λx y H Q=>∃a b xs ys,x= .ref a/\y= .ref b/\SqL K H a xs/\SqL K H b ys/\xs.all pI=true/\ys.all pI=true/\Q (.bl (if neg then !eqVs xs ys else eqVs xs ys)) H
theorem zj {xs:f' V} {us:E'} (r:Vals xs us) {j:Nat} (h:j < us.toArray.size):RelV (xs.getD j .non) (us.toArray[j]):=by
 have hl:=r.length;have h':j < us.length:=by simpa using h
 obtain⟨u,e,ν⟩:=r.get (i:=j) (x:=xs.getD j .non) (by rw[eh,gs @A];rfl)
 have O:us.toArray[j]=u:=by
  rw[gs h'] at e;have:=mu e;simpa using this
 rw[O];exact ν
theorem we {xs:f' V} (f:xs.all pI=true) (j:Nat):pI (xs.getD j .non)=true:=by
 rw[eh];cases e:xs[j]? with
 | none=>rfl
 | some x=>exact MQ.mp f x (hR e)
theorem wU {pins:Dc} {σ:St} {H:Hp} {s:ib} {a b:fy} {xs ys:f' V} {A:z3} (hu:A.units < cLine) (I:Inv X pins σ H s) (ha:SqL X.K H a xs) (hb:SqL X.K H b ys) (fx:xs.all pI=true) (Y:ys.all pI=true):
  SeqAt.RcAt A s (.ref a) (.ref b) (eqVs xs ys)/\SeqAt.RcNeAt A s (.ref a) (.ref b) (!eqVs xs ys):=by
 obtain⟨its,r,pl,_⟩:=I.list ha;obtain⟨O,r',ω,_⟩:=I.list hb;have l1:=r.length;have l2:=r'.length;by_cases hl:xs.length=ys.length
 ·have e:eqVs xs ys=(lB its.toArray.size).all λj=>eqV (xs.getD j .non) (ys.getD j .non):=by
   unfold eqVs;rw[hl,Ky,z7,u9,<-l1,hl]
  rw[e];have hz:its.toArray.size=O.toArray.size:=by simp;omega
  have he:∀j (h1:j < its.toArray.size) (h2:j < O.toArray.size),SeqAt.EqAt A.in1 s its.toArray[j] O.toArray[j] (eqV (xs.getD j .non) (ys.getD j .non)):=λj h1 h2=>
   Iw (zj r h1) (zj r' h2) (we fx j) (we Y j)
  exact⟨SeqAt.RcAt.lists pl.isList ω.isList hz hu he,SeqAt.RcNeAt.lists pl.isList ω.isList hz hu he⟩
 ·have e:eqVs xs ys=false:=by
   unfold eqVs;rw[J8.mpr hl,zt]
  rw[e];have hz:(its.toArray.size != O.toArray.size)=true:=by simp;omega
  exact⟨SeqAt.RcAt.lists_lengths pl.isList ω.isList hz hu,SeqAt.RcNeAt.lists_lengths pl.isList ω.isList hz hu⟩
theorem HS (hu:X.A.units < cLine):OpR X (compareOp .Eq) (rEqL X.K false):=by
 intro pins s σ H x y v u Q I Y O h;obtain⟨a,b,xs,ys,rfl,rfl,ha,hb,fx,Z,q⟩:=h;cases Y;cases O;exact(wU hu I ha hb fx Z).1 X.prog X.w X.xe _ ⟨.bl _,H,I,rfl,q⟩
theorem HQ (hu:X.A.units < cLine):OpR X (compareOp .NotEq) (rEqL X.K true):=by
 intro pins s σ H x y v u Q I Y O h;obtain⟨a,b,xs,ys,rfl,rfl,ha,hb,fx,Z,q⟩:=h;cases Y;cases O;exact(wU hu I ha hb fx Z).2 X.prog X.w X.xe _ ⟨.bl _,H,I,rfl,q⟩
end
theorem Bd {xs:f' V} (f:xs.all pI=true):eqVs xs xs=true:=by
 unfold eqVs;rw[Ky,z7,MQ];intro j _;have:=we f j;generalize xs.getD j .non=x at this;cases x<;>first | rfl | exact Ky _ | cases this
theorem bQ (a b:Nat):K' (a:Int) (b:Int)=((a&&&b:Nat):Int):=by
 unfold K';rw[lh (Mh a),lh (Mh b)];simp
section
variable {X:Cx} {K:bp}
theorem dz (h:X.K=K):IxR X (rIxL K):=by subst h;exact F2
theorem az (h:X.K=K):IxR X (rIxT K):=by subst h;exact Il
theorem rO (h:X.K=K):SlR X (rSlL K):=by subst h;exact Fe
theorem Aq (h:X.K=K) (hu:X.A.units < cLine):OpR X (compareOp .Eq) (rEqL K false):=by subst h;exact HS hu
theorem r8 (h:X.K=K) (hu:X.A.units < cLine):OpR X (compareOp .NotEq) (rEqL K true):=by subst h;exact HQ hu
theorem fj (h:X.K=K):kU X (.builtin "isinstance") (rIsi K):=by subst h;exact DA
noncomputable def rLen (K:bp):f' V->Hp->VK->Prop:=λxs H Q=>∃x n,xs=[x]/\LenV K x H n/\Q (.int n) H
theorem aM (h:X.K=K):kU X (.builtin "len") (rLen K):=by subst h;exact Dz
noncomputable def vE (K:bp):f' V->Hp->VK->Prop:=λxs H Q=>∃p ys,xs=[.ref p]/\(SqL K H p ys∨SqT K H p ys)/\∀l,H l=none->Q (.ref l) (upd H l (.lst ys))
theorem gU (h:X.K=K):kU X (.type "list") (vE K):=by subst h;exact uX
noncomputable def Ec (K:bp):f' V->Hp->VK->Prop:=λxs H Q=>∃p ys,xs=[.ref p]/\((SqL K H p ys/\∀l,H l=none->Q (.ref l) (upd H l (.tup ys)))∨(SqT K H p ys/\Q (.ref p) H))
theorem pV (h:X.K=K):kU X (.type "tuple") (Ec K):=by subst h;exact tf
theorem be {tg l:z8} {tl:TE} (h:X.K=K) (hl:PE X l tl):PI X tg l (Io K tl):=by subst h;exact FL hl
theorem rX {tg l:z8} {tl:TE} (h:X.K=K) (hl:PE X l tl):PI X tg l (iTup K tl):=by subst h;exact HJ hl
theorem kN {o:z8} {to:TE} {name:J9} {apos cpos:Pos} {T id:Kr} {r:V->f' V->Hp->VK->Prop} (h:X.K=K) (π:PlainAttrs T) (slot:Slot T name id) (ο:typeOf (.builtin id)=pure (.type "method_descriptor")) (hm:MtR X id r) (ho:PE X o to)
  (δ:attributeBase o name X.env (eval o X.env)=eval o X.env:=by rfl) (γ:(apos.endLine == cpos.line)=true:=by rfl):PE X (.Call (.Attribute o name apos) [] [] cpos) (tBM0 K T r to):=by subst h;exact HM π slot ο hm ho δ γ
theorem gF {o e:z8} {es:f' z8} {to:TE} {t:TA} {name:J9} {apos cpos:Pos} {T id:Kr} {r:V->f' V->Hp->VK->Prop} (h:X.K=K) (π:PlainAttrs T) (slot:Slot T name id) (ο:typeOf (.builtin id)=pure (.type "method_descriptor")) (hm:MtR X id r) (ho:PE X o to) (ha:PA X (e::es) t)
  (δ:attributeBase o name X.env (eval o X.env)=eval o X.env:=by rfl)
  (Y:((backTo cpos (qQ (e::es) X.env)).all (λx=> !x.1)&&(backToKw cpos (keywordEach [] X.env)).all (λx=>x.1.isSome)
   &&decide ((e::es).length + ([]:f' Keyword).length + (if ([]:f' Keyword).isEmpty then 0 else 1) < 30))=true:=by rfl)
  (γ:(apos.endLine == cpos.line)=true:=by rfl) (hs:qQ (e::es) X.env=(false,eval e X.env)::qQ es X.env:=by rfl) (O:(backTo cpos (qQ es X.env)).any (·.1)=false:=by rfl):
  PE X (.Call (.Attribute o name apos) (e::es) [] cpos) (tBM K T r to t):=by subst h;exact Jv π slot ο hm ho ha δ Y γ hs O
end
noncomputable def Hu (K:bp):f' V->Hp->VK->Prop:=λxs H Q=>∃(a:fy) (bs:f' JY),xs=[.ref a]/\SqL K H a (bs.map V.bl)/\Q (.bl (bs.all id)) H
section
variable {X:Cx} {K:bp}
theorem Gk {bs:f' JY} {its:E'} (ι:Vals (bs.map V.bl) its) {i:Nat} {v:hJ} (h:its.toArray[i]? =ak v):v= .bool (bs.getD i false):=by
 have h':its[i]? =ak v:=by simpa using h
 have hi:i < its.length:=(dt.mp h').1;have hl:=ι.length;rw[cY] at hl;obtain⟨u,e,r⟩:=ι.get (i:=i) (x:= .bl (bs.getD i false)) (by rw[ic,gs @A,eh,gs @A];rfl);rw[h'] at e;cases e;exact r
theorem II (bs:f' JY):(lB bs.length).all (λi=>bs.getD i false)=bs.all id:=by
 rw[Li,MQ,MQ];constructor
 ·intro h x O;obtain⟨i,hi,e⟩:=Kn.mp O;have:=h i (zx.mpr hi);rw[eh,gs hi,e] at this;exact this
 ·intro h i hi;have hi:=zx.mp hi;rw[eh,gs hi];exact h _ (KU hi)
theorem Bq (h:X.K=K) (hc:X.calm=true):kU X (.builtin "all") (Hu K):=by
 subst h;intro pins s σ H xs us Q I r h;obtain⟨a,bs,rfl,Z,q⟩:=h;obtain⟨u,rfl,ν⟩:=xO r;cases ν;obtain⟨its,ι,pl,hz⟩:=I.list Z;have lt:a < s.heap.objs.size:=let ⟨o,e,_⟩:=pl.isList;hF e
 have hl:its.toArray.size=bs.length:=by have:=ι.length;rw[cY] at this;simp[this]
 refine call_all_walk (M8 pl.isList ⟨s.heap.objs.size,_,_,its.toArray.size,_,_,λi=>bs.getD i false,rfl,Walks.list (A:=X.A.in1) (I.ok.hd hc) s.heap.objs.size a (JU lt) its.toArray,⟨⟨_,pB _ rfl,rfl,rfl⟩,let ⟨o,e,c⟩:=pl.isList;⟨o,gB _ e,c⟩⟩,λi v s Q E Y α=>by rw[Gk ι Y];exact Lv α,λh' tk O=>?_⟩);rw[hl,II];exact⟨.bl _,H,I.kept (λb o e=>O b o (λhm=>by have:=hF e;rw[hC.mp hm] at this;exact kf this (KY _)) (gB _ e)),rfl,q⟩
end
inductive Dt where
 | non | bl (b:JY) | int (i:Int) | str (x:J9) | lst (xs:f' Dt) | tup (xs:f' Dt)
inductive Rep (K:bp) (H:Hp):V->Dt->Prop where
 | non:Rep K H .non .non
 | bl (b:JY):Rep K H (.bl b) (.bl b)
 | int (i:Int):Rep K H (.int i) (.int i)
 | str (x:J9):Rep K H (.str x) (.str x)
 | lst {p:fy} {xs:f' V} {ds:f' Dt} (h:SqL K H p xs) (l:xs.length=ds.length) (r:∀(i:Nat) x d,xs[i]? =ak x->ds[i]? =ak d->Rep K H x d):Rep K H (.ref p) (.lst ds)
 | tup {p:fy} {xs:f' V} {ds:f' Dt} (h:SqT K H p xs) (l:xs.length=ds.length) (r:∀(i:Nat) x d,xs[i]? =ak x->ds[i]? =ak d->Rep K H x d):Rep K H (.ref p) (.tup ds)
theorem Same.tup {K:bp} {H H':Hp} {a:fy} {xs:f' V} (e:Same H H') (h:SqT K H a xs):SqT K H' a xs:=by
 rcases h with (h | ⟨o,h⟩) | h
 ·exact .inl (.inl (e _ _ h))
 ·exact .inl (.inr ⟨o,e _ _ h⟩)
 ·exact .inr h
mutual
noncomputable def eqD:Dt->Dt->JY
 | .non,.non=>true
 | .bl a,.bl b=>a == b
 | .bl a,.int b=>(if a then 1 else 0) == b
 | .int a,.bl b=>a == (if b then 1 else 0)
 | .int a,.int b=>a == b
 | .str a,.str b=>a == b
 | .lst xs,.lst ys=>eqDs xs ys
 | .tup xs,.tup ys=>eqDs xs ys
 | _,_=>false
noncomputable def eqDs:f' Dt->f' Dt->JY
 | [],[]=>true
 | x::xs,y::ys=>eqD x y&&eqDs xs ys
 | _,_=>false
end
mutual
noncomputable def depD:Dt->Nat
 | .lst xs=>Gg xs + 1
 | .tup xs=>Gg xs + 1
 | _=>0
noncomputable def Gg:f' Dt->Nat
 | []=>0
 | x::xs=>max (depD x) (Gg xs)
end
inductive yU:St->Nat->sh V->St->Prop where
 | z {a v:sh V} {l:St}:yU (a::l) 0 v (v::l)
 | s {a v:sh V} {l l':St} {i:Nat}:yU l i v l'->yU (a::l) (i + 1) v (a::l')
theorem yU.eq {l O:St} {i:Nat} {v:sh V} (h:yU l i v O):l.set i v=O:=by
 induction h with
 | z=>rfl
 | s _ ih=>rw[List.set_cons_succ,ih]
inductive yV:St->Nat->V->Prop where
 | z {v:V} {l:St}:yV (ak v::l) 0 v
 | s {a:sh V} {v:V} {l:St} {i:Nat}:yV l i v->yV (a::l) (i + 1) v
theorem yV.eq {l:St} {i:Nat} {v:V} (h:yV l i v):l[i]? =ak (ak v):=by
 induction h with
 | z=>rfl
 | s _ ih=>rw[Pn];exact ih
section
variable {σ σ':St} {H:Hp} {Q:VK} {D:Ends} {ta tb tc te:TE} {t u:TS} {tt tt':TT} {r r':R2} {x y v:V}
theorem aB {N:C'} {vs:f' V} {t:TS} (e:start N vs=σ') (h:t D σ' H):t D (start N vs) H:=by rw[e];exact h
theorem Jh {i:Nat} (e:yV σ i v) (h:Q v H):tVar i σ H Q:=⟨v,e.eq,h⟩
theorem s_rI {C:Int->Int->Prop} {g:Int->Int->V} {i j:Int} (c:C i j) (h:Q (g i j) H):rI C g (.int i) (.int j) H Q:=⟨i,j,rfl,rfl,c,h⟩
theorem Jm {g:Int->Int->V} {i j:Int} (h:Q (g i j) H):rI0 g (.int i) (.int j) H Q:=⟨i,j,rfl,rfl,h⟩
theorem Jn (e:scal x y=true) (h:Q (.bl (decide (x=y))) H):rEq x y H Q:=⟨e,h⟩
theorem Jl (e:scal x y=true) (h:Q (.bl (!decide (x=y))) H):rNe x y H Q:=⟨e,h⟩
theorem G1 (h:D.nx σ H):GI D σ H:=h
theorem Jk (h:t {D with nx:=u D} σ H):tSeq t u D σ H:=h
theorem Fq {i:Nat} {Q:St->Hp->Prop} (e:yU σ i (ak v) σ') (h:Q σ' H):A5 i v σ H Q:=by show Q (σ.set i (ak v)) H;rw[e.eq];exact h
theorem Hd {Q:St->Hp->Prop} (h:Q σ H):gNil [] σ H Q:=⟨rfl,h⟩
theorem Fs {g:TG} {β:TGs} {vs:f' V} {Q:St->Hp->Prop} (h:g v σ H fun σ' H'=>β vs σ' H' Q):Ga g β (v::vs) σ H Q:=⟨v,vs,rfl,h⟩
theorem Hc {K:bp} {n:Nat} {β:TGs} {p:fy} {xs:f' V} {Q:St->Hp->Prop} (e:SqT K H p xs) (l:xs.length=n) (h:β xs σ H Q):gTup K n β (.ref p) σ H Q:=⟨p,xs,rfl,e,l,h⟩
def NewT (Q:VK) (xs:f' V) (H:Hp):Prop:=xs.length<=qb/\∀p,H p=none->Q (.ref p) (upd H p (.tup xs))
def NewL (Q:VK) (xs:f' V) (H:Hp):Prop:=xs.length<=qb/\∀p,H p=none->Q (.ref p) (upd H p (.lst xs))
theorem Ji {tr:TA} (h:tr σ H (NewT Q)):tTup tr σ H Q:=h
theorem Jp {tr:TA} (h:tr σ H (NewL Q)):tLst tr σ H Q:=h
theorem eT {H:Hp} {D:fy} {o:HO} (h:H D=none):Same H (upd H D o):=λb u e=>by rw[aV (aw e h)];exact e
theorem i5 {o:HO} (h:∀p H2,H p=none->Same H H2->H2 p=ak o->Q (.ref p) H2):∀p,H p=none->Q (.ref p) (upd H p o):=λp O=>h p _ O (eT O) bg
theorem Same.get {H H':Hp} (e:Same H H') {b:fy} {o:HO} (h:H b=ak o):H' b=ak o:=e b o h
theorem G2 {xs:f' V} (l:xs.length<=qb) (h:∀p H2,H p=none->Same H H2->H2 p=ak (.tup xs)->Q (.ref p) H2):NewT Q xs H:=⟨l,i5 h⟩
theorem G3 {xs:f' V} (l:xs.length<=qb) (h:∀p H2,H p=none->Same H H2->H2 p=ak (.lst xs)->Q (.ref p) H2):NewL Q xs H:=⟨l,i5 h⟩
theorem Fw {sp:Sp} {E:XK} {tr:TA} (h:tr σ H λvs H1=>sp vs H1 Q E):B3 sp [] E tr σ H Q:=by unfold B3;simp only[Kp];exact h
theorem Jj {K:bp} {p:fy} {xs:f' V} {lo hi:sh Int} (e:SqL K H p xs) (h:∀q H2,H q=none->Same H H2->H2 q=ak (.lst (cutV xs lo hi))->Q (.ref q) H2):rSlL K (.ref p) lo hi H Q:=⟨p,xs,rfl,e,i5 h⟩
theorem ue {K:bp} {p:fy} {xs:f' V} {i:Int} (e:SqL K H p xs) (a:atI xs i=ak v) (h:Q v H):rIxL K (.ref p) (.int i) H Q:=⟨p,xs,i,v,rfl,rfl,e,a,h⟩
theorem Jq {K:bp} {p:fy} {xs:f' V} {i:Int} (e:SqT K H p xs) (a:atI xs i=ak v) (h:Q v H):rIxT K (.ref p) (.int i) H Q:=⟨p,xs,i,v,rfl,rfl,e,a,h⟩
theorem AF {n:Nat} (h:n<=1000):n<=sizeLine:=KA (c4 h)
theorem s_ty {K:bp} {T:Kr} {A:Prop} (e:tyV K T x H) (h:A):tyV K T x H/\A:=⟨e,h⟩
theorem Hk {i:Int} (h:Q (.int (vl i:Nat)) H):Ht (.int i) [] H Q:=⟨i,rfl,rfl,h⟩
theorem G7 {K:bp} {p:fy} {xs:f' V} (e:SqL K H p xs) (h:Q (.int xs.length) H):rLen K [.ref p] H Q:=⟨_,_,rfl,.inl ⟨xs,e,rfl⟩,h⟩
theorem G6 {K:bp} {p:fy} {xs:f' V} (e:SqT K H p xs) (h:Q (.int xs.length) H):rLen K [.ref p] H Q:=⟨_,_,rfl,.inr ⟨xs,e,rfl⟩,h⟩
theorem Jr {K:bp} {T k:Kr} (e:jD K H x k) (m:T∈["int","bool","str","list","tuple","dict"]) (h:Q (.bl (subB k T)) H):rIsi K [x,.ty T] H Q:=⟨x,k,T,rfl,e,m,h⟩
theorem Hg (h:∀p H2,H p=none->Same H H2->H2 p=ak (.dK [])->Q (.ref p) H2):DX σ H Q:=i5 h
theorem Js {O:TI} {g:TG} {tb:TS} (h:O σ H λJ H1=>∃W:Nat->Nat->St->Hp->Prop,(∃m,W 0 m σ H1)/\∀i m σ H,W i m σ H->(J.stop i H/\D.nx σ H)∨(J.go i H/\∃N:St->Hp->Prop,(∀σ' H',N σ' H'->∃m',m' < m/\W (i + 1) m' σ' H')/\∀x H',J.yld i H x H'->g x σ H' fun ν H2=>tb {D with nx:=N,ct:=N,bk:=D.nx} ν H2)):tFor O g tb D σ H:=h
theorem Jg {Q:JY->Hp->Prop} (h:Q true H):tYes σ H Q:=h
theorem GY {A B:Prop} (h:A):if true=true then A else B:=by rw[pT rfl];exact h
theorem Ft {A B:Prop} (h:B):if false=true then A else B:=by rw[oT kv];exact h
theorem zU {c:JY} {A B:Prop} (e:c=true) (h:A):if c=true then A else B:=by rw[pT e];exact h
theorem vD {c:JY} {A B:Prop} (e:c=false) (h:B):if c=true then A else B:=by rw[e,oT kv];exact h
theorem Hj {n:Nat} {fx:D8} {Y:TI} {g:TG} (h:Y σ H λJ H1=>∀D,H1 D=none->
 ∃W:Nat->Nat->f' V->Hp->Prop,(∃m,W 0 m [] (upd H1 D (.lst [])))/\∀i m ys H2,W i m ys H2->(J.stop i H2/\Q (.ref D) H2)∨
   (J.go i H2/\∃N:f' V->Hp->Prop,(∀O H',N O H'->∃β,β < m/\W (i + 1) β O H')/\∀x ε,J.yld i H2 x ε->g x (dI n fx σ) ε fun α Z=>tt α Z λb δ=>
    if b=true then te α δ λv γ=>γ D=ak (.lst ys)/\ys.length < qb/\N (ys++[v]) (upd γ D (.lst (ys++[v]))) else N ys δ)):B2 n fx Y g tt te σ H Q:=h
theorem Hl {K:bp} {p:fy} {bs:f' JY} (e:SqL K H p (bs.map V.bl)) (h:Q (.bl (bs.all id)) H):Hu K [.ref p] H Q:=⟨p,bs,rfl,e,h⟩
theorem Ck {j:Int} {A:Prop} (h1: -(2 ^ 62)<=j) (h2:j < 2 ^ 62) (h:A): -(2 ^ 62)<=j/\j < 2 ^ 62/\A:=⟨h1,h2,h⟩
end
noncomputable def tCut (t u:TS):TS:=λD σ H=>∃P:St->Hp->Prop,t {D with nx:=P} σ H/\∀σ' H',P σ' H'->u D σ' H'
theorem vF {X:Cx} {st:Mp} {rest:f' Mp} {t u:TS} (h1:PS X st t) (h2:PSs X rest u):PSs X (st::rest) (tCut t u):=by
 intro pins s σ H D I ⟨P,a,b⟩;refine P1 (thn (h1 pins s σ H {D with nx:=P} I a) λf Y q=>?_);cases f with
 | next=>obtain⟨O,H1,α,Z⟩:=q;exact h2 pins Y O H1 D α (b O H1 Z)
 | brk=>exact q
 | cont=>exact q
 | ret v=>exact q
theorem Cj {t u:TS} {D:Ends} {σ:St} {H:Hp} (P:St->Hp->Prop) (h:t {D with nx:=P} σ H) (k:∀σ' H',P σ' H'->u D σ' H'):tCut t u D σ H:=⟨P,h,k⟩
section
variable {K:bp} {n:Nat} {fx:D8} {g:TG} {tc:TT} {te:TE} {σ:St} {H1:Hp} {D:fy} {Q:Hp->Prop}
structure Cs (Pv:Nat->f' V->Prop) (H1:Hp) (D:fy) (i:Nat) (ys:f' V) (H:Hp):Prop where
 pv:Pv i ys
 same:Same H1 H
 at':H D=ak (.lst ys)
 len:ys.length<=i
theorem Cs.put {Y:Nat->f' V->Prop} {i:Nat} {ys:f' V} {v:V} {O:Hp} (f:H1 D=none) (s:Same H1 O) (e:O D=ak (.lst ys)) (l:ys.length<=i) (hi:i < 16777216) (p:Y (i + 1) (ys++[v])):
  O D=ak (.lst ys)/\ys.length < qb/\Cs Y H1 D (i + 1) (ys++[v]) (upd O D (.lst (ys++[v]))):=
 ⟨e,by rw[ri];omega,p,λb o h=>by rw[aV (aw h f)];exact s b o h,bg,by rw[gw];simpa using l⟩
theorem Cs.skip {Y:Nat->f' V->Prop} {i:Nat} {ys:f' V} {O:Hp} (s:Same H1 O) (e:O D=ak (.lst ys)) (l:ys.length<=i) (p:Y (i + 1) ys):Cs Y H1 D (i + 1) ys O:=⟨p,s,e,@A⟩
theorem Cs.zero {O:Nat->f' V->Prop} (f:H1 D=none) (p:O 0 []):Cs O H1 D 0 [] (upd H1 D (.lst [])):=⟨p,eT f,bg,ru _⟩
end
structure JR (K:bp) (C:fy) (m:J9) (f:fy):Prop where
 ga:LO K (.ref C) "__getattribute__"=ak (ak (.builtin "type.__getattribute__"))
 rd:Q6 K C (.type "type")=true
 fd:Q8 K (.ref C) (.type "type") m=ak (.val (.ref f))
 hd:Oc (.ref f)=true
 kp:Ku K (.ref f)=true
structure Gv (K:bp) (D:fy):Prop where
 cls:Cls K D
 ha:z0 K (.ref D) "__class__"=ak (ak (.builtin "object.__class__"))
 hn:LO K (.builtin "object.__class__") "__get__"=ak (ak (.builtin "getset_descriptor.__get__"))
 tk:Oq K (.builtin "object.__class__")=ak true
 hm:KH K D (.type "object")=ak true
theorem Ig {K:bp} {C D:fy} {b:JY} (h1:Nf K D=true) (h2:OG K (.ref D)=ak (.type "type")) (O:KH K C (.ref D)=ak b) (ρ:KH K D (.ref D)=ak true):Nx K (.ref C) (.ref D)=ak b:=by
 unfold Nx;by_cases e:C=D
 ·subst e;rw[ρ] at O;cases O;rw[pT (Ky _)]
 ·rw[oT (λz=>e (by have:=eq_of_beq z;injection this))];unfold PySem.W.kitCls;dsimp only;rw[pT (by unfold Nf at h1;rw[h1,h2];rfl)];exact O
noncomputable def Hs (K:bp):f' V->Hp->VK->Prop:=λxs H Q=>∃p C dx fs D b,xs=[.ref p,.ref D]/\H p=ak (.ins C dx fs)/\Gv K C/\Nx K (.ref C) (.ref D)=ak b/\Q (.bl b) H
section
variable {X:Cx} {K:bp}
theorem yK (h:X.K=K):kU X (.builtin "isinstance") (Hs K):=by
 subst h;intro pins s σ H xs us Q I r h;obtain⟨p,C,dx,fs,D,b,rfl,Z,c,hk,q⟩:=h;obtain⟨u,v,rfl,Y,rt⟩:=EW r;cases Y;cases rt;obtain⟨mA,O,_,_,_,_⟩:=sP I.hok Z;obtain⟨od,L,_⟩:=O.look;exact PySem.W.kia_one (PySem.W.kitx_own (c.cls.get "__class__") c.cls.hd c.ha c.hn c.tk c.hm) I.kIn L hk (λz=>nomatch z) λtk=>⟨.bl b,H,I.tok tk,rfl,q⟩
theorem bb {e:z8} {ta:TE} {f:J9} {pos:Pos} (h:X.K=K) (he:PE X e ta) (hb:attributeBase e f X.env (eval e X.env)=eval e X.env):PE X (.Attribute e f pos) (tFld K ta f):=by subst h;exact HL he hb
theorem mw {o value:z8} {ta tv:TE} {f:J9} {pos pos':Pos} (h:X.K=K) (ha:PE X o ta) (O:PE X value tv) (hs:swapsWith value (ak (.Attribute o f pos')) pos.line X.env=pure false):PS X (.Assign [.Attribute o f pos'] value pos) (sFld K ta tv f):=by subst h;exact Hv ha O hs
end
section
variable {σ:St} {H:Hp} {Q:VK} {D:Ends} {te tv ta:TE} {x y v:V}
theorem G8 {K:bp} {p C dx O:fy} {fs:f' (J9×V)} {b:JY} (e:H p=ak (.ins C dx fs)) (c:Gv K C) (k:Nx K (.ref C) (.ref O)=ak b) (h:Q (.bl b) H):Hs K [.ref p,.ref O] H Q:=⟨p,C,dx,fs,O,b,rfl,e,c,k,h⟩
def IP (K:bp) (f:J9) (Q:VK) (x:V) (H:Hp):Prop:=∃a C dx fs v,x= .ref a/\H a=ak (.ins C dx fs)/\Cls K C/\gI K C f/\fs.lookup f=ak v/\Q v H
theorem Jt {K:bp} {f:J9} (h:te σ H (IP K f Q)):tFld K te f σ H Q:=h
theorem a9 {K:bp} {f:J9} {p C dx:fy} {fs:f' (J9×V)} (e:H p=ak (.ins C dx fs)) (c:Cls K C) (n:gI K C f) (l:fs.lookup f=ak v) (h:Q v H):IP K f Q (.ref p) H:=⟨p,C,dx,fs,v,rfl,e,c,n,l,h⟩
structure Upd (H H':Hp) (p:fy) (o:HO):Prop where
 at':H' p=ak o
 oth:∀b u,b≠p->H b=ak u->H' b=ak u
 non:∀b,b≠p->H b=none->H' b=none
theorem Upd.of {H:Hp} {p:fy} {o:HO}:Upd H (upd H p o) p o:=⟨bg,λb u n h=>by rw[aV n];exact h,λb n h=>by rw[aV n];exact h⟩
def IM (K:bp) (f:J9) (y:V) (D:Ends) (σ:St) (x:V) (H:Hp):Prop:=∃a C dx fs,x= .ref a/\H a=ak (.ins C dx fs)/\Cls K C/\gI K C f/\fs.length < 1000/\D.nx σ (upd H a (.ins C dx (putF f y fs)))
theorem Cf {K:bp} {f:J9} (h:tv σ H λy H1=>te σ H1 (IM K f y D σ)):sFld K te tv f D σ H:=h
theorem mj {K:bp} {f:J9} {p C dx:fy} {fs fs':f' (J9×V)} (e:H p=ak (.ins C dx fs)) (c:Cls K C) (n:gI K C f) (l:fs.length < 1000) (Z:putF f y fs=fs') (h:∀H2,Upd H H2 p (.ins C dx fs')->D.nx σ H2):
  IM K f y D σ (.ref p) H:=⟨p,C,dx,fs,rfl,e,c,n,l,by rw[Z];exact h _ Upd.of⟩
def EE (C:fy) (sp:Sp) (E:XK) (Q:VK) (vs:f' V) (H:Hp):Prop:=∀x dx,H x=none->H dx=none->dx≠x->sp (.ref x::(vs++[])) (upd (upd H dx (.own x)) x (.ins C dx [])) (λv H2=>v= .non/\Q (.ref x) H2) E
theorem G5 {C:fy} {sp:Sp} {E:XK} {tr:TA} (h:tr σ H (EE C sp E Q)):GJ C sp [] E tr σ H Q:=h
theorem Ci {C:fy} {sp:Sp} {E:XK} {vs:f' V} (h:∀x dx H2,H x=none->Same H H2->H2 x=ak (.ins C dx [])->sp (.ref x::vs) H2 (λv H2=>v= .non/\Q (.ref x) H2) E):EE C sp E Q vs H:=by
 intro x dx O Y n;rw[Kp];exact h x dx _ O (λb o e=>by rw[aV (aw e O),aV (aw e Y)];exact e) bg
theorem Upd.same {α H2:Hp} {p:fy} {o:HO} (u:Upd H H2 p o) (f:α p=none) (s:Same α H):Same α H2:=λb q e=>u.oth b q (aw e f) (s b q e)
end
theorem Inv.laidCh {X:Cx} {pins:Dc} {σ:St} {H:Hp} {s:ib} {h':z1} {a:fy} {o:HO} {t':Nat} {ch:I4} (I:Inv X pins σ H s) (k:∀b u,b∉ch->s.heap.get? b=ak u->h'.get? b=ak u) (Z:s.heap.objs.size<=a)
  (new:fV X.prog X.w (upd H a o) h' a o) (fp:∀b∈ch,FpOk X pins H b):Inv X pins σ (upd H a o) {s with heap:=h',toks:=t'}:=by
 have fr:H a=none:=I.hok.fresh Z;have Y:∀b u,H b=ak u->b∉ch:=λb u e z=>by rw[(fp b z).1] at e;cases e
 refine I.step (g':=s.gens) (d':=s.drawn) (ch:=ch) (λb hb=>?_) (λb ob _ _ O e _=>k b ob O e) (λb ob _ _ O e _=>⟨ob.slots,k b ob O e⟩) (λb ob _ e n=>?_) (λb ob O e=>⟨ob,k b ob O e⟩)
  (λb xs e=>by rw[aV (aw e fr)];exact e) (λb ob u e=>by rw[aV (aw e fr)];exact e) (λb ps e=>⟨#[],by rw[aV (aw e fr),e];simp⟩) (λm hm=>?_) (λb u e=>?_) I.bare
 ·obtain⟨θ,γ,δ,υ,β,α⟩:=fp b hb;exact⟨υ,γ,β,α⟩
 ·rw[aV (JU (fb (hF e) Z))];exact n
 ·obtain⟨ob,es,ep,ho,r⟩:=hm;exact⟨ob,es,ep,k _ ob (λz=>(fp _ z).2.1 rfl) ho,r⟩
 ·by_cases hb:b=a
  ·subst hb;rw[bg] at e;cases e;exact new
  ·rw[aV hb] at e;refine(I.hok b u e).stay (λc v O q=>k c v ?_ q) (λc q=>by rw[aV (aw q fr)];exact q) λc xs q=>by rw[aV (aw q fr)];exact q
   rcases O with z | z
   ·rw[z];exact Y b u e
   ·exact Y c _ z
theorem Inv.turnedCh {X:Cx} {pins:Dc} {σ:St} {H:Hp} {s:ib} {h':z1} {t':Nat} {ch:I4} (I:Inv X pins σ H s) (k:∀b u,b∉ch->s.heap.get? b=ak u->h'.get? b=ak u)
  (fp:∀b∈ch,FpOk X pins H b):Inv X pins σ H {s with heap:=h',toks:=t'}:=by
 have Y:∀b u,H b=ak u->b∉ch:=λb u e z=>by rw[(fp b z).1] at e;cases e
 refine I.step (g':=s.gens) (d':=s.drawn) (ch:=ch) (λb hb=>?_) (λb ob _ _ O e _=>k b ob O e) (λb ob _ _ O e _=>⟨ob.slots,k b ob O e⟩) (λb ob _ e n=>n) (λb ob O e=>⟨ob,k b ob O e⟩)
  (λb xs e=>e) (λb ob u e=>e) (λb ps e=>⟨#[],by rw[e];simp⟩) (λm hm=>?_) (λb u e=>?_) I.bare
 ·obtain⟨θ,β,γ,υ,α,Z⟩:=fp b hb;exact⟨υ,β,α,Z⟩
 ·obtain⟨ob,es,ep,ho,r⟩:=hm;exact⟨ob,es,ep,k _ ob (λz=>(fp _ z).2.1 rfl) ho,r⟩
 ·refine(I.hok b u e).stay (λc v O q=>k c v ?_ q) (λc q=>q) λc xs q=>q;rcases O with z | z
  ·rw[z];exact Y b u e
  ·exact Y c _ z
noncomputable def Ite (K:bp) (a:fy):It:=
 ⟨λi H=>∃xs x,SqL K H a xs/\xs[i]? =ak x,λi H x H'=>∃p v,H p=none/\x= .ref p/\H'=upd H p (.tup [.int i,v])/\∀xs,SqL K H a xs->xs[i]? =ak v,λi H=>∃xs,SqL K H a xs/\xs.length=i⟩
noncomputable def Itz (x:J9):It:=⟨λi _=>i < x.cps.size,λi H v H'=>∃p c,H p=none/\v= .ref p/\H'=upd H p (.tup [.int i,.str ⟨#[c]⟩])/\x.cps[i]? =ak c,λi _=>i=x.cps.size⟩
theorem wH:(2:Nat)<=sizeLine:=by rw[ri];decide
theorem qT {P:qc} {w:u7} {K:bp} {ε:f' z8} {k:Nat} {pos:Pos} (a e it:fy) (υ:e≠it):
  Turn P w K (.Tuple ε k pos) (Ite K a) [e,it] e (λi h=>(∃Z,IsEnum h e it i Z)/\h.IsListIter it a i) where
 mem:=by simp
 obj:=λi h st b hb=>by
  obtain⟨⟨Z,he⟩,⟨o,ho,ρ,hd⟩⟩:=st;rcases rz.mp hb with z | z
  ·subst z;exact⟨_,he,λv z=>by cases z⟩
  ·rw[hC.mp z];exact⟨o,ho,λv z=>by rw[hd] at z;cases z⟩
 keep:=λi h h' st k=>⟨let ⟨Z,he⟩:=st.1;⟨Z,k e @F _ he⟩,st.2.at λo z=>k it @F o z⟩
 item:=by
  intro X hP hw hK ρ i pins s σ H E I hf st ω;subst hP hw hK;obtain⟨xs,x,π,ξ⟩:=ω;obtain⟨its,ι,p,hz⟩:=I.list π;obtain⟨⟨Z,he⟩,hl⟩:=st
  have ζ:a≠it:=λz=>by
   obtain⟨o,ho,τ,_⟩:=hl;obtain⟨o',n,Y,O,_⟩:=p;rw[z,ho] at Y;cases Y;rw[τ] at O;exact kf O @C
  have η:a≠e:=λz=>by
   obtain⟨o',n,Y,O,_⟩:=p;rw[z,he] at Y;cases Y;exact kf (show Md "enumerate"= .type "list" from O) @C
  have W:=LP (prog:=X.prog) (w:=X.w) (A:=X.A) (Draws.list (A:=X.A.in1) (I.ok.hd ρ) it a ζ its.toArray) e υ (by simp[υ,Lf η]) @F;have hi:i < its.toArray.size:=by have:=ι.length;have:=(dt.mp ξ).1;simp;omega
  refine W.item i s _ _ hi ⟨⟨Z,he⟩,hl,p.isList⟩ λT β h' tk a3 hT φ δ hk=>⟨_,rfl,W.go ε k pos i T _ _ _ δ λa4 ο θ=>?_⟩;obtain⟨t,χ,ψ,rfl⟩:=a3;have a0:=W.apart i T h' δ
  have ν:RelV x χ:=by
   obtain⟨u,hu,r⟩:=ι.get ξ;have α:its[i]? =ak χ:=by simpa using ψ
   rw[hu] at α;cases α;exact r
  have kk:∀b u,b∉[e,it]->s.heap.get? b=ak u->a4.get? b=ak u:=λb u hb q=>θ b u hb (hk b u hb q);have fr:H T=none:=I.hok.fresh hT;refine⟨.ref T,upd H T (.tup [.int i,x]),I.laidCh (t':=tk) kk hT ⟨wH,[.int i t,χ],.cons ⟨t,rfl⟩ (.cons ν .nil),?_⟩ hf,rfl,⟨T,x,fr,rfl,rfl,λys hy=>by rw[I.list_inj hy π];exact ξ⟩,⟨ο.1,ο.2.1⟩,λb hb=>?_⟩
  ·obtain⟨o,ho,r⟩:=φ;exact⟨o,θ T o a0 ho,r⟩
  ·have γ:=(hf b hb);rw[aV (λz=>?_)]
   ·exact γ.1
   ·have lt:b < s.heap.objs.size:=by
     rcases rz.mp hb with z | z
     ·subst z;exact hF he
     ·rw[hC.mp z];obtain⟨o,ho,_⟩:=hl;exact hF ho
    rw[z] at lt;exact kf (fb lt hT) (KY _)
 done:=by
  intro X hP hw hK ρ i pins s σ H E I hf st ω;subst hP hw hK;obtain⟨xs,π,ξ⟩:=ω;obtain⟨its,ι,p,hz⟩:=I.list π;obtain⟨⟨Z,he⟩,hl⟩:=st
  have ζ:a≠it:=λz=>by
   obtain⟨o,ho,τ,_⟩:=hl;obtain⟨o',n,Y,O,_⟩:=p;rw[z,ho] at Y;cases Y;rw[τ] at O;exact kf O @C
  have η:a≠e:=λz=>by
   obtain⟨o',n,Y,O,_⟩:=p;rw[z,he] at Y;cases Y;exact kf (show Md "enumerate"= .type "list" from O) @C
  have W:=LP (prog:=X.prog) (w:=X.w) (A:=X.A) (Draws.list (A:=X.A.in1) (I.ok.hd ρ) it a ζ its.toArray) e υ (by simp[υ,Lf η]) @F;have hn:its.toArray.size=i:=by have:=ι.length;simp;omega
  subst hn;exact W.done s _ _ ⟨⟨Z,he⟩,hl,p.isList⟩ λh' tk hk=>⟨rfl,I.turnedCh hk hf⟩
 self:=λ_ _ _ _ _ st h=>let ⟨_,he⟩:=st.1;Lw he h
theorem xT {P:qc} {w:u7} {K:bp} {Z:f' z8} {k:Nat} {pos:Pos} {x:J9} {t:Tok} {n:Kr} (e it:fy) (υ:e≠it)
  (D:∀A:z3,A.handled=none->Draws P w A it [it] x.cps.size (λi v=>∃c u,x.cps[i]? =ak c/\v= .str ⟨#[c]⟩ u) (λi h=>h.IsStrIter it n x t i)):
  Turn P w K (.Tuple Z k pos) (Itz x) [e,it] e (λi h=>(∃O,IsEnum h e it i O)/\h.IsStrIter it n x t i) where
 mem:=by simp
 obj:=λi h st b hb=>by
  obtain⟨⟨O,he⟩,⟨o,ho,ε,hd⟩⟩:=st;rcases rz.mp hb with z | z
  ·subst z;exact⟨_,he,λv z=>by cases z⟩
  ·rw[hC.mp z];exact⟨o,ho,λv z=>by rw[hd] at z;cases z⟩
 keep:=λi h h' st k=>⟨let ⟨O,he⟩:=st.1;⟨O,k e @F _ he⟩,let ⟨o,ho,r⟩:=st.2;⟨o,k it @F o ho,r⟩⟩
 item:=by
  intro X ι hw ξ ε i pins s σ H E I hf st δ;subst ι hw ξ;obtain⟨⟨O,he⟩,hl⟩:=st;have W:=LP (prog:=X.prog) (w:=X.w) (A:=X.A) (D X.A.in1 (I.ok.hd ε)) e υ (by simp[υ]) @F;refine W.item i s _ _ δ ⟨⟨O,he⟩,hl⟩ λT β h' tk θ hT φ Y hk=>⟨_,rfl,W.go Z k pos i T _ _ _ Y fun π ο α=>?_⟩;obtain⟨ρ,τ,⟨c,u,ζ,rfl⟩,rfl⟩:=θ;have η:=W.apart i T h' Y;have ν:∀b u,b∉[e,it]->s.heap.get? b=ak u->π.get? b=ak u:=λb u hb q=>α b u hb (hk b u hb q);have fr:H T=none:=I.hok.fresh hT;refine⟨.ref T,upd H T (.tup [.int i,.str ⟨#[c]⟩]),I.laidCh (t':=tk) ν hT ⟨wH,[.int i ρ,.str ⟨#[c]⟩ u],.cons ⟨ρ,rfl⟩ (.cons ⟨u,rfl⟩ .nil),?_⟩ hf,rfl,⟨T,c,fr,rfl,rfl,ζ⟩,⟨ο.1,ο.2⟩,λb hb=>?_⟩
  ·obtain⟨o,ho,r⟩:=φ;exact⟨o,α T o η ho,r⟩
  ·have γ:=(hf b hb);rw[aV (λz=>?_)]
   ·exact γ.1
   ·have lt:b < s.heap.objs.size:=by
     rcases rz.mp hb with z | z
     ·subst z;exact hF he
     ·rw[hC.mp z];obtain⟨o,ho,_⟩:=hl;exact hF ho
    rw[z] at lt;exact kf (fb lt hT) (KY _)
 done:=by
  intro X ι hw ξ ε i pins s σ H E I hf st δ;subst ι hw ξ;obtain⟨⟨O,he⟩,hl⟩:=st;have W:=LP (prog:=X.prog) (w:=X.w) (A:=X.A) (D X.A.in1 (I.ok.hd ε)) e υ (by simp[υ]) @F;have δ:i=x.cps.size:=δ;subst δ;exact W.done s _ _ ⟨⟨O,he⟩,hl⟩ λh' tk hk=>⟨rfl,I.turnedCh hk hf⟩
 self:=λ_ _ _ _ _ st h=>let ⟨_,he⟩:=st.1;Lw he h
noncomputable def Ip (K:bp) (tl:TE):TI:=fun σ H R=>tl σ H λx H1=>(∃a,x= .ref a/\(∃xs,SqL K H1 a xs)/\R (Ite K a) H1)∨∃z,x= .str z/\R (Itz z) H1
section
variable {X:Cx} {K:bp}
theorem kM {l:z8} {tl:TE} {α:f' z8} {k:Nat} {tpos p pos:Pos} (h:X.K=K) (ζ:Gl X "enumerate") (hm:X.mg "enumerate"=none) (hl:PE X l tl) (hs:qQ [l] X.env=[(false,eval l X.env)]:=by rfl):
  PI X (.Tuple α k tpos) (.Call (.Name "enumerate" p) [l] [] pos) (Ip K tl):=by
 subst h;intro pins s σ H R I h;refine QA (jP I ζ hm boot_enumerate (JX (thn (aa hl af hs pos pins s σ H (λvs H1=>match vs with | [x]=>(∃a,x= .ref a/\(∃xs,SqL X.K H1 a xs)/\R (Ite X.K a) H1)∨∃z,x= .str z/\R (Itz z) H1 | _=>False) I h) λus O ⟨vs,H1,I1,β,γ⟩=>?_) hs rfl))
 match vs,β,γ with
 | [x],β,γ=>
 obtain⟨u,rfl,ν⟩:=β.one;rcases γ with ⟨a,rfl,⟨xs,ε⟩,q⟩ | ⟨z,rfl,q⟩
 ·cases ν;obtain⟨its,ι,pl,hz⟩:=I1.list ε;refine QP pl.isList λh' he Y hsz hk=>Lw he ?_;refine⟨O.heap.objs.size + 1,[O.heap.objs.size + 1,O.heap.objs.size],_,_,H1,rfl,I1.kept (t':=O.toks) hk,qT a _ _ (LB (L1 _)),⟨⟨_,he⟩,Y⟩,λb hb=>?_,q⟩;have Z:O.heap.objs.size<=b:=(rz.mp hb).elim (λz=>by rw[z];exact NB _) (λz=>by rw[hC.mp z];exact ru _);exact I1.fpOk Z (I1.hok.fresh Z)
 ·obtain⟨t,rfl⟩:=ν;refine call_enumerate_str λh' he Y hsz hk=>Lw he ?_
  have fin:∀n,(h'.IsStrIter O.heap.objs.size n z t 0)->(∀A:z3,A.handled=none->Draws X.prog X.w A O.heap.objs.size [O.heap.objs.size] z.cps.size (λi v=>∃c u,z.cps[i]? =ak c/\v= .str ⟨#[c]⟩ u) (λi h=>h.IsStrIter O.heap.objs.size n z t i))->
    PIE X pins σ (.Tuple α k tpos) R (.ref (O.heap.objs.size + 1)) {O with heap:=h'}:=λn hn D=>by
   refine⟨O.heap.objs.size + 1,[O.heap.objs.size + 1,O.heap.objs.size],_,_,H1,rfl,I1.kept (t':=O.toks) hk,xT _ _ (LB (L1 _)) D,⟨⟨_,he⟩,hn⟩,λb hb=>?_,q⟩;have Z:O.heap.objs.size<=b:=(rz.mp hb).elim (λz=>by rw[z];exact NB _) (λz=>by rw[hC.mp z];exact ru _);exact I1.fpOk Z (I1.hok.fresh Z)
  unfold strIterType at Y;split at Y
  ·exact fin _ Y λA δ=>Draws.strAscii δ _ z t
  ·exact fin _ Y λA δ=>Draws.strWide δ _ z t
end
theorem je {K:bp} {a:fy} {xs:f' V} {g:TG} {tb:TS} {D:Ends} {σ:St} {H:Hp} (O:Nat->St->Hp->Prop) (h0:O 0 σ H) (hl:∀i σ H,i<=xs.length->O i σ H->SqL K H a xs)
  (hs:∀i x σ H p H',xs[i]? =ak x->O i σ H->H p=none->Same H H'->H' p=ak (.tup [.int i,x])->g (.ref p) σ H' fun ν H2=>tb {D with nx:=O (i + 1),ct:=O (i + 1),bk:=D.nx} ν H2) (hd:∀σ H,O xs.length σ H->D.nx σ H):
  ∃W:Nat->Nat->St->Hp->Prop,(∃m,W 0 m σ H)/\∀i m σ H,W i m σ H->
    ((Ite K a).stop i H/\D.nx σ H)∨((Ite K a).go i H/\∃N:St->Hp->Prop,(∀σ' H',N σ' H'->∃Z,Z < m/\W (i + 1) Z σ' H')/\∀x H',(Ite K a).yld i H x H'->g x σ H' fun ν H2=>tb {D with nx:=N,ct:=N,bk:=D.nx} ν H2):=by
 refine⟨λi m σ H=>m=xs.length - i/\i<=xs.length/\O i σ H,⟨xs.length,@F,L0 _,h0⟩,?_⟩;rintro i m σ H ⟨rfl,hi,p⟩;have q:=hl i σ H hi p;by_cases Y:i < xs.length
 ·refine .inr ⟨⟨xs,xs[i],q,by simp[Y]⟩,O (i + 1),fun σ' H' α=>⟨xs.length - (i + 1),by omega,rfl,Y,α⟩,λx H' y=>?_⟩;obtain⟨r,v,f,γ,β,y⟩:=y;subst γ β;exact hs i v σ H r _ (y xs q) p f (eT f) bg
 ·have e:i=xs.length:=by omega
  subst e;exact .inl ⟨⟨xs,q,rfl⟩,hd σ H p⟩
section
variable {σ:St} {H:Hp} {te:TE} {R:It->Hp->Prop}
theorem oE {K:bp} (h:te σ H λx H1=>(∃a,x= .ref a/\(∃xs,SqL K H1 a xs)/\R (Ite K a) H1)∨∃z,x= .str z/\R (Itz z) H1):Ip K te σ H R:=h
end
section
variable {σ:St} {H:Hp} {Q:VK} {D:Ends} {te ty tv td:TE} {x y v:V}
theorem dU {l:fy} {xs:f' V} (e:H l=ak (.lst xs)) (hz:xs.length < qb) (h:∀H2,Upd H H2 l (.lst (xs++[y]))->Q .non H2):Ac (.ref l) [y] H Q:=⟨l,xs,y,rfl,rfl,e,hz,h _ Upd.of⟩
def EF (v:V) (x:V) (D:Ends) (σ:St) (y:V) (H:Hp):Prop:=∃a Z,x= .ref a/\DPut H a y v Z/\D.nx σ Z
theorem He (h:tv σ H λv H1=>td σ H1 λx H2=>ty σ H2 (EF v x D σ)):Hm td ty tv D σ H:=h
theorem Fu {p:fy} {kvs:f' (Key×V)} {z:Int} (e:H p=ak (.dK kvs)) (hl:kvs.length < qb) (h:∀H2,Upd H H2 p (.dK (putK kvs (Ki z) v))->D.nx σ H2):EF v (.ref p) D σ (.int z) H:=⟨p,_,rfl,DPut.k (k:=Ki z) e hl,h _ Upd.of⟩
def EH (x:V) (Q:VK) (y:V) (H:Hp):Prop:=∃a v,x= .ref a/\DGet H a y (ak v)/\Q v H
theorem Hi (h:td σ H λx H1=>ty σ H1 (EH x Q)):GK td ty σ H Q:=h
theorem zW {p:fy} {kvs:f' (Key×V)} {z:Int} (e:H p=ak (.dK kvs)) (l:valV kvs (Ki z)=ak v) (h:Q v H):EH (.ref p) Q (.int z) H:=⟨p,v,rfl,by rw[<-l];exact DGet.k (k:=Ki z) e,h⟩
def ED (C:fy) (m:J9) (sp:Sp) (E:XK) (tr:TA) (σ:St) (Q:VK) (x:V) (H:Hp):Prop:=∃a dx fs,x= .ref a/\H a=ak (.ins C dx fs)/\fs.lookup m=none/\tr σ H λvs H2=>sp (x::(vs++[])) H2 Q E
theorem G4 {C:fy} {m:J9} {sp:Sp} {E:XK} {tr:TA} (h:te σ H (ED C m sp E tr σ Q)):E2 C m sp [] E te tr σ H Q:=h
theorem cb {C dx p:fy} {m:J9} {fs:f' (J9×V)} {sp:Sp} {E:XK} {tr:TA} (e:H p=ak (.ins C dx fs)) (l:fs.lookup m=none) (h:tr σ H λvs H2=>sp (.ref p::vs) H2 Q E):ED C m sp E tr σ Q (.ref p) H:=⟨p,dx,fs,rfl,e,l,by simp only[Kp];exact h⟩
theorem Fo {K:bp} {p:fy} {xs:f' V} (e:SqL K H p xs) (h:∀q H2,H q=none->Same H H2->H2 q=ak (.lst xs)->Q (.ref q) H2):vE K [.ref p] H Q:=⟨p,xs,rfl,.inl e,i5 h⟩
theorem Fn {K:bp} {p:fy} {xs:f' V} (e:SqT K H p xs) (h:∀q H2,H q=none->Same H H2->H2 q=ak (.lst xs)->Q (.ref q) H2):vE K [.ref p] H Q:=⟨p,xs,rfl,.inr e,i5 h⟩
theorem GX {K:bp} {p:fy} {xs:f' V} (e:SqL K H p xs) (h:∀q H2,H q=none->Same H H2->H2 q=ak (.tup xs)->Q (.ref q) H2):Ec K [.ref p] H Q:=⟨p,xs,rfl,.inl ⟨e,i5 h⟩⟩
end
def Mv (ch fr:I4) (h h':z1):Prop:=(∀b o,b∉ch->b∉fr->h.get? b=ak o->h'.get? b=ak o)/\∀b o,b∉ch->b∈fr->h.get? b=ak o->∃O,h'.get? b=ak {o with slots:=O}
def BK (h:z1) (e:fy) (C:hJ) (dx:J0) (T:sh (fy×hJ)):Prop:=
 ∃O vs,h.get? e=ak O/\O.cls=C/\O.dict=dx/\O.data= .fields vs/\1 < vs.size/\
   match T with
   | none=>vs[1]? =ak .none
   | some (t,Y)=>vs[1]? =ak (.ref t)/\t≠e/\∃δ ts,h.get? t=ak δ/\δ.data= .fields ts/\ts[3]? =ak Y
section
variable {M:Model} {A:z3} {E:D9} {s:ib}
theorem uN {h:z1} {a:fy} {o:P8} {vs:G'} {i:Nat} {v:hJ} (ho:h.get? a=ak o) (hd:o.data= .fields vs):
  ∃o',(h.update a (Lq (·.setIfInBounds i v))).get? a=ak o'/\o'.cls=o.cls/\o'.dict=o.dict/\o'.data= .fields (vs.setIfInBounds i v):=by
 have O:=L8 hd (·.setIfInBounds i v);refine⟨_,KF (Lq (·.setIfInBounds i v)) ho (MG O),N8 _ _,?_,O⟩;obtain⟨c,d,Y,Z⟩:=o;have hd:Y= .fields vs:=hd;subst hd;rfl
theorem Dh {base:z1} {env:Env} {outer:f' Env} {L e:fy} {O:P8} {vs:G'} {β:hJ} {b:JY} {Q:Hy}
  (γ:A.frames=ak (env::outer)) (hl:s.heap.FunFrames base (env::outer)) (hf:env.frame=ak L) (he:s.heap.get? e=ak O) (hd:O.data= .fields vs) (hsz:1 < vs.size)
  (h:∀h',Mv [e] (frs (env::outer)) s.heap h'->BK h' e O.cls O.dict (ak (s.heap.objs.size,rawInt L))->Q () {s with heap:=h'}):
  oi M A (do let a <-frameOf env;let pl <-entryPlaceOf L b;let t <-Nr β a .none (rawInt L) .none pl;setField (.ref e) 1 t) Q E s:=by
 have ne:e∉frs (env::outer):=λhm=>by
  obtain⟨_,o,ho,α⟩:=hl.mem hm;rw[he] at ho;cases ho;exact α vs hd
 refine ew (wpAny_frameOf_fun γ hl hf λg1 Z=>?_);refine ew (wpAny_entryPlaceOf λpl ε=>?_);unfold Nr newFields;refine ew (Lx ?_ (ε.sizeOk5 _ _ _ _ _));have ν:g1.get? e=ak O:=(Z.2.1 e ne).trans he;have sz:g1.objs.size=s.heap.objs.size:=Z.1;generalize ζ:({cls:= .type "traceback",dict:=none,data:= .fields ([β,.ref L,.none,rawInt L,.none]++(if pl.isEmpty then eH 6 KG else pl)).toArray}:P8)=ob;have ι:(g1.push ob).get? e=ak O:=gB ob ν;refine LI ι hd hsz ?_;have lt:e < g1.objs.size:=hF ν;obtain⟨o',τ,ρ,ο,π⟩:=uN (i:=1) (v:= .ref g1.objs.size) ι hd;have oth:∀c,c≠e->((g1.push ob).update e (Lq (·.setIfInBounds 1 (z2 g1.objs.size)))).get? c=(g1.push ob).get? c:=λc η=>LF _ _ (Lf η);have Y:∀c o,c≠e->g1.get? c=ak o->((g1.push ob).update e (Lq (·.setIfInBounds 1 (z2 g1.objs.size)))).get? c=ak o:=λc o η q=>(oth c η).trans (gB ob q);refine h _ ⟨λc o n m q=>Y c o (λz=>n (by rw[z];exact hC.mpr rfl)) ((Z.2.1 c m).trans q),λc o n m q=>?_⟩ ⟨o',_,τ,ρ,ο,π,by simpa using hsz,?_⟩
 ·obtain⟨ξ,δ⟩:=Z.2.2 c o q;exact⟨ξ,Y c _ (λz=>n (by rw[z];exact hC.mpr rfl)) δ⟩
 ·have θ:g1.objs.size≠e:=LB lt;refine⟨by rw[<-sz];simp[hsz],by rw[<-sz];exact θ,ob,_,?_,by rw[<-ζ],?_⟩
  ·rw[<-sz,oth _ θ];exact pB g1 (by rw[<-ζ];rfl)
  ·first | (simp;done) | (rcases ε with rfl | ⟨_,_,_,_,_,_,_,rfl⟩<;>simp)
theorem A9 {e t:fy} {C:hJ} {dx:J0} {fl:hJ} {fr:J0} {Q:Hy} (x:BK s.heap e C dx (ak (t,fl)))
  (h:∀h',(∀b o,b≠t->s.heap.get? b=ak o->h'.get? b=ak o)->BK h' e C dx (ak (t,fr.elim .none λf=>rawInt f))->Q () {s with heap:=h'}):oi M A (setFlight (.ref e) fr) Q E s:=by
 obtain⟨γ,vs,he,Z,Y,hd,hsz,h1,υ,δ,ts,hT,O,α⟩:=x;unfold setFlight;refine ew (Kd he hd h1 ?_);rw[pT (show(z2 t != KG)=true from by simp)];refine LI hT O (M0.mp α).1 ?_;obtain⟨o',β,ζ,ε,π⟩:=uN (i:=3) (v:=fr.elim .none λf=>rawInt f) hT O;have oth:∀c,c≠t->(s.heap.update t (Lq (·.setIfInBounds 3 (fr.elim KG λf=>rawInt f)))).get? c=s.heap.get? c:=λc Z=>LF _ _ (Lf Z);refine h _ (λb o hb q=>(oth b hb).trans q) ⟨γ,vs,(oth e (Lf υ)).trans he,Z,Y,hd,hsz,h1,υ,o',_,β,π,?_⟩;have:=(M0.mp α).1;simp[this]
end
section
variable {X:Cx} {pins:Dc} {σ:St} {H:Hp} {s:ib}
theorem Inv.mv {h':z1} {ch:I4} (I:Inv X pins σ H s) (m:Mv ch (frs X.stack) s.heap h') (fp:∀b∈ch,FpOk X pins H b):Inv X pins σ H {s with heap:=h'}:=by
 have Y:∀b u,H b=ak u->b∉ch:=λb u e z=>by rw[(fp b z).1] at e;cases e
 have η:∀b u,H b=ak u->b∉frs X.stack:=λb u e z=>by rw[I.stkFree b z] at e;cases e
 have any:∀b o,b∉ch->s.heap.get? b=ak o->∃Z,h'.get? b=ak {o with slots:=Z}:=λb o n e=>by
  by_cases z:b∈frs X.stack
  ·exact m.2 b o n z e
  ·exact⟨o.slots,m.1 b o n z e⟩
 refine I.step (g':=s.gens) (d':=s.drawn) (t':=s.toks) (ch:=ch) (λb hb=>?_) (λb ob α hb O e _=>m.1 b ob O (λz=>(rz.mp (I.stkSub b z)).elim α hb) e) (λb ob _ _ O e _=>any b ob O e) (λb ob _ e n=>n) (λb ob O e=>let ⟨Z,q⟩:=any b ob O e;⟨_,q⟩)
  (λb xs e=>e) (λb ob u e=>e) (λb ps e=>⟨#[],by rw[e];simp⟩) (fun ε hm=>?_) (λb u e=>?_) I.bare
 ·obtain⟨θ,δ,ζ,υ,γ,β⟩:=fp b hb;exact⟨υ,δ,γ,β⟩
 ·obtain⟨ob,es,ep,ho,r⟩:=hm;obtain⟨Z,q⟩:=any _ ob (λz=>(fp _ z).2.1 rfl) ho;exact⟨_,es,ep,q,r⟩
 ·refine(I.hok b u e).stay (λc v O q=>m.1 c v ?_ ?_ q) (λc q=>q) λc xs q=>q
  ·rcases O with z | z
   ·rw[z];exact Y b u e
   ·exact Y c _ z
  ·rcases O with z | z
   ·rw[z];exact η b u e
   ·exact η c _ z
theorem fV.there {P:qc} {w:u7} {h:z1} {a:fy} {o:HO} (x:fV P w H h a o):∃o',h.get? a=ak o':=by
 cases o with
 | lst xs=>obtain⟨_,_,_,_,e⟩:=x;exact⟨_,e⟩
 | tup xs=>obtain⟨_,_,_,_,e,_⟩:=x;exact⟨_,e⟩
 | dK kvs=>obtain⟨_,_,_,_,o,_,_,e,_⟩:=x;exact⟨_,e⟩
 | dT kvs=>obtain⟨_,_,_,_,o,_,_,e,_⟩:=x;exact⟨_,e⟩
 | set S n=>obtain⟨o,_,_,_,e,_⟩:=x;exact⟨_,e⟩
 | ins C dx fs=>obtain⟨_,_,_,e,_⟩:=x;exact⟨_,e⟩
 | own y=>obtain⟨_,e⟩:=x;exact⟨_,e⟩
 | xd fs=>obtain⟨_,⟨_,_,_,e,_⟩,_⟩:=x;exact⟨_,e⟩
 | rng lo hi=>obtain⟨_,_,_,e⟩:=x;exact⟨_,e⟩
 | frz ob u=>obtain⟨e,_⟩:=x;exact⟨_,e⟩
 | tbl ps=>exact⟨_,(show h.get? a=ak _ from x)⟩
 | met f y=>exact⟨_,(show h.get? a=ak _ from x)⟩
 | ext φ=>obtain⟨_,⟨_,e⟩,_⟩:=x;exact⟨_,e⟩
theorem HOk.none_ {P:qc} {w:u7} {h:z1} {a:fy} (x:HOk P w H h) (e:h.get? a=none):H a=none:=by
 cases q:H a with
 | none=>rfl
 | some u=>obtain⟨o,z⟩:=(x a u q).there;rw[e] at z;cases z
def FpN (X:Cx) (pins:Dc) (H:Hp) (b:fy):Prop:=
 H b=none/\b≠X.env.locals/\b∉X.fs/\(b∈X.ex∨X.s₀.heap.get? b=none)/\(∀x c,X.env.cells.lookup x=ak c->c≠b)/\∀p∈X.pn++pins,p.1≠b
theorem FpOk.n {b:fy} (f:FpOk X pins H b):FpN X pins H b:=⟨f.1,f.2.1,f.2.2.1,f.2.2.2.1.imp id PX,f.2.2.2.2⟩
theorem Inv.fpN {H':Hp} {b:fy} (I:Inv X pins σ H s) (hb:s.heap.get? b=none) (hn:H' b=none):FpN X pins H' b:=by
 refine⟨hn,λz=>?_,λz=>?_,?_,λx c e z=>?_,λp Y z=>?_⟩
 ·obtain⟨m,⟨o,es,ep,ho,r⟩,_⟩:=I.loc;rw[<-z,hb] at ho;cases ho
 ·obtain⟨_,o,ho,_⟩:=I.ok.funs.mem z;obtain⟨o',O⟩:=I.base.there b o ho λy=>I.ok.exfs b y z;rw[hb] at O;cases O
 ·by_cases z:b∈X.ex
  ·exact .inl z
  ·cases q:X.s₀.heap.get? b with
   | none=>exact .inr rfl
   | some o=>obtain⟨o',O⟩:=I.base.there b o q z;rw[hb] at O;cases O
 ·obtain⟨v,o,q,_⟩:=I.cell x c e;rw[z,hb] at q;cases q
 ·have:=(I.pin p Y).1;rw[z,hb] at this;cases this
theorem Inv.mvN {h':z1} {ch:I4} (I:Inv X pins σ H s) (m:Mv ch (frs X.stack) s.heap h') (fp:∀b∈ch,FpN X pins H b):Inv X pins σ H {s with heap:=h'}:=by
 have out:∀b o,X.s₀.heap.get? b=ak o->b∉X.ex->b∉ch++X.ex:=λb o e n z=>by
  rcases px.mp z with z | z
  ·rcases(fp b z).2.2.2.1 with y | y
   ·exact n y
   ·rw[e] at y;cases y
  ·exact n z
 have sub:∀b,b∉ch++X.ex->b∉X.ex:=λb n z=>n (oD _ z)
 have ok:Cx.Ok {X with ex:=ch++X.ex}:=⟨I.ok.mod,I.ok.kind,I.ok.glob,I.ok.blt,I.ok.above,I.ok.inj,I.ok.has,I.ok.cab,I.ok.hd,I.ok.frames,I.ok.stk,
  λb hb=>(px.mp hb).elim (λz=>⟨(fp b z).2.1,(fp b z).2.2.2.2.1⟩) (I.ok.exf b),I.ok.bs,I.ok.bsz,λb o e=>out b o (I.ok.bs b o e).1 (I.ok.noex b o e),
  λb hb=>(px.mp hb).elim (λz=>(fp b z).2.2.1) (I.ok.exfs b),I.ok.funs,I.ok.frf⟩
 have U:=I.base
 have J:Inv {X with ex:=ch++X.ex} pins σ H s:=⟨ok,I.os,I.bare,⟨λb o e n f z=>U.keep b o e n f (sub b z),λb o e n f z=>U.slot b o e n f (sub b z),λb o e n z=>U.free b o e n (sub b z),λb o e z=>U.there b o e (sub b z),U.tups,U.frzs,U.tbls⟩,
  I.loc,I.cell,I.free,I.freeC,I.pin,I.hok,I.len⟩
 have J':=J.mv (h':=h') (ch:=ch) m λb hb=>⟨(fp b hb).1,(fp b hb).2.1,(fp b hb).2.2.1,.inl (ro _ hb),(fp b hb).2.2.2.2⟩;have V:=J'.base
 exact⟨I.ok,J'.os,J'.bare,⟨λb o e n f z=>V.keep b o e n f (out b o e z),λb o e n f z=>V.slot b o e n f (out b o e z),λb o e n z=>V.free b o e n (out b o e z),λb o e z=>V.there b o e (out b o e z),V.tups,V.frzs,V.tbls⟩,
  J'.loc,J'.cell,J'.free,J'.freeC,J'.pin,J'.hok,J'.len⟩
structure Fly (X:Cx) (pins:Dc) (H:Hp) (e:fy) (C:hJ) (dx:J0) (T:sh (fy×hJ)) (h:z1):Prop where
 at_:BK h e C dx T
 fe:FpN X pins H e
 ft:∀t fl,T=ak (t,fl)->FpN X pins H t
def Own (X:Cx):Prop:=X.stack=X.env::X.outer/\X.env.frame=ak X.env.locals
theorem Ax {M:Model} {E:D9} {e:fy} {C:hJ} {dx:J0} {T:sh (fy×hJ)} {Q:Hy} (I:Inv X pins σ H s) (ow:Own X) (f:Fly X pins H e C dx T s.heap)
  (h:∀h' t,Inv X pins σ H {s with heap:=h'}->Fly X pins H e C dx (ak (t,rawInt X.env.locals)) h'->Q () {s with heap:=h'}):oi M X.A (noteFrame (.ref e) X.env) Q E s:=by
 obtain⟨ho,hf⟩:=ow;have ρ:X.A.frames=ak (X.env::X.outer):=by rw[I.ok.frames,ho]
 have ο:s.heap.FunFrames X.base (X.env::X.outer):=by rw[<-ho];exact I.stack
 obtain⟨⟨η,vs,he,ζ,α,hd,hsz,hT⟩,fe,ft⟩:=f
 have fin:∀(Y:ib) (O:P8) (Z:G') (ε:hJ) (b1:JY),Inv X pins σ H Y->Y.heap.objs.size=s.heap.objs.size->Y={s with heap:=Y.heap}->Y.heap.get? e=ak O->O.cls=C->O.dict=dx->O.data= .fields Z->1 < Z.size->
   oi M X.A (do let a <-frameOf X.env;let pl <-entryPlaceOf X.env.locals b1;let t <-Nr ε a .none (rawInt X.env.locals) .none pl;setField (.ref e) 1 t) Q E Y:=by
  intro Y O Z ε b1 I1 hz ξ q1 ω ψ π ν;have θ:Y.heap.FunFrames X.base (X.env::X.outer):=by rw[<-ho];exact I1.stack
  refine Dh ρ θ hf q1 π ν λh' m x=>?_;have χ:Inv X pins σ H {Y with heap:=h'}:=I1.mvN (ch:=[e]) (by rw[ho];exact m) λb hb=>by rw[hC.mp hb];exact fe
  have e2:({Y with heap:=h'}:ib)={s with heap:=h'}:=by rw[ξ]
  rw[e2] at χ ⊢;rw[ω,ψ] at x;exact h h' _ χ ⟨x,fe,λt φ z=>by cases z;exact(I1.fpOk (ru _) (I1.hok.fresh (ru _))).n⟩
 unfold noteFrame;simp only[hf];cases T with
 | none=>
   have h1:vs[1]? =ak .none:=hT;refine ew (Kd he hd h1 ?_);rw[oT @C];exact fin s η vs _ _ I rfl rfl he ζ α hd hsz
 | some p=>
   obtain⟨t,φ⟩:=p;obtain⟨h1,υ,δ,ts,γ,β,τ⟩:=hT;refine ew (Kd he hd h1 ?_);rw[pT (show(z2 t != KG)=true from by simp)];refine ew (Kd γ β τ ?_);by_cases hz:(φ == rawInt X.env.locals)=true
   ·rw[pT hz];have ι:=eq_of_beq hz;subst ι;exact hH (h s.heap t I ⟨⟨η,vs,he,ζ,α,hd,hsz,h1,υ,δ,ts,γ,β,τ⟩,fe,ft⟩)
   ·rw[oT hz];refine ew (LI γ β (M0.mp τ).1 ?_);have oth:∀c,c≠t->(s.heap.update t (Lq (·.setIfInBounds 3 KG))).get? c=s.heap.get? c:=λc ζ=>LF _ _ (Lf ζ)
    have m1:Mv [t] (frs X.stack) s.heap (s.heap.update t (Lq (·.setIfInBounds 3 KG))):=
     ⟨λb o n _ q=>(oth b (λz=>n (by rw[z];exact hC.mpr rfl))).trans q,λb o n _ q=>⟨o.slots,(oth b (λz=>n (by rw[z];exact hC.mpr rfl))).trans q⟩⟩
    have I1:=I.mvN m1 λb hb=>by rw[hC.mp hb];exact ft t φ rfl
    exact fin _ η vs _ _ I1 (Heap.size_after_update ..) rfl ((oth e (Lf υ)).trans he) ζ α hd hsz
theorem Eu {M:Model} {A:z3} {E:D9} {e t:fy} {C:hJ} {dx:J0} {fl:hJ} {fr:J0} {Q:Hy} (I:Inv X pins σ H s) (f:Fly X pins H e C dx (ak (t,fl)) s.heap)
  (h:∀h',Inv X pins σ H {s with heap:=h'}->Fly X pins H e C dx (ak (t,fr.elim .none λf=>rawInt f)) h'->Q () {s with heap:=h'}):oi M A (setFlight (.ref e) fr) Q E s:=by
 refine A9 f.at_ λh' k x=>h h' (I.mvN (ch:=[t]) ⟨λb o n _ q=>k b o (λz=>n (by rw[z];exact hC.mpr rfl)) q,λb o n _ q=>⟨o.slots,k b o (λz=>n (by rw[z];exact hC.mpr rfl)) q⟩⟩ λb hb=>by rw[hC.mp hb];exact f.ft t fl rfl) ⟨x,f.fe,λt' O z=>by cases z;exact f.ft t fl rfl⟩
end
noncomputable abbrev XW:=St->XK
def XE (X:Cx) (W:XW) (e:hJ) (s:ib):Prop:=∃pins x C dx T σ H,e= .ref x/\Inv X pins σ H s/\Fly X pins H x C dx T s.heap/\W σ C dx H
def Thr (X:Cx) (W:XW):Prop:=∀e s,XE X W e s->X.xe e s
noncomputable abbrev Cx.thr (X:Cx) (W:XW):Cx:=X.wish (XE X W)
noncomputable abbrev W0:XW:=λ_ _ _ _=>False
section
variable {X:Cx} {W:XW} {pins:Dc} {σ:St} {H:Hp} {s:ib}
theorem Fly.wish {E:D9} {e:fy} {C:hJ} {dx:J0} {T:sh (fy×hJ)} {h:z1} (f:Fly (X.wish E) pins H e C dx T h):Fly X pins H e C dx T h:=⟨f.at_,f.fe,f.ft⟩
theorem gJ:Thr (X.thr W) W:=λe s ⟨pins,x,C,dx,T,σ,H,he,I,f,w⟩=>⟨pins,x,C,dx,T,σ,H,he,I.unwish,f.wish,w⟩
theorem thr0:Thr X W0:=λe s ⟨pins,x,C,dx,T,σ,H,he,I,f,w⟩=>w.elim
theorem ym (ow:Own X):PassesOwn (qA X.prog X.w) X.A X.env (XE X W):=by
 intro e s' ⟨pins,x,C,dx,T,σ,H,he,I,f,w⟩;subst he;unfold notedBy;refine Ax I ow f λh' t γ Y=>?_;unfold cameBackBy;obtain⟨⟨ε,vs,Z,δ,β,π,ν,ξ,ο⟩,fe,ft⟩:=id Y;refine ew (Kd Z π ξ ?_);rw[oT @F];refine Eu γ Y λh2 α O=>?_;rw[ow.2] at O;exact⟨pins,x,C,dx,_,σ,H,rfl,α,O,w⟩
theorem oJ (ow:Own X):PassesOwn (qA X.prog X.w) X.A X.env (X.thr W).xe:=ym ow
theorem PSs.thr {st:f' Mp} {t:TS} (h:PSs (X.thr W) st t) (k:Thr X W):PSs X st t:=λpins s σ H D I hw=>
 LQ (h pins s σ H D (I.wish _) hw) (λ_ _ q=>q.unwish) k
end
noncomputable def CX1 (P:qc) (w:u7):CXT:=λouter H s E e s'=>∃x C dx t H',e= .ref x/\s'.os=s.os/\AllBare s'.gens/\Un (frs outer) [] H H' s.heap s'.heap/\HOk P w H' s'.heap/\
 BK s'.heap x C dx (ak (t,.none))/\s.heap.get? x=none/\s.heap.get? t=none/\H' x=none/\H' t=none/\E C dx H'
section
variable {P:qc} {w:u7} {K:bp} {mg:F'} {base:z1}
theorem xp {N:C'} {O:J9} {scope:LG} {f:fy} {γ:hJ} {A:z3} {outer:f' Env} {s:ib} {H:Hp} {E:XK}:
  Thr (cxOf (CX1 P w) P w K mg base N O scope f γ A outer s H E) λ_=>E:=by
 intro e s' ⟨pins,x,C,dx,T,σ,H',he,I,β,Z⟩;subst he;have own:Own (cxOf (CX1 P w) P w K mg base N O scope f γ A outer s H E):=⟨rfl,rfl⟩;show oi _ _ (leaving _ _) _ _ _;unfold leaving;refine ew (Ax I own β λh1 t δ α=>?_);refine Eu (fr:=none) δ α λh2 I2 Y=>?_;have fx:=Y.fe;have ft:=Y.ft t _ rfl;have no:∀b:fy,(b∈([]:I4)∨s.heap.get? b=none)->s.heap.get? b=none:=λb z=>z.elim (λq=>kf q @F) id;exact⟨x,C,dx,t,H',rfl,I2.os,I2.bare,I2.base,I2.hok,Y.at_,no x fx.2.2.2.1,no t ft.2.2.2.1,fx.1,ft.1,Z⟩
theorem Fun.okX {x O:J9} {st:Mp} {f:fy} {fd:oe} {N ps:C'} {k:Nat} {sp:Sp} (F:Fun K x O st f fd) (S:aA N ps (ah st)) (len:∀vs H Q E,sp vs H Q E->vs.length=ps.length)
  (Z:∀(Y:hJ) (A:z3) (outer:f' Env) (s:ib) (H:Hp) (vs:f' V) (Q:VK) (E:XK),Room k (A.deeper (envOfC O (ah st) s.heap.objs.size f Y))->sp vs H Q E->
   ∃t,PSs ((cxOf (CX1 P w) P w K mg base N O (ah st) f Y A outer s H E).thr λ_=>E) (dq st) t/\t {nx:=λ_ H'=>Q .non H',rt:=Q} (start N vs) H):FnOk P w K mg base (CX1 P w) (k + 1) f fd ps sp:=by
 obtain⟨ε,od,kV,η,α,an,Y,ct,γ,rfl,lk,β⟩:=F.ex;refine Ge lk β S len λA outer s H vs Q E δ ο=>?_;obtain⟨t,h,q⟩:=Z Y A outer s H vs Q E δ ο;exact⟨t,h.thr xp,q⟩
end
section
variable {X:Cx} {W:XW} {pins:Dc} {σ:St} {H:Hp} {s s':ib}
theorem Inv.afterX {e:hJ} (I:Inv X pins σ H s) (hx:Thr X W) (h:CX1 X.prog X.w X.stack H s (W σ) e s'):X.xe e s':=by
 obtain⟨x,C,dx,t,H',rfl,os,bare,un,hok,ea,Y,Z,nx,O,w⟩:=h;refine hx _ _ ⟨pins,x,C,dx,_,σ,H',rfl,I.call' (ch:=[]) os un hok bare (λb z=>kf z @F),⟨ea,I.fpN Y nx,λt' α z=>?_⟩,w⟩;cases z;exact I.fpN Z O
variable {k:Nat} {f C:fy} {fd:oe} {ps:C'} {sp:Sp} {dvs:f' V} {ds:E'} {x m:J9} {p pos apos:Pos} {e o:z8} {es:f' z8} {ta:TE} {t:TA}
theorem Fx {Q:VK} {us:E'} {vs:f' V} (F:FnOk X.prog X.w X.K X.mg X.base (CX1 X.prog X.w) k f fd ps sp) (Z:Room k X.A) (hb:md X.K fd ps ds) (hd:Vals dvs ds) (hx:Thr X W)
  (I:Inv X pins σ H s) (r:Vals vs us) (h:sp (vs++dvs) H Q (W σ)):oi (qA X.prog X.w) X.A (call (.ref f) us) (EP X pins σ Q) X.xe s:=by
 have Y:Vals (vs++dvs) (us++ds):=r.append hd;have hl:(us++ds).length=ps.length:=by rw[<-Y.length];exact F.len _ _ _ _ h
 refine Px (MH (F.run X.A X.stack s H ⟨us,[]⟩ (us++ds) (vs++dvs) Q (W σ) Z I.env0 (hb s us I.kIn hl) Y h) λr s' O=>?_);cases r with
 | error e=>exact I.afterX hx O
 | ok α=>
   cases α with
   | ret u=>exact I.after O
   | next=>exact K8 O
   | brk=>exact K8 O
   | cont=>exact K8 O
noncomputable def DW (C:fy) (m:J9) (sp:Sp) (dvs:f' V) (W:XW) (ta:TE) (t:TA):TE:=fun σ H Q=>ta σ H λx H1=>∃a dx fs,x= .ref a/\H1 a=ak (.ins C dx fs)/\fs.lookup m=none/\
 t σ H1 λvs H2=>sp (x::(vs++dvs)) H2 Q (W σ)
theorem dX {pl:Sem JY} (he:PE X o ta) (c:Cls X.K C) (hm:Meth X.K C m f) (F:FnOk X.prog X.w X.K X.mg X.base (CX1 X.prog X.w) k f fd ps sp) (γ:Room k X.A) (hb:md X.K fd ps ds) (hd:Vals dvs ds) (hx:Thr X W) (ha:PA X (e::es) t)
  (ο:qQ (e::es) X.env=(false,eval e X.env)::qQ es X.env:=by rfl) (O:(backTo pos (qQ es X.env)).any (·.1)=false:=by rfl)
  (ht:eval (.Call (.Attribute o m apos) (e::es) [] pos) X.env=(do
   let Y <-eval o X.env
   standAt apos.atName
   let (f,first) <-holding [Y] (getMethod Y m pl)
   callWith pos f first (backTo pos (qQ (e::es) X.env)) (backToKw pos (keywordEach [] X.env))):=by rfl):
  PE X (.Call (.Attribute o m apos) (e::es) [] pos) (DW C m sp dvs W ta t):=by
 intro pins s σ H Q I h;refine Ng (pl:=pl) (thn (he pins s σ H _ I h) λu α ⟨x,H1,Z,β,a,dx,fs,ex,ea,l,q⟩=>?_) ht;subst ex;obtain rfl:u=z2 a:=β;refine mT Z ea c hm l ?_;refine MS (first:=[.ref a]) (h₀:=X.base) I.ok.mod.kin hm.kp (thn (ha pos pins α σ H1 _ Z q) λus δ ⟨vs,H2,I2,r,π⟩=>⟨I2.kIn,?_⟩) ο O;exact Fx (us:= .ref a::us) (vs:= .ref a::vs) F γ hb hd hx I2 (.cons rfl r) π
end
structure XCls (h:z1) (C:fy) (bmB:E') (newId:Kr):Prop where
 obj:∃bm N nm q bs hdct sn sub ab col dd k0 k1 k2 k3 k5 mN,h.get? C=ak (excClassObj nm q C N bs bm hdct sn sub ab col dd k0 k1 k2 k3 k5 newId)/\h.Ns N mN/\mN "__init__"=none/\OwnTail h bmB bm
theorem ER {K:bp} {h:z1} {C:fy} {bmB:E'} {newId:Kr} (X:K.In h) (q:NO K C bmB newId=true):XCls h C bmB newId:=by
 refine⟨?_⟩;unfold NO at q;split at q
 next dd γ β ho=>
  split at q
  next η bm k0 k1 k2 k3 n k5 hm hs=>
   simp only[Kb,LR,Bool.not_eq_true'] at q;obtain⟨⟨⟨⟨⟨ζ,ε⟩,O⟩,ht⟩,hok⟩,α⟩:=q;subst ζ ε;cases γ with
   | mk nm bs Y ns δ hd sn sub ab col del=>
   have hm:Y=_:=hm;have O:del=false:=O;subst hm O;have Z:β=#[k0,k1,k2,k3,ak (.builtin n),k5]:=by rw[<-hs]
   subst Z;exact⟨bm,ns,nm,δ,bs,hd,sn,sub,ab,col,dd,k0,k1,k2,k3,k5,_,X _ _ ho,.of_isNs (PySem.W.isNs_of_in X hok),PySem.W.nsMap_none_of_in X hok α,PySem.W.tail_of_in X ht⟩
  next=>cases q
 next=>cases q
section
variable {X:Cx} {W:XW} {C:fy} {x:J9} {np cpos pos:Pos} {e:z8} {es:f' z8} {t:TA} {B newId initId:Kr} {bmB:E'}
noncomputable def DV (C:fy) (W:XW) (t:TA):TS:=λ_ σ H=>t σ H λvs H1=>vs.length<=qb/\W σ (.ref C) none H1
theorem F0 {pins:Dc} {σ:St} {H:Hp} {s:ib} {h':z1} {a:fy} {vs:E'} (I:Inv X pins σ H s) (m:Heap.MadeExcOf s.heap h' a (.ref C) vs):
  Inv X pins σ H {s with heap:=h'}/\Fly X pins H a (.ref C) none none h':=by
 obtain⟨tt,O,π,Y⟩:=m.there;exact⟨I.mvN (ch:=[]) ⟨λb o _ _ e=>m.keeps b o e,λb o _ _ e=>⟨o.slots,m.keeps b o e⟩⟩ λb z=>kf z @F,⟨⟨_,_,O,rfl,rfl,rfl,@F,@F⟩,I.fpN m.new (I.hok.none_ m.new),λt Z z=>by cases z⟩⟩
theorem i9 (FB:ExcBaseFacts B newId initId bmB) (q:NO X.K C bmB newId=true) (hx:Thr X W) (hc:X.calm=true) (δ:Gl X x) (hm:X.mg x=ak (.ref C)) (ha:PA X (e::es) t)
  (O:(x == ("__debug__":J9))=false:=by decide) (he:qQ (e::es) X.env=(false,eval e X.env)::qQ es X.env:=by rfl) (Z:(backTo cpos (qQ es X.env)).any (·.1)=false:=by rfl):
  PS X (.Raise (ak (.Call (.Name x np) (e::es) [] cpos)) none pos) (DV C W t):=by
 intro pins s σ H D I h;obtain⟨tl,N,nm,γ,bs,hdct,sn,sub,ab,col,dd,k0,k1,k2,k3,k5,mN,α,ι,β,T⟩:=(ER I.ok.mod.kin q).obj
 refine wpAny_Raise_call_subT (C:=C) (nm:=nm) (q:=γ) (N:=N) (bs:=bs) (bm:=tl) (hdct:=hdct) (sn:=sn) (sub:=sub) (ab:=ab) (col:=col) (dd:=dd) (k0:=k0) (k1:=k1) (k2:=k2) (k3:=k3) (k5:=k5)
  FB (mN:=mN) (T.hasType FB.hasBase) (I.ok.hd hc) (by rw[he];show(false||(backTo cpos (qQ es X.env)).any (·.1))=false;rw[Z];rfl) β (su I δ hm ⟨rfl,?_⟩ O)
 have Y:=ha cpos pins s σ H _ I h;rw[he] at Y ⊢;refine PL (LQ Y (λus η ⟨vs,H1,I1,r,z,w⟩=>⟨rfl,?_,I1.bk _ _ α,ι.keeps I1.bk,T.keeps I1.bk,λh' a m=>?_⟩) λ_ _ y=>y)
 ·show us.length<=_;rw[<-r.length];exact z
 ·obtain⟨ζ,ε⟩:=F0 I1 m;exact hx _ _ ⟨pins,a,.ref C,none,none,σ,H1,rfl,ζ,ε,w⟩
end
structure Gw (K:bp) (G:fy):Prop where
 ty:OG K (.ref G)=ak (.type "type")
 cls:Nf K G=true
 base:KH K G (.type "BaseException")=ak true
noncomputable def ExcO (x:fy) (C:hJ) (dx:J0):HO:= .ext λh=>∃O vs,h.get? x=ak O/\O.cls=C/\O.dict=dx/\O.data= .fields vs
noncomputable abbrev Cx.pin (X:Cx) (pins:Dc):Cx:={X with pn:=X.pn++pins}
noncomputable abbrev Cx.mark (X:Cx) (pins:Dc) (e:hJ):Cx:={X with A:=X.A.mark (ak e),calm:=false,pn:=X.pn++pins,xe:=λ_ _=>False}
noncomputable def Ends.less (D:Ends) (i:Nat):Ends:={nx:=fun σ H=>D.nx (σ.set i none) H,rt:=D.rt,bk:=fun σ H=>D.bk (σ.set i none) H,ct:=fun σ H=>D.ct (σ.set i none) H}
noncomputable def WTry (K:bp) (G:fy) (i:Nat) (β:XW) (ts:TS) (D:Ends):XW:=fun σ C dx H=>∃c,C= .ref c/\((KH K c (.ref G)=ak true/\∀x,H x=none->ts (D.less i) (σ.set i (ak (.ref x))) (upd H x (ExcO x C dx)))∨
 (KH K c (.ref G)=ak false/\β σ C dx H))
structure XIsi (K:bp) (D:fy):Prop where
 cls:Nf K D=true
 ga:z0 K (.ref D) "__getattribute__"=ak (ak (.builtin "BaseException.__getattribute__"))
 gr:z0 K (.ref D) "__getattr__"=ak none
 ha:z0 K (.ref D) "__class__"=ak (ak (.builtin "object.__class__"))
 hn:LO K (.builtin "object.__class__") "__get__"=ak (ak (.builtin "getset_descriptor.__get__"))
 tk:Oq K (.builtin "object.__class__")=ak true
 hm:KH K D (.type "object")=ak true
 base:KH K D (.type "BaseException")=ak true
noncomputable def dV:V->hJ
 | .ref a=> .ref a
 | .ty n=> .type n
 | _=> .none
section
variable {σ:St} {H:Hp} {Q:VK} {D:Ends} {W:XW} {t:TA}
theorem Fk {C:fy} (h:t σ H λvs H1=>vs.length<=qb/\W σ (.ref C) none H1):DV C W t D σ H:=h
end
theorem Am {X:Cx} {K:bp} {es:f' z8} {k:Nat} {t:TGs} {n:Nat} {pos:Pos} (h:X.K=K) (hc:X.calm=true) (ht:PGs X es t)
  (hn:(assignEach es X.env).length=n:=by rfl) (ο:(assignEach es X.env).findIdx? (·.1)=none:=by rfl):PG X (.Tuple es k pos) (gTup K n t):=by subst h;exact iP hc ht hn ο
theorem FA {k:Key} {v:hJ} (h:uD k v=true):RelV (kV k) v:=by
 rcases b3 h with ⟨i,t,rfl,rfl⟩ | ⟨x,t,rfl,rfl⟩
 ·exact⟨t,rfl⟩
 ·exact⟨t,rfl⟩
theorem oK {α β:Type} {F:α->β->Prop}:∀{l:f' α} {m:f' β},l.length=m.length->(∀(i:Nat) (a:α) (b:β),l[i]? =ak a->m[i]? =ak b->F a b)->Paired F l m
 | [],[],_,_=> .nil
 | a::l,b::m,hl,h=> .cons (h 0 a b rfl rfl) (oK (by simpa using hl) λi x y Y O=>h (i + 1) x y (by simpa using Y) (by simpa using O))
 | [],_::_,hl,_=>by simp at hl
 | _::_,[],hl,_=>by simp at hl
section
variable {σ:St} {H:Hp} {Q:VK} {D:Ends} {te ty tv td:TE} {x y v:V}
def IQ (y:V) (Q:VK) (x:V) (H:Hp):Prop:=∃a o,x= .ref a/\DGet H a y o/\Q (.bl o.isSome) H
theorem Ju (h:ty σ H λy H1=>td σ H1 (IQ y Q)):tDIn ty td σ H Q:=h
theorem Hh {p:fy} {kvs:f' (Key×V)} {z:Int} (e:H p=ak (.dK kvs)) (h:Q (.bl (valV kvs (Ki z)).isSome) H):IQ (.int z) Q (.ref p) H:=⟨p,_,rfl,DGet.k (k:=Ki z) e,h⟩
def EG (y:V) (Q:VK) (x:V) (H:Hp):Prop:=∃a o,x= .ref a/\DGet H a y o/\Q (.bl (!o.isSome)) H
theorem Hf (h:ty σ H λy H1=>td σ H1 (EG y Q)):zz ty td σ H Q:=h
theorem Fv {p:fy} {kvs:f' (Key×V)} {z:Int} (e:H p=ak (.dK kvs)) (h:Q (.bl (!(valV kvs (Ki z)).isSome)) H):EG (.int z) Q (.ref p) H:=⟨p,_,rfl,DGet.k (k:=Ki z) e,h⟩
theorem qe {l b:fy} {xs zs:f' V} (e:H l=ak (.lst xs)) (O:H b=ak (.lst zs)) (hz:xs.length + zs.length<=qb) (h:∀p H2,H p=none->Same H H2->H2 p=ak (.lst (xs++zs))->Q (.ref p) H2):rCat (.ref l) (.ref b) H Q:=⟨l,b,xs,zs,rfl,rfl,e,O,hz,i5 h⟩
end
theorem lK:∀{ns:I9} {us:E'},Vals (ns.map V.int) us->IntsAre us ns
 | [],us,r=>by cases r;exact .nil
 | n::ns,us,r=>by
   rw[Ka] at r;cases r with
   | cons h t=>obtain⟨t',rfl⟩:=h;exact .cons _ _ (lK t)
theorem uF:∀{ns:I9} {us:E'},IntsAre us ns->Vals (ns.map V.int) us:=om
noncomputable def Hr:f' V->Hp->VK->Prop:=λxs H Q=>∃(p:fy) (ns:I9),xs=[.ref p]/\H p=ak (.lst (ns.map V.int))/\0 < ns.length/\∀m:Int,m∈ns->(∀a∈ns,a<=m)->Q (.int m) H
section
variable {X:Cx}
theorem uW (hc:X.calm=true):kU X (.builtin "max") Hr:=by
 intro pins s σ H xs us Q I r h;obtain⟨p,ns,rfl,γ,φ,q⟩:=h;obtain⟨u,rfl,α⟩:=xO r;cases α;obtain⟨z,its,n,ι,hl,e⟩:=I.lstM γ;have hi:=lK ι;obtain⟨zs,Z⟩:=hi.allInts.items;have O:ns=zs.toList.map (·.1):=by rw[<-hi.numsOf,<-nums_intItems,<-Z]
 have hsz:0 < zs.size:=by have Y:=φ;rw[O,cY,hE] at Y;exact Y
 have ε:s.heap.IsList p (intItems zs):=by rw[<-Z];exact⟨_,e,rfl,n,rfl⟩
 refine max_intList (I.ok.hd hc) ε hsz λv h' tk β hk=>?_;obtain⟨t,rfl⟩:=intItems_at β;obtain⟨h1,h2⟩:=argBest_gt (numAt zs) (zs.size - 1);refine⟨.int _,H,I.kept hk,⟨t,rfl⟩,q _ ?_ λa ha=>?_⟩
 ·rw[O,numAt_eq];exact getD_mem (by rw[cY,hE];omega)
 ·rw[O] at ha;obtain⟨j,δ,rfl⟩:=mem_getD ha;rw[cY,hE] at δ;rw[<-numAt_eq];exact h2 j @A
end
section
variable {prog:qc} {w:u7} {A:z3} {E:D9} {s:ib} {d:fy} {vs:f' (Key×hJ)} {ep:Nat}
theorem qZ:plainId "list.__iadd__"=true:=by decide +kernel
theorem uV {Q:E'->ib->Prop} (δ:A.handled=none) (lo:(d == sysModules)=false) (Y:s.heap.DictAt (dc prog w) d vs ep) (hn:vs.length<=qb)
  (h:∀h' tk (β:G'),(∀b o,s.heap.get? b=ak o->h'.get? b=ak o)->s.heap.objs.size < h'.objs.size->ItemsOf (λi v=>∃k x,vs[i]? =ak (k,x)/\(dc prog w).is k v=true) β vs.length->Q β.toList {s with heap:=h',toks:=tk}):
  oi (qA prog w) A (collect (.ref d)) Q E s:=by
 unfold collect;refine ew (Pz (Lu QG ?_));show oi _ _ (do again (.builtin "list.__iadd__" ⟨[<-newList [],.ref d],[]⟩)) _ _ s;refine ew (OB (hH ⟨Ob _ (by decide +kernel),Lu entry_list_iadd' ?_⟩));rw[LX qZ _];show oi _ _ (Builtin.List.listExtendWith (.ref s.heap.objs.size) (.ref d) (.ref s.heap.objs.size)) _ _ {s with heap:=s.heap.push (seqObj "list" #[] 0)};have O:=Y.lt_size
 refine PySem.W.kdl_extend (R:=λr s'=>match r with
   | OY (QN v)=>oi (qA prog w) A (match v with
     | z2 a=>do
       let o <-load a
       match o.data with
       | .seq xs _=>pure xs.toList
       | _=>unsupported "internal:collect"
     | _=>unsupported "internal:collect") Q E s'
   | OY _=>False
   | QY e=>E e s') (s:={s with heap:=s.heap.push (seqObj "list" #[] 0)}) (PySem.W.kdl_dict (knd:=dc prog w) (kvs:=vs) (ep:=ep) lo) δ (Y.push _) s.heap.objs.size (LB O) (LB O) _ 0 (pB _ rfl) (λh' tk α ε hk γ Z=>?_) hn
 show oi (qA prog w) A (do
   let o <-load s.heap.objs.size
   match o.data with
   | .seq xs _=>pure xs.toList
   | _=>unsupported "internal:collect") Q E {s with heap:=h',toks:=tk}
 refine ew (R1 γ ?_);exact hH (h h' tk α (λb o e=>hk b o (JU (hF e)) (gB _ e)) (hF γ) Z)
theorem vy {Q:D9} {ks:I9} (ρ:A.handled=none) (lo:(d == sysModules)=false) (θ:s.heap.DictAt (dc prog w) d vs ep) (hn:vs.length<=qb) (hk:vs.map (·.1)=ks.map Ki) (ξ:vs.length < 64)
  (h:∀h' tk a (out:G') (e:Nat) (Y:I9),(∀b o,s.heap.get? b=ak o->h'.get? b=ak o)->s.heap.objs.size<=a->h'.get? a=ak (seqObj "list" out e)->IntsAre out.toList Y->Y.Perm ks->Y.Pairwise (·<=·)->Q (.ref a) {s with heap:=h',toks:=tk}):
  oi (qA prog w) A (call (.builtin "sorted") [.ref d]) Q E s:=by
 refine OV kind_sorted plain_sorted entry_sorted (args_sorted1 _) ?_;unfold Builtin.«sorted»;refine ew (m:=checkCount "sorted" 1 1 _) (hH ?_);refine ew (uV (by exact ρ) lo θ hn λh' tk O ζ hsz Z=>?_)
 have δ:(ks.map V.int).length=O.toList.length:=by
  have β:=y3 ML hk;rw[cY,cY] at β;have τ:O.toList.length=vs.length:=by rw[hE];exact Z.1
  rw[cY];omega
 have hI:IntsAre O.toList ks:=by
  refine lK (oK δ λi a b ha hb=>?_);rw[ic] at ha;obtain⟨k,η,rfl⟩:=KD.mp ha;rw[JZ] at hb;obtain⟨ο,x,π,ι⟩:=Z.2 i b hb;have β:(vs.map (·.1))[i]? =ak ο:=by rw[ic,π];rfl
  rw[hk,ic,η] at β;have β:=mu β;subst β;exact FA (show uD (Ki k) b=true from ι)
 have ν:O.toList.length < 64:=by rw[hE,Z.1];exact ξ
 refine ew (OB ?_);have α:(h'.push (seqObj "list" O.toList.toArray 0)).get? h'.objs.size=ak (seqObj "list" O.toList.toArray 0):=pB _ rfl;show oi _ _ _ _ _ {s with heap:=h'.push (seqObj "list" O.toList.toArray 0),toks:=tk};refine ew (M3 (Lg slot_list_sort ⟨_,α,rfl⟩ entry_list_sort (list_sort_tree α hI ν λout Y a1 a2 ε=>⟨_,rfl,?_⟩) (args_list_sort _)));obtain⟨e,he⟩:=sortedHeap_at (out:=out) α;refine hH ⟨_,rfl,h _ tk h'.objs.size out e Y (λb o hb=>?_) ?_ he a1 a2 ε⟩
 ·have γ:=hF (ζ b o hb);rw[sortedHeap_old (JU γ) (by rw[size_push'];exact LV γ)];exact gB _ (ζ b o hb)
 ·exact KA hsz
end
noncomputable def Ed:f' V->Hp->VK->Prop:=λxs H Q=>∃(p:fy) (ks:I9) (kvs:f' (Key×V)),xs=[.ref p]/\H p=ak (.dK kvs)/\kvs.map (·.1)=ks.map Ki/\kvs.length < 64/\
 ∀(l:fy) (ns:I9),H l=none->ns.Perm ks->ns.Pairwise (·<=·)->Q (.ref l) (upd H l (.lst (ns.map V.int)))
theorem yJ {X:Cx} (hc:X.calm=true):kU X (.builtin "sorted") Ed:=by
 intro pins s σ H xs us Q I r h;obtain⟨p,ks,kvs,rfl,δ,hk,α,q⟩:=h;obtain⟨u,rfl,γ⟩:=xO r;cases γ;obtain⟨hz,lo,vs,rel,dd⟩:=Iy I.hok δ;obtain⟨ep,Z⟩:=dd.dictAt;refine vy (ks:=ks) (I.ok.hd hc) lo Z (by rw[<-rel.length];exact hz) (by rw[<-rel.keys];exact hk) (by rw[<-rel.length];exact α) λh' tk a out e O kp ha he hi Y ν=>?_;have ι:=uF hi
 have hl:(O.map V.int).length<=sizeLine:=by
  have β:=y3 ML hk;rw[cY,cY] at β;rw[cY,Y.length_eq,<-β];exact hz
 refine⟨.ref a,_,I.laid (t':=tk) kp ha (show fV X.prog X.w _ h' _ (.lst (O.map V.int)) from⟨hl,out.toList,e,ι,by simpa using he⟩),rfl,q _ O (I.hok.fresh ha) Y ν⟩
section
variable {H:Hp} {Q:VK}
theorem Fj {p:fy} {kvs:f' (Key×V)} {ks:I9} (e:H p=ak (.dK kvs)) (hk:kvs.map (·.1)=ks.map Ki) (O:kvs.length < 64) (h:∀(l:fy) (ns:I9) (H2:Hp),H l=none->Same H H2->H2 l=ak (.lst (ns.map V.int))->ns.Perm ks->ns.Pairwise (·<=·)->Q (.ref l) H2):Ed [.ref p] H Q:=
 ⟨p,ks,kvs,rfl,e,hk,O,λl ns hl Y hw=>h l ns _ hl (eT hl) bg Y hw⟩
end
def CShl (i j:Int):Prop:=0<=j/\(vl i:Int) + j<=2 ^ 27
theorem FP {X:Cx}:OpR X (binaryOp .LShift) (rI CShl λi j=> .int (i * 2 ^ j.toNat)):=opI λ_ _ _ _ _ _ _ hc q=>PyProof.Rows.lshift_int hc.1 hc.2 q
open AutoSeq1 (wpAny_loadPart')
section
variable {prog:qc} {w:u7} {A:z3} {E:D9} {s:ib}
theorem mH {it t:fy} {i:Nat} {O:G'} {x:hJ} {Q:D9} (Y:s.heap.IsTupleIter it t i) (ht:s.heap.IsTuple t O) (hx:O[i]? =ak x)
  (β:∀h',h'.IsTupleIter it t (i + 1)->Ll it s.heap h'->Q x {s with heap:=h'}):
  oi (qA prog w) A (JT (.ref it)) Q E s:=by
 obtain⟨o,ho,α,hd⟩:=id Y;obtain⟨γ,Z,_,nl,φ⟩:=ht;unfold JT
 refine ew (MF (name:=MV "__next__") Y.typeIs F.slot_tuple_iterator_next
  (Lg F.slot_tuple_iterator_next Y.typeIs F.entry_tuple_iterator_next ?_ (F.args_tuple_iterator_next_1 _)))
 show oi _ _ (field (.ref it) 0 >>=_) _ _ s;refine ew (Kd ho hd (x:= .ref t) rfl ?_);show oi _ _ (if (z2 t == KG)=true then _ else _) _ _ s;rw[oT (show ¬((z2 t == KG)=true) from kv)];show oi _ _ (field (.ref it) 1 >>=_) _ _ s;refine ew (Kd ho hd (x:= .int i 0) rfl ?_);show oi _ _ (seqItems? (.ref t) >>=_) _ _ s;refine ew (LJ Z φ ?_);simp only[lS,hx];refine ew (LI ho hd @F (hH ⟨x,rfl,hH (β _ ?_ (K9 ..))⟩))
 exact⟨_,KF _ ho (MG (L8 hd _)),(N8 ..).trans α,by
  rw[L8 hd];simp[rawInt]⟩
theorem nG {it t:fy} {i:Nat} {O:G'} {Q:D9} (α:A.handled=none) (Y:s.heap.IsTupleIter it t i) (ht:s.heap.IsTuple t O) (hx:O[i]? =none)
  (β:∀h' e,Heap.ExtBut it s.heap h'->(∃o,h'.get? e=ak o/\o.cls= .type "StopIteration")->E (.ref e) {s with heap:=h'}):
  oi (qA prog w) A (JT (.ref it)) Q E s:=by
 obtain⟨o,ho,δ,hd⟩:=id Y;obtain⟨γ,Z,_,nl,φ⟩:=ht;unfold JT
 refine ew (MF (name:=MV "__next__") Y.typeIs F.slot_tuple_iterator_next
  (Lg F.slot_tuple_iterator_next Y.typeIs F.entry_tuple_iterator_next ?_ (F.args_tuple_iterator_next_1 _)))
 show oi _ _ (field (.ref it) 0 >>=_) _ _ s;refine ew (Kd ho hd (x:= .ref t) rfl ?_);show oi _ _ (if (z2 t == KG)=true then _ else _) _ _ s;rw[oT (show ¬((z2 t == KG)=true) from kv)];show oi _ _ (field (.ref it) 1 >>=_) _ _ s;refine ew (Kd ho hd (x:= .int i 0) rfl ?_);show oi _ _ (seqItems? (.ref t) >>=_) _ _ s;refine ew (LJ Z φ ?_);simp only[lS,hx];refine ew (OE (ew (LI ho hd @F ?_)));show oi _ _ (newExc (.type "StopIteration") [] >>=_) _ _ _;refine ew ?_;simp only[newExc,newTuple];refine ew (Lx ?_ (by size_fits));refine ew (m:=firstArgMember _ _) (QB (a:=KG) (by first | rfl | (simp only[firstArgMember];rfl)) ?_);refine Lx ?_ (by size_fits);simp only[raiseNew];refine ew (wpAny_handled ?_)
 first | rw[show A.in1.handled=none from α] | rw[α]
 refine ew (hH (wpAny_throw ?_));exact β _ _ (((K9 ..).extBut.push _).push _) ⟨_,pB _ rfl,rfl⟩
end
theorem Draws.tuple {prog:qc} {w:u7} {A:z3} (Y:A.handled=none) (it l:fy) (φ:l≠it) (O:G'):
  Draws prog w A it [it,l] O.size (λi v=>O[i]? =ak v) (λi h=>h.IsTupleIter it l i/\h.IsTuple l O) where
 live:=λ_ _ st=>let ⟨o,ho,_⟩:=st.1;⟨o,ho⟩
 frame:=λ_ _ _ st hk=>⟨let ⟨o,ho,r⟩:=st.1;⟨o,hk it @F o ho,r⟩,let ⟨o,ho,r⟩:=st.2;⟨o,hk l @F o ho,r⟩⟩
 item:=λi s Q E hi st Z=>by
  refine mH st.1 st.2 (x:=O[i]) (by simp[hi]) λh' ξ ν=>?_;exact Z _ h' s.toks (by simp[hi]) ⟨ξ,st.2.extBut ν.extBut φ⟩ ν
 done:=λs Q E st α=>nG Y st.1 st.2 @F α
theorem kh (l:fy) (O:G') (n:Nat) (Z:J0) (β:Hx):
  Meets (Builtin.«enumerate.__new__» ⟨[.type "enumerate",.ref l],[]⟩) (λ_ R s=>s.heap.get? l=ak {cls:= .type "tuple",dict:=Z,data:= .seq O n,slots:=β}/\
   R (.ok (.ret (.ref (s.heap.push {cls:= .type "tuple_iterator",data:= .fields #[.ref l,.int 0 0]}).objs.size)))
     {s with heap:=(s.heap.push {cls:= .type "tuple_iterator",data:= .fields #[.ref l,.int 0 0]}).push {cls:= .type "enumerate",data:= .fields #[.none,.bool false,.ref s.heap.objs.size,rawInt 0,.none,.none]}}):=
 .of_wp λprog w A R s h=>by
  obtain⟨γ,g,d,tk,os⟩:=s;obtain⟨hl,h⟩:=h;have α:=sub_enumerate;have Y:Heap.IsTuple (Oo ⟨γ,g,d,tk,os⟩) l O:=⟨_,hl,rfl,n,rfl⟩
  wp_walk using MZ hl
  refine wpAny_stack_any λst=>hH ?_;split
  ·rename_i c _ _ _ _ _;cases(c == Md "enumerate")
   ·wp_walk using MZ hl,Nb Y
    exact⟨_,rfl,h⟩
   ·wp_walk using MZ hl,Nb Y
    exact⟨_,rfl,h⟩
  ·wp_walk using MZ hl,Nb Y
   exact⟨_,rfl,h⟩
theorem kj {prog:qc} {w:u7} {A:z3} {E:D9} {s:ib} {l:fy} {O:G'} {Q:D9} (β:s.heap.IsTuple l O)
  (h:∀h',IsEnum h' (s.heap.objs.size + 1) s.heap.objs.size 0 .none->h'.IsTupleIter s.heap.objs.size l 0->h'.objs.size=s.heap.objs.size + 2->
   (∀b o,s.heap.get? b=ak o->h'.get? b=ak o)->Q (.ref (s.heap.objs.size + 1)) {s with heap:=h'}):
  oi (qA prog w) A (call (.type "enumerate") [.ref l]) Q E s:=by
 obtain⟨⟨c,Z,γ,α⟩,hl,Y,n,hd⟩:=β;replace Y:c= .type "tuple":=Y;replace hd:γ= .seq O n:=hd;subst Y hd
 refine callType_new F.called_enumerate @C (F.typeCall_enumerate_1 _) (F.newCall_enumerate_1 _) (λobj=>F.args_object_init_2 obj _) F.entry_enumerate_new
  (kh l O n Z α) ⟨hl,?_⟩
 have hz:(s.heap.push {cls:= .type "tuple_iterator",data:= .fields #[.ref l,.int 0 0]}).objs.size=s.heap.objs.size + 1:=KP ..
 show _/\_;rw[hz]
 have he:IsEnum ((s.heap.push {cls:= .type "tuple_iterator",data:= .fields #[.ref l,.int 0 0]}).push
   {cls:= .type "enumerate",data:= .fields #[.none,.bool false,.ref s.heap.objs.size,rawInt 0,.none,.none]}) (s.heap.objs.size + 1) s.heap.objs.size 0 .none:=by
  have:=pB (s.heap.push {cls:= .type "tuple_iterator",data:= .fields #[.ref l,.int 0 0]})
   (o:={cls:= .type "enumerate",data:= .fields #[.none,.bool false,.ref s.heap.objs.size,rawInt 0,.none,.none]}) rfl
  rw[hz] at this;exact this
 refine⟨⟨_,he,rfl⟩,h _ he ⟨_,gB _ (pB _ rfl),rfl,rfl⟩ (by rw[KP,hz]) λb o x=>gB _ (gB _ x)⟩
noncomputable def Itet (K:bp) (a:fy):It:=
 ⟨λi H=>∃xs x,SqT K H a xs/\xs[i]? =ak x,λi H x H'=>∃p v,H p=none/\x= .ref p/\H'=upd H p (.tup [.int i,v])/\∀xs,SqT K H a xs->xs[i]? =ak v,λi H=>∃xs,SqT K H a xs/\xs.length=i⟩
theorem xS {P:qc} {w:u7} {K:bp} {ε:f' z8} {k:Nat} {pos:Pos} (a e it:fy) (υ:e≠it):
  Turn P w K (.Tuple ε k pos) (Itet K a) [e,it] e (λi h=>(∃Z,IsEnum h e it i Z)/\h.IsTupleIter it a i) where
 mem:=by simp
 obj:=λi h st b hb=>by
  obtain⟨⟨Z,he⟩,⟨o,ho,χ,hd⟩⟩:=st;rcases rz.mp hb with z | z
  ·subst z;exact⟨_,he,λv z=>by cases z⟩
  ·rw[hC.mp z];exact⟨o,ho,λv z=>by rw[hd] at z;cases z⟩
 keep:=λi h h' st k=>⟨let ⟨Z,he⟩:=st.1;⟨Z,k e @F _ he⟩,(let ⟨o,ho,r⟩:=st.2;⟨o,k it @F o ho,r⟩)⟩
 item:=by
  intro X hP hw hK χ i pins s σ H E I hf st hg;subst hP hw hK;obtain⟨xs,x,ρ,π⟩:=hg;obtain⟨its,ι,p,hz⟩:=I.tuple ρ;have ζ:s.heap.IsTuple a its.toArray:=p;obtain⟨⟨Z,he⟩,hl⟩:=st
  have η:a≠it:=λz=>by
   obtain⟨o,ho,τ,_⟩:=hl;obtain⟨o',Y,O,_⟩:=ζ;rw[z,ho] at Y;cases Y;rw[τ] at O;exact kf O @C
  have θ:a≠e:=λz=>by
   obtain⟨o',Y,O,_⟩:=ζ;rw[z,he] at Y;cases Y;exact kf (show Md "enumerate"= .type "tuple" from O) @C
  have W:=LP (prog:=X.prog) (w:=X.w) (A:=X.A) (Draws.tuple (A:=X.A.in1) (I.ok.hd χ) it a η its.toArray) e υ (by simp[υ,Lf θ]) @F;have hi:i < its.toArray.size:=by have:=ι.length;have:=(dt.mp π).1;simp;omega
  refine W.item i s _ _ hi ⟨⟨Z,he⟩,hl,ζ⟩ λT β h' tk a3 hT φ δ hk=>⟨_,rfl,W.go ε k pos i T _ _ _ δ λa4 ο ξ=>?_⟩;obtain⟨t,ψ,ω,rfl⟩:=a3;have a0:=W.apart i T h' δ
  have ν:RelV x ψ:=by
   obtain⟨u,hu,r⟩:=ι.get π;have α:its[i]? =ak ψ:=by simpa using ω
   rw[hu] at α;cases α;exact r
  have kk:∀b u,b∉[e,it]->s.heap.get? b=ak u->a4.get? b=ak u:=λb u hb q=>ξ b u hb (hk b u hb q);have fr:H T=none:=I.hok.fresh hT;refine⟨.ref T,upd H T (.tup [.int i,x]),I.laidCh (t':=tk) kk hT ⟨wH,[.int i t,ψ],.cons ⟨t,rfl⟩ (.cons ν .nil),?_⟩ hf,rfl,⟨T,x,fr,rfl,rfl,λys hy=>by rw[I.tuple_inj hy ρ];exact π⟩,⟨ο.1,ο.2.1⟩,λb hb=>?_⟩
  ·obtain⟨o,ho,r⟩:=φ;exact⟨o,ξ T o a0 ho,r⟩
  ·have γ:=(hf b hb);rw[aV (λz=>?_)]
   ·exact γ.1
   ·have lt:b < s.heap.objs.size:=by
     rcases rz.mp hb with z | z
     ·subst z;exact hF he
     ·rw[hC.mp z];obtain⟨o,ho,_⟩:=hl;exact hF ho
    rw[z] at lt;exact kf (fb lt hT) (KY _)
 done:=by
  intro X hP hw hK χ i pins s σ H E I hf st hg;subst hP hw hK;obtain⟨xs,ρ,π⟩:=hg;obtain⟨its,ι,p,hz⟩:=I.tuple ρ;have ζ:s.heap.IsTuple a its.toArray:=p;obtain⟨⟨Z,he⟩,hl⟩:=st
  have η:a≠it:=λz=>by
   obtain⟨o,ho,τ,_⟩:=hl;obtain⟨o',Y,O,_⟩:=ζ;rw[z,ho] at Y;cases Y;rw[τ] at O;exact kf O @C
  have θ:a≠e:=λz=>by
   obtain⟨o',Y,O,_⟩:=ζ;rw[z,he] at Y;cases Y;exact kf (show Md "enumerate"= .type "tuple" from O) @C
  have W:=LP (prog:=X.prog) (w:=X.w) (A:=X.A) (Draws.tuple (A:=X.A.in1) (I.ok.hd χ) it a η its.toArray) e υ (by simp[υ,Lf θ]) @F;have hn:its.toArray.size=i:=by have:=ι.length;simp;omega
  subst hn;exact W.done s _ _ ⟨⟨Z,he⟩,hl,ζ⟩ λh' tk hk=>⟨rfl,I.turnedCh hk hf⟩
 self:=λ_ _ _ _ _ st h=>let ⟨_,he⟩:=st.1;Lw he h
noncomputable def Er (K:bp) (tl:TE):TI:=fun σ H R=>tl σ H λx H1=>∃a,x= .ref a/\(((∃xs,SqL K H1 a xs)/\R (Ite K a) H1)∨((∃xs,SqT K H1 a xs)/\R (Itet K a) H1))
section
variable {X:Cx} {K:bp}
theorem CB {l:z8} {tl:TE} {β:f' z8} {k:Nat} {tpos p pos:Pos} (h:X.K=K) (ε:Gl X "enumerate") (hm:X.mg "enumerate"=none) (hl:PE X l tl) (hs:qQ [l] X.env=[(false,eval l X.env)]:=by rfl):
  PI X (.Tuple β k tpos) (.Call (.Name "enumerate" p) [l] [] pos) (Er K tl):=by
 subst h;intro pins s σ H R I h;refine QA (jP I ε hm boot_enumerate (JX (thn (aa hl af hs pos pins s σ H (λvs H1=>match vs with | [x]=>∃a,x= .ref a/\(((∃xs,SqL X.K H1 a xs)/\R (Ite X.K a) H1)∨((∃xs,SqT X.K H1 a xs)/\R (Itet X.K a) H1)) | _=>False) I h) λus O ⟨vs,H1,I1,γ,Z⟩=>?_) hs rfl))
 match vs,γ,Z with
 | [x],γ,Z=>
 obtain⟨u,rfl,ν⟩:=γ.one;obtain⟨a,rfl,Z⟩:=Z;cases ν
 have fin:∀b∈[O.heap.objs.size + 1,O.heap.objs.size],FpOk X pins H1 b:=λb hb=>by
  have α:O.heap.objs.size<=b:=(rz.mp hb).elim (λz=>by rw[z];exact NB _) (λz=>by rw[hC.mp z];exact ru _);exact I1.fpOk α (I1.hok.fresh α)
 rcases Z with ⟨⟨xs,δ⟩,q⟩ | ⟨⟨xs,δ⟩,q⟩
 ·obtain⟨its,ι,pl,hz⟩:=I1.list δ;refine QP pl.isList λh' he Y hsz hk=>Lw he ?_;exact⟨O.heap.objs.size + 1,[O.heap.objs.size + 1,O.heap.objs.size],_,_,H1,rfl,I1.kept (t':=O.toks) hk,qT a _ _ (LB (L1 _)),⟨⟨_,he⟩,Y⟩,fin,q⟩
 ·obtain⟨its,ι,pl,hz⟩:=I1.tuple δ;refine kj (show O.heap.IsTuple a its.toArray from pl) λh' he Y hsz hk=>Lw he ?_;exact⟨O.heap.objs.size + 1,[O.heap.objs.size + 1,O.heap.objs.size],_,_,H1,rfl,I1.kept (t':=O.toks) hk,xS a _ _ (LB (L1 _)),⟨⟨_,he⟩,Y⟩,fin,q⟩
end
theorem yH {K:bp} {n:Nat} {fx:D8} {g:TG} {tc:TT} {te:TE} {σ:St} {H1:Hp} {D:fy} {Q:Hp->Prop} {a:fy} {xs:f' V} (O:Nat->f' V->Hp->Prop) (h0:O 0 [] (upd H1 D (.lst []))) (hl:∀i ys H,i<=xs.length->O i ys H->SqT K H a xs)
  (hs:∀i x ys H p H',xs[i]? =ak x->O i ys H->H p=none->Same H H'->H' p=ak (.tup [.int i,x])->g (.ref p) (dI n fx σ) H' fun α Z=>tc α Z λb δ=>if b=true then te α δ λv γ=>γ D=ak (.lst ys)/\ys.length < qb/\O (i + 1) (ys++[v]) (upd γ D (.lst (ys++[v]))) else O (i + 1) ys δ)
  (hd:∀ys H,O xs.length ys H->Q H):
  ∃W:Nat->Nat->f' V->Hp->Prop,(∃m,W 0 m [] (upd H1 D (.lst [])))/\∀i m ys H2,W i m ys H2->((Itet K a).stop i H2/\Q H2)∨
    ((Itet K a).go i H2/\∃N:f' V->Hp->Prop,(∀Y H',N Y H'->∃ε,ε < m/\W (i + 1) ε Y H')/\∀x ζ,(Itet K a).yld i H2 x ζ->g x (dI n fx σ) ζ fun α Z=>tc α Z λb δ=>
      if b=true then te α δ λv γ=>γ D=ak (.lst ys)/\ys.length < qb/\N (ys++[v]) (upd γ D (.lst (ys++[v]))) else N ys δ):=by
 refine⟨λi m ys H=>m=xs.length - i/\i<=xs.length/\O i ys H,⟨xs.length,@F,L0 _,h0⟩,?_⟩;rintro i m ys H ⟨rfl,hi,p⟩;have q:=hl i ys H hi p;by_cases β:i < xs.length
 ·refine .inr ⟨⟨xs,xs[i],q,by simp[β]⟩,O (i + 1),λY H' η=>⟨xs.length - (i + 1),by omega,rfl,β,η⟩,λx H' y=>?_⟩;obtain⟨r,v,f,ι,θ,y⟩:=y;subst ι θ;exact hs i v ys H r _ (y xs q) p f (eT f) bg
 ·have e:i=xs.length:=by omega
  subst e;exact .inl ⟨⟨xs,q,rfl⟩,hd ys H p⟩
section
variable {σ:St} {H:Hp} {te:TE} {R:It->Hp->Prop}
theorem bS {K:bp} (h:te σ H λx H1=>∃a,x= .ref a/\(((∃xs,SqL K H1 a xs)/\R (Ite K a) H1)∨((∃xs,SqT K H1 a xs)/\R (Itet K a) H1))):Er K te σ H R:=h
end
namespace ZP
noncomputable abbrev Busy (h:z1) (z TI TO T:fy) (O:JY):Prop:=h.get? z=ak {cls:= .type "zip",data:= .fields #[rawInt T,.bool O,.bool false,.ref TI,.ref TO]}
section
variable {prog:qc} {w:u7} {A:z3} {E:D9} {s:ib}
structure ZGot (h:z1) (lo:Nat) (xs ys:G') (as:I4):Prop where
 rise:as.Pairwise (· < ·)
 above:∀a∈as,lo<=a/\a < h.objs.size
 pairs:∀(j:Nat) (a:fy),as[j]? =ak a->∃x y,xs[j]? =ak x/\ys[j]? =ak y/\h.IsTuple a #[x,y]
structure ZSt (h:z1) (z TI TO i1 i2 l1 l2:fy) (lo:Nat) (xs ys:G') (i:Nat) (as:I4):Prop where
 zp:(i=0/\IsZip h z TI TO .none)∨∃T fl,Busy h z TI TO T fl/\as[0]? =ak T
 hI:IsPair h TI (.ref i1) (.ref i2)
 hO:∃a b,IsPair h TO a b
 h1:h.IsListIter i1 l1 i
 h2:h.IsListIter i2 l2 i
 hl1:h.IsList l1 xs
 hl2:h.IsList l2 ys
 len:as.length=i
 got:ZGot h lo xs ys as
structure Und (z TI TO i1 i2 l1 l2 S:fy) (lo:Nat):Prop where
 ap:ZipApart z TI TO i1 i2 l1 l2
 Sz:S≠z
 STI:S≠TI
 STO:S≠TO
 Si1:S≠i1
 Si2:S≠i2
 Sl1:S≠l1
 Sl2:S≠l2
 z:z < lo
 TO:TO < lo
 i1:i1 < lo
 i2:i2 < lo
 S:S < lo
structure New (h:z1) (z TI TO i1 i2 l1 l2:fy) (xs ys:G'):Prop where
 ap:ZipApart z TI TO i1 i2 l1 l2
 hz:IsZip h z TI TO .none
 hI:IsPair h TI (.ref i1) (.ref i2)
 hO:∃a b,IsPair h TO a b
 h1:h.IsListIter i1 l1 0
 h2:h.IsListIter i2 l2 0
 hl1:h.IsList l1 xs
 hl2:h.IsList l2 ys
end
end ZP
open PySem PySem.Spec PyProof.Rows
structure FunD (K:bp) (x qual:J9) (st:Mp) (f:fy) (fd:oe) (dv:hJ):Prop where
 ex:∃(oc:hJ) (od:J0) (T:fy) (kV doc pm:hJ) (an:J0) (cdv ct:hJ) (osl:Hx) (tc:hJ) (td:J0) (n:Nat) (tsl:Hx),
  fd=Kt x qual (fU st) (dq st) (ah st) (.ref T) kV doc pm an cdv ct/\K.lookup f=ak ⟨oc,od,.func fd,osl⟩/\LW K cdv qual=true/\K.lookup T=ak ⟨tc,td,.seq #[dv] n,tsl⟩
 kp:Ku K (.ref f)=true
section
variable {P:qc} {w:u7} {K:bp} {mg:F'} {base:z1}
theorem FunD.okX {x O:J9} {st:Mp} {f:fy} {fd:oe} {dv:hJ} {N ps:C'} {k:Nat} {sp:Sp} (F:FunD K x O st f fd dv) (S:aA N ps (ah st)) (len:∀vs H Q E,sp vs H Q E->vs.length=ps.length)
  (Z:∀(Y:hJ) (A:z3) (outer:f' Env) (s:ib) (H:Hp) (vs:f' V) (Q:VK) (E:XK),Room k (A.deeper (envOfC O (ah st) s.heap.objs.size f Y))->sp vs H Q E->
   ∃t,PSs ((cxOf (CX1 P w) P w K mg base N O (ah st) f Y A outer s H E).thr λ_=>E) (dq st) t/\t {nx:=λ_ H'=>Q .non H',rt:=Q} (start N vs) H):FnOk P w K mg base (CX1 P w) (k + 1) f fd ps sp:=by
 obtain⟨ζ,od,T,kV,η,α,an,Y,ct,δ,tc,td,n,γ,rfl,lk,β,_⟩:=F.ex;refine Ge lk β S len λA outer s H vs Q E ε ο=>?_;obtain⟨t,h,q⟩:=Z Y A outer s H vs Q E ε ο;exact⟨t,h.thr xp,q⟩
theorem FunD.binds {x O:J9} {st:Mp} {f:fy} {fd:oe} {dv:hJ} {ps:C'} {ds:E'} (F:FunD K x O st f fd dv)
  (h:∀(T:fy) (kV η α:hJ) (an:J0) (Y ct:hJ) (us:E'),(us++ds).length=ps.length->∃k:sh G'->Sem J4,bindArgs (Kt x O (fU st) (dq st) (ah st) (.ref T) kV η α an Y ct) ⟨us,[]⟩=(seqItems? (.ref T) >>=k)/\k (ak #[dv])=pure (ps.zip (us++ds))):md K fd ps ds:=by
 obtain⟨ι,od,T,kV,η,α,an,Y,ct,β,tc,td,n,Z,rfl,lk,δ,γ⟩:=F.ex;intro s us ε hl;obtain⟨k,θ,ζ⟩:=h T kV η α an Y ct us hl;exact BindsTo.of_defaults (T:=T) rfl (ε T _ γ) rfl θ ζ
theorem Gb {x O:J9} {st:Mp} {f T:fy} {γ tc dv:hJ} {od an td:J0} {β Z:Hx} {n:Nat} {kV η α Y ct:hJ} (l:K.lookup f=ak ⟨γ,od,.func (Kt x O (fU st) (dq st) (ah st) (.ref T) kV η α an Y ct),β⟩)
  (δ:K.lookup T=ak ⟨tc,td,.seq #[dv] n,Z⟩) (c:LW K Y O=true) (k:Ku K (.ref f)=true):FunD K x O st f (Kt x O (fU st) (dq st) (ah st) (.ref T) kV η α an Y ct) dv:=⟨⟨γ,od,T,kV,η,α,an,Y,ct,β,tc,td,n,Z,rfl,l,c,δ⟩,k⟩
end
section
variable {σ:St} {H:Hp} {Q:VK} {te:TE}
def BH (C:fy) (m:J9) (sp:Sp) (dvs:f' V) (W:XW) (tr:TA) (σ:St) (Q:VK) (x:V) (H:Hp):Prop:=∃a dx fs,x= .ref a/\H a=ak (.ins C dx fs)/\fs.lookup m=none/\tr σ H λvs H2=>sp (x::(vs++dvs)) H2 Q (W σ)
theorem c6 {C:fy} {m:J9} {sp:Sp} {dvs:f' V} {W:XW} {tr:TA} (h:te σ H (BH C m sp dvs W tr σ Q)):DW C m sp dvs W te tr σ H Q:=h
theorem cP {C dx p:fy} {m:J9} {fs:f' (J9×V)} {sp:Sp} {dvs:f' V} {W:XW} {tr:TA} (e:H p=ak (.ins C dx fs)) (l:fs.lookup m=none) (h:tr σ H λvs H2=>sp (.ref p::(vs++dvs)) H2 Q (W σ)):BH C m sp dvs W tr σ Q (.ref p) H:=⟨p,dx,fs,rfl,e,l,h⟩
end
noncomputable def Itzp (K:bp) (a b:fy):It:=
 ⟨λi H=>∃xs ys x y,SqL K H a xs/\SqL K H b ys/\xs[i]? =ak x/\ys[i]? =ak y,
  λi H x H'=>∃p u v,H p=none/\x= .ref p/\H'=upd H p (.tup [u,v])/\(∀xs,SqL K H a xs->xs[i]? =ak u)/\∀ys,SqL K H b ys->ys[i]? =ak v,
  λi H=>∃xs ys,SqL K H a xs/\SqL K H b ys/\xs.length=ys.length/\xs.length=i⟩
theorem BW {P:qc} {w:u7} {K:bp} {δ:f' z8} {k:Nat} {pos:Pos} (a b z TI TO i1 i2:fy) (D:ZipApart z TI TO i1 i2 a b):
  Turn P w K (.Tuple δ k pos) (Itzp K a b) [z,TI,TO,i1,i2] z (λi h=>IsZip h z TI TO .none/\IsPair h TI (.ref i1) (.ref i2)/\(∃u v,IsPair h TO u v)/\h.IsListIter i1 a i/\h.IsListIter i2 b i) where
 mem:=by simp
 obj:=λi h st c hb=>by
  obtain⟨hz,O,⟨u,v,ξ⟩,⟨o1,η,_,a6⟩,⟨o2,ζ,_,ψ⟩⟩:=st;simp only[rz,JV,L5] at hb;rcases hb with e | e | e | e | e
  ·rw[e];exact⟨_,hz,λv z=>by cases z⟩
  ·rw[e];exact⟨_,O,λv z=>by cases z⟩
  ·rw[e];exact⟨_,ξ,λv z=>by cases z⟩
  ·rw[e];exact⟨o1,η,λv z=>by rw[a6] at z;cases z⟩
  ·rw[e];exact⟨o2,ζ,λv z=>by rw[ψ] at z;cases z⟩
 keep:=λi h h' st k=>by
  obtain⟨hz,O,⟨u,v,ξ⟩,h1,h2⟩:=st;exact⟨k z @F _ hz,k TI @F _ O,⟨u,v,k TO @F _ ξ⟩,h1.at λo e=>k i1 @F o e,h2.at λo e=>k i2 @F o e⟩
 item:=by
  intro X hP hw hK hc i pins s σ H E I hf st hg;subst hP hw hK;obtain⟨xs,ys,x,y,qa,ω,hx,hy⟩:=hg;obtain⟨its,υ,π,a3⟩:=I.list qa;obtain⟨Y,τ,pb,χ⟩:=I.list ω;obtain⟨hz,O,ξ,h1,h2⟩:=st;have W:=R6 (prog:=X.prog) (w:=X.w) (A:=X.A) (I.ok.hd hc) z TI TO i1 i2 a b D its.toArray Y.toArray;have c2:i < its.length:=by have:=υ.length;have:=(dt.mp hx).1;omega
  have c1:i < Y.length:=by have:=τ.length;have:=(dt.mp hy).1;omega
  have a0:∀c∈[z,TI,TO,i1,i2],c < s.heap.objs.size:=λc hb=>by
   obtain⟨u,v,ξ⟩:=ξ;obtain⟨o1,η,_⟩:=h1;obtain⟨o2,ζ,_⟩:=h2;simp only[rz,JV,L5] at hb;rcases hb with e | e | e | e | e
   ·rw[e];exact hF hz
   ·rw[e];exact hF O
   ·rw[e];exact hF ξ
   ·rw[e];exact hF η
   ·rw[e];exact hF ζ
  refine W.item i s _ _ (by simp;omega) ⟨hz,O,ξ,h1,h2,π.isList,pb.isList⟩ λT β h' tk b9 hT φ α hk=>⟨_,rfl,W.go δ k pos i T _ _ _ α λc0 ο ρ=>?_⟩;obtain⟨x',y',a5,a4,rfl⟩:=b9;have b0:=W.apart i T h' α
  have ν:RelV x x':=by
   obtain⟨u,hu,r⟩:=υ.get hx;have Z:its[i]? =ak x':=by simpa using a5
   rw[hu] at Z;cases Z;exact r
  have ι:RelV y y':=by
   obtain⟨u,hu,r⟩:=τ.get hy;have γ:Y[i]? =ak y':=by simpa using a4
   rw[hu] at γ;cases γ;exact r
  have sub:∀c,c∉[z,TI,TO,i1,i2]->c∉[z,TO,i1,i2]:=λc h θ=>h (by
   simp only[rz,JV,L5] at θ ⊢;rcases θ with e | e | e | e<;>simp[e])
  have kk:∀c u,c∉[z,TI,TO,i1,i2]->s.heap.get? c=ak u->c0.get? c=ak u:=λc u hb q=>ρ c u (sub c hb) (hk c u (sub c hb) q);have fr:H T=none:=I.hok.fresh hT;refine⟨.ref T,upd H T (.tup [x,y]),I.laidCh (t':=tk) kk hT ⟨wH,[x',y'],.cons ν (.cons ι .nil),?_⟩ hf,rfl,⟨T,x,y,fr,rfl,rfl,λzs ε=>by rw[I.list_inj ε qa];exact hx,λzs ε=>by rw[I.list_inj ε ω];exact hy⟩,⟨ο.1,ο.2.1,ο.2.2.1,ο.2.2.2.1,ο.2.2.2.2.1⟩,λc hb=>?_⟩
  ·obtain⟨o,ho,r⟩:=φ;exact⟨o,ρ T o b0 ho,r⟩
  ·rw[aV (λe=>?_)]
   ·exact(hf c hb).1
   ·have:=a0 c hb;rw[e] at this;exact kf (fb this hT) (KY _)
 done:=by
  intro X hP hw hK hc i pins s σ H E I hf st hg;subst hP hw hK;obtain⟨xs,ys,qa,ω,hl,hn⟩:=hg;obtain⟨its,υ,π,a3⟩:=I.list qa;obtain⟨Y,τ,pb,χ⟩:=I.list ω;obtain⟨hz,O,ξ,h1,h2⟩:=st;have W:=R6 (prog:=X.prog) (w:=X.w) (A:=X.A) (I.ok.hd hc) z TI TO i1 i2 a b D its.toArray Y.toArray;have e:min its.toArray.size Y.toArray.size=i:=by have:=υ.length;have:=τ.length;simp;omega
  rw[e] at W
  have sub:∀c,c∉[z,TI,TO,i1,i2]->c∉[z,TO,i1,i2]:=λc h θ=>h (by
   simp only[rz,JV,L5] at θ ⊢;rcases θ with e | e | e | e<;>simp[e])
  exact W.done s _ _ ⟨hz,O,ξ,h1,h2,π.isList,pb.isList⟩ λh' tk hk=>⟨rfl,I.turnedCh (λc u hb q=>hk c u (sub c hb) q) hf⟩
 self:=λ_ _ _ _ _ st h=>MR st.1 h
def Gr (K:bp) (R:It->Hp->Prop) (x y:V) (H:Hp):Prop:=∃a b xs ys,x= .ref a/\y= .ref b/\SqL K H a xs/\SqL K H b ys/\xs.length=ys.length/\R (Itzp K a b) H
noncomputable def iZip (K:bp) (Y O:TE):TI:=fun σ H R=>Y σ H λx H1=>O σ H1 λy H2=>Gr K R x y H2
theorem G9 {K:bp} {Y O:TE} {σ:St} {H:Hp} {R:It->Hp->Prop} (h:Y σ H λx H1=>O σ H1 λy H2=>Gr K R x y H2):iZip K Y O σ H R:=h
section
variable {X:Cx} {K:bp}
theorem HI {ε Y:z8} {ο ξ:TE} {α:f' z8} {k:Nat} {tpos p pos:Pos} (hK:X.K=K) (g2:Gl X "zip") (n2:X.mg "zip"=none) (ι:PE X ε ο) (θ:PE X Y ξ)
  (h2:qQ [ε,Y] X.env=(false,eval ε X.env)::qQ [Y] X.env:=by rfl) (ρ:qQ [Y] X.env=[(false,eval Y X.env)]:=by rfl):
  PI X (.Tuple α k tpos) (.Call (.Name "zip" p) [ε,Y] [] pos) (iZip K ο ξ):=by
 subst hK;intro pins s σ H R I h;refine QA (jP I g2 n2 OJ (JX (thn (aa ι (aa θ af ρ) h2 pos pins s σ H (λvs H1=>match vs with | [x,y]=>Gr X.K R x y H1 | _=>False) I h) λus O ⟨vs,H1,I1,ζ,η⟩=>?_) h2 (by rw[ρ];rfl)))
 match vs,ζ,η with
 | [x,y],ζ,η=>
 obtain⟨a,b,xs,ys,ex,ey,sa,υ,hl,q⟩:=η;subst ex ey;cases ζ with
 | cons ψ r2=>
 cases r2 with
 | cons φ ω=>
 cases ω;cases ψ;cases φ;obtain⟨its,ra,π,a3⟩:=I1.list sa;obtain⟨a0,rb,pb,χ⟩:=I1.list υ;have la:a < O.heap.objs.size:=let ⟨o,e,_⟩:=π.isList;hF e
 have lb:b < O.heap.objs.size:=let ⟨o,e,_⟩:=pb.isList;hF e
 have fin:∀c∈[O.heap.objs.size + 4,O.heap.objs.size + 2,O.heap.objs.size + 3,O.heap.objs.size,O.heap.objs.size + 1],FpOk X pins H1 c:=λc hb=>by
  have Z:O.heap.objs.size<=c:=by
   simp only[rz,JV,L5] at hb;rcases hb with e | e | e | e | e<;>rw[e]<;>omega
  exact I1.fpOk Z (I1.hok.fresh Z)
 refine call_zip_2 π.isList pb.isList λh' ν β δ τ γ hsz k=>MR ν ?_;exact⟨O.heap.objs.size + 4,_,_,_,H1,rfl,I1.kept (t':=O.toks) k,BW a b _ _ _ _ _ (zipApart_new la lb),⟨ν,β,⟨_,_,δ⟩,τ,γ⟩,fin,q⟩
end
theorem Dq {K:bp} {n:Nat} {fx:D8} {g:TG} {tc:TT} {te:TE} {σ:St} {H1:Hp} {D:fy} {Q:Hp->Prop} {a b:fy} {xs ys:f' V} (hl:xs.length=ys.length) (O:Nat->f' V->Hp->Prop) (h0:O 0 [] (upd H1 D (.lst []))) (hq:∀i zs H,i<=xs.length->O i zs H->SqL K H a xs/\SqL K H b ys)
  (hs:∀i x y zs H p H',xs[i]? =ak x->ys[i]? =ak y->O i zs H->H p=none->Same H H'->H' p=ak (.tup [x,y])->g (.ref p) (dI n fx σ) H' fun α Z=>tc α Z λb δ=>if b=true then te α δ λv γ=>γ D=ak (.lst zs)/\zs.length < qb/\O (i + 1) (zs++[v]) (upd γ D (.lst (zs++[v]))) else O (i + 1) zs δ)
  (hd:∀zs H,O xs.length zs H->Q H):
  ∃W:Nat->Nat->f' V->Hp->Prop,(∃m,W 0 m [] (upd H1 D (.lst [])))/\∀i m zs H2,W i m zs H2->((Itzp K a b).stop i H2/\Q H2)∨
    ((Itzp K a b).go i H2/\∃N:f' V->Hp->Prop,(∀Y H',N Y H'->∃η,η < m/\W (i + 1) η Y H')/\∀x θ,(Itzp K a b).yld i H2 x θ->g x (dI n fx σ) θ fun α Z=>tc α Z λb δ=>
      if b=true then te α δ λv γ=>γ D=ak (.lst zs)/\zs.length < qb/\N (zs++[v]) (upd γ D (.lst (zs++[v]))) else N zs δ):=by
 refine⟨λi m zs H=>m=xs.length - i/\i<=xs.length/\O i zs H,⟨xs.length,@F,L0 _,h0⟩,?_⟩;rintro i m zs H ⟨rfl,hi,p⟩;obtain⟨ζ,ε⟩:=hq i zs H hi p;by_cases β:i < xs.length
 ·refine .inr ⟨⟨xs,ys,xs[i],ys[i]' @A,ζ,ε,by simp[β],by simp[show i < ys.length by omega]⟩,O (i + 1),λY H' ν=>⟨xs.length - (i + 1),by omega,rfl,β,ν⟩,λx H' y=>?_⟩;obtain⟨r,u,v,f,ο,ξ,π,ι⟩:=y;subst ο ξ;exact hs i u v zs H r _ (π xs ζ) (ι ys ε) p f (eT f) bg
 ·have e:i=xs.length:=by omega
  subst e;exact .inl ⟨⟨xs,ys,ζ,ε,hl,rfl⟩,hd zs H p⟩
noncomputable abbrev xBM:E':=[.type "ValueError",.type "Exception",.type "BaseException",.type "object"]
structure XOwn (K:bp) (C W f:fy):Prop where
 lk:∃nm q N bs sn sub ab col dd k0 k1 k2 k3 k5,K.lookup C=ak (excClassObj nm q C N bs (.ref W::xBM) true sn sub ab col dd k0 k1 k2 k3 k5 "ValueError.__new__")
 up:NO K W xBM "ValueError.__new__"=true
 init:z0 K (.ref C) "__init__"=ak (ak (.ref f))
 fn:O5 K (.ref f)=true
 kp:Ku K (.ref C)=true
 sa:z0 K (.ref C) "__setattr__"=ak (ak (.builtin "object.__setattr__"))
 mo:KH K C (.type "object")=ak true
 mv:KH K C (.type "ValueError")=ak true
section
variable {X:Cx} {pins:Dc} {σ:St} {H:Hp} {s:ib} {p C W f:fy} {fs:f' (J9×V)}
structure JS (K:bp) (W:fy):Prop where
 ga:LO K (.ref W) "__getattribute__"=ak (ak (.builtin "type.__getattribute__"))
 rd:Q6 K W (.type "type")=true
 fd:Q8 K (.ref W) (.type "type") "__init__"=ak (.val (.builtin "ValueError.__init__"))
end
end L2
namespace PySem
end PySem
namespace L2
open PySem PySem.Spec PyProof.Rows
end L2
namespace PySem
end PySem
namespace L2
open PySem PySem.Spec PyProof.Rows
noncomputable def del (H:Hp) (p:fy):Hp:=λb=>if b=p then none else H b
inductive PH (X:Cx) (Wo:XW):f' ExceptHandler->(Ends->XW)->Prop where
 | nil:PH X Wo [] (λ_=>Wo)
 | cons {G:fy} {g n:J9} {i:Nat} {gp hp:Pos} {b₀:Mp} {suite:f' Mp} {ts:TS} {hs:f' ExceptHandler} {WR:Ends->XW} (cg:Gw X.K G) (hg:Gl X g) (hm:X.mg g=ak (.ref G)) (hi:X.N[i]? =ak n) (hk:X.env.scope.names.lookup n=ak .local)
   (hs':∀pins e,PSs (X.mark pins e) (b₀::suite) ts) (hdb:(g == ("__debug__":J9))=false) (r:PH X Wo hs WR):PH X Wo (.ExceptHandler (ak (.Name g gp)) (ak n) (b₀::suite) hp::hs) (λD=>WTry X.K G i (WR D) ts D)
structure Gx (osc:LG) (ON N:C') (n:Nat) (fx:D8) (x0:J9) (sc:LG):Prop where
 kind:sc.kind= .function
 one:∃pre post,sc.names=pre++(x0,.cell)::post/\(∀y∈pre,y.2≠.cell)/\∀y∈post,y.2≠.cell
 its:sc.names.lookup x0=ak .cell
 own:∀y∈sc.names,y.2= .local->sc.names.lookup y.1=ak .local
 fre:∀y∈sc.names,y.2= .free->osc.names.lookup y.1=ak .cell∨osc.names.lookup y.1=ak .free
 len:N.length=n + fx.length
 frn:∀k,k < fx.length->∃x j,N[n + k]? =ak x/\fx[k]? =ak j/\ON[j]? =ak x/\sc.names.lookup x=ak .free
theorem rV {l b:fy} {xs zs:f' V} {H:Hp} {Q:VK} (e:H l=ak (.lst xs)) (O:H b=ak (.lst zs)) (hl:xs.length + zs.length<=qb) (n:l≠b) (h:∀H2,Upd H H2 l (.lst (xs++zs))->Q .non H2):Ab (.ref l) [.ref b] H Q:=by
 first
 | exact⟨l,b,xs,zs,rfl,rfl,e,O,hl,h _ Upd.of⟩
 | exact⟨l,b,xs,zs,rfl,rfl,e,O,hl,n,h _ Upd.of⟩
section
variable {σ:St} {H:Hp} {D:Ends} {t u:TS}
theorem G0 (h:∀R:St->Hp->Prop,(∀σ H,u D σ H->R σ H)->t {D with nx:=R} σ H):tSeq t u D σ H:=h _ λ_ _ q=>q
theorem s_go {R X:St->Hp->Prop} (e:∀σ H,X σ H->R σ H) (h:X σ H):R σ H:=e _ _ h
end
end L2
namespace ST
open PySem PySem.SetTable
theorem tz (l:D8) (Y:l.Pairwise (· < ·)) (j:Nat):∀(f lo hi:Nat),hi<=lo + f->lo<=hi->hi<=l.length->(∀k (h:k < l.length),k < lo->l[k] < j)->(∀k (h:k < l.length),hi<=k->j<=l[k])->
  below.go l.toArray j f lo hi<=l.length/\(∀k (h:k < l.length),k < below.go l.toArray j f lo hi->l[k] < j)/\(∀k (h:k < l.length),below.go l.toArray j f lo hi<=k->j<=l[k])
 | 0,lo,hi,h1,h2,α,ρ,δ=>⟨by show lo<=_;omega,λk h hk=>ρ k h hk,λk h hk=>δ k h (by have:lo<=k:=hk;omega)⟩
 | f + 1,lo,hi,h1,h2,α,ρ,δ=>by
   unfold below.go;by_cases h:lo < hi
   ·rw[pT h];dsimp only;have hm:(lo + hi) / 2 < l.length:=by omega
    have e:l.toArray.getD ((lo + hi) / 2) j=l[(lo + hi) / 2]:=by simp[O4,hm]
    rw[e];have pw:=Kq.mp Y;by_cases O:l[(lo + hi) / 2] < j
    ·rw[pT O];refine tz l Y j f _ hi @A @A α (λk hk β=>?_) δ;by_cases Z:k=(lo + hi) / 2
     ·subst Z;exact O
     ·exact Nat.lt_trans (pw k _ hk hm @A) O
    ·rw[oT O];refine tz l Y j f lo _ @A @A @A ρ (λk hk χ=>?_);by_cases Z:k=(lo + hi) / 2
     ·subst Z;omega
     ·have:=pw _ k hm hk @A;omega
   ·rw[oT h];exact⟨@A,ρ,λk hk χ=>δ k hk @A⟩
theorem kc {xs:Kw Nat} (O:xs.toList.Pairwise (· < ·)) (j:Nat):
  below xs j<=xs.toList.length/\(∀k (h:k < xs.toList.length),k < below xs j->xs.toList[k] < j)/\(∀k (h:k < xs.toList.length),below xs j<=k->j<=xs.toList[k]):=by
 have:=tz xs.toList O j xs.size 0 xs.size @A (L0 _) @F (λk h hk=>kf hk (J6 k)) (λk h hk=>kf h (by simp;omega));simpa[below] using this
theorem zy {xs:Kw Nat} (Y:xs.toList.Pairwise (· < ·)) (j:Nat):∀y∈xs.toList.take (below xs j),y < j:=λy O=>by
 obtain⟨k,hk,rfl⟩:=Kn.mp O;rw[JW] at hk;rw[MD];exact(kc Y j).2.1 k @A @A
theorem Bh {xs:Kw Nat} (Y:xs.toList.Pairwise (· < ·)) (j:Nat):∀y∈xs.toList.drop (below xs j),j<=y:=λy O=>by
 obtain⟨k,hk,rfl⟩:=Kn.mp O;rw[Ml] at hk;rw[Qm];exact(kc Y j).2.2 _ @A @A
theorem Cv {xs:Kw Nat} (O:xs.toList.Pairwise (· < ·)) {j:Nat} (Z:j∉xs.toList):(insertAt xs (below xs j) j).toList.Pairwise (· < ·):=by
 rw[toList_insertAt,PU];refine⟨O.sublist (Oj ..),Me.mpr ⟨λy hy=>?_,O.sublist (List.drop_sublist ..)⟩,λx Y y hy=>?_⟩
 ·have h1:=Bh O j y hy;have h2:y≠j:=λh=>Z (h ▸ PV hy);omega
 ·rcases rz.mp hy with rfl | hy
  ·exact zy O _ x Y
  ·have h1:=zy O j x Y;have h2:=Bh O j y hy;omega
theorem yL {xs:Kw Nat} (O:xs.toList.Pairwise (· < ·)) {i:Nat} (hi:i < xs.toList.length) {j:Nat} (h1:j<=xs.toList[i]) (h2:∀k (h:k < xs.toList.length),k < i->xs.toList[k] < j):below xs j=i:=by
 have s:=kc O j;by_cases h:below xs j < i
 ·have:=s.2.2 (below xs j) @A (ru _);have:=h2 (below xs j) @A h;omega
 ·by_cases h':i < below xs j
  ·have:=s.2.1 i hi h';omega
  ·omega
structure Tb (t:SetTable) (hs:I9):Prop where
 dm:t.dummies=#[]
 pn:t.plain=true
 rs:t.place.toList.Pairwise (· < ·)
 sz:t.place.toList.length=hs.length
 nf:hs.length * 5 < t.mask * 3
 k:(t.mask=7/\∀j∈t.place.toList,j<=7)∨((t.mask=31∨t.mask=127)/\t.place.toList.map (λn:Nat=>(n:Int))=hs)
theorem xq (j:Nat):has #[] j=false:=by unfold has;simp
theorem zP {t:SetTable} (hd:t.dummies=#[]) {j:Nat} (O:j∉t.place.toList):t.slot j= .empty:=by
 unfold slot;dsimp only;rw[oT,hd,xq,oT @C];intro h;have h:t.place[below t.place j]? =ak j:=by simpa using h
 exact O (by rw[<-JZ] at h;exact hR h)
noncomputable def t8 (p:D8):SetTable:={mask:=7,place:=p.toArray,dummies:=#[],finger:=0,led:=true,moves:=0,plain:=true}
noncomputable def p8 (b:Nat):D8:=(lB 8).filter b.testBit
noncomputable def ok8 (b h:Nat):Bool:=if (p8 b).length<=4 then (match (t8 (p8 b)).freeSlot h with | some (j,false)=>decide (j<=7)&& !(p8 b).contains j | _=>false) else true
theorem all8:∀b:Fin 256,∀h:Fin 32,ok8 b.1 h.1=true:=by decide +kernel
theorem F8 {t t':SetTable} (hm:t.mask=t'.mask) (O:t.place=t'.place) (hd:t.dummies=t'.dummies) (f:Nat->Int) (h:Int):∀n p,probe.go t f h n p=probe.go t' f h n p:=by
 obtain⟨m,p0,d,γ,l1,Z,Y⟩:=t;obtain⟨β,α,d',ζ,ε,ο,ξ⟩:=t';dsimp only at hm O hd;subst hm O hd;intro n
 induction n with
 | zero=>intro p;rfl
 | succ n ih=>
   intro p;unfold probe.go;simp only[ih];rfl
theorem A6 {t t':SetTable} (hm:t.mask=t'.mask) (O:t.place=t'.place) (hd:t.dummies=t'.dummies) (h:Int):t.freeSlot h=t'.freeSlot h:=by
 unfold PJ probe;rw[F8 hm O hd,hm];have:t.probeStart h=t'.probeStart h:=by unfold probeStart;rw[hm]
 rw[this]
noncomputable def bm:D8->Nat
 | []=>0
 | j::l=>2 ^ j||| bm l
theorem EC (k:Nat):∀l:D8,(bm l).testBit k=decide (k∈l)
 | []=>by unfold bm;simp
 | j::l=>by
   unfold bm;rw[NC,EC k l,pY,Li,QM,t4,t4,t4,rz];exact⟨λh=>h.imp Eq.symm id,λh=>h.imp Eq.symm id⟩
theorem IF:∀{l:D8},(∀j∈l,j<=7)->bm l < 2 ^ 8
 | [],_=>by decide
 | j::l,h=>Ou (xv @C (by have:=h j iv;omega)) (IF λk hk=>h k (lA _ hk))
theorem zZ:∀{l O:D8},l.Pairwise (· < ·)->O.Pairwise (· < ·)->(∀x,x∈l↔x∈O)->l=O
 | [],[],_,_,_=>rfl
 | [],y::O,_,_,h=>kf ((h y).mpr iv) @F
 | x::l,[],_,_,h=>kf ((h x).mp iv) @F
 | x::l,y::O,pa,pb,h=>by
   obtain⟨a,p⟩:=Me.mp pa;obtain⟨Y,Z⟩:=Me.mp pb;clear pa pb
   have e:x=y:=by
    rcases rz.mp ((h x).mp iv) with e | m
    ·exact e
    ·rcases rz.mp ((h y).mpr iv) with e | m'
     ·exact e.symm
     ·have:=Y x m;have:=a y m';omega
   subst e;refine y3 (x::·) (zZ p Z λz=>⟨λm=>?_,λm=>?_⟩)
   ·rcases rz.mp ((h z).mp (lA _ m)) with e | m'
    ·have:=a z m;omega
    ·exact m'
   ·rcases rz.mp ((h z).mpr (lA _ m)) with e | m'
    ·have:=Y z m;omega
    ·exact m'
theorem Jy {l:D8} (O:l.Pairwise (· < ·)) (h:∀j∈l,j<=7):p8 (bm l)=l:=by
 refine zZ (Mi _ Nq) O λx=>?_;unfold p8;rw[KB,EC,t4,zx];exact⟨λz=>z.2,λz=>⟨by have:=h x z;omega,z⟩⟩
theorem JG {t:SetTable} (hm:t.mask=7) (hd:t.dummies=#[]) (O:t.place.toList.Pairwise (· < ·)) (hl:∀j∈t.place.toList,j<=7) (ρ:t.place.toList.length<=4) {h:Nat} (Z:h < 32):
  ∃j,t.freeSlot (h:Int)=ak (j,false)/\j<=7/\j∉t.place.toList:=by
 have e:t.freeSlot (h:Int)=(t8 t.place.toList).freeSlot (h:Int):=A6 hm (by unfold t8;simp) hd _;have a:=all8 ⟨bm t.place.toList,IF hl⟩ ⟨h,Z⟩;dsimp only at a;unfold ok8 at a;rw[Jy O hl,pT ρ,<-e] at a;cases hf:t.freeSlot (h:Int) with
 | none=>rw[hf] at a;cases a
 | some q=>
   obtain⟨j,d⟩:=q;rw[hf] at a;cases d with
   | true=>cases a
   | false=>
     dsimp only at a;rw[Kb,t4] at a;exact⟨j,rfl,a.1,λY=>by simp[Y] at a⟩
theorem xH {h:Nat} (O:h < 32):bits (h:Int)=h:=by
 unfold bits;rw[Int.emod_eq_of_lt @A (by norm_cast;exact fb O @C)];rfl
theorem JF {t:SetTable} {h:Nat} (hm:31<=t.mask) (hd:t.dummies=#[]) (Y:h < 32) (O:h∉t.place.toList):t.freeSlot (h:Int)=ak (h,false):=by
 have hb:bits (h:Int) % (t.mask + 1)=h:=by rw[xH Y];exact MC @A
 unfold PJ probe probeStart;rw[hb];have:10 * turns t.mask=(10 * turns t.mask - 1) + 1:=by unfold turns;omega
 rw[this];unfold probe.go;rw[zP hd O];rfl
structure Ow (M:Nat) (owner:Kw (sh Nat)) (pre:I9):Prop where
 sz:owner.size=M + 1
 at':∀j,j<=M->owner.getD j none=pre.findIdx? (· == (j:Int))
def Sm (hs:I9):Prop:=∀h∈hs,∃n:Nat,h=(n:Int)/\n < 32
theorem Gd {M:Nat} {owner:Kw (sh Nat)} {i:Nat} (hs:owner.size=M + 1) (hi:i<=M) (h:owner.getD i none=none) (n p:Nat):layClean.free M owner (n + 1) i p=ak i:=by
 unfold layClean.free;obtain⟨m,hm⟩:∃m,runEnd M i + 1 - i=m + 1:=⟨runEnd M i - i,by unfold runEnd;split<;>omega⟩;rw[hm,Pr,List.find?_cons_of_pos]
 ·rfl
 ·show(owner.getD (i + 0) (ak 0)).isNone=true;have e:owner.getD i (ak 0)=owner.getD i none:=by simp[O4,show i < owner.size by omega]
  rw[Oz,e,h];rfl
theorem A8 {M:Nat} (η:31<=M) {f:sh (Kw (sh Nat)×Nat)->Int->sh (Kw (sh Nat)×Nat)} (hf:∀owner k h j,layClean.free M owner (turns M) (bits h % (M + 1)) (bits h)=ak j->f (ak (owner,k)) h=ak (owner.setIfInBounds j (ak k),k + 1)):
  ∀(hs pre:I9) (owner:Kw (sh Nat)),Ow M owner pre->Sm hs->(pre++hs).Nodup->∃O,hs.foldl f (ak (owner,pre.length))=ak (O,pre.length + hs.length)/\Ow M O (pre++hs)
 | [],pre,owner,o,_,_=>⟨owner,rfl,by rw[Kp];exact o⟩
 | h::hs,pre,owner,o,sm,nd=>by
   obtain⟨n,rfl,hn⟩:=sm h iv
   have β:(n:Int)∉pre:=by
    rw[MX] at nd;exact fun ε=>nd.2.2 _ ε _ iv rfl
   have hb:bits (n:Int) % (M + 1)=n:=by rw[xH hn];exact MC @A
   have Y:owner.getD n none=none:=by
    rw[o.at' n @A,P6]
    exactλx α=>by
     rw[J8];exactλe=>β (e ▸ α)
   have γ:layClean.free M owner (turns M) (bits (n:Int) % (M + 1)) (bits (n:Int))=ak n:=by
    rw[hb];exact Gd o.sz @A Y _ _
   have o':Ow M (owner.setIfInBounds n (ak pre.length)) (pre++[(n:Int)]):=by
    refine⟨by rw[Array.size_setIfInBounds,o.sz],λj ζ=>?_⟩;rw[List.findIdx?_append,<-o.at' j ζ];have ρ:j < owner.size:=by rw[o.sz];omega
    by_cases e:n=j
    ·subst e;rw[Y];simp[O4,ρ]
    ·have δ:¬((n:Int) == (j:Int))=true:=by rw[LR];omega
     simp[O4,ρ,e,List.findIdx?_cons,Array.getElem_setIfInBounds];cases owner[j]<;>simp<;>omega
   obtain⟨Z,δ,o2⟩:=A8 η hf hs (pre++[(n:Int)]) _ o' (λx α=>sm x (lA _ α)) (by rw[LM];exact nd);refine⟨Z,?_,by rw[LM] at o2;exact o2⟩;rw[La,hf _ _ _ _ γ,show pre.length + 1=(pre++[(n:Int)]).length by simp,δ];simp;omega
theorem Dy {M:Nat} (Z:31<=M) {hs:Kw Int} (sm:Sm hs.toList) (nd:hs.toList.Nodup):∃owner,layClean M hs=ak owner/\Ow M owner hs.toList:=by
 unfold layClean;rw[<-Array.foldl_toList]
 obtain⟨o',e,o⟩:=A8 Z (f:=λO h=>do
  let (owner,k) <-O
  let j <-layClean.free M owner (turns M) (bits h % (M + 1)) (bits h)
  pure (owner.setIfInBounds j (ak k),k + 1)) (λowner k h j e=>by
   show(layClean.free M owner (turns M) (bits h % (M + 1)) (bits h)).bind _=_;rw[e];rfl) hs.toList [] (Qz (M + 1) none) ⟨Array.size_replicate,λj Y=>by simp[O4,Nat.lt_succ_of_le Y]⟩ sm (by simpa using nd)
 refine⟨o',?_,by simpa using o⟩
 have α:hs.toList.foldl (λO h=>do
  let (owner,k) <-O
  let j <-layClean.free M owner (turns M) (bits h % (M + 1)) (bits h)
  pure (owner.setIfInBounds j (ak k),k + 1)) (ak (Qz (M + 1) none,0))=ak (o',0 + hs.toList.length):=e
 rw[α];rfl
noncomputable def liv (M:Nat) (hs:I9):A':=(lB (M + 1)).filterMap λ(j:Nat)=>(hs.findIdx? λx=>x == (j:Int)).map λk=>(j,k)
theorem xw {α β:Type} {f g:α->sh β}:∀{l:f' α},(∀x∈l,f x=g x)->l.filterMap f=l.filterMap g
 | [],_=>rfl
 | x::l,h=>by rw[M9,M9,h x iv,xw λy O=>h y (lA _ O)]
theorem pd {M:Nat} {hs:I9} {q:Nat×Nat}:q∈liv M hs↔q.1<=M/\hs.findIdx? (· == (q.1:Int))=ak q.2:=by
 unfold liv;rw[Oa];constructor
 ·rintro⟨j,O,e⟩;obtain⟨k,hk,rfl⟩:=KD.mp e;exact⟨by have:=zx.mp O;show j<=M;omega,hk⟩
 ·rintro⟨h,e⟩;exact⟨q.1,zx.mpr @A,by rw[e];rfl⟩
theorem Df {hs:I9} {j k:Nat} (h:hs.findIdx? (· == (j:Int))=ak k):hs[k]? =ak (j:Int):=by
 obtain⟨hk,e,_⟩:=Oe.mp h;rw[gs hk];exact y3 ak (by simpa using e)
theorem JN {hs:I9} (nd:hs.Nodup) {j k:Nat} (h:hs[k]? =ak (j:Int)):hs.findIdx? (· == (j:Int))=ak k:=by
 obtain⟨hk,e⟩:=dt.mp h;rw[Oe];refine⟨hk,by simp[e],λi hi=>?_⟩;have:=Kq.mp nd i k @A hk hi;simp only[LR,Qy];simpa[e] using this
theorem xk (M:Nat) (hs:I9):(liv M hs).Pairwise (λa b=>a.1 < b.1):=by
 unfold liv;rw[List.pairwise_filterMap];refine OU ?_ Nq;intro a b O p Z q Y;obtain⟨_,_,rfl⟩:=KD.mp Z;obtain⟨_,_,rfl⟩:=KD.mp Y;exact O
theorem CU {M:Nat} (Z:31<=M) {hs:I9} (sm:Sm hs) (nd:hs.Nodup):((liv M hs).map (·.2)).Perm (lB hs.length):=by
 rw[List.perm_ext_iff_of_nodup _ N9]
 ·intro k;rw[ov,zx];constructor
  ·rintro⟨q,O,rfl⟩;exact(dt.mp (Df (pd.mp O).2)).1
  ·intro hk;obtain⟨n,e,hn⟩:=sm _ (KU hk);exact⟨(n,k),pd.mpr ⟨by show n<=M;omega,JN nd (by rw[gs hk,e])⟩,rfl⟩
 ·rw[vr,MB];refine Of ?_ (xk M hs);intro a b ha hb Y e;have h1:=Df (pd.mp ha).2;have h2:=Df (pd.mp hb).2;rw[e,h2] at h1;have:=mu h1;omega
theorem wZ {α:Type} {es:Kw (Int×α)}:∀{L:A'},(∀q∈L,(es.toList.map (·.1))[q.2]? =ak (q.1:Int))->((L.map (·.2)).filterMap (es[·]?)).map (·.1)=(L.map (·.1)).map (λn:Nat=>(n:Int))
 | [],_=>rfl
 | q::L,h=>by
   have O:=h q iv;rw[ic,JZ] at O;obtain⟨e,he,Y⟩:=KD.mp O;rw[Ka,List.filterMap_cons_some he,Ka,Ka,Ka,Y,wZ λq O=>h q (lA _ O)]
theorem wR {t:SetTable} {es:Kw (Int×hJ)} {ψ M:Nat} (hw:sizeAbove ψ - 1=M) (θ:M=31∨M=127) (pn:t.plain=true) (sm:Sm (es.toList.map (·.1))) (nd:(es.toList.map (·.1)).Nodup) (nf:es.toList.length * 5 < M * 3):
  Tb (relayAll t es ψ).2.1 ((relayAll t es ψ).1.toList.map (·.1))/\(relayAll t es ψ).2.1.led=t.led:=by
 have υ:31<=M:=by omega
 have α:(es.map (·.1)).toList=es.toList.map (·.1):=Array.toList_map;obtain⟨owner,ζ,o⟩:=Dy υ (hs:=es.map (·.1)) (by rw[α];exact sm) (by rw[α];exact nd);rw[α] at o;generalize τ:es.toList.map (·.1)=hs at *
 have lhs:hs.length=es.size:=by rw[<-τ,cY,hE]
 have hl:(lB (M + 1)).filterMap (λj=>(owner.getD j none).map (j,·))=liv M hs:=by
  unfold liv;refine xw λj ε=>?_;rw[o.at' j (by have:=zx.mp ε;omega)]
 have γ:t.relaid (es.map (·.1)) ψ=ak ({mask:=M,place:=((liv M hs).map (·.1)).toArray,dummies:=#[],finger:=t.finger,led:=t.led,moves:=t.movedTo M,plain:=t.plain},((liv M hs).map (·.2)).toArray):=by
  unfold relaid laid;rw[hw,ζ];show ak _=ak _;rw[hl]
 have β:=CU υ sm nd;have ll:(liv M hs).length=es.size:=by rw[<-cY (·.2),β.length_eq,u2,lhs]
 have Y:=wZ (es:=es) (L:=liv M hs) λq δ=>by rw[τ];exact Df (pd.mp δ).2
 have O:(((liv M hs).map (·.2)).filterMap (es[·]?)).length=es.size:=by
  have:=y3 ML Y;rw[cY,cY,cY,ll] at this;exact this
 have hsz:(((liv M hs).map (·.2)).toArray.filterMap (es[·]?)).size=es.size:=by
  rw[<-hE (xs:=((liv M hs).map (·.2)).toArray.filterMap (es[·]?)),Mm];exact O
 have Z:coversAll ((liv M hs).map (·.2)).toArray es.size=true:=by
  unfold coversAll;rw[<-lhs];exact List.isPerm_iff.mpr β
 have η:relayAll t es ψ=((((liv M hs).map (·.2)).toArray.filterMap (es[·]?)),{mask:=M,place:=((liv M hs).map (·.1)).toArray,dummies:=#[],finger:=t.finger,led:=t.led,moves:=t.movedTo M,plain:=t.plain},false):=by
  unfold relayAll;rw[γ];dsimp only;rw[pT];rw[Z,z7,hsz];unfold Qi fill;simp only[u9,cY,ll,Kb,LR,t4];refine⟨trivial,?_⟩
  ·rw[hE] at nf;show es.size + 0<=M;omega
 rw[η];refine⟨⟨rfl,pn,?_,?_,?_,.inr ⟨θ,?_⟩⟩,rfl⟩
 ·show((liv M hs).map (·.1)).Pairwise (· < ·);rw[MB];exact xk M hs
 ·show((liv M hs).map (·.1)).length=_;rw[Mm,cY,cY,O,ll]
 ·show _ * 5 < M * 3;rw[Mm,cY,O];rw[hE] at nf;exact nf
 ·show((liv M hs).map (·.1)).map _=_;rw[Mm,Y]
theorem few {hs:I9} (sm:Sm hs) (nd:hs.Nodup):hs.length<=32:=by
 have:hs ⊆ (lB 32).map (λn:Nat=>(n:Int)):=λh O=>by
  obtain⟨n,rfl,hn⟩:=sm h O;exact ov.mpr ⟨n,zx.mpr hn,rfl⟩
 have:=List.Nodup.length_le_of_subset nd this;simpa using this
theorem IJ {t:SetTable} {es:Kw (Int×hJ)} {h:Nat} {x:hJ} (tb:Tb t (es.toList.map (·.1))) (sm:Sm (es.toList.map (·.1))) (nd:(es.toList.map (·.1)).Nodup) (hn:h < 32) (β:(h:Int)∉es.toList.map (·.1)):
  (layNew t es h x).2.2.1=false/\
  ((layNew t es h x).2.1.tooFull=false->Tb (layNew t es h x).2.1 ((layNew t es h x).1.toList.map (·.1)))/\
  ((layNew t es h x).2.1.tooFull=true->Tb (relayAll (layNew t es h x).2.1 (layNew t es h x).1 (grown (layNew t es h x).1.size)).2.1 ((relayAll (layNew t es h x).2.1 (layNew t es h x).1 (grown (layNew t es h x).1.size)).1.toList.map (·.1))):=by
 obtain⟨dm,pn,rs,sz,nf,k⟩:=tb;have η:(es.toList.map (·.1)).length=es.size:=by rw[cY,hE]
 rw[η] at sz nf;have ι:=QE t es h x
 obtain⟨j,hf,ο,hk⟩:∃j,t.freeSlot (h:Int)=ak (j,false)/\j∉t.place.toList/\((t.mask=7/\j<=7/\∀j∈t.place.toList,j<=7)∨((t.mask=31∨t.mask=127)/\j=h/\t.place.toList.map (λn:Nat=>(n:Int))=es.toList.map (·.1))):=by
  rcases k with ⟨φ,hl⟩ | ⟨mB,ε⟩
  ·obtain⟨j,a,b,c⟩:=JG φ dm rs hl @A hn;exact⟨j,a,c,.inl ⟨φ,b,hl⟩⟩
  ·have:h∉t.place.toList:=fun π=>β (by rw[<-ε];exact ov.mpr ⟨h,π,rfl⟩);exact⟨h,JF @A dm hn this,this,.inr ⟨mB,rfl,ε⟩⟩
 clear k
 have Z:(insertAt t.place (below t.place j) j).size=es.size + 1:=by
  rw[<-hE,(insertAt_perm _ _ _).length_eq,hE,OI,<-sz,hE]
 have χ:(insertAt es (below t.place j) ((h:Int),x)).size=es.size + 1:=by
  rw[<-hE,(insertAt_perm _ _ _).length_eq,hE,OI]
 have ρ:layNew t es h x=(insertAt es (below t.place j) ((h:Int),x),{t with place:=insertAt t.place (below t.place j) j},false,false):=by
  unfold layNew;rw[hf];dsimp only[Qt];rw[dm,xq,oT @C]
  have γ:({t with place:=insertAt t.place (below t.place j) j,dummies:=#[]}:SetTable).fits (insertAt es (below t.place j) ((h:Int),x)).size=true:=by
   unfold Qi fill;simp only[Z,χ,Kb,LR,t4];refine⟨trivial,?_⟩;show es.size + 1 + 0<=t.mask;omega
  unfold Pq;rw[γ,pT rfl];obtain⟨m,p0,d,τ,l1,ξ,ν⟩:=t;dsimp only at dm;subst dm;rfl
 rw[ρ] at ι ⊢
 have O:Sm ((insertAt es (below t.place j) ((h:Int),x)).toList.map (·.1))/\((insertAt es (below t.place j) ((h:Int),x)).toList.map (·.1)).Nodup:=by
  have Y:=ι.map (·.1);rw[N5,gA] at Y;refine⟨λy hy=>?_,Y.nodup_iff.mpr ?_⟩
  ·rcases px.mp (Y.mem_iff.mp hy) with hy | hy
   ·exact sm y hy
   ·rw[Ka,OW,hC] at hy;exact⟨h,hy,hn⟩
  ·rw[MX];refine⟨nd,@F,λa ha b hb=>?_⟩;rw[Ka,OW,hC] at hb;rw[hb];intro e;have e:a=(h:Int):=e;rw[e] at ha;exact β ha
 dsimp only
 have ψ:({t with place:=insertAt t.place (below t.place j) j}:SetTable).tooFull=decide ((es.size + 1) * 5≥t.mask * 3):=by
  unfold tooFull fill;rw[Z,dm];rfl
 refine⟨rfl,fun ζ=>⟨dm,pn,Cv rs ο,?_,?_,?_⟩,fun α=>?_⟩
 ·rw[cY,hE,hE,χ];exact Z
 ·rw[ψ,decide_eq_false_iff_not] at ζ;rw[cY,hE,χ];show _ < t.mask * 3;omega
 ·rcases hk with ⟨φ,θ,hl⟩ | ⟨mB,rfl,ε⟩
  ·refine .inl ⟨φ,λy hy=>?_⟩;rcases px.mp ((N5 (xs:=t.place) (x:=j)) ▸ (insertAt_perm _ _ _).mem_iff.mp hy) with hy | hy
   ·exact hl y hy
   ·rw[hC.mp hy];exact θ
  ·refine .inr ⟨mB,?_⟩;show(insertAt t.place (below t.place j) j).toList.map _=_;rw[toList_insertAt,toList_insertAt,gA,gA,Ka,Ka,Mx,Mx,Pc,Pc,ε]
 ·rw[ψ,t4] at α;rw[χ];have δ:=few O.1 O.2;rw[cY,hE,χ] at δ;rcases hk with ⟨φ,_⟩ | ⟨mB | mB,_⟩
  ·have ω:es.size=4:=by omega
   exact(wR (M:=31) (by rw[ω];decide +kernel) (.inl rfl) pn O.1 O.2 (by rw[hE,χ];omega)).1
  ·have ω:es.size=18:=by omega
   exact(wR (M:=127) (by rw[ω];decide +kernel) (.inr rfl) pn O.1 O.2 (by rw[hE,χ];omega)).1
  ·omega
theorem rh (t:SetTable) (es:Kw (Int×hJ)) (h:Int) (x:hJ):(layNew t es h x).2.1.led=t.led:=by
 unfold layNew;split
 ·dsimp only[Qt,Pq];split<;>(split<;>rfl)
 ·rfl
theorem Aa (t:SetTable) (es:Kw (Int×hJ)) (ψ:Nat):(relayAll t es ψ).2.1.led=t.led:=by
 unfold relayAll;cases O:t.relaid (es.map (·.1)) ψ with
 | none=>rfl
 | some q=>
   obtain⟨t',Y⟩:=q;dsimp only;split
   ·unfold relaid laid at O;cases Z:layClean (sizeAbove ψ - 1) (es.map (·.1)) with
    | none=>rw[Z] at O;cases O
    | some ow=>
      rw[Z] at O;have O:=mu O;have:=y3 Prod.fst O;rw[<-this]
   ·rfl
noncomputable def fin (t:SetTable) (es:Kw (Int×hJ)) (h:Int) (x:hJ):Kw (Int×hJ)×SetTable:=
 if (!(layNew t es h x).2.2.1&&(layNew t es h x).2.1.tooFull)=true then ((relayAll (layNew t es h x).2.1 (layNew t es h x).1 (grown (layNew t es h x).1.size)).1,(relayAll (layNew t es h x).2.1 (layNew t es h x).1 (grown (layNew t es h x).1.size)).2.1) else ((layNew t es h x).1,(layNew t es h x).2.1)
theorem Dd (t:SetTable) (es:Kw (Int×hJ)) (h:Int) (x:hJ):(fin t es h x).1.toList.Perm (es.toList++[(h,x)]):=by
 have:=QE t es h x;rw[N5] at this;unfold fin;split
 ·exact(relayAll_perm _ _ _).trans this
 ·exact this
theorem De (t:SetTable) (es:Kw (Int×hJ)) (h:Int) (x:hJ):(fin t es h x).2.fits (fin t es h x).1.size=true:=by
 unfold fin;split
 ·exact relayAll_fits _ _ _
 ·exact layNew_fits _ _ _ _
theorem Gf (t:SetTable) (es:Kw (Int×hJ)) (h:Int) (x:hJ):(fin t es h x).2.led=t.led:=by
 unfold fin;split
 ·exact(Aa _ _ _).trans (rh _ _ _ _)
 ·exact rh _ _ _ _
theorem Ir {t:SetTable} {es:Kw (Int×hJ)} {h:Nat} {x:hJ} (tb:Tb t (es.toList.map (·.1))) (sm:Sm (es.toList.map (·.1))) (nd:(es.toList.map (·.1)).Nodup) (hn:h < 32) (O:(h:Int)∉es.toList.map (·.1)):Tb (fin t es h x).2 ((fin t es h x).1.toList.map (·.1)):=by
 obtain⟨a,b,c⟩:=IJ (x:=x) tb sm nd hn O;unfold fin;rw[a,Bool.not_false,z7];split
 ·exact c (by assumption)
 ·exact b (by cases h:(layNew t es (↑_) x).2.1.tooFull<;>simp_all)
open PyProof.Rows
noncomputable abbrev byT (w:u7):Bool:=w.params.followText "set-order"
theorem sQ {k:Nat} (h:k < 32):hashInt (k:Int)=k:=by
 have:∀k:Fin 32,hashInt ((k.1:Nat):Int)=((k.1:Nat):Int):=by decide +kernel
 exact this ⟨k,h⟩
structure SI (w:u7) (o:P8) (ns:I9) (es:Kw (Int×hJ)) (ep:Nat) (t:SetTable):Prop where
 ex:o.ExactSet
 d:o.data= .set es ep t
 v:∀e∈es.toList,∃tk,e.2= .int e.1 tk
 p:(es.toList.map (·.1)).Perm ns
 f:t.fits es.size=true
 l:t.led= !byT w
 tb:byT w=false->Tb t (es.toList.map (·.1))
def SIs (w:u7) (h:z1) (a:fy) (ns:I9):Prop:=∃o es ep t,h.get? a=ak o/\SI w o ns es ep t
section
variable {prog:qc} {w:u7} {A:z3} {E:D9} {s:ib}
theorem SI.elems {o:P8} {ns:I9} {es:Kw (Int×hJ)} {ep:Nat} {t:SetTable} (S:SI w o ns es ep t) (sm:Sm ns):ElemsOf (intKind prog w) es.toList:=λe he=>by
 obtain⟨tk,O⟩:=S.v e he;obtain⟨n,Y,hn⟩:=sm e.1 (S.p.mem_iff.mp (ov.mpr ⟨e,he,rfl⟩));refine⟨⟨e.1,?_,?_⟩,?_⟩
 ·rw[O];exact Py prog w _ _
 ·show e.1=hashInt e.1;rw[Y,sQ hn]
 ·rw[O];rfl
theorem SI.few {o:P8} {ns:I9} {es:Kw (Int×hJ)} {ep:Nat} {t:SetTable} (S:SI w o ns es ep t) (sm:Sm ns) (nd:ns.Nodup):es.size<=32:=by
 have:=S.p.length_eq;rw[cY,hE] at this;have:=ST.few sm nd;omega
theorem GD {a:fy} {ns:I9} {k:Nat} {tk:Tok} {Q:JY->ib->Prop} (hk:k < 32) (sm:Sm ns) (nd:ns.Nodup) (ξ:(k:Int)∉ns) (S:SIs w s.heap a ns)
  (h:∀h',Ll a s.heap h'->SIs w h' a (ns++[(k:Int)])->Q true {s with heap:=h'}):oi (qA prog w) A (setAddHashed a (.int k tk) (k:Int)) Q E s:=by
 obtain⟨o,es,ep,t,ho,S⟩:=S;have τ:=S.elems (prog:=prog) sm;have c2:=S.few sm nd;have hb:es.size < scanBound:=by unfold scanBound;omega
 have ρ:(intKind prog w).is (k:Int) (.int (k:Int) tk)=true:=Py prog w _ _
 have γ:es.toList.findIdx? (λe=>(intKind prog w).is (k:Int) e.2)=none:=by
  rw[P6];intro e he;obtain⟨a0,e2⟩:=S.v e he;rw[Qn];intro hz;rw[e2] at hz;have:=(intKind prog w).inj _ _ _ hz (Py prog w e.1 a0);exact ξ (by rw[this];exact S.p.mem_iff.mp (ov.mpr ⟨e,he,rfl⟩))
 have put:∀{s':ib} {χ O:Kw (Int×hJ)} {t0 t':SetTable} {ζ:Nat} {Q':Hy},(∃o',s'.heap.get? a=ak o'/\o'.ExactSet/\o'.data= .set χ ζ t0)->O.size<=64->
   (∀o',(s'.heap.update a (Qg O t')).get? a=ak o'->o'.ExactSet->o'.data= .set O (ζ + 1) t'->Q' () {s' with heap:=s'.heap.update a (Qg O t')})->oi (qA prog w) A (storeSet a O t') Q' E s':=by
  intro s' χ O t0 t' ζ Q' ⟨o',α,hx,hd⟩ hz hq;refine wpAny_storeSet_of α hd ?_ (fits_of_scanBound (by unfold scanBound;omega));have:=KF (Qg O t') α (by rw[putSet_of O t' hd];rfl);rw[putSet_of O t' hd] at this;exact hq _ this hx rfl
 have ο:=Dd t es (k:Int) (.int k tk);have c1:=De t es (k:Int) (.int k tk);have c0:=Gf t es (k:Int) (.int k tk);have b9:byT w=false->Tb (fin t es (k:Int) (.int k tk)).2 ((fin t es (k:Int) (.int k tk)).1.toList.map (·.1)):=λhw=>Ir (S.tb hw) (λy hy=>sm y (S.p.mem_iff.mp hy)) (S.p.nodup_iff.mpr nd) hk (λz=>ξ (S.p.mem_iff.mp z))
 have ε:∀h' o' Y,Ll a s.heap h'->h'.get? a=ak o'->o'.ExactSet->o'.data= .set (fin t es (k:Int) (.int k tk)).1 Y (fin t es (k:Int) (.int k tk)).2->Q true {s with heap:=h'}:=by
  intro h' o' Y Z α hx hd;refine h h' Z ⟨o',_,Y,_,α,hx,hd,λe he=>?_,?_,c1,c0.trans S.l,b9⟩
  ·rcases px.mp (ο.mem_iff.mp he) with he | he
   ·exact S.v e he
   ·rw[hC.mp he];exact⟨tk,rfl⟩
  ·refine(ο.map (·.1)).trans ?_;rw[gA];exact S.p.append_right _
 unfold setAddHashed setAddHashedIn;refine M3 (ew (Nl ho S.d S.f ?_));dsimp only;rw[byScan_of (x:= .int (k:Int) tk) rfl hb τ,pT rfl];unfold setAddByScan;refine ew (ew (OE (ew ?_)));have η:=wpAny_setScan_of (A:=A) (E:=E) (adding:=true) (Q:=λr s'=>r= .absent/\s'=s) ρ ho S.d S.f τ (by rw[γ];exact⟨rfl,rfl⟩);rw[show(intKind prog w).hash (k:Int)=(k:Int) from sQ hk] at η;refine LQ η ?_ (λ_ _ e=>e);rintro r0 ι ⟨rfl,θ⟩;rw[θ];clear θ ι;dsimp only;have π:∀(b:JY) {β:ib} {Q':Hy},Q' () β->oi (qA prog w) A (match b with | true=>rule "set.scan.the-table-gave-way" | false=>pure ()) Q' E β:=λb _ _ hq=>by cases b;exact hH hq;exact OE hq
 have δ:∀{R:sh JY->ib->Prop},(∀h',Ll a s.heap h'->(∃o' Y,h'.get? a=ak o'/\o'.ExactSet/\o'.data= .set (fin t es (k:Int) (.int k tk)).1 Y (fin t es (k:Int) (.int k tk)).2)->R (ak true) {s with heap:=h'})->
   oi (qA prog w) A (do
    storeSet a (layNew t es (k:Int) (.int k tk)).1 (layNew t es (k:Int) (.int k tk)).2.1
    if (!(layNew t es (k:Int) (.int k tk)).2.2.1&&(layNew t es (k:Int) (.int k tk)).2.1.tooFull)=true then do
     (match (relayAll (layNew t es (k:Int) (.int k tk)).2.1 (layNew t es (k:Int) (.int k tk)).1 (grown (layNew t es (k:Int) (.int k tk)).1.size)).2.2 with | true=>rule "set.scan.the-table-gave-way" | false=>pure ())
     storeSet a (relayAll (layNew t es (k:Int) (.int k tk)).2.1 (layNew t es (k:Int) (.int k tk)).1 (grown (layNew t es (k:Int) (.int k tk)).1.size)).1 (relayAll (layNew t es (k:Int) (.int k tk)).2.1 (layNew t es (k:Int) (.int k tk)).1 (grown (layNew t es (k:Int) (.int k tk)).1.size)).2.1
     pure (ak true)
    else pure (ak true)) R E s:=by
  intro R φ
  have a5:(layNew t es (k:Int) (.int k tk)).1.size<=64:=by
   have:=(QE t es (k:Int) (.int k tk)).length_eq;rw[hE,hE,OI] at this;omega
  have a4:(relayAll (layNew t es (k:Int) (.int k tk)).2.1 (layNew t es (k:Int) (.int k tk)).1 (grown (layNew t es (k:Int) (.int k tk)).1.size)).1.size<=64:=by
   have:=(relayAll_perm (layNew t es (k:Int) (.int k tk)).2.1 (layNew t es (k:Int) (.int k tk)).1 (grown (layNew t es (k:Int) (.int k tk)).1.size)).length_eq;rw[hE,hE] at this;omega
  refine ew (put ⟨o,ho,S.ex,S.d⟩ a5 λo1 ν ω υ=>?_);unfold fin at φ;split
  ·rename_i hc;rw[pT hc] at φ;refine ew (π _ (ew (put ⟨o1,ν,ω,υ⟩ a4 λo2 b0 a6 ψ=>hH ?_)));exact φ _ ((K9 _ a _).trans (K9 _ a _)) ⟨o2,_,b0,a6,ψ⟩
  ·rename_i hc;rw[oT hc] at φ;exact hH (φ _ (K9 _ a _) ⟨o1,_,ν,ω,υ⟩)
 refine ew (π _ ?_);split
 ·refine ew ?_;rw[hashByValue_scannable 8 rfl];refine hH ?_;rw[pT (show plainKind (.int (k:Int) tk)=true from rfl)];refine δ λh' Z ⟨o',Y,a1,a2,a3⟩=>?_;exact hH (ε h' o' Y Z a1 a2 a3)
 ·refine ew (hH ?_);rw[pT rfl];refine δ λh' Z ⟨o',Y,a1,a2,a3⟩=>?_;exact hH (ε h' o' Y Z a1 a2 a3)
end
theorem SIs.at' {w:u7} {h h':z1} {a:fy} {ns:I9} (S:SIs w h a ns) (hk:∀o,h.get? a=ak o->h'.get? a=ak o):SIs w h' a ns:=by
 obtain⟨o,es,ep,t,ho,x⟩:=S;exact⟨o,es,ep,t,hk o ho,x⟩
theorem SIs.new (w:u7) (h:z1) {a:fy} (e:h.get? a=ak {cls:= .type "set",dict:=none,data:= .set #[] 0 (.fresh 0 0 (!byT w))}):SIs w h a []:=
 ⟨_,#[],0,_,e,⟨⟨rfl,rfl,rfl⟩,rfl,λe he=>by simp at he,@F,rfl,rfl,λ_=>⟨rfl,rfl,by simp[Np],by simp[Np],by simp[Np],.inl ⟨rfl,λj O=>by simp[Np] at O⟩⟩⟩⟩
section
variable {prog:qc} {w:u7} {A:z3} {R:J2} {I:fy} {fp wr:I4} {G:Kw GenState->Kw GenState->Prop} {P:Nat->hJ->Prop} {St:Nat->ib->Prop}
theorem CQ {ns:D8} (W:WalksS prog w A.in1 I fp wr G ns.length P St) (S:fy) (Y:S∉fp) (ο:∀i v,P i v->∃n t,ns[i]? =ak n/\v= .int (n:Int) t) (sm:∀n∈ns,n < 32) (nd:ns.Nodup):
  ∀(k i:Nat) (s:ib),ns.length - i=k->i<=ns.length->St i s->SIs w s.heap S ((ns.take i).map (λn:Nat=>(n:Int)))->
    (∀s',Moved (S::wr) G s s'->SIs w s'.heap S (ns.map (λn:Nat=>(n:Int)))->R (.ok (.ret .none)) s')->
    codeAny (qA prog w) A (.builtin "set.update.loop" ⟨[.ref S,.ref I],[]⟩) R s:=by
 have O:S∉wr:=λz=>Y (W.sub _ z);have up:∀b∈wr,b∈S::wr:=λ_ z=>lA _ z;intro k
 induction k with
 | zero=>
   intro i s χ τ st Z θ;obtain rfl:i=ns.length:=by omega
   rw[vu] at Z;refine Lu F.entry_set_update_loop ?_;rw[LX F.plain_set_update_loop _];exact ew (m:=pyNext (.ref I)) (W.done s _ _ st λs' mv=>hH (θ s' (mv.mono up) (Z.at' λo e=>mv.heap S _ O e)))
 | succ k ih=>
   intro i s χ τ st Z θ;have lt:i < ns.length:=by omega
   refine Lu F.entry_set_update_loop ?_;rw[LX F.plain_set_update_loop _];refine ew (m:=pyNext (.ref I)) (W.item i s _ _ lt st λv s' ρ ι mv=>?_);obtain⟨n,tk,hn,rfl⟩:=ο i v ρ;have ζ:=sm n (hR hn);have η:=Z.at' (h':=s'.heap) λo e=>mv.heap S _ O e;refine ew (m:=holding [Om (n:Int) tk] (setAdd S (.int (n:Int) tk))) (M3 ?_);unfold setAdd;refine M3 (ew ((intKind prog w).pyHash (k:=(n:Int)) (Py _ _ _ _) ?_))
   have φ:(n:Int)∉(ns.take i).map (λn:Nat=>(n:Int)):=λz=>by
    obtain⟨m,hm,e⟩:=ov.mp z;have e:m=n:=NG e;subst e;obtain⟨j,π,e⟩:=Kn.mp hm;rw[JW] at π;rw[MD] at e;have:=Kq.mp nd j i @A lt @A;rw[e,(dt.mp hn).2] at this;exact this rfl
   show oi _ _ (setAddHashed S (.int (n:Int) tk) (hashInt (n:Int))) _ _ _;rw[sQ ζ];refine GD (s:={s' with toks:=s'.toks + 1}) ζ (λy ξ=>by obtain⟨m,hm,rfl⟩:=ov.mp ξ;exact⟨m,rfl,sm m (NS hm)⟩) ?_ φ η λh' ν ε=>?_
   ·exact(nd.sublist (Oj ..)).map _ (λa b β e=>β (NG e))
   have δ:SIs w h' S ((ns.take (i + 1)).map (λn:Nat=>(n:Int))):=by
    rw[Lo,hn,gA];exact ε
   refine hH ⟨plainId_quiet F.plain_set_update_loop _,ih (i + 1) _ @A lt (W.frame _ s' _ _ ι (NB _) λb hb o e=>?_) δ fun υ α γ=>?_⟩
   ·rw[ν.2 b (λz=>Y (z ▸ hb))];exact e
   ·refine θ υ (Moved.trans W.gtrans ((mv.mono up).then_heap (NB _) λb o hb e=>?_) α) γ;rw[ν.2 b (λz=>hb (by rw[z];exact iv))];exact e
end
section
variable {prog:qc} {w:u7} {A:z3} {E:D9} {s:ib}
noncomputable abbrev nso (w:u7):Obj:={cls:= .type "set",dict:=none,data:= .set #[] 0 (.fresh 0 0 (!byT w))}
theorem Dx (a:hJ) {Q:D9} (h:Q (.ref s.heap.objs.size) {s with heap:=s.heap.push (nso w)}):
  codeAny (qA prog w) A (.call (.builtin "set.__new__") ⟨[.type "set",a],[]⟩) (wants Q E) s:=by
 refine codeAny_of_tree (show oi _ A.in1 (checkBuiltinCall "set.__new__" ⟨[.type "set",a],[]⟩ >>=λ_=>again (.builtin "set.__new__" ⟨[.type "set",a],[]⟩)) _ _ s from ?_);refine ew (QB (F.newCall_set_1 a) (hH ⟨plainId_quiet F.plain_set_new _,Lu F.entry_set_new ?_⟩));rw[LX F.plain_set_new _];unfold Builtin.«set.__new__» Builtin.Frozenset.newClass;have O:=sub_set_self;obtain⟨Y,g,d,tk,os⟩:=s;dsimp only
 wp_walk
 refine P2 (hH ?_);dsimp only;simp only[newObj];exact ew (wpAny_alloc (hH (hH h)))
theorem call_set {l:fy} {Y:G'} {ns:D8} {Q:D9} (hh:A.handled=none) (hl:s.heap.IsList l Y) (hi:IntsAre Y.toList (ns.map (λn:Nat=>(n:Int)))) (sm:∀n∈ns,n < 32) (nd:ns.Nodup)
  (h:∀(h':z1) (tk:Nat),SIs w h' s.heap.objs.size (ns.map (λn:Nat=>(n:Int)))->s.heap.objs.size < h'.objs.size->(∀b o,s.heap.get? b=ak o->h'.get? b=ak o)->Q (.ref s.heap.objs.size) {s with heap:=h',toks:=tk}):
  oi (qA prog w) A (call (.type "set") [.ref l]) Q E s:=by
 obtain⟨c,tl,c1⟩:=F.called_set.mro;have a4:=F.called_set.made;have b9:=F.called_set.sub;have hsz:Y.size=ns.length:=by have:=IntsAre.length hi;rw[cY,hE] at this;exact this
 refine Px (codeAny_of_tree (show oi _ _ (callAny (.type "set") _) _ _ _ from ?_));refine hH ⟨Ob _ (by decide +kernel),Lu F.entry_type_call ?_⟩;rw[Around.under_plain (weight_type_call_type "set" [.ref l] []) rfl];have h1:=F.called_set.notType;have h2:=F.called_set.canCreate;have ν:=F.typeCall_set_1 (.ref l)
 repeat (any_goals (first | assumption | wp_step))
 refine MH (Dx (.ref l) (E:=E) (Q:=λobj β=>obj= .ref s.heap.objs.size/\β={s with heap:=s.heap.push (nso w)}) ⟨rfl,rfl⟩) λr β hr=>?_;rcases r with e | fl
 ·exact hr
 cases fl with
 | ret obj=>
   obtain⟨rfl,rfl⟩:=hr;have hS:(s.heap.push (nso w)).get? s.heap.objs.size=ak (nso w):=pB _ rfl;have hT:Shared.TypeIs {s with heap:=s.heap.push (nso w)} (.ref s.heap.objs.size) "set":=⟨_,hS,rfl⟩;have c3:=F.called_set.init.lookup;have ξ:=F.called_set.init.bind (.ref s.heap.objs.size)
   repeat (any_goals (first | assumption | wp_step))
   refine MH (codeAny_call_builtin (R:=wants (λr α=>r= .none/\∃h' tk,α={s with heap:=h',toks:=tk}/\SIs w h' s.heap.objs.size (ns.map (λn:Nat=>(n:Int)))/\s.heap.objs.size < h'.objs.size/\(∀b o,s.heap.get? b=ak o->h'.get? b=ak o)) E) F.called_set.init.plain F.entry_set_init (check_set_init_1 hT ?_)) fun γ α Z=>?_
   ·obtain⟨ol,ζ,τ,nl,φ⟩:=hl;obtain⟨b0,ω,O,π⟩:=ol;dsimp only at τ φ;subst τ φ;have δ:=gB (nso w) ζ;have c0:=F.sub_list_set;have υ:=F.sub_list_frozenset;have c2:(Md "list" == Md "dict")=false:=by decide
    have hl1:(s.heap.push (nso w)).IsList l Y:=⟨_,δ,rfl,nl,rfl⟩;unfold Builtin.«set.__init__» noKeywords Builtin.Frozenset.updateFrom;generalize a6:pyIter=PI
    wp_walk
    subst a6;refine M8 hl1 (ew (Pz ?_));have ι:l < s.heap.objs.size:=hF ζ;have η:l≠(s.heap.push (nso w)).objs.size:=by rw[KP];exact JU (LV ι)
    have W:=(Walks.list (prog:=prog) (w:=w) (A:=A.in1.in1.in1) (by simp[hh]) (s.heap.push (nso w)).objs.size l η Y).toS;rw[hsz] at W
    have a5:s.heap.objs.size∉[(s.heap.push (nso w)).objs.size,l]:=by
     rw[KP];simp only[rz,JV,L5,not_or];exact⟨JU (L1 _),LB ι⟩
    refine CQ W s.heap.objs.size a5 (λi v hv=>?_) sm nd (ns.length - 0) 0 _ @A (L0 _) ⟨⟨_,pB _ rfl,rfl,rfl⟩,hl1.push _⟩ (SIs.new w _ (gB _ hS)) λs' mv ο=>?_
    ·obtain⟨t,e⟩:=IntsAre.int_at hi i v (by rw[JZ];exact hv);have θ:i < ns.length:=by rw[<-hsz];exact(M0.mp hv).1
     refine⟨ns[i],t,gs θ,?_⟩;rw[e,eh,ic,gs θ];rfl
    ·obtain⟨h',g',d',ρ,ψ⟩:=s';obtain rfl:g'=s.gens:=mv.gens;obtain rfl:d'=s.drawn:=mv.drawn;obtain rfl:ψ=s.os:=mv.os;obtain⟨χ,_,_,_,a0,_⟩:=id ο;refine hH (hH ⟨rfl,h',ρ,rfl,ο,hF a0,λb o e=>?_⟩);have hb:=hF e;exact mv.heap b o (by rw[KP];simp only[rz,JV,L5,not_or];exact⟨JU hb,JU (LV hb)⟩) (gB _ (gB _ e))
   ·rcases γ with e | fl₂
    ·exact Z
    cases fl₂ with
    | ret r=>
      obtain⟨rfl,h',tk,rfl,a1,a2,ε⟩:=Z
      repeat (any_goals (first | assumption | wp_step))
      exact h _ _ a1 a2 ε
    | _=>exact Z.elim
 | _=>exact hr.elim
end
theorem Bu {xs:Kw Nat} (O:xs.toList.Pairwise (· < ·)) {j:Nat} (h2:∀k (h:k < xs.toList.length),xs.toList[k] < j):below xs j=xs.toList.length:=by
 have s:=kc O j;by_cases h:below xs j < xs.toList.length
 ·have:=s.2.2 _ h (ru _);have:=h2 _ h;omega
 ·omega
noncomputable def ord (w:u7) (a:fy) (ep:Nat) (es:Kw (Int×hJ)):Kw (Int×hJ):=if byT w=true then pickOrder (w.params.setOrder a ep) es else es
noncomputable def slt (w:u7) (t:SetTable) (i:Nat):Nat:=if byT w=true then 0 else if i=0 then 0 else t.place.toList.getD (i - 1) 0 + 1
theorem Bc {α:Type}:∀(l:f' α) (i:Nat) (h:i < l.length),(l[i]::l.eraseIdx i).Perm l
 | x::l,0,_=> .rfl
 | x::l,i + 1,h=>(List.Perm.swap x _ _).trans ((Bc l i (by simpa using h)).cons x)
theorem Aj {α:Type} (f:Nat->Nat):∀(n k:Nat) (l:f' α) (out:Kw α),l.length<=n->(OO f n k l out).toList.Perm (out.toList++l)
 | 0,k,l,out,h=>by
   have:l=[]:=MN @A;subst this;unfold OO;simp
 | n + 1,k,l,out,h=>by
   unfold OO;cases O:l[f k % l.length]? with
   | none=>
     have:l.length=0:=by
      by_cases hz:l.length=0
      ·exact hz
      ·have:=P5.mp O;have:=Mj (f k) (show 0 < l.length by omega);omega
     have:l=[]:=MN this;subst this;simp
   | some x=>
     dsimp only;obtain⟨hl,e⟩:=dt.mp O;refine(Aj f n (k + 1) _ _ (by rw[NT];split<;>omega)).trans ?_;rw[N5,LM];refine List.Perm.append_left _ ?_;rw[List.singleton_append,<-e];exact Bc l _ hl
theorem ord_perm (w:u7) (a:fy) (ep:Nat) (es:Kw (Int×hJ)):(ord w a ep es).toList.Perm es.toList:=by
 unfold ord;split
 ·have:=Aj (w.params.setOrder a ep) es.size 0 es.toList #[] @F;simpa[pickOrder] using this
 ·exact .rfl
section
variable {prog:qc} {w:u7} {A:z3} {E:D9} {s:ib}
theorem zf {Q:JY->ib->Prop} (h:Q (byT w) s):oi (qA prog w) A setsByText Q E s:=by
 unfold setsByText;exact ew (P2 (hH h))
theorem ET {a:fy} {o:P8} {ns:I9} {es:Kw (Int×hJ)} {ep:Nat} {t:SetTable} {i:Nat} {Q:sh (hJ×Nat)->ib->Prop} (ho:s.heap.get? a=ak o) (S:SI w o ns es ep t) (hi:i<=es.size)
  (h:Q ((ord w a ep es)[i]?.map λe=>(e.2,slt w t (i + 1))) s):oi (qA prog w) A (setNext a (slt w t i) i ep) Q E s:=by
 unfold setNext;refine ew (Nl ho S.d S.f ?_);dsimp only;refine ew (zf ?_);unfold ord slt at h;unfold slt;cases hb:byT w with
 | true=>
   rw[hb] at h;simp only[↓reduceIte] at h ⊢;rw[oT @F];refine ew ?_;unfold setWalk;refine ew (Nl ho S.d S.f ?_);dsimp only;refine ew (zf ?_);rw[hb,pT rfl];refine ew (P2 (hH (hH h)))
 | false=>
   have tb:=S.tb hb;rw[hb] at h;have hl:=S.l;rw[hb] at hl;have hsz:t.place.toList.length=es.size:=by rw[tb.sz,cY,hE]
   simp only[Qd,↓reduceIte] at h ⊢;show oi _ _ (if (!t.plain&&decide (es.size > 1))=true then _ else _) _ _ s;rw[tb.pn,oT @F];refine ew (show oi _ _ (if (!t.led&& !es.isEmpty)=true then unsupported _ else pure ()) _ _ s from ?_);rw[hl,oT @F];refine hH (hH ?_);have ν:=Kq.mp tb.rs;by_cases Y:i < es.size
   ·have O:below t.place (if i=0 then 0 else t.place.toList.getD (i - 1) 0 + 1)=i:=by
     refine yL tb.rs @A ?_ ?_
     ·by_cases α:i=0
      ·rw[pT α];omega
      ·rw[oT α,eh,gs @A];have:=ν (i - 1) i @A @A @A;exact this
     ·intro k hk β;rw[oT @A,eh,gs @A];show _ < t.place.toList[i - 1] + 1;by_cases π:k=i - 1
      ·subst π;omega
      ·have:=ν k (i - 1) hk @A @A;omega
    rw[O,<-JZ (xs:=t.place),gs @A,KC Y];rw[KC Y] at h;rw[oT @A,Nat.add_sub_cancel,eh,gs @A] at h;exact h
   ·have Z:i=es.size:=by omega
    subst Z
    have O:below t.place (if es.size=0 then 0 else t.place.toList.getD (es.size - 1) 0 + 1)=t.place.toList.length:=by
     refine Bu tb.rs ?_;intro k hk;rw[oT @A,eh,gs @A];show _ < t.place.toList[es.size - 1] + 1;by_cases π:k=es.size - 1
     ·subst π;omega
     ·have:=ν k (es.size - 1) hk @A @A;omega
    rw[O,hsz,Mn (ru _)];rw[Mn (ru _)] at h;exact h
end
theorem nX:Slot "set_iterator" "__next__" "set_iterator.__next__":= .of (owner:="set_iterator") (n:="__next__") (by rw[typeLookup_type,Qr];kernel_rfl) (by decide +kernel) (by decide +kernel) (by decide +kernel) (by first | exact .inl (by decide +kernel) | exact .inr (by decide +kernel)) (by rw[PB];kernel_rfl)
theorem wN:Slot "set_iterator" "__iter__" "set_iterator.__iter__":= .of (owner:="set_iterator") (n:="__iter__") (by rw[typeLookup_type,Qr];kernel_rfl) (by decide +kernel) (by decide +kernel) (by decide +kernel) (by first | exact .inl (by decide +kernel) | exact .inr (by decide +kernel)) (by rw[PB];kernel_rfl)
theorem Be:entryFor table "set_iterator.__next__"=ak Builtin.«set_iterator.__next__»:=entryFor_of_tree (by kernel_rfl)
theorem Bf:entryFor table "set_iterator.__iter__"=ak Builtin.«dict_keyiterator.__iter__»:=entryFor_alias (id':="dict_keyiterator.__iter__") (by kernel_rfl) rfl (by decide +kernel) (by kernel_rfl)
theorem Dg:entryFor table "set.__iter__"=ak Builtin.«frozenset.__iter__»:=entryFor_alias (id':="frozenset.__iter__") (by kernel_rfl) rfl (by decide +kernel) (by kernel_rfl)
theorem w4:Manifest.owners.lookup (String.ofList ['r','o','t','a','r','e','t','i','_','t','e','s'].reverse)=ak Manifest.sig_set_iterator:=by kernel_rfl
theorem DI (a:hJ):argsOk "set_iterator.__next__" ⟨[a],[]⟩:=by
 unfold argsOk;rw[PZ (id:="set_iterator.__next__") (n:=['_','_','t','x','e','n','_','_']) (o:=['r','o','t','a','r','e','t','i','_','t','e','s']) (by kernel_rfl) w4];kernel_rfl
theorem DJ (a:hJ):argsOk "set_iterator.__iter__" ⟨[a],[]⟩:=by
 unfold argsOk;rw[PZ (id:="set_iterator.__iter__") (n:=['_','_','r','e','t','i','_','_']) (o:=['r','o','t','a','r','e','t','i','_','t','e','s']) (by kernel_rfl) w4];kernel_rfl
noncomputable abbrev sio (w:u7) (d:fy) (t:SetTable) (n ep i:Nat):Data:= .fields #[.int (slt w t i) 0,.int i 0,.ref d,.int n 0,.int ep 0]
def Sit (w:u7) (h:z1) (I d:fy) (t:SetTable) (n ep i:Nat):Prop:=∃o,h.get? I=ak o/\o.cls= .type "set_iterator"/\o.data=sio w d t n ep i
section
variable {prog:qc} {w:u7} {A:z3} {E:D9} {s:ib}
variable {I d:fy} {o:P8} {ns:I9} {es:Kw (Int×hJ)} {ep:Nat} {t:SetTable}
theorem Sit.ty {i n:Nat} (x:Sit w s.heap I d t n ep i):s.TypeIs (.ref I) "set_iterator":=let ⟨o,a,b,_⟩:=x;⟨o,a,b⟩
theorem AS {i:Nat} {Q:J5->ib->Prop} (x:Sit w s.heap I d t es.size ep i) (ho:s.heap.get? d=ak o) (S:SI w o ns es ep t) (hi:i<=es.size)
  (h:oi (qA prog w) A.in1 (match (ord w d ep es)[i]?.map λe=>(e.2,slt w t (i + 1)) with
   | some (x,next)=>do
     setField (.ref I) 0 (rawInt next)
     setField (.ref I) 1 (rawInt ((i:Int) + 1))
     ret x
   | none=>do setField (.ref I) 2 .none;raiseNew (<-newExc (.type "StopIteration") []))
   (λfin s'=>∃v,fin=Fin.done (QN v)/\oi (qA prog w) A (pure (ak v)) Q E s') (λe s'=>oi (qA prog w) A (do if <-isInstance e (.type "StopIteration") then pure none else throw e) Q E s') s):
  oi (qA prog w) A (pyNext (.ref I)) Q E s:=by
 obtain⟨Y,O,Z,hd⟩:=id x;unfold pyNext;refine ew (wpAny_attempt (MF (name:=MV "__next__") x.ty nX (Lg nX x.ty Be ?_ (DI _))));unfold Builtin.«set_iterator.__next__»;refine ew (hH (ew (wpAny_fieldsOf O hd ?_)));dsimp only;refine ew (QO ho S.d S.f ?_);rw[oT @F];exact ew (ET ho S hi h)
theorem F5 {i:Nat} {e:Int×hJ} {Q:J5->ib->Prop} (x:Sit w s.heap I d t es.size ep i) (ho:s.heap.get? d=ak o) (S:SI w o ns es ep t) (hi:i < es.size) (he:(ord w d ep es)[i]? =ak e)
  (h:∀h',Sit w h' I d t es.size ep (i + 1)->Ll I s.heap h'->Q (ak e.2) {s with heap:=h'}):oi (qA prog w) A (pyNext (.ref I)) Q E s:=by
 refine AS x ho S (KA hi) ?_;obtain⟨α,Y,β,hd⟩:=id x;rw[he];show oi _ _ (setField (.ref I) 0 (rawInt (slt w t (i + 1):Nat)) >>=λ_=>setField (.ref I) 1 (rawInt ((i:Int) + 1)) >>=λ_=>ret e.2) _ _ s;have O:(Lq (·.setIfInBounds 0 (rawInt (slt w t (i + 1):Nat))) α).data= .fields #[.int (slt w t (i + 1)) 0,.int i 0,.ref d,.int es.size 0,.int ep 0]:=by rw[L8 hd];simp[rawInt]
 have Z:=KF (Lq (·.setIfInBounds 0 (rawInt (slt w t (i + 1):Nat)))) Y (MG (L8 hd _));refine ew (LI Y hd @F (ew (LI (s:={s with heap:=_}) Z O @F (hH ⟨_,rfl,hH (h _ ⟨_,KF _ Z (MG (L8 O _)),?_,?_⟩ ?_)⟩))))
 ·rw[N8,N8];exact β
 ·rw[L8 O];simp[rawInt,sio]
 ·exact(K9 ..).trans (K9 ..)
theorem F6 {Q:J5->ib->Prop} (Z:A.handled=none) (x:Sit w s.heap I d t es.size ep es.size) (ho:s.heap.get? d=ak o) (S:SI w o ns es ep t)
  (h:∀h',Heap.ExtBut I s.heap h'->Q none {s with heap:=h'}):oi (qA prog w) A (pyNext (.ref I)) Q E s:=by
 refine AS x ho S (ru _) ?_;obtain⟨α,Y,β,hd⟩:=id x;have O:(ord w d ep es).size=es.size:=by rw[<-hE,(ord_perm w d ep es).length_eq,hE]
 rw[Mn (by rw[O];exact ru _)];show oi _ _ (setField (.ref I) 2 .none >>=λ_=>newExc (.type "StopIteration") [] >>=λe=>raiseNew e) _ _ s;refine ew (LI Y hd @F (ew ?_));simp only[newExc,newTuple];refine ew (Lx ?_ (by size_fits));refine ew (m:=firstArgMember _ _) (QB (a:=KG) (by first | rfl | (simp only[firstArgMember];rfl)) (Lx ?_ (by size_fits)));simp only[raiseNew];refine ew (wpAny_handled ?_);rw[show A.in1.handled=none from Z];refine ew (hH (wpAny_throw ?_));refine ew (OZ (T:="StopIteration") (b:=true) ⟨_,pB _ rfl,rfl⟩ isSubtype_stop ?_);exact hH (h _ (((K9 ..).extBut.push _).push _))
theorem F4 {i n:Nat} {Q:D9} (x:Sit w s.heap I d t n ep i) (h:Q (.ref I) s):oi (qA prog w) A (pyIter (.ref I)) Q E s:=by
 refine Rb x.ty wN (Lg wN x.ty Bf (show oi _ _ (ret (.ref I)) _ _ s from ?_) (DJ _));exact hH ⟨_,rfl,"set_iterator",_,x.ty,nX.lookup,h⟩
theorem IZ (γ:A.handled=none) (φ:d≠I) (S:SI w o ns es ep t):Walks prog w A I [I,d] [I] es.size (λi v=>∃e,(ord w d ep es)[i]? =ak e/\v=e.2) (λi h=>Sit w h I d t es.size ep i/\h.get? d=ak o) where
 sub:=λb hb=>by rw[hC] at hb;rw[hb];exact iv
 frame:=λi h h' st hk=>⟨by obtain⟨β,a,b⟩:=st.1;exact⟨β,hk I iv _ a,b⟩,hk d @F _ st.2⟩
 item:=λi s Q E hi st O=>by
  have Z:(ord w d ep es).size=es.size:=by rw[<-hE,(ord_perm w d ep es).length_eq,hE]
  have he:(ord w d ep es)[i]? =ak ((ord w d ep es)[i]' @A):=KC @A;refine F5 st.1 st.2 S hi he λh' α Y=>?_;exact O _ h' s.toks ⟨_,he,rfl⟩ ⟨α,by rw[Y.2 d φ];exact st.2⟩ λb o hb e=>by rw[Y.2 b (λz=>hb (by rw[z];exact hC.mpr rfl))];exact e
 done:=λs Q E st O=>F6 γ st.1 st.2 S λh' δ=>O h' s.toks λb o hb e=>δ b o (λz=>hb (by rw[z];exact hC.mpr rfl)) e
 self:=λi s Q E st O=>F4 st.1 O
theorem Ce {Q:D9} (ho:s.heap.get? d=ak o) (S:SI w o ns es ep t) (h:Q (.ref s.heap.objs.size) {s with heap:=s.heap.push {cls:= .type "set_iterator",data:=sio w d t es.size ep 0}}):oi (qA prog w) A (pyIter (.ref d)) Q E s:=by
 have hT:s.TypeIs (.ref d) "set":=⟨o,ho,S.ex.1⟩;refine Rb hT F.slot_set_iter (Lg F.slot_set_iter hT Dg ?_ (F.args_set_iter_1 _));unfold Builtin.«frozenset.__iter__» Builtin.Frozenset.slot0;refine ew (ew (hH (hH ?_)));unfold Builtin.Frozenset.sizeOf;refine ew (ew (QO ho S.d S.f (hH ?_)));refine ew ?_;unfold setDrawn;refine ew (Nl ho S.d S.f ?_);dsimp only;refine ew (zf (hH ?_))
 have O:(!byT w&&(!t.plain&&decide (es.size > 1)))=false:=by
  cases hb:byT w with
  | true=>rfl
  | false=>rw[(S.tb hb).pn];rfl
 show oi _ _ (if (!byT w&&(!t.plain&&decide (es.size > 1)))=true then _ else _) _ _ s;rw[O,oT @C];refine ew (hH ?_);refine ew (wpAny_setEpoch_of ho S.d S.f ?_);unfold newFields;refine ew (Lx (hH ⟨_,rfl,"set_iterator",_,⟨_,pB _ rfl,rfl⟩,nX.lookup,?_⟩));have Y:slt w t 0=0:=by unfold slt;split<;>rfl
 simpa[rawInt,sio,Y] using h
end
open PySem.W PySem.Spec L2
section
variable {prog:qc} {w:u7} {A:z3} {E:D9} {s:ib}
variable {d:fy} {o:P8} {ns:I9} {es:Kw (Int×hJ)} {ep:Nat} {t:SetTable}
theorem C3 {Q:JY->ib->Prop} (hT:s.TypeIs (.ref d) "set") (h:Q false s):oi (qA prog w) A (O9 (.ref d)) Q E s:=by
 unfold O9;refine ew (wpAny_specialOf hT F.slot_set_len.lookup ?_);generalize Y:("set.__len__":Kr)=id0
 wp_delta
 rw[show splitId id0=ak ("set","__len__") from by subst Y;decide +kernel];subst Y;refine ew (OZ (T:="set") (b:=true) hT (by rw[PB];kernel_rfl) (wpAny_ite_split (λO=>kf O @C) (λ_=>?_)));exact wpAny_ite_split (λ_=>ew (wpAny_typeOf hT (hH h))) (λO=>kf (by decide +kernel) O)
theorem kdl_set (S:SI w o ns es ep t):KdlSrc prog w "set" d d es.size (λi v=>∃e,(ord w d ep es)[i]? =ak e/\v=e.2) (λh=>h.get? d=ak o) where
 type:=λ_ e=>⟨o,e,S.ex.1⟩
 there:=λ_ e=>⟨hF e,hF e⟩
 keep:=λ_ _ e hk=>hk d (.inl rfl) _ e
 notList:=by decide
 notTuple:=by decide
 hint:=λ_ _ _ _ e O=>C3 ⟨o,e,S.ex.1⟩ O
 iter:=λ_ _ Y e=>⟨_,_,λ_ _ O=>Ce e S O,IZ Y (JU (hF e)) S,⟨⟨_,pB _ rfl,rfl,rfl⟩,gB _ e⟩⟩
theorem wm {T:Kr} {n:Nat} {P:Nat->hJ->Prop} {γ:z1->Prop} {Q:E'->ib->Prop} (K:KdlSrc prog w T d d n P γ) (δ:A.handled=none) (hok:γ s.heap) (hn:n<=qb)
  (h:∀h' tk (α:G'),(∀b o,s.heap.get? b=ak o->h'.get? b=ak o)->s.heap.objs.size < h'.objs.size->ItemsOf P α n->Q α.toList {s with heap:=h',toks:=tk}):
  oi (qA prog w) A (collect (.ref d)) Q E s:=by
 unfold collect;refine ew (Pz (Lu QG ?_));refine ew (m:=newList []) (OB (hH ⟨Ob _ (by decide +kernel),Lu entry_list_iadd' ?_⟩));rw[LX qZ _];have O:=(K.there _ hok).1
 refine kdl_extend (R:=λr s'=>match r with
   | OY (QN v)=>oi (qA prog w) A (match v with
     | z2 a=>do
       let o <-load a
       match o.data with
       | .seq xs _=>pure xs.toList
       | _=>unsupported "internal:collect"
     | _=>unsupported "internal:collect") Q E s'
   | OY _=>False
   | QY e=>E e s') (s:={s with heap:=s.heap.push (seqObj "list" #[] 0)}) K δ (K.keep _ _ hok λb _ o e=>gB _ e) s.heap.objs.size (LB O) (LB O) _ 0 (pB _ rfl) (λh' tk Z ε hk β Y=>?_) hn
 refine ew (m:=load s.heap.objs.size) (R1 β ?_);exact hH (h h' tk Z (λb o e=>hk b o (JU (hF e)) (gB _ e)) (hF β) Y)
theorem sorted_src {T:Kr} {n:Nat} {P:Nat->hJ->Prop} {η:z1->Prop} {ks:I9} {Q:D9} (K:KdlSrc prog w T d d n P η) (θ:A.handled=none) (hok:η s.heap) (ζ:n < 64) (hI:∀O:G',ItemsOf P O n->IntsAre O.toList ks)
  (h:∀h' tk a (out:G') (e:Nat) (Y:I9),(∀b o,s.heap.get? b=ak o->h'.get? b=ak o)->s.heap.objs.size<=a->h'.get? a=ak (seqObj "list" out e)->IntsAre out.toList Y->Y.Perm ks->Y.Pairwise (·<=·)->Q (.ref a) {s with heap:=h',toks:=tk}):
  oi (qA prog w) A (call (.builtin "sorted") [.ref d]) Q E s:=by
 refine OV kind_sorted plain_sorted entry_sorted (args_sorted1 _) ?_;unfold Builtin.«sorted»;refine ew (m:=checkCount "sorted" 1 1 _) (hH ?_);refine ew (wm K (by exact θ) hok (by rw[ri];omega) λh' tk O γ hsz Z=>?_);have δ:O.toList.length < 64:=by rw[hE,Z.1];exact ζ
 have α:(h'.push (seqObj "list" O.toList.toArray 0)).get? h'.objs.size=ak (seqObj "list" O.toList.toArray 0):=pB _ rfl;refine ew (OB (show oi _ _ _ _ _ {s with heap:=h'.push (seqObj "list" O.toList.toArray 0),toks:=tk} from ?_));refine ew (M3 (Lg slot_list_sort ⟨_,α,rfl⟩ entry_list_sort (list_sort_tree α (hI O Z) δ λout Y a1 a2 ε=>⟨_,rfl,?_⟩) (args_list_sort _)));obtain⟨e,he⟩:=sortedHeap_at (out:=out) α;refine hH ⟨_,rfl,h _ tk h'.objs.size out e Y (λb o hb=>?_) (KA hsz) he a1 a2 ε⟩;have β:=hF (γ b o hb);rw[sortedHeap_old (JU β) (by rw[size_push'];exact LV β)];exact gB _ (γ b o hb)
end
end ST
namespace L2
open PySem PySem.Spec PyProof.Rows
section
variable {X:Cx}
def BG (Q:VK) (x:V) (H1:Hp):Prop:=∃(p:fy) (ns:D8),x= .ref p/\H1 p=ak (.lst (ns.map λn:Nat=>V.int (n:Int)))/\ns.Pairwise (· < ·)/\(∀n∈ns,n < 32)/\∀(D:fy) (O:Hp),H1 D=none->Same H1 O->O D=ak (.lst (ns.map λn:Nat=>V.int (n:Int)))->Q (.ref D) O
noncomputable def GH (t:TE):TE:=fun σ H Q=>t σ H (BG Q)
theorem GZ {t:TE} {σ:St} {H:Hp} {Q:VK} (h:t σ H (BG Q)):GH t σ H Q:=h
theorem wM:∀{l O:I9},l.Pairwise (·<=·)->O.Pairwise (·<=·)->l.Perm O->l=O
 | [],O,_,_,p=>(List.nil_perm.mp p).symm ▸ rfl
 | x::l,[],_,_,p=>by have:=p.length_eq;simp at this
 | x::l,y::O,a,b,p=>by
   obtain⟨a1,a2⟩:=Me.mp a;obtain⟨b1,b2⟩:=Me.mp b
   have e:x=y:=by
    rcases rz.mp (p.mem_iff.mp iv) with e | m
    ·exact e
    ·rcases rz.mp (p.mem_iff.mpr (iv (a:=y) (l:=O))) with e | m'
     ·exact e.symm
     ·have:=b1 x m;have:=a1 y m';omega
   subst e;exact y3 (x::·) (wM a2 b2 (List.Perm.cons_inv p))
theorem yl {e:z8} {t:TE} {p1 p2 α π:Pos} (hc:X.calm=true) (g1:Gl X "sorted") (g2:Gl X "set") (n1:X.mg "sorted"=none) (n2:X.mg "set"=none) (he:PE X e t)
  (h1:qQ [Expr.Call (.Name "set" p1) [e] [] p2] X.env=[(false,eval (.Call (.Name "set" p1) [e] [] p2) X.env)]:=by rfl) (h2:qQ [e] X.env=[(false,eval e X.env)]:=by rfl):
  PE X (.Call (.Name "sorted" α) [.Call (.Name "set" p1) [e] [] p2] [] π) (GH t):=by
 intro pins s σ H Q I h;refine Ms (jP I g1 n1 boot_sorted (callWith_builtin1 (Q:=EP X pins σ Q) ?_ h1 rfl));rw[h1];refine Q3 ?_;refine QA (jP I g2 n2 boot_set (callWith_type1 (thn (aa he af h2 p2 pins s σ H (λvs H1=>match vs with | [x]=>BG Q x H1 | _=>False) I h) λus O ⟨vs,H1,I1,τ,α⟩=>?_) h2 rfl))
 match vs,τ,α with
 | [x],τ,α=>
 obtain⟨p,ns,rfl,hp,ν,ε,q⟩:=α;cases τ with
 | cons r rr=>
 cases rr;cases r;obtain⟨z,its,nl,ι,hl,el⟩:=I1.lstM hp;have β:ns.Nodup:=ν.imp (λh=>JU h);have η:(ns.map λn:Nat=>V.int (n:Int))=(ns.map (λn:Nat=>(n:Int))).map V.int:=by rw[Ks];rfl
 rw[η] at ι;have hi:IntsAre its.toArray.toList (ns.map (λn:Nat=>(n:Int))):=by simpa using lK ι
 refine ST.call_set (ns:=ns) (I1.ok.hd hc) ⟨_,el,rfl,_,rfl⟩ hi ε β λh' tk hS hsz hk=>?_;refine Qc ?_;obtain⟨oS,es,ep,tb,ω,S⟩:=hS;have I2:Inv X pins σ H1 {O with heap:=h',toks:=tk}:=I1.kept (t':=tk) hk;have ο:es.size=ns.length:=by have:=S.p.length_eq;rw[cY,hE,cY] at this;exact this
 have ψ:ns.length<=32:=ST.few (hs:=ns.map (λn:Nat=>(n:Int))) (λy hy=>by obtain⟨m,hm,rfl⟩:=ov.mp hy;exact⟨m,rfl,ε m hm⟩) (β.map _ (λa b a6 e=>a6 (NG e))) |> λz=>by rw[cY] at z;exact z
 refine ST.sorted_src (s:={O with heap:=h',toks:=tk}) (ks:=(ST.ord X.w O.heap.objs.size ep es).toList.map (·.1)) (ST.kdl_set S) (I1.ok.hd hc) ω @A (λb9 Y=>?_) λh2 ζ a out e2 υ a4 ha a5 b0 φ χ=>?_
 ·have γ:((ST.ord X.w O.heap.objs.size ep es).toList.map (·.1)).length=b9.toList.length:=by
   rw[cY,(ST.ord_perm X.w O.heap.objs.size ep es).length_eq,hE,hE,Y.1]
  refine lK (oK (by rw[cY];exact γ) λi a b ha hb=>?_);rw[ic,ic,JZ] at ha;rw[JZ] at hb;obtain⟨e,ρ,rfl⟩:=Y.2 i b hb;rw[ρ] at ha;have ha:=mu ha;subst ha;have hm:e∈es.toList:=(ST.ord_perm X.w O.heap.objs.size ep es).mem_iff.mp (hR (by rw[JZ];exact ρ));obtain⟨ξ,e2⟩:=S.v e hm;exact⟨ξ,e2⟩
 ·have a0:υ=ns.map (λn:Nat=>(n:Int)):=wM χ (by rw[MB];exact ν.imp (λh=>by omega)) (φ.trans (((ST.ord_perm X.w O.heap.objs.size ep es).map (·.1)).trans S.p));subst a0;have Z:=uF b0;rw[<-η] at Z;have a3:∀b o,O.heap.get? b=ak o->h2.get? b=ak o:=λb o e=>a4 b o (hk b o e);have δ:O.heap.objs.size<=a:=L9 (KA hsz) ha;have θ:H1 a=none:=I1.hok.fresh δ;refine⟨.ref a,_,I1.laid (t':=ζ) a3 δ (show fV X.prog X.w _ h2 _ (.lst (ns.map λn:Nat=>V.int (n:Int))) from⟨by rw[cY,ri];omega,out.toList,e2,Z,by simpa using a5⟩),rfl,q a _ θ (eT θ) bg⟩
end
end L2
namespace Z3
open PySem PyProof.Rows
noncomputable abbrev Tr (h:z1) (T:fy) (a b c:hJ):Prop:=h.get? T=ak {cls:= .type "tuple",data:= .seq #[a,b,c]}
structure St (h:z1) (n l1 l2 l3 k1 k2 k3:Nat) (f:hJ):Prop where
 z:IsZip h (n + 5) (n + 3) (n + 4) f
 ti:Tr h (n + 3) (.ref n) (.ref (n + 1)) (.ref (n + 2))
 to:∃a b c,Tr h (n + 4) a b c
 i1:h.IsListIter n l1 k1
 i2:h.IsListIter (n + 1) l2 k2
 i3:h.IsListIter (n + 2) l3 k3
section
variable {prog:qc} {w:u7} {A:z3} {E:D9} {s:ib} {n l1 l2 l3 k1 k2 k3:Nat}
theorem St.keep {h h':z1} {f:hJ} (x:St h n l1 l2 l3 k1 k2 k3 f) (k:∀b o,n<=b->b<=n + 5->h.get? b=ak o->h'.get? b=ak o):St h' n l1 l2 l3 k1 k2 k3 f:=
 ⟨k _ _ @A @A x.z,k _ _ @A @A x.ti,let ⟨a,b,c,e⟩:=x.to;⟨a,b,c,k _ _ @A @A e⟩,x.i1.at λo e=>k _ o @A @A e,x.i2.at λo e=>k _ o @A @A e,x.i3.at λo e=>k _ o @A @A e⟩
theorem six {b n:Nat} (h1:n<=b) (h2:b<=n + 5):b=n∨b=n + 1∨b=n + 2∨b=n + 3∨b=n + 4∨b=n + 5:=by omega
theorem apt {T n:Nat} (h:n + 5 < T) (e:T=n∨T=n + 1∨T=n + 2∨T=n + 4∨T=n + 5):False:=by omega
theorem nq {a b:Nat} (h:a < b∨b < a):a≠b:=by omega
theorem put {T:fy} {a b c x:hJ} {k:Nat} {Q:Hy} (hT:Tr s.heap T a b c) (h:∀h',h'.get? T=ak {cls:= .type "tuple",data:= .seq ((#[a,b,c]:G').setIfInBounds k x)}->Ll T s.heap h'->Q () {s with heap:=h'}):oi (qA prog w) A (updateSeq T (·.setIfInBounds k x)) Q E s:=by
 refine wpAny_updateSeq hT rfl (h _ ?_ (K9 ..));rw[KF _ hT rfl];simp[Nv]
theorem Ay {xs ys zs:G'} {x y u:hJ} {Q:D9} (ν:l1 < n) (d2:l2 < n) (d3:l3 < n) (S:St s.heap n l1 l2 l3 k1 k2 k3 .none) (hl1:s.heap.IsList l1 xs) (hl2:s.heap.IsList l2 ys) (b9:s.heap.IsList l3 zs) (hx:xs[k1]? =ak x) (hy:ys[k2]? =ak y) (hu:zs[k3]? =ak u)
  (hQ:∀h',St h' n l1 l2 l3 (k1 + 1) (k2 + 1) (k3 + 1) (rawInt s.heap.objs.size)->Tr h' s.heap.objs.size x y u->(∀c o,c≠n->c≠n + 1->c≠n + 2->c≠n + 4->c≠n + 5->s.heap.get? c=ak o->h'.get? c=ak o)->Q (.ref s.heap.objs.size) {s with heap:=h'}):
  oi (qA prog w) A (Builtin.«zip.__next__» ⟨[.ref (n + 5)],[]⟩) (λfin s'=>∃v,fin= .done (.ret v)/\Q v s') E s:=by
 obtain⟨hz,ti,⟨a,b,c,to⟩,i1,i2,i3⟩:=S;refine ew (m:=field (.ref (n + 5)) 2) (Kd hz rfl (x:= .bool false) rfl ?_);refine ew (m:=field (.ref (n + 5)) 3) (Kd hz rfl (x:= .ref (n + 3)) rfl ?_);refine ew (LJ ti rfl ?_);refine ew (m:=KI (.ref (n + 5))) ?_;unfold KI;refine ew (Kd hz rfl (x:= .none) rfl (hH ?_));simp only[Og];refine ew (OE (ew (Kd hz rfl (x:= .ref (n + 4)) rfl ?_)));refine ew (Mr hz @F λh1 η s1=>ew ?_);replace η:IsZip h1 (n + 5) (n + 3) (n + 4) .ellipsis:=η;have K1:∀b o,b≠n + 5->s.heap.get? b=ak o->h1.get? b=ak o:=λb o h e=>s1.extBut b o h e;simp only[Qw,QK,ND,QW];refine ew (ew (OA (show oi _ _ (JT (.ref n) >>=_) _ _ _ from ew (NU (i1.at λo e=>K1 _ o (nq @A) e) (hl1.at λo e=>K1 _ o (nq @A) e) hx λh2 τ s2=>hH ?_))));have K2:∀b o,b≠n + 5->b≠n->s.heap.get? b=ak o->h2.get? b=ak o:=λb o h h' e=>s2.extBut b o h' (K1 b o h e);refine ew (LJ (K2 _ _ (nq @A) (nq @A) to) rfl (ew (put (K2 _ _ (nq @A) (nq @A) to) λh3 t3 ψ=>ew (QC (hH ?_)))));replace t3:Tr h3 (n + 4) x b c:=t3;have β:∀b o,b≠n + 5->b≠n->b≠n + 4->s.heap.get? b=ak o->h3.get? b=ak o:=λb o h h' O e=>ψ.extBut b o O (K2 b o h h' e);refine ew (ew (OA (show oi _ _ (JT (.ref (n + 1)) >>=_) _ _ _ from ew (NU (i2.at λo e=>β _ o (nq @A) (nq @A) (nq @A) e) (hl2.at λo e=>β _ o (nq @A) (nq @A) (nq @A) e) hy λh4 j2 Y=>hH ?_))));have γ:Tr h4 (n + 4) x b c:=Y.extBut _ _ (nq @A) t3;refine ew (LJ γ rfl (ew (put γ fun δ t5 ε=>ew (QC (hH ?_)))));replace t5:Tr δ (n + 4) x y c:=t5;have α:∀b o,b≠n + 5->b≠n->b≠n + 1->b≠n + 4->s.heap.get? b=ak o->δ.get? b=ak o:=λb o h h' h1 O e=>ε.extBut b o O (Y.extBut b o h1 (β b o h h' O e));refine ew (ew (OA (show oi _ _ (JT (.ref (n + 2)) >>=_) _ _ _ from ew (NU (i3.at λo e=>α _ o (nq @A) (nq @A) (nq @A) (nq @A) e) (b9.at λo e=>α _ o (nq @A) (nq @A) (nq @A) (nq @A) e) hu λh6 ρ ξ=>hH ?_))));have t6:Tr h6 (n + 4) x y c:=ξ.extBut _ _ (nq @A) t5;refine ew (LJ t6 rfl (ew (put t6 fun ζ ι θ=>ew (QC (hH (hH ?_))))));replace ι:Tr ζ (n + 4) x y u:=ι;have K7:∀b o,b≠n + 5->b≠n->b≠n + 1->b≠n + 2->b≠n + 4->s.heap.get? b=ak o->ζ.get? b=ak o:=λb o h h' h1 h2 O e=>θ.extBut b o O (ξ.extBut b o h2 (α b o h h' h1 O e));have ω:IsZip ζ (n + 5) (n + 3) (n + 4) .ellipsis:=θ.extBut _ _ (nq @A) (ξ.extBut _ _ (nq @A) (ε.extBut _ _ (nq @A) (Y.extBut _ _ (nq @A) (ψ.extBut _ _ (nq @A) (s2.extBut _ _ (nq @A) η)))));have hsz:ζ.objs.size=s.heap.objs.size:=by rw[θ.1,ξ.1,ε.1,Y.1,ψ.1,s2.1,s1.1]
 have Z:ζ.IsListIter n l1 (k1 + 1):=τ.at λo e=>θ.extBut _ _ (nq @A) (ξ.extBut _ _ (nq @A) (ε.extBut _ _ (nq @A) (Y.extBut _ _ (nq @A) (ψ.extBut _ _ (nq @A) e))));have b0:ζ.IsListIter (n + 1) l2 (k2 + 1):=j2.at λo e=>θ.extBut _ _ (nq @A) (ξ.extBut _ _ (nq @A) (ε.extBut _ _ (nq @A) e));have a6:ζ.IsListIter (n + 2) l3 (k3 + 1):=ρ.at λo e=>θ.extBut _ _ (nq @A) e;have a0:=K7 _ _ (nq @A) (nq @A) (nq @A) (nq @A) (nq @A) ti;refine ew (LJ ι rfl (ew (wpAny_newTuple ?_)));refine ew (m:=MY (.ref (n + 5)) (.ref ζ.objs.size)) ?_;unfold MY;have π:IsZip (ζ.push {cls:= .type "tuple",data:= .seq #[x,y,u]}) (n + 5) (n + 3) (n + 4) .ellipsis:=gB _ ω;refine ew (Mr π @F fun υ z9 s9=>?_);replace z9:IsZip υ (n + 5) (n + 3) (n + 4) (rawInt ζ.objs.size):=z9;refine Mr z9 @F λha φ sa=>?_;replace φ:IsZip ha (n + 5) (n + 3) (n + 4) (rawInt ζ.objs.size):=φ;have up:∀b o,b≠n + 5->ζ.get? b=ak o->ha.get? b=ak o:=λb o h e=>sa.extBut b o h (s9.extBut b o h (gB _ e));have ο:=hF ω;have hT:Tr ha ζ.objs.size x y u:=sa.extBut _ _ (LB ο) (s9.extBut _ _ (LB ο) (pB _ rfl));rw[hsz] at φ hT;refine hH ⟨_,rfl,?_⟩;show Q (.ref ζ.objs.size) _;rw[hsz];exact hQ ha ⟨φ,up _ _ (nq @A) a0,⟨_,_,_,up _ _ (nq @A) ι⟩,Z.at λo e=>up _ o (nq @A) e,b0.at λo e=>up _ o (nq @A) e,a6.at λo e=>up _ o (nq @A) e⟩ hT λb o a1 a2 a3 a4 χ e=>up b o χ (K7 b o χ a1 a2 a3 a4 e)
theorem CL {xs:G'} {Q:Fin->ib->Prop} (θ:A.handled=none) (ν:l1 < n) (S:St s.heap n l1 l2 l3 k1 k2 k3 .none) (hl1:s.heap.IsList l1 xs) (hx:xs[k1]? =none)
  (ι:∀h' e,(∀c o,c≠n->c≠n + 1->c≠n + 2->c≠n + 4->c≠n + 5->s.heap.get? c=ak o->h'.get? c=ak o)->(∃o,h'.get? e=ak o/\o.cls= .type "StopIteration")->E (.ref e) {s with heap:=h'}):
  oi (qA prog w) A (Builtin.«zip.__next__» ⟨[.ref (n + 5)],[]⟩) Q E s:=by
 obtain⟨hz,ti,⟨a,b,c,to⟩,i1,i2,i3⟩:=S;refine ew (m:=field (.ref (n + 5)) 2) (Kd hz rfl (x:= .bool false) rfl ?_);refine ew (m:=field (.ref (n + 5)) 3) (Kd hz rfl (x:= .ref (n + 3)) rfl ?_);refine ew (LJ ti rfl ?_);refine ew (m:=KI (.ref (n + 5))) ?_;unfold KI;refine ew (Kd hz rfl (x:= .none) rfl (hH ?_));simp only[Og];refine ew (OE (ew (Kd hz rfl (x:= .ref (n + 4)) rfl ?_)));refine ew (Mr hz @F λh1 O ζ=>ew ?_);replace O:IsZip h1 (n + 5) (n + 3) (n + 4) .ellipsis:=O;have α:∀b o,b≠n + 5->s.heap.get? b=ak o->h1.get? b=ak o:=λb o h e=>ζ.extBut b o h e;simp only[Qw,QK,ND,QW];refine ew (ew (OA (show oi _ _ (JT (.ref n) >>=_) _ _ _ from ew (wpAny_nextOf_list_end θ (i1.at λo e=>α _ o (nq @A) e) (hl1.at λo e=>α _ o (nq @A) e) hx λh2 e ε he=>?_))));obtain⟨η,Y,Z⟩:=he;have β:IsZip h2 (n + 5) (n + 3) (n + 4) .ellipsis:=ε _ _ (nq @A) O;have δ:e≠n + 5:=λx=>by subst x;rw[β] at Y;cases Y;simp at Z
 exact Mr β @F fun ξ _ γ=>ι ξ e (λc o a1 _ _ _ χ x=>γ.extBut _ _ χ (ε _ _ a1 (α _ _ χ x))) ⟨η,γ.extBut _ _ δ Y,Z⟩
theorem Ae {Q:J5->ib->Prop} {Q':D9} (hz:IsZip s.heap (n + 5) (n + 3) (n + 4) .none)
  (h:oi (qA prog w) A.in1 (Builtin.«zip.__next__» ⟨[.ref (n + 5)],[]⟩) (λfin s'=>∃v,fin= .done (.ret v)/\oi (qA prog w) A (pure (ak v)) Q E s') (λe s'=>oi (qA prog w) A (do if <-isInstance e (.type "StopIteration") then pure none else throw e) Q E s') s):oi (qA prog w) A (pyNext (.ref (n + 5))) Q E s:=by
 have hT:s.TypeIs (.ref (n + 5)) "zip":=⟨_,hz,rfl⟩;unfold pyNext;exact ew (wpAny_attempt (MF (name:=MV "__next__") hT F.slot_zip_next (Lg F.slot_zip_next hT F.entry_zip_next h (F.args_zip_next_1 _))))
theorem walks3 (ζ:A.handled=none) (ν:l1 < n) (θ:l2 < n) (η:l3 < n) (xs ys zs:G') (ξ:ys.size=xs.size) (ι:zs.size=xs.size):
  WalksT prog w A (n + 5) [n + 5,n,n + 1,n + 2,n + 3,n + 4,l1,l2,l3] [n,n + 1,n + 2,n + 4,n + 5] xs.size (λi β=>∃x y u,xs[i]? =ak x/\ys[i]? =ak y/\zs[i]? =ak u/\β=#[x,y,u])
   (λi h=>St h n l1 l2 l3 i i i .none/\h.IsList l1 xs/\h.IsList l2 ys/\h.IsList l3 zs) (λi T h=>St h n l1 l2 l3 (i + 1) (i + 1) (i + 1) (rawInt T)/\h.IsList l1 xs/\h.IsList l2 ys/\h.IsList l3 zs/\n + 5 < T) where
 sub:=λb hb=>by simp only[rz,JV,L5] at hb;rcases hb with e | e | e | e | e<;>simp[e]
 frame:=λi h h' st hk=>by
  obtain⟨S,a,b,c⟩:=st;exact⟨S.keep λb o p q e=>hk b (by rcases six p q with e | e | e | e | e | e<;>simp[e]) o e,a.at λo e=>hk l1 @F o e,b.at λo e=>hk l2 @F o e,c.at λo e=>hk l3 @F o e⟩
 item:=λi s Q E hi st Z=>by
  obtain⟨S,a,b,c⟩:=st;have γ:xs[i]? =ak xs[i]:=KC hi;have α:ys[i]? =ak (ys[i]' @A):=KC @A;have hu:zs[i]? =ak (zs[i]' @A):=KC @A;refine Ae (Q':=λ_ _=>True) S.z (Ay ν θ η S a b c γ α hu λh' φ hT hk=>hH ?_);have hn:=hF S.z
  exact Z s.heap.objs.size _ h' s.toks ⟨_,_,_,γ,α,hu,rfl⟩ (ru _) ⟨_,hT,rfl,_,rfl⟩ ⟨φ,a.at λo e=>hk _ o (nq @A) (nq @A) (nq @A) (nq @A) (nq @A) e,b.at λo e=>hk _ o (nq @A) (nq @A) (nq @A) (nq @A) (nq @A) e,c.at λo e=>hk _ o (nq @A) (nq @A) (nq @A) (nq @A) (nq @A) e,hn⟩
   λc o O e=>by simp only[rz,JV,L5,not_or] at O;exact hk c o O.1 O.2.1 O.2.2.1 O.2.2.2.1 O.2.2.2.2 e
 go:=fun δ k pos i T s Q E hm Z=>by
  obtain⟨S,a,b,c,_⟩:=hm;refine wpAny_letOwnedTupleGo_zip S.z λh' ε Y=>Z h' ⟨⟨ε,Y.extBut _ _ (nq @A) S.ti,let ⟨a,b,c,e⟩:=S.to;⟨a,b,c,Y.extBut _ _ (nq @A) e⟩,S.i1.at λo e=>Y.extBut _ _ (nq @A) e,S.i2.at λo e=>Y.extBut _ _ (nq @A) e,S.i3.at λo e=>Y.extBut _ _ (nq @A) e⟩,a.at λo e=>Y.extBut _ _ (nq @A) e,b.at λo e=>Y.extBut _ _ (nq @A) e,c.at λo e=>Y.extBut _ _ (nq @A) e⟩ λc o O e=>Y.extBut _ _ (λx=>O (by simp[x])) e
 apart:=λi T h hm hT=>by
  simp only[rz,JV,L5] at hT;exact apt hm.2.2.2.2 hT
 done:=λs Q E st Z=>by
  obtain⟨S,a,b,c⟩:=st;refine Ae (Q':=λ_ _=>True) S.z (CL (by exact ζ) ν S a (Mn (ru _)) λh' e hk he=>?_);obtain⟨o,ho,O⟩:=he;refine ew (OZ (T:="StopIteration") (b:=true) ⟨o,ho,O⟩ isSubtype_stop (hH (Z h' s.toks λc o O e=>?_)));simp only[rz,JV,L5,not_or] at O;exact hk c o O.1 O.2.1 O.2.2.1 O.2.2.2.1 O.2.2.2.2 e
 self:=λi s Q E st Z=>MR st.1.z Z
end
theorem tc3 (a b c:hJ):checkTypeCall "zip" ⟨[a,b,c],[]⟩=pure ():=by kernel_rfl
theorem nc3 (a b c:hJ):checkBuiltinCall "zip.__new__" ⟨[.type "zip",a,b,c],[]⟩=pure ():=by kernel_rfl
theorem ai4 (a b c d:hJ):argsOk "object.__init__" ⟨[a,b,c,d],[]⟩:=by
 unfold argsOk;rw[PZ (id:="object.__init__") (n:=['_','_','t','i','n','i','_','_']) (o:=['t','c','e','j','b','o']) (by kernel_rfl) F.owner_object];kernel_rfl
noncomputable abbrev it (l:fy):Obj:={cls:= .type "list_iterator",data:= .fields #[.ref l,.int 0 0]}
noncomputable abbrev Hz (h:z1) (l1 l2 l3:fy):Heap:=(((((h.push (it l1)).push (it l2)).push (it l3)).push {cls:= .type "tuple",data:= .seq #[.ref h.objs.size,.ref (h.objs.size + 1),.ref (h.objs.size + 2)]}).push {cls:= .type "tuple",data:= .seq #[.none,.none,.none]}).push {cls:= .type "zip",data:= .fields #[.none,.bool false,.bool false,.ref (h.objs.size + 3),.ref (h.objs.size + 4)]}
theorem new3 (l1 l2 l3:fy) (xs ys zs:G'):Meets (Builtin.«zip.__new__» ⟨[.type "zip",.ref l1,.ref l2,.ref l3],[]⟩) (λ_ R s=>s.heap.IsList l1 xs/\s.heap.IsList l2 ys/\s.heap.IsList l3 zs/\R (.ok (.ret (.ref (s.heap.objs.size + 5)))) {s with heap:=Hz s.heap l1 l2 l3}):=
 .of_wp λprog w A R s h=>by
  obtain⟨Y,g,d,tk,os⟩:=s;obtain⟨hl1,hl2,Z,h⟩:=h;have α:=sub_zip;have ζ:PN (Oo ⟨Y,g,d,tk,os⟩) l1 xs:=hl1;have O:PN (Oo ⟨Y.push (it l1),g,d,tk,os⟩) l2 ys:=NW hl2 _;have ε:PN (Oo ⟨(Y.push (it l1)).push (it l2),g,d,tk,os⟩) l3 zs:=NW (NW Z _) _
  wp_walk using M8 ζ,M8 O,M8 ε
  refine⟨_,rfl,?_⟩;dsimp only;simp only[KP];exact h
section
variable {prog:qc} {w:u7} {A:z3} {E:D9} {s:ib}
theorem call3 {l1 l2 l3:fy} {xs ys zs:G'} {Q:D9} (hl1:s.heap.IsList l1 xs) (hl2:s.heap.IsList l2 ys) (Y:s.heap.IsList l3 zs)
  (h:∀h',St h' s.heap.objs.size l1 l2 l3 0 0 0 .none->(∀c o,s.heap.get? c=ak o->h'.get? c=ak o)->Q (.ref (s.heap.objs.size + 5)) {s with heap:=h'}):
  oi (qA prog w) A (call (.type "zip") [.ref l1,.ref l2,.ref l3]) Q E s:=by
 refine callType_new F.called_zip @C (tc3 _ _ _) (nc3 _ _ _) (λobj=>ai4 obj _ _ _) F.entry_zip_new (new3 l1 l2 l3 xs ys zs) ⟨hl1,hl2,Y,?_⟩;have P:∀{h:z1} {o:P8} {n:Nat},h.objs.size=n->o.isFreed=false->(h.push o).get? n=ak o:=λe f=>by subst e;exact pB _ f
 have O:∀{h:z1} {o:P8} {n:Nat},h.objs.size=n->(h.push o).objs.size=n + 1:=λe=>by rw[KP,e]
 have up:=@gB;have ω:(Hz s.heap l1 l2 l3).get? s.heap.objs.size=ak (it l1):=up _ (up _ (up _ (up _ (up _ (P rfl rfl)))));have g1:(Hz s.heap l1 l2 l3).get? (s.heap.objs.size + 1)=ak (it l2):=up _ (up _ (up _ (up _ (P (O rfl) rfl))));have g2:(Hz s.heap l1 l2 l3).get? (s.heap.objs.size + 2)=ak (it l3):=up _ (up _ (up _ (P (O (O rfl)) rfl)));have ψ:=up {cls:= .type "zip",data:= .fields #[.none,.bool false,.bool false,.ref (s.heap.objs.size + 3),.ref (s.heap.objs.size + 4)]} (up {cls:= .type "tuple",data:= .seq #[.none,.none,.none]} (P (h:=((s.heap.push (it l1)).push (it l2)).push (it l3)) (o:={cls:= .type "tuple",data:= .seq #[.ref s.heap.objs.size,.ref (s.heap.objs.size + 1),.ref (s.heap.objs.size + 2)]}) (O (O (O rfl))) rfl));have χ:=up {cls:= .type "zip",data:= .fields #[.none,.bool false,.bool false,.ref (s.heap.objs.size + 3),.ref (s.heap.objs.size + 4)]} (P (h:=(((s.heap.push (it l1)).push (it l2)).push (it l3)).push {cls:= .type "tuple",data:= .seq #[.ref s.heap.objs.size,.ref (s.heap.objs.size + 1),.ref (s.heap.objs.size + 2)]}) (o:={cls:= .type "tuple",data:= .seq #[.none,.none,.none]}) (O (O (O (O rfl)))) rfl);have Z:=P (h:=((((s.heap.push (it l1)).push (it l2)).push (it l3)).push {cls:= .type "tuple",data:= .seq #[.ref s.heap.objs.size,.ref (s.heap.objs.size + 1),.ref (s.heap.objs.size + 2)]}).push {cls:= .type "tuple",data:= .seq #[.none,.none,.none]}) (o:={cls:= .type "zip",data:= .fields #[.none,.bool false,.bool false,.ref (s.heap.objs.size + 3),.ref (s.heap.objs.size + 4)]}) (O (O (O (O (O rfl))))) rfl;exact⟨⟨_,Z,rfl⟩,h _ ⟨Z,ψ,⟨_,_,_,χ⟩,⟨_,ω,rfl,rfl⟩,⟨_,g1,rfl,rfl⟩,⟨_,g2,rfl,rfl⟩⟩ λc o x=>up _ (up _ (up _ (up _ (up _ (up _ x)))))⟩
end
end Z3
namespace L2
open PySem PySem.Spec PyProof.Rows
noncomputable def Itz3 (K:bp) (a b c:fy):It:=
 ⟨λi H=>∃xs ys zs x y z,SqL K H a xs/\SqL K H b ys/\SqL K H c zs/\xs.length=ys.length/\xs.length=zs.length/\xs[i]? =ak x/\ys[i]? =ak y/\zs[i]? =ak z,
  λi H x H'=>∃p u v t,H p=none/\x= .ref p/\H'=upd H p (.tup [u,v,t])/\(∀xs,SqL K H a xs->xs[i]? =ak u)/\(∀ys,SqL K H b ys->ys[i]? =ak v)/\∀zs,SqL K H c zs->zs[i]? =ak t,
  λi H=>∃xs ys zs,SqL K H a xs/\SqL K H b ys/\SqL K H c zs/\xs.length=ys.length/\xs.length=zs.length/\xs.length=i⟩
noncomputable abbrev z6 (n:Nat):I4:=[n,n + 1,n + 2,n + 3,n + 4,n + 5]
theorem B0:[V.non,V.non,V.non].length<=sizeLine:=by rw[ri];decide
theorem zk {P:qc} {w:u7} {K:bp} {Y:f' z8} {k:Nat} {pos:Pos} (a b c n:Nat) (la:a < n) (lb:b < n) (lc:c < n):
  Turn P w K (.Tuple Y k pos) (Itz3 K a b c) (z6 n) (n + 5) (λi h=>Z3.St h n a b c i i i .none) where
 mem:=by simp[z6]
 obj:=λi h st q hb=>by
  obtain⟨hz,ti,⟨u,v,t,to⟩,⟨o1,c2,_,c5⟩,⟨o2,c1,_,ψ⟩,⟨o3,c0,_,c3⟩⟩:=st;simp only[z6,rz,JV,L5] at hb;rcases hb with e | e | e | e | e | e
  ·rw[e];exact⟨o1,c2,λv z=>by rw[c5] at z;cases z⟩
  ·rw[e];exact⟨o2,c1,λv z=>by rw[ψ] at z;cases z⟩
  ·rw[e];exact⟨o3,c0,λv z=>by rw[c3] at z;cases z⟩
  ·rw[e];exact⟨_,ti,λv z=>by cases z⟩
  ·rw[e];exact⟨_,to,λv z=>by cases z⟩
  ·rw[e];exact⟨_,hz,λv z=>by cases z⟩
 keep:=λi h h' st k=>st.keep λb o p q e=>k b (by rcases Z3.six p q with e | e | e | e | e | e<;>simp[z6,e]) o e
 item:=by
  intro X hP hw hK hc i pins s σ H E I hf st hg;subst hP hw hK;obtain⟨xs,ys,zs,x,y,z,ω,υ,τ,e1,e2,hx,hy,hz⟩:=hg;obtain⟨its,ξ,π,a4⟩:=I.list ω;obtain⟨γ,ι,pb,χ⟩:=I.list υ;obtain⟨α,θ,pc,a3⟩:=I.list τ;have l1:=ξ.length;have l2:=ι.length;have l3:=θ.length;have W:=Z3.walks3 (prog:=X.prog) (w:=X.w) (A:=X.A) (I.ok.hd hc) la lb lc its.toArray γ.toArray α.toArray (by simp;omega) (by simp;omega);have d3:i < its.length:=by have:=(dt.mp hx).1;omega
  have a0:∀q∈z6 n,q < s.heap.objs.size:=λq hb=>by
   have ζ:=hF st.z;simp only[z6,rz,JV,L5] at hb;rcases hb with e | e | e | e | e | e<;>rw[e]<;>first | exact ζ | exact fb @A (KA ζ)
  refine W.item i s _ _ (by simp;omega) ⟨st,π.isList,pb.isList,pc.isList⟩ λT β h' tk d1 hT φ O hk=>⟨_,rfl,W.go Y k pos i T _ _ _ O λd2 ο η=>?_⟩;obtain⟨x',y',Z,b0,a6,a5,rfl⟩:=d1;have d0:=W.apart i T h' O
  have rel:∀{vs:f' V} {us:E'} {v:V} {u:hJ},Vals vs us->vs[i]? =ak v->us.toArray[i]? =ak u->RelV v u:=λr δ hu=>by
   obtain⟨u0,b9,ρ⟩:=r.get δ;have ε:=hu;rw[List.getElem?_toArray,b9] at ε;cases ε;exact ρ
  have sub:∀q,q∉z6 n->q∉[n,n + 1,n + 2,n + 4,n + 5]:=λq h Z=>h (by
   simp only[z6,rz,JV,L5] at Z ⊢;rcases Z with e | e | e | e | e<;>simp[e])
  have ν:∀q u,q∉z6 n->s.heap.get? q=ak u->d2.get? q=ak u:=λq u hb e=>η q u (sub q hb) (hk q u (sub q hb) e);have fr:H T=none:=I.hok.fresh hT;refine⟨.ref T,upd H T (.tup [x,y,z]),I.laidCh (t':=tk) ν hT ⟨B0,[x',y',Z],.cons (rel ξ hx b0) (.cons (rel ι hy a6) (.cons (rel θ hz a5) .nil)),?_⟩ hf,rfl,⟨T,x,y,z,fr,rfl,rfl,λvs δ=>by rw[I.list_inj δ ω];exact hx,λvs δ=>by rw[I.list_inj δ υ];exact hy,λvs δ=>by rw[I.list_inj δ τ];exact hz⟩,ο.1,λq hb=>?_⟩
  ·obtain⟨o,ho,r⟩:=φ;exact⟨o,η T o d0 ho,r⟩
  ·rw[aV (λe=>?_)]
   ·exact(hf q hb).1
   ·have:=a0 q hb;rw[e] at this;exact kf (fb this hT) (KY _)
 done:=by
  intro X hP hw hK hc i pins s σ H E I hf st hg;subst hP hw hK;obtain⟨xs,ys,zs,ω,υ,τ,e1,e2,hn⟩:=hg;obtain⟨its,ξ,π,a4⟩:=I.list ω;obtain⟨γ,ι,pb,χ⟩:=I.list υ;obtain⟨α,θ,pc,a3⟩:=I.list τ;have l1:=ξ.length;have l2:=ι.length;have l3:=θ.length;have W:=Z3.walks3 (prog:=X.prog) (w:=X.w) (A:=X.A) (I.ok.hd hc) la lb lc its.toArray γ.toArray α.toArray (by simp;omega) (by simp;omega);have e:its.toArray.size=i:=by simp;omega
  rw[e] at W
  have sub:∀q,q∉z6 n->q∉[n,n + 1,n + 2,n + 4,n + 5]:=λq h Z=>h (by
   simp only[z6,rz,JV,L5] at Z ⊢;rcases Z with e | e | e | e | e<;>simp[e])
  exact W.done s _ _ ⟨st,π.isList,pb.isList,pc.isList⟩ λh' tk hk=>⟨rfl,I.turnedCh (λq u hb e=>hk q u (sub q hb) e) hf⟩
 self:=λ_ _ _ _ _ st h=>MR st.z h
def Gs (K:bp) (R:It->Hp->Prop) (x y z:V) (H:Hp):Prop:=∃a b c xs ys zs,x= .ref a/\y= .ref b/\z= .ref c/\SqL K H a xs/\SqL K H b ys/\SqL K H c zs/\R (Itz3 K a b c) H
noncomputable def Im (K:bp) (Z Y O:TE):TI:=fun σ H R=>Z σ H λx H1=>Y σ H1 λy H2=>O σ H2 λz α=>Gs K R x y z α
theorem Fp {K:bp} {Z Y O:TE} {σ:St} {H:Hp} {R:It->Hp->Prop} (h:Z σ H λx H1=>Y σ H1 λy H2=>O σ H2 λz α=>Gs K R x y z α):Im K Z Y O σ H R:=h
section
variable {X:Cx} {K:bp}
theorem FK {γ Z O:z8} {ξ ν ι:TE} {β:f' z8} {k:Nat} {tpos p pos:Pos} (hK:X.K=K) (g2:Gl X "zip") (n2:X.mg "zip"=none) (θ:PE X γ ξ) (ζ:PE X Z ν) (η:PE X O ι)
  (h1:qQ [γ,Z,O] X.env=(false,eval γ X.env)::qQ [Z,O] X.env:=by rfl) (h2:qQ [Z,O] X.env=(false,eval Z X.env)::qQ [O] X.env:=by rfl) (ρ:qQ [O] X.env=[(false,eval O X.env)]:=by rfl):
  PI X (.Tuple β k tpos) (.Call (.Name "zip" p) [γ,Z,O] [] pos) (Im K ξ ν ι):=by
 subst hK;intro pins s σ H R I h;refine QA (jP I g2 n2 OJ (JX (thn (aa θ (aa ζ (aa η af ρ) h2) h1 pos pins s σ H (λvs H1=>match vs with | [x,y,z]=>Gs X.K R x y z H1 | _=>False) I h) λus Y ⟨vs,H1,I1,δ,ε⟩=>?_) h1 (by rw[h2,ρ];rfl)))
 match vs,δ,ε with
 | [x,y,z],δ,ε=>
 obtain⟨a,b,c,xs,ys,zs,ex,ey,ez,sa,υ,τ,q⟩:=ε;subst ex ey ez;cases δ with
 | cons ω r2=>
 cases r2 with
 | cons ψ r3=>
 cases r3 with
 | cons φ r4=>
 cases r4;cases ω;cases ψ;cases φ;obtain⟨its,ra,π,a5⟩:=I1.list sa;obtain⟨a3,rb,pb,χ⟩:=I1.list υ;obtain⟨a0,rc,ο,a4⟩:=I1.list τ;have la:a < Y.heap.objs.size:=let ⟨o,e,_⟩:=π.isList;hF e
 have lb:b < Y.heap.objs.size:=let ⟨o,e,_⟩:=pb.isList;hF e
 have lc:c < Y.heap.objs.size:=let ⟨o,e,_⟩:=ο.isList;hF e
 have fin:∀q∈z6 Y.heap.objs.size,FpOk X pins H1 q:=λq hb=>by
  have α:Y.heap.objs.size<=q:=by
   simp only[z6,rz,JV,L5] at hb;rcases hb with e | e | e | e | e | e<;>rw[e]<;>omega
  exact I1.fpOk α (I1.hok.fresh α)
 refine Z3.call3 π.isList pb.isList ο.isList λh' st k=>MR st.z ?_;exact⟨Y.heap.objs.size + 5,_,_,_,H1,rfl,I1.kept (t':=Y.toks) k,zk a b c _ la lb lc,st,fin,q⟩
end
theorem Da {K:bp} {a b c:fy} {xs ys zs:f' V} {g:TG} {tb:TS} {D:Ends} {σ:St} {H:Hp} (hl:xs.length=ys.length) (hl2:xs.length=zs.length) (O:Nat->St->Hp->Prop) (h0:O 0 σ H) (hq:∀i σ H,i<=xs.length->O i σ H->SqL K H a xs/\SqL K H b ys/\SqL K H c zs)
  (hs:∀i x y z σ H p H',xs[i]? =ak x->ys[i]? =ak y->zs[i]? =ak z->O i σ H->H p=none->Same H H'->H' p=ak (.tup [x,y,z])->g (.ref p) σ H' fun ν H2=>tb {D with nx:=O (i + 1),ct:=O (i + 1),bk:=D.nx} ν H2) (hd:∀σ H,O xs.length σ H->D.nx σ H):
  ∃W:Nat->Nat->St->Hp->Prop,(∃m,W 0 m σ H)/\∀i m σ H,W i m σ H->
    ((Itz3 K a b c).stop i H/\D.nx σ H)∨((Itz3 K a b c).go i H/\∃N:St->Hp->Prop,(∀σ' H',N σ' H'->∃γ,γ < m/\W (i + 1) γ σ' H')/\∀x H',(Itz3 K a b c).yld i H x H'->g x σ H' fun ν H2=>tb {D with nx:=N,ct:=N,bk:=D.nx} ν H2):=by
 refine⟨λi m σ H=>m=xs.length - i/\i<=xs.length/\O i σ H,⟨xs.length,@F,L0 _,h0⟩,?_⟩;rintro i m σ H ⟨rfl,hi,p⟩;obtain⟨β,α,Z⟩:=hq i σ H hi p;by_cases Y:i < xs.length
 ·refine .inr ⟨⟨xs,ys,zs,xs[i],ys[i]' @A,zs[i]' @A,β,α,Z,hl,hl2,by simp[Y],by simp[show i < ys.length by omega],by simp[show i < zs.length by omega]⟩,O (i + 1),fun σ' H' ζ=>⟨xs.length - (i + 1),by omega,rfl,Y,ζ⟩,λx H' y=>?_⟩;obtain⟨r,u,v,t,f,θ,η,π,ε,δ⟩:=y;subst θ η;exact hs i u v t σ H r _ (π xs β) (ε ys α) (δ zs Z) p f (eT f) bg
 ·have e:i=xs.length:=by omega
  subst e;exact .inl ⟨⟨xs,ys,zs,β,α,Z,hl,hl2,rfl⟩,hd σ H p⟩
end L2
set_option autoImplicit false
namespace M
theorem F7 (a b:Nat):(a||| b) / 2=a / 2||| b / 2:=by
 apply ka;intro i;simp[MT,NC]
theorem xt (a b:Nat):(a&&&b) / 2=a / 2&&&b / 2:=by
 apply ka;intro i;simp[MT,K4]
theorem xr (a b:Nat):(a^^^b) / 2=a / 2^^^b / 2:=by
 apply ka;intro i;simp[MT,rv]
theorem or_sum (a:Nat):∀b:Nat,a||| b=(a^^^b) + (a&&&b):=by
 induction a using NF with
 | ind a ih=>
   intro b;by_cases ha:a=0
   ·subst ha;simp
   ·have h:=ih (a / 2) @A (b / 2);have Z:=MP (a||| b) 2;have Y:=MP (a^^^b) 2;have O:=MP (a&&&b) 2;rw[F7] at Z;rw[xr] at Y;rw[xt] at O;have θ:(a||| b) % 2=(a % 2||| b % 2):=by have:=@Nat.or_mod_two_pow a b 1;simpa using this
    have β:(a^^^b) % 2=(a % 2^^^b % 2):=by have:=@Nat.xor_mod_two_pow a b 1;simpa using this
    have α:(a&&&b) % 2=(a % 2&&&b % 2):=by have:=@Nat.and_mod_two_pow a b 1;simpa using this
    have c:(a % 2||| b % 2)=(a % 2^^^b % 2) + (a % 2&&&b % 2):=by
     rcases Kz a with h1 | h1<;>rcases Kz b with h2 | h2<;>rw[h1,h2]<;>decide
    omega
noncomputable def pb:Nat->Nat->JY
 | 0,_=>false
 | w + 1,m=>(m.testBit w)^^(pb w m)
theorem Ek (w a b:Nat):pb w (a^^^b)=(pb w a^^pb w b):=by
 induction w with
 | zero=>rfl
 | succ w ih=>
   simp only[pb,rv,ih];cases a.testBit w<;>cases b.testBit w<;>cases pb w a<;>cases pb w b<;>rfl
theorem n0 (h j m:Nat):pb (h + j) m=(pb h m^^pb j (m>>>h)):=by
 induction j with
 | zero=>simp[pb]
 | succ j ih=>
   rw[Nat.add_succ];simp only[pb,ih,KM];cases m.testBit (h + j)<;>cases pb h m<;>cases pb j (m>>>h)<;>rfl
theorem Ap (h m:Nat):pb h (m % 2 ^ h)=pb h m:=by
 suffices ∀j,j<=h->pb j (m % 2 ^ h)=pb j m from this h (ru h)
 intro j
 induction j with
 | zero=>intro _;rfl
 | succ j ih=>
   intro O;simp only[pb];rw[ih @A,J7];simp[show j < h by omega]
theorem FO (w j m:Nat) (hm:m < 2 ^ w):pb (w + j) m=pb w m:=by
 rw[n0,so,Nat.div_eq_of_lt hm]
 have:∀j,pb j 0=false:=by intro j;induction j with
  | zero=>rfl
  | succ j ih=>simp[pb,ih]
 rw[this];simp
theorem pb_up {w ω m:Nat} (hm:m < 2 ^ w) (h:w<=ω):pb ω m=pb w m:=by
 obtain⟨j,rfl⟩:=Nh h;exact FO w j m hm
theorem pb_fold (w h m:Nat) (hw:h<=w) (hm:m < 2 ^ w) (h2:w<=2 * h):pb h ((m>>>h)^^^(m&&&(2 ^ h - 1)))=pb w m:=by
 rw[KL,Ek,Ap];obtain⟨j,rfl⟩:=Nh hw;rw[n0]
 have O:m>>>h < 2 ^ j:=by
  rw[so];exact NV (by rw[<-Mw];exact hm)
 rw[pb_up O (show j<=h by omega)];cases pb j (m>>>h)<;>cases pb h m<;>rfl
theorem fold_lt (w h m:Nat) (hm:m < 2 ^ w) (h2:w<=2 * h):(m>>>h)^^^(m&&&(2 ^ h - 1)) < 2 ^ h:=by
 apply N0
 ·rw[so];refine NV ?_;rw[<-Mw];exact fb hm (gn @C @A)
 ·rw[KL];exact Mj _ (kb h)
noncomputable def pl (w m:Nat):D8:=(lB w).filter m.testBit
theorem pl_up {w ω m:Nat} (hm:m < 2 ^ w) (h:w<=ω):pl ω m=pl w m:=by
 obtain⟨j,rfl⟩:=Nh h;unfold pl;rw[List.range_add,KO]
 have:List.filter m.testBit (List.map (λx=>w + x) (lB j))=[]:=by
  rw[List.filter_eq_nil_iff];intro a ha;obtain⟨k,_,rfl⟩:=ov.mp ha;rw[lT (fb hm (gn @C (Nat.le_add_right w k)))];simp
 rw[this,Kp]
noncomputable def xm (ps:D8):Nat:=ps.foldl (λa p=>a^^^2 ^ p) 0
theorem EO (ps:D8):∀(a k:Nat),(ps.foldl (λa p=>a^^^2 ^ p) a).testBit k=(a.testBit k^^(ps.count k % 2 == 1)):=by
 induction ps with
 | nil=>intro a k;simp
 | cons p ps ih=>
   intro a k;rw[La,ih,rv,pY,List.count_cons];by_cases h:p=k
   ·subst h;simp only[decide_true,Ky,Og];rcases Kz (Q5 p ps) with z | z
    ·have e:(Q5 p ps + 1) % 2=1:=by omega
     rw[z,e];cases a.testBit p<;>rfl
    ·have e:(Q5 p ps + 1) % 2=0:=by omega
     rw[z,e];cases a.testBit p<;>rfl
   ·have hb:(p == k)=false:=J8.mpr h;simp[hb,h]
theorem GC (ps:D8) (k:Nat):(xm ps).testBit k=(ps.count k % 2 == 1):=by
 unfold xm;rw[EO];simp
theorem l0 (w k:Nat) (p:Nat->JY):((lB w).filter p).count k=if k < w/\p k=true then 1 else 0:=by
 have nd:((lB w).filter p).Nodup:=Mi p N9;by_cases h:k < w/\p k=true
 ·rw[pT h];have hm:k∈(lB w).filter p:=KB.mpr ⟨zx.mpr h.1,h.2⟩;exact List.Nodup.count nd |>.trans (by rw[pT hm])
 ·rw[oT h];refine List.count_eq_zero.mpr λhm=>h ?_;obtain⟨a,b⟩:=KB.mp hm;exact⟨zx.mp a,b⟩
theorem Cy (w m k:Nat):(pl w m).count k=if k < w/\m.testBit k=true then 1 else 0:=l0 w k m.testBit
theorem xm_ext {w m:Nat} {ps:D8} (hm:m < 2 ^ w) (h:∀k,ps.count k % 2=(pl w m).count k % 2):xm ps=m:=by
 apply ka;intro k;rw[GC,h,Cy];by_cases hk:k < w
 ·cases e:m.testBit k<;>simp[hk,e]
 ·rw[lT (fb hm (gn @C (Nat.not_lt.mp hk)))];simp[hk]
noncomputable def Span:D8->Nat->Prop
 | [],x=>x=0
 | r::rs,x=>Span rs x∨Span rs (x^^^r)
theorem jE:∀rs:D8,Span rs 0
 | []=>rfl
 | _::rs=> .inl (jE rs)
theorem aT (x r:Nat):x^^^r^^^r=x:=by rw[Ke,M4,KJ]
theorem eJ (a b c:Nat):a^^^b^^^c=a^^^c^^^b:=by rw[Ke,N4 b c,<-Ke]
theorem bL:∀(rs:D8) (r x:Nat),Span (rs++[r]) x↔Span rs x∨Span rs (x^^^r)
 | [],r,x=>Qp
 | q::rs,r,x=>by
   show Span (rs++[r]) x∨Span (rs++[r]) (x^^^q)↔(Span rs x∨Span rs (x^^^q))∨(Span rs (x^^^r)∨Span rs (x^^^r^^^q));rw[bL rs r x,bL rs r (x^^^q),eJ x q r];constructor
   ·rintro((h | h) | (h | h))
    ·exact .inl (.inl h)
    ·exact .inr (.inl h)
    ·exact .inl (.inr h)
    ·exact .inr (.inr h)
   ·rintro((h | h) | (h | h))
    ·exact .inl (.inl h)
    ·exact .inr (.inl h)
    ·exact .inl (.inr h)
    ·exact .inr (.inr h)
theorem span_xor:∀{rs:D8} {x y:Nat},Span rs x->Span rs y->Span rs (x^^^y)
 | [],x,y,h,k=>by
   have h:x=0:=h;have k:y=0:=k;subst h;subst k;exact rfl
 | r::rs,x,y,h,k=>by
   rcases h with h | h<;>rcases k with k | k
   ·exact .inl (span_xor h k)
   ·refine .inr ?_;have:=span_xor h k;rwa [<-Ke] at this
   ·refine .inr ?_;have:=span_xor h k;rwa [eJ] at this
   ·refine .inl ?_;have:=span_xor h k;rwa [<-Ke,eJ x r y,aT] at this
noncomputable def sm:D8->Nat->Nat
 | [],_=>0
 | r::rs,p=>(if p.testBit 0 then r else 0)^^^sm rs (p / 2)
theorem sm_zero:∀rs:D8,sm rs 0=0
 | []=>rfl
 | r::rs=>by show(if (0:Nat).testBit 0 then r else 0)^^^sm rs (0 / 2)=0;rw[show(0:Nat) / 2=0 from rfl,sm_zero rs];simp
theorem xor4 (a b c d:Nat):a^^^b^^^(c^^^d)=a^^^c^^^(b^^^d):=by
 rw[Ke,<-Ke b c d,N4 b c,Ke c b d,<-Ke a c]
theorem sm_xor:∀(rs:D8) (p q:Nat),sm rs (p^^^q)=sm rs p^^^sm rs q
 | [],p,q=>by show(0:Nat)=0^^^0;simp
 | r::rs,p,q=>by
   show(if (p^^^q).testBit 0 then r else 0)^^^sm rs ((p^^^q) / 2)=((if p.testBit 0 then r else 0)^^^sm rs (p / 2))^^^((if q.testBit 0 then r else 0)^^^sm rs (q / 2));rw[xr,sm_xor rs,rv,xor4];congr 1;cases p.testBit 0<;>cases q.testBit 0<;>simp
theorem dM:∀(rs:D8) (r p:Nat),sm (rs++[r]) p=sm rs p^^^(if p.testBit rs.length then r else 0)
 | [],r,p=>by show(if p.testBit 0 then r else 0)^^^0=0^^^_;rw[KJ,NX];rfl
 | q::rs,r,p=>by
   show(if p.testBit 0 then q else 0)^^^sm (rs++[r]) (p / 2)=((if p.testBit 0 then q else 0)^^^sm rs (p / 2))^^^_;rw[dM rs r (p / 2),MT,Ke];rfl
theorem gS {rs:D8} {r p:Nat} (h:p < 2 ^ rs.length):sm (rs++[r]) p=sm rs p:=by
 rw[dM,lT h];simp
theorem GS (rs:D8) (r:Nat):sm (rs++[r]) (2 ^ rs.length)=r:=by
 rw[dM]
 have e:sm rs (2 ^ rs.length)=0:=by
  have:∀(rs:D8) (k:Nat),rs.length<=k->sm rs (2 ^ k)=0:=by
   intro rs
   induction rs with
   | nil=>intro k _;rfl
   | cons q rs ih=>
     intro k hk;have hk:rs.length + 1<=k:=hk;obtain⟨j,rfl⟩:∃j,k=j + 1:=⟨k - 1,@A⟩;show(if (2 ^ (j + 1)).testBit 0 then q else 0)^^^sm rs (2 ^ (j + 1) / 2)=0;have Y:(2 ^ (j + 1)) / 2=2 ^ j:=by rw[Nj];omega
     have O:(2 ^ (j + 1)).testBit 0=false:=by rw[pY];simp
     rw[Y,O,ih j @A];simp
  exact this rs _ (ru _)
 rw[e,Lr];simp
theorem sm_span:∀(rs:D8) (p:Nat),Span rs (sm rs p)
 | [],p=>rfl
 | r::rs,p=>by
   show Span rs _∨Span rs _;have ih:=sm_span rs (p / 2);cases h:p.testBit 0 with
   | true=>refine .inr ?_;rw[show sm (r::rs) p=r^^^sm rs (p / 2) from by show(if p.testBit 0 then r else 0)^^^_=_;rw[h];rfl,N4 r,aT];exact ih
   | false=>refine .inl ?_;rw[show sm (r::rs) p=sm rs (p / 2) from by show(if p.testBit 0 then r else 0)^^^_=_;rw[h];simp];exact ih
theorem vp:∀{rs:D8} {x:Nat},Span rs x->∃p,p < 2 ^ rs.length/\sm rs p=x
 | [],x,h=>⟨0,Nat.one_pos,(show x=0 from h).symm⟩
 | r::rs,x,h=>by
   rcases h with h | h
   ·obtain⟨p,O,e⟩:=vp h;refine⟨2 * p,by rw[ub,Nj];omega,?_⟩;show(if (2 * p).testBit 0 then r else 0)^^^sm rs (2 * p / 2)=x;rw[show 2 * p / 2=p by omega,show(2 * p).testBit 0=false by simp[MA],e];simp
   ·obtain⟨p,O,e⟩:=vp h;refine⟨2 * p + 1,by rw[ub,Nj];omega,?_⟩;show(if (2 * p + 1).testBit 0 then r else 0)^^^sm rs ((2 * p + 1) / 2)=x;rw[show(2 * p + 1) / 2=p by omega,show(2 * p + 1).testBit 0=true by simp[MA],e];show r^^^(x^^^r)=x;rw[N4,aT]
theorem AD {x t:Nat} (h1:2 ^ t<=x) (h2:x < 2 ^ (t + 1)):x.log2=t:=by
 have O:x≠0:=by have:=kb t;omega
 have a:=(OX O).mpr h2;have b:t<=x.log2:=(Nat.le_log2 O).mpr h1;omega
theorem fY {x:Nat} (h:x≠0):x.testBit x.log2=true:=by
 have:=Nat.testBit_log2 h;exact this
theorem xor_lt_pow {x y t:Nat} (h1:x < 2 ^ t) (h2:y < 2 ^ t):x^^^y < 2 ^ t:=N0 h1 h2
theorem BS {x y:Nat} (hx:x≠0) (hy:y≠0) (h:x.log2=y.log2):x^^^y < 2 ^ x.log2:=by
 have h1:x^^^y < 2 ^ (x.log2 + 1):=xor_lt_pow LL (by rw[h];exact LL)
 have hb:(x^^^y).testBit x.log2=false:=by
  rw[rv,fY hx,show y.testBit x.log2=true by rw[h];exact fY hy];rfl
 apply Lj;intro i hi;rcases Qj hi with hi | hi
 ·exact lT (fb h1 (gn @C hi))
 ·rw[<-hi];exact hb
theorem xor_less {x y:Nat} (hx:x≠0) (hy:y≠0) (h:x.log2=y.log2):x^^^y < x:=
 fb (BS hx hy h) (QJ hx)
theorem kT {x y:Nat} (hy:y≠0) (h:x < 2 ^ y.log2):(x^^^y).log2=y.log2:=by
 have h1:x^^^y < 2 ^ (y.log2 + 1):=xor_lt_pow (fb h (gn @C @A)) LL;have hb:(x^^^y).testBit y.log2=true:=by rw[rv,lT h,fY hy];rfl
 exact AD (Nat.ge_two_pow_of_testBit hb) h1
theorem vT {x y:Nat} (hx:x≠0) (hy:y≠0) (h:x.log2≠y.log2):(x^^^y).log2=x.log2∨(x^^^y).log2=y.log2:=by
 rcases Nat.lt_or_gt_of_ne h with h | h
 ·exact .inr (kT hy (fb LL (gn @C h)))
 ·refine .inl ?_;rw[N4];exact kT hx (fb LL (gn @C h))
def Fre (rows:D8) (i:Nat):Prop:=i < rows.length/\¬Span (rows.take i) (rows.getD i 0)
theorem Fre.snoc {rows:D8} {i:Nat} (r:Nat) (h:Fre rows i):Fre (rows++[r]) i:=by
 obtain⟨hi,hn⟩:=h;refine⟨by rw[gw];omega,?_⟩;rw[OL (KA hi),eh,qM hi,<-eh];exact hn
theorem Fre.last {rows:D8} {r:Nat} (h:¬Span rows r):Fre (rows++[r]) rows.length:=by
 refine⟨by rw[gw];simp,?_⟩;rw[QV,eh,qE (ru _),Lz];exact h
def Frs (rows:D8) (q:Nat):Prop:=∀i,q.testBit i=true->Fre rows i
theorem Frs.zero (rows:D8):Frs rows 0:=λi h=>by rw[z5] at h;cases h
theorem Frs.xor {rows:D8} {p q:Nat} (O:Frs rows p) (hq:Frs rows q):Frs rows (p^^^q):=λi h=>by
 rw[rv] at h;cases h1:p.testBit i with
 | true=>exact O i h1
 | false=>rw[h1] at h;exact hq i (by simpa using h)
theorem Frs.snoc {rows:D8} {q:Nat} (r:Nat) (h:Frs rows q):Frs (rows++[r]) q:=λi hi=>(h i hi).snoc r
theorem Frs.more {rows:D8} {q r:Nat} (h:Frs rows q) (O:¬Span rows r):Frs (rows++[r]) (q^^^2 ^ rows.length):=(h.snoc r).xor λi hi=>by
 rw[pY] at hi;have e:rows.length=i:=by simpa using hi
 rw[<-e];exact Fre.last O
structure Ech (es:A') (rows:D8):Prop where
 nz:∀e∈es,e.1≠0
 lt:∀e∈es,e.2 < 2 ^ rows.length
 sm:∀e∈es,sm rows e.2=e.1
 nd:(es.map λe=>e.1.log2).Nodup
 all:∀y,Span rows y->y≠0->∃e∈es,e.1.log2=y.log2
 sub:∀e∈es,Frs rows e.2
theorem Ech.nil:Ech [] []:=⟨λ_ h=>kf h @F,λ_ h=>kf h @F,λ_ h=>kf h @F,.nil,λy h n=>kf h n,λ_ h=>kf h @F⟩
theorem Ech.span {es:A'} {rows:D8} (I:Ech es rows) {e:Nat×Nat} (h:e∈es):Span rows e.1:=by
 rw[<-I.sm e h];exact sm_span _ _
theorem vz {rows:D8} {r p:Nat} (h:p < 2 ^ rows.length):sm (rows++[r]) (p^^^2 ^ rows.length)=sm rows p^^^r:=by
 rw[sm_xor,gS h,GS]
theorem vS {n p:Nat} (h:p < 2 ^ n):p^^^2 ^ n < 2 ^ (n + 1):=
 xor_lt_pow (fb h (gn @C @A)) (xv @C @A)
theorem Ech.null {es:A'} {rows:D8} (I:Ech es rows) {r q:Nat} (hq:q < 2 ^ rows.length) (e:r^^^M.sm rows q=0):Span rows r/\Ech es (rows++[r]):=by
 have O:r=M.sm rows q:=by
  have:=y3 (·^^^M.sm rows q) e;simpa[aT] using this
 have hs:Span rows r:=by rw[O];exact sm_span _ _
 refine⟨hs,I.nz,λe h=>?_,λe h=>?_,I.nd,λy hy n=>?_,λe h=>(I.sub e h).snoc r⟩
 ·rw[gw];exact fb (I.lt e h) (gn @C @F)
 ·rw[gS (I.lt e h)];exact I.sm e h
 ·rcases(bL rows r y).mp hy with hy | hy
  ·exact I.all y hy n
  ·have:=span_xor hy hs;rw[aT] at this;exact I.all y this n
theorem Ech.more {es:A'} {rows:D8} (I:Ech es rows) {r q:Nat} (hq:q < 2 ^ rows.length) (e:r^^^M.sm rows q≠0) (hn:∀e∈es,e.1.log2≠(r^^^M.sm rows q).log2) (hf:Frs rows q):
  ¬Span rows r/\Ech (es++[(r^^^M.sm rows q,q^^^2 ^ rows.length)]) (rows++[r]):=by
 have Y:¬Span rows r:=λhs=>by
  obtain⟨x,O,ex⟩:=I.all _ (span_xor hs (sm_span rows q)) e;exact hn x O ex
 refine⟨Y,λx h=>?_,λx h=>?_,λx h=>?_,?_,λy hy n=>?_,λx h=>(px.mp h).elim (λh=>(I.sub x h).snoc r) λh=>by rw[hC] at h;subst h;exact hf.more Y⟩
 ·rcases px.mp h with h | h
  ·exact I.nz x h
  ·rw[hC] at h;subst h;exact e
 ·rw[gw];rcases px.mp h with h | h
  ·exact fb (I.lt x h) (gn @C @F)
  ·rw[hC] at h;subst h;exact vS hq
 ·rcases px.mp h with h | h
  ·rw[gS (I.lt x h)];exact I.sm x h
  ·rw[hC] at h;subst h;show M.sm _ (q^^^_)=r^^^M.sm rows q;rw[vz hq,N4]
 ·rw[gA,MX];refine⟨I.nd,@F,λa ha b hb=>?_⟩;obtain⟨x,O,rfl⟩:=ov.mp ha;rw[LS,hC] at hb;subst hb;exact hn x O
 ·rcases(bL rows r y).mp hy with hy | hy
  ·obtain⟨x,O,ex⟩:=I.all y hy n;exact⟨x,ro _ O,ex⟩
  ·
   have hz:=span_xor hy (sm_span rows q)
   have ey:y=(y^^^r^^^M.sm rows q)^^^(r^^^M.sm rows q):=by
    rw[xor4,M4,KJ,aT]
   generalize α:y^^^r^^^M.sm rows q=z at hz ey;by_cases Z:z=0
   ·refine⟨_,oD _ (hC.mpr rfl),?_⟩;show(r^^^M.sm rows q).log2=y.log2;rw[ey,Z,NX]
   ·obtain⟨x,O,ex⟩:=I.all z hz Z;have ne:z.log2≠(r^^^M.sm rows q).log2:=by rw[<-ex];exact hn x O
    rcases vT Z e ne with h | h
    ·exact⟨x,ro _ O,by rw[ex,ey,h]⟩
    ·refine⟨_,oD _ (hC.mpr rfl),?_⟩;show(r^^^M.sm rows q).log2=y.log2;rw[ey,h]
noncomputable def tt (p:Prop):Bool:=@decide p (Ln p)
theorem DT {p:Prop} (h:p):tt p=true:=@lh _ (Ln _) h
theorem DU {p:Prop} (h:¬p):tt p=false:=@ia _ (Ln _) h
noncomputable def fr (rows:D8):D8:=(lB rows.length).filter λi=> !tt (Span (rows.take i) (rows.getD i 0))
theorem A7 (rows:D8) (r:Nat):fr (rows++[r])=fr rows++(if tt (Span rows r)=true then [] else [rows.length]):=by
 unfold fr;rw[gw,y2,Kj,KO]
 have O:(lB rows.length).filter (λi=> !tt (Span ((rows++[r]).take i) ((rows++[r]).getD i 0)))=(lB rows.length).filter (λi=> !tt (Span (rows.take i) (rows.getD i 0))):=by
  apply List.filter_congr;intro i hi;have hi:=zx.mp hi;have a:(rows++[r]).take i=rows.take i:=OL (KA hi)
  have b:(rows++[r]).getD i 0=rows.getD i 0:=by
   rw[eh,eh,qM hi]
  rw[a,b]
 rw[O];congr 1;have a:(rows++[r]).take rows.length=rows:=QV
 have b:(rows++[r]).getD rows.length 0=r:=by
  rw[eh,qE (ru _),Lz];rfl
 rw[LH,a,b];cases tt (Span rows r)<;>rfl
theorem fr_len (rows:D8):(fr rows).length<=rows.length:=by
 have:=NK (λi=> !tt (Span (rows.take i) (rows.getD i 0))) (lB rows.length);rw[u2] at this;exact this
theorem fr_in {rows:D8} {r:Nat} (h:Span rows r):fr (rows++[r])=fr rows:=by rw[A7,DT h];simp
theorem fr_out {rows:D8} {r:Nat} (h:¬Span rows r):fr (rows++[r])=fr rows++[rows.length]:=by rw[A7,DU h];rfl
structure Nul (nms rows:D8):Prop where
 lt:∀x∈nms,x < 2 ^ rows.length
 nz:∀x∈nms,x≠0
 sm:∀x∈nms,sm rows x=0
 pw:nms.Pairwise λa b=>a.log2 < b.log2
 len:nms.length + (fr rows).length=rows.length
theorem Nul.nil:Nul [] []:=⟨λ_ h=>kf h @F,λ_ h=>kf h @F,λ_ h=>kf h @F,.nil,rfl⟩
theorem Nul.keep {nms rows:D8} (I:Nul nms rows) {r:Nat} (h:¬Span rows r):Nul nms (rows++[r]) where
 lt:=λx O=>by rw[gw];exact fb (I.lt x O) (gn @C @F)
 nz:=I.nz
 sm:=λx O=>by rw[gS (I.lt x O)];exact I.sm x O
 pw:=I.pw
 len:=by rw[fr_out h,gw,gw,<-I.len];simp;omega
theorem o9 {n q:Nat} (h:q < 2 ^ n):q^^^2 ^ n≠0/\(q^^^2 ^ n).log2=n:=by
 have e:(2 ^ n:Nat).log2=n:=AD (ru _) (xv @C @A);have O:(2 ^ n:Nat)≠0:=by have:=kb n;omega
 have hl:=kT (x:=q) O (by rw[e];exact h);refine⟨λz=>?_,by rw[hl,e]⟩;have hb:(q^^^2 ^ n).testBit n=true:=by rw[rv,lT h,Lr];rfl
 rw[z] at hb;simp at hb
theorem log2_under {n q:Nat} (h0:q≠0) (h:q < 2 ^ n):q.log2 < n:=(OX h0).mpr h
theorem Nul.snoc {nms rows:D8} (I:Nul nms rows) {r q:Nat} (hq:q < 2 ^ rows.length) (e:r^^^M.sm rows q=0) (hs:Span rows r):Nul (nms++[q^^^2 ^ rows.length]) (rows++[r]) where
 lt:=λx hx=>by
  rw[gw];rcases px.mp hx with hx | hx
  ·exact fb (I.lt x hx) (gn @C @F)
  ·rw[hC] at hx;subst hx;exact vS hq
 nz:=λx hx=>by
  rcases px.mp hx with hx | hx
  ·exact I.nz x hx
  ·rw[hC] at hx;subst hx;exact(o9 hq).1
 sm:=λx hx=>by
  rcases px.mp hx with hx | hx
  ·rw[gS (I.lt x hx)];exact I.sm x hx
  ·rw[hC] at hx;subst hx;rw[vz hq,N4];exact e
 pw:=by
  rw[PU];refine⟨I.pw,List.pairwise_singleton _ _,λa ha b hb=>?_⟩;rw[hC] at hb;subst hb;rw[(o9 hq).2];exact log2_under (I.nz a ha) (I.lt a ha)
 len:=by rw[fr_in hs,gw,gw,<-I.len];simp;omega
def Inj (ws:D8):Prop:=∀p,p < 2 ^ ws.length->sm ws p=0->p=0
theorem sm_lt {t:Nat}:∀{ws:D8} (p:Nat),(∀x∈ws,x < 2 ^ t)->sm ws p < 2 ^ t
 | [],p,_=>kb t
 | w::ws,p,h=>by
   refine xor_lt_pow ?_ (sm_lt _ λx O=>h x (lA _ O));split
   ·exact h w (iv ..)
   ·exact kb t
theorem Inj.nil:Inj []:=λp h _=>by
 have:p < 1:=h;omega
theorem sg:∀(n:Nat) (l:D8),l.Nodup->(∀x∈l,x < n)->l.length<=n
 | 0,l,_,h=>by
   cases l with
   | nil=>exact ru _
   | cons x r=>exact kf (h x (iv ..)) (J6 _)
 | n + 1,l,nd,h=>by
   have ih:=sg n (l.erase n) (nd.erase n) λx O=>by
    have hm:=(nd.mem_erase_iff).mp O;have:=h x hm.2;have:=hm.1;omega
   by_cases hm:n∈l
   ·rw[Pj hm] at ih;omega
   ·rw[List.erase_of_not_mem hm] at ih;omega
theorem span_lt {t:Nat}:∀{rs:D8} {x:Nat},(∀r∈rs,r < 2 ^ t)->Span rs x->x < 2 ^ t
 | [],x,_,h=>by have h:x=0:=h;rw[h];exact kb t
 | r::rs,x,b,h=>by
   have ih:=λx=>span_lt (rs:=rs) (x:=x) λy O=>b y (lA _ O);rcases h with h | h
   ·exact ih x h
   ·have:=xor_lt_pow (ih _ h) (b r (iv ..));rwa [aT] at this
structure Sums (ks rows:D8):Prop where
 nd:ks.Nodup
 all:∀x,x∈ks↔Span rows x
theorem Sums.zero:Sums [0] []:=⟨@F,λx=>by rw[hC];exact Qp⟩
theorem EM {a b r:Nat} (h:a^^^r=b^^^r):a=b:=by
 have:=y3 (·^^^r) h;simpa[aT] using this
theorem Sums.step {ks rows:D8} (S:Sums ks rows) {r:Nat} (h:¬Span rows r):Sums (ks++ks.map (·^^^r)) (rows++[r]):=by
 refine⟨?_,λx=>?_⟩
 ·rw[MX];refine⟨S.nd,?_,λa ha b hb e=>?_⟩
  ·exact List.Pairwise.map _ (λa b O e=>O (EM e)) S.nd
  ·obtain⟨c,Z,rfl⟩:=ov.mp hb;subst e;have:=span_xor ((S.all _).mp ha) ((S.all _).mp Z);rw[eJ,M4,NX] at this;exact h this
 ·rw[px,bL,S.all,ov];constructor
  ·rintro(h | ⟨y,Y,rfl⟩)
   ·exact .inl h
   ·refine .inr ?_;rw[aT];exact(S.all _).mp Y
  ·rintro(h | h)
   ·exact .inl h
   ·exact .inr ⟨x^^^r,(S.all _).mpr h,aT x r⟩
theorem Sums.keep {ks rows:D8} (S:Sums ks rows) {r:Nat} (h:Span rows r):Sums ks (rows++[r]):=
 ⟨S.nd,λx=>by
  rw[S.all,bL];refine⟨.inl,λq=>q.elim id λq=>?_⟩;have:=span_xor q h;rwa [aT] at this⟩
theorem Sums.few {ks rows:D8} (S:Sums ks rows) {t:Nat} (h:∀r∈rows,r < 2 ^ t):ks.length<=2 ^ t:=sg _ _ S.nd λx O=>span_lt h ((S.all x).mp O)
end M
namespace Sx
open PySem L2
noncomputable abbrev nat (k:Nat):V:= .int (k:Int)
theorem Fy {k:Nat} {A:z3} (r:Room k A):A.units + 100 < cLine:=by have:=r.un;omega
theorem iteB {c:JY} {A B:Prop} (h1:c=true->A) (h2:c=false->B):if c=true then A else B:=by
 cases c
 ·rw[oT kv];exact h2 rfl
 ·rw[pT rfl];exact h1 rfl
theorem k7 (h:Nat):(2:Int) ^ h=((2 ^ h:Nat):Int):=by norm_cast
theorem shl1 (k:Nat):(1:Int) * 2 ^ ((k:Int).toNat)=((2 ^ k:Nat):Int):=by rw[lS,LD];norm_cast
theorem l5 (a b:Nat):NQ (a:Int) (b:Int)=((a||| b:Nat):Int):=by
 have Y:KZ (a:Int)= -(a:Int) - 1:=by first | rfl | (unfold KZ;omega)
 have O:KZ (b:Int)= -(b:Int) - 1:=by first | rfl | (unfold KZ;omega)
 unfold NQ K';rw[ia (show ¬(0:Int)<=KZ (a:Int) by rw[Y];omega),ia (show ¬(0:Int)<=KZ (b:Int) by rw[O];omega)];have n:∀x:Int,KZ (KZ x)=x:=λx=>by unfold KZ;omega
 simp only[n,lS]
theorem aU (a b:Nat):Ny (a:Int) (b:Int)=((a^^^b:Nat):Int):=by
 unfold Ny;rw[l5,bQ];have:=M.or_sum a b;omega
theorem uY:vl ((0:Nat):Int)=0:=by decide
theorem j9 {m:Nat} (h:m≠0):vl (m:Int)=m.log2 + 1:=by
 unfold vl;have e:((m:Int) == 0)=false:=by rw[J8];omega
 rw[e,oT kv,Od]
theorem xI (m i:Nat):K' ((m:Int) / 2 ^ ((0 + (i:Int)).toNat)) 1=if m.testBit i then 1 else 0:=by
 have Y:(0 + (i:Int)).toNat=i:=by omega
 rw[Y,k7];have O:(m:Int) / ((2 ^ i:Nat):Int)=((m>>>i:Nat):Int):=by rw[so];norm_cast
 rw[O,show(1:Int)=((1:Nat):Int) from rfl,bQ,Qk]
 have:m.testBit i=(m>>>i % 2 == 1):=by
  rw[Mu,so];rcases Kz (m / 2 ^ i) with h | h<;>rw[h]<;>rfl
 rw[this];rcases Kz (m>>>i) with h | h<;>rw[h]<;>rfl
structure En where
 a:fy
 m:Nat
 p:Nat
noncomputable def lJ (es:f' En):f' (Key×V):=es.map λe=>(Ki ((e.m.log2:Nat):Int),V.ref e.a)
theorem me:∀(es:f' En) (z:Int),(∃e∈es,((e.m.log2:Nat):Int)=z/\valV (lJ es) (Ki z)=ak (.ref e.a))∨((∀e∈es,((e.m.log2:Nat):Int)≠z)/\valV (lJ es) (Ki z)=none)
 | [],z=> .inr ⟨λ_ h=>kf h @F,rfl⟩
 | e::es,z=>by
   by_cases h:((e.m.log2:Nat):Int)=z
   ·exact .inl ⟨e,iv ..,h,nU (by show(Ki _:Key)=_;rw[h])⟩
   ·have O:valV (lJ (e::es)) (Ki z)=valV (lJ es) (Ki z):=nV (by show ¬(Ki _:Key)=_;intro q;exact h (QR q));rcases me es z with ⟨x,hx,Z,Y⟩ | ⟨h1,h2⟩
    ·exact .inl ⟨x,lA _ hx,Z,by rw[O];exact Y⟩
    ·refine .inr ⟨λx hx=>?_,by rw[O];exact h2⟩;rcases rz.mp hx with rfl | hx
     ·exact h
     ·exact h1 x hx
theorem Cw {kvs:f' (Key×V)} {k:Key} {v:V} (h:valV kvs k=none):putK kvs k v=kvs++[(k,v)]:=by
 unfold putK;rw[rH,h];rfl
structure StA (H:Hp) (C p d f n:fy) (rows:D8):Prop where
 ho:∃dx,H p=ak (.ins C dx [("by_top",.ref d),("free_places",.ref f),("null_masks",.ref n)])
 he:∃es:f' En,H d=ak (.dK (lJ es))/\(∀e∈es,H e.a=ak (.tup [nat e.m,nat e.p]))/\M.Ech (es.map λe=>(e.m,e.p)) rows/\es.length=(M.fr rows).length
 hf:H f=ak (.lst ((M.fr rows).map nat))
 hn:∃nms,H n=ak (.lst (nms.map nat))/\M.Nul nms rows
 ne:f≠n
theorem StA.same {H H2:Hp} {C p d f n:fy} {rows:D8} (x:StA H C p d f n rows) (s:Same H H2):StA H2 C p d f n rows where
 ho:=let ⟨dx,h⟩:=x.ho;⟨dx,s _ _ h⟩
 he:=let ⟨es,h,t,g,l⟩:=x.he;⟨es,s _ _ h,λe he=>s _ _ (t e he),g,l⟩
 hf:=s _ _ x.hf
 hn:=let ⟨nms,h,g⟩:=x.hn;⟨nms,s _ _ h,g⟩
 ne:=x.ne
theorem StA.null {H H2:Hp} {C p d f n:fy} {rows:D8} (x:StA H C p d f n rows) {r q:Nat} (hq:q < 2 ^ rows.length) (e:r^^^M.sm rows q=0) {nms:D8} (hn:M.Nul nms rows) (hl:H n=ak (.lst (nms.map nat)))
  (u:Upd H H2 n (.lst (nms.map nat++[nat (q^^^2 ^ rows.length)]))):StA H2 C p d f n (rows++[r]):=by
 obtain⟨dx,ho⟩:=x.ho;obtain⟨es,hd,ht,g,l⟩:=x.he;obtain⟨hs,g2⟩:=g.null hq e;refine⟨⟨dx,u.oth _ _ (gE ho hl @F) ho⟩,⟨es,u.oth _ _ (gE hd hl @F) hd,λe he=>u.oth _ _ (gE (ht e he) hl @F) (ht e he),g2,by rw[M.fr_in hs];exact l⟩,?_,⟨nms++[q^^^2 ^ rows.length],?_,hn.snoc hq e hs⟩,x.ne⟩
 ·rw[M.fr_in hs];exact u.oth _ _ x.ne x.hf
 ·rw[gA];exact u.at'
theorem StA.more {H H2 α Z:Hp} {C p d f n t:fy} {rows:D8} (x:StA H C p d f n rows) {r q:Nat} (hq:q < 2 ^ rows.length) (e:r^^^M.sm rows q≠0) (hn:∀y,M.Span rows y->y≠0->y.log2≠(r^^^M.sm rows q).log2) (hf:M.Frs rows q)
  (u:Upd H H2 f (.lst ((M.fr rows).map nat++[nat rows.length]))) (s:Same H2 α) (ht:α t=ak (.tup [nat (r^^^M.sm rows q),nat (q^^^2 ^ rows.length)])) {es:f' En} (hd:H d=ak (.dK (lJ es))) (O:∀e∈es,H e.a=ak (.tup [nat e.m,nat e.p])) (g:M.Ech (es.map λe=>(e.m,e.p)) rows) (l:es.length=(M.fr rows).length)
  (ι:Upd α Z d (.dK (putK (lJ es) (Ki (((r^^^M.sm rows q).log2:Nat):Int)) (.ref t)))):StA Z C p d f n (rows++[r]):=by
 obtain⟨dx,ho⟩:=x.ho;obtain⟨nms,Y,γ⟩:=x.hn;have ν:∀e∈es.map (λe=>(e.m,e.p)),e.1.log2≠(r^^^M.sm rows q).log2:=λe he=>hn e.1 (g.span he) (g.nz e he);obtain⟨hs,g2⟩:=g.more hq e ν hf;have ψ:=s _ _ (u.oth _ _ (gE hd x.hf @F) hd)
 have β:valV (lJ es) (Ki (((r^^^M.sm rows q).log2:Nat):Int))=none:=by
  rcases me es (((r^^^M.sm rows q).log2:Nat):Int) with ⟨z,hz,δ,_⟩ | ⟨_,h⟩
  ·exact kf (Int.ofNat_inj.mp δ) (ν (z.m,z.p) (ov.mpr ⟨z,hz,rfl⟩))
  ·exact h
 have go:∀(b:fy) (ob:HO),H b=ak ob->b≠f->b≠d->Z b=ak ob:=λb ob h h1 h2=>ι.oth _ _ h2 (s _ _ (u.oth _ _ h1 h));refine⟨⟨dx,go _ _ ho (gE ho x.hf @F) (gE ho hd @F)⟩,⟨es++[⟨t,r^^^M.sm rows q,q^^^2 ^ rows.length⟩],?_,λe he=>?_,?_,?_⟩,?_,⟨nms,go _ _ Y (Lf x.ne) (gE Y hd @F),γ.keep hs⟩,x.ne⟩
 ·rw[ι.at',Cw β];unfold lJ;rw[gA];rfl
 ·rcases px.mp he with he | he
  ·exact go _ _ (O e he) (gE (O e he) x.hf @F) (gE (O e he) hd @F)
  ·rw[hC] at he;subst he;exact ι.oth _ _ (gE ht ψ @F) ht
 ·rw[gA];exact g2
 ·rw[M.fr_out hs,gw,gw,l];rfl
 ·rw[M.fr_out hs,gA];exact ι.oth _ _ (λz=>by rw[z] at x;have:=x.hf;rw[hd] at this;cases this) (s _ _ u.at')
def GO (C:fy):Sp:=λvs H Q _=>∃p d f n rows x,vs=[.ref p,nat x]/\StA H C p d f n rows/\
 ∀t H2 q,H t=none->Same H H2->H2 t=ak (.tup [nat (x^^^M.sm rows q),nat q])->q < 2 ^ rows.length->(x^^^M.sm rows q≠0->∀y,M.Span rows y->y≠0->y.log2≠(x^^^M.sm rows q).log2)->M.Frs rows q->Q (.ref t) H2
def GP (C:fy):Sp:=λvs H Q _=>∃p d f n rows r,vs=[.ref p,nat rows.length,nat r]/\StA H C p d f n rows/\rows.length<=1000/\
 ∀H2,(∀b o,b≠d->b≠f->b≠n->H b=ak o->H2 b=ak o)->StA H2 C p d f n (rows++[r])->Q .non H2
def E5 (C:fy):Sp:=λvs H Q _=>∃x dx r rows,vs=[.ref x,.ref r]/\H r=ak (.lst (rows.map nat))/\rows.length<=1000/\H x=ak (.ins C dx [])/\
 ∀H2 d f n,(∀b o,b≠x->H b=ak o->H2 b=ak o)->StA H2 C x d f n rows->Q .non H2
def Fc:Sp:=λvs H Q _=>∃r rows,vs=[.ref r]/\H r=ak (.lst (rows.map nat))/\rows.length<=1000/\∀D H2,H D=none->Same H H2->H2 D=ak (.lst ((M.fr rows).map nat))->Q (.ref D) H2
theorem aJ {α:Type} {f:α->V} {ws:f' α} {i:Nat} {x:V} (h:(ws.map f)[i]? =ak x):∃k,ws[i]? =ak k/\x=f k:=by
 rw[ic] at h;cases e:ws[i]? with
 | none=>rw[e] at h;cases h
 | some k=>rw[e] at h;exact⟨k,rfl,(mu h).symm⟩
theorem take_succ {α:Type} {ws:f' α} {i:Nat} {w:α} (h:ws[i]? =ak w):ws.take (i + 1)=ws.take i++[w]:=by rw[List.take_succ,h];rfl
theorem rL {α:Type} {ws:f' α} {i:Nat} {w:α} (h:ws[i]? =ak w):(ws.take i).length=i:=by
 rw[JW];have:=(dt.mp h).1;omega
theorem jS (ns:D8):(ns.map nat).all pI=true:=by simp[pI]
theorem uf {K:bp} {H:Hp} {Q:VK} {neg:JY} {p q:fy} {ns:D8} (e:SqL K H p (ns.map nat)) (O:SqL K H q (ns.map nat)) (h:Q (.bl (!neg)) H):rEqL K neg (.ref p) (.ref q) H Q:=by
 refine⟨p,q,_,_,rfl,rfl,e,O,jS ns,jS ns,?_⟩;rw[Bd (jS ns)];cases neg<;>exact h
theorem AX {A:z3} {k:Nat} (O:Room k A):A.units < cLine:=by have:=O.un;omega
def DY:Sp:=λvs H Q _=>∃c k,vs=[.int c,.int k]/\0<=k/\k < 100000/\∀r:Nat,r < 2147483587->Q (nat r) H
def wK (K:bp):Sp:=λvs H Q _=>∃(a:fy) (ns:I9),vs=[.ref a]/\SqL K H a (ns.map V.int)/\ns.length<=63/\∀H',Q (.bl true) H'
theorem Gj {H:Hp} {Q:VK} {E:XK} {c k:Int} (h0:0<=k) (h1:k < 100000) (q:∀r:Nat,r < 2147483587->Q (nat r) H):DY [.int c,.int k] H Q E:=⟨c,k,rfl,h0,h1,q⟩
structure Prs (H:Hp) (ws:D8) (D:fy) (ps:f' (fy×Nat)):Prop where
 l:H D=ak (.lst (ps.map λq=>V.ref q.1))
 t:∀q∈ps,H q.1=ak (.tup [nat q.2,nat (M.sm ws q.2)])
 b:∀q∈ps,q.2 < 2 ^ ws.length
end Sx
namespace M
theorem iL:∀(l:D8) (j:Nat),sm l (2 ^ j)=l.getD j 0
 | [],j=>by simp[sm]
 | r::l,0=>by
   show(if (2 ^ 0).testBit 0 then r else 0)^^^sm l (2 ^ 0 / 2)=r;rw[show(2 ^ 0:Nat) / 2=0 from rfl,sm_zero];simp
 | r::l,j + 1=>by
   show(if (2 ^ (j + 1)).testBit 0 then r else 0)^^^sm l (2 ^ (j + 1) / 2)=l.getD j 0;have Y:(2 ^ (j + 1)) / 2=2 ^ j:=by rw[Nj];omega
   have O:(2 ^ (j + 1)).testBit 0=false:=by rw[pY];simp
   rw[Y,O,iL l j];simp
theorem Inj.nz {l:D8} (I:Inj l) {m:Nat} (h:m∈l):m≠0:=by
 intro e;subst e;obtain⟨j,O,δ⟩:=Kn.mp h;have:=I (2 ^ j) (xv @C O) (by rw[iL,eh,gs O,δ];rfl);have:=kb j;omega
theorem gK {P:D8->Prop} (h0:P []) (hs:∀l w,P l->P (l++[w])):∀l,P l:=by
 intro l;rw[<-PR l];generalize l.reverse=k
 induction k with
 | nil=>exact h0
 | cons a k ih=>rw[Ql];exact hs _ _ ih
theorem pl_next (i m:Nat):pl (i + 1) m=pl i m++(if m.testBit i then [i] else []):=by
 unfold pl;rw[Kj,KO];congr 1;by_cases h:m.testBit i=true
 ·rw[pT h];simp[h]
 ·rw[oT h];simp[h]
theorem pl_le (i m:Nat):(pl i m).length<=i:=by
 have:=NK m.testBit (lB i);rw[u2] at this;exact this
theorem pl_rise (w m:Nat):(pl w m).Pairwise (· < ·):=Mi _ Nq
theorem pl_lt {w m n:Nat} (h:m < 2 ^ n):∀x∈pl w m,x < n:=by
 intro x O;have hb:=(KB.mp O).2;refine QI λhn=>?_;rw[lT (fb h (gn @C hn))] at hb;cases hb
noncomputable def xs (rows ps:D8):Nat:=ps.foldl (λa k=>a^^^rows.getD k 0) 0
theorem xs_snoc (rows ps:D8) (k:Nat):xs rows (ps++[k])=xs rows ps^^^rows.getD k 0:=by unfold xs;rw[KN];rfl
theorem vm {rows:D8} {r:Nat}:∀(ps:D8) (a:Nat),(∀k∈ps,k < rows.length)->ps.foldl (λa k=>a^^^(rows++[r]).getD k 0) a=ps.foldl (λa k=>a^^^rows.getD k 0) a
 | [],a,_=>rfl
 | k::ps,a,h=>by
   have hk:=h k (iv ..);rw[La,La,vm ps _ λx O=>h x (lA _ O)];congr 2;rw[eh,eh,qM hk]
theorem xs_pl (m:Nat):∀(rows:D8),xs rows (pl rows.length m)=sm rows m:=by
 refine gK rfl λrows r ih=>?_
 ·rw[dM,<-ih,gw,y2,pl_next];have O:∀k∈pl rows.length m,k < rows.length:=λk hk=>zx.mp (KB.mp hk).1;by_cases h:m.testBit rows.length=true
  ·rw[pT h,pT h,xs_snoc];unfold xs;rw[vm _ _ O];congr 1;rw[eh,qE (ru _),Lz];rfl
  ·rw[oT h,oT h,Kp,KJ];unfold xs;rw[vm _ _ O]
end M
namespace Sx
open PySem L2
theorem Az (l:D8):l.map nat=(l.map λ(k:Nat)=>(k:Int)).map V.int:=by rw[Ks];rfl
section
variable {H:Hp} {Q:VK}
theorem Ea {p:fy} {l:D8} (e:H p=ak (.lst (l.map nat))) (h0:0 < l.length) (h:∀m∈l,(∀x∈l,x<=m)->Q (nat m) H):Hr [.ref p] H Q:=by
 refine⟨p,l.map λ(k:Nat)=>(k:Int),rfl,by rw[e,Az],by rw[cY];exact h0,λm hm Y=>?_⟩;obtain⟨k,hk,rfl⟩:=ov.mp hm;refine h k hk λx O=>?_;have:=Y (x:Int) (ov.mpr ⟨x,O,rfl⟩);omega
end
theorem wo (m:Nat):m < 2 ^ vl (m:Int):=by
 by_cases h:m=0
 ·subst h;decide
 ·rw[j9 h];exact LL
theorem tu {m w:Nat} (hm:m < 2 ^ w):vl (m:Int)<=w:=by
 by_cases h:m=0
 ·subst h;rw[uY];exact L0 _
 ·rw[j9 h];exact(OX h).mpr hm
def Fb:Sp:=λvs H Q _=>∃m:Nat,vs=[nat m]/\m < 2 ^ 1000/\∀D H2,H D=none->Same H H2->H2 D=ak (.lst ((M.pl 1000 m).map nat))->Q (.ref D) H2
theorem EK {rows ps:D8} {i k:Nat} (h:ps[i]? =ak k):M.xs rows (ps.take (i + 1))=M.xs rows (ps.take i)^^^rows.getD k 0:=by rw[take_succ h,M.xs_snoc]
end Sx
namespace M
noncomputable abbrev od (m:Nat):Bool:=pb 1000 m
theorem od_xor (a b:Nat):od (a^^^b)=(od a^^od b):=Ek 1000 a b
theorem iK (m a b:Nat):m&&&(a^^^b)=(m&&&a)^^^(m&&&b):=by
 apply ka;intro i;simp only[K4,rv];cases m.testBit i<;>simp
theorem kD (m a b:Nat):(a^^^b)&&&m=(a&&&m)^^^(b&&&m):=by
 apply ka;intro i;simp only[K4,rv];cases m.testBit i<;>simp
theorem r6:∀w:Nat,pb w 0=false
 | 0=>rfl
 | w + 1=>by show((0:Nat).testBit w^^pb w 0)=false;rw[r6 w];simp
theorem pb_pow {w t:Nat} (h:t < w):pb w (2 ^ t)=true:=by
 rw[pb_up (w:=t + 1) (xv @C @A) h];show((2 ^ t).testBit t^^pb t (2 ^ t))=true
 have e:pb t (2 ^ t)=false:=by
  rw[<-Ap,Nat.mod_self,r6]
 rw[e,Lr];rfl
theorem FF (t y:Nat):2 ^ t&&&y=if y.testBit t then 2 ^ t else 0:=by
 apply ka;intro i;rw[K4,pY];by_cases h:t=i
 ·subst h;cases y.testBit t<;>simp
 ·cases y.testBit t<;>simp[h,pY]
theorem od_pow {t:Nat} (h:t < 1000) (y:Nat):od (2 ^ t&&&y)=y.testBit t:=by
 rw[FF];cases y.testBit t with
 | true=>rw[pT rfl];exact pb_pow h
 | false=>rw[oT kv];exact r6 1000
theorem od_zero:od 0=false:=r6 1000
theorem xi {y k:Nat} (h:y < 2 ^ k):y.testBit k=false:=lT h
theorem tQ {y t k:Nat} (h:y≠0) (e:y.log2=t) (l:t < k):y < 2 ^ k:=fb (by rw[<-e];exact LL) (gn @C l)
structure Bar (rows:D8) (b m:Nat):Prop where
 ev:∀y,Span rows y->od (m&&&y)=false
 bit:m.testBit b=true
 low:∀k,k < b->m.testBit k=false
 oth:∀k,k≠b->(∀y,Span rows y->y≠0->y.log2≠k)->m.testBit k=false
 lt:∀W,(∀r∈rows,r < 2 ^ W)->b < W->m < 2 ^ W
structure BarI (es:A') (ts:D8) (b m:Nat):Prop where
 ev:∀e∈es,e.1.log2∈ts->od (m&&&e.1)=false
 bit:m.testBit b=true
 low:∀k,k < b->m.testBit k=false
 oth:∀k,k≠b->(∀e∈es,e.1.log2≠k)->m.testBit k=false
 lt:∀W,(∀e∈es,e.1 < 2 ^ W)->b < W->m < 2 ^ W
theorem BarI.zero (es:A') (b:Nat):BarI es [] b (2 ^ b) where
 ev:=λ_ _ h=>kf h @F
 bit:=Lr
 low:=λk h=>by rw[pY];simp;omega
 oth:=λk h _=>by rw[pY];simp;omega
 lt:=λW _ h=>xv @C h
theorem CP {m y b:Nat} (h:∀k,k < b->m.testBit k=false) (hy:y < 2 ^ b):m&&&y=0:=by
 apply ka;intro i;rw[K4,z5];by_cases hi:i < b
 ·rw[h i hi];rfl
 ·rw[lT (fb hy (gn @C @A))];simp
theorem wG {es:A'} (nd:(es.map λe=>e.1.log2).Nodup) {e f:Nat×Nat} (he:e∈es) (hf:f∈es) (h:e.1.log2=f.1.log2):e=f:=by
 obtain⟨i,hi,rfl⟩:=Kn.mp he;obtain⟨j,O,rfl⟩:=Kn.mp hf
 have ζ:∀i j (hi:i < es.length) (O:j < es.length),i < j->es[i].1.log2≠es[j].1.log2:=λi j hi O θ=>by
  have:=Kq.mp nd i j (by rw[cY];exact hi) (by rw[cY];exact O) θ;rw[Na,Na] at this;exact this
 rcases LU i j with h1 | h1 | h1
 ·exact kf h (ζ i j hi O h1)
 ·subst h1;rfl
 ·exact kf h.symm (ζ j i O hi h1)
theorem BarI.keep {es:A'} {ts:D8} {b m:Nat} (I:BarI es ts b m) {e:Nat×Nat} (nd:(es.map λe=>e.1.log2).Nodup) (he:e∈es) (h:od (m&&&e.1)=false):BarI es (ts++[e.1.log2]) b m where
 ev:=λf hf hm=>by
  rcases px.mp hm with hm | hm
  ·exact I.ev f hf hm
  ·rw[hC] at hm;rw[wG nd hf he hm];exact h
 bit:=I.bit
 low:=I.low
 oth:=I.oth
 lt:=I.lt
theorem BarI.flip {es:A'} {ts:D8} {b m:Nat} (I:BarI es ts b m) {e:Nat×Nat} (nd:(es.map λe=>e.1.log2).Nodup) (nz:∀e∈es,e.1≠0) (he:e∈es) (h:od (m&&&e.1)=true) (up:∀t∈ts,t < e.1.log2) (hb:e.1.log2≠b) (O:e.1.log2 < 1000):BarI es (ts++[e.1.log2]) b (m^^^2 ^ e.1.log2):=by
 have α:b < e.1.log2:=by
  refine Nat.lt_of_le_of_ne (OH λY=>?_) (Lf hb);rw[CP I.low (tQ (nz e he) rfl Y),od_zero] at h;cases h
 have Z:=nz e he;refine⟨λf hf hm=>?_,?_,λk hk=>?_,λk hk hn=>?_,λW ψ ι=>?_⟩
 ·rw[kD,od_xor,od_pow O];rcases px.mp hm with hm | hm
  ·rw[I.ev f hf hm,xi (tQ (nz f hf) rfl (up _ hm))];rfl
  ·rw[hC] at hm;rw[wG nd hf he hm,h,fY Z];rfl
 ·rw[rv,I.bit,pY];simp;omega
 ·rw[rv,I.low k hk,pY];simp;omega
 ·rw[rv,I.oth k hk hn,pY];have:=hn e he;simp;omega
 ·exact xor_lt_pow (I.lt W ψ ι) (v' (QJ Z) (ψ e he))
theorem Ech.even_all {es:A'} {rows:D8} (g:Ech es rows) {m:Nat} (h:∀e∈es,od (m&&&e.1)=false):∀y,Span rows y->od (m&&&y)=false:=by
 intro y
 induction y using NF with
 | ind y ih=>
   intro Y;by_cases O:y=0
   ·subst O;rw[KS,od_zero]
   ·obtain⟨e,he,el⟩:=g.all y Y O;have α:=g.nz e he;have hl:=xor_less O α el.symm;have h1:=ih _ hl (span_xor Y (g.span he));have h2:=h e he;have Z:od (m&&&(y^^^e.1))=(od (m&&&y)^^od (m&&&e.1)):=by rw[iK,od_xor]
    rw[h1,h2] at Z;simpa using Z.symm
theorem BarI.done {es:A'} {rows:D8} (g:Ech es rows) {ts:D8} {b m:Nat} (I:BarI es ts b m) (all:∀e∈es,e.1.log2∈ts):Bar rows b m where
 ev:=g.even_all λe he=>I.ev e he (all e he)
 bit:=I.bit
 low:=I.low
 oth:=λk hk h=>I.oth k hk λe he=>h e.1 (g.span he) (g.nz e he)
 lt:=λW ψ hb=>I.lt W (λe he=>span_lt ψ (g.span he)) hb
theorem Bar.odd {rows:D8} {b m x q:Nat} (B:Bar rows b m) (h0:x^^^sm rows q≠0) (hb:(x^^^sm rows q).log2=b) (O:b < 1000):od (m&&&x)=true:=by
 have Z:m&&&x=(m&&&(x^^^sm rows q))^^^(m&&&sm rows q):=by rw[<-iK,aT]
 rw[Z,od_xor,B.ev _ (sm_span rows q)]
 have Y:m&&&(x^^^sm rows q)=2 ^ b:=by
  apply ka;intro i;rw[K4,pY];rcases LU i b with h | h | h
  ·rw[B.low i h];simp;omega
  ·subst h;rw[B.bit,<-hb,fY h0];simp
  ·rw[xi (tQ h0 hb h)];simp;omega
 rw[Y];show(pb 1000 (2 ^ b)^^false)=true;rw[pb_pow O];rfl
theorem tW {k:Nat}:∀{l:D8} (p:Nat),(∀x∈l,x.testBit k=false)->(sm l p).testBit k=false
 | [],p,_=>by show(0:Nat).testBit k=false;simp
 | x::l,p,h=>by
   show((if p.testBit 0 then x else 0)^^^sm l (p / 2)).testBit k=false;rw[rv,tW (p / 2) λy O=>h y (lA _ O)];have:=h x (iv ..);cases p.testBit 0<;>simp[this]
theorem Inj.own {l:D8} {m k:Nat} (I:Inj l) (hm:m.testBit k=true) (h:∀x∈l,x.testBit k=false):Inj (l++[m]):=by
 intro p Y e;rw[gw,y2] at Y;have O:=y3 (·.testBit k) e;simp only[dM,rv,tW p h,z5] at O;cases hb:p.testBit l.length with
 | true=>rw[hb] at O;simp[hm] at O
 | false=>
   rw[dM,hb] at e;have e:sm l p^^^0=0:=e;rw[KJ] at e;refine I p ?_ e;apply Lj;intro i hi;rcases Qj hi with hi | hi
   ·exact lT (fb Y (gn @C hi))
   ·rw[<-hi];exact hb
theorem lE:∀(a b:D8),a.Nodup->(∀x∈a,x∈b)->a.length<=b.length
 | [],b,_,_=>L0 _
 | x::a,b,nd,h=>by
   have Z:=h x (iv ..);have O:=MI.mp nd
   have ih:=lE a (b.erase x) O.2 λy Y=>by
    have φ:y≠x:=λe=>O.1 (e ▸ Y);exact(List.mem_erase_of_ne φ).mpr (h y (lA _ Y))
   rw[Pj Z] at ih;have:=List.length_pos_of_mem Z;rw[ub];omega
theorem count_not {n:Nat} {ts:D8} (nd:ts.Nodup) (h:∀t∈ts,t < n):((lB n).filter λk=> !decide (k∈ts)).length + ts.length=n:=by
 have h1:∀(l:D8) (p:Nat->JY),(l.filter p).length + (l.filter λk=> !p k).length=l.length:=by
  intro l p
  induction l with
  | nil=>rfl
  | cons x l ih=>
    rw[LH,LH];cases p x<;>simp<;>omega
 have h2:=h1 (lB n) λk=>decide (k∈ts)
 have Y:((lB n).filter λk=>decide (k∈ts)).length=ts.length:=by
  apply QS
  ·exact lE _ _ (Mi _ N9) λx O=>by simpa using(KB.mp O).2
  ·exact lE _ _ nd λx O=>KB.mpr ⟨zx.mpr (h x O),by simpa using O⟩
 rw[u2] at h2;omega
theorem mf:∀rows:D8,∃ks,Sums ks rows/\ks.length=2 ^ (fr rows).length:=by
 refine gK ⟨[0],Sums.zero,rfl⟩ λrows r ih=>?_;obtain⟨ks,S,e⟩:=ih;by_cases h:Span rows r
 ·exact⟨ks,S.keep h,by rw[fr_in h];exact e⟩
 ·refine⟨_,S.step h,?_⟩;rw[fr_out h,gw,gw,cY,e,y2,Nj];omega
theorem rank_le {rows:D8} {t:Nat} (h:∀r∈rows,r < 2 ^ t):(fr rows).length<=t:=by
 obtain⟨ks,S,e⟩:=mf rows;have:=S.few h;rw[e] at this;exact(Pm @C).mp this
theorem vL (w m:Nat):pb (w + 1) m=(m.testBit 0^^pb w (m / 2)):=by
 rw[Mz,n0 1 w m,so];congr 1;show(m.testBit 0^^false)=_;simp
theorem drop_bit:∀(w m:Nat),0 < m->m < 2 ^ w->pb w (m&&&(m - 1))= !pb w m
 | 0,m,Z,h=>by have:m < 1:=h;omega
 | w + 1,m,Z,h=>by
   rw[vL,vL,xt,K4];have hw:m / 2 < 2 ^ w:=by rw[Nj] at h;omega
   rcases Kz m with hm | hm
   ·have Y:m.testBit 0=false:=by simp[MA,hm]
    have O:(m - 1) / 2=m / 2 - 1:=by omega
    rw[Y,O,drop_bit w (m / 2) @A hw];simp
   ·have Y:m.testBit 0=true:=by simp[MA,hm]
    have α:(m - 1).testBit 0=false:=by simp[MA];omega
    have O:(m - 1) / 2=m / 2:=by omega
    rw[Y,O,α,Nat.and_self];simp
theorem drop_less {m:Nat} (h:0 < m):m&&&(m - 1) < m:=v' L3 @A
theorem Bar.uniq {rows:D8} {b m m':Nat} (γ:∀r∈rows,r < 2 ^ 1000) (B:Bar rows b m) (B':Bar rows b m'):m=m':=by
 refine L6 fun φ=>?_;have η:m^^^m'≠0:=λz=>φ (by have:=y3 (·^^^m') z;simpa[aT] using this);have β:∀y,Span rows y->od ((m^^^m')&&&y)=false:=λy O=>by rw[kD,od_xor,B.ev y O,B'.ev y O];rfl
 have ν:∀k,(∀y,Span rows y->y≠0->y.log2≠k)->(m^^^m').testBit k=false:=λk hk=>by
  rw[rv];by_cases e:k=b
  ·rw[e,B.bit,B'.bit];rfl
  ·rw[B.oth k e hk,B'.oth k e hk];rfl
 generalize m^^^m'=z at η β ν;have ε:∃k,z.testBit k=true:=⟨_,fY η⟩
 obtain⟨k,hk,α⟩:∃k,z.testBit k=true/\∀j,j < k->z.testBit j=false:=by
  obtain⟨n,hn⟩:=ε
  induction n using NF with
  | ind n ih=>
    by_cases h:∃j,j < n/\z.testBit j=true
    ·obtain⟨j,δ,hz⟩:=h;exact ih j δ hz
    ·exact⟨n,hn,λj δ=>by
      cases e:z.testBit j with
      | false=>rfl
      | true=>exact kf ⟨j,δ,e⟩ h⟩
 have Z:∃y,Span rows y/\y≠0/\y.log2=k:=L6 λhn=>by
  rw[ν k λy O Y e=>hn ⟨y,O,Y,e⟩] at hk;cases hk
 obtain⟨y,O,Y,ey⟩:=Z
 have ζ:z&&&y=2 ^ k:=by
  apply ka;intro i;rw[K4,pY];rcases LU i k with h | h | h
  ·rw[α i h];simp;omega
  ·subst h;rw[hk,<-ey,fY Y];simp
  ·rw[xi (tQ Y ey h)];simp;omega
 have π:k < 1000:=by rw[<-ey];exact log2_under Y (span_lt γ O)
 have:=β y O;rw[ζ,show od (2 ^ k)=true from pb_pow π] at this;cases this
theorem AE {z:Nat} (h:z≠0):∃t,z.testBit t=true/\∀k,k < t->z.testBit k=false:=by
 have ζ:∀n,(∃t,t < n/\z.testBit t=true)->∃t,z.testBit t=true/\∀k,k < t->z.testBit k=false:=by
  intro n
  induction n with
  | zero=>rintro⟨t,ht,_⟩;omega
  | succ n ih=>
    rintro⟨t,ht,hb⟩;by_cases O:∃t,t < n/\z.testBit t=true
    ·exact ih O
    ·have e:t=n:=by
      refine QS @A (OH λY=>O ⟨t,Y,hb⟩)
     subst e;refine⟨t,hb,λk hk=>?_⟩;cases hz:z.testBit k with
     | false=>rfl
     | true=>exact kf ⟨k,hk,hz⟩ O
 exact ζ (z.log2 + 1) ⟨z.log2,by omega,fY h⟩
theorem bars_all {rows ms:D8} {β:Nat} (ξ:β<=1000) (γ:∀r∈rows,r < 2 ^ β) (θ:∀b,b < β->(∀y,Span rows y->y≠0->y.log2≠b)->∃m,Span ms m/\Bar rows b m) {z:Nat} (hz:z < 2 ^ β) (ε:∀y,Span rows y->od (z&&&y)=false):Span ms z:=by
 have ζ:∀k,k<=β->∃O,Span ms (z^^^O)/\O < 2 ^ β/\(∀y,Span rows y->od (O&&&y)=false)/\∀b,b < k->(∀y,Span rows y->y≠0->y.log2≠b)->O.testBit b=false:=by
  intro k
  induction k with
  | zero=>intro _;exact⟨z,by rw[M4];exact jE ms,hz,ε,λb hb=>kf hb (J6 _)⟩
  | succ k ih=>
    intro hk;obtain⟨O,h1,h2,α,ρ⟩:=ih @A;by_cases η:O.testBit k=true/\∀y,Span rows y->y≠0->y.log2≠k
    ·obtain⟨m,hm,B⟩:=θ k @A η.2;refine⟨O^^^m,?_,xor_lt_pow h2 (B.lt β γ @A),λy Y=>?_,λb hb hn=>?_⟩
     ·rw[<-Ke];exact span_xor h1 hm
     ·rw[kD,od_xor,α y Y,B.ev y Y];rfl
     ·rw[rv];by_cases e:b=k
      ·subst e;rw[η.1,B.bit];rfl
      ·rw[ρ b @A hn,B.oth b e hn];rfl
    ·refine⟨O,h1,h2,α,λb hb hn=>?_⟩;by_cases e:b=k
     ·subst e;cases χ:O.testBit b with
      | false=>rfl
      | true=>exact kf ⟨χ,hn⟩ η
     ·exact ρ b @A hn
 obtain⟨O,h1,h2,α,ρ⟩:=ζ β (ru _);by_cases ι:O=0
 ·subst ι;rw[KJ] at h1;exact h1
 ·exfalso;obtain⟨t,ht,hl⟩:=AE ι
  have ν:t < β:=by
   refine QI λhn=>?_;rw[lT (fb h2 (gn @C hn))] at ht;cases ht
  have δ:∃y,Span rows y/\y≠0/\y.log2=t:=L6 λhn=>by
   have:=ρ t ν λy Y Z e=>hn ⟨y,Y,Z,e⟩;rw[ht] at this;cases this
  obtain⟨y,Y,Z,ey⟩:=δ
  have ο:O&&&y=2 ^ t:=by
   apply ka;intro i;rw[K4,pY];rcases LU i t with h | h | h
   ·rw[hl i h];simp;omega
   ·subst h;rw[ht,<-ey,fY Z];simp
   ·rw[xi (tQ Z ey h)];simp;omega
  have:=α y Y;rw[ο,show od (2 ^ t)=true from pb_pow @A] at this;cases this
theorem span_mem {l:D8} {m:Nat} (h:m∈l):Span l m:=by
 obtain⟨j,O,rfl⟩:=Kn.mp h;have:=sm_span l (2 ^ j);rw[iL,eh,gs O] at this;exact this
end M
namespace Sx
open PySem L2
noncomputable def cell (ns:I9) (k:Int):Int:=if k < ns.length then ns.getD k.toNat 0 else 41 * k + 3
def wL (K:bp):Sp:=λvs H Q _=>∃(p:fy) (ns:I9) (k:Int),vs=[.ref p,.int k]/\SqL K H p (ns.map V.int)/\0<=k/\Q (.int (cell ns k)) H
theorem m4 {K:bp} {H:Hp} {Q:VK} {E:XK} {p:fy} {ns:I9} {k:Int} (e:SqL K H p (ns.map V.int)) (h0:0<=k) (q:Q (.int (cell ns k)) H):wL K [.ref p,.int k] H Q E:=⟨p,ns,k,rfl,e,h0,q⟩
def E8:Sp:=λvs H Q _=>∃m:Nat,vs=[nat m]/\m < 2 ^ 1000/\Q (.bl (!M.od m)) H
theorem Bb (n h:Nat):Ny ((n:Int) / 2 ^ ((h:Int).toNat)) (K' (n:Int) (1 * 2 ^ ((h:Int).toNat) - 1))=(((n>>>h)^^^(n&&&(2 ^ h - 1)):Nat):Int):=by
 rw[lS,LD,k7];have Y:(n:Int) / ((2 ^ h:Nat):Int)=((n>>>h:Nat):Int):=by rw[so];norm_cast
 have O:((2 ^ h:Nat):Int) - 1=((2 ^ h - 1:Nat):Int):=by have:=kb h;omega
 rw[Y,O,bQ,aU]
theorem A1 (β:Nat):((β:Int) + 1) / 2=(((β + 1) / 2:Nat):Int):=by omega
theorem CJ {n:Nat} (h:n < 2):decide (nat n=V.int 0)= !M.od n:=by
 have:n=0∨n=1:=by omega
 rcases this with rfl | rfl
 ·rw[M.od_zero];decide
 ·rw[show M.od 1=true from M.pb_pow (t:=0) @C];decide
def DP (rows:D8) (b:Nat):Prop:=∀y,M.Span rows y->y≠0->y.log2≠b
def GR (C:fy):Sp:=λvs H Q _=>∃(p d f n:fy) (rows:D8) (b:Nat),vs=[.ref p,nat b]/\StA H C p d f n rows/\b < 1000/\(∀r∈rows,r < 2 ^ 1000)/\(M.fr rows).length < 64/\DP rows b/\
 ∀m H2,Same H H2->M.Bar rows b m->Q (nat m) H2
structure Acr (rows:D8) (wd:Nat) (ms:D8):Prop where
 len:ms.length + (M.fr rows).length=wd
 inj:M.Inj ms
 lt:∀m∈ms,m < 2 ^ wd
 ev:∀m∈ms,∀y,M.Span rows y->M.od (m&&&y)=false
 all:∀z,z < 2 ^ wd->(∀y,M.Span rows y->M.od (z&&&y)=false)->M.Span ms z
theorem C1 (es:f' En):(lJ es).map (·.1)=(es.map λe=>((e.m.log2:Nat):Int)).map Sum.inl:=by unfold lJ;rw[Ks,Ks];rfl
theorem vo {es:f' En} {ns:I9} (Z:ns.Perm (es.map λe=>((e.m.log2:Nat):Int))) (hw:ns.Pairwise (·<=·)) (nd:(es.map λe=>e.m.log2).Nodup):
  ∃ts:D8,ns=ts.map (λ(k:Nat)=>(k:Int))/\ts.Pairwise (· < ·)/\(∀t,t∈ts↔∃e∈es,e.m.log2=t):=by
 have hn:∀x∈ns,((x.toNat:Nat):Int)=x:=λx Y=>by
  obtain⟨e,_,rfl⟩:=ov.mp (Z.mem_iff.mp Y);omega
 have α:ns=(ns.map NZ).map (λ(k:Nat)=>(k:Int)):=by
  rw[Ks];exact(Qo ns).symm.trans (Lb λx Y=>(hn x Y).symm)
 have O:(ns.map NZ).Perm (es.map λe=>e.m.log2):=by
  have:=Z.map NZ;rw[Ks] at this;exact this
 refine⟨ns.map NZ,α,?_,λt=>?_⟩
 ·have ξ:(ns.map NZ).Nodup:=O.nodup_iff.mpr nd
  have χ:(ns.map NZ).Pairwise (·<=·):=by
   rw[MB];exact hw.imp λh=>by omega
  exact OU (R:=λa b=>a<=b/\a≠b) (λh=>by omega) (List.Pairwise.and χ ξ)
 ·rw[O.mem_iff,ov]
end Sx
namespace M
noncomputable def cm (a b:Nat):Nat:=if b=0 then 0 else (if b % 2=1 then a else 0)^^^2 * cm a (b / 2)
termination_by b
decreasing_by omega
def Dv (d x:Nat):Prop:=∃q,cm q d=x
structure Rm (d x r:Nat):Prop where
 lt:r < 2 ^ d.log2
 dv:Dv d (x^^^r)
end M
namespace Sx
open PySem L2
noncomputable def dg (m:Nat):Int:=(vl (m:Int):Int) - 1
theorem cshl {a p:Nat} (ha:a < 2 ^ 3000) (O:p<=3000):CShl (a:Int) (p:Int):=⟨Mh _,by have:=tu ha;omega⟩
theorem EV {a b z:Nat} (h:z < 2 ^ a) (O:a<=b):z < 2 ^ b:=fb h (gn @C O)
end Sx
namespace M
structure Ord (d e:Nat):Prop where
 pos:1<=e
 one:Rm d (2 ^ e) 1
 least:∀j,1<=j->j < e->¬Rm d (2 ^ j) 1
 le:e<=2 ^ d.log2
end M
namespace Sx
open PySem L2
noncomputable def zg (k:Kr):Bool:=subB k "int"&& !subB k "bool"
noncomputable def ki (x:V) (w:Int):Bool:=match x with
 | .int i=>decide (0<=i)&&decide (((vl i:Nat):Int)<=w)
 | _=>false
def nW (K:bp):Sp:=λvs H Q _=>∃x k,vs=[x]/\jD K H x k/\Q (.bl (zg k)) H
def vq (K:bp):Sp:=λvs H Q _=>∃x k w,vs=[x,.int w]/\jD K H x k/\Q (.bl (ki x w)) H
theorem cZ {K:bp} {H:Hp} {Q:VK} {E:XK} {x:V} {k:Kr} (hk:jD K H x k) (q:Q (.bl (zg k)) H):nW K [x] H Q E:=⟨x,k,rfl,hk,q⟩
theorem fz {K:bp} {H:Hp} {Q:VK} {E:XK} {x:V} {k:Kr} {i:Int} (hk:jD K H x k) (q:Q (.bl (ki x i)) H):vq K [x,.int i] H Q E:=⟨x,k,i,rfl,hk,q⟩
theorem xx {c m:Int} (h:0 < m):∃k:Nat,c % m=(k:Int)/\(k:Int) < m:=by
 obtain⟨k,hk⟩:=Ly (NH c (Int.ne_of_gt h));exact⟨k,hk,by rw[<-hk];exact N1 c h⟩
theorem Cg {H:Hp} {Q:VK} {l:fy} {k:Int} {xs:f' V} (e:H l=ak (.lst xs)) (h0: -(2 ^ 63)<=k) (h1:k < 2 ^ 63) (hz:xs.length * k.toNat<=qb) (h:∀p H2,H p=none->Same H H2->H2 p=ak (.lst (eH k.toNat xs).flatten)->Q (.ref p) H2):rRep (.ref l) (.int k) H Q:=
 ⟨l,k,xs,rfl,rfl,e,h0,h1,hz,i5 h⟩
end Sx
namespace M
noncomputable def bn (b:JY):Nat:=if b then 1 else 0
noncomputable def pk (s:Nat->JY) (t:Nat):Nat->Nat
 | 0=>0
 | L + 1=>pk s t L^^^(if s (t + L) then 2 ^ L else 0)
theorem HH (s:Nat->JY) (t:Nat):∀L,pk s t L < 2 ^ L
 | 0=>Nat.one_pos
 | L + 1=>by
   have ih:=HH s t L;refine xor_lt_pow (fb ih (gn @C @A)) ?_;split
   ·exact xv @C @A
   ·exact kb _
theorem Eg (s:Nat->JY) (t:Nat):∀L p,(pk s t L).testBit p=(decide (p < L)&&s (t + p))
 | 0,p=>by simp[pk]
 | L + 1,p=>by
   rw[pk,rv,Eg s t L p];rcases LU p L with h | h | h
   ·have e:(if s (t + L)=true then 2 ^ L else 0:Nat).testBit p=false:=by
     cases s (t + L)<;>simp[pY];omega
    rw[e];simp[h,show p < L + 1 by omega]
   ·subst h;cases hs:s (t + p)<;>simp[Lr]
   ·have e:(if s (t + L)=true then 2 ^ L else 0:Nat).testBit p=false:=by
     cases s (t + L)<;>simp[pY];omega
    rw[e];simp[show ¬p < L by omega,show ¬p < L + 1 by omega]
theorem wX {s u:Nat->JY} {t v:Nat}:∀{L:Nat},(∀p,p < L->s (t + p)=u (v + p))->pk s t L=pk u v L
 | 0,_=>rfl
 | L + 1,h=>by rw[pk,pk,wX λp O=>h p @A,h L @A]
noncomputable def lf (G:Nat):Nat->(Nat->JY)->Nat->JY
 | 0,_,_=>false
 | L + 1,s,t=>lf G L s t^^(G.testBit L&&s (t + L))
noncomputable def tr (O:D8) (x:Nat):Nat:=pk (λk=>od (O.getD k 0&&&x)) 0 O.length
noncomputable def stt (O:D8) (x:Nat):Nat->Nat
 | 0=>x
 | t + 1=>tr O (stt O x t)
noncomputable def ans (O:D8) (o x t:Nat):Bool:=od (o&&&stt O x t)
noncomputable def lm (L G:Nat):D8:=(lB (L - 1)).map (λp=>2 ^ (p + 1))++(if 0 < L then [G] else [])
end M
namespace Sx
open PySem L2
noncomputable abbrev Pr3:=fy×Nat×Nat
noncomputable def refs (ps:f' Pr3):f' V:=ps.map λq=>V.ref q.1
def Prt (H:Hp) (ps:f' Pr3):Prop:=∀q∈ps,H q.1=ak (.tup [nat q.2.1,nat q.2.2])
theorem Prt.same {H H2:Hp} {ps:f' Pr3} (x:Prt H ps) (s:Same H H2):Prt H2 ps:=λq h=>s _ _ (x q h)
structure MaA (H:Hp) (C p:fy) (m:Nat) (nx os:f' Pr3):Prop where
 ho:∃dx tn to,H p=ak (.ins C dx [("inputs",nat m),("nexts",.ref tn),("outs",.ref to)])/\H tn=ak (.tup (refs nx))/\H to=ak (.tup (refs os))
 hn:Prt H nx
 hs:Prt H os
theorem MaA.same {H H2:Hp} {C p:fy} {m:Nat} {nx os:f' Pr3} (x:MaA H C p m nx os) (s:Same H H2):MaA H2 C p m nx os:=
 ⟨let ⟨dx,O,to,a,b,c⟩:=x.ho;⟨dx,O,to,s _ _ a,s _ _ b,s _ _ c⟩,x.hn.same s,x.hs.same s⟩
noncomputable def sq (bs:f' JY):Nat->Bool:=λi=>bs.getD i false
def zH:Sp:=λvs H Q _=>∃(r:fy) (ps:D8),vs=[.ref r]/\H r=ak (.lst (ps.map nat))/\(∀p∈ps,p < 1000)/\Q (nat (M.xm ps)) H
def B6:Sp:=λvs H Q _=>∃(t:fy) (x y n m:Nat),vs=[.ref t,nat n,nat m]/\H t=ak (.tup [nat x,nat y])/\x < 2 ^ n/\y < 2 ^ m/\Q (.bl true) H
structure Tab (H:Hp) (n o:fy) (m:Nat) (nx os:f' Pr3):Prop where
 m6:m<=6
 n:H n=ak (.lst (refs nx))
 o:H o=ak (.lst (refs os))
 pn:Prt H nx
 po:Prt H os
 ln:nx.length<=120
 lo:os.length<=6
 bn:∀q∈nx++os,q.2.1 < 2 ^ nx.length/\q.2.2 < 2 ^ m
def E9:Sp:=λvs H Q _=>∃(n o:fy) (m:Nat) (nx os:f' Pr3),vs=[nat m,.ref n,.ref o]/\Tab H n o m nx os/\∀H2,Same H H2->Q .non H2
def E7 (C:fy):Sp:=λvs H Q _=>∃(x dx n o:fy) (m:Nat) (nx os:f' Pr3),vs=[.ref x,nat m,.ref n,.ref o]/\H x=ak (.ins C dx [])/\Tab H n o m nx os/\∀H2,(∀b ob,b≠x->H b=ak ob->H2 b=ak ob)->MaA H2 C x m nx os->Q .non H2
def zF (C:fy):Sp:=λvs H Q _=>∃(p:fy) (m:Nat) (nx os:f' Pr3),vs=[.ref p]/\MaA H C p m nx os/\Q (nat nx.length) H
structure Lfsr (nx os:f' Pr3) (L G:Nat):Prop where
 nx:nx.map (λq=>q.2.1)=M.lm L G
 os:∃t,os=[(t,(if 0 < L then 1 else 0),0)]
theorem cQ {a n:Nat} (h:a < 2 ^ n):ki (nat a) (n:Int)=true:=by
 have:=tu h;show(decide ((0:Int)<=(a:Int))&&decide (((vl (a:Int):Nat):Int)<=(n:Int)))=true;rw[lh @A,lh @A];rfl
theorem EN {ps:D8} {i k:Nat} (h:ps[i]? =ak k):M.xm (ps.take (i + 1))=M.xm (ps.take i)^^^2 ^ k:=by rw[take_succ h];unfold M.xm;rw[KN];rfl
theorem IY {w m:Nat} (h:m < 2 ^ w):M.xm (M.pl w m)=m:=M.xm_ext h λk=>rfl
noncomputable abbrev ms (nx:f' Pr3):D8:=nx.map λq=>q.2.1
theorem F3 {n j:Nat} (h:j < n):ixN n (j:Int)=ak j:=by unfold ixN;rw[pT (Mh j),pT @A,lS]
theorem D0 {H:Hp} {Q:Hp->Prop} {p:fy} {xs:f' V} {j:Nat} {v:V} (e:H p=ak (.lst xs)) (O:j < xs.length) (h:∀H2,Upd H H2 p (.lst (xs.set j v))->Q H2):Ho (.ref p) (.int (j:Int)) v H Q:=
 ⟨p,xs,j,j,rfl,rfl,e,F3 O,h _ Upd.of⟩
theorem Eb {σ:St} {H:Hp} {to ti:TE} {t:TSet} {v:V} {Q:St->Hp->Prop} (h:to σ H λo H1=>ti σ H1 λi H2=>t o i v H2 λO=>Q σ O):gSub to ti t v σ H Q:=h
end Sx
namespace M
noncomputable def tr2 (ps:A') (x r:Nat):Nat:=pk (λk=>od ((ps.getD k (0,0)).1&&&x)^^od ((ps.getD k (0,0)).2&&&r)) 0 ps.length
theorem dJ (ps:A') (x r k:Nat):(tr2 ps x r).testBit k=(decide (k < ps.length)&&(od ((ps.getD k (0,0)).1&&&x)^^od ((ps.getD k (0,0)).2&&&r))):=by unfold tr2;rw[Eg,Pa]
theorem tr2_lt (ps:A') (x r:Nat):tr2 ps x r < 2 ^ ps.length:=HH _ _ _
theorem tr2_snoc (ps:A') (p:Nat×Nat) (x r:Nat):tr2 (ps++[p]) x r=tr2 ps x r^^^(if (od (p.1&&&x)^^od (p.2&&&r)) then 2 ^ ps.length else 0):=by
 unfold tr2;rw[gw,y2,pk,Pa];have Y:(ps++[p]).getD ps.length (0,0)=p:=by rw[eh,qE (ru _),Lz];rfl
 rw[Y]
 have O:pk (λk=>od (((ps++[p]).getD k (0,0)).1&&&x)^^od (((ps++[p]).getD k (0,0)).2&&&r)) 0 ps.length=pk (λk=>od ((ps.getD k (0,0)).1&&&x)^^od ((ps.getD k (0,0)).2&&&r)) 0 ps.length:=wX λk hk=>by
  rw[Pa,eh,eh,qM hk]
 rw[O]
theorem zq (ps:A') (x y r s:Nat):tr2 ps (x^^^y) (r^^^s)=tr2 ps x r^^^tr2 ps y s:=by
 apply ka;intro i;rw[rv,dJ,dJ,dJ,iK,od_xor,iK,od_xor];cases decide (i < ps.length)<;>cases od ((ps.getD i (0,0)).1&&&x)<;>cases od ((ps.getD i (0,0)).1&&&y)<;>cases od ((ps.getD i (0,0)).2&&&r)<;>cases od ((ps.getD i (0,0)).2&&&s)<;>rfl
theorem iY (ps:A'):tr2 ps 0 0=0:=by
 apply ka;intro i;rw[dJ,KS,KS,od_zero];simp
noncomputable def wst (ps:A'):Nat->D8->Nat
 | x,[]=>x
 | x,r::rs=>wst ps (tr2 ps x r) rs
noncomputable def wan (ps os:A'):Nat->D8->D8
 | _,[]=>[]
 | x,r::rs=>tr2 os x r::wan ps os (tr2 ps x r) rs
theorem wst_snoc (ps:A') (r:Nat):∀(rs:D8) (x:Nat),wst ps x (rs++[r])=tr2 ps (wst ps x rs) r
 | [],_=>rfl
 | _::rs,_=>wst_snoc ps r rs _
theorem wan_snoc (ps os:A') (r:Nat):∀(rs:D8) (x:Nat),wan ps os x (rs++[r])=wan ps os x rs++[tr2 os (wst ps x rs) r]
 | [],_=>rfl
 | _::rs,_=>y3 (_::·) (wan_snoc ps os r rs _)
theorem wan_len (ps os:A'):∀(rs:D8) (x:Nat),(wan ps os x rs).length=rs.length
 | [],_=>rfl
 | _::rs,_=>y3 (· + 1) (wan_len ps os rs _)
theorem wan_lt (ps os:A'):∀(rs:D8) (x:Nat),∀y∈wan ps os x rs,y < 2 ^ os.length
 | [],_,_,h=>kf h (by simp[wan])
 | r::rs,x,y,h=>by
   rcases rz.mp h with h | h
   ·rw[h];exact tr2_lt _ _ _
   ·exact wan_lt ps os rs _ y h
theorem wst_lt {ps:A'}:∀{rs:D8} {x:Nat},x < 2 ^ ps.length->wst ps x rs < 2 ^ ps.length
 | [],_,h=>h
 | r::rs,x,_=>wst_lt (rs:=rs) (tr2_lt ps x r)
theorem zi (ps os:A'):∀(rs qs:D8) (x:Nat),wan ps os x (rs++qs)=wan ps os x rs++wan ps os (wst ps x rs) qs
 | [],_,_=>rfl
 | _::rs,qs,_=>y3 (_::·) (zi ps os rs qs _)
theorem xm_snoc (qs:D8) (k:Nat):xm (qs++[k])=xm qs^^^2 ^ k:=by unfold xm;rw[KN];rfl
theorem Fz {α:Type} {P:f' α->Prop} (h0:P []) (h1:∀l x,P l->P (l++[x])) (l:f' α):P l:=by
 have:∀l:f' α,P l.reverse:=λl=>by
  induction l with
  | nil=>exact h0
  | cons x l ih=>rw[Ql];exact h1 _ _ ih
 have:=this l.reverse;rwa [PR] at this
theorem oV (s x r:Nat) (ps:A') (h:ps.length<=1000):od (s&&&tr2 ps x r)=(od (sm (ps.map (·.1)) s&&&x)^^od (sm (ps.map (·.2)) s&&&r)):=by
 induction ps using Fz with
 | h0=>show od (s&&&0)=(od (0&&&x)^^od (0&&&r));rw[KS,KR,KR,od_zero];rfl
 | h1 ps p ih=>
   rw[gw,y2] at h;have ih:=ih @A;rw[tr2_snoc,iK,od_xor,ih,gA,gA,LS,LS,dM,dM,cY,cY];generalize hb:(od (p.1&&&x)^^od (p.2&&&r))=b
   have Y:od (s&&&(if b=true then 2 ^ ps.length else 0))=(b&&s.testBit ps.length):=by
    cases b with
    | true=>rw[pT rfl,Km,od_pow @A];simp
    | false=>rw[oT kv,KS,od_zero];simp
   rw[Y];have O:∀u v t:Nat,od ((u^^^v)&&&t)=(od (u&&&t)^^od (v&&&t)):=λu v t=>by rw[Km,iK,od_xor,Km,Km t v]
   rw[O,O];cases s.testBit ps.length with
   | true=>rw[pT rfl,pT rfl,<-hb];cases od (sm (ps.map (·.1)) s&&&x)<;>cases od (sm (ps.map (·.2)) s&&&r)<;>cases od (p.1&&&x)<;>cases od (p.2&&&r)<;>rfl
   | false=>rw[oT kv,oT kv,KR,KR,od_zero];cases b<;>simp
theorem EL {f k:Nat} (h:f < 2 ^ k):f^^^2 ^ k=f + 2 ^ k:=by
 have h1:=or_sum f (2 ^ k)
 have h2:f&&&2 ^ k=0:=by
  apply ka;intro i;rw[K4,pY];by_cases hi:k=i
  ·subst hi;rw[lT h];simp
  ·simp[hi]
 have O:=MW h 1;rw[Nat.mul_one,Q1] at O;omega
theorem tr2_step {ps:A'} {i:Nat} {q:Nat×Nat} (x r:Nat) (h:ps[i]? =ak q):tr2 (ps.take (i + 1)) x r=tr2 (ps.take i) x r + (if (od (q.1&&&x)^^od (q.2&&&r)) then 2 ^ i else 0):=by
 have hi:=(dt.mp h).1;have hl:(ps.take i).length=i:=by rw[JW];omega
 have e:ps.take (i + 1)=ps.take i++[q]:=by rw[Lo,h];rfl
 rw[e,tr2_snoc,hl];have ht:=tr2_lt (ps.take i) x r;rw[hl] at ht;split
 ·exact EL ht
 ·rw[KJ,Oz]
noncomputable def pulse (i T:Nat):D8:=(lB T).map λt=>if t=0 then 2 ^ i else 0
theorem pulse_len (i T:Nat):(pulse i T).length=T:=by unfold pulse;rw[cY,u2]
theorem pulse_eq (i T:Nat):(2 ^ i::eH T 0).take T=pulse i T:=by
 unfold pulse;apply O1
 ·rw[JW,ub,qq,cY,u2];omega
 ·intro j h1 h2;rw[Na,Q9,MD];cases j with
  | zero=>rfl
  | succ j=>rw[Pu,Pt];rfl
theorem pulse_lt {i m:Nat} (h:i < m) (T:Nat):∀r∈pulse i T,r < 2 ^ m:=λr O=>by
 obtain⟨t,_,rfl⟩:=ov.mp O;show(if t=0 then 2 ^ i else 0) < 2 ^ m;split
 ·exact xv @C h
 ·exact kb _
theorem Fd {rows:D8} {i r:Nat} (s:Nat) (h:rows[i]? =ak r):sm (rows.take (i + 1)) s=sm (rows.take i) s^^^(if s.testBit i then r else 0):=by
 have hi:=(dt.mp h).1;have e:rows.take (i + 1)=rows.take i++[r]:=by rw[Lo,h];rfl
 rw[e,dM,JW,M7 @A]
theorem sm_places (rows:D8) (s:Nat) (h:s < 2 ^ rows.length) (w:Nat) (hw:rows.length<=w):(pl w s).foldl (λa p=>a^^^rows.getD p 0) 0=sm rows s:=by
 rw[pl_up h hw]
 have ζ:∀k,k<=rows.length->(pl k s).foldl (λa p=>a^^^rows.getD p 0) 0=sm (rows.take k) s:=by
  intro k
  induction k with
  | zero=>intro _;rfl
  | succ k ih=>
    intro hk;have O:rows[k]? =ak (rows.getD k 0):=by rw[eh,gs @A];rfl
    have Y:pl (k + 1) s=pl k s++(if s.testBit k then [k] else []):=by
     unfold pl;rw[Kj,KO];congr 1;cases hb:s.testBit k<;>simp[hb]
    rw[Y,KN,ih @A,Fd s O];cases s.testBit k<;>simp
 have:=ζ rows.length (ru _);rwa [vu] at this
end M
namespace Sx
open PySem L2
structure MaG (m:Nat) (nx os:f' Pr3):Prop where
 m6:m<=6
 ln:nx.length<=120
 lo:os.length<=6
 bn:∀q∈nx++os,q.2.1 < 2 ^ nx.length/\q.2.2 < 2 ^ m
theorem Tab.g {H:Hp} {n o:fy} {m:Nat} {nx os:f' Pr3} (t:Tab H n o m nx os):MaG m nx os:=⟨t.m6,t.ln,t.lo,t.bn⟩
theorem Tab.same {H H2:Hp} {n o:fy} {m:Nat} {nx os:f' Pr3} (t:Tab H n o m nx os) (s:Same H H2):Tab H2 n o m nx os:=⟨t.m6,s.get t.n,s.get t.o,t.pn.same s,t.po.same s,t.ln,t.lo,t.bn⟩
noncomputable abbrev prs (nx:f' Pr3):A':=nx.map (·.2)
theorem aq (nx:f' Pr3):(@E).length=nx.length:=cY ..
theorem FE {nx:f' Pr3} {i:Nat} {q:Pr3} (h:nx[i]? =ak q):(@E)[i]? =ak q.2:=by rw[ic,h];rfl
theorem aS (nx:f' Pr3):(refs nx).length=nx.length:=cY ..
theorem iO {x n:Nat} (h:x < 2 ^ n) (hn:n<=1000):x < 2 ^ 1000:=fb h (gn @C hn)
theorem MaG.b1 {m:Nat} {nx os:f' Pr3} (g:MaG m nx os):∀q∈nx,q.2.1 < 2 ^ 1000/\q.2.2 < 2 ^ 1000:=λq h=>have:=g.ln;have:=g.m6;have b:=g.bn q (ro _ h);⟨iO b.1 @A,iO b.2 @A⟩
theorem MaG.b2 {m:Nat} {nx os:f' Pr3} (g:MaG m nx os):∀q∈os,q.2.1 < 2 ^ 1000/\q.2.2 < 2 ^ 1000:=λq h=>have:=g.ln;have:=g.m6;have b:=g.bn q (oD _ h);⟨iO b.1 @A,iO b.2 @A⟩
theorem FC {H H2:Hp} {a:fy} {u:HO} (h:Rd H a u) (s:Same H H2):Rd H2 a u:=h.imp (s _ _) λ⟨o,e⟩=>⟨o,s _ _ e⟩
theorem AM {K:bp} {H H2:Hp} {x:V} {k:Kr} (h:jD K H x k) (s:Same H H2):jD K H2 x k:=by
 cases x with
 | ref p=>exact Or.imp (λ⟨a,xs,e⟩=>⟨a,xs,Same.seq s e⟩) (Or.imp (λ⟨a,xs,e⟩=>⟨a,xs,Same.tup s e⟩) λ⟨a,xs,e⟩=>⟨a,xs,FC e s⟩) h
 | _=>exact h
def BI (K:bp) (H:Hp) (xs:f' V):Prop:=∀x∈xs,∃k,jD K H x k
theorem BI.nats (K:bp) (H:Hp) (rs:D8):BI K H (rs.map nat):=λx O=>by
 obtain⟨r,_,rfl⟩:=ov.mp O;exact⟨"int",rfl⟩
theorem n5 {x:V} {n:Nat} (h:ki x (n:Int)=true):∃a:Nat,x=nat a/\a < 2 ^ n:=by
 cases x with
 | int i=>
   have h:(decide ((0:Int)<=i)&&decide (((vl i:Nat):Int)<=(n:Int)))=true:=h;simp only[Kb,OP] at h;obtain⟨a,rfl⟩:=Ly h.1;exact⟨a,rfl,fb (wo a) (gn @C @A)⟩
 | _=>cases h
noncomputable def idxB (x:V) (m:Nat):Bool:=match x with
 | .int i=>decide (0<=i)&&decide (i < (m:Int))
 | _=>false
theorem zc (x y:JY):(!decide (V.bl (!x)=V.bl (!y)))=(x^^y):=by cases x<;>cases y<;>rfl
theorem BX {ps:f' Pr3} {i:Nat} {q:Pr3} (x y:Nat) (h:ps[i]? =ak q):M.tr2 (prs (ps.take (i + 1))) x y=M.tr2 (prs (ps.take i)) x y^^^(if (M.od (q.2.1&&&x)^^M.od (q.2.2&&&y)) then 2 ^ i else 0):=by
 have hl:(prs (ps.take i)).length=i:=by rw[aq];exact rL h
 rw[take_succ h];unfold prs at hl ⊢;rw[gA,LS,M.tr2_snoc,hl]
theorem zo {ps:f' Pr3} {i:Nat} {q:Pr3} (x y:Nat) (h:ps[i]? =ak q):M.tr2 (prs (ps.take (i + 1))) x y=M.tr2 (prs (ps.take i)) x y + (if (M.od (q.2.1&&&x)^^M.od (q.2.2&&&y)) then 2 ^ i else 0):=by
 have:=M.tr2_step x y (FE h);rw[show(prs ps).take (i + 1)=prs (ps.take (i + 1)) from Mx.symm,show(prs ps).take i=prs (ps.take i) from Mx.symm] at this;exact this
theorem sZ (xs:f' V) (y:Nat) (hy:y<=xs.length):cutV xs none (ak (y:Int))=xs.take y:=by
 unfold cutV;rw[HT.sIx_nat,HT.sIx_none,M7 hy,Nat.sub_zero,QX]
theorem iH {a b:Nat} (h:nat a=nat b):a=b:=by
 have h:(a:Int)=(b:Int):=V.int.inj h;omega
def Cc:Sp:=λvs H Q _=>∃(t:fy) (a b x r:Nat),vs=[.ref t,nat x,nat r]/\H t=ak (.tup [nat a,nat b])/\a < 2 ^ 1000/\b < 2 ^ 1000/\Q (.bl (M.od (a&&&x)^^M.od (b&&&r))) H
def E6 (K:bp):Sp:=λvs H Q _=>∃(r:fy) (ps:f' Pr3) (x y:Nat),vs=[.ref r,nat x,nat y]/\SqT K H r (refs ps)/\Prt H ps/\ps.length<=1000/\(∀q∈ps,q.2.1 < 2 ^ 1000/\q.2.2 < 2 ^ 1000)/\∀H2,Same H H2->Q (nat (M.tr2 (prs ps) x y)) H2
def GQ (K:bp) (C B:fy):Sp:=λvs H Q E=>∃(p:fy) (m:Nat) (nx os:f' Pr3) (x:V) (k:Kr),vs=[.ref p,x]/\MaA H C p m nx os/\jD K H x k/\(ki x nx.length=true->Q .non H)/\(ki x nx.length=false->E (.ref B) none H)
def B8 (K:bp) (C B:fy):Sp:=λvs H Q E=>∃(p:fy) (m:Nat) (nx os:f' Pr3) (x y:V) (kx O:Kr),vs=[.ref p,x,y]/\MaA H C p m nx os/\MaG m nx os/\jD K H x kx/\jD K H y O/\
 (∀a b:Nat,x=nat a->y=nat b->a < 2 ^ nx.length->b < 2 ^ m->∀(t:fy) (H2:Hp),Same H H2->H2 t=ak (.tup [nat (M.tr2 @G a b),nat (M.tr2 @E a b)])->Q (.ref t) H2)/\
 (ki x nx.length=false∨ki y m=false->E (.ref B) none H)
structure IR (K:bp) (H:Hp) (C p rr:fy) (m:Nat) (nx os:f' Pr3) (x:V) (xs:f' V):Prop where
 ma:MaA H C p m nx os
 g:MaG m nx os
 kx:∃k,jD K H x k
 sq:SqL K H rr xs
 ks:BI K H xs
 ln:xs.length<=1000
def Good (m:Nat) (nx:f' Pr3) (x:V) (xs:f' V) (a:Nat) (rs:D8):Prop:=x=nat a/\xs=rs.map nat/\a < 2 ^ nx.length/\∀r∈rs,r < 2 ^ m
def Bad (m:Nat) (nx:f' Pr3) (x:V) (xs:f' V):Prop:=ki x nx.length=false∨∃y∈xs,ki y m=false
def B5 (K:bp) (C B:fy):Sp:=λvs H Q E=>∃(p θ:fy) (m:Nat) (nx os:f' Pr3) (x:V) (xs:f' V),vs=[.ref p,.ref θ,x]/\IR K H C p θ m nx os x xs/\
 (∀a rs,Good m nx x xs a rs->∀(t D:fy) (H2:Hp),H D=none->Same H H2->H2 t=ak (.tup [.ref D,nat (M.wst @E a rs)])->H2 D=ak (.lst ((M.wan @E @G a rs).map nat))->Q (.ref t) H2)/\
 (Bad m nx x xs->∀H2,Same H H2->E (.ref B) none H2)
def GN (K:bp) (C B:fy):Sp:=λvs H Q E=>∃(p θ:fy) (m:Nat) (nx os:f' Pr3) (x:V) (xs:f' V),vs=[.ref p,.ref θ,x]/\IR K H C p θ m nx os x xs/\
 (∀a rs,Good m nx x xs a rs->∀(D:fy) (H2:Hp),H D=none->Same H H2->H2 D=ak (.lst ((M.wan @E @G a rs).map nat))->Q (.ref D) H2)/\
 (Bad m nx x xs->∀H2,Same H H2->E (.ref B) none H2)
def zG (K:bp) (C B:fy):Sp:=λvs H Q E=>∃(p:fy) (m:Nat) (nx os:f' Pr3) (x:V) (k:Kr) (T:Nat),vs=[.ref p,x,nat T]/\MaA H C p m nx os/\MaG m nx os/\jD K H x k/\T<=900/\
 (∀i,x=nat i->i < m->∀(D:fy) (H2:Hp),H D=none->Same H H2->H2 D=ak (.lst ((M.wan @E @G 0 (M.pulse i T)).map nat))->Q (.ref D) H2)/\
 (idxB x m=false->E (.ref B) none H)
def B9 (K:bp) (C B:fy):Sp:=λvs H Q E=>∃(p:fy) (m:Nat) (nx os:f' Pr3) (x:V) (k:Kr),vs=[.ref p,x]/\MaA H C p m nx os/\MaG m nx os/\jD K H x k/\
 (∀a,x=nat a->a < 2 ^ nx.length->∀(t:fy) (H2:Hp),Same H H2->H2 t=ak (.tup [nat (M.sm (nx.map λq=>q.2.1) a),nat (M.sm (nx.map λq=>q.2.2) a)])->Q (.ref t) H2)/\
 (ki x nx.length=false->E (.ref B) none H)
def E4 (C:fy):Sp:=λvs H Q _=>∃(p:fy) (m:Nat) (nx os:f' Pr3),vs=[.ref p]/\MaA H C p m nx os/\MaG m nx os/\
 ∀(t Y O:fy) (H2:Hp),H Y=none->H O=none->Y≠O->Same H H2->H2 t=ak (.tup [nat m,.ref Y,.ref O])->H2 Y=ak (.lst (refs nx))->H2 O=ak (.lst (refs os))->Q (.ref t) H2
def x9 (C:fy):Sp:=λvs H Q _=>∃(p:fy) (m:Nat) (nx os:f' Pr3),vs=[.ref p]/\MaA H C p m nx os/\Q (nat os.length) H
structure TabT (H:Hp) (t n o:fy) (m:Nat) (nx os:f' Pr3):Prop where
 t:H t=ak (.tup [nat m,.ref n,.ref o])
 tab:Tab H n o m nx os
theorem TabT.same {H H2:Hp} {t n o:fy} {m:Nat} {nx os:f' Pr3} (x:TabT H t n o m nx os) (s:Same H H2):TabT H2 t n o m nx os:=⟨s.get x.t,x.tab.same s⟩
def zK:Sp:=λvs H Q _=>∃(c:Int) (st n w:Nat) (dg:JY),vs=[.int c,nat st,nat n,nat w,.bl dg]/\st<=900/\n<=64/\w<=16/\
 ∀(D:fy) (H2:Hp) (ms:D8),H D=none->Same H H2->H2 D=ak (.lst (ms.map nat))->ms.length=n->(∀x∈ms,x < 2 ^ w)->Q (.ref D) H2
theorem C9 {H H2:Hp} {D:fy} (s:Same H H2) (f:H2 D=none):H D=none:=by
 cases O:H D with
 | none=>rfl
 | some v=>have:=s _ _ O;rw[f] at this;cases this
theorem Ff (m k:Nat):(m:Int) / 2 ^ ((k:Int).toNat)=((m>>>k:Nat):Int):=by rw[lS,k7,so];norm_cast
theorem Br (m i:Nat):K' ((m:Int) / 2 ^ ((i:Int).toNat)) 1=if m.testBit i then 1 else 0:=by
 have:=xI m i;rwa [show(0:Int) + (i:Int)=(i:Int) from Lm _] at this
end Sx
namespace M
noncomputable def pkw (w:Nat):D8->Nat
 | []=>0
 | p::ps=>p^^^(pkw w ps <<< w)
theorem vA (a b w:Nat):(a^^^b) <<< w=a <<< w^^^b <<< w:=by
 apply ka;intro i;simp only[rv,yv];cases decide (w<=i)<;>simp
theorem pkw_snoc (w p:Nat):∀ps:D8,pkw w (ps++[p])=pkw w ps^^^(p <<< (ps.length * w))
 | []=>by show p^^^(0 <<< w)=0^^^(p <<< (0 * w));simp
 | q::ps=>by
   show q^^^(pkw w (ps++[p]) <<< w)=q^^^(pkw w ps <<< w)^^^(p <<< ((ps.length + 1) * w));rw[pkw_snoc w p ps,vA,Ke,<-Qu,LK,Mb]
theorem pkw_lt {w:Nat}:∀{ps:D8},(∀p∈ps,p < 2 ^ w)->pkw w ps < 2 ^ (ps.length * w)
 | [],_=>kb _
 | p::ps,h=>by
   have ih:=pkw_lt λx O=>h x (lA _ O);have Y:=h p (iv ..);show p^^^(pkw w ps <<< w) < 2 ^ ((ps.length + 1) * w);rw[LK,Mb];refine xor_lt_pow (fb Y (gn @C @A)) ?_;rw[Kf,Mw];exact OT ih (kb _)
theorem FJ {w p:Nat} {ps:D8} (O:p < 2 ^ w):pkw w (p::ps)=pkw w ps * 2 ^ w + p:=by
 show p^^^(pkw w ps <<< w)=_;have h1:=or_sum p (pkw w ps <<< w)
 have h2:p&&&(pkw w ps <<< w)=0:=by
  apply ka;intro i;rw[K4,yv];by_cases hi:w<=i
  ·rw[lT (fb O (gn @C hi))];simp
  ·simp[hi]
 have Y:=MW O (pkw w ps);have ρ:pkw w ps <<< w=2 ^ w * pkw w ps:=by rw[Kf,Ox]
 rw[ρ] at h1 h2 ⊢;rw[Q1] at Y;rw[Ox (pkw w ps)];omega
noncomputable def dot:D8->D8->JY
 | p::ps,r::rs=>od (p&&&r)^^dot ps rs
 | _,_=>false
theorem xy (p r:Nat):∀(ps rs:D8),ps.length=rs.length->dot (ps++[p]) (rs++[r])=(dot ps rs^^od (p&&&r))
 | [],[],_=>by show(od (p&&&r)^^false)=(false^^od (p&&&r));simp
 | a::ps,b::rs,h=>by
   show(od (a&&&b)^^dot (ps++[p]) (rs++[r]))=((od (a&&&b)^^dot ps rs)^^od (p&&&r));rw[xy p r ps rs (by simpa using h),QZ]
theorem jW {w p r P R:Nat} (Y:p < 2 ^ w) (O:r < 2 ^ w):(p^^^(P <<< w))&&&(r^^^(R <<< w))=(p&&&r)^^^((P&&&R) <<< w):=by
 apply ka;intro i;simp only[rv,K4,yv];by_cases hi:w<=i
 ·rw[lT (fb Y (gn @C hi)),lT (fb O (gn @C hi))];simp[hi]
 ·simp[hi]
theorem xc {x w:Nat} (h:x < 2 ^ (1000 - w)) (hw:w<=1000):od (x <<< w)=od x:=by
 show pb 1000 (x <<< w)=pb 1000 x;have e:=n0 w (1000 - w) (x <<< w);rw[show w + (1000 - w)=1000 by omega] at e;rw[e,pb_up h @A]
 have O:pb w (x <<< w)=false:=by
  rw[<-Ap,Kf,Nat.mul_mod_left]
  have:∀n,pb n 0=false:=λn=>by
   induction n with
   | zero=>rfl
   | succ n ih=>rw[vL,Nat.zero_div,ih];simp
  exact this w
 rw[O,Nat.shiftLeft_shiftRight];simp
theorem Em {w:Nat}:∀{ps rs:D8},ps.length=rs.length->(∀p∈ps,p < 2 ^ w)->(∀r∈rs,r < 2 ^ w)->ps.length * w<=1000->od (pkw w ps&&&pkw w rs)=dot ps rs
 | [],[],_,_,_,_=>by show od (0&&&0)=false;exact od_zero
 | p::ps,r::rs,h,hp,hr,hb=>by
   have Z:ps.length * w + w<=1000:=by rw[ub,LK,Mb] at hb;exact hb
   have ih:=Em (w:=w) (ps:=ps) (rs:=rs) (by simpa using h) (λx O=>hp x (lA _ O)) (λx O=>hr x (lA _ O)) @A;show od ((p^^^(pkw w ps <<< w))&&&(r^^^(pkw w rs <<< w)))=(od (p&&&r)^^dot ps rs);have Y:pkw w ps&&&pkw w rs < 2 ^ (1000 - w):=v' OQ (fb (pkw_lt λx O=>hp x (lA _ O)) (gn @C @A));rw[jW (hp p (iv ..)) (hr r (iv ..)),od_xor,xc Y @A,ih]
noncomputable def bkI (A:D8) (s:Nat):Nat->Nat
 | 0=>s
 | i + 1=>sm A (bkI A s i)
theorem xG (A:D8) (s:Nat):∀i,bkI A (sm A s) i=bkI A s (i + 1)
 | 0=>rfl
 | i + 1=>y3 (sm A) (xG A s i)
theorem nZ {w:Nat}:∀{ps:D8},(∀p∈ps,p < 2 ^ w)->(pkw w ps=0↔∀p∈ps,p=0)
 | [],_=>⟨λ_ p h=>kf h @F,λ_=>rfl⟩
 | p::ps,h=>by
   rw[FJ (h p (iv ..))];have ih:=nZ λx O=>h x (lA _ O);have hw:=kb w;constructor
   ·intro e x O;have α:p=0:=by omega
    have Z:pkw w ps * 2 ^ w=0:=by omega
    have Y:pkw w ps=0:=by
     rcases Nat.mul_eq_zero.mp Z with h | h
     ·exact h
     ·omega
    rcases rz.mp O with z | z
    ·rw[z,α]
    ·exact ih.mp Y x z
   ·intro e;rw[e p (iv ..),ih.mpr λx O=>e x (lA _ O)];simp
end M
namespace Sx
open PySem L2
noncomputable abbrev nA (nx:f' Pr3):D8:=nx.map λq=>q.2.1
noncomputable abbrev nB (nx:f' Pr3):D8:=nx.map λq=>q.2.2
def B7:Sp:=λvs H Q _=>∃(r:fy) (ps:D8) (β:Nat),vs=[.ref r,nat β]/\H r=ak (.lst (ps.map nat))/\ps.length<=1000/\β<=1000/\(∀p∈ps,p < 2 ^ 60)/\∀H2,Same H H2->Q (nat (M.pkw β ps)) H2
def zJ:Sp:=λvs H Q _=>∃(c:Int) (n w:Nat),vs=[.int c,nat n,nat w]/\n<=64/\w<=16/\∀(D:fy) (H2:Hp) (ms:D8),H D=none->Same H H2->H2 D=ak (.lst (ms.map nat))->ms.length=n->(∀x∈ms,x < 2 ^ w)->Q (.ref D) H2
def Ca:Sp:=λvs H Q _=>∃n:Nat,vs=[nat n]/\n < 2 ^ 1000/\Q (nat (M.bn (M.od n))) H
def Cb (K:bp):Sp:=λvs H Q _=>∃(r:fy) (ps:f' Pr3) (x y:Nat),vs=[.ref r,nat x,nat y]/\SqL K H r (refs ps)/\Prt H ps/\ps.length<=120/\x < 2 ^ 1000/\y < 2 ^ 1000/\∀H2,Same H H2->Q (nat (M.tr2 (prs ps) x y)) H2
end Sx
namespace M
noncomputable def stj (ps:A'):D8->Nat->D8
 | S,0=>S
 | S,j + 1=>(stj ps S j).map λx=>tr2 ps x 0
noncomputable def sg0 (ps:A') (m:Nat):D8:=(lB m).map λw=>tr2 ps 0 (2 ^ w)
noncomputable def rch (ps:A') (m:Nat):Nat->D8
 | 0=>[]
 | T + 1=>stj ps (sg0 ps m) T++rch ps m T
theorem my {w r P:Nat} (h:r < 2 ^ w):(r^^^(P <<< w))>>>w=P:=by
 apply ka;intro i;rw[KM,rv,yv,lT (fb h (gn @C @A))];simp
noncomputable def zs (ps:A') (x:Nat):Nat->Nat
 | 0=>x
 | n + 1=>tr2 ps (zs ps x n) 0
noncomputable def upk (w q T:Nat):D8:=(lB T).map λt=>(q>>>(t * w))&&&(2 ^ w - 1)
theorem upk_len (w q T:Nat):(upk w q T).length=T:=by unfold upk;rw[cY,u2]
theorem upk_lt (w q T:Nat):∀r∈upk w q T,r < 2 ^ w:=λr O=>by
 obtain⟨t,_,rfl⟩:=ov.mp O;have:=kb w;exact v' L3 @A
theorem rK (w q T:Nat):upk w q (T + 1)=(q&&&(2 ^ w - 1))::upk w (q>>>w) T:=by
 unfold upk;rw[Pr,Ka,Ks,Ov,Nat.shiftRight_zero];congr 1;apply Lb;intro t _;show(q>>>((t + 1) * w))&&&_=(q>>>w>>>(t * w))&&&_;rw[<-Nat.shiftRight_add,LK,Mb,Mz]
theorem rW (w:Nat):∀(T q:Nat),q < 2 ^ (T * w)->pkw w (upk w q T)=q
 | 0,q,h=>by rw[Ov] at h;have:q=0:=by have:q < 1:=h;omega
             rw[this];rfl
 | T + 1,q,h=>by
   rw[rK];show(q&&&(2 ^ w - 1))^^^(pkw w (upk w (q>>>w) T) <<< w)=q;rw[rW w T (q>>>w) (by rw[so,NM (kb _),<-Mw];rw[LK,Mb] at h;exact h)];apply ka;intro i;rw[rv,K4,yv,KM,Nat.testBit_two_pow_sub_one];by_cases hi:i < w
   ·simp[hi,show ¬w<=i by omega]
   ·simp[hi,show w<=i by omega,show w + (i - w)=i by omega]
theorem HV (ps:A') (hl:ps.length<=1000) (y:Nat):∀(j s:Nat),od (s&&&zs ps y j)=od (bkI (ps.map (·.1)) s j&&&y)
 | 0,_=>rfl
 | j + 1,s=>by
   show od (s&&&tr2 ps (zs ps y j) 0)=_;rw[oV s _ 0 ps hl,KS,od_zero,za,HV ps hl y j,xG]
end M
namespace Sx
open PySem L2
structure Sumd (rows:D8) (x q:Nat):Prop where
 lt:q < 2 ^ rows.length
 sm:M.sm rows q=x
 fr:M.Frs rows q
structure Bard (rows:D8) (x m:Nat):Prop where
 ns:¬M.Span rows x
 bar:∃y,M.Span rows y/\x^^^y≠0/\DP rows (x^^^y).log2/\M.Bar rows (x^^^y).log2 m
 ev:∀y,M.Span rows y->M.od (m&&&y)=false
 odd:M.od (m&&&x)=true
 lt:∀W,(∀r∈rows,r < 2 ^ W)->x < 2 ^ W->m < 2 ^ W
def x6:Sp:=λvs H Q _=>∃(r:fy) (rows:D8) (x:Nat),vs=[.ref r,nat x]/\H r=ak (.lst (rows.map nat))/\rows.length<=1000/\(∀r∈rows,r < 2 ^ 1000)/\x < 2 ^ 1000/\(M.Span rows x∨(M.fr rows).length < 64)/\
 (∀(t D:fy) (H2:Hp) (q:Nat),H D=none->Same H H2->H2 t=ak (.tup [.str "sum",.ref D])->H2 D=ak (.lst ((M.pl 1000 q).map nat))->Sumd rows x q->Q (.ref t) H2)/\
 (∀(t:fy) (H2:Hp) (m:Nat),Same H H2->H2 t=ak (.tup [.str "no",nat m])->Bard rows x m->Q (.ref t) H2)
def zB:Sp:=λvs H Q _=>∃(q β T:Nat),vs=[nat q,nat β,nat T]/\β<=1000/\T<=1000/\∀(D:fy) (H2:Hp),H D=none->Same H H2->H2 D=ak (.lst ((M.upk β q T).map nat))->Q (.ref D) H2
end Sx
namespace L2
open PySem
end L2
namespace Sx
open PySem L2
noncomputable def TupV (K:bp) (H:Hp) (y:V):sh (f' V)->Prop
 | some xs=>∃r,y= .ref r/\SqT K H r xs/\BI K H xs
 | none=>∃k,jD K H y k/\k≠"tuple"
noncomputable def Jw (n m:Nat):sh (f' V)->JY
 | some [x,y]=>ki x n&&ki y m
 | _=>false
noncomputable abbrev It2:=V×sh (f' V)
noncomputable def LstV (K:bp) (H:Hp) (y:V):sh (f' It2)->Prop
 | some zs=>∃r,y= .ref r/\H r=ak (.lst (zs.map (·.1)))/\∀z∈zs,TupV K H z.1 z.2
 | none=>∃k,jD K H y k/\k≠"list"
noncomputable def tabB (x:V) (Y O:sh (f' It2)):Bool:=match x,Y,O with
 | .int i,ak zs,ak ws=>decide (0<=i)&&decide (i<=6)&&decide (zs.length<=120)&&decide (ws.length<=6)&&(zs++ws).all λz=>Jw zs.length i.toNat z.2
 | _,_,_=>false
end Sx
namespace L2
open PySem
end L2
namespace Sx
open PySem L2
structure BadT (K:bp) (H:Hp) (x y z:V):Prop where
 ex:∃k on oo,jD K H x k/\LstV K H y on/\LstV K H z oo/\tabB x on oo=false
end Sx
namespace L2
open PySem
end L2
namespace Sx
open PySem L2
end Sx
namespace M
structure Fst (ms:D8) (p:Nat):Prop where
 lt:p < ms.length
 out:∀k,k < p->¬Span (ms.take k) (ms.getD k 0)
 in_:Span (ms.take p) (ms.getD p 0)
noncomputable def zl (ps:A') (d n:Nat):D8:=(lB (n + 1)).map (zs ps d)
theorem Gy (ps:A') (d:Nat):∀i,zs ps (tr2 ps d 0) i=zs ps d (i + 1)
 | 0=>rfl
 | i + 1=>by show tr2 ps (zs ps (tr2 ps d 0) i) 0=_;rw[Gy ps d i];rfl
theorem rF (ps os:A'):∀(rs:D8) (a k:Nat),wan ps os a (rs.take k)=(wan ps os a rs).take k
 | [],_,k=>by simp[wan]
 | r::rs,a,0=>rfl
 | r::rs,a,k + 1=>by
   show tr2 os a r::wan ps os (tr2 ps a r) (rs.take k)=_;rw[rF ps os rs];rfl
end M
namespace Sx
open PySem L2
noncomputable def cps (p q k:Nat):D8:=if k + 1 < p then [k + 1] else M.pl 1000 q
structure ChS (H:Hp) (S:fy) (p q:Nat) (rs:I4):Prop where
 at_:H S=ak (.lst (rs.map V.ref))
 len:rs.length=p
 get:∀(k:Nat) (r:fy),rs[k]? =ak r->H r=ak (.lst ((cps p q k).map nat))
structure ChT (H:Hp) (D S:fy) (ms:D8) (p q:Nat):Prop where
 fs:M.Fst ms p
 sd:Sumd (ms.take p) (ms.getD p 0) q
 d:H D=ak (.lst ((ms.take p).map nat))
 s:∃rs,ChS H S p q rs
structure LA (K:bp) (H:Hp) (t n o rr:fy) (m:Nat) (nx os:f' Pr3) (rs:D8) (a b:Nat):Prop where
 tt:TabT H t n o m nx os
 sq:SqL K H rr (rs.map nat)
 lr:rs.length=20
 br:∀r∈rs,r < 2 ^ m
 ln:nx.length<=16
 ha:a < 2 ^ nx.length
 hb:b < 2 ^ nx.length
structure ApA (H:Hp) (f:fy) (nx os:f' Pr3) (d k ans:Nat):Prop where
 f:H f=ak (.tup [.str "apart",nat k,nat ans.log2])
 hk:k < nx.length
 an:ans=M.tr2 @G (M.zs @E d k) 0
 ne:ans≠0
 qu:∀j,j < k->M.tr2 @G (M.zs @E d j) 0=0
structure ApL (H:Hp) (f D S:fy) (nx os:f' Pr3) (d p q:Nat):Prop where
 f:H f=ak (.tup [.str "alike",.ref D,.ref S])
 ct:ChT H D S (M.zl @E d nx.length) p q
 qu:∀j,j < p->M.tr2 @G (M.zs @E d j) 0=0
end Sx
namespace M
noncomputable def bl (A:D8) (s n:Nat):D8:=(lB (n + 1)).map (bkI A s)
theorem bkI_lt {A:D8} {s w:Nat} (O:∀x∈A,x < 2 ^ w) (h:s < 2 ^ w):∀k,bkI A s k < 2 ^ w
 | 0=>h
 | k + 1=>sm_lt _ O
theorem GT (A:D8):∀(rows:D8) (F:Nat),sm A (sm rows F)=sm (rows.map (sm A)) F
 | [],_=>sm_zero A
 | r::rows,F=>by
   show sm A ((if F.testBit 0 then r else 0)^^^sm rows (F / 2))=(if F.testBit 0 then sm A r else 0)^^^sm (rows.map (sm A)) (F / 2);rw[sm_xor,GT A rows];cases F.testBit 0<;>simp[sm_zero]
end M
namespace Sx
open PySem L2
structure CmA (H:Hp) (t D:fy) (m:Nat) (nx:f' Pr3) (st T q mk:Nat):Prop where
 f:H t=ak (.tup [.str "come",.ref D,nat mk])
 d:H D=ak (.lst ((M.upk m q T).map nat))
 hT:T<=nx.length
 no:∀j,j < T->¬M.Span (M.rch @E m j) st
 sd:Sumd (M.rch @E m T) st q
 br:(T=0/\mk=0)∨∃T',T=T' + 1/\Bard (M.rch @E m T') st mk
structure CmN (H:Hp) (t D S:fy) (m:Nat) (nx:f' Pr3) (st mk p q:Nat):Prop where
 f:H t=ak (.tup [.str "never",.ref D,.ref S])
 no:∀j,j<=nx.length->¬M.Span (M.rch @E m j) st
 bd:Bard (M.rch @E m nx.length) st mk
 ct:ChT H D S (M.bl (nA nx) mk nx.length) p q
structure LN (K:bp) (H:Hp) (n:fy) (m:Nat) (nx os:f' Pr3) (st:Nat):Prop where
 sq:SqL K H n (refs nx)
 pt:Prt H nx
 g:MaG m nx os
 ln:nx.length<=16
 hs:st < 2 ^ nx.length
end Sx
namespace M
theorem rM {P:Nat->Prop} (h0:P 0) (hx:∀a b,P a->P b->P (a^^^b)):∀{rs:D8} {x:Nat},(∀r∈rs,P r)->Span rs x->P x
 | [],x,_,h=>by have h:x=0:=h;rw[h];exact h0
 | r::rs,x,b,h=>by
   have χ:∀r∈rs,P r:=λy O=>b y (lA _ O);rcases h with h | h
   ·exact rM h0 hx χ h
   ·have:=hx _ _ (rM h0 hx χ h) (b r (iv ..));rwa [aT] at this
theorem Inj.front {ws:D8} {w:Nat} (I:Inj (ws++[w])):Inj ws:=λp O h=>I p (fb O (gn @C (by rw[gw];omega))) (by rw[gS O];exact h)
theorem Inj.last {ws:D8} {w:Nat} (I:Inj (ws++[w])):¬Span ws w:=λh=>by
 obtain⟨p,O,e⟩:=vp h;have:=I (p^^^2 ^ ws.length) (by rw[gw];exact vS O) (by rw[vz O,e,M4]);exact(o9 O).1 this
theorem fr_inj {ws:D8}:Inj ws->(fr ws).length=ws.length:=by
 refine gK (P:=λws=>Inj ws->(fr ws).length=ws.length) (λ_=>rfl) (λws w ih I=>?_) ws;rw[fr_out I.last,gw,gw,ih I.front];rfl
structure Kern (R ms:D8):Prop where
 inj:Inj ms
 lt:∀m∈ms,m < 2 ^ R.length
 ev:∀m∈ms,sm R m=0
 all:∀z,z < 2 ^ R.length->sm R z=0->Span ms z
structure Lft (left rows:D8):Prop where
 nz:∀x∈left,x≠0
 pw:left.Pairwise λa b=>b.testBit a.log2=false
 sp:∀x,Span left x↔Span rows x
 len:left.length=(fr rows).length
noncomputable def bm (rows:D8) (b:Nat):Nat:=Pw (Bar rows b)
theorem JM {rows:D8} {b m:Nat} (O:∀r∈rows,r < 2 ^ 1000) (B:Bar rows b m):m=bm rows b:=Bar.uniq O B (Classical.epsilon_spec ⟨m,B⟩)
noncomputable def acr (rows:D8) (n:Nat):D8:=((lB n).filter λb=>tt (∀y,Span rows y->y≠0->y.log2≠b)).map (bm rows)
theorem acr_in {rows:D8} {n:Nat} (h:¬∀y,Span rows y->y≠0->y.log2≠n):acr rows (n + 1)=acr rows n:=by
 unfold acr;rw[Kj,KO,LH,DU h];simp
theorem acr_out {rows:D8} {n m:Nat} (O:∀r∈rows,r < 2 ^ 1000) (h:∀y,Span rows y->y≠0->y.log2≠n) (B:Bar rows n m):acr rows (n + 1)=acr rows n++[m]:=by
 unfold acr;rw[Kj,KO,LH,DT h,JM O B];simp
noncomputable def fR (rows:D8):D8:=(fr rows).map λi=>rows.getD i 0
theorem fr_lt {rows:D8}:∀i∈fr rows,i < rows.length:=by
 intro i hi;unfold fr at hi;exact zx.mp (KB.mp hi).1
theorem pL (rows:D8) (r:Nat):(fr rows).map (λi=>(rows++[r]).getD i 0)=fR rows:=by
 unfold fR;refine Lb λi hi=>?_;rw[eh,eh,qM (fr_lt i hi)]
theorem Iv {rows:D8} {r:Nat} (h:Span rows r):fR (rows++[r])=fR rows:=by
 rw[<-pL rows r];unfold fR;rw[fr_in h]
theorem Ew {rows:D8} {r:Nat} (h:¬Span rows r):fR (rows++[r])=fR rows++[r]:=by
 rw[<-pL rows r];unfold fR;rw[fr_out h,gA];congr 1;simp
theorem Ba:∀(rows:D8) (x:Nat),Span (fR rows) x↔Span rows x:=by
 refine gK ?_ λl w ih=>?_
 ·intro x;exact Qp
 ·intro x;by_cases h:Span l w
  ·rw[Iv h,ih,bL];exact⟨.inl,λz=>z.elim id λz=>by have:=span_xor z h;rwa [aT] at this⟩
  ·rw[Ew h,bL,bL,ih,ih]
theorem Inj.out {ws:D8} {w:Nat} (I:Inj ws) (h:¬Span ws w):Inj (ws++[w]):=by
 intro p O e;rw[dM] at e;by_cases hb:p.testBit ws.length=true
 ·rw[pT hb] at e;exfalso;apply h
  have:sm ws p=w:=by
   have:=y3 (·^^^w) e;simpa[Ke] using this
  rw[<-this];exact sm_span _ _
 ·rw[oT hb,KJ] at e;refine I p ?_ e;rw[gw,y2] at O;refine Lj p λi hi=>?_;by_cases ο:i=ws.length
  ·rw[ο];simpa using hb
  ·exact lT (fb O (gn @C @A))
theorem Iu:∀rows:D8,Inj (fR rows):=by
 refine gK Inj.nil λl w ih=>?_;by_cases h:Span l w
 ·rw[Iv h];exact ih
 ·rw[Ew h];exact ih.out λz=>h ((Ba l w).mp z)
noncomputable def ow (x:Nat) (L:D8):Nat:=pk (λk=>od (x&&&L.getD k 0)) 0 L.length
noncomputable def lk1 (A os:D8) (t:Nat):D8:=os.map λs=>bkI A s t
noncomputable def lkm (A os:D8):Nat->D8
 | 0=>[]
 | T + 1=>lkm A os T++lk1 A os T
section
variable (ps os:A') (m:Nat)
noncomputable def msk:D8:=lkm (ps.map (·.1)) (os.map (·.1)) ps.length
noncomputable def ldp:D8:=fr ((rch ps m ps.length).map (ow · (msk ps os)))
noncomputable def lst_:D8:=(ldp ps os m).map λi=>(rch ps m ps.length).getD i 0
noncomputable def lkp:D8:=fr ((msk ps os).map (ow · (lst_ ps os m)))
noncomputable def lkL:D8:=(lkp ps os m).map λi=>(msk ps os).getD i 0
noncomputable def sen:D8:=(lkL ps os m).map (ow · (lst_ ps os m))
end
section
variable {ps os:A'} {m:Nat}
structure Lsr (ps os:A') (m:Nat) (nx' os':A'):Prop where
 ln:nx'.length=(lkp ps os m).length
 lo:os'.length=os.length
 n1:∀(j:Nat) (q:Nat×Nat),nx'[j]? =ak q->q.1 < 2 ^ (lkp ps os m).length/\sm (sen ps os m) q.1=ow (sm (ps.map (·.1)) ((lkL ps os m).getD j 0)) (lst_ ps os m)/\q.2=sm (ps.map (·.2)) ((lkL ps os m).getD j 0)
 o1:∀(j:Nat) (q:Nat×Nat),os'[j]? =ak q->q.1 < 2 ^ (lkp ps os m).length/\sm (sen ps os m) q.1=ow (os.getD j (0,0)).1 (lst_ ps os m)/\q.2=(os.getD j (0,0)).2
structure Fit (ps os:A') (m:Nat):Prop where
 ln:ps.length<=120
 bn:∀q∈ps++os,q.1 < 2 ^ ps.length
end
theorem HP {n:Nat} (hn:n<=1000):∀(rows:D8),(∀r∈rows,r < 2 ^ n)->∀x,x < 2 ^ n->¬Span rows x->∃m,m < 2 ^ n/\(∀r∈rows,od (m&&&r)=false)/\od (m&&&x)=true:=by
 intro rows
 induction rows using gK with
 | h0=>
   intro _ x β hs;have α:x≠0:=λe=>hs (by rw[e];exact jE _);have hl:x.log2 < n:=(OX α).mpr β;exact⟨2 ^ x.log2,xv @C hl,λ_ h=>kf h @F,by rw[od_pow @A];exact fY α⟩
 | hs l r ih=>
   intro hb x β hs;have ih:=ih λy O=>hb y (ro _ O);have ζ:r < 2 ^ n:=hb r (oD _ iv);have h1:¬Span l x:=λh=>hs ((bL l r x).mpr (.inl h));have h2:¬Span l (x^^^r):=λh=>hs ((bL l r x).mpr (.inr h));obtain⟨θ,a1,b1,ε⟩:=ih x β h1;cases δ:od (θ&&&r) with
   | false=>
     refine⟨θ,a1,λy O=>?_,ε⟩;rcases px.mp O with h | h
     ·exact b1 y h
     ·rw[hC.mp h];exact δ
   | true=>
     obtain⟨Z,a2,b2,Y⟩:=ih (x^^^r) (xor_lt_pow β ζ) h2;rw[iK,od_xor] at Y;cases γ:od (Z&&&r) with
     | false=>
       rw[γ,za] at Y;refine⟨Z,a2,λy O=>?_,Y⟩;rcases px.mp O with h | h
       ·exact b2 y h
       ·rw[hC.mp h];exact γ
     | true=>
       rw[γ] at Y;have η:od (Z&&&x)=false:=by cases h:od (Z&&&x)<;>simp_all
       refine⟨θ^^^Z,xor_lt_pow a1 a2,λy O=>?_,by rw[kD,od_xor,ε,η];rfl⟩;rw[kD,od_xor];rcases px.mp O with h | h
       ·rw[b1 y h,b2 y h];rfl
       ·rw[hC.mp h,δ,γ];rfl
theorem lQ {m:Nat} {rows:D8} (h:∀r∈rows,od (m&&&r)=false) {y:Nat} (hy:Span rows y):od (m&&&y)=false:=
 rM (P:=λy=>od (m&&&y)=false) (by rw[KS,od_zero]) (λa b ha hb=>by show od (m&&&(a^^^b))=false;rw[iK,od_xor,ha,hb];rfl) h hy
theorem I0 {n:Nat} (hn:n<=1000) {rows bars:D8} (hb:∀r∈rows,r < 2 ^ n) (all:∀z,z < 2 ^ n->(∀y,Span rows y->od (z&&&y)=false)->Span bars z) {y:Nat} (hy:y < 2 ^ n) (h:∀b∈bars,od (b&&&y)=false):Span rows y:=L6 λhs=>by
 obtain⟨m,a,b,c⟩:=HP hn rows hb y hy hs;have:=lQ (m:=y) (rows:=bars) (λr O=>by rw[Km];exact h r O) (all m a λz hz=>lQ b hz);rw[Km,c] at this;cases this
section
variable (ps os:A') (m:Nat)
noncomputable def Sil:Nat->Nat->Prop
 | 0,x=>x < 2 ^ ps.length
 | j + 1,x=>x < 2 ^ ps.length/\∃u,u < 2 ^ m/\tr2 os x u=0/\Sil j (tr2 ps x u)
end
section
variable {ps os:A'} {m:Nat}
theorem Sil.lt:∀{j x:Nat},Sil ps os m j x->x < 2 ^ ps.length
 | 0,_,h=>h
 | _ + 1,_,h=>h.1
theorem Sil.down:∀{j x:Nat},Sil ps os m (j + 1) x->Sil ps os m j x
 | 0,_,h=>h.1
 | j + 1,x,⟨O,u,hu,Y,h⟩=>⟨O,u,hu,Y,Sil.down (j:=j) h⟩
theorem Sil.less {i x:Nat}:∀{j:Nat},i<=j->Sil ps os m j x->Sil ps os m i x
 | 0,h,s=>by rw[show i=0 by omega];exact s
 | j + 1,h,s=>by
   by_cases e:i=j + 1
   ·rw[e];exact s
   ·exact Sil.less (j:=j) @A s.down
theorem wO:∀{j x:Nat},x < 2 ^ ps.length->∀rs:D8,rs.length=j->(∀r∈rs,r < 2 ^ m)->wan ps os x rs=eH j 0->Sil ps os m j x
 | 0,x,O,_,_,_,_=>O
 | j + 1,x,O,r::rs,hl,hb,h=>by
   have h:tr2 os x r::wan ps os (tr2 ps x r) rs=0::eH j 0:=h;obtain⟨Z,h1⟩:=Qb h;exact⟨O,r,hb r iv,Z,wO (tr2_lt ps x r) rs (by simpa using hl) (λy Y=>hb y (lA _ Y)) h1⟩
end
section
noncomputable def jd (n:Nat) (q:Nat×Nat):Nat:=q.1^^^(q.2 <<< n)
theorem jd_lt {n m:Nat} {q:Nat×Nat} (h1:q.1 < 2 ^ n) (h2:q.2 < 2 ^ m):jd n q < 2 ^ (n + m):=by
 unfold jd;refine xor_lt_pow (fb h1 (gn @C @A)) ?_;rw[Kf,Mw,Ox];exact Nat.mul_lt_mul_of_pos_left h2 (kb _)
theorem FX {n m:Nat} {q:Nat×Nat} {x u:Nat} (hn:n + m<=1000) (h1:q.1 < 2 ^ n) (hx:x < 2 ^ n) (hu:u < 2 ^ m):od (jd n q&&&jd n (x,u))=(od (q.1&&&x)^^od (q.2&&&u)):=by
 unfold jd;rw[jW h1 hx,od_xor,xc (v' L3 (fb hu (gn @C @A))) @A]
theorem Ep {n x u:Nat} (hx:x < 2 ^ n):jd n (x,u) % 2 ^ n=x:=by
 apply ka;intro i;unfold jd;rw[J7,rv,yv];by_cases h:i < n
 ·simp[h,show ¬n<=i by omega]
 ·rw[lT (fb hx (gn @C @A))];simp[h]
theorem jd_of {n m w:Nat} (h:w < 2 ^ (n + m)):jd n (w % 2 ^ n,w>>>n)=w/\w % 2 ^ n < 2 ^ n/\w>>>n < 2 ^ m:=by
 refine⟨?_,Mj _ (kb _),?_⟩
 ·apply ka;intro i;unfold jd;rw[rv,J7,yv,KM];by_cases hi:i < n
  ·simp[hi,show ¬n<=i by omega]
  ·simp[hi,show n<=i by omega,show n + (i - n)=i by omega]
 ·rw[so];exact NV (by rw[<-Mw];exact h)
theorem AB (n a b:Nat):(a^^^b) % 2 ^ n=a % 2 ^ n^^^b % 2 ^ n:=by
 apply ka;intro i;rw[J7,rv,rv,J7,J7];cases decide (i < n)<;>simp
theorem B4 (n:Nat):∀(ws:D8) (x:Nat),Span (ws.map (· % 2 ^ n)) x↔∃w,Span ws w/\w % 2 ^ n=x:=by
 intro ws
 induction ws using gK with
 | h0=>intro x;exact⟨λh=>⟨0,jE _,by have h:x=0:=h;rw[h];exact P9 _⟩,λ⟨w,h,e⟩=>by have h:w=0:=h;rw[h,P9] at e;exact e.symm⟩
 | hs l r ih=>
   intro x;rw[gA,LS,bL,ih,ih];constructor
   ·rintro(⟨w,h,e⟩ | ⟨w,h,e⟩)
    ·exact⟨w,(bL l r w).mpr (.inl h),e⟩
    ·exact⟨w^^^r,(bL l r _).mpr (.inr (by rw[aT];exact h)),by rw[AB,e,aT]⟩
   ·rintro⟨w,h,e⟩;rcases(bL l r w).mp h with h | h
    ·exact .inl ⟨w,h,e⟩
    ·exact .inr ⟨w^^^r,h,by rw[AB,e]⟩
structure SWays (ps os:A') (m:Nat) (bars ways:D8):Prop where
 lt:∀w∈ways,w < 2 ^ (ps.length + m)
 ev:∀w∈ways,tr2 os (w % 2 ^ ps.length) (w>>>ps.length)=0/\∀b∈bars,od (b&&&tr2 ps (w % 2 ^ ps.length) (w>>>ps.length))=false
 inj:Inj (ways.map (· % 2 ^ ps.length))
 span:∀x,Span (ways.map (· % 2 ^ ps.length)) x↔x < 2 ^ ps.length/\∃u,u < 2 ^ m/\tr2 os x u=0/\∀b∈bars,od (b&&&tr2 ps x u)=false
end
section
variable {ps os:A'} {m:Nat}
theorem CG {x u:Nat} (hn:ps.length + m<=1000) (hO:∀q∈os,q.1 < 2 ^ ps.length) (hx:x < 2 ^ ps.length) (hu:u < 2 ^ m):tr2 os x u=0↔∀q∈os,od (jd ps.length q&&&jd ps.length (x,u))=false:=by
 constructor
 ·intro h q O;obtain⟨k,hk⟩:=NJ.mp O;have hl:=(dt.mp hk).1;have:=y3 (·.testBit k) h;simp only[dJ,z5,lh hl,z7,eh,hk,PD] at this;rw[FX hn (hO q O) hx hu];exact this
 ·intro h;apply ka;intro k;rw[dJ,z5];by_cases hl:k < os.length
  ·have hk:os[k]? =ak os[k]:=gs hl;have:=h os[k] (KU hl);rw[FX hn (hO _ (KU hl)) hx hu] at this;rw[lh hl,z7,eh,hk];exact this
  ·rw[ia hl,zt]
end
theorem zA {a b:D8} (δ:Inj a) (γ:Inj b) (hl:b.length<=a.length) (h:∀x,Span a x->Span b x) {x:Nat} (hx:Span b x):Span a x:=L6 λhn=>by
 obtain⟨α,sa,Z⟩:=mf a;obtain⟨β,Y,lb⟩:=mf b;rw[fr_inj δ] at Z;rw[fr_inj γ] at lb;have O:(x::α).Nodup:=MI.mpr ⟨λhm=>hn ((sa.all x).mp hm),sa.nd⟩
 have:=lE (x::α) β O λy ε=>by
  rcases rz.mp ε with e | e
  ·rw[e];exact(Y.all x).mpr hx
  ·exact(Y.all y).mpr (h y ((sa.all y).mp e))
 rw[ub,Z,lb] at this;have:=gn (show 0 < 2 by decide) hl;omega
section
variable {ps os:A'} {m:Nat}
noncomputable def rowsJ (ps os:A') (bars:D8):D8:=os.map (jd ps.length)++bars.map λb=>jd ps.length (sm (ps.map (·.1)) b,sm (ps.map (·.2)) b)
theorem y8 {bars:D8} {x u:Nat} (hn:ps.length + m<=1000) (β:∀q∈ps++os,q.1 < 2 ^ ps.length) (hb:∀b∈bars,b < 2 ^ ps.length) (hx:x < 2 ^ ps.length) (hu:u < 2 ^ m):
  (∀y,Span (rowsJ ps os bars) y->od (jd ps.length (x,u)&&&y)=false)↔tr2 os x u=0/\∀b∈bars,od (b&&&tr2 ps x u)=false:=by
 have Z:∀b,od (jd ps.length (sm (ps.map (·.1)) b,sm (ps.map (·.2)) b)&&&jd ps.length (x,u))=od (b&&&tr2 ps x u):=λb=>by
  rw[FX hn (sm_lt b λy α=>by obtain⟨q,O,rfl⟩:=ov.mp α;exact β q (ro _ O)) hx hu];exact(oV b x u ps @A).symm
 rw[CG hn (λq O=>β q (oD _ O)) hx hu];constructor
 ·intro h;refine⟨λq O=>?_,λb Y=>?_⟩
  ·rw[Km];exact h _ (span_mem (ro _ (ov.mpr ⟨q,O,rfl⟩)))
  ·rw[<-Z,Km];exact h _ (span_mem (oD _ (ov.mpr ⟨b,Y,rfl⟩)))
 ·rintro⟨h1,h2⟩ y α;refine lQ (λr γ=>?_) α;rw[Km];rcases px.mp γ with h | h
  ·obtain⟨q,O,rfl⟩:=ov.mp h;exact h1 q O
  ·obtain⟨b,Y,rfl⟩:=ov.mp h;rw[Z];exact h2 b Y
theorem sways {bars ws:D8} (hn:ps.length + m<=1000) (β:∀q∈ps++os,q.1 < 2 ^ ps.length) (hb:∀b∈bars,b < 2 ^ ps.length) (lt:∀w∈ws,w < 2 ^ (ps.length + m)) (ev:∀w∈ws,∀y,Span (rowsJ ps os bars) y->od (w&&&y)=false)
  (all:∀z,z < 2 ^ (ps.length + m)->(∀y,Span (rowsJ ps os bars) y->od (z&&&y)=false)->Span ws z):SWays ps os m bars ((fr (ws.map (· % 2 ^ ps.length))).map λi=>ws.getD i 0):=by
 have O:∀w∈(fr (ws.map (· % 2 ^ ps.length))).map (λi=>ws.getD i 0),w∈ws:=λw hw=>by
  obtain⟨i,hi,rfl⟩:=ov.mp hw;have hl:=fr_lt _ hi;rw[cY] at hl;rw[eh,gs hl];exact KU hl
 have ξ:((fr (ws.map (· % 2 ^ ps.length))).map λi=>ws.getD i 0).map (· % 2 ^ ps.length)=fR (ws.map (· % 2 ^ ps.length)):=by
  unfold fR;rw[Ks];refine Lb λi hi=>?_;have hl:=fr_lt _ hi;rw[cY] at hl;show ws.getD i 0 % _=_;rw[eh,eh,ic,gs hl];rfl
 have hz:∀w,Span ws w->w < 2 ^ (ps.length + m):=λw hw=>span_lt lt hw
 have α:∀w,Span ws w->∀y,Span (rowsJ ps os bars) y->od (w&&&y)=false:=λw hw y Y=>by
  rw[Km];exact lQ (λr γ=>by rw[Km];exact ev r γ y Y) hw
 refine⟨λw hw=>lt w (O w hw),λw hw=>?_,by rw[ξ];exact Iu _,λx=>?_⟩
 ·obtain⟨e,h1,h2⟩:=jd_of (n:=ps.length) (m:=m) (lt w (O w hw));refine(y8 hn β hb h1 h2).mp λy Y=>?_;rw[e];exact ev w (O w hw) y Y
 ·rw[ξ,Ba,B4];constructor
  ·rintro⟨w,hw,rfl⟩;obtain⟨e,h1,h2⟩:=jd_of (n:=ps.length) (m:=m) (hz w hw);refine⟨h1,w>>>ps.length,h2,(y8 hn β hb h1 h2).mp λy Y=>?_⟩;rw[e];exact α w hw y Y
  ·rintro⟨Z,u,hu,h⟩;exact⟨jd ps.length (x,u),all _ (jd_lt Z hu) ((y8 hn β hb Z hu).mpr h),Ep Z⟩
def BL (ps os:A') (m j:Nat) (bars:D8):Prop:=∀y,y < 2 ^ ps.length->((∀b∈bars,od (b&&&y)=false)↔Sil ps os m j y)
theorem yM:BL ps os m 0 []:=λy O=>⟨λ_=>O,λ_ _ h=>kf h @F⟩
theorem SWays.sil {bars O:D8} {j:Nat} (S:SWays ps os m bars O) (hb:BL ps os m j bars) (x:Nat):Span (O.map (· % 2 ^ ps.length)) x↔Sil ps os m (j + 1) x:=by
 rw[S.span];exact⟨λ⟨Y,u,hu,Z,h⟩=>⟨Y,u,hu,Z,(hb _ (tr2_lt _ _ _)).mp h⟩,λ⟨Y,u,hu,Z,h⟩=>⟨Y,u,hu,Z,(hb _ (tr2_lt _ _ _)).mpr h⟩⟩
theorem yN {rows bars:D8} {j:Nat} (hn:ps.length<=1000) (h:∀x,Span rows x↔Sil ps os m j x) (ev:∀b∈bars,∀y,Span rows y->od (b&&&y)=false) (all:∀z,z < 2 ^ ps.length->(∀y,Span rows y->od (z&&&y)=false)->Span bars z):BL ps os m j bars:=λy O=>
 ⟨λhb=>(h y).mp (I0 hn (λr Y=>((h r).mp (span_mem Y)).lt) all O hb),λhs b hb=>ev b hb y ((h y).mpr hs)⟩
end
theorem EX (w p q T:Nat):Lk (·^^^·) (upk w p T) (upk w q T)=upk w (p^^^q) T:=by
 unfold upk;rw[List.zipWith_map,List.zipWith_self];refine Lb λt _=>?_;rw[Nat.shiftRight_xor_distrib,Mc]
theorem BV (w T:Nat):upk w 0 T=eH T 0:=by
 unfold upk;simp only[Nat.zero_shiftRight,KR];rw[List.map_const',u2]
theorem oh (ps os:A'):∀(T x t:Nat),t < T->(wan ps os x (eH T 0))[t]? =ak (tr2 os (zs ps x t) 0)
 | 0,x,t,h=>kf h (J6 _)
 | T + 1,x,0,h=>rfl
 | T + 1,x,t + 1,h=>by
   rw[KW];show(wan ps os (tr2 ps x 0) (eH T 0))[t]? =_;rw[oh ps os T _ t @A,Gy]
noncomputable def act (ps:A') (x Q:Nat):Nat:=if Q=0 then 0 else (if Q % 2=1 then x else 0)^^^act ps (tr2 ps x 0) (Q / 2)
termination_by Q
decreasing_by omega
structure Lst (ps:A') (x P:Nat):Prop where
 nz:P≠0
 dv:∀Q,act ps x Q=0↔Dv P Q
structure Rng (ps:A') (x l n:Nat):Prop where
 pos:1<=n
 back:zs ps x (l + n)=zs ps x l
 least:∀e,1<=e->e < n->zs ps x (l + e)≠zs ps x l
 early:1<=l->zs ps x (l - 1 + n)≠zs ps x (l - 1)
theorem zO {f:Nat->Nat} (h0:f 0=0) (hx:∀x y,f (x^^^y)=f x^^^f y) (w:Nat):∀x,x < 2 ^ w->sm ((lB w).map λk=>f (2 ^ k)) x=f x:=by
 induction w with
 | zero=>intro x h;have:x < 1:=h;rw[show x=0 by omega,h0];rfl
 | succ w ih=>
   intro x h;rw[Kj,gA,LS];have hl:((lB w).map λk=>f (2 ^ k)).length=w:=by rw[cY,u2]
   rw[dM,hl];by_cases hb:x.testBit w=true
   ·rw[pT hb]
    have Y:x^^^2 ^ w < 2 ^ w:=by
     refine Lj _ λi hi=>?_;rw[rv,pY];by_cases e:w=i
     ·subst e;rw[hb];simp
     ·rw[lT (fb h (gn @C @A))];simp[e]
    have O:=ih _ Y;rw[sm_xor,hx] at O;have Z:sm ((lB w).map λk=>f (2 ^ k)) (2 ^ w)=0:=by rw[iL,eh,L7 (by rw[hl];exact ru _)];rfl
    rw[Z,KJ] at O;rw[O,aT]
   ·rw[oT hb,KJ];rw[Qy] at hb;refine ih x (Lj _ λi hi=>?_);by_cases e:w=i
    ·subst e;exact hb
    ·exact lT (fb h (gn @C @A))
theorem vn (ps os:A'):∀(rs qs:D8) (x y:Nat),rs.length=qs.length->wan ps os (x^^^y) (Lk (·^^^·) rs qs)=Lk (·^^^·) (wan ps os x rs) (wan ps os y qs)
 | [],[],_,_,_=>rfl
 | [],_::_,_,_,h=>by simp at h
 | _::_,[],_,_,h=>by simp at h
 | r::rs,q::qs,x,y,h=>by
   have ih:=vn ps os rs qs (tr2 ps x r) (tr2 ps y q) (by simpa using h);show tr2 os (x^^^y) (r^^^q)::wan ps os (tr2 ps (x^^^y) (r^^^q)) (Lk (·^^^·) rs qs)=(tr2 os x r^^^tr2 os y q)::Lk (·^^^·) (wan ps os (tr2 ps x r) rs) (wan ps os (tr2 ps y q) qs);rw[zq,zq,ih]
theorem rG (ps os:A') (qs:D8):∀t,wan ps os 0 (eH t 0++qs)=eH t 0++wan ps os 0 qs
 | 0=>rfl
 | t + 1=>by
   show tr2 os 0 0::wan ps os (tr2 ps 0 0) (eH t 0++qs)=0::(eH t 0++wan ps os 0 qs);rw[iY,iY,rG ps os qs t]
theorem wan_zeros (ps os:A') (t:Nat):wan ps os 0 (eH t 0)=eH t 0:=by
 have:=rG ps os [] t;rwa [Kp,show wan ps os 0 []=[] from rfl,Kp] at this
theorem yj {w n k:Nat} (h:k<=n):(pulse w n).take k=pulse w k:=by
 unfold pulse;rw[<-Mx,List.take_range,M7 h]
theorem vI (w:Nat):∀(a b:D8),a.length=b.length->pkw w (Lk (·^^^·) a b)=pkw w a^^^pkw w b
 | [],[],_=>(M4 0).symm
 | [],_::_,h=>by cases h
 | _::_,[],h=>by cases h
 | x::a,y::b,h=>by
   have ih:=vI w a b (by simpa using h);show(x^^^y)^^^(pkw w (Lk (·^^^·) a b) <<< w)=(x^^^(pkw w a <<< w))^^^(y^^^(pkw w b <<< w));rw[ih,vA,xor4]
theorem oq {w:Nat}:∀{T:Nat} {rs:D8},rs.length=T->(∀r∈rs,r < 2 ^ w)->upk w (pkw w rs) T=rs
 | 0,[],_,_=>rfl
 | T + 1,r::rs,h,hb=>by
   have O:=hb r iv;rw[rK];have α:pkw w (r::rs)>>>w=pkw w rs:=my O
   have Z:pkw w (r::rs)&&&(2 ^ w - 1)=r:=by
    show(r^^^(pkw w rs <<< w))&&&(2 ^ w - 1)=r;rw[KL];apply ka;intro i;rw[J7,rv,yv];by_cases hi:i < w
    ·simp[hi,show ¬w<=i by omega]
    ·rw[lT (fb O (gn @C @A))];simp[hi]
   rw[α,Z,oq (T:=T) (by simpa using h) λy Y=>hb y (lA _ Y)]
section
variable (ps os:A') (m T:Nat)
noncomputable def tol:D8:=(lB (T * m)).map λk=>pkw os.length (wan ps os 0 (upk m (2 ^ k) T))
end
section
variable {ps os:A'} {m T:Nat}
theorem tol_len:(tol ps os m T).length=T * m:=by unfold tol;rw[cY,u2]
theorem zr {F:Nat} (Y:F < 2 ^ (T * m)):sm (tol ps os m T) F=pkw os.length (wan ps os 0 (upk m F T)):=by
 refine zO (f:=λF=>pkw os.length (wan ps os 0 (upk m F T))) ?_ (λa b=>?_) (T * m) F Y
 ·show pkw _ (wan ps os 0 (upk m 0 T))=0;rw[BV,nZ (λp O=>wan_lt ps os _ 0 p O)];intro p O
  have hz:∀n,wan ps os 0 (eH n 0)=eH n 0:=λn=>by
   induction n with
   | zero=>rfl
   | succ n ih=>show tr2 os 0 0::wan ps os (tr2 ps 0 0) _=_;rw[iY,iY,ih];rfl
  rw[hz] at O;exact K5 O
 ·show pkw _ (wan ps os 0 (upk m (a^^^b) T))=_
  rw[<-EX,show wan ps os 0 (Lk (·^^^·) (upk m a T) (upk m b T))=Lk (·^^^·) (wan ps os 0 (upk m a T)) (wan ps os 0 (upk m b T)) from by
   have:=vn ps os (upk m a T) (upk m b T) 0 0 (by rw[upk_len,upk_len]);rwa [M4] at this,vI _ _ _ (by rw[wan_len,wan_len,upk_len,upk_len])]
theorem BZ {rs:D8} (hl:rs.length=T) (hb:∀r∈rs,r < 2 ^ m):pkw os.length (wan ps os 0 rs)=sm (tol ps os m T) (pkw m rs):=by
 have O:=pkw_lt hb;rw[hl] at O;rw[zr O];congr 2;exact(oq hl hb).symm
end
theorem GU:∀(l:D8) (i q:Nat),q.testBit i=false->sm (l.set i 0) q=sm l q:=by
 intro l
 induction l using gK with
 | h0=>intro i q _;rfl
 | hs l w ih=>
   intro i q h;by_cases hi:i < l.length
   ·rw[List.set_append_left _ _ hi,dM,dM,ih i q h,M6]
   ·by_cases e:i=l.length
    ·rw[e,List.set_append_right _ _ (ru _),Lz];show sm (l++[0]) q=_;rw[dM,dM,<-e,h];rfl
    ·rw[List.set_eq_of_length_le (by rw[gw];show l.length + 1<=i;omega)]
theorem Aw {μ i:Nat}:∀(l:D8),(∀k,k < l.length->od (μ&&&l.getD k 0)=decide (k=i))->∀F,od (μ&&&sm l F)=(decide (i < l.length)&&F.testBit i):=by
 intro l
 induction l using gK with
 | h0=>intro _ F;show od (μ&&&0)=_;rw[KS,od_zero];rfl
 | hs l w ih=>
   intro h F;have hw:=h l.length (by rw[gw];show l.length < l.length + 1;omega);have O:(l++[w]).getD l.length 0=w:=by rw[eh,qE (ru _),Lz];rfl
   rw[O] at hw
   have ih:=ih (λk hk=>by
    have:=h k (by rw[gw];omega);rwa [eh,qM hk,<-eh] at this) F
   rw[dM,iK,od_xor,ih,gw];show _=(decide (i < l.length + 1)&&F.testBit i);by_cases e:i=l.length
   ·rw[e,ia (KY _),zt,Kk,lh (L1 _),z7];cases Y:F.testBit l.length with
    | true=>rw[pT rfl,hw,e];simp
    | false=>rw[oT @C,KS,od_zero]
   ·have hz:od (μ&&&(if F.testBit l.length=true then w else 0))=false:=by
     split
     ·rw[hw];exact ia λz=>e z.symm
     ·rw[KS,od_zero]
    rw[hz,za];by_cases hi:i < l.length
    ·rw[lh hi,lh @A]
    ·rw[ia hi,ia @A]
section
variable {ps os:A'} {m T:Nat}
theorem silent_of {i q:Nat} (hT:1<=T) (hi:i < m) (hq:q < 2 ^ (T * m)) (h0:q.testBit i=false) (e:sm ((tol ps os m T).set i 0) q=(tol ps os m T).getD i 0):
  wan ps os 0 (upk m (q^^^2 ^ i) T)=eH T 0/\((upk m (q^^^2 ^ i) T).getD 0 0).testBit i=true:=by
 have Y:i < T * m:=fb hi (Mt m hT);have O:q^^^2 ^ i < 2 ^ (T * m):=xor_lt_pow hq (xv @C Y);constructor
 ·have hz:pkw os.length (wan ps os 0 (upk m (q^^^2 ^ i) T))=0:=by
   rw[<-zr O,sm_xor,iL,<-e,GU _ _ _ h0,M4]
  have:=(nZ (λp Z=>wan_lt ps os _ 0 p Z)).mp hz;refine List.eq_replicate_iff.mpr ⟨by rw[wan_len,upk_len],this⟩
 ·obtain⟨t,rfl⟩:∃t,T=t + 1:=⟨T - 1,@A⟩;rw[rK];show((q^^^2 ^ i)&&&(2 ^ m - 1)).testBit i=true;rw[KL,J7,rv,h0,pY];simp[hi]
theorem zu {μ i:Nat} (hT:1<=T) (hi:i < m) (ev:∀y,Span ((tol ps os m T).set i 0) y->od (μ&&&y)=false) (O:od (μ&&&(tol ps os m T).getD i 0)=true) {rs:D8} (hl:rs.length=T) (hb:∀r∈rs,r < 2 ^ m):
  od (μ&&&pkw os.length (wan ps os 0 rs))=(rs.getD 0 0).testBit i:=by
 have Z:i < T * m:=fb hi (Mt m hT);rw[BZ hl hb,Aw (i:=i) (tol ps os m T) (λk hk=>?_),tol_len,lh Z,z7]
 ·match rs,hl with
  | [],hl=>exact kf hl (by show ¬0=T;omega)
  | r::rs,_=>
    show(r^^^(pkw m rs <<< m)).testBit i=r.testBit i;rw[rv,yv];simp[show ¬m<=i by omega]
 ·by_cases e:k=i
  ·rw[lh e,e];exact O
  ·rw[ia e];refine ev _ (span_mem ?_)
   have Y:((tol ps os m T).set i 0)[k]? =ak ((tol ps os m T).getD k 0):=by
    rw[Mf (Lf e),eh,gs hk];rfl
   exact hR Y
end
section
variable {ps os TP TO:A'} {m d:Nat}
noncomputable def enc (n o x:Nat) (Y:D8):Nat:=x^^^(pkw o Y <<< n)
theorem tells (enc:Nat->D8->Nat)
  (hO:∀x Y y v vs,Y.length=d->vs.length=d->v < 2 ^ m->(∀u∈vs,u < 2 ^ m)->wan ps os x (v::vs)=Y++[y]->tr2 TO (enc x Y) y=v/\tr2 TP (enc x Y) y=enc (tr2 ps x v) ((Y++[y]).drop 1)):
  ∀(ys:D8) (x:Nat) (Y vs:D8),Y.length=d->vs.length=d + ys.length->(∀v∈vs,v < 2 ^ m)->wan ps os x vs=Y++ys->wan TP TO (enc x Y) ys=vs.take ys.length
 | [],_,_,_,_,_,_,_=>rfl
 | y::ys,x,Y,vs,hY,hl,hb,h=>by
   match vs,hl,hb,h with
   | [],hl,_,_=>exact kf hl (by rw[ub];show ¬0=d + (ys.length + 1);omega)
   | v::vs,hl,hb,h=>
     rw[ub,ub] at hl
     have h1:wan ps os x (v::vs.take d)=Y++[y]:=by
      have Z:v::vs.take d=(v::vs).take (d + 1):=rfl;rw[Z,rF,h,Qx,hY,Lp @A,show d + 1 - d=1 by omega];rfl
     obtain⟨a,b⟩:=hO x Y y v (vs.take d) hY (by rw[JW];omega) (hb v iv) (λu hu=>hb u (lA _ (NS hu))) h1;show tr2 TO _ y::wan TP TO (tr2 TP _ y) ys=v::vs.take ys.length;rw[a,b];refine y3 (v::·) (tells enc hO ys (tr2 ps x v) ((Y++[y]).drop 1) vs (by rw[Ml,gw,hY];show d + 1 - 1=d;omega) @A (λu hu=>hb u (lA _ hu)) ?_);have h2:tr2 os x v::wan ps os (tr2 ps x v) vs=Y++y::ys:=h;have O:=y3 (List.drop 1) h2;rw[List.drop_succ_cons,QX] at O;rw[O,show Y++y::ys=(Y++[y])++ys by rw[LM];rfl,List.drop_append_of_le_length (by rw[gw];show 1<=Y.length + 1;omega)]
end
theorem IG (A:D8):∀(t:Nat) (L:D8) (s:Nat),bkI A (sm L s) t=sm (L.map λl=>bkI A l t) s:=by
 intro t
 induction t with
 | zero=>intro L s;show sm L s=sm (L.map λl=>l) s;rw[Ri]
 | succ t ih=>
   intro L s;rw[<-xG,GT,ih];congr 1;rw[Ks];exact Lb λl _=>xG A l t
section
variable (ps os:A')
noncomputable def zmk (μ:Nat):Nat->Nat
 | 0=>0
 | T + 1=>zmk μ T^^^sm ((os.map (·.1)).map λl=>bkI (ps.map (·.1)) l T) ((μ>>>(T * os.length))&&&(2 ^ os.length - 1))
end
section
variable {ps os:A'}
theorem BP (hl:ps.length<=1000) (ho:os.length<=1000) (x s t:Nat):od (sm ((os.map (·.1)).map λl=>bkI (ps.map (·.1)) l t) s&&&x)=od (s&&&tr2 os (zs ps x t) 0):=by
 rw[oV s (zs ps x t) 0 os ho,KS,od_zero,za,HV ps hl,IG]
theorem El (hl:ps.length<=1000) (ho:os.length<=1000) (x μ:Nat):∀T,od (zmk ps os μ T&&&x)=dot (upk os.length μ T) ((lB T).map λt=>tr2 os (zs ps x t) 0)
 | 0=>by show od (0&&&x)=false;rw[KR,od_zero]
 | T + 1=>by
   show od ((zmk ps os μ T^^^_)&&&x)=_;rw[kD,od_xor,El hl ho x μ T,BP hl ho];unfold upk;rw[Kj,gA,gA];rw[show([T].map λt=>(μ>>>(t * os.length))&&&(2 ^ os.length - 1))=[(μ>>>(T * os.length))&&&(2 ^ os.length - 1)] from rfl,show([T].map λt=>tr2 os (zs ps x t) 0)=[tr2 os (zs ps x T) 0] from rfl];rw[xy _ _ _ _ (by rw[cY,cY])]
theorem tM (ps os:A') (x T:Nat):wan ps os x (eH T 0)=(lB T).map λt=>tr2 os (zs ps x t) 0:=by
 refine Ol λt=>?_;by_cases h:t < T
 ·rw[oh _ _ _ _ _ h,ic,Lc h];rfl
 ·rw[L7 (by rw[wan_len,qq];omega),L7 (by rw[cY,u2];omega)]
theorem BQ (hl:ps.length<=1000) (ho:os.length<=1000) {x μ T:Nat} (hT:T * os.length<=1000) (Y:μ < 2 ^ (T * os.length)):od (zmk ps os μ T&&&x)=od (μ&&&pkw os.length (wan ps os x (eH T 0))):=by
 rw[El hl ho,tM];have h1:=Em (w:=os.length) (ps:=upk os.length μ T) (rs:=(lB T).map λt=>tr2 os (zs ps x t) 0) (by rw[upk_len,cY,u2]) (upk_lt _ _ _) (λr O=>by obtain⟨t,_,rfl⟩:=ov.mp O;exact tr2_lt _ _ _) (by rw[upk_len];exact hT);rw[rW _ _ _ Y] at h1;exact h1.symm
theorem xU {m d i μ x v:Nat} {vs Y:D8} {y:Nat} (hl:ps.length<=1000) (ho:os.length<=1000) (hT:(d + 1) * os.length<=1000) (Z:μ < 2 ^ ((d + 1) * os.length)) (hi:i < m)
  (ev:∀z,Span ((tol ps os m (d + 1)).set i 0) z->od (μ&&&z)=false) (O:od (μ&&&(tol ps os m (d + 1)).getD i 0)=true) (α:v < 2 ^ m) (hb:∀u∈vs,u < 2 ^ m) (hs:vs.length=d) (h:wan ps os x (v::vs)=Y++[y]):
  (od (zmk ps os μ (d + 1)&&&x)^^od (μ&&&pkw os.length (Y++[y])))=v.testBit i:=by
 rw[BQ hl ho hT Z,<-h,<-od_xor,<-iK]
 have hz:Lk (·^^^·) (wan ps os x (eH (d + 1) 0)) (wan ps os x (v::vs))=wan ps os 0 (v::vs):=by
  have:=vn ps os (eH (d + 1) 0) (v::vs) x x (by rw[qq,ub,hs]);rw[M4] at this;rw[<-this];congr 1;refine Ol λt=>?_;rw[List.getElem?_zipWith];by_cases ht:t < d + 1
  ·rw[List.getElem?_replicate_of_lt ht,gs (by rw[ub,hs];exact ht)];simp
  ·rw[L7 (show(v::vs).length<=t by rw[ub,hs];omega)];cases(eH (d + 1) 0)[t]? <;>rfl
 rw[<-vI _ _ _ (by rw[wan_len,wan_len,qq,ub,hs]),hz]
 exact zu (T:=d + 1) @A hi ev O (by rw[ub,hs]) λr β=>by
  rcases rz.mp β with e | e
  ·rw[e];exact α
  ·exact hb r e
end
section
variable (ps os:A') (d:Nat)
noncomputable def tel (μ:Nat):Nat×Nat:=(zmk ps os μ (d + 1)^^^((μ % 2 ^ (d * os.length)) <<< ps.length),μ>>>(d * os.length))
noncomputable def telO (μs:D8):A':=μs.map (tel ps os d)
noncomputable def fol (to:A') (q:Nat×Nat):Nat×Nat:=(q.1^^^sm (to.map (·.1)) q.2,sm (to.map (·.2)) q.2)
noncomputable def kpt:A':=(lB (d * os.length - os.length)).map (λj=>(2 ^ (ps.length + (os.length + j)),0))++(if 0 < d then (lB os.length).map (λk=>(0,2 ^ k)) else [])
noncomputable def telP (μs:D8):A':=ps.map (fol (telO ps os d μs))++kpt ps os d
noncomputable def ecd (x:Nat) (Y:D8):Nat:=x^^^(pkw os.length Y <<< ps.length)
end
section
variable {ps os:A'} {d:Nat}
theorem y9 (O:∀q∈ps++os,q.1 < 2 ^ ps.length) (μ:Nat):∀T,zmk ps os μ T < 2 ^ ps.length
 | 0=>kb _
 | T + 1=>xor_lt_pow (y9 O μ T) (sm_lt _ λy Y=>by
     obtain⟨l,hl,rfl⟩:=ov.mp Y;obtain⟨q,α,rfl⟩:=ov.mp hl;exact bkI_lt (λz hz=>by obtain⟨r,Z,rfl⟩:=ov.mp hz;exact O r (ro _ Z)) (O q (oD _ α)) T)
theorem CK {μ w o y:Nat} {P:Nat} (hw:w + o<=1000) (O:P < 2 ^ w) (hy:y < 2 ^ o):od (μ&&&(P^^^(y <<< w)))=(od ((μ % 2 ^ w)&&&P)^^od ((μ>>>w)&&&y)):=by
 have e:μ=(μ % 2 ^ w)^^^((μ>>>w) <<< w):=by
  apply ka;intro i;rw[rv,J7,yv,KM];by_cases hi:i < w
  ·simp[hi,show ¬w<=i by omega]
  ·simp[hi,show w<=i by omega,show w + (i - w)=i by omega]
 rw[show od (μ&&&(P^^^(y <<< w)))=od (((μ % 2 ^ w)^^^((μ>>>w) <<< w))&&&(P^^^(y <<< w))) by rw[<-e],jW (Mj _ (kb _)) O,od_xor,xc (v' L3 (fb hy (gn @C @A))) @A]
theorem EZ (β:∀q∈ps++os,q.1 < 2 ^ ps.length) (hn:ps.length + (d + 1) * os.length<=1000) {x μ y:Nat} {Y:D8} (hx:x < 2 ^ ps.length) (Z:Y.length=d) (ο:∀z∈Y,z < 2 ^ os.length) (hy:y < 2 ^ os.length):
  (od ((tel ps os d μ).1&&&ecd ps os x Y)^^od ((tel ps os d μ).2&&&y))=(od (zmk ps os μ (d + 1)&&&x)^^od (μ&&&pkw os.length (Y++[y]))):=by
 have O:=pkw_lt ο;rw[Z] at O;have α:(d + 1) * os.length=d * os.length + os.length:=NY d os.length;unfold tel ecd;rw[jW (y9 β μ _) hx,od_xor,xc (v' L3 (fb O (gn @C @A))) @A,pkw_snoc,Z,CK @A O hy];generalize od _=a;generalize od _=b;generalize od _=c;cases a<;>cases b<;>cases c<;>rfl
structure Mks (ps os:A') (m d:Nat) (μs:D8):Prop where
 len:μs.length=m
 lt:∀(i μ:Nat),μs[i]? =ak μ->μ < 2 ^ ((d + 1) * os.length)
 ev:∀(i μ:Nat),μs[i]? =ak μ->∀z,Span ((tol ps os m (d + 1)).set i 0) z->od (μ&&&z)=false
 odd:∀(i μ:Nat),μs[i]? =ak μ->od (μ&&&(tol ps os m (d + 1)).getD i 0)=true
theorem wI {m:Nat} {μs:D8} (M:Mks ps os m d μs) (γ:∀q∈ps++os,q.1 < 2 ^ ps.length) (hn:ps.length + (d + 1) * os.length<=1000) (ho:os.length<=1000) {x v y:Nat} {vs Y:D8} (hx:x < 2 ^ ps.length) (α:v < 2 ^ m) (hb:∀u∈vs,u < 2 ^ m) (hs:vs.length=d) (β:Y.length=d) (h:wan ps os x (v::vs)=Y++[y]):tr2 (telO ps os d μs) (ecd ps os x Y) y=v:=by
 have θ:∀z∈Y++[y],z < 2 ^ os.length:=λz hz=>wan_lt ps os (v::vs) x z (by rw[h];exact hz);apply ka;intro i;rw[dJ];unfold telO;rw[cY,M.len];by_cases hi:i < m
 ·have Z:i < μs.length:=by rw[M.len];exact hi
  have O:μs[i]? =ak μs[i]:=gs Z;rw[lh hi,z7,eh,ic,O];show(od ((tel ps os d _).1&&&_)^^od ((tel ps os d _).2&&&y))=_;rw[EZ γ hn hx β (λz hz=>θ z (ro _ hz)) (θ y (oD _ iv))];exact xU @A ho @A (M.lt i _ O) hi (M.ev i _ O) (M.odd i _ O) α hb hs h
 ·rw[ia hi,zt,lT (fb α (gn @C @A))]
theorem kpt_len:(kpt ps os d).length=d * os.length:=by
 unfold kpt;rw[gw,cY,u2];cases d with
 | zero=>rw[oT @C];show 0 * os.length - os.length + 0=0 * os.length;omega
 | succ d=>
   rw[pT @A,cY,u2,NY];omega
theorem CA {w:Nat} {z:Nat} {Z:D8} (h:z < 2 ^ w):pkw w (z::Z)>>>w=pkw w Z:=my h
theorem zw {m:Nat} {μs:D8} (M:Mks ps os m d μs) (ι:∀q∈ps++os,q.1 < 2 ^ ps.length) (hn:ps.length + (d + 1) * os.length<=1000) (ho:os.length<=1000) (hm:m<=1000) {x v y:Nat} {vs Y:D8} (hx:x < 2 ^ ps.length) (ρ:v < 2 ^ m) (hb:∀u∈vs,u < 2 ^ m) (hs:vs.length=d) (β:Y.length=d) (h:wan ps os x (v::vs)=Y++[y]):
  tr2 (telP ps os d μs) (ecd ps os x Y) y=ecd ps os (tr2 ps x v) ((Y++[y]).drop 1):=by
 have θ:∀z∈Y++[y],z < 2 ^ os.length:=λz hz=>wan_lt ps os (v::vs) x z (by rw[h];exact hz);have O:=wI M ι hn ho hx ρ hb hs β h;have τ:(d + 1) * os.length=d * os.length + os.length:=NY d os.length;have ο:=θ y (oD _ iv);have η:=pkw_lt (w:=os.length) (ps:=Y) (λz hz=>θ z (ro _ hz));rw[β] at η;have π:((Y++[y]).drop 1).length=d:=by rw[Ml,gw,β];show d + 1 - 1=d;omega
 have γ:=pkw_lt (w:=os.length) (ps:=(Y++[y]).drop 1) (λz hz=>θ z (PV hz));rw[π] at γ
 have δ:pkw os.length ((Y++[y]).drop 1)=pkw os.length (Y++[y])>>>os.length:=by
  match Y,β,θ with
  | [],_,θ=>show pkw os.length []=(y^^^(pkw os.length [] <<< os.length))>>>os.length;rw[my (θ y @F)]
  | z::Y',_,θ=>exact(CA (θ z @F)).symm
 have α:∀j,(pkw os.length ((Y++[y]).drop 1)).testBit j=((pkw os.length Y).testBit (os.length + j)^^(decide (d * os.length<=os.length + j)&&y.testBit (os.length + j - d * os.length))):=λj=>by
  rw[δ,KM,pkw_snoc,β,rv,yv]
 apply ka;intro k;rw[dJ];unfold telP;rw[gw,cY,kpt_len]
 have Z:∀k,(ecd ps os (tr2 ps x v) ((Y++[y]).drop 1)).testBit k=((tr2 ps x v).testBit k^^(decide (ps.length<=k)&&(pkw os.length ((Y++[y]).drop 1)).testBit (k - ps.length))):=λk=>by
  unfold ecd;rw[rv,yv]
 rw[Z];by_cases h1:k < ps.length
 ·have ζ:ps[k]? =ak ps[k]:=gs h1;rw[lh @A,z7,eh,qM (by rw[cY];exact h1),ic,ζ,ia @A,zt,za];show(od ((ps[k].1^^^sm ((telO ps os d μs).map (·.1)) ps[k].2)&&&ecd ps os x Y)^^od (sm ((telO ps os d μs).map (·.2)) ps[k].2&&&y))=_;have ε:=ι ps[k] (ro _ (KU h1))
  have υ:od (ps[k].1&&&ecd ps os x Y)=od (ps[k].1&&&x):=by
   unfold ecd;have:=jW (w:=ps.length) (p:=ps[k].1) (r:=x) (P:=0) (R:=pkw os.length Y) ε hx;rw[M',KJ,KR,M',KJ] at this;rw[this]
  have ξ:=oV ps[k].2 (ecd ps os x Y) y (telO ps os d μs) (by unfold telO;rw[cY,M.len];exact hm);rw[O] at ξ;rw[kD,od_xor,υ,QZ,<-ξ,dJ,lh h1,z7,eh,ζ];rfl
 ·have ht:(tr2 ps x v).testBit k=false:=lT (fb (tr2_lt ps x v) (gn @C @A));rw[ht,Kk,lh (show ps.length<=k by omega),z7];obtain⟨j,rfl⟩:∃j,k=ps.length + j:=⟨k - ps.length,@A⟩;rw[Ni];by_cases h2:j < d * os.length
  ·rw[lh @A,z7,α,eh,qE (by rw[cY];omega),cY,Ni];have hd:0 < d:=by cases d with | zero=>rw[Ov] at h2;omega | succ d=>omega
   unfold kpt;by_cases ν:j < d * os.length - os.length
   ·rw[qM (by rw[cY,u2];exact ν),ic,Lc ν];show(od (2 ^ (ps.length + (os.length + j))&&&ecd ps os x Y)^^od (0&&&y))=_;rw[KR,od_zero,za,od_pow @A,ia @A,zt,za];unfold ecd;rw[rv,yv,lT (fb hx (gn @C @A)),Kk,lh @A,z7,Ni]
   ·have φ:os.length<=d * os.length:=Mt _ hd;rw[qE (by rw[cY,u2];omega),cY,u2,pT hd,ic,Lc @A];show(od (0&&&ecd ps os x Y)^^od (2 ^ (j - (d * os.length - os.length))&&&y))=_;rw[KR,od_zero,Kk,od_pow @A,lT (fb η (gn @C (show d * os.length<=os.length + j by omega))),Kk,lh @A,z7];congr 1;omega
  ·rw[ia @A,zt,lT (fb γ (gn @C @A))]
theorem told_back {m:Nat} {μs:D8} (M:Mks ps os m d μs) (β:∀q∈ps++os,q.1 < 2 ^ ps.length) (hn:ps.length + (d + 1) * os.length<=1000) (ho:os.length<=1000) (hm:m<=1000) {us:D8} (hu:∀u∈us,u < 2 ^ m):
  wan (telP ps os d μs) (telO ps os d μs) 0 (wan ps os 0 us)=(eH d 0++us).take us.length:=by
 have hz:∀n,wan ps os 0 (eH n 0)=eH n 0/\wst ps 0 (eH n 0)=0:=λn=>by
  induction n with
  | zero=>exact⟨rfl,rfl⟩
  | succ n ih=>exact⟨by show tr2 os 0 0::wan ps os (tr2 ps 0 0) _=_;rw[iY,iY,ih.1];rfl,by show wst ps (tr2 ps 0 0) _=0;rw[iY];exact ih.2⟩
 have he:ecd ps os 0 (eH d 0)=0:=by
  unfold ecd;rw[(nZ (w:=os.length) (ps:=eH d 0) (λp γ=>by rw[K5 γ];exact kb _)).mpr λp γ=>K5 γ,M',M4]
 have ζ:=tells (ps:=ps) (os:=os) (TP:=telP ps os d μs) (TO:=telO ps os d μs) (m:=m) (d:=d) (λx Y=>ecd ps os (x % 2 ^ ps.length) Y) ?_ (wan ps os 0 us) 0 (eH d 0) (eH d 0++us) (qq ..) (by rw[gw,qq,wan_len]) (λv α=>by
  rcases px.mp α with e | e
  ·rw[K5 e];exact kb _
  ·exact hu v e) (by rw[zi,(hz d).1,(hz d).2])
 ·have ζ:wan _ _ (ecd ps os (0 % 2 ^ ps.length) (eH d 0)) _=_:=ζ;rw[P9,he,wan_len] at ζ;exact ζ
 ·intro x Y y v vs δ hs α hb h;have O:x % 2 ^ ps.length < 2 ^ ps.length:=Mj _ (kb _)
  have same:∀(qs:A'),(∀q∈qs,q.1 < 2 ^ ps.length)->∀r,tr2 qs (x % 2 ^ ps.length) r=tr2 qs x r:=λqs Z r=>by
   apply ka;intro i;rw[dJ,dJ];by_cases hi:i < qs.length
   ·have hm:qs.getD i (0,0)∈qs:=by rw[eh,gs hi];exact KU hi
    have:(qs.getD i (0,0)).1&&&(x % 2 ^ ps.length)=(qs.getD i (0,0)).1&&&x:=by
     apply ka;intro j;rw[K4,K4,J7];by_cases ε:j < ps.length
     ·simp[ε]
     ·rw[lT (fb (Z _ hm) (gn @C @A))];simp
    rw[this]
   ·rw[ia hi,zt,zt]
  have sp:=same ps (λq Z=>β q (ro _ Z));have ρ:=same os (λq Z=>β q (oD _ Z))
  have h':wan ps os (x % 2 ^ ps.length) (v::vs)=Y++[y]:=by
   rw[<-h];show tr2 os _ v::wan ps os (tr2 ps _ v) vs=tr2 os x v::wan ps os (tr2 ps x v) vs;rw[sp,ρ]
  refine⟨wI M β hn ho O α hb hs δ h',?_⟩;rw[zw M β hn ho hm O α hb hs δ h',sp,MC (tr2_lt ps x v)]
end
section
variable {ps os:A'} {m:Nat}
theorem first_iff {bars:D8} {u:Nat} (hl:ps.length<=1000) (ho:os.length<=1000):
  (∀y,Span (os.map (·.2)++bars.map (sm (ps.map (·.2)))) y->od (u&&&y)=false)↔tr2 os 0 u=0/\∀b∈bars,od (b&&&tr2 ps 0 u)=false:=by
 have Z:∀b,od (b&&&tr2 ps 0 u)=od (sm (ps.map (·.2)) b&&&u):=λb=>by
  rw[oV b 0 u ps hl,KS,od_zero,Kk]
 have α:tr2 os 0 u=0↔∀q∈os,od (q.2&&&u)=false:=by
  constructor
  ·intro h q Y;obtain⟨k,hk⟩:=NJ.mp Y;have O:=(dt.mp hk).1;have:=y3 (·.testBit k) h;simp only[dJ,z5,lh O,z7,eh,hk,PD,KS,od_zero,Kk] at this;exact this
  ·intro h;apply ka;intro k;rw[dJ,z5,KS,od_zero,Kk];by_cases O:k < os.length
   ·rw[lh O,z7,eh,gs O];exact h _ (KU O)
   ·rw[ia O,zt]
 rw[α];constructor
 ·intro h;refine⟨λq Y=>?_,λb hb=>?_⟩
  ·rw[Km];exact h _ (span_mem (ro _ (ov.mpr ⟨q,Y,rfl⟩)))
  ·rw[Z,Km];exact h _ (span_mem (oD _ (ov.mpr ⟨b,hb,rfl⟩)))
 ·rintro⟨h1,h2⟩ y β;refine lQ (λr γ=>?_) β;rw[Km];rcases px.mp γ with h | h
  ·obtain⟨q,Y,rfl⟩:=ov.mp h;exact h1 q Y
  ·obtain⟨b,hb,rfl⟩:=ov.mp h;rw[<-Z];exact h2 b hb
theorem not_silent {bars:D8} {k:Nat} (hk:k<=ps.length) (hb:BL ps os m k bars) (h0:∀u,u < 2 ^ m->tr2 os 0 u=0->(∀b∈bars,od (b&&&tr2 ps 0 u)=false)->u=0) {rs:D8} (hl:ps.length < rs.length) (O:∀r∈rs,r < 2 ^ m) (h:wan ps os 0 rs=eH rs.length 0):rs.getD 0 0=0:=by
 match rs,hl,O,h with
 | [],hl,_,_=>exact kf hl @F
 | r::rs,hl,O,h=>
   have h:tr2 os 0 r::wan ps os (tr2 ps 0 r) rs=0::eH rs.length 0:=h;obtain⟨h1,h2⟩:=Qb h;have hs:=wO (m:=m) (tr2_lt ps 0 r) rs rfl (λy Y=>O y (lA _ Y)) h2;exact h0 r (O r iv) h1 ((hb _ (tr2_lt ps 0 r)).mpr (hs.less (by rw[ub] at hl;omega)))
structure Slp (ps os:A') (m j:Nat) (bars ways:D8):Prop where
 w:SWays ps os m bars ways
 b:BL ps os m j bars
 lt:∀b∈bars,b < 2 ^ ps.length
 cnt:∃prev:D8,(∀x,Span prev x↔Sil ps os m j x)/\Inj prev/\prev.length + bars.length=ps.length/\prev.length + j<=ps.length
theorem Slp.sil {j:Nat} {bars O:D8} (S:Slp ps os m j bars O):∀x,Span (O.map (· % 2 ^ ps.length)) x↔Sil ps os m (j + 1) x:=S.w.sil S.b
theorem Slp.le {j:Nat} {bars O:D8} (S:Slp ps os m j bars O):j<=ps.length:=by obtain⟨p,_,_,_,h⟩:=S.cnt;omega
theorem Slp.done {j:Nat} {bars O:D8} (S:Slp ps os m j bars O) (h:ps.length<=O.length + bars.length) {x:Nat} (hx:Sil ps os m j x):Span (O.map (· % 2 ^ ps.length)) x:=by
 obtain⟨p,h1,h2,Z,_⟩:=S.cnt;exact zA S.w.inj h2 (by rw[cY];omega) (λy Y=>(h1 y).mpr ((S.sil y).mp Y).down) ((h1 x).mpr hx)
theorem Slp.start {O:D8} (hw:SWays ps os m [] O):Slp ps os m 0 [] O:=by
 refine⟨hw,yM,λ_ h=>kf h @F,(lB ps.length).map (2 ^ ·),λx=>?_,?_,?_,?_⟩
 ·constructor
  ·intro h;exact span_lt (λr Z=>by obtain⟨k,hk,rfl⟩:=ov.mp Z;exact xv @C (zx.mp hk)) h
  ·intro h;have:sm ((lB ps.length).map (2 ^ ·)) x=x:=zO (f:=λx=>x) rfl (λ_ _=>rfl) ps.length x h;rw[<-this];exact sm_span _ _
 ·intro p Y h;rw[cY,u2] at Y;have:sm ((lB ps.length).map (2 ^ ·)) p=p:=zO (f:=λx=>x) rfl (λ_ _=>rfl) ps.length p Y;rw[<-this];exact h
 ·rw[cY,u2];rfl
 ·rw[cY,u2];exact ru _
theorem Slp.next {j:Nat} {bars Y O Z:D8} (S:Slp ps os m j bars Y) (hn:ps.length<=1000) (α:Y.length + bars.length < ps.length) (blt:∀b∈O,b < 2 ^ ps.length) (β:O.length + Y.length=ps.length)
  (ev:∀b∈O,∀y,Span (Y.map (· % 2 ^ ps.length)) y->od (b&&&y)=false) (all:∀z,z < 2 ^ ps.length->(∀y,Span (Y.map (· % 2 ^ ps.length)) y->od (z&&&y)=false)->Span O z) (hw:SWays ps os m O Z):Slp ps os m (j + 1) O Z:=by
 obtain⟨p,h1,h2,γ,ρ⟩:=S.cnt;exact⟨hw,yN hn S.sil ev all,blt,Y.map (· % 2 ^ ps.length),S.sil,S.w.inj,by rw[cY];omega,by rw[cY];omega⟩
end
noncomputable def jn (p1 p2:A'):A':=p1++p2.map λq=>(q.1 <<< p1.length,q.2)
noncomputable def lo (n x:Nat):Nat:=x&&&(2 ^ n - 1)
structure Jo (p1 p2:A'):Prop where
 a1:∀q∈p1,q.1 < 2 ^ p1.length
 a2:∀q∈p2,q.1 < 2 ^ p2.length
 l:p1.length + p2.length<=500
section
variable {p1 p2 o1 o2:A'} {m:Nat}
noncomputable def sgl (p o:A') (w:Nat):Nat->Nat
 | 0=>tr2 o 0 (2 ^ w)
 | t + 1=>tr2 o (zs p (tr2 p 0 (2 ^ w)) t) 0
def Al (p1 o1 p2 o2:A') (m T:Nat):Prop:=∀t,t < T->∀w,w < m->sgl p1 o1 w t=sgl p2 o2 w t
end
noncomputable def rcf (ps:A') (m:Nat):Nat->D8
 | 0=>[]
 | T + 1=>rcf ps m T++stj ps (sg0 ps m) T
noncomputable def prs2 (p1 p2:A') (m:Nat):D8:=fR (rcf (jn p1 p2) m (p1.length + p2.length))
end M
namespace Sx
open PySem L2
def Cp (O:f' Pr3->Prop) (H1:Hp) (D:fy) (i:Nat) (ys:f' V) (H:Hp):Prop:=∃qs:f' Pr3,ys=refs qs/\qs.length=i/\O qs/\Prt H qs/\Same H1 H/\H D=ak (.lst ys)
theorem uT {γ:f' Pr3->Prop} {H1 H O:Hp} {D t:fy} {i x y:Nat} {qs:f' Pr3} (ε:H1 D=none) (α:qs.length=i) (pt:Prt H qs) (s:Same H1 H) (β:H D=ak (.lst (refs qs))) (Y:Same H O) (et:O t=ak (.tup [nat x,nat y])) (hi:i < 1000) (pv:γ (qs++[(t,x,y)])):O D=ak (.lst (refs qs))/\(refs qs).length < qb/\Cp γ H1 D (i + 1) (refs qs++[.ref t]) (upd O D (.lst (refs qs++[.ref t]))):=by
 refine⟨Y.get β,by rw[aS,α];exact c4 @A,qs++[(t,x,y)],by unfold refs;rw[gA];rfl,by rw[gw,α];rfl,pv,λq δ=>?_,λb ob e=>?_,bg⟩
 ·have Z:O q.1=ak (.tup [nat q.2.1,nat q.2.2]):=by
   rcases px.mp δ with h | h
   ·exact Y.get (pt q h)
   ·rw[hC.mp h];exact et
  have n:q.1≠D:=λz=>by rw[z,Y.get β] at Z;cases Z
  rw[aV n];exact Z
 ·rw[aV (aw e ε)];exact Y.get (s.get e)
theorem pU {O:f' Pr3->Prop} {H1:Hp} {D:fy} (Y:H1 D=none) (h:O []):Cp O H1 D 0 [] (upd H1 D (.lst [])):=⟨[],rfl,rfl,h,λ_ h=>(by cases h),eT Y,bg⟩
structure Lrl (H:Hp) (Dr Dl:fy) (ds es:I4) (m:Nat) (nx os:f' Pr3):Prop where
 r:H Dr=ak (.lst (ds.map V.ref))
 l:H Dl=ak (.lst (es.map V.ref))
 dl:ds.length=(M.ldp @E @G m).length
 el:es.length=(M.lkp @E @G m).length
 da:∀(j:Nat) (d k:Nat),ds[j]? =ak d->(M.ldp @E @G m)[j]? =ak k->H d=ak (.lst ((M.upk m (2 ^ k) nx.length).map nat))
 ea:∀(j:Nat) (e k:Nat),es[j]? =ak e->(M.lkp @E @G m)[j]? =ak k->H e=ak (.tup [nat (k / os.length),nat (k % os.length)])
noncomputable def less (H:Hp) (R:fy->Prop):Hp:=λb=>@ite _ (R b) (Ln _) none (H b)
structure TwoA (H:Hp) (C p1 p2:fy) (m:Nat) (nx1 os1 nx2 os2:f' Pr3):Prop where
 a1:MaA H C p1 m nx1 os1
 g1:MaG m nx1 os1
 a2:MaA H C p2 m nx2 os2
 g2:MaG m nx2 os2
 lo:os1.length=os2.length
 l:nx1.length + nx2.length<=60
structure Fun2 (p1 o1 p2 o2:A') (m w t:Nat):Prop where
 hw:w < m
 ht:t<=p1.length + p2.length
 al:M.Al p1 o1 p2 o2 m t
 al':∀w',w' < w->M.sgl p1 o1 w' t=M.sgl p2 o2 w' t
 un:M.sgl p1 o1 w t≠M.sgl p2 o2 w t
noncomputable def sfq (rows:D8) (x:Nat):Nat:=@dite _ (∃q,Sumd rows x q) (Ln _) (λh=>h.choose) λ_=>0
structure AlkA (H:Hp) (t Ds Db Du:fy) (ts bs us:I4) (m:Nat) (p1 p2:A'):Prop where
 t:H t=ak (.tup [.str "alike",.ref Ds,.ref Db,.ref Du])
 s:H Ds=ak (.lst (ts.map V.ref))
 ls:ts.length=(M.prs2 p1 p2 m).length
 sa:∀(j:Nat) a,ts[j]? =ak a->H a=ak (.tup [nat (M.lo p1.length ((M.prs2 p1 p2 m).getD j 0)),nat ((M.prs2 p1 p2 m).getD j 0>>>p1.length)])
 b:H Db=ak (.lst (bs.map V.ref))
 lb:bs.length=m
 ba:∀(j:Nat) a,bs[j]? =ak a->H a=ak (.lst ((M.pl 1000 (sfq (M.prs2 p1 p2 m) (M.tr2 (M.jn p1 p2) 0 (2 ^ j)))).map nat))
 u:H Du=ak (.lst (us.map V.ref))
 lu:us.length=(M.prs2 p1 p2 m).length
 ua:∀(j:Nat) a,us[j]? =ak a->H a=ak (.lst ((M.pl 1000 (sfq (M.prs2 p1 p2 m) (M.tr2 (M.jn p1 p2) ((M.prs2 p1 p2 m).getD j 0) 0))).map nat))
def yc:Sp:=λvs H Q _=>∃(r:fy) (rows:D8) (β:Nat),vs=[.ref r,nat β]/\H r=ak (.lst (rows.map nat))/\rows.length<=1000/\β<=1000/\(∀r∈rows,r < 2 ^ β)/\(M.fr rows).length < 64/\
 ∀D H2,H D=none->Same H H2->H2 D=ak (.lst ((M.acr rows β).map nat))->Acr rows β (M.acr rows β)->Q (.ref D) H2
structure Tldm (H:Hp) (D:fy) (ps:f' (fy×Nat)) (m T:Nat):Prop where
 d:H D=ak (.lst (ps.map λq=>V.ref q.1))
 at':∀q∈ps,H q.1=ak (.lst ((M.upk m q.2 T).map nat))
 ne:∀q∈ps,q.1≠D
def zM:Sp:=λvs H Q _=>∃(t:fy) (x y n:Nat),vs=[.ref t,nat n]/\H t=ak (.tup [nat x,nat y])/\n<=120/\y < 2 ^ 64/\Q (nat (M.jd n (x,y))) H
noncomputable def swy (ps os:A') (m:Nat) (bars:D8):D8:=(M.fr ((M.acr (M.rowsJ ps os bars) (ps.length + m)).map (· % 2 ^ ps.length))).map λi=>(M.acr (M.rowsJ ps os bars) (ps.length + m)).getD i 0
theorem GM {ps os:A'} {m:Nat} {bars:D8} (hn:ps.length + m<=1000) (Y:∀q∈ps++os,q.1 < 2 ^ ps.length) (hb:∀b∈bars,b < 2 ^ ps.length) (O:Acr (M.rowsJ ps os bars) (ps.length + m) (M.acr (M.rowsJ ps os bars) (ps.length + m))):M.SWays ps os m bars (swy ps os m bars):=
 M.sways hn Y hb O.lt O.ev O.all
def x5 (C:fy):Sp:=λvs H Q _=>∃(p D:fy) (m:Nat) (nx os:f' Pr3) (bars:D8),vs=[.ref p,.ref D]/\MaA H C p m nx os/\MaG m nx os/\nx.length<=16/\H D=ak (.lst (bars.map nat))/\bars.length<=100/\(∀b∈bars,b < 2 ^ nx.length)/\
 ∀(O:fy) (H2:Hp),H O=none->Same H H2->H2 O=ak (.lst ((swy @E @G m bars).map nat))->M.SWays @E @G m bars (swy @E @G m bars)->Q (.ref O) H2
noncomputable def evj (ps os:A') (m:Nat):Nat->D8×f' Nat
 | 0=>([],swy ps os m [])
 | j + 1=>(M.acr ((evj ps os m j).2.map (· % 2 ^ ps.length)) ps.length,swy ps os m (M.acr ((evj ps os m j).2.map (· % 2 ^ ps.length)) ps.length))
structure Fev (ps os:A') (m:Nat) (bars ways:D8):Prop where
 ex:∃j,M.Slp ps os m j bars ways/\ps.length<=ways.length + bars.length
 un:∃j,(bars,ways)=evj ps os m j/\ps.length<=ways.length + bars.length/\∀i,i < j->(evj ps os m i).2.length + (evj ps os m i).1.length < ps.length
def zN (C:fy):Sp:=λvs H Q _=>∃(p:fy) (m:Nat) (nx os:f' Pr3),vs=[.ref p]/\MaA H C p m nx os/\MaG m nx os/\nx.length<=16/\
 ∀(t Z Y:fy) (H2:Hp) (bars O:D8),Same H H2->H2 t=ak (.tup [.ref Z,.ref Y])->H2 Z=ak (.lst (bars.map nat))->H2 Y=ak (.lst (O.map nat))->Fev @E @G m bars O->Q (.ref t) H2
theorem Fev.goes {ps os:A'} {m:Nat} {bars O:D8} (f:Fev ps os m bars O) {w:Nat} (hw:w∈O):M.Span (O.map (· % 2 ^ ps.length)) (M.tr2 ps (w % 2 ^ ps.length) (w>>>ps.length)):=by
 obtain⟨j,S,h⟩:=f.ex;exact S.done h ((S.b _ (M.tr2_lt _ _ _)).mp (S.w.ev w hw).2)
theorem Fev.first {ps os:A'} {m:Nat} {bars O:D8} (f:Fev ps os m bars O) {u:Nat} (hu:∀b∈bars,M.od (b&&&M.tr2 ps 0 u)=false):M.Span (O.map (· % 2 ^ ps.length)) (M.tr2 ps 0 u):=by
 obtain⟨j,S,h⟩:=f.ex;exact S.done h ((S.b _ (M.tr2_lt _ _ _)).mp hu)
theorem Fev.tells {ps os:A'} {m:Nat} {bars O:D8} (f:Fev ps os m bars O) (h0:∀u,u < 2 ^ m->M.tr2 os 0 u=0->(∀b∈bars,M.od (b&&&M.tr2 ps 0 u)=false)->u=0) {rs:D8} (hl:ps.length < rs.length) (Y:∀r∈rs,r < 2 ^ m) (h:M.wan ps os 0 rs=eH rs.length 0):rs.getD 0 0=0:=by
 obtain⟨j,S,_⟩:=f.ex;exact M.not_silent S.le S.b h0 hl Y h
noncomputable def fsts (ps os:A') (m:Nat) (bars:D8):D8:=M.acr (os.map (·.2)++bars.map (M.sm (ps.map (·.2)))) m
structure Nev (H H2:Hp) (t B S I L:fy) (ps os:A') (m u:Nat) (bars ways:D8) (bq:Nat) (ls:f' (fy×Nat)):Prop where
 ht:H2 t=ak (.tup [.str "never",nat u,.ref B,.ref S,.ref I,.ref L])
 hb:H2 B=ak (.lst ((M.pl 1000 bq).map nat))
 hs:H2 S=ak (.lst ((ways.map (· % 2 ^ ps.length)).map nat))
 hi:H2 I=ak (.lst ((ways.map (·>>>ps.length)).map nat))
 hl:H2 L=ak (.lst (ls.map λq=>V.ref q.1))
 el:∀q∈ls,H2 q.1=ak (.lst ((M.pl 1000 q.2).map nat))
 fB:H B=none
 fS:H S=none
 fI:H I=none
 fL:H L=none
 ne:[B,S,I,L].Nodup
 nl:∀q∈ls,q.1∉[B,S,I,L]
 fev:Fev ps os m bars ways
 hu:(fsts ps os m bars)[0]? =ak u
 u0:u≠0
 ul:u < 2 ^ m
 ev:M.tr2 os 0 u=0/\∀b∈bars,M.od (b&&&M.tr2 ps 0 u)=false
 bs:Sumd (ways.map (· % 2 ^ ps.length)) (M.tr2 ps 0 u) bq
 ll:ls.length=ways.length
 ss:∀(k w:Nat) (q:fy×Nat),ways[k]? =ak w->ls[k]? =ak q->Sumd (ways.map (· % 2 ^ ps.length)) (M.tr2 ps (w % 2 ^ ps.length) (w>>>ps.length)) q.2
def ya (C:fy):Sp:=λvs H Q _=>∃(p:fy) (m:Nat) (nx os:f' Pr3),vs=[.ref p]/\MaA H C p m nx os/\MaG m nx os/\nx.length<=16/\
 (∀(H2:Hp) (bars O:D8),Same H H2->Fev @E @G m bars O->(∀u,u < 2 ^ m->M.tr2 @G 0 u=0->(∀b∈bars,M.od (b&&&M.tr2 @E 0 u)=false)->u=0)->Q .non H2)/\
 (∀(H2:Hp) (t B S I L:fy) (u:Nat) (bars O:D8) (Y:Nat) (ls:f' (fy×Nat)),Same H H2->Nev H H2 t B S I L @E @G m u bars O Y ls->Q (.ref t) H2)
end Sx
namespace M
theorem vK (w:Nat) (b:D8):∀a:D8,pkw w (a++b)=pkw w a^^^(pkw w b <<< (a.length * w))
 | []=>by show pkw w b=0^^^(pkw w b <<< (0 * w));simp
 | q::a=>by
   show q^^^(pkw w (a++b) <<< w)=q^^^(pkw w a <<< w)^^^(pkw w b <<< ((a.length + 1) * w));rw[vK w b a,vA,Ke,<-Qu,LK,Mb]
theorem vJ (w:Nat):∀t,pkw w (eH t 0)=0
 | 0=>rfl
 | t + 1=>by show 0^^^(pkw w (eH t 0) <<< w)=0;rw[vJ w t];simp
theorem wW (w:Nat) (l:D8) (t:Nat):pkw w (eH t 0++l)=pkw w l <<< (t * w):=by
 rw[vK,vJ,NX,qq]
theorem Cz {w:Nat} {l:D8} (hb:∀p∈l,p < 2 ^ w) {k:Nat} (hk:k<=l.length):pkw w (l.take k)=pkw w l % 2 ^ (k * w):=by
 have h:=vK w (l.drop k) (l.take k);rw[List.take_append_drop,JW,M7 hk] at h
 have hl:pkw w (l.take k) < 2 ^ (k * w):=by
  have:=pkw_lt (w:=w) (ps:=l.take k) λp O=>hb p (NS O);rwa [JW,M7 hk] at this
 rw[h];exact(Ep hl).symm
theorem yk (i n:Nat):pulse i (n + 1)=2 ^ i::eH n 0:=by
 rw[<-pulse_eq,O2,List.take_replicate,M7 @A]
theorem Ai (w i:Nat) {T:Nat} (hT:0 < T):pkw w (pulse i T)=2 ^ i:=by
 obtain⟨n,rfl⟩:∃n,T=n + 1:=⟨T - 1,@A⟩;rw[yk];show 2 ^ i^^^(pkw w (eH n 0) <<< w)=2 ^ i;rw[vJ];simp
theorem EY {m t i T:Nat} (hi:i < m) (ht:t < T):upk m (2 ^ (t * m + i)) T=eH t 0++pulse i (T - t):=by
 have h:pkw m (eH t 0++pulse i (T - t))=2 ^ (t * m + i):=by
  rw[wW,Ai m i @A,Kf,<-Mw,Mz]
 rw[<-h];refine oq (by rw[gw,qq,pulse_len];omega) λr O=>?_;rcases px.mp O with h | h
 ·rw[K5 h];exact kb _
 ·exact pulse_lt hi _ r h
section
variable {ps os:A'} {m T:Nat}
theorem GE {t i:Nat} (hi:i < m) (ht:t < T):(tol ps os m T).getD (t * m + i) 0=(pkw os.length (wan ps os 0 (pulse i T)) <<< (t * os.length)) % 2 ^ (T * os.length):=by
 have hk:t * m + i < T * m:=by
  have:=LC m (show t + 1<=T from ht);rw[LK,Mb] at this;omega
 unfold tol;rw[eh,ic,Lc hk];show pkw os.length (wan ps os 0 (upk m (2 ^ (t * m + i)) T))=_;rw[EY hi ht,rG,wW,<-yj (n:=T) (k:=T - t) @A,rF,Cz (λp O=>wan_lt ps os _ 0 p O) (by rw[wan_len,pulse_len];omega)];rw[Kf,Kf,<-Nat.mul_mod_mul_right,<-Mw];congr 2;rw[<-LK];congr 1;omega
theorem B1 {l:D8} {a b:Nat} (h:a + b<=l.length):l.take (a + b)=l.take a++(lB b).map λi=>l.getD (a + i) 0:=by
 rw[List.take_add];congr 1;refine O1 (by rw[JW,Ml,cY,u2];omega) λi h1 h2=>?_;rw[cY,u2] at h2;rw[MD,Qm,Na,Q9,eh,gs @A];rfl
theorem tol_next {t:Nat} (ht:t < T):(tol ps os m T).take ((t + 1) * m)=(tol ps os m T).take (t * m)++(lB m).map λi=>(pkw os.length (wan ps os 0 (pulse i T)) <<< (t * os.length)) % 2 ^ (T * os.length):=by
 have hk:t * m + m<=T * m:=by
  have:=LC m (show t + 1<=T from ht);rw[LK,Mb] at this;exact this
 rw[LK,Mb,B1 (by rw[tol_len];exact hk)];congr 1;refine Lb λi hi=>?_;exact GE (zx.mp hi) ht
end
end M
namespace Sx
open PySem L2
def x8 (C:fy):Sp:=λvs H Q _=>∃(p:fy) (m:Nat) (nx os:f' Pr3) (T:Nat),vs=[.ref p,nat T]/\MaA H C p m nx os/\MaG m nx os/\T<=17/\
 ∀(D:fy) (H2:Hp),H D=none->Same H H2->H2 D=ak (.lst ((M.tol @E @G m T).map nat))->Q (.ref D) H2
end Sx
namespace M
theorem frs_set {rows:D8} {i q:Nat} (h:Frs (rows.set i 0) q):q.testBit i=false:=by
 cases O:q.testBit i with
 | false=>rfl
 | true=>
   obtain⟨hi,hn⟩:=h i O;rw[M6] at hi;exfalso;apply hn;rw[eh,Mo hi];exact jE _
theorem tol_lt {ps os:A'} {m T:Nat}:∀x∈tol ps os m T,x < 2 ^ (T * os.length):=λx O=>by
 unfold tol at O;obtain⟨k,_,rfl⟩:=ov.mp O;have:=pkw_lt (w:=os.length) (ps:=wan ps os 0 (upk m (2 ^ k) T)) λy Y=>wan_lt ps os _ 0 y Y;rwa [wan_len,upk_len] at this
theorem getD_lt' {l:D8} {W:Nat} (h:∀x∈l,x < 2 ^ W) (i:Nat):l.getD i 0 < 2 ^ W:=by
 rw[eh];cases e:l[i]? with
 | none=>exact kb _
 | some x=>exact h x (hR e)
theorem set_lt {l:D8} {W i:Nat} (h:∀x∈l,x < 2 ^ W):∀x∈l.set i 0,x < 2 ^ W:=λx O=>by
 rcases P4 O with e | e
 ·exact h x e
 ·rw[e];exact kb _
end M
namespace Sx
open PySem L2
def Osm (ps os:A') (m d i:Nat):Prop:=M.Span ((M.tol ps os m (d + 1)).set i 0) ((M.tol ps os m (d + 1)).getD i 0)
def Slt (ps os:A') (m d:Nat) (rs:D8):Prop:=∃i q,i < m/\(∀k,k < i->¬Osm ps os m d k)/\Sumd ((M.tol ps os m (d + 1)).set i 0) ((M.tol ps os m (d + 1)).getD i 0) q/\rs=M.upk m (q^^^2 ^ i) (d + 1)
theorem Slt.osm {ps os:A'} {m d:Nat} {rs:D8} (h:Slt ps os m d rs):∃i,i < m/\Osm ps os m d i:=by
 obtain⟨i,q,hi,hb,sd,rfl⟩:=h;exact⟨i,hi,by unfold Osm;rw[<-sd.sm];exact M.sm_span _ _⟩
theorem Slt.rows {ps os:A'} {m d:Nat} {rs:D8} (h:Slt ps os m d rs):rs.length=d + 1/\(∀r∈rs,r < 2 ^ m)/\M.wan ps os 0 rs=eH (d + 1) 0/\rs.getD 0 0≠0:=by
 obtain⟨i,q,hi,hb,sd,rfl⟩:=h;have lt:=sd.lt;rw[M6,M.tol_len] at lt;have s:=M.silent_of (ps:=ps) (os:=os) (m:=m) (T:=d + 1) @A hi lt (M.frs_set sd.fr) sd.sm;refine⟨M.upk_len _ _ _,M.upk_lt _ _ _,s.1,λz=>?_⟩;have:=s.2;rw[z,z5] at this;cases this
theorem Ia {ps os:A'} {m d:Nat} {μs:D8} (hl:μs.length=m) (h:∀(i μ:Nat),μs[i]? =ak μ->Bard ((M.tol ps os m (d + 1)).set i 0) ((M.tol ps os m (d + 1)).getD i 0) μ):M.Mks ps os m d μs:=
 ⟨hl,λi μ e=>(h i μ e).lt _ (M.set_lt M.tol_lt) (M.getD_lt' M.tol_lt i),λi μ e=>(h i μ e).ev,λi μ e=>(h i μ e).odd⟩
def zE (C:fy):Sp:=λvs H Q _=>∃(p:fy) (m:Nat) (nx os:f' Pr3) (d:Nat),vs=[.ref p,nat d]/\MaA H C p m nx os/\MaG m nx os/\d<=16/\(d + 1) * os.length < 64/\
 (∀(t D:fy) (H2:Hp) (rs:D8),H D=none->Same H H2->H2 t=ak (.tup [.str "silent",.ref D])->H2 D=ak (.lst (rs.map nat))->Slt @E @G m d rs->Q (.ref t) H2)/\
 (∀(t D:fy) (H2:Hp) (μs:D8),H D=none->Same H H2->H2 t=ak (.tup [.str "masks",.ref D])->H2 D=ak (.lst (μs.map nat))->M.Mks @E @G m d μs->(∀i,i < m->¬Osm @E @G m d i)->Q (.ref t) H2)
def zC (C:fy):Sp:=λvs H Q _=>∃(p:fy) (m:Nat) (nx os:f' Pr3) (d μ:Nat),vs=[.ref p,nat d,nat μ]/\MaA H C p m nx os/\MaG m nx os/\nx.length<=16/\d<=16/\(d + 1) * os.length < 64/\μ < 2 ^ ((d + 1) * os.length)/\
 ∀(t:fy) (H2:Hp),Same H H2->H2 t=ak (.tup [nat (M.tel @E @G d μ).1,nat (M.tel @E @G d μ).2])->Q (.ref t) H2
end Sx
namespace M
section
variable {ps os:A'} {d m:Nat}
theorem GF (O:∀q∈ps++os,q.1 < 2 ^ ps.length) {μ:Nat} (Y:μ < 2 ^ ((d + 1) * os.length)):(tel ps os d μ).1 < 2 ^ (ps.length + d * os.length)/\(tel ps os d μ).2 < 2 ^ os.length:=by
 constructor
 ·refine xor_lt_pow (fb (y9 O μ (d + 1)) (gn @C @A)) ?_;rw[Kf,Mz ps.length,Mw];exact OT (Mj _ (kb _)) (kb _)
 ·show μ>>>(d * os.length) < _;rw[so,NM (kb _),<-Mw];rw[LK,Mb] at Y;rwa [Mz os.length]
theorem telO_lt (Z:∀q∈ps++os,q.1 < 2 ^ ps.length) {μs:D8} (Y:∀μ∈μs,μ < 2 ^ ((d + 1) * os.length)):∀q∈telO ps os d μs,q.1 < 2 ^ (ps.length + d * os.length)/\q.2 < 2 ^ os.length:=λq O=>by
 obtain⟨μ,h,rfl⟩:=ov.mp O;exact GF Z (Y μ h)
theorem telP_lt (α:∀q∈ps++os,q.1 < 2 ^ ps.length) {μs:D8} (Y:∀μ∈μs,μ < 2 ^ ((d + 1) * os.length)):∀q∈telP ps os d μs,q.1 < 2 ^ (ps.length + d * os.length)/\q.2 < 2 ^ os.length:=λq O=>by
 have hO:=telO_lt α Y;rcases px.mp O with h | h
 ·obtain⟨r,β,rfl⟩:=ov.mp h;refine⟨xor_lt_pow (fb (α r (ro _ β)) (gn @C @A)) (sm_lt _ λx Z=>?_),sm_lt _ λx Z=>?_⟩
  ·obtain⟨q,O,rfl⟩:=ov.mp Z;exact(hO q O).1
  ·obtain⟨q,O,rfl⟩:=ov.mp Z;exact(hO q O).2
 ·rcases px.mp h with h | h
  ·obtain⟨j,γ,rfl⟩:=ov.mp h;have:=zx.mp γ;exact⟨xv @C @A,kb _⟩
  ·by_cases hd:0 < d
   ·rw[pT hd] at h;obtain⟨k,hk,rfl⟩:=ov.mp h;exact⟨kb _,xv @C (zx.mp hk)⟩
   ·rw[oT hd] at h;cases h
end
end M
namespace Sx
open PySem L2
def Cd:Sp:=λvs H Q _=>∃(t D:fy) (x y:Nat) (ts:f' Pr3),vs=[.ref t,.ref D]/\H t=ak (.tup [nat x,nat y])/\H D=ak (.lst (refs ts))/\Prt H ts/\ts.length<=6/\y < 2 ^ ts.length/\
 ∀(O:fy) (H2:Hp),Same H H2->H2 O=ak (.tup [nat (M.fol (prs ts) (x,y)).1,nat (M.fol (prs ts) (x,y)).2])->Q (.ref O) H2
def zL (C:fy):Sp:=λvs H Q _=>∃(p:fy) (m:Nat) (nx os:f' Pr3) (d:Nat),vs=[.ref p,nat d]/\MaA H C p m nx os/\MaG m nx os/\nx.length<=16/\d<=16/\(d + 1) * os.length < 64/\
 ∀(D:fy) (H2:Hp) (ks:f' Pr3),H D=none->Same H H2->H2 D=ak (.lst (refs ks))->Prt H2 ks->prs ks=M.kpt @E @G d->Q (.ref D) H2
def zD (C:fy):Sp:=λvs H Q _=>∃(p D:fy) (m:Nat) (nx os:f' Pr3) (d:Nat) (μs:D8),vs=[.ref p,nat d,.ref D]/\MaA H C p m nx os/\MaG m nx os/\nx.length<=16/\d<=16/\(d + 1) * os.length < 64/\H D=ak (.lst (μs.map nat))/\M.Mks @E @G m d μs/\
 ∀(x:fy) (H2:Hp) (O ξ:f' Pr3),Same H H2->MaA H2 C x os.length O ξ->MaG os.length O ξ->prs O=M.telP @E @G d μs->prs ξ=M.telO @E @G d μs->Q (.ref x) H2
structure Bck (ps os:A') (m d:Nat) (μs rs:D8):Prop where
 mks:M.Mks ps os m d μs
 le:d<=ps.length
 no:∀i,i < m->¬Osm ps os m d i
 yes:∀k,k < d->∃i,i < m/\Osm ps os m k i
 rows:(d=0/\rs=[])∨∃k,d=k + 1/\Slt ps os m k rs
def x4 (C:fy):Sp:=λvs H Q _=>∃(p:fy) (m:Nat) (nx os:f' Pr3),vs=[.ref p]/\MaA H C p m nx os/\MaG m nx os/\nx.length<=16/\(nx.length + 1) * os.length < 64/\
 (∀(H2:Hp) (t B S I L:fy) (u:Nat) (bars Y:D8) (Z:Nat) (ls:f' (fy×Nat)),Same H H2->Nev H H2 t B S I L @E @G m u bars Y Z ls->Q (.ref t) H2)/\
 (∀(t x D:fy) (H2:Hp) (d:Nat) (O ξ:f' Pr3) (μs rs:D8),H D=none->Same H H2->H2 t=ak (.tup [.str "back",nat d,.ref x,.ref D])->H2 D=ak (.lst (rs.map nat))->MaA H2 C x os.length O ξ->MaG os.length O ξ->prs O=M.telP @E @G d μs->prs ξ=M.telO @E @G d μs->Bck @E @G m d μs rs->Q (.ref t) H2)
def TbI (H:Hp) (p:fy) (nx os:f' Pr3) (m d:Nat) (σ:St) (H':Hp):Prop:=∃(Y t D:fy) (rs:D8),σ=[ak (.ref p),ak .non,ak (.ref Y),ak (nat d),ak (.ref t)]/\d<=nx.length/\Same H H'/\H Y=none/\H' Y=ak (.lst (rs.map nat))/\((d=0/\rs=[])∨∃k,d=k + 1/\Slt @E @G m k rs)/\(∀k,k < d->∃i,i < m/\Osm @E @G m k i)/\H D=none/\
 ((∃O,H' t=ak (.tup [.str "silent",.ref D])/\H' D=ak (.lst (O.map nat))/\Slt @E @G m d O/\d < nx.length)∨(∃μs,H' t=ak (.tup [.str "masks",.ref D])/\H' D=ak (.lst (μs.map nat))/\M.Mks @E @G m d μs/\∀i,i < m->¬Osm @E @G m d i))
theorem DZ {ps os:A'} {m d:Nat} {rs bars O:D8} (s:Slt ps os m d rs) (fv:Fev ps os m bars O) (h0:∀u,u < 2 ^ m->M.tr2 os 0 u=0->(∀b∈bars,M.od (b&&&M.tr2 ps 0 u)=false)->u=0):d < ps.length:=by
 obtain⟨hl,hb,hw,hn⟩:=s.rows;by_cases h:d < ps.length
 ·exact h
 ·exact kf (fv.tells h0 @A hb (by rw[hl];exact hw)) hn
theorem EB (a b:JY):M.bn a^^^M.bn b=M.bn (a^^b):=by cases a<;>cases b<;>rfl
theorem BY {ps:f' Pr3} {i:Nat} {q:Pr3} (x y:Nat) (h:ps[i]? =ak q):M.tr2 (prs (ps.take i)) x y||| (M.bn (M.od (q.2.1&&&x))^^^M.bn (M.od (q.2.2&&&y))) <<< i=M.tr2 (prs (ps.take (i + 1))) x y:=by
 rw[zo x y h,EB]
 have hl:M.tr2 (prs (ps.take i)) x y < 2 ^ i:=by
  have:=M.tr2_lt (prs (ps.take i)) x y;rw[aq,JW,M7 (KA (dt.mp h).1)] at this;exact this
 cases(M.od (q.2.1&&&x)^^M.od (q.2.2&&&y)) with
 | false=>simp[M.bn]
 | true=>
   have O:=MW hl 1;rw[Nat.mul_one] at O;show _||| 1 <<< i=_ + 2 ^ i;rw[Qv,Q1,<-O,Mz]
def vw (K:bp) (C:fy):Sp:=λvs H Q _=>∃(t n o:fy) (m:Nat) (nx os:f' Pr3) (f x D:fy) (d:Nat) (O ξ:f' Pr3) (μs rs:D8) (c:fy) (ω:I9),vs=[.ref t,.ref f,.ref c]/\TabT H t n o m nx os/\H f=ak (.tup [.str "back",nat d,.ref x,.ref D])/\H D=ak (.lst (rs.map nat))/\MaA H C x os.length O ξ/\MaG os.length O ξ/\prs O=M.telP @E @G d μs/\prs ξ=M.telO @E @G d μs/\Bck @E @G m d μs rs/\nx.length<=16/\(nx.length + 1) * os.length < 64/\H c=ak (.lst (ω.map V.int))/\ω.length<=63/\∀H2,Same H H2->Q (.bl true) H2
def zI (K:bp):Sp:=λvs H Q _=>∃(t n o r:fy) (m:V) (nx os:f' Pr3) (rs:D8),vs=[.ref t,.ref r]/\H t=ak (.tup [m,.ref n,.ref o])/\SqL K H n (refs nx)/\SqL K H o (refs os)/\Prt H nx/\Prt H os/\nx.length<=120/\os.length<=120/\H r=ak (.lst (rs.map nat))/\rs.length<=63/\(∀x∈rs,x < 2 ^ 64)/\
 ∀(D:fy) (H2:Hp),H D=none->Same H H2->H2 D=ak (.lst ((M.wan @E @G 0 rs).map nat))->Q (.ref D) H2
def vt:Sp:=λvs H Q _=>∃x b:Nat,vs=[nat x,.int b]/\Q (.bl (decide (x<=b))) H
def yb:Sp:=λvs H Q _=>∃(S p:fy) (ss ps:D8),vs=[.ref S,.ref p]/\H S=ak (.lst (ss.map nat))/\H p=ak (.lst (ps.map nat))/\(∀k∈ps,k < ss.length)/\Q (nat (M.xs ss ps)) H
def tT:Sp:=λvs H Q _=>∃(p:fy) (ps:D8) (n:Nat),vs=[.ref p,nat n]/\H p=ak (.lst (ps.map nat))/\ps.Pairwise (· < ·)/\(∀k∈ps,k < n)/\n<=32/\∀H2,Same H H2->Q (.bl true) H2
theorem Bck.rws {ps os:A'} {m d:Nat} {μs rs:D8} (b:Bck ps os m d μs rs):rs.length=d/\(∀r∈rs,r < 2 ^ m)/\M.wan ps os 0 rs=eH d 0/\rs.take 1≠[0]:=by
 rcases b.rows with ⟨rfl,rfl⟩ | ⟨k,rfl,s⟩
 ·exact⟨rfl,λr h=>kf h @F,rfl,@F⟩
 ·obtain⟨a1,a2,ε,δ⟩:=s.rows;refine⟨a1,a2,ε,λh=>δ ?_⟩;cases rs with
  | nil=>simp at h
  | cons x rs=>simp at h;simpa using h
theorem xW {ps os:A'} {d:Nat} {μs:D8}:(M.telO ps os d μs).length=μs.length:=by unfold M.telO;rw[cY]
theorem xV {ps os:A'} {d:Nat} {μs:D8}:(M.telP ps os d μs).length<=ps.length + (d + 1) * os.length:=by
 unfold M.telP M.kpt;rw[gw,cY,gw,cY,u2];have:(d + 1) * os.length=d * os.length + os.length:=NY ..
 split
 ·rw[cY,u2];omega
 ·simp only[QL];omega
theorem wg {l O:D8} (h:eqVs (l.map nat) (O.map nat)=true):l=O:=by
 unfold eqVs at h;rw[Kb,LR,cY,cY,MQ] at h;refine O1 h.1 λi h1 h2=>?_;have:=h.2 i (zx.mpr h1);rw[eh,eh,ic,ic,gs h1,gs h2] at this;have hi:((l[i]:Nat):Int)=O[i]:=by simpa[eqV] using this
 exact NG hi
theorem Fl {K:bp} {H:Hp} {Q:VK} {p q:fy} {ns ms:D8} (e:SqL K H p (ns.map nat)) (O:SqL K H q (ms.map nat)) (n:ns≠ms) (h:Q (.bl false) H):rEqL K false (.ref p) (.ref q) H Q:=by
 refine⟨p,q,_,_,rfl,rfl,e,O,jS ns,jS ms,?_⟩;rw[Qn.mpr λh=>n (wg h)];exact h
theorem Gi (rs:D8):cutV (rs.map nat) none (ak 1)=(rs.take 1).map nat:=by
 cases rs with
 | nil=>rfl
 | cons x rs=>rw[show(1:Int)=((1:Nat):Int) from rfl,sZ _ _ @F,Mx]
noncomputable def low (c:Nat):Bool:=decide (97<=c)&&decide (c<=122)
noncomputable def fig (c:Nat):Bool:=decide (48<=c)&&decide (c<=57)
noncomputable def nm (l:D8):Bool:=match l with
 | []=>false
 | c::r=>decide ((c::r).length<=6)&&low c&&(c::r).all λc=>low c||fig c
def Nm (z:J9):Prop:=nm z.cps.toList=true
structure Nt where
 ins:C'
 sums:f' (J9×f' J9)
 sts:f' (J9×J9)
 outs:C'
noncomputable def Nt.names (N:Nt):C':=N.ins++N.sums.map (·.1)++N.sts.map (·.1)
structure Gn (N:Nt):Prop where
 li:N.ins.length<=6
 ls:N.sums.length<=40
 lt:N.sts.length<=16
 lo:N.outs.length<=6
 lw:∀r∈N.sums,r.2.length<=24
 nm:∀z∈N.names,Nm z
 nd:N.names.Nodup
 ws:∀r∈N.sums,∀z∈r.2,z∈N.names
 ts:∀r∈N.sts,r.2∈N.names
 os:∀z∈N.outs,z∈N.names
 rk:∃rank:J9->Nat,∀r∈N.sums,∀z∈r.2,z∈N.sums.map (·.1)->rank z < rank r.1
structure Topo (sums:f' (J9×f' J9)) (od:C'):Prop where
 perm:od.Perm (sums.map (·.1))
 need:∀(i:Nat) z,od[i]? =ak z->∀ws,(z,ws)∈sums->∀y∈ws,y∈sums.map (·.1)->y∈od.take i
noncomputable abbrev Rw:=fy×fy×J9×f' J9
noncomputable abbrev Qs:=fy×J9×J9
structure Hnd (H:Hp) (i s t o:fy) (rs:f' Rw) (qs:f' Qs) (N:Nt):Prop where
 i:H i=ak (.lst (N.ins.map V.str))
 s:H s=ak (.lst (rs.map λr=>V.ref r.1))
 sr:∀r∈rs,H r.1=ak (.tup [.str r.2.2.1,.ref r.2.1])/\H r.2.1=ak (.lst (r.2.2.2.map V.str))
 es:rs.map (·.2.2)=N.sums
 t:H t=ak (.lst (qs.map λq=>V.ref q.1))
 tr:∀q∈qs,H q.1=ak (.tup [.str q.2.1,.str q.2.2])
 et:qs.map (·.2)=N.sts
 o:H o=ak (.lst (N.outs.map V.str))
structure Kpt (H:Hp) (i s t o:fy) (rs:f' Rw) (qs:f' Qs) (N:Nt):Prop where
 i:H i=ak (.tup (N.ins.map V.str))
 s:H s=ak (.tup (rs.map λr=>V.ref r.1))
 sr:∀r∈rs,H r.1=ak (.tup [.str r.2.2.1,.ref r.2.1])/\H r.2.1=ak (.tup (r.2.2.2.map V.str))
 es:rs.map (·.2.2)=N.sums
 t:H t=ak (.tup (qs.map λq=>V.ref q.1))
 tr:∀q∈qs,H q.1=ak (.tup [.str q.2.1,.str q.2.2])
 et:qs.map (·.2)=N.sts
 o:H o=ak (.tup (N.outs.map V.str))
inductive Wob (H:Hp) (CI CS CT:fy) (N:Nt) (z:J9) (w:fy):Prop where
 | i (k:Nat) (dx:fy) (hk:N.ins[k]? =ak z) (e:H w=ak (.ins CI dx [("name",.str z),("number",nat k)])):Wob H CI CS CT N z w
 | s (ws:C') (dx tw:fy) (hk:(z,ws)∈N.sums) (e:H w=ak (.ins CS dx [("name",.str z),("wires",.ref tw)])) (et:H tw=ak (.tup (ws.map V.str))):Wob H CI CS CT N z w
 | t (k:Nat) (y:J9) (dx:fy) (hk:N.sts[k]? =ak (z,y)) (e:H w=ak (.ins CT dx [("name",.str z),("wire",.str y),("number",nat k)])):Wob H CI CS CT N z w
structure WiA (H:Hp) (CI CS CT d:fy) (N:Nt) (ws:J3):Prop where
 d:H d=ak (.dK (ws.map λq=>(Nu q.1,V.ref q.2)))
 nm:ws.map (·.1)=N.names
 ob:∀q∈ws,Wob H CI CS CT N q.1 q.2
structure WL (H0 H:Hp) (CI CS CT:fy) (N:Nt) (D:fy) (ys:f' V) (zs:C') (ws:J3):Prop where
 ey:ys=ws.map λq=>V.ref q.2
 nm:ws.map (·.1)=zs
 ob:∀q∈ws,Wob H CI CS CT N q.1 q.2
 same:Same H0 H
 d:H D=ak (.lst ys)
structure Otp (sums:f' (J9×f' J9)) (od:C') (lf:f' (J9×f' J9)):Prop where
 perm:(od++lf.map (·.1)).Perm (sums.map (·.1))
 sub:∀r∈lf,r∈sums
 need:∀(i:Nat) z,od[i]? =ak z->∀ws,(z,ws)∈sums->∀y∈ws,y∈sums.map (·.1)->y∈od.take i
structure NetA (H:Hp) (C CI CS CT p:fy) (N:Nt) (od:C'):Prop where
 ho:∃(dx i s t o d tq:fy) (rs:f' Rw) (qs:f' Qs) (ws:J3),H p=ak (.ins C dx [("ins",.ref i),("sums",.ref s),("kept_stores",.ref t),("outs",.ref o),("by_name",.ref d),("sum_order",.ref tq)])/\Kpt H i s t o rs qs N/\WiA H CI CS CT d N ws/\H tq=ak (.tup (od.map V.str))
 g:Gn N
 tp:Topo N.sums od
def RwK (H:Hp) (rs:f' Rw):Prop:=∀r∈rs,H r.1=ak (.tup [.str r.2.2.1,.ref r.2.1])/\H r.2.1=ak (.tup (r.2.2.2.map V.str))
def QsK (H:Hp) (qs:f' Qs):Prop:=∀q∈qs,H q.1=ak (.tup [.str q.2.1,.str q.2.2])
noncomputable def xb (f:J1) (ws:C'):Bool:=ws.foldl (λa w=>a^^f w) false
structure Val (N:Nt) (row st:Nat) (f:J1):Prop where
 i:∀(k:Nat) z,N.ins[k]? =ak z->f z=row.testBit k
 t:∀(k:Nat) z y,N.sts[k]? =ak (z,y)->f z=st.testBit k
 s:∀z ws,(z,ws)∈N.sums->f z=xb f ws
noncomputable def fv (N:Nt) (τ st:Nat):J1:=Pw (Val N τ st)
noncomputable def need (N:Nt) (od:C'):C':=N.ins++N.sts.map (·.1)++od
structure Pre (N:Nt) (row st:Nat) (pre:C') (f:J1):Prop where
 i:∀(k:Nat) z,N.ins[k]? =ak z->z∈pre->f z=row.testBit k
 t:∀(k:Nat) z y,N.sts[k]? =ak (z,y)->z∈pre->f z=st.testBit k
 s:∀z ws,(z,ws)∈N.sums->z∈pre->f z=xb f ws/\∀w∈ws,w∈pre
structure Bt (N:Nt) (row st:Nat) (pre:C') (f:J1) (z:J9) (v:JY):Prop where
 i:∀k:Nat,N.ins[k]? =ak z->v=row.testBit k
 t:∀(k:Nat) y,N.sts[k]? =ak (z,y)->v=st.testBit k
 s:∀ws,(z,ws)∈N.sums->v=xb f ws/\∀w∈ws,w∈pre
section
variable {N:Nt} (g:Gn N)
include g
variable {od:C'} (tp:Topo N.sums od)
include tp
end
noncomputable abbrev NP:=Hp->fy->Nt->C'->Prop
structure RunA (NA:NP) (H:Hp) (C p l n:fy) (N:Nt) (od:C') (st:Nat) (as:D8):Prop where
 ho:∃(dx d:fy),H p=ak (.ins C dx [("net",.ref n),("held",nat st),("bits",.ref d),("given",.ref l)])
 hl:H l=ak (.lst (as.map nat))
 na:NA H n N od
def K2 (p l:fy) (H H2:Hp):Prop:=∀b ob,b≠p->b≠l->H b=ak ob->H2 b=ak ob
noncomputable def mixV (c k:Int):Int:=((c % 2147483647 * 48271 + 7919 * k + 11) % 2147483647 * ((c % 2147483647 * 48271 + 7919 * k + 11) % 2147483647) % 2147483629) * ((c % 2147483647 * 48271 + 7919 * k + 11) % 2147483647 * ((c % 2147483647 * 48271 + 7919 * k + 11) % 2147483647) % 2147483629 + 48271 * k + 7) % 2147483587
noncomputable def EU:Str:=("cut x x0 x1 fresh new zero none nil tmp c c0 cut0 cut1 gnd off in out sum store":J9)++(" i0 i1 s0 s1 n0 n1 o0 o1 net wire a b z y0 t0 w w0 k dead open":J9)
noncomputable def W40:C':=Txt.split EU " "
noncomputable def tx (n:Nat):Str:=(toString (n:Int):Kr)
noncomputable def nmf (c k:Int):Str:=if mixV c 402 % 2=0 then W40.getD ((k + mixV c 403) % 40).toNat "" else (⟨#[97 + (mixV c 400 % 26).toNat]⟩:J9)++tx ((mixV c 401 % 1000).toNat + 37 * k.toNat)
noncomputable def nms (c:Int) (a n:Nat):C':=(lB n).map λk=>nmf c ((a + k:Nat):Int)
structure Mk (c:Int) (ni nt:Nat) (rows:f' (J9×f' J9)):Prop where
 nm:rows.map (·.1)=nms c 22 rows.length
 ws:∀(k:Nat) r,rows[k]? =ak r->r.2.length<=4/\∀w∈r.2,w∈nms c 0 ni++nms c 6 nt++nms c 22 k
noncomputable def xf (f:J9->Nat) (ws:C'):Nat:=ws.foldl (λa w=>a^^^f w) 0
structure Hng (N:Nt) (p:J9->Nat×Nat):Prop where
 i:∀(k:Nat) z,N.ins[k]? =ak z->p z=(0,2 ^ k)
 t:∀(k:Nat) z y,N.sts[k]? =ak (z,y)->p z=(2 ^ k,0)
 s:∀z ws,(z,ws)∈N.sums->p z=(xf (λw=>(p w).1) ws,xf (λw=>(p w).2) ws)
noncomputable def hgp (N:Nt) (z:J9):Nat×Nat:=(M.pk (λk=>fv N 0 (2 ^ k) z) 0 N.sts.length,M.pk (λk=>fv N (2 ^ k) 0 z) 0 N.ins.length)
section
variable {N:Nt} (g:Gn N) {od:C'} (tp:Topo N.sums od) {p:J9->Nat×Nat} (h:Hng N p)
include g tp h
end
structure Hgd (H:Hp) (d:fy) (N:Nt) (zs:C') (hs:J3):Prop where
 d:H d=ak (.dK (hs.map λq=>(Nu q.1,V.ref q.2)))
 nm:hs.map (·.1)=zs
 ob:∀q∈hs,H q.2=ak (.tup [nat (hgp N q.1).1,nat (hgp N q.1).2])
structure Sml (m:Nat) (ps os:A'):Prop where
 m6:m<=6
 lp:ps.length<=16
 lo:os.length<=6
 bn:∀q∈ps++os,q.1 < 2 ^ ps.length/\q.2 < 2 ^ m
section
variable {m:Nat} {ps os:A'} (b:Sml m ps os)
include b
end
section
variable {m:Nat} {ps os:A'} (b:Sml m ps os)
include b
end
structure Sgl (H:Hp) (D:fy) (ds:I4) (ps os:A') (n m:Nat):Prop where
 d:H D=ak (.lst (ds.map V.ref))
 len:ds.length=m
 at':∀(w:Nat) (d:fy),ds[w]? =ak d->H d=ak (.lst ((M.wan ps os 0 (M.pulse w n)).map nat))
structure TldA (H:Hp) (t D1 D2 D3 D4:fy) (rs:f' Rw) (qs:f' Qs) (N:Nt):Prop where
 t:H t=ak (.tup [.ref D1,.ref D2,.ref D3,.ref D4])
 i:H D1=ak (.lst (N.ins.map V.str))
 s:H D2=ak (.lst (rs.map λr=>V.ref r.1))
 sr:RwK H rs
 es:rs.map (·.2.2)=N.sums
 st:H D3=ak (.lst (qs.map λr=>V.ref r.1))
 tr:QsK H qs
 et:qs.map (·.2)=N.sts
 o:H D4=ak (.lst (N.outs.map V.str))
noncomputable def J (c:Nat):f' D8->D8
 | []=>[]
 | [x]=>x
 | x::y::r=>x++c::J c (y::r)
inductive Fm:C'->Prop where
 | i (z:J9) (h:Nm z):Fm ["in",z]
 | o (z:J9) (h:Nm z):Fm ["out",z]
 | s (z:J9) (ws:C') (h:Nm z) (hw:∀w∈ws,Nm w) (l:ws.length<=24):Fm ("sum"::z::"="::ws)
 | t (z y:J9) (h:Nm z) (hy:Nm y):Fm ["store",z,"=",y]
end Sx
namespace M
end M
namespace Sx
open PySem L2
end Sx
namespace M
theorem few_ins {ps os:A'} {m d:Nat} {μs:D8} (M:Mks ps os m d μs) (α:∀q∈ps++os,q.1 < 2 ^ ps.length) (hn:ps.length + (d + 1) * os.length<=1000) (ho:os.length<=1000) (hm:m<=1000):m<=os.length:=by
 have inj:∀(T:Nat) (q δ:Nat),q < 2 ^ (T * m)->δ < 2 ^ (T * m)->wan ps os 0 (upk m q T++eH d 0)=wan ps os 0 (upk m δ T++eH d 0)->q=δ:=by
  intro T q δ ζ Y e
  have hb:∀q,∀u∈upk m q T++eH d 0,u < 2 ^ m:=λq u hu=>by
   rcases px.mp hu with h | h
   ·exact upk_lt m q T u h
   ·rw[K5 h];exact kb _
  have h1:=told_back M α hn ho hm (hb q);have h2:=told_back M α hn ho hm (hb δ);rw[e,h2] at h1;have hl:∀q,(upk m q T++eH d 0).length=T + d:=λq=>by rw[gw,upk_len,qq]
  have ht:∀q,(eH d 0++(upk m q T++eH d 0)).take (T + d)=eH d 0++upk m q T:=λq=>by
   rw[<-LM];exact List.take_left' (by rw[gw,qq,upk_len,Mz])
  rw[hl,hl,ht,ht] at h1;have β:=List.append_cancel_left h1;rw[<-rW m T q ζ,<-rW m T δ Y,β]
 have cnt:∀T,T * m<=(T + d) * os.length:=by
  intro T
  have nd:((lB (2 ^ (T * m))).map λq=>pkw os.length (wan ps os 0 (upk m q T++eH d 0))).Nodup:=by
   rw[vr,MB];refine Of ?_ N9;intro a b ha hb Z e;have γ:=wan_len ps os (upk m a T++eH d 0) 0;have lb:=wan_len ps os (upk m b T++eH d 0) 0;have h1:=oq (w:=os.length) γ (λr O=>wan_lt ps os _ 0 r O);have h2:=oq (w:=os.length) lb (λr O=>wan_lt ps os _ 0 r O);have hl:∀q,(upk m q T++eH d 0).length=T + d:=λq=>by rw[gw,upk_len,qq]
   rw[hl] at h1 h2;exact Z (inj T a b (zx.mp ha) (zx.mp hb) (by rw[<-h1,<-h2,e]))
  have:=sg (2 ^ ((T + d) * os.length)) _ nd λx ε=>by
   obtain⟨q,_,rfl⟩:=ov.mp ε;have:=pkw_lt (w:=os.length) (ps:=wan ps os 0 (upk m q T++eH d 0)) (λr O=>wan_lt ps os _ 0 r O);rw[wan_len,gw,upk_len,qq] at this;exact this
  rw[cY,u2] at this;exact(Pm @C).mp this
 by_cases h:m<=os.length
 ·exact h
 ·have h1:=cnt (d * os.length + 1);have h2:(d * os.length + 1) * (os.length + 1)<=(d * os.length + 1) * m:=O8 _ @A;rw[Pb] at h2;have β:(d * os.length + 1 + d) * os.length=(d * os.length + 1) * os.length + d * os.length:=LK ..
  omega
end M
namespace Sx
open PySem L2
def tU:Sp:=λvs H Q _=>∃(t n o:fy) (m:Nat) (nx os:f' Pr3) (α:Hp) (f B S I L:fy) (u:Nat) (bars O:D8) (Y:Nat) (ls:f' (fy×Nat)),vs=[.ref t,.ref f]/\TabT H t n o m nx os/\nx.length<=16/\Nev α H f B S I L @E @G m u bars O Y ls/\∀H2,Same H H2->Q (.bl true) H2
theorem Fev.rows {ps os:A'} {m:Nat} {bars O:D8} (f:Fev ps os m bars O):∀(j x:Nat),M.Span (O.map (· % 2 ^ ps.length)) x->∃rs:D8,rs.length=j/\(∀r∈rs,r < 2 ^ m)/\M.wan ps os x rs=eH j 0
 | 0,x,_=>⟨[],rfl,λr h=>kf h @F,rfl⟩
 | j + 1,x,h=>by
   obtain⟨k,S,hk⟩:=id f.ex;obtain⟨_,u,hu,Z,hb⟩:=(S.w.span x).mp h;obtain⟨rs,a1,a2,ε⟩:=Fev.rows f j (M.tr2 ps x u) (S.done hk ((S.b _ (M.tr2_lt _ _ _)).mp hb));refine⟨u::rs,by rw[ub,a1],λr Y=>?_,?_⟩
   ·rcases rz.mp Y with e | e
    ·rw[e];exact hu
    ·exact a2 r e
   ·show M.tr2 os x u::M.wan ps os (M.tr2 ps x u) rs=_;rw[Z,ε];rfl
end Sx
namespace M
structure Chn (ps po:A') (m:Nat) (sz rw:Nat->Nat) (pos:Nat->Nat->Nat):Prop where
 len:po.length=m
 lt:∀w k,w < m->k < sz w->pos w k < ps.length/\pos w k < 1000
 p0:∀w,w < m->0 < sz w->∃b,ps[pos w 0]? =ak (b,rw w)/\∀j,b.testBit j=true->∃k,k < sz w/\j=pos w k
 pk:∀w k,w < m->k + 1 < sz w->ps[pos w (k + 1)]? =ak (2 ^ pos w k,0)
 o0:∀w,w < m->sz w=0->po[w]? =ak (0,rw w)
 ok:∀w,w < m->0 < sz w->po[w]? =ak (2 ^ pos w (sz w - 1),0)
variable {ps po:A'} {m:Nat} {sz rw:Nat->Nat} {pos:Nat->Nat->Nat}
theorem kC {qs:A'} {i:Nat} {q:Nat×Nat} (h:qs[i]? =ak q) (x r:Nat):(tr2 qs x r).testBit i=(od (q.1&&&x)^^od (q.2&&&r)):=by
 have hl:=(dt.mp h).1;rw[dJ,lh hl,z7,eh,h];rfl
theorem FY {b x:Nat} (h:∀j,b.testBit j=true->x.testBit j=false):od (b&&&x)=false:=by
 have:b&&&x=0:=by
  apply ka;intro j;rw[K4,z5];cases hb:b.testBit j with
  | false=>rfl
  | true=>rw[h j hb];rfl
 rw[this];exact od_zero
theorem Chn.down (C:Chn ps po m sz rw pos) {w:Nat} (hw:w < m) {r:Nat} {rs:D8}:∀k,k < sz w->k<=rs.length->(wst ps 0 ((r::rs).take (k + 1))).testBit (pos w k)=od (rw w&&&r)
 | 0,hk,_=>by
   obtain⟨b,hb,_⟩:=C.p0 w hw hk;show(tr2 ps 0 r).testBit _=_;rw[kC hb,KS,od_zero,Kk]
 | k + 1,hk,hl=>by
   have h1:rs[k]? =ak (rs[k]' @A):=gs @A
   have e:(r::rs).take (k + 1 + 1)=(r::rs).take (k + 1)++[rs[k]' @A]:=by
    rw[O2,O2,Lo,h1];rfl
   rw[e,wst_snoc,kC (C.pk w k hw hk)];show(od (2 ^ pos w k&&&_)^^od (0&&&_))=_;rw[KR,od_zero,za,od_pow (C.lt w k hw @A).2];exact Chn.down C hw k @A @A
theorem Chn.tells (C:Chn ps po m sz rw pos) {w:Nat} (hw:w < m) {r:Nat} {rs:D8} (hl:sz w<=rs.length):(tr2 po (wst ps 0 ((r::rs).take (sz w))) ((r::rs).getD (sz w) 0)).testBit w=od (rw w&&&r):=by
 by_cases O:sz w=0
 ·rw[kC (C.o0 w hw O),O];show(od (0&&&_)^^od (rw w&&&r))=_;rw[KR,od_zero,Kk]
 ·rw[kC (C.ok w hw @A)];show(od (2 ^ pos w (sz w - 1)&&&_)^^od (0&&&_))=_;have:=C.down hw (r:=r) (rs:=rs) (sz w - 1) @A @A;rw[show sz w - 1 + 1=sz w by omega] at this;rw[KR,od_zero,za,od_pow (C.lt w (sz w - 1) hw @A).2,this]
theorem zh {os:A'}:∀{rs:D8} {x t:Nat},t < rs.length->(wan ps os x rs)[t]? =ak (tr2 os (wst ps x (rs.take t)) (rs.getD t 0))
 | r::rs,x,0,_=>rfl
 | r::rs,x,t + 1,h=>by
   show(wan ps os (tr2 ps x r) rs)[t]? =_;rw[zh (by simpa using h)];rfl
theorem Chn.first (C:Chn ps po m sz rw pos) {os:A'} (he:∀x r,tr2 os x r=0->tr2 po x r=0) {r:Nat} {rs:D8} (hs:∀w,w < m->sz w<=rs.length) (hz:wan ps os 0 (r::rs)=eH (rs.length + 1) 0):∀w,w < m->od (rw w&&&r)=false:=λw hw=>by
 have hl:=hs w hw;have h1:=zh (ps:=ps) (os:=os) (rs:=r::rs) (x:=0) (t:=sz w) (by rw[ub];omega);rw[hz,Le,pT @A] at h1;have h2:=he _ _ (mu h1).symm;rw[<-C.tells hw hl,h2,z5]
theorem Chn.late (C:Chn ps po m sz rw pos) {w:Nat} (hw:w < m) {r T:Nat} (ho:∀v,v < m->v≠w->od (rw v&&&r)=false):∀t,t<=T->∀v k,v < m->k < sz v->(v≠w∨t<=k)->(wst ps 0 ((r::eH T 0).take t)).testBit (pos v k)=false
 | 0,_,v,k,_,_,_=>z5 _
 | t + 1,ht,v,k,O,hk,β=>by
   obtain⟨u,hu,e,υ⟩:∃u,(r::eH T 0)[t]? =ak u/\(r::eH T 0).take (t + 1)=(r::eH T 0).take t++[u]/\(v≠w->od (rw v&&&u)=false):=by
    have Y:t < (r::eH T 0).length:=by rw[ub,qq];omega
    refine⟨_,gs Y,by rw[Lo,gs Y];rfl,fun φ=>?_⟩;cases t with
    | zero=>exact ho v O φ
    | succ t=>rw[Pu,Pt,KS];exact od_zero
   rw[e,wst_snoc];cases k with
   | zero=>
     have φ:v≠w:=by rcases β with h | h;exact h;omega
     obtain⟨b,hb,α⟩:=C.p0 v O hk;rw[kC hb];show(od (b&&&_)^^od (rw v&&&u))=false;rw[υ φ,za];refine FY λj δ=>?_;obtain⟨γ,Z,rfl⟩:=α j δ;exact Chn.late C hw ho t @A v γ O Z (.inl φ)
   | succ k=>
     rw[kC (C.pk v k O hk)];show(od (2 ^ pos v k&&&_)^^od (0&&&u))=false;rw[KR,od_zero,za,od_pow (C.lt v k O @A).2];exact Chn.late C hw ho t @A v k O @A (by rcases β with h | h;exact .inl h;exact .inr (by omega))
theorem Chn.quiet (C:Chn ps po m sz rw pos) {os:A'} (he:∀x r,tr2 po x r=0->tr2 os x r=0) {w:Nat} (hw:w < m) {r T:Nat} (hT:T < sz w) (ho:∀v,v < m->v≠w->od (rw v&&&r)=false):wan ps os 0 (r::eH T 0)=eH (T + 1) 0:=by
 refine Ol λt=>?_;by_cases ht:t < T + 1
 ·rw[Le,pT ht,zh (by rw[ub,qq];exact ht)];refine y3 ak (he _ _ ?_);apply ka;intro v;rw[z5];by_cases O:v < m
  ·have hu:v≠w->od (rw v&&&(r::eH T 0).getD t 0)=false:=fun φ=>by
    cases t with
    | zero=>exact ho v O φ
    | succ t=>
      rw[eh,Pn,Le];split<;>(show od (rw v&&&0)=false;rw[KS];exact od_zero)
   by_cases Y:sz v=0
   ·have φ:v≠w:=λe=>by rw[e] at Y;omega
    rw[kC (C.o0 v O Y)];show(od (0&&&_)^^od (rw v&&&_))=false;rw[KR,od_zero,Kk];exact hu φ
   ·rw[kC (C.ok v O @A)];show(od (2 ^ pos v (sz v - 1)&&&_)^^od (0&&&_))=false;rw[KR,od_zero,za,od_pow (C.lt v (sz v - 1) O @A).2];refine C.late hw ho t @A v (sz v - 1) O @A ?_;by_cases e:v=w
    ·subst e;exact .inr @A
    ·exact .inl e
  ·rw[dJ,ia (by rw[C.len];exact O),zt]
 ·rw[L7 (by rw[wan_len,ub,qq];omega),L7 (by rw[qq];omega)]
noncomputable def mvm (pl:D8) (x:Nat):Nat->Nat
 | 0=>0
 | k + 1=>mvm pl x k||| (if x.testBit k then 2 ^ pl.getD k 0 else 0)
theorem si (pl:D8) (x j:Nat):∀n,(mvm pl x n).testBit j=true↔∃k,k < n/\pl.getD k 0=j/\x.testBit k=true
 | 0=>by
   show(0:Nat).testBit j=true↔_;rw[z5];exact⟨λh=>OC h,λ⟨k,h,_⟩=>kf h (J6 k)⟩
 | n + 1=>by
   show(mvm pl x n||| _).testBit j=true↔_;rw[NC,QM,si pl x j n];constructor
   ·rintro(⟨k,h,e,b⟩ | h)
    ·exact⟨k,@A,e,b⟩
    ·by_cases O:x.testBit n=true
     ·rw[pT O,pY,t4] at h;exact⟨n,@A,h,O⟩
     ·rw[oT O,z5] at h;exact OC h
   ·rintro⟨k,h,e,b⟩;by_cases hk:k=n
    ·subst hk;rw[pT b,pY,t4];exact .inr e
    ·exact .inl ⟨k,by omega,e,b⟩
theorem AA {pl:D8} {n i:Nat} (hi:i < n):mvm pl (2 ^ i) n=2 ^ pl.getD i 0:=by
 apply ka;intro j;rw[Li,si,pY,t4];constructor
 ·rintro⟨k,_,e,b⟩;rw[pY,t4] at b;subst b;exact e
 ·exactλe=>⟨i,hi,e,by rw[pY,t4]⟩
theorem CM (pl:D8) (n:Nat):mvm pl 0 n=0:=by
 apply ka;intro j;rw[Li,si,z5];exact⟨λ⟨k,_,_,b⟩=>by rw[z5] at b;exact b,λh=>OC h⟩
structure Ch0 (ps po:A') (m:Nat) (sz rw bk F:Nat->Nat):Prop where
 len:po.length=m
 nx:∀w,w < m->F (w + 1)=F w + sz w
 ll:ps.length=F m
 p0:∀w,w < m->0 < sz w->ps[F w]? =ak (bk w,rw w)/\∀j,(bk w).testBit j=true->F w<=j/\j < F w + sz w
 pk:∀w k,w < m->k + 1 < sz w->ps[F w + (k + 1)]? =ak (2 ^ (F w + k),0)
 o0:∀w,w < m->sz w=0->po[w]? =ak (0,rw w)
 ok:∀w,w < m->0 < sz w->po[w]? =ak (2 ^ (F w + (sz w - 1)),0)
theorem Ch0.le {ps po:A'} {m:Nat} {sz rw bk F:Nat->Nat} (C:Ch0 ps po m sz rw bk F):∀d w,w + d=m->F w<=F m
 | 0,w,h=>by rw[show w=m by omega];exact ru _
 | d + 1,w,h=>by
   have:=C.nx w @A;have:=Ch0.le C d (w + 1) @A;omega
theorem Ch0.lt {ps po:A'} {m:Nat} {sz rw bk F:Nat->Nat} (C:Ch0 ps po m sz rw bk F) {w k:Nat} (hw:w < m) (hk:k < sz w):F w + k < ps.length:=by
 have h1:=C.nx w hw;have h2:=C.le (m - (w + 1)) (w + 1) @A;rw[C.ll];omega
theorem Ch0.turned {ps po:A'} {m:Nat} {sz rw bk F:Nat->Nat} (C:Ch0 ps po m sz rw bk F) {pl:D8} (Z:∀k,k < ps.length->pl.getD k 0 < ps.length) (Y:ps.length<=1000) {qs:A'} (hl:qs.length=ps.length) (hq:∀k q,ps[k]? =ak q->qs[pl.getD k 0]? =ak (mvm pl q.1 ps.length,q.2)):
  Chn qs (po.map λq=>(mvm pl q.1 ps.length,q.2)) m sz rw (λw k=>pl.getD (F w + k) 0) where
 len:=by rw[cY];exact C.len
 lt:=λw k hw hk=>by
  have:=Z _ (C.lt hw hk);exact⟨by rw[hl];exact this,@A⟩
 p0:=λw hw O=>by
  obtain⟨a,b⟩:=C.p0 w hw O;refine⟨_,hq _ _ a,λj α=>?_⟩;obtain⟨k,_,e,hb⟩:=(si pl (bk w) j ps.length).mp α;obtain⟨h1,h2⟩:=b k hb;exact⟨k - F w,@A,by rw[show F w + (k - F w)=k by omega];exact e.symm⟩
 pk:=λw k hw hk=>by
  have:=hq _ _ (C.pk w k hw hk);rw[AA (C.lt hw (show k < sz w by omega))] at this;exact this
 o0:=λw hw O=>by
  rw[ic,C.o0 w hw O];show ak (mvm pl 0 ps.length,rw w)=_;rw[CM]
 ok:=λw hw O=>by
  rw[ic,C.ok w hw O];show ak (mvm pl (2 ^ (F w + (sz w - 1))) ps.length,0)=_;rw[AA (C.lt hw (show sz w - 1 < sz w by omega))]
theorem added_zero {po os:A'} (hl:os.length=po.length) {add:Nat->D8} (h:∀k q,po[k]? =ak q->(∀j∈add k,j < k)/\os[k]? =ak ((add k).foldl (λa j=>(a.1^^^(os.getD j (0,0)).1,a.2^^^(os.getD j (0,0)).2)) q)) (x r:Nat):tr2 os x r=0↔tr2 po x r=0:=by
 have val:∀(l:D8) (q:Nat×Nat),(od ((l.foldl (λa j=>(a.1^^^(os.getD j (0,0)).1,a.2^^^(os.getD j (0,0)).2)) q).1&&&x)^^od ((l.foldl (λa j=>(a.1^^^(os.getD j (0,0)).1,a.2^^^(os.getD j (0,0)).2)) q).2&&&r))=l.foldl (λb j=>b^^(od ((os.getD j (0,0)).1&&&x)^^od ((os.getD j (0,0)).2&&&r))) (od (q.1&&&x)^^od (q.2&&&r)):=by
  intro l
  induction l with
  | nil=>intro q;rfl
  | cons j l ih=>
    intro q;rw[La,La,ih];congr 1;show(od ((q.1^^^_)&&&x)^^od ((q.2^^^_)&&&r))=_;rw[Mc,Mc,od_xor,od_xor];cases od (q.1&&&x)<;>cases od (q.2&&&r)<;>cases od ((os.getD j (0,0)).1&&&x)<;>cases od ((os.getD j (0,0)).2&&&r)<;>rfl
 have α:∀(l:D8) (b:JY),(∀j∈l,(od ((os.getD j (0,0)).1&&&x)^^od ((os.getD j (0,0)).2&&&r))=false)->l.foldl (λb j=>b^^(od ((os.getD j (0,0)).1&&&x)^^od ((os.getD j (0,0)).2&&&r))) b=b:=by
  intro l
  induction l with
  | nil=>intro b _;rfl
  | cons j l ih=>
    intro b hz;rw[La,ih _ λj Z=>hz j (lA _ Z),hz j iv,za]
 have bits:∀qs:A',tr2 qs x r=0↔∀(k:Nat) (q:Nat×Nat),qs[k]? =ak q->(od (q.1&&&x)^^od (q.2&&&r))=false:=λqs=>by
  constructor
  ·intro h k q O;rw[<-kC O,h,z5]
  ·intro h;apply ka;intro k;rw[z5];by_cases hk:k < qs.length
   ·rw[kC (gs hk)];exact h k _ (gs hk)
   ·rw[dJ,ia hk,zt]
 rw[bits,bits]
 have β:∀j,(∀q:Nat×Nat,os[j]? =ak q->(od (q.1&&&x)^^od (q.2&&&r))=false)->(od ((os.getD j (0,0)).1&&&x)^^od ((os.getD j (0,0)).2&&&r))=false:=λj Z=>by
  rw[eh];cases O:os[j]? with
  | none=>show(od (0&&&x)^^od (0&&&r))=false;rw[KR,KR,od_zero];rfl
  | some q=>exact Z q O
 constructor
 ·intro ho k q O;obtain⟨h1,h2⟩:=h k q O;have:=ho k _ h2;rw[val,α _ _ λj Z=>β j fun δ Y=>ho j δ Y] at this;exact this
 ·intro γ k
  induction k using NF with
  | _ k ih=>
    intro q O;have hk:k < po.length:=by have:=(dt.mp O).1;omega
    obtain⟨h1,h2⟩:=h k _ (gs hk);rw[O] at h2;have h2:=mu h2;rw[h2,val,α _ _ λj Z=>β j fun δ Y=>ih j (h1 j Z) δ Y];exact γ k _ (gs hk)
end M
namespace Sx
open PySem L2
def vv:Sp:=λvs H Q _=>∃(x:Nat) (p:fy) (pl:D8),vs=[nat x,.ref p]/\H p=ak (.lst (pl.map nat))/\pl.length<=16/\(∀v∈pl,v<=1000)/\∀H2,Same H H2->Q (nat (M.mvm pl x pl.length)) H2
theorem DH (x k v:Nat):((x>>>k)&&&1) <<< v=if x.testBit k then 2 ^ v else 0:=by
 rw[Qk];by_cases h:x.testBit k=true
 ·rw[pT h]
  have:(x>>>k) % 2=1:=by
   rw[Mu,t4] at h;rw[so];exact h
  rw[this,Qv]
 ·rw[oT h]
  have:(x>>>k) % 2=0:=by
   rw[Mu,t4] at h;rw[so];omega
  rw[this,M']
theorem yo {pl:D8} {x i v:Nat} (h:pl[i]? =ak v):M.mvm pl x (i + 1)=M.mvm pl x i||| ((x>>>i)&&&1) <<< v:=by
 rw[DH];show M.mvm pl x i||| _=_;rw[eh,h];rfl
noncomputable def addl (c k:Nat):D8:=(lB k).filter λj=>c.testBit (3 * k + j)
noncomputable def adst (os:A') (l:D8) (q:Nat×Nat):Nat×Nat:=l.foldl (λa j=>(a.1^^^(os.getD j (0,0)).1,a.2^^^(os.getD j (0,0)).2)) q
def vx:Sp:=λvs H Q _=>∃(p:fy) (po:f' Pr3) (c:Nat),vs=[.ref p,nat c]/\H p=ak (.lst (refs po))/\Prt H po/\po.length<=3/\∀(D:fy) (H2:Hp) (os:f' Pr3),H D=none->Same H H2->H2 D=ak (.lst (refs os))->Prt H2 os->os.length=po.length->(∀k q,(prs po)[k]? =ak q->(@G)[k]? =ak (adst @G (addl c k) q))->Q (.ref D) H2
theorem vc {os r:A'}:∀{l:D8} (q:Nat×Nat),(∀j∈l,j < os.length)->adst (os++r) l q=adst os l q
 | [],q,_=>rfl
 | j::l,q,h=>by
   have O:=h j iv;unfold adst;rw[La,La,show(os++r).getD j (0,0)=os.getD j (0,0) by rw[eh,eh,qM O]];exact vc _ λj O=>h j (lA _ O)
theorem wt {c k:Nat}:∀j∈addl c k,j < k:=λj O=>zx.mp (KB.mp O).1
noncomputable def plc (n b:Nat):D8:=(lB n).map λk=>(k + b) % max 1 n
theorem ug {n b k:Nat} (h:k < n):(plc n b).getD k 0=(k + b) % n:=by
 unfold plc;rw[eh,ic,Lc h];show(k + b) % max 1 n=_;rw[show max 1 n=n by omega]
theorem Ah {n b k:Nat} (h:k < n):(plc n b).getD k 0 < n:=by rw[ug h];exact Mj _ @A
theorem FH {n b k j:Nat} (hk:k < n) (O:j < n) (e:(plc n b).getD k 0=(plc n b).getD j 0):k=j:=by
 rw[ug hk,ug O] at e;have h1:=MP (k + b) n;have h2:=MP (j + b) n;rw[e] at h1;rcases LU ((k + b) / n) ((j + b) / n) with h | h | h
 ·have:=O8 n (show(k + b) / n + 1<=(j + b) / n from h);rw[Pb] at this;omega
 ·rw[h] at h1;omega
 ·have:=O8 n (show(j + b) / n + 1<=(k + b) / n from h);rw[Pb] at this;omega
def tS:Sp:=λvs H Q _=>∃(pn po:fy) (nx os:f' Pr3) (b:Nat),vs=[.ref pn,.ref po,nat b]/\b<=12/\H pn=ak (.lst (refs nx))/\H po=ak (.lst (refs os))/\Prt H nx/\Prt H os/\nx.length<=12/\os.length<=3/\∀(t Z Y:fy) (H2:Hp) (O ξ:f' Pr3),Same H H2->H Z=none->H Y=none->H2 t=ak (.tup [.ref Z,.ref Y])->H2 Z=ak (.lst (refs O))->H2 Y=ak (.lst (refs ξ))->Prt H2 O->Prt H2 ξ->O.length=nx.length->(∀k q,(@E)[k]? =ak q->(prs O)[(plc nx.length b).getD k 0]? =ak (M.mvm (plc nx.length b) q.1 nx.length,q.2))->prs ξ=(@G).map (λq=>(M.mvm (plc nx.length b) q.1 nx.length,q.2))->Q (.ref t) H2
end Sx
namespace M
noncomputable def cht (f B r z:Nat):A':=(lB z).map λk=>if k=0 then (B,r) else (2 ^ (f + k - 1),0)
theorem cht_len (f B r z:Nat):(cht f B r z).length=z:=by unfold cht;rw[cY,u2]
theorem ID {f B r z k:Nat} (h:k < z):(cht f B r z)[k]? =ak (if k=0 then (B,r) else (2 ^ (f + k - 1),0)):=by
 unfold cht;rw[ic,Lc h];rfl
theorem cht_more (f B r z:Nat):cht f B r (z + 1)=cht f B r z++[if z=0 then (B,r) else (2 ^ (f + z - 1),0)]:=by
 unfold cht;rw[Kj,gA];rfl
noncomputable def cho (f r z:Nat):Nat×Nat:=if z=0 then (0,r) else (2 ^ (f + z - 1),0)
theorem Ch0.none {sz rw bk F:Nat->Nat} (h:F 0=0):Ch0 [] [] 0 sz rw bk F:=
 ⟨rfl,λw h=>kf h (J6 w),by rw[h];rfl,λw h=>kf h (J6 w),λw k h=>kf h (J6 w),λw h=>kf h (J6 w),λw h=>kf h (J6 w)⟩
theorem Ch0.more {ps po:A'} {m B:Nat} {sz rw bk F:Nat->Nat} (C:Ch0 ps po m sz rw bk F) (Z:F (m + 1)=F m + sz m) (α:∀j,B.testBit j=true->F m<=j/\j < F m + sz m):Ch0 (ps++cht (F m) B (rw m) (sz m)) (po++[cho (F m) (rw m) (sz m)]) (m + 1) sz rw (λw=>if w=m then B else bk w) F:=by
 have ll:=C.ll;have lo:=C.len;have left:∀{w:Nat},w < m + 1->w≠m->w < m:=λh1 h2=>by omega
 have Y:∀{j:Nat} {q:Nat×Nat} (l:A'),ps[j]? =ak q->(ps++l)[j]? =ak q:=λl h=>by
  rw[qM (dt.mp h).1];exact h
 have ο:∀{j:Nat} {q:Nat×Nat} (l:A'),po[j]? =ak q->(po++l)[j]? =ak q:=λl h=>by
  rw[qM (dt.mp h).1];exact h
 have new:∀{k:Nat},k < sz m->(ps++cht (F m) B (rw m) (sz m))[F m + k]? =ak (if k=0 then (B,rw m) else (2 ^ (F m + k - 1),0)):=λ{k} h=>by
  rw[qE @A,ll,show F m + k - F m=k by omega];exact ID h
 have π:(po++[cho (F m) (rw m) (sz m)])[m]? =ak (cho (F m) (rw m) (sz m)):=by
  rw[qE @A,lo,Lz];rfl
 refine⟨by rw[gw,lo];rfl,λw hw=>?_,by rw[gw,cht_len,ll,Z],λw hw O=>?_,λw k hw hk=>?_,λw hw O=>?_,λw hw O=>?_⟩
 ·by_cases e:w=m
  ·subst e;exact Z
  ·exact C.nx w (left hw e)
 ·by_cases e:w=m
  ·subst e;rw[pT rfl];exact⟨by have:=new O;rw[pT rfl,Oz] at this;exact this,α⟩
  ·rw[oT e];obtain⟨h1,h2⟩:=C.p0 w (left hw e) O;exact⟨Y _ h1,h2⟩
 ·by_cases e:w=m
  ·subst e;have:=new hk;rw[oT @A,show F w + (k + 1) - 1=F w + k by omega] at this;exact this
  ·exact Y _ (C.pk w k (left hw e) hk)
 ·by_cases e:w=m
  ·subst e;rw[π];unfold cho;rw[pT O]
  ·exact ο _ (C.o0 w (left hw e) O)
 ·by_cases e:w=m
  ·subst e;rw[π];unfold cho;rw[oT @A,show F w + sz w - 1=F w + (sz w - 1) by omega]
  ·exact ο _ (C.ok w (left hw e) O)
end M
namespace Sx
open PySem L2
noncomputable def zat (zs:D8) (w:Nat):Nat:=zs.getD w 0
noncomputable def zrw (O:JY) (w:Nat):Nat:=if O=true/\0 < w then 2 ^ w||| 1 else 2 ^ w
noncomputable def zfi (zs:D8) (w:Nat):Nat:=(zs.take w).sum
theorem tN {zs:D8} {i z:Nat} (h:zs[i]? =ak z):zat zs i=z:=by unfold zat;rw[eh,h];rfl
theorem wD {zs:D8} {i z:Nat} (h:zs[i]? =ak z):zfi zs (i + 1)=zfi zs i + zat zs i:=by
 rw[tN h];unfold zfi;rw[Lo,h,List.sum_append];simp
theorem zb {zs:D8} (h:∀z∈zs,z<=4):∀i,i<=zs.length->zfi zs i<=4 * i
 | 0,_=>L0 _
 | i + 1,hi=>by
   have e:zs[i]? =ak (zs[i]' @A):=gs @A;have h1:=h _ (hR e);have h2:=zb h i @A;rw[wD e,tN e];omega
def tV (K:bp):Sp:=λvs H Q _=>∃(ps p:fy) (ns:I9) (zs:D8) (Z:JY),vs=[.ref ps,.ref p,.bl Z]/\SqL K H ps (ns.map V.int)/\H p=ak (.lst (zs.map nat))/\zs.length<=3/\(∀z∈zs,z<=4)/\∀(t Y O:fy) (H2:Hp) (nx os:f' Pr3) (bk:Nat->Nat),Same H H2->H Y=none->H O=none->Y≠O->H2 t=ak (.tup [.ref Y,.ref O])->H2 Y=ak (.lst (refs nx))->H2 O=ak (.lst (refs os))->Prt H2 nx->Prt H2 os->M.Ch0 @E @G zs.length (zat zs) (zrw Z) bk (zfi zs)->Q (.ref t) H2
end Sx
namespace M
theorem mvm_lt {pl:D8} {x N:Nat}:∀n,(∀k,k < n->pl.getD k 0 < N)->mvm pl x n < 2 ^ N
 | 0,_=>kb N
 | n + 1,h=>by
   show mvm pl x n||| _ < _;refine Ou (mvm_lt n λk hk=>h k @A) ?_;split
   ·exact xv @C (h n @A)
   ·exact kb N
theorem Ch0.find {ps po:A'} {m:Nat} {sz rw bk F:Nat->Nat} (C:Ch0 ps po m sz rw bk F) (h0:F 0=0) {i:Nat}:∀w,w<=m->i < F w->∃v k,v < m/\k < sz v/\i=F v + k
 | 0,_,h=>by rw[h0] at h;exact kf h (J6 i)
 | w + 1,hw,h=>by
   by_cases hi:i < F w
   ·exact Ch0.find C h0 w @A hi
   ·have:=C.nx w @A;exact⟨w,i - F w,@A,@A,@A⟩
theorem Ch0.bound {ps po:A'} {m N:Nat} {sz rw bk F:Nat->Nat} (C:Ch0 ps po m sz rw bk F) (h0:F 0=0) (Y:∀w,w < m->rw w < 2 ^ N) {i:Nat} {q:Nat×Nat} (h:ps[i]? =ak q):q.2 < 2 ^ N:=by
 have hl:=(dt.mp h).1;rw[C.ll] at hl;obtain⟨v,k,O,hk,rfl⟩:=C.find h0 m (ru _) hl;cases k with
 | zero=>
   rw[Oz,(C.p0 v O hk).1] at h;rw[<-mu h];exact Y v O
 | succ k=>
   rw[C.pk v k O hk] at h;rw[<-mu h];exact kb N
theorem Ch0.boundO {ps po:A'} {m N:Nat} {sz rw bk F:Nat->Nat} (C:Ch0 ps po m sz rw bk F) (O:∀w,w < m->rw w < 2 ^ N) {i:Nat} {q:Nat×Nat} (h:po[i]? =ak q):q.2 < 2 ^ N:=by
 have hl:=(dt.mp h).1;rw[C.len] at hl;by_cases z:sz i=0
 ·rw[C.o0 i hl z] at h;rw[<-mu h];exact O i hl
 ·rw[C.ok i hl @A] at h;rw[<-mu h];exact kb N
end M
namespace Sx
open PySem L2
theorem FG {n b j:Nat} (h:j < n):∃k,k < n/\(plc n b).getD k 0=j:=by
 have O:b % n < n:=Mj _ @A;by_cases Y:b % n<=j
 ·refine⟨j - b % n,@A,?_⟩;rw[ug @A,<-QT,show j - b % n + b % n=j by omega,MC h]
 ·refine⟨j + n - b % n,@A,?_⟩;rw[ug @A,<-QT,show j + n - b % n + b % n=j + n by omega,Nat.add_mod_right,MC h]
theorem Bx {os:A'} {A B:Nat}:∀(O:D8) (q:Nat×Nat),q.1 < 2 ^ A/\q.2 < 2 ^ B->(∀j∈O,(os.getD j (0,0)).1 < 2 ^ A/\(os.getD j (0,0)).2 < 2 ^ B)->(adst os O q).1 < 2 ^ A/\(adst os O q).2 < 2 ^ B
 | [],q,h,_=>h
 | j::O,q,h,hj=>Bx O _ ⟨N0 h.1 (hj j (iv ..)).1,N0 h.2 (hj j (iv ..)).2⟩ λi hi=>hj i (lA _ hi)
theorem xJ {po os:A'} {c A B:Nat} (hl:os.length=po.length) (h:∀(k:Nat) (q:Nat×Nat),po[k]? =ak q->os[k]? =ak (adst os (addl c k) q)) (O:∀q∈po,q.1 < 2 ^ A/\q.2 < 2 ^ B):∀n k,k < n->(os.getD k (0,0)).1 < 2 ^ A/\(os.getD k (0,0)).2 < 2 ^ B
 | 0,k,hk=>kf hk (J6 k)
 | n + 1,k,hk=>by
   cases e:po[k]? with
   | none=>
     have:os[k]? =none:=by rw[P5] at e ⊢;omega
     rw[eh,this];exact⟨kb A,kb B⟩
   | some q=>
     rw[eh,h k q e];exact Bx _ _ (O q (hR e)) λj Y=>xJ hl h O n j (by have:=wt j Y;omega)
theorem Gz {O:JY} {w m:Nat} (h:w < m):zrw O w < 2 ^ m:=by
 unfold zrw;have h1:2 ^ w < 2 ^ m:=xv @C h;split
 ·exact Ou h1 (Nat.one_lt_two_pow @A)
 ·exact h1
theorem bn72 {nx os χ Z O:f' Pr3} {zs:D8} {ι:JY} {bk:Nat->Nat} {b c m:Nat} (C:M.Ch0 @E @G zs.length (zat zs) (zrw ι) bk (zfi zs)) (υ:zs.length=m) (η:χ.length=nx.length)
  (ζ:∀k q,(@E)[k]? =ak q->(prs χ)[(plc nx.length b).getD k 0]? =ak (M.mvm (plc nx.length b) q.1 nx.length,q.2))
  (ε:prs Z=(@G).map (λq=>(M.mvm (plc nx.length b) q.1 nx.length,q.2))) (Y:O.length=Z.length)
  (θ:∀k q,(prs Z)[k]? =ak q->(prs O)[k]? =ak (adst (prs O) (addl c k) q)):∀q∈χ++O,q.2.1 < 2 ^ χ.length/\q.2.2 < 2 ^ m:=by
 have ν:∀w,w < zs.length->zrw ι w < 2 ^ m:=λw h=>Gz @A;have hm:∀x,M.mvm (plc nx.length b) x nx.length < 2 ^ χ.length:=λx=>M.mvm_lt _ λk hk=>by rw[η];exact Ah hk
 intro q ξ;rcases px.mp ξ with h | h
 ·obtain⟨j,γ⟩:=Mg h;have hl:=(dt.mp γ).1;obtain⟨k,hk,e⟩:=FG (b:=b) (show j < nx.length by omega);have β:(@E)[k]? =ak ((@E)[k]'(by rw[aq];exact hk)):=gs _;have h2:=ζ k _ β;rw[e,ic,γ] at h2;have ο:q.2=_:=mu h2;rw[ο];have ρ:=C.bound rfl ν β;exact⟨hm _,ρ⟩
 ·obtain⟨j,γ⟩:=Mg h
  have h2:=xJ (A:=χ.length) (B:=m) (by rw[aq,aq];exact Y) θ (fun δ α=>by
   rw[ε] at α;obtain⟨τ,π,rfl⟩:=ov.mp α;obtain⟨i,hi⟩:=Mg π;have ρ:=C.boundO ν hi;exact⟨hm _,ρ⟩) (j + 1) j (L1 j)
  rw[eh,ic,γ] at h2;exact h2
theorem IE {nx os χ O Z:f' Pr3} {zs:D8} {ε:JY} {bk:Nat->Nat} {b c:Nat} (C:M.Ch0 @E @G zs.length (zat zs) (zrw ε) bk (zfi zs)) (ζ:nx.length<=12) (γ:χ.length=nx.length)
  (β:∀k q,(@E)[k]? =ak q->(prs χ)[(plc nx.length b).getD k 0]? =ak (M.mvm (plc nx.length b) q.1 nx.length,q.2))
  (α:prs O=(@G).map (λq=>(M.mvm (plc nx.length b) q.1 nx.length,q.2))) (Y:Z.length=O.length)
  (δ:∀k q,(prs O)[k]? =ak q->(prs Z)[k]? =ak (adst (prs Z) (addl c k) q)):(∃pos,M.Chn (prs χ) (prs O) zs.length (zat zs) (zrw ε) pos)/\∀x r,M.tr2 (prs Z) x r=0↔M.tr2 (prs O) x r=0:=by
 refine⟨?_,M.added_zero (by rw[aq,aq];exact Y) (add:=addl c) λk q h=>⟨wt,δ k q h⟩⟩;have h:=C.turned (pl:=plc nx.length b) (qs:=prs χ) (λk hk=>by rw[aq] at hk ⊢;exact Ah hk) (by rw[aq];omega) (by rw[aq,aq];exact γ) (by rw[aq];exact β);rw[aq] at h;rw[α];exact⟨_,h⟩
theorem y6 {O:JY} {w:Nat} (h:w < 1000) (r:Nat):M.od (zrw O w&&&r)=(r.testBit w^^(O&&decide (0 < w)&&r.testBit 0)):=by
 unfold zrw;by_cases Y:O=true/\0 < w
 ·rw[pT Y,Y.1,lh Y.2]
  have e:2 ^ w||| 1=2 ^ w^^^2 ^ 0:=by
   apply ka;intro j;rw[NC,rv,pY,pY,show(1:Nat)=2 ^ 0 from rfl,pY];by_cases h1:w=j
   ·have:¬0=j:=by omega
    rw[lh h1,ia this];rfl
   ·rw[ia h1,R9,Kk]
  rw[e,Mc,M.od_xor,M.od_pow h,M.od_pow @C];rfl
 ·rw[oT Y,M.od_pow h]
  have:(O&&decide (0 < w))=false:=by
   cases O with
   | false=>rfl
   | true=>rw[z7,ia λz=>Y ⟨rfl,z⟩]
  rw[this,zt,za]
theorem wC {Y:JY} {m r:Nat} (hm:m<=1000) (Z:r < 2 ^ m) (h:∀w,w < m->M.od (zrw Y w&&&r)=false):r=0:=by
 apply ka;intro j;rw[z5];by_cases α:j < m
 ·have O:=h 0 @A;rw[y6 @A,ia (KY 0),NR,zt,za] at O;have h1:=h j α;rw[y6 @A,O,NR,za] at h1;exact h1
 ·exact lT (fb Z (gn @C @A))
theorem Jz {α H:Hp} {t B S I L:fy} {ps po os:A'} {m u:Nat} {bars O:D8} {Z:Nat} {ls:f' (fy×Nat)} {sz:Nat->Nat} {Y:JY} {pos:Nat->Nat->Nat} (n:Nev α H t B S I L ps os m u bars O Z ls) (C:M.Chn ps po m sz (zrw Y) pos) (he:∀x r,M.tr2 os x r=0↔M.tr2 po x r=0) (hm:m<=1000) (hs:∀w,w < m->sz w<=4):False:=by
 obtain⟨rs,a1,a2,ε⟩:=n.fev.rows 4 (M.tr2 ps 0 u) (n.fev.first n.ev.2)
 have hw:M.wan ps os 0 (u::rs)=eH (rs.length + 1) 0:=by
  show M.tr2 os 0 u::M.wan ps os (M.tr2 ps 0 u) rs=_;rw[n.ev.1,ε,a1];rfl
 exact n.u0 (wC hm n.ul (C.first (λx r=>(he x r).mp) (λw hw=>by rw[a1];exact hs w hw) hw))
theorem JI {ps po os:A'} {m d L:Nat} {μs rs:D8} {sz:Nat->Nat} {O:JY} {pos:Nat->Nat->Nat} (b:Bck ps os m d μs rs) (C:M.Chn ps po m sz (zrw O) pos) (he:∀x r,M.tr2 os x r=0↔M.tr2 po x r=0) (hm:m<=1000) (hs:∀w,w < m->sz w<=L):d<=L:=by
 obtain⟨h1,h2,Y,ρ⟩:=b.rws;rcases Nat.lt_or_ge L d with hd | hd
 ·exfalso;cases rs with
  | nil=>simp at h1;omega
  | cons r rs=>
    rw[ub] at h1;have Z:=C.first (λx r=>(he x r).mp) (r:=r) (rs:=rs) (λw hw=>by have:=hs w hw;omega) (by rw[Y,h1]);have:=wC hm (h2 r iv) Z;exact ρ (by rw[this];rfl)
 ·exact hd
theorem JJ {ps po os:A'} {m d w:Nat} {μs:D8} {sz:Nat->Nat} {pos:Nat->Nat->Nat} (γ:M.Mks ps os m d μs) (Z:∀q∈ps++os,q.1 < 2 ^ ps.length) (hn:ps.length + (d + 1) * os.length<=1000) (ho:os.length<=1000) (C:M.Chn ps po m sz (zrw false) pos) (he:∀x r,M.tr2 os x r=0↔M.tr2 po x r=0) (hm:m<=1000) (hw:w < m):sz w<=d:=by
 rcases Nat.lt_or_ge d (sz w) with hd | hd
 ·exfalso
  have Y:=C.quiet (os:=os) (λx r=>(he x r).mpr) hw (r:=2 ^ w) (T:=d) hd λv δ φ=>by
   rw[y6 @A,zt,zt,za,pY,ia λe=>φ e.symm]
  have hb:∀r∈2 ^ w::eH d 0,r < 2 ^ m:=λr O=>by
   rcases rz.mp O with e | e
   ·rw[e];exact xv @C hw
   ·rw[K5 e];exact kb _
  have h1:=M.told_back γ Z hn ho hm hb;rw[Y,M.wan_zeros,ub,qq] at h1;have h2:=y3 (λl=>l.getD d 0) h1;have β:(eH (d + 1) 0).getD d 0=0:=by simp
  have α:((eH d 0++(2 ^ w::eH d 0)).take (d + 1)).getD d 0=2 ^ w:=by
   rw[eh,List.getElem?_take,pT @A,qE @F];simp
  try dsimp only at h2
  rw[β,α] at h2;have:=kb w;omega
 ·exact hd
theorem zQ {K:bp} {O Z Y:Hp} {p c:fy} {xs:f' V} (α:SqL K O p xs) (f:O c=none) (s:Same O Z) (k:∀b ob,b≠c->Z b=ak ob->Y b=ak ob):SqL K Y p xs:=by
 rcases α with (h | ⟨o,h⟩) | h
 ·exact .inl (.inl (k _ _ (aw h f) (s.get h)))
 ·exact .inl (.inr ⟨o,k _ _ (aw h f) (s.get h)⟩)
 ·exact .inr h
theorem DR {zs:D8} {L:Nat} (h:∀z∈zs,z<=L) (w:Nat):zat zs w<=L:=by
 unfold zat;rw[eh];cases e:zs[w]? with
 | none=>exact L0 _
 | some z=>exact h z (hR e)
theorem JK {ps po os:A'} {zs:D8} {d L:Nat} {μs rs:D8} {O:JY} {pos:Nat->Nat->Nat} (b:Bck ps os zs.length d μs rs) (C:M.Chn ps po zs.length (zat zs) (zrw O) pos) (he:∀x r,M.tr2 os x r=0↔M.tr2 po x r=0) (hm:zs.length<=1000) (Y:∀q∈ps++os,q.1 < 2 ^ ps.length) (hn:ps.length + (d + 1) * os.length<=1000) (ho:os.length<=1000) (h1:L∈zs) (h2:∀z∈zs,z<=L):d<=L/\(O=false->d=L):=by
 have h:=JI b C he hm λw _=>DR h2 w;refine⟨h,λe=>?_⟩;subst e;obtain⟨w,hw⟩:=Mg h1;have:=JJ b.mks Y hn ho C he hm (dt.mp hw).1;rw[tN hw] at this;omega
end Sx
namespace My
open PySem L2 Sx
local macro_rules | `(tactic| walk_at "o") =>`(tactic| first | exact Nd rfl | exact Nz rfl)
local macro_rules | `(tactic| walk_at "s") =>`(tactic| exact ⟨rfl,rfl,rfl,by decide +kernel,rfl,by decide +kernel,by decide +kernel⟩)
local macro_rules | `(tactic| walk_at "n") =>`(tactic| (intro vs H Q E h;repeat (first | (obtain ⟨e,_⟩:=h;subst e;rfl) | (obtain ⟨_,h⟩:=h))))
local macro_rules | `(tactic| walk_at "l2side") =>`(tactic| first | assumption | rfl | omega | decide | ((try dsimp only [CDiv,JP,CPow,CMul]);first | omega | decide | (refine (⟨?_,?_⟩)<;>first | omega | decide) | (refine (⟨?_,?_,?_⟩)<;>first | omega | decide) | (left;refine (⟨?_,?_⟩)<;>first | omega | decide) | (right;refine (⟨?_,?_⟩)<;>first | omega | decide)))
local macro_rules | `(tactic| walk_at "l2len") =>`(tactic| ((with_reducible show _ + _≤qb);first | assumption | (rw [ri];omega) | omega))
local macro_rules | `(tactic| walk_at "l2at") =>`(tactic| first | assumption | exact bg | (refine' Same.get (by assumption) ?h;(case h=>walk_at "l2at")))
local macro_rules | `(tactic| walk_at "l2hp") =>`(tactic| first | walk_at "l2at")
local macro_rules | `(tactic| walk_at "l2hp") =>`(tactic| first | (refine' Same.tup (by assumption) ?h;(case h=>walk_at "l2hp")) | (refine' Rep.same (by assumption) ?h;(case h=>walk_at "l2hp")))
local macro_rules | `(tactic| walk_at "l2hp") =>`(tactic| first | assumption | (refine' SqL.of ?h;(case h=>walk_at "l2at")) | (refine' SqT.of ?h;(case h=>walk_at "l2at")) | (refine' Same.seq (by assumption) ?h;(case h=>walk_at "l2hp")))
local macro_rules | `(tactic| walk_at "l2kind") =>`(tactic| first | assumption | exact rfl | (refine' Nd ⟨rfl,_,?e⟩;(case e=>walk_at "l2hp")) | (refine' Nz (Nd ⟨rfl,_,?e⟩);(case e=>walk_at "l2hp")) | (refine' Nz (Nz ⟨rfl,_,Nd ?e⟩);(case e=>walk_at "l2hp")))
local macro_rules | `(tactic| walk_at "l2step") =>`(tactic| first | ((with_reducible refine' s_go ?e ?_);(case e=>assumption)))
local macro_rules | `(tactic| walk_at "l2step") =>`(tactic| first | (with_reducible refine(⟨_,rfl,?_⟩)) | (with_reducible refine(⟨rfl,?_⟩)) | ((with_reducible refine' (⟨⟨_,?e⟩,?_⟩));(case e=>walk_at "l2hp")))
local macro_rules | `(tactic| walk_at "l2step") =>`(tactic| first | (with_reducible refine(⟨_,_,rfl,rfl,?_⟩);(with_reducible refine(⟨?l,?_⟩));(case l=>walk_at "l2len")) | (with_reducible refine(⟨_,_,rfl,rfl,?_⟩)) | (with_reducible refine Nd ⟨_,rfl,?_⟩) | (with_reducible refine Nz ⟨_,rfl,?_⟩))
local macro_rules | `(tactic| walk_at "l2step") =>`(tactic| first | (with_reducible refine Hj ?_) | ((with_reducible refine' zU ?e ?_);(case e=>first | rfl | decide | assumption)) | ((with_reducible refine' vD ?e ?_);(case e=>first | rfl | decide | assumption)) | ((with_reducible refine' Ck ?a ?b ?_);(case a=>omega);(case b=>omega)))
local macro_rules | `(tactic| walk_at "l2step") =>`(tactic| first | (with_reducible refine Ft ?_) | (with_reducible refine s_intB ?_) | (with_reducible refine s_inS ?_) | ((with_reducible refine' s_addS ?e ?_);(case e=>walk_at "l2side")))
local macro_rules | `(tactic| walk_at "l2step") =>`(tactic| first | (with_reducible refine Hg ?_) | (with_reducible refine Js ?_) | (with_reducible refine Jg ?_) | (with_reducible refine GY ?_))
local macro_rules | `(tactic| walk_at "l2step") =>`(tactic| first | ((with_reducible refine' G7 ?e ?_);(case e=>walk_at "l2hp")) | ((with_reducible refine' G6 ?e ?_);(case e=>walk_at "l2hp")) | ((with_reducible refine' s_lenS ?e ?_);(case e=>walk_at "l2side")) | ((with_reducible refine' Jr ?e ?m ?_);(case e=>walk_at "l2kind");(case m=>decide)))
local macro_rules | `(tactic| walk_at "l2step") =>`(tactic| first | ((with_reducible refine' ue ?e ?a ?_);(case e=>walk_at "l2hp");(case a=>first | assumption | rfl)) | ((with_reducible refine' Jq ?e ?a ?_);(case e=>walk_at "l2hp");(case a=>first | assumption | rfl)) | ((with_reducible refine' s_ty ?e ?_);(case e=>first | exact rfl | (refine' Nd ⟨rfl,_,?f⟩;(case f=>walk_at "l2hp")) | (refine' Nz (Nz (Nd ⟨rfl,Nd ⟨_,?f⟩⟩));(case f=>walk_at "l2hp")))) | (with_reducible refine Hk ?_))
local macro_rules | `(tactic| walk_at "l2step") =>`(tactic| first | ((with_reducible refine' G3 ?l ?_);(case l=>exact AF (PQ rfl))) | ((with_reducible refine' G2 ?l ?_);(case l=>exact AF (PQ rfl))) | ((with_reducible refine' Jj ?e ?_);(case e=>walk_at "l2hp")) | ((with_reducible refine' s_slS ?e ?_);(case e=>walk_at "l2side")))
local macro_rules | `(tactic| walk_at "l2step") =>`(tactic| first | (with_reducible refine Hd ?_) | ((with_reducible refine' Hc ?e ?l ?_);(case e=>walk_at "l2hp");(case l=>rfl)) | (with_reducible refine Ji ?_) | (with_reducible refine Jp ?_))
local macro_rules | `(tactic| walk_at "l2step") =>`(tactic| first | ((with_reducible refine' Jl ?e ?_);(case e=>rfl)) | (with_reducible refine s_leS ?_) | ((with_reducible refine' Fq ?e ?_);(case e=>repeat constructor)) | (with_reducible refine Fs ?_))
local macro_rules | `(tactic| walk_at "l2step") =>`(tactic| first | (with_reducible refine Jm ?_) | ((with_reducible refine' s_rI ?e ?_);(case e=>walk_at "l2side")) | (with_reducible refine s_rU ?_) | ((with_reducible refine' Jn ?e ?_);(case e=>rfl)))
local macro_rules | `(tactic| walk_at "l2step") =>`(tactic| first | ((with_reducible refine G0 ?_);intro _ _) | (with_reducible refine G1 ?_) | ((with_reducible refine' Jh ?e ?_);(case e=>repeat constructor)) | (with_reducible refine Fw ?_))
local macro_rules | `(tactic| walk_at "l2") =>`(tactic| repeat walk_at "l2step")
local macro_rules | `(tactic| walk_at "l2step") =>`(tactic| first | ((with_reducible refine' s_tupT ?e ?_);(case e=>walk_at "l2hp")))
local macro_rules | `(tactic| walk_at "l2step") =>`(tactic| first | ((with_reducible refine' Fo ?e ?_);(case e=>walk_at "l2hp")) | ((with_reducible refine' Fn ?e ?_);(case e=>walk_at "l2hp")) | ((with_reducible refine' GX ?e ?_);(case e=>walk_at "l2hp")))
local macro_rules | `(tactic| walk_at "l2step") =>`(tactic| first | (with_reducible refine G4 ?_) | (with_reducible refine He ?_) | (with_reducible refine Hi ?_) | (with_reducible refine oE ?_))
local macro_rules | `(tactic| walk_at "l2step") =>`(tactic| first | (with_reducible refine Cf ?_) | (with_reducible refine Jt ?_) | (with_reducible refine G5 ?_) | (with_reducible refine Ci ?_))
local macro_rules | `(tactic| walk_at "l2step") =>`(tactic| first | (with_reducible refine Ju ?_) | (with_reducible refine Hf ?_) | (with_reducible refine s_disp1I ?_) | ((with_reducible refine' s_listD ?e ?_);(case e=>walk_at "l2at")))
local macro_rules | `(tactic| walk_at "l2step") =>`(tactic| first | (with_reducible refine Fk ?_) | (with_reducible refine s_try0 ?_) | (with_reducible refine s_callX ?_))
noncomputable def top (i:Nat):Stmt:=PySem.Challenge.pw_sumwires_k72_delays_known.main.body.getD i (.Pass ⟨0,0,0,0⟩)
noncomputable abbrev ml:Stmt:=top 6
theorem vC:aA ["thing"] ["thing"] (ah ml):=by walk_at "s"
noncomputable abbrev oC:Stmt:=top 7
theorem yf:aA ["thing","width"] ["thing","width"] (ah oC):=by walk_at "s"
noncomputable abbrev zV:Stmt:=top 8
theorem ot:aA ["number","width","half"] ["number"] (ah zV):=by walk_at "s"
noncomputable abbrev kX:Stmt:=top 9
theorem yg:aA ["mask"] ["mask"] (ah kX):=by walk_at "s"
noncomputable abbrev oA:Stmt:=top 10
theorem jZ:aA ["places","mask","place"] ["places"] (ah oA):=by walk_at "s"
noncomputable abbrev rR:Stmt:=top 11
theorem jF:aA ["masks","width","whole","place","mask"] ["masks","width"] (ah rR):=by walk_at "s"
noncomputable abbrev j0:Stmt:=top 12
theorem vB:aA ["whole","width","count"] ["whole","width","count"] (ah j0):=by walk_at "s"
noncomputable abbrev oB:Stmt:=top 17
theorem ye:aA ["thing","stores","inputs"] ["thing","stores","inputs"] (ah oB):=by walk_at "s"
noncomputable abbrev gL:Stmt:=top 18
theorem p7:aA ["inputs","nexts","outs"] ["inputs","nexts","outs"] (ah gL):=by walk_at "s"
noncomputable abbrev rT:Stmt:=top 19
theorem zT:aA ["pair","state","row"] ["pair","state","row"] (ah rT):=by walk_at "s"
noncomputable abbrev ix:Stmt:=top 20
theorem rP:aA ["pairs","state","row"] ["pairs","state","row"] (ah ix):=by walk_at "s"
noncomputable abbrev eW:Stmt:=fh (top 21) 0
theorem kG:aA ["self","inputs","nexts","outs"] ["self","inputs","nexts","outs"] (ah eW):=by walk_at "s"
noncomputable abbrev gC:Stmt:=fh (top 21) 1
theorem mi:aA ["self"] ["self"] (ah gC):=by walk_at "s"
noncomputable abbrev fJ:Stmt:=fh (top 21) 2
theorem kW:aA ["self"] ["self"] (ah fJ):=by walk_at "s"
noncomputable abbrev iE:Stmt:=fh (top 21) 3
theorem ou:aA ["self"] ["self"] (ah iE):=by walk_at "s"
noncomputable abbrev c7:Stmt:=fh (top 21) 4
theorem jA:aA ["self","state"] ["self","state"] (ah c7):=by walk_at "s"
noncomputable abbrev iF:Stmt:=fh (top 21) 5
theorem ox:aA ["self","state","row"] ["self","state","row"] (ah iF):=by walk_at "s"
noncomputable abbrev gz:Stmt:=fh (top 21) 6
theorem cj:aA ["self","rows","state","answers","row","done"] ["self","rows","state"] (ah gz):=by walk_at "s"
noncomputable abbrev dy:Stmt:=fh (top 21) 7
theorem qd:aA ["self","rows","state"] ["self","rows","state"] (ah dy):=by walk_at "s"
noncomputable abbrev gD:Stmt:=fh (top 21) 9
theorem iM:aA ["self","which","turns","rows"] ["self","which","turns"] (ah gD):=by walk_at "s"
noncomputable abbrev iG:Stmt:=fh (top 21) 10
theorem ck:aA ["self","mask","store_mask","input_mask","place"] ["self","mask"] (ah iG):=by walk_at "s"
noncomputable abbrev gy:Stmt:=fh (top 23) 0
theorem fA:aA ["self","rows","place","row"] ["self","rows"] (ah gy):=by walk_at "s"
noncomputable abbrev g8:Stmt:=fh (top 23) 1
theorem cO:aA ["self","mask","places","found"] ["self","mask"] (ah g8):=by walk_at "s"
noncomputable abbrev kL:Stmt:=fh (top 23) 2
theorem jH:aA ["self","place","row","found","places"] ["self","place","row"] (ah kL):=by walk_at "s"
noncomputable abbrev g9:Stmt:=fh (top 23) 3
theorem dS:aA ["self","bit","mask","top"] ["self","bit"] (ah g9):=by walk_at "s"
noncomputable abbrev zX:Stmt:=top 24
theorem Fi:aA ["rows"] ["rows"] (ah zX):=by walk_at "s"
noncomputable abbrev oz:Stmt:=top 25
theorem mh:aA ["rows","wish","steps","found"] ["rows","wish"] (ah oz):=by walk_at "s"
noncomputable abbrev nY:Stmt:=top 26
theorem tY:aA ["rows","width","steps"] ["rows","width"] (ah nY):=by walk_at "s"
noncomputable abbrev rS:Stmt:=top 28
theorem zS:aA ["pair","stores"] ["pair","stores"] (ah rS):=by walk_at "s"
noncomputable abbrev cE:Stmt:=top 29
theorem dO:aA ["machine","bars","stores","rows","ways","states"] ["machine","bars"] (ah cE):=by walk_at "s"
noncomputable abbrev dw:Stmt:=top 30
theorem bG:aA ["machine","stores","bars","ways"] ["machine"] (ah dw):=by walk_at "s"
noncomputable abbrev cB:Stmt:=top 31
theorem bI:aA ["machine","found","rows","firsts","stores","states","inputs","begin","sums"] ["machine"] (ah cB):=by walk_at "s"
noncomputable abbrev dP:Stmt:=top 32
theorem cf:aA ["machine","turns","outs","singles","whole","told","turn"] ["machine","turns"] (ah dP):=by walk_at "s"
noncomputable abbrev oy:Stmt:=top 33
theorem gT:aA ["machine","delay","answers","masks","which","others","found"] ["machine","delay"] (ah oy):=by walk_at "s"
noncomputable abbrev eU:Stmt:=top 34
theorem bA:aA ["machine","delay","mask","outs","store_mask","looks","answer","place","kept"] ["machine","delay","mask"] (ah eU):=by walk_at "s"
noncomputable abbrev g7:Stmt:=top 35
theorem bP:aA ["pair","tellings","store_mask","input_mask","which"] ["pair","tellings"] (ah g7):=by walk_at "s"
noncomputable abbrev dQ:Stmt:=top 36
theorem eP:aA ["machine","delay","outs","moved","newest"] ["machine","delay"] (ah dQ):=by walk_at "s"
noncomputable abbrev cn:Stmt:=top 37
theorem eM:aA ["machine","delay","masks","tellings","nexts"] ["machine","delay","masks"] (ah cn):=by walk_at "s"
noncomputable abbrev kH:Stmt:=top 38
theorem cA:aA ["machine","never","rows","delay","found"] ["machine"] (ah kH):=by walk_at "s"
noncomputable abbrev kJ:Stmt:=top 40
theorem uc:aA ["_law_script","_law_k"] ["_law_script","_law_k"] (ah kJ):=by walk_at "s"
noncomputable abbrev mr:Stmt:=top 41
theorem kF:aA ["_law_cell_here","_law_k","_law_number"] ["_law_cell_here","_law_k"] (ah mr):=by walk_at "s"
noncomputable abbrev jK:Stmt:=top 42
theorem eR:aA ["_law_cell_here","_law_start","_law_many","_law_width","_law_digits","_law_found","_law_left","_law_k"] ["_law_cell_here","_law_start","_law_many","_law_width","_law_digits"] (ah jK):=by walk_at "s"
noncomputable abbrev kI:Stmt:=top 43
theorem tZ:aA ["_law_cell_here","_law_many","_law_width"] ["_law_cell_here","_law_many","_law_width"] (ah kI):=by walk_at "s"
noncomputable abbrev mq:Stmt:=top 44
theorem i4:aA ["_law_mask","_law_found"] ["_law_mask"] (ah mq):=by walk_at "s"
noncomputable abbrev kK:Stmt:=top 45
theorem gc:aA ["_law_pairs","_law_state","_law_row","_law_found","_law_k","_law_pair"] ["_law_pairs","_law_state","_law_row"] (ah kK):=by walk_at "s"
noncomputable abbrev mn:Stmt:=top 46
theorem g6:aA ["_law_told","_law_rows_here","_law_state","_law_found","_law_row"] ["_law_told","_law_rows_here"] (ah mn):=by walk_at "s"
noncomputable abbrev jI:Stmt:=top 47
theorem rQ:aA ["_law_thing","_law_high"] ["_law_thing","_law_high"] (ah jI):=by walk_at "s"
noncomputable abbrev dW:Stmt:=top 48
theorem bt:aA ["_law_told","_law_found","_law_cells","_law_word","_law_delay","_law_other","_law_rows_here","_law_cell_here","_law_some"] ["_law_told","_law_found","_law_cells"] (ah dW):=by walk_at "s"
noncomputable abbrev i6:Stmt:=top 49
theorem fW:aA ["_law_states","_law_places_here","_law_found","_law_place"] ["_law_states","_law_places_here"] (ah i6):=by walk_at "s"
noncomputable abbrev gM:Stmt:=top 50
theorem p9:aA ["_law_some","_law_many"] ["_law_some","_law_many"] (ah gM):=by walk_at "s"
noncomputable abbrev fH:Stmt:=top 51
theorem aE:aA ["_law_told","_law_found","_law_word","_law_first","_law_begin","_law_states","_law_inputs","_law_sums","_law_many","_law_state","_law_row","_law_places_here"] ["_law_told","_law_found"] (ah fH):=by walk_at "s"
noncomputable abbrev i7:Stmt:=top 52
theorem bf:aA ["_law_script","_law_sizes","_law_shared","_law_nexts","_law_outs","_law_which","_law_size","_law_first","_law_row","_law_back","_law_k"] ["_law_script","_law_sizes","_law_shared"] (ah i7):=by walk_at "s"
noncomputable abbrev eV:Stmt:=top 53
theorem cV:aA ["_law_nexts","_law_outs","_law_by","_law_many","_law_places_here","_law_found","_law_k","_law_pair"] ["_law_nexts","_law_outs","_law_by"] (ah eV):=by walk_at "s"
noncomputable abbrev jJ:Stmt:=top 54
theorem eQ:aA ["_law_mask","_law_places_here","_law_found","_law_k","_law_place"] ["_law_mask","_law_places_here"] (ah jJ):=by walk_at "s"
noncomputable abbrev jL:Stmt:=top 55
theorem du:aA ["_law_outs","_law_cell_here","_law_found","_law_k","_law_pair","_law_j"] ["_law_outs","_law_cell_here"] (ah jL):=by walk_at "s"
noncomputable abbrev ud:Stmt:=top 56
theorem jG:aA ["_law_script","_law_cell_here","_law_sizes","_law_way","_law_nexts","_law_outs","_law_told","_law_found"] ["_law_script"] (ah ud):=by walk_at "s"
noncomputable abbrev FR (K:bp) (x q:J9) (st:Mp) (f:fy):Prop:=∃(Z:hJ) (od:J0) (kV η α:hJ) (an:J0) (O ct:hJ) (Y:Hx),K.lookup f=ak ⟨Z,od,.func (Kt x q (fU st) (dq st) (ah st) .none kV η α an O ct),Y⟩/\LW K O q=true/\Ku K (.ref f)=true
theorem FR.mk {K:bp} {x q:J9} {st:Mp} {f:fy} {Z:hJ} {od:J0} {kV η α:hJ} {an:J0} {O ct:hJ} {Y:Hx} (h1:K.lookup f=ak ⟨Z,od,.func (Kt x q (fU st) (dq st) (ah st) .none kV η α an O ct),Y⟩) (h2:LW K O q=true) (β:Ku K (.ref f)=true):FR K x q st f:=⟨_,_,_,_,_,_,_,_,_,h1,h2,β⟩
structure FT (K:bp) (x q:J9) (st:Mp) (f:fy) (d:oe) (ps:C'):Prop where
 F:Fun K x q st f d
 b:md K d ps []
theorem FR.ok {K:bp} {x q:J9} {st:Mp} {f:fy} {ps:C'} (h:FR K x q st f) (g:∀(kV η α:hJ) (an:J0) (O ct:hJ) (us:E'),us.length=ps.length->bindArgs (Kt x q (fU st) (dq st) (ah st) .none kV η α an O ct) ⟨us,[]⟩=pure (ps.zip us)):∃d,FT K x q st f d ps:=by
 obtain⟨_,_,_,_,_,_,_,_,_,h1,h2,Y⟩:=h;have F:=Et (st:=st) h1 h2 Y;exact⟨_,F,F.binds g⟩
theorem ar {X:Cx} {CX:CXT} {k j:Nat} {f:fy} {fd:oe} {ps:C'} {sp:Sp} {E:XK} {x n q:J9} {st:Mp} {p pos:Pos} {e:z8} {es:f' z8} {t:TA} (F:FnOk X.prog X.w X.K X.mg X.base CX k f fd ps sp) (Z:Room j X.A) (hm:X.mg x=ak (.ref f)) (U:FT X.K n q st f fd ps)
  (ha:PA X (e::es) t) (α:nD CX X E:=by exact iw) (β:k<=j:=by decide) (γ:Gl X x:=by rfl) (O:(x == ("__debug__":J9))=false:=by decide) (he:qQ (e::es) X.env=(false,eval e X.env)::qQ es X.env:=by rfl) (Y:(backTo pos (qQ es X.env)).any (·.1)=false:=by rfl):
  PE X (.Call (.Name x p) (e::es) [] pos) (B3 sp [] E t):=FM F (Z.mono β) γ hm U.1.2 U.2 .nil α ha O he Y
noncomputable abbrev NI (K:bp) (x:J9) (f:fy):Prop:=QH K Kl x=ak (ak (.ref f))
noncomputable abbrev NN (K:bp) (x:J9):Prop:=QH K Kl x=ak none
noncomputable abbrev FI (K:bp) (c:fy) (x:J9) (f:fy):Prop:=z0 K (.ref c) x=ak (ak (.ref f))
noncomputable abbrev FN (K:bp) (c:fy) (x:J9):Prop:=z0 K (.ref c) x=ak none
theorem bln0 {l:f' Ko} (h:l.length=0):l=[]:=MN h
theorem bln1 {l:f' Ko} (h:l.length=1):∃a,l=[a]:=List.length_eq_one_iff.mp h
theorem bln2 {l:f' Ko} (h:l.length=2):∃a b,l=[a,b]:=by cases l with | nil=>cases h | cons a l=>obtain ⟨b,z⟩:=bln1 (MM h);exact ⟨a,b,z ▸ rfl⟩
theorem bln3 {l:f' Ko} (h:l.length=3):∃a b c,l=[a,b,c]:=by cases l with | nil=>cases h | cons a l=>obtain ⟨b,c,z⟩:=bln2 (MM h);exact ⟨a,b,c,z ▸ rfl⟩
theorem bln4 {l:f' Ko} (h:l.length=4):∃a b c d,l=[a,b,c,d]:=by cases l with | nil=>cases h | cons a l=>obtain ⟨b,c,d,z⟩:=bln3 (MM h);exact ⟨a,b,c,d,z ▸ rfl⟩
theorem bln5 {l:f' Ko} (h:l.length=5):∃a b c d e,l=[a,b,c,d,e]:=by cases l with | nil=>cases h | cons a l=>obtain ⟨b,c,d,e,z⟩:=bln4 (MM h);exact ⟨a,b,c,d,e,z ▸ rfl⟩
theorem bln6 {l:f' Ko} (h:l.length=6):∃a b c d e f,l=[a,b,c,d,e,f]:=by cases l with | nil=>cases h | cons a l=>obtain ⟨b,c,d,e,f,z⟩:=bln5 (MM h);exact ⟨a,b,c,d,e,f,z ▸ rfl⟩
theorem bln7 {l:f' Ko} (h:l.length=7):∃a b c d e f g,l=[a,b,c,d,e,f,g]:=by cases l with | nil=>cases h | cons a l=>obtain ⟨b,c,d,e,f,g,z⟩:=bln6 (MM h);exact ⟨a,b,c,d,e,f,g,z ▸ rfl⟩
local macro_rules | `(tactic| walk_at "b") =>`(tactic| first | (refine fun _ _ _ _ _ _ us hl=>?_;obtain ⟨_,hz⟩:=bln1 hl;subst hz;rfl) | (refine fun _ _ _ _ _ _ us hl=>?_;obtain ⟨_,_,hz⟩:=bln2 hl;subst hz;rfl) | (refine fun _ _ _ _ _ _ us hl=>?_;obtain ⟨_,_,_,hz⟩:=bln3 hl;subst hz;rfl) | (refine fun _ _ _ _ _ _ us hl=>?_;obtain ⟨_,_,_,_,hz⟩:=bln4 hl;subst hz;rfl) | (refine fun _ _ _ _ _ _ us hl=>?_;obtain ⟨_,_,_,_,_,hz⟩:=bln5 hl;subst hz;rfl) | (refine fun _ _ _ _ _ _ us hl=>?_;obtain ⟨_,_,_,_,_,_,hz⟩:=bln6 hl;subst hz;rfl) | (refine fun _ _ _ _ _ _ us hl=>?_;obtain ⟨_,_,_,_,_,_,_,hz⟩:=bln7 hl;subst hz;rfl))
abbrev n10:C':=["way","stores"]
abbrev n11:C':=["machine","found","rows","firsts","stores","states","inputs","begin","sums"]
abbrev n12:C':=["machine","bars","stores","rows","ways","states"]
abbrev n13:C':=["place","pair","state","row"]
abbrev n14:C':=["state","row","states","machine"]
abbrev n15:C':=["machine","turns","outs","singles","whole","told","turn"]
abbrev n16:C':=["machine","delay","mask","outs","store_mask","looks","answer","place","kept"]
abbrev n17:C':=["machine","delay","masks","tellings","nexts"]
abbrev n18:C':=["_law_nexts","_law_outs","_law_by","_law_many","_law_places_here","_law_found","_law_k","_law_pair"]
abbrev n19:C':=["_law_script","_law_cell_here","_law_sizes","_law_way","_law_nexts","_law_outs","_law_told","_law_found"]
set_option genInjectivity false in
set_option genSizeOf false in
structure Ad where
 dA:fy
 j8:oe
 gq:fy
 pN:oe
 pJ:fy
 Ey:oe
 il:fy
 uS:oe
 ij:fy
 uQ:oe
 jf:fy
 xA:oe
 fO:fy
 rp:oe
 ik:fy
 uR:oe
 cH:fy
 lV:oe
 jh:fy
 xC:oe
 df:fy
 nj:oe
 aL:fy
 iA:oe
 aZ:fy
 jx:oe
 aP:fy
 iT:oe
 bB:fy
 ku:oe
 aG:fy
 gu:oe
 bC:fy
 kz:oe
 aX:fy
 jw:oe
 bD:fy
 jk:oe
 jj:hJ
 a7:fy
 jy:oe
 bE:fy
 kA:oe
 aW:fy
 jv:oe
 bj:fy
 jU:oe
 cM:fy
 pS:oe
 bo:fy
 jV:oe
 pK:fy
 Ez:oe
 ig:fy
 uP:oe
 ji:fy
 xD:oe
 jg:fy
 xB:oe
 cG:fy
 lU:oe
 bw:fy
 iR:oe
 dh:fy
 nk:oe
 b4:fy
 kq:oe
 ie:fy
 uO:oe
 cF:fy
 lR:oe
 bO:fy
 jT:oe
 b5:fy
 kr:oe
 bu:fy
 iQ:oe
 d4:fy
 pM:oe
 d6:fy
 pQ:oe
 fT:fy
 rB:oe
 dk:fy
 ny:oe
 d5:fy
 pP:oe
 fQ:fy
 rA:oe
 d7:fy
 pR:oe
 fP:fy
 rq:oe
 di:fy
 nr:oe
 bH:fy
 ju:oe
 cJ:fy
 lX:oe
 cK:fy
 lY:oe
 bx:fy
 iS:oe
 cL:fy
 lZ:oe
 cI:fy
 lW:oe
 dj:fy
 nu:oe
 dn:fy
 nC:oe
 yB:fy
 IB:oe
 ao:fy
 aQ:fy
 cS:fy
 gW:fy
 i0:Tok
 kE:Tok
 iZ:Tok
open PySem.W in
structure Tx (K:Frag) (mg:F') (a:Ad):Prop where
 gX:FT K "is_whole" "is_whole" ml a.dA a.j8 ["thing"]
 mW:mg "is_whole"=ak (.ref a.dA)
 iq:FT K "is_mask" "is_mask" oC a.gq a.pN ["thing","width"]
 lM:mg "is_mask"=ak (.ref a.gq)
 rE:FT K "even" "even" zV a.pJ a.Ey ["number"]
 A4:mg "even"=ak (.ref a.pJ)
 ir:FT K "bits_of" "bits_of" kX a.il a.uS ["mask"]
 lO:mg "bits_of"=ak (.ref a.il)
 jY:FT K "mask_of" "mask_of" oA a.ij a.uQ ["places"]
 uI:mg "mask_of"=ak (.ref a.ij)
 oa:FT K "packed" "packed" rR a.jf a.xA ["masks","width"]
 C6:mg "packed"=ak (.ref a.jf)
 iU:FT K "unpacked" "unpacked" j0 a.fO a.rp ["whole","width","count"]
 rj:mg "unpacked"=ak (.ref a.fO)
 l8:FT K "is_pair" "is_pair" oB a.ik a.uR ["thing","stores","inputs"]
 A3:mg "is_pair"=ak (.ref a.ik)
 gO:FT K "check_table" "check_table" gL a.cH a.lV ["inputs","nexts","outs"]
 sS:mg "check_table"=ak (.ref a.cH)
 og:FT K "is_odd" "is_odd" rT a.jh a.xC ["pair","state","row"]
 C7:mg "is_odd"=ak (.ref a.jh)
 gv:FT K "odd_places" "odd_places" ix a.df a.nj ["pairs","state","row"]
 ng:mg "odd_places"=ak (.ref a.df)
 bW:FT K "__init__" "Machine.__init__" eW a.aL a.iA ["self","inputs","nexts","outs"]
 a8:FT K "stores" "Machine.stores" gC a.aZ a.jx ["self"]
 aR:FT K "outputs" "Machine.outputs" fJ a.aP a.iT ["self"]
 dR:FT K "told" "Machine.told" iE a.bB a.ku ["self"]
 aN:FT K "check_state" "Machine.check_state" c7 a.aG a.gu ["self","state"]
 b6:FT K "step" "Machine.step" iF a.bC a.kz ["self","state","row"]
 cT:FT K "walked" "Machine.walked" gz a.aX a.jw ["self","rows","state"]
 fu:FunD K "run" "Machine.run" dy a.bD a.jk a.jj
 jq:md K a.jk ["self","rows","state"] [a.jj]
 rJ:RelV (.int 0) a.jj
 cU:FT K "single" "Machine.single" gD a.a7 a.jy ["self","which","turns"]
 b7:FT K "back" "Machine.back" iG a.bE a.kA ["self","mask"]
 bR:FT K "__init__" "Steps.__init__" gy a.aW a.jv ["self","rows"]
 cx:FT K "lowered" "Steps.lowered" g8 a.bj a.jU ["self","mask"]
 iu:FT K "lay" "Steps.lay" kL a.cM a.pS ["self","place","row"]
 cy:FT K "barring" "Steps.barring" g9 a.bo a.jV ["self","bit"]
 xM:FT K "base" "base" zX a.pK a.Ez ["rows"]
 Iq:mg "base"=ak (.ref a.pK)
 iV:FT K "sum_for" "sum_for" oz a.ig a.uP ["rows","wish"]
 pE:mg "sum_for"=ak (.ref a.ig)
 ke:FT K "across" "across" nY a.ji a.xD ["rows","width"]
 sT:mg "across"=ak (.ref a.ji)
 l7:FT K "joined" "joined" rS a.jg a.xB ["pair","stores"]
 xu:mg "joined"=ak (.ref a.jg)
 fk:FT K "silent_ways" "silent_ways" cE a.cG a.lU ["machine","bars"]
 lL:mg "silent_ways"=ak (.ref a.cG)
 dD:FT K "silent_for_ever" "silent_for_ever" dw a.bw a.iR ["machine"]
 mV:mg "silent_for_ever"=ak (.ref a.bw)
 iB:FT K "never_told" "never_told" cB a.dh a.nk ["machine"]
 uH:mg "never_told"=ak (.ref a.dh)
 fZ:FT K "sign_answers" "sign_answers" dP a.b4 a.kq ["machine","turns"]
 qI:mg "sign_answers"=ak (.ref a.b4)
 jX:FT K "tellers" "tellers" oy a.ie a.uO ["machine","delay"]
 uG:mg "tellers"=ak (.ref a.ie)
 gN:FT K "teller_pair" "teller_pair" eU a.cF a.lR ["machine","delay","mask"]
 sR:mg "teller_pair"=ak (.ref a.cF)
 fm:FT K "followed_pair" "followed_pair" g7 a.bO a.jT ["pair","tellings"]
 pF:mg "followed_pair"=ak (.ref a.bO)
 gb:FT K "kept_answers" "kept_answers" dQ a.b5 a.kr ["machine","delay"]
 qJ:mg "kept_answers"=ak (.ref a.b5)
 dC:FT K "telling_machine" "telling_machine" cn a.bu a.iQ ["machine","delay","masks"]
 mU:mg "telling_machine"=ak (.ref a.bu)
 jl:FT K "told_back" "told_back" kH a.d4 a.pM ["machine"]
 vZ:mg "told_back"=ak (.ref a.d4)
 cN:FT K "_law_cell" "_law_cell" kJ a.d6 a.pQ ["_law_script","_law_k"]
 fN:mg "_law_cell"=ak (.ref a.d6)
 kg:FT K "_law_mix" "_law_mix" mr a.fT a.rB ["_law_cell_here","_law_k"]
 yA:mg "_law_mix"=ak (.ref a.fT)
 iC:FT K "_law_masks" "_law_masks" jK a.dk a.ny ["_law_cell_here","_law_start","_law_many","_law_width","_law_digits"]
 uJ:mg "_law_masks"=ak (.ref a.dk)
 jm:FT K "_law_rows" "_law_rows" kI a.d5 a.pP ["_law_cell_here","_law_many","_law_width"]
 wa:mg "_law_rows"=ak (.ref a.d5)
 iW:FT K "_law_odd" "_law_odd" mq a.fQ a.rA ["_law_mask"]
 rm:mg "_law_odd"=ak (.ref a.fQ)
 d8:FT K "_law_bits" "_law_bits" kK a.d7 a.pR ["_law_pairs","_law_state","_law_row"]
 jc:mg "_law_bits"=ak (.ref a.d7)
 gY:FT K "_law_run" "_law_run" mn a.fP a.rq ["_law_told","_law_rows_here"]
 mX:mg "_law_run"=ak (.ref a.fP)
 cD:FT K "_law_whole" "_law_whole" jI a.di a.nr ["_law_thing","_law_high"]
 gm:mg "_law_whole"=ak (.ref a.di)
 dY:FT K "_law_back_good" "_law_back_good" dW a.bH a.ju ["_law_told","_law_found","_law_cells"]
 nS:mg "_law_back_good"=ak (.ref a.bH)
 gQ:FT K "_law_summed" "_law_summed" i6 a.cJ a.lX ["_law_states","_law_places_here"]
 sV:mg "_law_summed"=ak (.ref a.cJ)
 fq:FT K "_law_places" "_law_places" gM a.cK a.lY ["_law_some","_law_many"]
 lP:mg "_law_places"=ak (.ref a.cK)
 dF:FT K "_law_never_good" "_law_never_good" fH a.bx a.iS ["_law_told","_law_found"]
 mY:mg "_law_never_good"=ak (.ref a.bx)
 gR:FT K "_law_chains" "_law_chains" i7 a.cL a.lZ ["_law_script","_law_sizes","_law_shared"]
 sW:mg "_law_chains"=ak (.ref a.cL)
 gP:FT K "_law_turned" "_law_turned" eV a.cI a.lW ["_law_nexts","_law_outs","_law_by"]
 sU:mg "_law_turned"=ak (.ref a.cI)
 gx:FT K "_law_moved" "_law_moved" jJ a.dj a.nu ["_law_mask","_law_places_here"]
 nh:mg "_law_moved"=ak (.ref a.dj)
 iD:FT K "_law_added" "_law_added" jL a.dn a.nC ["_law_outs","_law_cell_here"]
 uK:mg "_law_added"=ak (.ref a.dn)
 DQ:Fun K "law" "law" ud a.yB a.IB
 pG:mg "Machine"=ak (.ref a.ao)
 ay:Cls K a.ao
 BJ:Gv K a.ao
 vj:Mk K a.ao a.aL
 cR:Meth K a.ao "stores" a.aZ
 cw:Meth K a.ao "outputs" a.aP
 qv:Meth K a.ao "told" a.bB
 de:Meth K a.ao "check_state" a.aG
 iI:Meth K a.ao "step" a.bC
 nH:Meth K a.ao "walked" a.aX
 sk:Meth K a.ao "run" a.bD
 nI:Meth K a.ao "single" a.a7
 iJ:Meth K a.ao "back" a.bE
 aO:gI K a.ao "inputs"
 bF:gI K a.ao "nexts"
 bZ:gI K a.ao "outs"
 fM:kitOne K (.ref a.ao) (.ref a.ao)=ak true
 wb:mg "Steps"=ak (.ref a.aQ)
 dr:Cls K a.aQ
 wB:Mk K a.aQ a.aW
 jN:Meth K a.aQ "lowered" a.bj
 vR:Meth K a.aQ "lay" a.cM
 jO:Meth K a.aQ "barring" a.bo
 bY:gI K a.aQ "by_top"
 dZ:gI K a.aQ "free_places"
 iz:gI K a.aQ "null_masks"
 pH:mg "BadMask"=ak (.ref a.cS)
 gZ:excIn K a.cS [.type "ValueError",.type "Exception",.type "BaseException",.type "object"] "ValueError.__new__"=true
 j6:mg "BadTable"=ak (.ref a.gW)
 d9:excIn K a.gW [.type "ValueError",.type "Exception",.type "BaseException",.type "object"] "ValueError.__new__"=true
 sY:mg "MOST_INPUTS"=ak (.int 6 a.i0)
 wc:mg "MOST_OUTS"=ak (.int 6 a.kE)
 sX:mg "MOST_STORES"=ak (.int 120 a.iZ)
 JB:mg "all"=none
 Eo:mg "bool"=none
 c9:mg "enumerate"=none
 HZ:mg "int"=none
 bK:mg "isinstance"=none
 h8:mg "len"=none
 kn:mg "list"=none
 FZ:mg "max"=none
 fg:mg "range"=none
 JA:mg "set"=none
 xj:mg "sorted"=none
 vO:mg "tuple"=none
 HY:mg "zip"=none
section
variable {P:qc} {w:u7} {K:bp} {mg:F'} {base:z1} {a:Ad}
section
theorem kP (T:Tx K mg a):FnOk P w K mg base CX0 1 a.dA a.j8 ["thing"] (nW K):=by
 refine T.gX.1.okA vC λY A outer s H vs Q E Z h=>?_;obtain⟨x,k,rfl,hk,q⟩:=h;refine⟨_,((ai (aC (oI (aD (fj (K:=K) rfl) (by rfl) T.bK wY (!j 0 (aa (jb (v:= .ty "int") (by rfl) T.HZ OK rfl) af))) (ui (Ei (aD (fj (K:=K) rfl) (by rfl) T.bK wY (!j 0 (aa (jb (v:= .ty "bool") (by rfl) T.Eo OD rfl) af))))))))),aB (σ':=[ak _]) rfl ?_⟩;lia;unfold zg at q;cases O:subB k "int"
 ·rw[O] at q;lia;exact q
 ·rw[O] at q;lia;exact q
local macro_rules | `(tactic| walk_at "l2step") =>`(tactic| ((with_reducible refine' cZ ?e ?_);(case e=>walk_at "l2kind")))
theorem mD (T:Tx K mg a):FnOk P w K mg base CX0 2 a.gq a.pN ["thing","width"] (vq K):=by
 have O:FnOk P w K mg base CX0 1 a.dA a.j8 ["thing"] (nW K):=kP T;refine T.iq.1.okA yf fun α A outer s H vs Q E Z h=>?_;obtain⟨x,k,β,rfl,hk,q⟩:=h;refine⟨_,((ai (aC (oI (ar O Z T.mW T.gX (!j 0 af)) (oI (ja HR (pv 0) ag (aK _)) (ui (ja FU (kN (K:=K) rfl Kv K3 K0 kS (pv 0)) (pv 1) (aK _)))))))),aB (σ':=[ak _,ak _]) rfl ?_⟩;lia;cases x with
 | int i=>
   have hk:k="int":=hk;subst hk;lia;have q:Q (.bl (decide (0<=i)&&decide (((vl i:Nat):Int)<=β))) H:=q;cases Y:decide (0<=i)
   ·rw[Y] at q;lia;exact q
   ·rw[Y] at q;lia;exact q
 | bl b=>have hk:k="bool":=hk;subst hk;lia;exact q
 | non=>have hk:k="NoneType":=hk;subst hk;lia;exact q
 | str z=>have hk:k="str":=hk;subst hk;lia;exact q
 | ref p=>
   rcases hk with ⟨rfl,_⟩ | ⟨rfl,_⟩ | ⟨rfl,_⟩<;>lia<;>exact q
 | _=>exact K8 hk
local macro_rules | `(tactic| walk_at "l2step") =>`(tactic| ((with_reducible refine' fz ?e ?_);(case e=>walk_at "l2kind")))
theorem vM (T:Tx K mg a):FnOk P w K mg base CX0 1 a.pJ a.Ey ["number"] E8:=by
 refine T.rE.1.okA ot fun ζ A outer s H vs Q E η h=>?_;obtain⟨m,rfl,hm,q⟩:=h
 refine⟨_,((ae (ax (i:=1) ot.nd rfl @D (kN (K:=K) rfl Kv K3 K0 kS (pv 0)))
  (ae (k4 ry (aH uj (pv 1) ag (aK _)) (ae (ax (i:=2) ot.nd rfl @D (au jM (au dH (pv 1) ag) ag))
  (ae (ax (i:=0) ot.nd rfl @D (au fw (au oM (pv 0) (pv 2)) (au gH (pv 0) (au eg (au bM ag (pv 2)) ag))))
  (ai (ax (i:=1) ot.nd rfl @D (pv 2))))))
  (ai (aC (ja kO (pv 0) ag (aK _))))))),aB (σ':=[ak _,none,none]) rfl ?_⟩
 lia;refine⟨fun μ σ' H'=>∃n hf,σ'=[ak (nat n),ak (nat μ),hf]/\H'=H/\n < 2 ^ μ/\μ<=1000/\M.od n=M.od m,⟨vl (m:Int),m,none,rfl,rfl,wo m,tu hm,rfl⟩,?_⟩;rintro μ σ' H' ⟨n,hf,rfl,rfl,hn,hw,β⟩;lia;refine iteB (λY=>?_) (λY=>?_)
 ·have Y:=Nn Y;have Z:(μ + 1) / 2 < μ:=by omega
  refine⟨fun ν H2=>∃O hf,ν=[ak (nat O),ak (nat ((μ + 1) / 2)),hf]/\H2=H'/\O < 2 ^ ((μ + 1) / 2)/\M.od O=M.od m,fun ν H2 ⟨O,α,ε,δ,γ,ω⟩=>⟨(μ + 1) / 2,Z,O,α,ε,δ,γ,@A,ω⟩,?_⟩;lia;refine⟨(n>>>((μ + 1) / 2))^^^(n&&&(2 ^ ((μ + 1) / 2) - 1)),ak (nat ((μ + 1) / 2)),?_,rfl,M.fold_lt μ _ n hn @A,?_⟩
  ·rw[A1,Bb]
  ·rw[<-β];have f:=M.pb_fold μ ((μ + 1) / 2) n @A hn @A;show M.pb 1000 _=M.pb 1000 _;rw[M.pb_up (M.fold_lt μ _ n hn @A) @A,f,<-M.pb_up hn hw]
 ·have Y:=of_decide_eq_false Y;have ξ:n < 2:=fb hn (gn @C (show μ<=1 by omega));lia;rw[show decide (V.int (n:Int)=V.int 0)= !M.od n from CJ ξ,β];exact q
theorem jt (T:Tx K mg a):FnOk P w K mg base CX0 2 a.bo a.jV ["self","bit"] (GR a.aQ):=by
 refine T.cy.1.okA dS λa0 A outer s H vs Q E ι h=>?_;obtain⟨p,d,f,n,rows,b,rfl,st,hb,ζ,τ,η,q⟩:=h;have hu:=AW ι;obtain⟨dx,ho⟩:=st.ho;obtain⟨es,hd,ht,g,l⟩:=st.he;have nd:(es.map λe=>e.m.log2).Nodup:=by have:=g.nd;rw[Ks] at this;exact this
 refine⟨_,((ae (ax (i:=2) dS.nd rfl @D (au bM ag (pv 1)))
  (ae (c8 ry rfl (be (K:=K) rfl (aD (yJ rfl) (by rfl) T.xj PyProof.Rows.boot_sorted (aa (bb (K:=K) rfl (pv 0) rfl) af))) (av (i:=3) dS.nd rfl @D) (ai (dN (eX (dG (ar (vM T) ι T.A4 T.rE (aa (au gH (pv 2) (!A @H (An hu (bb (K:=K) rfl (pv 0) rfl) (pv 3) (λ_ _=>rfl)) ag)) af)))) (ai (ax (i:=2) dS.nd rfl @D (au fw (pv 2) (au bM ag (pv 3))))) bh)))
  (ai (aC (pv 2)))))),aB (σ':=[ak _,ak _,none,none]) rfl ?_⟩
 lia;refine a9 ho T.dr T.bY rfl ?_;lia;refine Fj hd (C1 es) (by unfold lJ;rw[cY];omega) λL ns H1 f1 γ ν ο hw=>?_;obtain⟨ts,rfl,up,mem⟩:=vo ο hw nd;rw[<-Az] at ν;lia;rw[shl1];refine fX (xs:=ts.map nat) (λi σ H'=>∃(m:Nat) (v:sh V),σ=[ak (.ref p),ak (nat b),ak (nat m),v]/\H'=H1/\M.BarI (es.map λe=>(e.m,e.p)) (ts.take i) b m) ⟨2 ^ b,none,rfl,rfl,M.BarI.zero _ b⟩ (λi σ H' _ ⟨_,_,_,e,_⟩=>by rw[e];exact SqL.of ν) ?_ ?_
 ·rintro i y σ H' ξ ⟨m,v,rfl,rfl,I⟩;obtain⟨t,Y,rfl⟩:=aJ ξ;obtain⟨hi,ω⟩:=dt.mp Y;rcases me es (t:Int) with ⟨e,he,ε,ev⟩ | ⟨θ,_⟩
  ·have ε:e.m.log2=t:=by omega
   subst ε;have O:(e.m,e.p)∈es.map (λe=>(e.m,e.p)):=ov.mpr ⟨e,he,rfl⟩;have β:e.m < 2 ^ 1000:=M.span_lt ζ (g.span O);have ψ:e.m.log2 < 1000:=M.log2_under (g.nz _ O) β;have υ:=γ.get (ht e he)
   have χ:∀t∈ts.take i,t < e.m.log2:=λt hm=>by
    obtain⟨j,π,δ⟩:=Kn.mp hm;rw[JW] at π;rw[MD] at δ;have:=Kq.mp up j i @A hi @A;rw[δ,ω] at this;exact this
   have φ:e.m.log2≠b:=η e.m (g.span O) (g.nz _ O);have Z:=g.nd;lia;refine a9 (γ.get ho) T.dr T.bY rfl ?_;lia;refine zW (γ.get hd) ev ?_;lia;rw[bQ];refine⟨m&&&e.m,rfl,v' L3 β,?_⟩;cases α:M.od (m&&&e.m) with
   | true=>
     lia;refine⟨m^^^2 ^ e.m.log2,ak (nat e.m.log2),by rw[shl1,aU],rfl,?_⟩;rw[take_succ Y];exact I.flip (e:=(e.m,e.p)) Z g.nz O α χ φ ψ
   | false=>
     lia;rw[take_succ Y];exact I.keep (e:=(e.m,e.p)) Z O α
  ·obtain⟨e,he,ε⟩:=(mem t).mp (hR Y);exact kf (by rw[ε]) (θ e he)
 ·rintro σ H' ⟨m,v,rfl,rfl,I⟩;rw[cY,vu] at I;lia;refine q m H' γ (I.done g λe he=>?_);obtain⟨e',ρ,rfl⟩:=ov.mp he;exact(mem _).mpr ⟨e',ρ,rfl⟩
theorem j4 (T:Tx K mg a):FnOk P w K mg base CX0 1 a.il a.uS ["mask"] Fb:=by
 refine T.ir.1.okA yg λY A outer s H vs Q E Z h=>?_;obtain⟨m,rfl,hm,q⟩:=h;have hb:=tu hm;refine⟨_,((ai (aC (cW (osc:=ah kX) (ON:=["mask"]) (N:=["place","mask"]) (n:=1) (fx:=[0]) rfl rfl rfl (by decide +kernel) (cq (by rfl) T.fg (aa (kN (K:=K) rfl Kv K3 K0 kS (pv 0)) af)) (bc @C) (λ_ _ _ _ _=>⟨(av (i:=0) (show vr (["place","mask"]:C') from by decide +kernel) rfl @D),(oF (aH kO (au gH (au oM (pv 1) (pv 0)) ag) ag (aK _))),(pv 0)⟩))))),aB (σ':=[ak _]) rfl ?_⟩;lia;intro D O;refine dB (λi ys H'=>Cs (λi ys=>ys=(M.pl i m).map nat) H D i ys H') (Cs.zero O rfl) (λi ys H' hi c=>?_) (λys H' c=>?_)
 ·lia;rw[xI];by_cases ht:m.testBit i=true
  ·rw[pT ht];lia;refine Cs.put O c.same c.at' c.len @A ?_;rw[c.pv,M.pl_next,pT ht,gA,Lm];rfl
  ·rw[oT ht];lia;refine Cs.skip c.same c.at' c.len ?_;rw[c.pv,M.pl_next,oT ht,Kp]
 ·have e:=c.pv;rw[lS] at e;refine q D H' O c.same ?_;rw[c.at',e,M.pl_up (wo m) hb]
theorem rg (T:Tx K mg a):FnOk P w K mg base CX0 1 a.ij a.uQ ["places"] zH:=by
 refine T.jY.1.okA jZ λZ A outer s H vs Q E α h=>?_;obtain⟨r,ps,rfl,Y,hl,q⟩:=h
 refine⟨_,((ae (ax (i:=1) jZ.nd rfl @D ag)
  (ae (c8 ry rfl (be (K:=K) rfl (pv 0)) (av (i:=2) jZ.nd rfl @D) (ai (ax (i:=1) jZ.nd rfl @D (au fw (pv 1) (au bM ag (pv 2))))))
  (ai (aC (pv 1)))))),aB (σ':=[ak _,none,none]) rfl ?_⟩
 lia;refine fX (xs:=ps.map nat) (λi σ H'=>∃v,σ=[ak (.ref r),ak (nat (M.xm (ps.take i))),v]/\H'=H) ⟨none,rfl,rfl⟩ (λi σ H' _ ⟨_,_,e⟩=>by rw[e];exact SqL.of Y) ?_ ?_
 ·rintro i y σ H' O ⟨v,rfl,rfl⟩;obtain⟨k,hk,rfl⟩:=aJ O;have:=hl k (hR hk);lia;refine⟨ak (nat k),?_,rfl⟩;rw[shl1,aU,EN hk]
 ·rintro σ H' ⟨v,rfl,rfl⟩;rw[cY,vu];lia;exact q
end
section
local macro_rules | `(tactic| walk_at "l2step") =>`(tactic| first | ((with_reducible refine' cZ ?e ?_);(case e=>walk_at "l2kind")) | ((with_reducible refine' fz ?e ?_);(case e=>walk_at "l2kind")) | (with_reducible refine bS ?_) | (with_reducible refine c6 ?_))
section
local macro_rules | `(tactic| walk_at "l2step") =>`(tactic| first | (with_reducible refine oE ?_) | (with_reducible refine GZ ?_))
theorem oR (T:Tx K mg a):FnOk P w K mg base CX0 1 a.fQ a.rA ["_law_mask"] Ca:=by
 refine T.iW.1.okA i4 fun δ A outer s H vs Q E ε h=>?_;obtain⟨m,rfl,hm,q⟩:=h
 refine⟨_,((ae (ax (i:=1) i4.nd rfl @D ag)
  (ae (k4 ry (aH uj (pv 0) ag (aK _)) (ae (ax (i:=0) i4.nd rfl @D (au gH (pv 0) (au eg (pv 0) ag)))
  (ai (ax (i:=1) i4.nd rfl @D (au eg ag (pv 1))))))
  (ai (aC (pv 1)))))),aB (σ':=[ak _,none]) rfl ?_⟩
 lia;refine⟨fun μ σ' H'=>∃o,σ'=[ak (nat μ),ak (nat (M.bn o))]/\H'=H/\μ < 2 ^ 1000/\(o^^M.od μ)=M.od m,⟨m,false,rfl,rfl,hm,@F⟩,?_⟩;rintro μ σ' H' ⟨o,rfl,rfl,Y,ho⟩;lia;by_cases β:0 < μ
 ·refine zU (lh @A) ?_;refine⟨fun ν H2=>∃(n:Nat) (o:JY),ν=[ak (nat n),ak (nat (M.bn o))]/\H2=H'/\n < μ/\(o^^M.od n)=M.od m,fun ν H2 ⟨n,o,α,Z,O,ω⟩=>⟨n,O,o,α,Z,@A,ω⟩,?_⟩;lia;have α:(μ:Int) - 1=((μ - 1:Nat):Int):=by omega
  have O:(1:Int) - ((M.bn o:Nat):Int)=((M.bn (!o):Nat):Int):=by cases o<;>rfl
  rw[α,bQ,O];refine⟨μ&&&(μ - 1),!o,rfl,rfl,M.drop_less β,?_⟩;have Z:M.od (μ&&&(μ - 1))= !M.od μ:=M.drop_bit 1000 μ β Y;rw[Z,<-ho];cases o<;>cases M.od μ<;>rfl
 ·have γ:μ=0:=by omega
  subst γ;lia;rw[M.od_zero] at ho;simp at ho;rw[ho];exact q
theorem iy (T:Tx K mg a):FnOk P w K mg base CX0 2 a.d7 a.pR ["_law_pairs","_law_state","_law_row"] (Cb K):=by
 refine T.d8.1.okA gc fun ι A outer s H vs Q E δ h=>?_;obtain⟨r,ps,x,y,rfl,η,pt,hl,ζ,ε,q⟩:=h
 refine⟨_,((ae (ax (i:=3) gc.nd rfl @D ag)
  (ae (c8 ry rfl (kM (K:=K) rfl (by rfl) T.c9 (pv 0)) (iP rfl (aF (av (i:=4) gc.nd rfl @D) (aF (av (i:=5) gc.nd rfl @D) eZ))) (ai (ax (i:=3) gc.nd rfl @D (au FQ (pv 3) (au bM (au fw (ar (oR T) δ T.rm T.iW (aa (au gH (!A @H (pv 5) ag) (pv 1)) af)) (ar (oR T) δ T.rm T.iW (aa (au gH (!A @H (pv 5) ag) (pv 2)) af))) (pv 4))))))
  (ai (aC (pv 3)))))),aB (σ':=[ak _,ak _,ak _,none,none,none]) rfl ?_⟩
 lia;refine je (xs:=refs ps) (λi σ H'=>∃α Z,σ=[ak (.ref r),ak (nat x),ak (nat y),ak (nat (M.tr2 (prs (ps.take i)) x y)),α,Z]/\Same H H') ⟨none,none,rfl,Same.refl _⟩ (λi σ H' _ ⟨_,_,_,e⟩=>Same.seq e η) ?_ ?_
 ·rintro i z σ H' p ο hz ⟨α,Z,rfl,Y⟩ fp β ξ;obtain⟨O,γ,rfl⟩:=aJ hz;have hi:=(dt.mp γ).1;have ht:=β.get (Y.get (pt O (hR γ)));lia;rw[bQ];refine⟨O.2.1&&&x,rfl,v' L3 ζ,?_⟩;lia;rw[bQ];refine⟨O.2.2&&&y,rfl,v' L3 ε,?_⟩;lia;rw[aU];have ν:CPow ((M.bn (M.od (O.2.1&&&x))^^^M.bn (M.od (O.2.2&&&y)):Nat):Int) (i:Int):=⟨@A,@A,by rw[EB];cases(M.od (O.2.1&&&x)^^M.od (O.2.2&&&y))<;>decide⟩;lia
  have θ:((M.bn (M.od (O.2.1&&&x))^^^M.bn (M.od (O.2.2&&&y)):Nat):Int) * 2 ^ ((i:Int).toNat)=(((M.bn (M.od (O.2.1&&&x))^^^M.bn (M.od (O.2.2&&&y))) <<< i:Nat):Int):=by
   rw[lS,Kf];push_cast;rfl
  rw[θ,l5,BY x y γ];exact⟨_,_,rfl,Y.trans β⟩
 ·rintro σ H' ⟨α,Z,rfl,Y⟩;rw[aS,vu];lia;exact q _ Y
theorem kQ (T:Tx K mg a):FnOk P w K mg base CX0 3 a.fP a.rq ["_law_told","_law_rows_here"] (zI K):=by
 refine T.gY.1.okA g6 fun ψ A outer s H vs Q E η h=>?_;obtain⟨t,n,o,r,m,nx,os,rs,rfl,et,sn,ρ,pn,po,ln,lo,φ,lr,hb,q⟩:=h;have ν:(2:Nat) ^ 64<=2 ^ 1000:=gn @C @C;have β:(2:Nat) ^ (@E).length<=2 ^ 1000:=gn @C (by rw[aq];omega)
 refine⟨_,((ae (ax (i:=2) g6.nd rfl @D ag)
  (ae (ax (i:=3) g6.nd rfl @D (cC af))
  (ae (c8 ry rfl (be (K:=K) rfl (pv 1)) (av (i:=4) g6.nd rfl @D) (ae (bX (gF (K:=K) rfl sx wq wh cv (pv 3) (aa (ar (iy T) η T.jc T.d8 (aa (!A @H (pv 0) ag) (!j 2 (!j 4 af)))) af)))
  (ai (ax (i:=2) g6.nd rfl @D (ar (iy T) η T.jc T.d8 (aa (!A @H (pv 0) ag) (!j 2 (!j 4 af))))))))
  (ai (aC (pv 3))))))),aB (σ':=[ak _,ak _,none,none,none]) rfl ?_⟩
 lia;intro D H1 θ ι χ;lia;refine fX (xs:=rs.map nat) (λi σ H'=>∃v,σ=[ak (.ref t),ak (.ref r),ak (nat (M.wst @E 0 (rs.take i))),ak (.ref D),v]/\Same H H'/\H' D=ak (.lst ((M.wan @E @G 0 (rs.take i)).map nat))) ⟨none,rfl,ι,χ⟩ (λi σ H' _ ⟨_,_,s',_⟩=>SqL.of (s'.get φ)) ?_ ?_
 ·rintro i y σ H2 ξ ⟨v,rfl,Y,α⟩;obtain⟨u,hu,rfl⟩:=aJ ξ;have π:=(dt.mp hu).1;have δ:=hb u (hR hu);have ο:M.wst @E 0 (rs.take i) < 2 ^ 1000:=fb (M.wst_lt (kb _)) β;have υ:=Y.get et;lia;refine⟨o,os,_,u,rfl,Same.seq Y ρ,po.same Y,lo,ο,@A,λH3 γ=>?_⟩;lia;refine dU (γ.get α) (by rw[cY,M.wan_len,JW,ri];omega) λZ ζ=>?_;have O:Same H Z:=λb ob e=>ζ.oth _ _ (aw e θ) (γ.get (Y.get e));have τ:=O.get et;lia;refine⟨n,nx,_,u,rfl,Same.seq O sn,pn.same O,ln,ο,@A,fun ω ε=>?_⟩;lia;rw[take_succ hu,M.wst_snoc,M.wan_snoc];refine⟨_,rfl,O.trans ε,?_⟩;rw[ε.get ζ.at',gA];rfl
 ·rintro σ H2 ⟨v,rfl,Y,α⟩;rw[cY,vu] at α;lia;exact q D H2 θ Y α
theorem ff (T:Tx K mg a):FnOk P w K mg base CX0 1 a.di a.nr ["_law_thing","_law_high"] vt:=by
 refine T.cD.1.okA rQ λO A outer s H vs Q E Y h=>?_;obtain⟨x,b,rfl,q⟩:=h;refine⟨_,((ai (aC (oI (aD (fj (K:=K) rfl) (by rfl) T.bK wY (!j 0 (aa (jb (v:= .ty "int") (by rfl) T.HZ OK rfl) af))) (oI (Ei (aD (fj (K:=K) rfl) (by rfl) T.bK wY (!j 0 (aa (jb (v:= .ty "bool") (by rfl) T.Eo OD rfl) af)))) (ui (CF FU FU ag (pv 0) (pv 1)))))))),aB (σ':=[ak _,ak _]) rfl ?_⟩;lia;rw[show decide ((x:Int)<=(b:Int))=decide (x<=b) from decide_eq_decide.mpr Int.ofNat_le];exact q
theorem qj (T:Tx K mg a):FnOk P w K mg base CX0 1 a.cJ a.lX ["_law_states","_law_places_here"] yb:=by
 refine T.gQ.1.okA fW fun α A outer s H vs Q E β h=>?_;obtain⟨S,p,ss,ps,rfl,γ,ep,O,q⟩:=h
 refine⟨_,((ae (ax (i:=2) fW.nd rfl @D ag)
  (ae (c8 ry rfl (be (K:=K) rfl (pv 1)) (av (i:=3) fW.nd rfl @D) (ai (ax (i:=2) fW.nd rfl @D (au fw (pv 2) (!A (dz (K:=K) rfl) (pv 0) (pv 3))))))
  (ai (aC (pv 2)))))),aB (σ':=[ak _,ak _,none,none]) rfl ?_⟩
 lia;refine fX (xs:=ps.map nat) (λi σ H'=>∃v,σ=[ak (.ref S),ak (.ref p),ak (nat (M.xs ss (ps.take i))),v]/\H'=H) ⟨none,rfl,rfl⟩ (λi σ H' _ ⟨_,_,e⟩=>by rw[e];exact SqL.of ep) ?_ ?_
 ·rintro i y σ H2 Z ⟨v,rfl,rfl⟩;obtain⟨k,hk,rfl⟩:=aJ Z;have Y:=O k (hR hk);have ha:atI (ss.map nat) ((k:Nat):Int)=ak (nat (ss.getD k 0)):=ip (by rw[ic,eh,gs Y];rfl);lia;rw[aU,<-EK hk];exact⟨_,rfl,rfl⟩
 ·rintro σ H2 ⟨v,rfl,rfl⟩;rw[cY,vu];lia;exact q
theorem km (T:Tx K mg a):FnOk P w K mg base CX0 2 a.cK a.lY ["_law_some","_law_many"] tT:=by
 refine T.fq.1.okA p9 fun ρ A outer s H vs Q E δ h=>?_;obtain⟨p,ps,n,rfl,ep,ν,Z,hn,q⟩:=h;have Y:=AX δ
 refine⟨_,((ae (dN (PW.pt (i8 (eX (dG (aD (fj (K:=K) rfl) (by rfl) T.bK wY (!j 0 (aa (jb (v:= .ty "list") (by rfl) T.kn zv rfl) af))))) (iN (aH (r8 (K:=K) rfl Y) (cW (osc:=ah gM) (ON:=["_law_some","_law_many"]) (N:=["_law_place","_law_many"]) (n:=1) (fx:=[1]) rfl rfl rfl (by decide +kernel) (be (K:=K) rfl (pv 0)) (bc @C) (λ_ _ _ _ _=>⟨(av (i:=0) (show vr (["_law_place","_law_many"]:C') from by decide +kernel) rfl @D),(oF (eX (dG (ar (ff T) δ T.gm T.cD (!j 0 (aa (au eg (pv 1) ag) af)))))),(pv 0)⟩)) (cC af) (aK _))))) (ai (aC mx)) bh)
  (ai (aC (ja (Aq (K:=K) rfl Y) (pv 0) (yl rfl (by rfl) (by rfl) T.xj T.JA (pv 0)) (aK _)))))),aB (σ':=[ak _,ak _]) rfl ?_⟩
 lia;intro D ξ;refine bU (xs:=ps.map nat) (λi ys H'=>Cs (λi ys=>ys=[]) H D i ys H') (Cs.zero ξ rfl) (λi ys H' _ c=>SqL.of (c.same.get ep)) (λi x ys H' θ c=>?_) (λys H1 c=>?_)
 ·obtain⟨k,hk,rfl⟩:=aJ θ;have ι:=Z k (hR hk);lia;refine⟨k,n - 1,by rw[show((n - 1:Nat):Int)=(n:Int) - 1 by omega],?_⟩;rw[lh (show k<=n - 1 by omega)];lia;exact Cs.skip c.same c.at' c.len c.pv
 ·have ε:=c.at';rw[c.pv] at ε;have ζ:=c.same;clear c;lia;intro L2 H2 τ γ π;refine uf (ns:=[]) (SqL.of (γ.get ε)) (SqL.of π) ?_;have O:=ζ.trans γ;have α:=O.get ep;lia;refine⟨p,ps,rfl,α,ν,λk hk=>fb (Z k hk) hn,fun η φ υ β ο=>?_⟩;refine uf (ns:=ps) (SqL.of (β.get α)) (SqL.of ο) ?_;exact q _ (O.trans β)
end
end
section
local macro_rules | `(tactic| walk_at "l2step") =>`(tactic| (with_reducible refine Jk ?_))
section
theorem eu (T:Tx K mg a):FnOk P w K mg base CX0 1 a.d6 a.pQ ["_law_script","_law_k"] (wL K):=by
 refine T.cN.1.okA uc fun α A outer s H vs Q E β h=>?_;obtain⟨p,ns,k,rfl,γ,Z,q⟩:=h
 refine⟨_,((ae (dN (aH CH (pv 1) (aD (aM (K:=K) rfl) (by rfl) T.h8 u' (!j 0 af)) (aK _)) (ai (aC (!A (dz (K:=K) rfl) (pv 0) (pv 1)))) bh)
  (ai (aC (au dH (au hU ag (pv 1)) ag))))),aB (σ':=[ak _,ak _]) rfl ?_⟩
 lia;rw[cY];unfold cell at q;refine ite2 (λO=>?_) (λO=>?_)
 ·have O:=Nn O
  have ha:atI (ns.map V.int) k=ak (.int (ns.getD k.toNat 0)):=by
   obtain⟨j,rfl⟩:=Ly Z;have Y:j < ns.length:=by omega
   exact ip (by rw[ic,gs Y,eh,lS,gs Y];rfl)
  rw[pT O] at q;lia;exact q
 ·have O:¬k < ns.length:=λz=>O (lh z);rw[oT O] at q;lia;exact q
theorem vN (T:Tx K mg a):FnOk P w K mg base CX0 1 a.fT a.rB ["_law_cell_here","_law_k"] DY:=by
 refine T.kg.1.okA kF fun α A outer s H vs Q E γ h=>?_;obtain⟨c,k,rfl,δ,h1,q⟩:=h
 refine⟨_,((ae (ax (i:=2) kF.nd rfl @D (au gG (au dH (au dH (au hU (au gG (pv 0) ag) ag) (au hU ag (pv 1))) ag) ag))
  (ae (ax (i:=2) kF.nd rfl @D (au gG (au hU (pv 2) (pv 2)) ag))
  (ai (aC (au gG (au hU (pv 2) (au dH (au dH (pv 2) (au hU ag (pv 1))) ag)) ag)))))),aB (σ':=[ak _,ak _,none]) rfl ?_⟩
 lia;show Q (.int _) H;generalize β:(_:Int) * (_ + 48271 * k + 7)=x;have Y:0<=x % 2147483587:=NH _ @C;have O:x % 2147483587 < 2147483587:=N1 _ @C;obtain⟨j,Z⟩:=Ly Y;rw[Z] at O ⊢;exact q j @A
local macro_rules | `(tactic| walk_at "l2step") =>`(tactic| first | ((with_reducible refine' m4 ?e ?a ?_);(case e=>walk_at "l2hp");(case a=>walk_at "l2side")) | ((with_reducible refine' Gj ?a ?b ?_);(case a=>walk_at "l2side");(case b=>walk_at "l2side");(with_reducible intro _ _)))
local macro_rules | `(tactic| walk_at "l2step") =>`(tactic| first | (with_reducible refine s_zip ?_))
theorem se (T:Tx K mg a):FnOk P w K mg base CX0 2 a.dk a.ny ["_law_cell_here","_law_start","_law_many","_law_width","_law_digits"] zK:=by
 refine T.iC.1.okA eR fun χ A outer s H vs Q E ξ h=>?_;obtain⟨c,st,n,β,dg,rfl,ο,hn,hw,q⟩:=h;have ρ:n * β<=1024:=L9 (M5 hn hw) @C;have Y:(1:Int) * 2 ^ ((β:Int).toNat)=((2 ^ β:Nat):Int):=shl1 β;have π:=kb β;have θ:2 ^ β<=2 ^ 16:=gn @C hw;have ι:(n:Int) * (β:Int) + 1=((n * β + 1:Nat):Int):=by push_cast;rfl
 have O:(1:Int) * 2 ^ (((n * β + 1:Nat):Int).toNat)=((2 ^ (n * β + 1):Nat):Int):=shl1 _;have ε:=kb (n * β + 1)
 refine⟨_,((ae (ax (i:=5) eR.nd rfl @D (cC af))
  (ae (ax (i:=6) eR.nd rfl @D (au jM (au gG (pv 0) (au bM ag (au dH (au hU (pv 2) (pv 3)) ag))) ag))
  (ae (c8 ry rfl (cq (by rfl) T.fg (!j 2 af)) (av (i:=7) eR.nd rfl @D) (ai (dN (dG (pv 4)) (ae (bX (gF (K:=K) rfl sx wq wh cv (pv 5) (aa (au gG (pv 6) (au bM ag (pv 3))) af)))
  (ai (ax (i:=6) eR.nd rfl @D (au jM (pv 6) (au bM ag (pv 3)))))) (ai (bX (gF (K:=K) rfl sx wq wh cv (pv 5) (aa (au gG (ar (vN T) ξ T.yA T.kg (!j 0 (aa (au dH (pv 1) (pv 7)) af))) (au bM ag (pv 3))) af)))))))
  (ai (aC (pv 5))))))),aB (σ':=[ak _,ak _,ak _,ak _,ak _,none,none,none]) rfl ?_⟩
 lia;intro D H1 η ν φ;lia;rw[ι];lia;rw[O];lia;refine jR (λi σ H'=>∃(l:Int) (v:sh V) (ms:D8),σ=[ak (.int c),ak (nat st),ak (nat n),ak (nat β),ak (.bl dg),ak (.ref D),ak (.int l),v]/\Same H H'/\H' D=ak (.lst (ms.map nat))/\ms.length=i/\∀x∈ms,x < 2 ^ β) ⟨_,none,[],rfl,ν,φ,rfl,λ_ h=>kf h @F⟩ ?_ ?_
 ·rintro i σ H' hi ⟨l,v,ms,rfl,α,γ,el,hb⟩;have υ:i < n:=by omega
  clear O ε ι;cases dg with
  | true=>
    lia;rw[Y];obtain⟨k,hk,ζ⟩:=xx (c:=l) (m:=((2 ^ β:Nat):Int)) @A;lia;rw[hk];refine dU γ (by rw[cY,ri];omega) fun ψ Z=>?_;lia;rw[Y];lia;refine⟨_,_,ms++[k],rfl,λb o e=>Z.oth _ _ (aw e η) (α.get e),?_,by rw[gw,el];rfl,λx δ=>?_⟩
    ·rw[Z.at',gA];rfl
    ·rcases px.mp δ with h | h
     ·exact hb x h
     ·rw[hC.mp h];omega
  | false=>
    lia;rename_i r τ;rw[Y];obtain⟨k,hk,ζ⟩:=xx (c:=(r:Int)) (m:=((2 ^ β:Nat):Int)) @A;lia;rw[hk];refine dU γ (by rw[cY,ri];omega) fun ψ Z=>?_;lia;refine⟨_,_,ms++[k],rfl,λb o e=>Z.oth _ _ (aw e η) (α.get e),?_,by rw[gw,el];rfl,λx δ=>?_⟩
    ·rw[Z.at',gA];rfl
    ·rcases px.mp δ with h | h
     ·exact hb x h
     ·rw[hC.mp h];omega
 ·rintro σ H' ⟨l,v,ms,rfl,α,γ,el,hb⟩;lia;exact q D H' ms η α γ @A hb
theorem uo (T:Tx K mg a):FnOk P w K mg base CX0 3 a.d5 a.pP ["_law_cell_here","_law_many","_law_width"] zJ:=by
 refine T.jm.1.okA tZ λY A outer s H vs Q E O h=>?_;obtain⟨c,n,β,rfl,hn,hw,q⟩:=h;refine⟨_,((ai (aC (ar (se T) O T.uJ T.iC (!j 0 (aa ag (!j 1 (!j 2 (aa (ja kO (au gG (pv 0) ag) ag (aK _)) af))))))))),aB (σ':=[ak _,ak _,ak _]) rfl ?_⟩;lia;exact⟨c,500,n,β,_,rfl,@C,hn,hw,q⟩
end
end
section
local macro_rules | `(tactic| walk_at "l2step") =>`(tactic| first | ((with_reducible refine' cZ ?e ?_);(case e=>walk_at "l2kind")) | ((with_reducible refine' fz ?e ?_);(case e=>walk_at "l2kind")) | (with_reducible refine bS ?_) | (with_reducible refine c6 ?_))
theorem yn (T:Tx K mg a):FnOk P w K mg base CX0 3 a.ik a.uR ["thing","stores","inputs"] B6:=by
 have O:FnOk P w K mg base CX0 2 a.gq a.pN ["thing","width"] (vq K):=mD T;refine T.l8.1.okA ye fun β A outer s H vs Q E Y h=>?_;obtain⟨t,x,y,n,m,rfl,ht,α,Z,q⟩:=h
 refine⟨_,((ae (dN (PW.pt (i8 (eX (dG (aD (fj (K:=K) rfl) (by rfl) T.bK wY (!j 0 (aa (jb (v:= .ty "tuple") (by rfl) T.vO MU rfl) af))))) (iN (aH mz (aD (aM (K:=K) rfl) (by rfl) T.h8 u' (!j 0 af)) ag (aK _))))) (ai (aC mx)) bh)
  (ai (aC (oI (ar O Y T.lM T.iq (aa (!A @H (pv 0) ag) (!j 1 af))) (ui (ar O Y T.lM T.iq (aa (!A @H (pv 0) ag) (!j 2 af))))))))),aB (σ':=[ak _,ak _,ak _]) rfl ?_⟩
 lia;refine zU (cQ α) ?_;lia;rw[cQ Z];exact q
theorem qh (T:Tx K mg a):FnOk P w K mg base CX0 4 a.cH a.lV ["inputs","nexts","outs"] E9:=by
 have Y:FnOk P w K mg base CX0 1 a.dA a.j8 ["thing"] (nW K):=kP T;refine T.gO.1.okA p7 fun θ A outer s H vs Q E β h=>?_;obtain⟨n,o,m,nx,os,rfl,t,q⟩:=h
 refine⟨_,((ae (dN (PW.pt (i8 (eX (dG (ar Y β T.mW T.gX (!j 0 af)))) (i8 (aH CH (pv 0) ag (aK _)) (iN (aH uj (pv 0) (rZ (v:= .int 6) (by rfl) T.sY ⟨_,rfl⟩) (aK _)))))) (ai (i9 K6 T.d9 thr0 rfl (by rfl) T.j6 (aa gh af))) bh)
  (ae (dN (PW.pt (i8 (eX (dG (aD (fj (K:=K) rfl) (by rfl) T.bK wY (!j 1 (aa (jb (v:= .ty "list") (by rfl) T.kn zv rfl) af))))) (iN (aH uj (aD (aM (K:=K) rfl) (by rfl) T.h8 u' (!j 1 af)) (rZ (v:= .int 120) (by rfl) T.sX ⟨_,rfl⟩) (aK _))))) (ai (i9 K6 T.d9 thr0 rfl (by rfl) T.j6 (aa gh af))) bh)
  (ae (dN (PW.pt (i8 (eX (dG (aD (fj (K:=K) rfl) (by rfl) T.bK wY (!j 2 (aa (jb (v:= .ty "list") (by rfl) T.kn zv rfl) af))))) (iN (aH uj (aD (aM (K:=K) rfl) (by rfl) T.h8 u' (!j 2 af)) (rZ (v:= .int 6) (by rfl) T.wc ⟨_,rfl⟩) (aK _))))) (ai (i9 K6 T.d9 thr0 rfl (by rfl) T.j6 (aa gh af))) bh)
  (ai (dN (eX (dG (aD (Bq (K:=K) rfl rfl) (by rfl) T.JB PyProof.Rows.boot_all (aa (cW (osc:=ah gL) (ON:=["inputs","nexts","outs"]) (N:=["pair","nexts","inputs"]) (n:=1) (fx:=[1,0]) rfl rfl rfl (by decide +kernel) (be (K:=K) rfl (au k9 (pv 1) (pv 2))) (bc @C) (λ_ _ _ _ _=>⟨(av (i:=0) (show vr (["pair","nexts","inputs"]:C') from by decide +kernel) rfl @D),bJ,(ar (yn T) β T.A3 T.l8 (!j 0 (aa (aD (aM (K:=K) rfl) (by rfl) T.h8 u' (!j 1 af)) (!j 2 af))))⟩)) af)))) (ai (i9 K6 T.d9 thr0 rfl (by rfl) T.j6 (aa gh af))) bh)))))),aB (σ':=[ak _,ak _,ak _]) rfl ?_⟩
 lia;have m6:=t.m6;have ln:=t.ln;have lo:=t.lo;have hn:=t.n;have ho:=t.o;have ζ:(refs nx).length=nx.length:=cY ..
 have ξ:(refs os).length=os.length:=cY ..
 refine vD (ia @A) ?_;lia;refine vD (ia @A) ?_;lia;refine vD (ia @A) ?_;lia;refine qe hn ho (by rw[ri];omega) λp H2 ι α η=>?_;lia;intro D δ;refine bU (xs:=refs nx++refs os) (λi ys H'=>Cs (λi ys=>ys=(eH i true).map V.bl) H2 D i ys H') (Cs.zero δ rfl) (λi ys H' _ c=>SqL.of (c.same.get η)) (λi x ys H' Z c=>?_) (λys H' c=>?_)
 ·have Z:(refs (nx++os))[i]? =ak x:=by unfold refs at Z ⊢;rw[gA];exact Z
  obtain⟨O,γ,rfl⟩:=aJ Z;have hm:=hR γ;have hi:=(dt.mp γ).1;rw[gw] at hi;have hb:=t.bn O hm;have ht:H O.1=ak (.tup [nat O.2.1,nat O.2.2]):=(px.mp hm).elim (t.pn O) (t.po O);have ν:=c.same.get (α.get hn);lia;rw[ζ];refine⟨O.1,O.2.1,O.2.2,nx.length,m,rfl,c.same.get (α.get ht),hb.1,hb.2,?_⟩;refine Cs.put δ c.same c.at' c.len @A ?_;rw[c.pv,List.replicate_succ',gA];rfl
 ·have ε:=c.at';rw[c.pv] at ε;lia;refine Hl (SqL.of ε) ?_;lia;refine vD (by rw[List.all_replicate];simp) ?_;lia;exact q H' (α.trans c.same)
theorem hZ (T:Tx K mg a):FnOk P w K mg base CX0 5 a.aL a.iA ["self","inputs","nexts","outs"] (E7 a.ao):=by
 refine T.bW.1.okA kG λa0 A outer s H vs Q E χ h=>?_;obtain⟨x,dx,n,o,m,nx,os,rfl,β,t,q⟩:=h
 refine⟨_,((ae (bX (ar (qh T) χ T.sS T.gO (!j 1 (!j 2 (!j 3 af)))))
  (ae (mw (K:=K) rfl (pv 0) (pv 1) rfl)
  (ae (mw (K:=K) rfl (pv 0) (gi (pV (K:=K) rfl) (by rfl) T.vO MU (!j 2 af)) rfl)
  (ai (mw (K:=K) rfl (pv 0) (gi (pV (K:=K) rfl) (by rfl) T.vO MU (!j 3 af)) rfl)))))),aB (σ':=[ak _,ak _,ak _,ak _]) rfl ?_⟩
 lia;refine⟨n,o,m,nx,os,rfl,t,λH1 δ=>?_⟩;have ν:=gE t.n β @F;have α:=gE t.o β @F;lia;refine mj (δ.get β) T.ay T.aO @C rfl λH2 ε=>?_;have ξ:=ε.oth _ _ ν (δ.get t.n);have π:=ε.oth _ _ α (δ.get t.o);lia;intro ρ H3 υ ι e3;have Y:ρ≠x:=λz=>by rw[z,ε.at'] at υ;cases υ
 lia;refine mj (ι.get ε.at') T.ay T.bF (by show 1 < 1000;decide) rfl λZ ζ=>?_;have ψ:=ζ.oth _ _ α (ι.get π);have ω:=ζ.oth _ _ Y e3;lia;intro to H5 τ θ e5;have η:to≠x:=λz=>by rw[z,ζ.at'] at τ;cases τ
 lia;refine mj (θ.get ζ.at') T.ay T.bZ (by show 2 < 1000;decide) rfl fun φ γ=>?_;have k:∀b ob,b≠x->H b=ak ob->φ b=ak ob:=λb ob ο e=>γ.oth _ _ ο (θ.get (ζ.oth _ _ ο (ι.get (ε.oth _ _ ο (δ.get e)))));lia;refine q φ k ⟨⟨dx,ρ,to,γ.at',γ.oth _ _ Y (θ.get ω),γ.oth _ _ η e5⟩,λO h=>k _ _ ?_ (t.pn O h),λO h=>k _ _ ?_ (t.po O h)⟩
 ·exact gE (t.pn O h) β @F
 ·exact gE (t.po O h) β @F
theorem cu (T:Tx K mg a):FnOk P w K mg base CX0 1 a.aZ a.jx ["self"] (zF a.ao):=by
 refine T.a8.1.okA mi λY A outer s H vs Q E α h=>?_;obtain⟨p,m,nx,os,rfl,ma,q⟩:=h;obtain⟨dx,Z,to,ho,hn,O⟩:=ma.ho;refine⟨_,((ai (aC (aD (aM (K:=K) rfl) (by rfl) T.h8 u' (aa (bb (K:=K) rfl (pv 0) rfl) af))))),aB (σ':=[ak _]) rfl ?_⟩;lia;refine a9 ho T.ay T.bF rfl ?_;lia;unfold refs;rw[cY];exact q
theorem Au (T:Tx K mg a):FnOk P w K mg base CX0 2 a.jh a.xC ["pair","state","row"] Cc:=by
 refine T.og.1.okA zT λY A outer s H vs Q E O h=>?_;obtain⟨t,a1,b1,x,r,rfl,ht,ha,hb,q⟩:=h;refine⟨_,((ai (aC (ja mz (ar (vM T) O T.A4 T.rE (aa (au gH (!A @H (pv 0) ag) (pv 1)) af)) (ar (vM T) O T.A4 T.rE (aa (au gH (!A @H (pv 0) ag) (pv 2)) af)) (aK _))))),aB (σ':=[ak _,ak _,ak _]) rfl ?_⟩;lia;rw[bQ];refine⟨a1&&&x,rfl,v' OQ ha,?_⟩;lia;rw[bQ];refine⟨b1&&&r,rfl,v' OQ hb,?_⟩;lia;rw[zc];exact q
theorem lx (T:Tx K mg a):FnOk P w K mg base CX0 3 a.df a.nj ["pairs","state","row"] (E6 K):=by
 refine T.gv.1.okA rP fun ν A outer s H vs Q E ε h=>?_;obtain⟨r,ps,x,y,rfl,ζ,pt,hl,hb,q⟩:=h;refine⟨_,((ai (aC (ar (rg T) ε T.uI T.jY (aa (cW (osc:=ah ix) (ON:=["pairs","state","row"]) (N:=n13) (n:=2) (fx:=[1,2]) rfl rfl rfl (by decide +kernel) (CB (K:=K) rfl (by rfl) T.c9 (pv 0)) (Es (n6 (bc @C) (n6 (bc @C) A2))) (λ_ _ _ _ _=>⟨(Am (K:=K) (n:=2) rfl rfl (aF (av (i:=0) (show vr (n13:C') from by decide +kernel) rfl @D) (aF (av (i:=1) (show vr (n13:C') from by decide +kernel) rfl @D) eZ))),(oF (dG (ar (Au T) ε T.C7 T.og (!j 1 (!j 2 (!j 3 af)))))),(pv 0)⟩)) af))))),aB (σ':=[ak _,ak _,ak _]) rfl ?_⟩;lia;refine .inr ⟨⟨_,ζ⟩,?_⟩;intro D η;refine yH (xs:=refs ps) (λi ys H'=>Cs (λi ys=>∃qs:D8,ys=qs.map nat/\(∀p∈qs,p < i)/\M.xm qs=M.tr2 (prs (ps.take i)) x y) H D i ys H') (Cs.zero η ⟨[],rfl,λ_ h=>kf h @F,rfl⟩) (λi ys H' _ c=>Same.tup c.same ζ) (λi v ys H' p ο ι c fp α ξ=>?_) (λys H' c=>?_)
 ·obtain⟨O,γ,rfl⟩:=aJ ι;obtain⟨qs,Z,β,Y⟩:=c.pv;have hm:=hR γ;have hi:=(dt.mp γ).1;have ht:=α.get (c.same.get (pt O hm));have ts:=BX x y γ;lia;refine⟨O.1,O.2.1,O.2.2,x,y,rfl,ht,(hb O hm).1,(hb O hm).2,?_⟩;cases δ:(M.od (O.2.1&&&x)^^M.od (O.2.2&&&y)) with
  | true=>
    rw[δ,pT rfl] at ts;lia;refine Cs.put η (c.same.trans α) (α.get c.at') c.len @A ⟨qs++[i],?_,λk hk=>?_,?_⟩
    ·rw[Z,gA];rfl
    ·rcases px.mp hk with h | h
     ·have:=β k h;omega
     ·rw[hC.mp h];omega
    ·rw[M.xm_snoc,Y,ts]
  | false=>
    rw[δ,oT kv,KJ] at ts;lia;refine Cs.skip (c.same.trans α) (α.get c.at') c.len ⟨qs,Z,λk hk=>?_,?_⟩
    ·have:=β k hk;omega
    ·rw[Y,ts]
 ·obtain⟨qs,Z,β,Y⟩:=c.pv;rw[aS] at β Y;have θ:=c.at';rw[Z] at θ;lia;refine⟨D,qs,rfl,θ,λk hk=>by have:=β k hk;omega,?_⟩;rw[Y,vu];exact q _ c.same
theorem cX (T:Tx K mg a):FnOk P w K mg base (CX1 P w) 3 a.aG a.gu ["self","state"] (GQ K a.ao a.cS):=by
 refine T.aN.1.okX jA (λvs H Q E h=>?_) (fun β A outer s H vs Q E Z h=>?_)
 ·obtain⟨p,m,nx,os,x,k,rfl,_⟩:=h;rfl
 ·obtain⟨p,m,nx,os,x,k,rfl,ma,hk,O,Y⟩:=h;obtain⟨dx,γ,to,ho,hn,α⟩:=ma.ho;refine⟨_,((ai (dN (eX (dG (ar (mD T) Z T.lM T.iq (!j 1 (aa (aD (aM (K:=K) rfl) (by rfl) T.h8 u' (aa (bb (K:=K) rfl (pv 0) rfl) af)) af))))) (ai (i9 K6 T.gZ gJ rfl (by rfl) T.pH (aa gh af))) bh))),aB (σ':=[ak _,ak _]) rfl ?_⟩;lia;refine a9 ho T.ay T.bF rfl ?_;lia;rw[aS];cases hm:ki x (nx.length:Int) with
  | false=>
    lia;exact⟨by rw[ri];decide,Y hm⟩
  | true=>
    lia;exact O hm
theorem hV (T:Tx K mg a):FnOk P w K mg base (CX1 P w) 4 a.bC a.kz ["self","state","row"] (B8 K a.ao a.cS):=by
 refine T.b6.1.okX ox (λvs H Q E h=>?_) (fun ξ A outer s H vs Q E β h=>?_)
 ·obtain⟨p,m,nx,os,x,y,kx,ι,rfl,_⟩:=h;rfl
 ·obtain⟨p,m,nx,os,x,y,kx,ι,rfl,ma,g,δ,ν,θ,ε⟩:=h;obtain⟨dx,ζ,to,ho,hn,γ⟩:=ma.ho;have ln:=g.ln;have lo:=g.lo
  refine⟨_,((ae (bX (dX (pv 0) T.ay T.de (cX T) (β.mono @C) T.aN.2 .nil gJ (!j 1 af)))
   (ae (dN (eX (dG (ar (mD T) β T.lM T.iq (!j 2 (aa (bb (K:=K) rfl (pv 0) rfl) af))))) (ai (i9 K6 T.gZ gJ rfl (by rfl) T.pH (aa gh af))) bh)
   (ai (aC (b8 (aa (ar (lx T) β T.ng T.gv (aa (bb (K:=K) rfl (pv 0) rfl) (!j 1 (!j 2 af)))) (aa (ar (lx T) β T.ng T.gv (aa (bb (K:=K) rfl (pv 0) rfl) (!j 1 (!j 2 af)))) af)))))))),aB (σ':=[ak _,ak _,ak _]) rfl ?_⟩
  lia;refine cP ho rfl ?_;lia;refine⟨p,m,nx,os,x,kx,rfl,ma,δ,λhm=>?_,λhm=>ε (.inl hm)⟩;lia;refine a9 ho T.ay T.aO rfl ?_;lia;cases O:ki y (m:Int) with
  | false=>
    lia;exact⟨by rw[ri];decide,ε (.inr O)⟩
  | true=>
    obtain⟨a1,rfl,ha⟩:=n5 hm;obtain⟨b1,rfl,hb⟩:=n5 O;lia;refine a9 ho T.ay T.bZ rfl ?_;lia;refine⟨to,os,a1,b1,rfl,SqT.of γ,ma.hs,@A,g.b2,λH2 α=>?_⟩;lia;refine a9 (α.get ho) T.ay T.bF rfl ?_;lia;refine⟨ζ,nx,a1,b1,rfl,SqT.of (α.get hn),ma.hn.same α,@A,g.b1,fun π η=>?_⟩;lia;intro t Z ο Y ω;exact θ a1 b1 rfl rfl ha hb t Z (α.trans (η.trans Y)) ω
theorem mF (T:Tx K mg a):FnOk P w K mg base (CX1 P w) 5 a.aX a.jw ["self","rows","state"] (B5 K a.ao a.cS):=by
 refine T.cT.1.okX cj (λvs H Q E h=>?_) (λa6 A outer s H vs Q E ρ h=>?_)
 ·obtain⟨p,θ,m,nx,os,x,xs,rfl,_⟩:=h;rfl
 ·obtain⟨p,θ,m,nx,os,x,xs,rfl,ε,ω,π⟩:=h;obtain⟨dx,tn,to,ho,hn,a5⟩:=ε.ma.ho;obtain⟨kx,ο⟩:=ε.kx;have ln:=ε.ln;have a4:=ε.sq
  refine⟨_,((ae (bX (dX (pv 0) T.ay T.de (cX T) (ρ.mono @C) T.aN.2 .nil gJ (!j 2 af)))
   (ae (ax (i:=3) cj.nd rfl @D (cC af))
   (ae (c8 (oJ ⟨rfl,rfl⟩) rfl (be (K:=K) rfl (pv 1)) (av (i:=4) cj.nd rfl @D) (ae (ax (i:=5) cj.nd rfl @D (dX (pv 0) T.ay T.iI (hV T) (ρ.mono @C) T.b6.2 .nil gJ (!j 2 (!j 4 af))))
   (ae (bX (gF (K:=K) rfl sx wq wh cv (pv 3) (aa (!A @H (pv 5) ag) af)))
   (ai (ax (i:=2) cj.nd rfl @D (!A @H (pv 5) ag))))))
   (ai (aC (b8 (!j 3 (!j 2 af))))))))),aB (σ':=[ak _,ak _,ak _,none,none,none]) rfl ?_⟩
  lia;refine cP ho rfl ?_;lia;refine⟨p,m,nx,os,x,kx,rfl,ε.ma,ο,λhm=>?_,λhm=>π (.inl hm) H (Same.refl _)⟩;obtain⟨Z,rfl,α⟩:=n5 hm;lia;intro D H1 υ χ e1;lia;refine fX (xs:=xs) (λi σ H'=>∃(rs:D8) (v ψ:sh V),σ=[ak (.ref p),ak (.ref θ),ak (nat (M.wst @E Z rs)),ak (.ref D),v,ψ]/\Same H H'/\H' D=ak (.lst ((M.wan @E @G Z rs).map nat))/\xs.take i=rs.map nat/\∀r∈rs,r < 2 ^ m) ⟨[],none,none,rfl,χ,e1,rfl,λ_ h=>kf h @F⟩ (λi σ H' _ ⟨_,_,_,_,e,_⟩=>Same.seq e ε.sq) ?_ ?_
  ·rintro i y σ H' ζ ⟨rs,v,ψ,rfl,Y,ι,et,β⟩;obtain⟨ky,ξ⟩:=ε.ks y (hR ζ);have hi:=(dt.mp ζ).1;have a3:rs.length=i:=by have:=y3 ML et;rw[JW,cY] at this;omega
   have δ:M.wst @E Z rs < 2 ^ nx.length:=by have:=M.wst_lt (ps:=prs nx) (rs:=rs) (x:=Z) (by rw[aq];exact α);rwa [aq] at this
   lia;refine cP (Y.get ho) rfl ?_;lia;refine⟨p,m,nx,os,nat (M.wst @E Z rs),y,"int",ky,rfl,ε.ma.same Y,ε.g,rfl,AM ξ Y,λa1 b1 ea eb ha hb t φ γ η=>?_,λO=>?_⟩
   ·have ea:=iH ea;subst ea;subst eb;lia;refine dU (γ.get ι) (by rw[cY,M.wan_len,ri];omega) λH8 ν=>?_;have e8:=ν.oth _ _ (gE η (γ.get ι) @F) η;lia;refine⟨rs++[b1],?_⟩;rw[M.wst_snoc,M.wan_snoc,gA];refine⟨_,_,rfl,λb o e=>ν.oth _ _ (aw e υ) (γ.get (Y.get e)),ν.at',?_,λr τ=>?_⟩
    ·rw[Lo,et,ζ,gA];rfl
    ·rcases px.mp τ with h | h
     ·exact β r h
     ·rw[hC.mp h];exact hb
   ·rcases O with h | h
    ·rw[cQ δ] at h;cases h
    ·exact π (.inr ⟨y,hR ζ,h⟩) H' Y
  ·rintro σ H' ⟨rs,v,ψ,rfl,Y,ι,et,β⟩;rw[vu] at et;lia;intro t φ f7 γ η;exact ω Z rs ⟨rfl,et,α,β⟩ t D φ υ (Y.trans γ) η (γ.get ι)
theorem qm (T:Tx K mg a):FnOk P w K mg base (CX1 P w) 6 a.bD a.jk ["self","rows","state"] (GN K a.ao a.cS):=by
 refine T.fu.okX qd (λvs H Q E h=>?_) (fun ζ A outer s H vs Q E α h=>?_)
 ·obtain⟨p,θ,m,nx,os,x,xs,rfl,_⟩:=h;rfl
 ·obtain⟨p,θ,m,nx,os,x,xs,rfl,ε,Y,Z⟩:=h;obtain⟨dx,η,to,ho,hn,β⟩:=ε.ma.ho;refine⟨_,((ai (aC (!A @H (dX (pv 0) T.ay T.nH (mF T) (α.mono @C) T.cT.2 .nil gJ (!j 1 (!j 2 af))) ag)))),aB (σ':=[ak _,ak _,ak _]) rfl ?_⟩;lia;refine cP ho rfl ?_;lia;refine⟨p,θ,m,nx,os,x,xs,rfl,ε,λa1 rs g t D H2 γ O et δ=>?_,Z⟩;lia;exact Y a1 rs g D H2 γ O δ
theorem mG (T:Tx K mg a):FnOk P w K mg base (CX1 P w) 7 a.a7 a.jy ["self","which","turns"] (zG K a.ao a.cS):=by
 refine T.cU.1.okX iM (λvs H Q E h=>?_) (λa3 A outer s H vs Q E ο h=>?_)
 ·obtain⟨p,m,nx,os,x,k,γ,rfl,_⟩:=h;rfl
 ·obtain⟨p,m,nx,os,x,k,γ,rfl,ma,g,hk,hT,ψ,δ⟩:=h;obtain⟨dx,tn,to,ho,hn,a0⟩:=ma.ho;have m6:=g.m6
  refine⟨_,((ae (dN (PW.pt (i8 (eX (dG (ar (kP T) ο T.mW T.gX (!j 1 af)))) (i8 (aH CH (pv 1) ag (aK _)) (iN (aH HR (pv 1) (bb (K:=K) rfl (pv 0) rfl) (aK _)))))) (ai (i9 K6 T.gZ gJ rfl (by rfl) T.pH (aa gh af))) bh)
   (ae (ax (i:=3) iM.nd rfl @D (au k9 (cC (aa (au bM ag (pv 1)) af)) (au xa (cC (aa ag af)) (pv 2))))
   (ai (aC (dX (dvs:=[.int 0]) (pv 0) T.ay T.sk (qm T) (ο.mono @C) T.jq (.cons T.rJ .nil) gJ (aa (rY (rO (K:=K) rfl) (pv 3) vH (vG (pv 2))) af))))))),aB (σ':=[ak _,ak _,ak _,none]) rfl ?_⟩
  lia;cases x with
  | int i=>
    have hk:k="int":=hk;subst hk;lia;by_cases π:i < 0
    ·refine zU (lh π) ?_;lia;exact⟨by rw[ri];decide,δ (by show(decide ((0:Int)<=i)&&decide (i < (m:Int)))=false;rw[ia @A];rfl)⟩
    ·refine vD (ia π) ?_;lia;refine a9 ho T.ay T.aO rfl ?_;lia;by_cases h1:(m:Int)<=i
     ·refine zU (lh h1) ?_;lia;exact⟨by rw[ri];decide,δ (by show(decide ((0:Int)<=i)&&decide (i < (m:Int)))=false;rw[ia (show ¬i < (m:Int) by omega),NR])⟩
     ·refine vD (ia h1) ?_;obtain⟨j,rfl⟩:=Ly (show 0<=i by omega);lia;rw[shl1];intro D1 H1 f1 ξ e1;lia;intro D2 H2 f2 ι e2;lia;refine Cg e2 @A @A (by rw[ri,lS];simp;omega) fun η H3 υ ζ φ=>?_;rw[lS,List.flatten_replicate_singleton] at φ;refine qe (ζ.get (ι.get e1)) φ (by rw[qq,ri];simp;omega) λD4 Z f4 Y ω=>?_;have er:[nat (2 ^ j)]++eH γ (V.int 0)=(2 ^ j::eH γ 0).map nat:=by rw[Ka,List.map_replicate];rfl
      rw[er] at ω;lia;refine cP (Y.get (ζ.get (ι.get (ξ.get ho)))) rfl ?_;lia;intro D5 H5 f5 ε ρ;rw[sZ _ γ (by rw[cY,ub,qq];omega),<-Mx,M.pulse_eq] at ρ;have α:=ξ.trans (ι.trans (ζ.trans (Y.trans ε)));lia;refine⟨p,D5,m,nx,os,nat 0,(M.pulse j γ).map nat,rfl,⟨ma.same α,g,⟨"int",rfl⟩,SqL.of ρ,BI.nats _ _ _,by rw[cY,M.pulse_len];omega⟩,λa1 rs gd D H6 θ χ eD=>?_,λO=>?_⟩
      ·obtain⟨ea,β,_,_⟩:=gd;have ea:=iH ea;subst ea
       have β:rs=M.pulse j γ:=by
        have:=y3 (List.map λv:V=>match v with | .int i=>i.toNat | _=>0) β;rw[Ks,Ks] at this;exact(this.symm.trans (Qo _)) ▸ (Qo _).symm ▸ rfl
       subst β
       have ν:H D=none:=by
        cases hx:H D with
        | none=>rfl
        | some v=>have:=α.get hx;rw[θ] at this;cases this
       exact ψ j rfl @A D H6 ν (α.trans χ) eD
      ·rcases O with h | ⟨y,hy,h⟩
       ·rw[show ki (nat 0) (nx.length:Int)=true from cQ (kb _)] at h;cases h
       ·obtain⟨r,τ,rfl⟩:=ov.mp hy;rw[cQ (M.pulse_lt (show j < m by omega) γ r τ)] at h;cases h
  | bl b=>have hk:k="bool":=hk;subst hk;lia;exact⟨by rw[ri];decide,δ rfl⟩
  | non=>have hk:k="NoneType":=hk;subst hk;lia;exact⟨by rw[ri];decide,δ rfl⟩
  | str z=>have hk:k="str":=hk;subst hk;lia;exact⟨by rw[ri];decide,δ rfl⟩
  | ref p2=>
    rcases hk with ⟨rfl,_⟩ | ⟨rfl,_⟩ | ⟨rfl,_⟩<;>lia<;>exact⟨by rw[ri];decide,δ rfl⟩
  | _=>exact K8 hk
theorem hX (T:Tx K mg a):FnOk P w K mg base (CX1 P w) 4 a.bE a.kA ["self","mask"] (B9 K a.ao a.cS):=by
 refine T.b7.1.okX ck (λvs H Q E h=>?_) (λa3 A outer s H vs Q E ζ h=>?_)
 ·obtain⟨p,m,nx,os,x,k,rfl,_⟩:=h;rfl
 ·obtain⟨p,m,nx,os,x,k,rfl,ma,g,hk,δ,ξ⟩:=h;obtain⟨dx,tn,to,ho,hn,τ⟩:=ma.ho;have ln:=g.ln
  refine⟨_,((ae (bX (dX (pv 0) T.ay T.de (cX T) (ζ.mono @C) T.aN.2 .nil gJ (!j 1 af)))
   (ae (ax (i:=2) ck.nd rfl @D ag)
   (ae (ax (i:=3) ck.nd rfl @D ag)
   (ae (c8 (oJ ⟨rfl,rfl⟩) rfl (be (K:=K) rfl (ar (j4 T) ζ T.lO T.ir (!j 1 af))) (av (i:=4) ck.nd rfl @D) (ae (ax (i:=2) ck.nd rfl @D (au fw (pv 2) (!A @H (!A @H (bb (K:=K) rfl (pv 0) rfl) (pv 4)) ag)))
   (ai (ax (i:=3) ck.nd rfl @D (au fw (pv 3) (!A @H (!A @H (bb (K:=K) rfl (pv 0) rfl) (pv 4)) ag))))))
   (ai (aC (b8 (!j 2 (!j 3 af)))))))))),aB (σ':=[ak _,ak _,none,none,none]) rfl ?_⟩
  lia;refine cP ho rfl ?_;lia;refine⟨p,m,nx,os,x,k,rfl,ma,hk,λhm=>?_,ξ⟩;obtain⟨Z,rfl,α⟩:=n5 hm;lia;refine⟨Z,rfl,iO α @A,λD H1 f1 Y ι=>?_⟩;rw[M.pl_up α @A] at ι;generalize θ:nx.map (λq=>q.2.1)=As at δ;generalize η:nx.map (λq=>q.2.2)=Bs at δ;have π:As.length=nx.length:=by rw[<-θ,cY]
  have ο:Bs.length=nx.length:=by rw[<-η,cY]
  lia;refine fX (xs:=(M.pl nx.length Z).map nat) (λi σ H'=>∃v,σ=[ak (.ref p),ak (nat Z),ak (nat (((M.pl nx.length Z).take i).foldl (λa p=>a^^^As.getD p 0) 0)),ak (nat (((M.pl nx.length Z).take i).foldl (λa p=>a^^^Bs.getD p 0) 0)),v]/\H'=H1) ⟨none,rfl,rfl⟩ (λi σ H' _ ⟨_,_,e⟩=>by rw[e];exact SqL.of ι) ?_ ?_
  ·rintro i y σ H' ρ ⟨v,rfl,rfl⟩;obtain⟨k,β,rfl⟩:=aJ ρ;have ε:k < nx.length:=zx.mp (KB.mp (hR β)).1;obtain⟨O,γ⟩:∃O,nx[k]? =ak O:=⟨_,gs ε⟩;have φ:atI (refs nx) (k:Int)=ak (.ref O.1):=ip (by unfold refs;rw[ic,γ];rfl);have ht:=Y.get (ma.hn O (hR γ));have υ:=Y.get hn;have ψ:As.getD k 0=O.2.1:=by rw[<-θ,eh,ic,γ];rfl
   have χ:Bs.getD k 0=O.2.2:=by rw[<-η,eh,ic,γ];rfl
   lia;refine a9 (Y.get ho) T.ay T.bF rfl ?_;lia;refine a9 (Y.get ho) T.ay T.bF rfl ?_;lia;refine⟨ak (nat k),?_,rfl⟩;rw[aU,aU,take_succ β,KN,KN];show _=[_,_,ak (nat (_^^^As.getD k 0)),ak (nat (_^^^Bs.getD k 0)),_];rw[ψ,χ]
  ·rintro σ H' ⟨v,rfl,rfl⟩;rw[cY,vu,M.sm_places As Z (by rw[π];exact α) nx.length @A,M.sm_places Bs Z (by rw[ο];exact α) nx.length @A];lia;intro t H2 f2 ν ω;exact δ Z rfl α t H2 (Y.trans ν) ω
theorem oU (T:Tx K mg a):FnOk P w K mg base CX0 1 a.bB a.ku ["self"] (E4 a.ao):=by
 refine T.dR.1.okA ou fun ξ A outer s H vs Q E τ h=>?_;obtain⟨p,m,nx,os,rfl,ma,g,q⟩:=h;obtain⟨dx,ρ,to,ho,hn,Z⟩:=ma.ho;refine⟨_,((ai (aC (b8 (aa (bb (K:=K) rfl (pv 0) rfl) (aa (gi (gU (K:=K) rfl) (by rfl) T.kn zv (aa (bb (K:=K) rfl (pv 0) rfl) af)) (aa (gi (gU (K:=K) rfl) (by rfl) T.kn zv (aa (bb (K:=K) rfl (pv 0) rfl) af)) af))))))),aB (σ':=[ak _]) rfl ?_⟩;lia;refine a9 ho T.ay T.aO rfl ?_;lia;refine a9 ho T.ay T.bF rfl ?_;lia;intro π H1 θ O ε;have η:=O.get Z;lia;refine a9 (O.get ho) T.ay T.bZ rfl ?_;lia;intro β H2 δ γ ν;lia;intro t ο υ Y ι
 have α:H β=none:=by
  cases ζ:H β with
  | none=>rfl
  | some v=>have:=O.get ζ;rw[δ] at this;cases this
 exact q t π β ο θ α (aw ε δ) (O.trans (γ.trans Y)) ι (Y.get (γ.get ε)) (Y.get ν)
theorem bT (T:Tx K mg a):FnOk P w K mg base CX0 1 a.aP a.iT ["self"] (x9 a.ao):=by
 refine T.aR.1.okA kW λY A outer s H vs Q E α h=>?_;obtain⟨p,m,nx,os,rfl,ma,q⟩:=h;obtain⟨dx,Z,to,ho,hn,O⟩:=ma.ho;refine⟨_,((ai (aC (aD (aM (K:=K) rfl) (by rfl) T.h8 u' (aa (bb (K:=K) rfl (pv 0) rfl) af))))),aB (σ':=[ak _]) rfl ?_⟩;lia;refine a9 ho T.ay T.bZ rfl ?_;lia;unfold refs;rw[cY];exact q
end
end
local macro_rules | `(tactic| walk_at "l2step") =>`(tactic| first | ((with_reducible refine' m4 ?e ?a ?_);(case e=>walk_at "l2hp");(case a=>walk_at "l2side")) | ((with_reducible refine' Gj ?a ?b ?_);(case a=>walk_at "l2side");(case b=>walk_at "l2side");(with_reducible intro _ _)))
section
variable {P:qc} {w:u7} {K:bp} {mg:F'} {base:z1} {a:Ad}
local macro_rules | `(tactic| walk_at "l2step") =>`(tactic| first | ((with_reducible refine' cZ ?e ?_);(case e=>walk_at "l2kind")) | ((with_reducible refine' fz ?e ?_);(case e=>walk_at "l2kind")) | (with_reducible refine bS ?_) | (with_reducible refine c6 ?_))
local macro_rules | `(tactic| walk_at "l2step") =>`(tactic| first | ((with_reducible refine' m4 ?e ?a ?_);(case e=>walk_at "l2hp");(case a=>walk_at "l2side")))
theorem mE (T:Tx K mg a):FnOk P w K mg base CX0 5 a.bH a.ju ["_law_told","_law_found","_law_cells"] (vw K a.ao):=by
 refine T.dY.1.okA bt λh6 A outer s H vs Q E ν h=>?_;obtain⟨t,n,o,m,nx,os,f,x,D,d,γ,ξ,μs,rs,c,cs,rfl,tt,ef,eD,ma,b0,en,eo,bk,f0,c0,ec,lc,q⟩:=h;have ι:=AX ν;have e0:=tt.t;have a3:=tt.tab.n;have a0:=tt.tab.o;obtain⟨dm,xn,xo,ο,_⟩:=ma.ho;obtain⟨rl,rb,a6,rn⟩:=bk.rws;have m6:=tt.tab.m6;have f8:CPow (1:Int) ((m:Nat):Int):=⟨@A,@A,@C⟩;have a4:=bk.le;rw[aq] at a4;have c1:ξ.length=m:=by have:=y3 ML eo;rw[aq,xW,bk.mks.len] at this;exact this
 have h5:(d + 1) * os.length < 64:=v' (LC _ @A) c0
 have e8:γ.length<=80:=by
  have h1:=y3 ML en;have h2:=xV (ps:=prs nx) (os:=prs os) (d:=d) (μs:=μs);rw[aq] at h1;rw[aq,aq] at h2;omega
 refine⟨_,((ae (qY (pv 1) (iP rfl (aF (av (i:=3) bt.nd rfl @D) (aF (av (i:=4) bt.nd rfl @D) (aF (av (i:=5) bt.nd rfl @D) (aF (av (i:=6) bt.nd rfl @D) eZ))))))
  (ae (dN (PW.pt (i8 (eX (dG (ar (ff T) ν T.gm T.cD (!j 4 (aa (aD (aM (K:=K) rfl) (by rfl) T.h8 u' (aa (!A @H (pv 0) ag) af)) af))))) (i8 (eX (dG (aD (yK (K:=K) rfl) (by rfl) T.bK wY (!j 5 (aa (rZ (v:= .ref a.ao) (by rfl) T.pG rfl) af))))) (iN (eX (dG (aD (fj (K:=K) rfl) (by rfl) T.bK wY (!j 6 (aa (jb (v:= .ty "list") (by rfl) T.kn zv rfl) af))))))))) (ai (aC mx)) bh)
  (ae (dN (PW.pt (i8 (aH mz (bb (K:=K) rfl (pv 5) rfl) (aD (aM (K:=K) rfl) (by rfl) T.h8 u' (aa (!A @H (pv 0) ag) af)) (aK _)) (i8 (aH mz (fc (pv 5) T.ay T.cw (bT T) (ν.mono @C) T.aR.2 .nil iw) (!A @H (pv 0) ag) (aK _)) (iN (aH mz (aD (aM (K:=K) rfl) (by rfl) T.h8 u' (!j 6 af)) (pv 4) (aK _)))))) (ai (aC mx)) bh)
  (ae (dN (PW.pt (i8 (aH (r8 (K:=K) rfl ι) (cW (osc:=ah dW) (ON:=["_law_told","_law_found","_law_cells","_law_word","_law_delay","_law_other","_law_rows_here","_law_cell_here","_law_some"]) (N:=["_law_row","_law_told"]) (n:=1) (fx:=[0]) rfl rfl rfl (by decide +kernel) (be (K:=K) rfl (pv 6)) (bc @C) (λ_ _ _ _ _=>⟨(av (i:=0) (show vr (["_law_row","_law_told"]:C') from by decide +kernel) rfl @D),(oF (eX (dG (ar (ff T) ν T.gm T.cD (!j 0 (aa (au eg (au bM ag (!A @H (pv 1) ag)) ag) af)))))),(pv 0)⟩)) (cC af) (aK _)) (iN (aH (Aq (K:=K) rfl ι) (rY (rO (K:=K) rfl) (pv 6) vH (vG ag)) (cC (aa ag af)) (aK _))))) (ai (aC mx)) bh)
  (ae (dN (aH (r8 (K:=K) rfl ι) (ar (kQ T) ν T.mX T.gY (!j 0 (!j 6 af))) (au xa (cC (aa ag af)) (pv 4)) (aK _)) (ai (aC mx)) bh)
  (ae (c8 ry rfl (be (K:=K) rfl (pv 2)) (av (i:=7) bt.nd rfl @D) (ae (ax (i:=8) bt.nd rfl @D (ar (uo T) ν T.wa T.jm (!j 7 (aa ag (aa (!A @H (pv 0) ag) af)))))
  (ai (dN (aH (r8 (K:=K) rfl ι) (ar (kQ T) ν T.mX T.gY (aa (fc (pv 5) T.ay T.qv (oU T) (ν.mono @C) T.dR.2 .nil iw) (aa (ar (kQ T) ν T.mX T.gY (!j 0 (!j 8 af))) af))) (au k9 (au xa (cC (aa ag af)) (pv 4)) (rY (rO (K:=K) rfl) (pv 8) vH (vG (au eg ag (pv 4))))) (aK _)) (ai (aC mx)) bh))))
  (ai (aC mx))))))))),aB (σ':=[ak _,ak _,ak _,none,none,none,none,none,none]) rfl ?_⟩
 lia;refine⟨d,nx.length,by rw[aS],?_⟩;rw[lh a4];lia;refine G8 ο T.BJ T.fM ?_;lia;refine a9 ο T.ay T.aO rfl ?_;lia;rw[aS];lia;dsimp only;rw[oT @F];lia;refine cb ο rfl ?_;lia;refine⟨x,os.length,γ,ξ,rfl,ma,?_⟩;rw[c1];lia;dsimp only;rw[oT @F];lia;rw[cY,rl];lia;dsimp only;rw[oT @F];lia;intro D1 c3;refine bU (xs:=rs.map nat) (λi ys H'=>Cs (λi ys=>ys=[]) H D1 i ys H') (Cs.zero c3 rfl) (λi ys H' _ c=>SqL.of (c.same.get eD)) (λi v ys H' hv c=>?_) (λys H1 c=>?_)
 ·obtain⟨r,τ,rfl⟩:=aJ hv;have f1:=rb r (hR τ);have h4:=c.same.get e0;lia;have p2:=kb m;refine⟨r,2 ^ m - 1,by rw[shl1,show(((2 ^ m - 1:Nat):Nat):Int)=((2 ^ m:Nat):Int) - 1 by omega],?_⟩;rw[lh (show r<=2 ^ m - 1 by omega)];lia;exact Cs.skip c.same c.at' c.len c.pv
 ·have e1:=c.at';rw[c.pv] at e1;have s1:=c.same;clear c;lia;intro L2 H2 f2 s2 e2;refine uf (ns:=[]) (SqL.of (s2.get e1)) (SqL.of e2) ?_;have φ:=s1.trans s2;have g5:=φ.get eD;lia;intro η H3 υ s3 e3;lia;intro L4 H4 f4 s4 ω;rw[Gi] at e3;refine Fl (ns:=rs.take 1) (ms:=[0]) (SqL.of (s4.get e3)) (SqL.of ω) rn ?_;have α:=φ.trans (s3.trans s4);lia;refine⟨t,n,o,D,nat m,nx,os,rs,rfl,α.get e0,SqL.of (α.get a3),SqL.of (α.get a0),tt.tab.pn.same α,tt.tab.po.same α,tt.tab.ln,L9 tt.tab.lo @C,α.get eD,@A,λx ο=>fb (rb x ο) (gn @C @A),λD5 H5 f5 ε e5=>?_⟩;rw[a6] at e5;lia;intro D6 H6 ζ s6 e6;lia;refine Cg e6 @A @A (by rw[ri,lS];simp;omega) λD7 H7 f7 s7 e7=>?_;have e7:H7 D7=ak (.lst ((eH d 0).map nat)):=by rw[e7];simp
  refine uf (SqL.of (s7.get (s6.get e5))) (SqL.of e7) ?_;have a5:=α.trans (ε.trans (s6.trans s7));clear s1 s2 s3 s4 ε s6 s7 e1 e2 e3 ω e5 e6 e7 f2 υ f4 f5 ζ f7;lia;refine fX (xs:=cs.map V.int) (λi σ H'=>∃v7 v8,σ=[ak (V.ref t),ak (V.ref f),ak (V.ref c),ak (V.str (MV "back")),ak (nat d),ak (V.ref x),ak (V.ref D),v7,v8]/\Same H H') ⟨none,none,rfl,a5⟩ (λi σ H' _ ⟨_,_,_,s'⟩=>SqL.of (s'.get ec)) ?_ ?_
  ·rintro i y σ H8 hy ⟨v7,v8,rfl,s8⟩;obtain⟨cc,g0,rfl⟩:=aJ hy;have h3:=s8.get e0;lia;refine⟨cc,20,m,rfl,@C,@A,λO H9 us f9 s9 e9 l9 b9=>?_⟩;have Z:=s8.trans s9;have c2:=Z.get ο;lia;refine cb c2 rfl ?_;lia;refine⟨x,os.length,γ,ξ,rfl,ma.same Z,b0,λt2 n2 o2 HA g4 g3 d3 sA eA d0 c5=>?_⟩;have Y:=Z.trans sA;lia;refine⟨t,n,o,O,nat m,nx,os,us,rfl,Y.get e0,SqL.of (Y.get a3),SqL.of (Y.get a0),tt.tab.pn.same Y,tt.tab.po.same Y,tt.tab.ln,L9 tt.tab.lo @C,sA.get e9,@A,λx ο=>fb (b9 x ο) (gn @C @A),λDB HB fB ρ eB=>?_⟩;have β:=Y.trans ρ;have χ:=ma.same β;lia;refine⟨t2,n2,o2,DB,nat os.length,γ,ξ,_,rfl,ρ.get eA,SqL.of (ρ.get d0),SqL.of (ρ.get c5),χ.hn,χ.hs,@A,@A,eB,by rw[M.wan_len];omega,λy hy=>fb (M.wan_lt @E @G us 0 y hy) (gn @C (by rw[aq];have:=tt.tab.lo;omega)),λDC HC fC sC eC=>?_⟩
   have hA:∀q∈prs nx++prs os,q.1 < 2 ^ (@E).length:=fun δ ψ=>by
    rw[show prs nx++prs os=prs (nx++os) from(gA ..).symm] at ψ;obtain⟨r,τ,rfl⟩:=ov.mp ψ;rw[aq];exact(tt.tab.bn r τ).1
   rw[en,eo,M.told_back bk.mks hA (by rw[aq,aq];omega) (by rw[aq];have:=tt.tab.lo;omega) @A b9,l9,Qx,qq,Lp (show(eH d 0).length<=20 by rw[qq];omega)] at eC;lia;intro DD HD θ sD d1;have d2:=(sA.trans (ρ.trans (sC.trans sD))).get e9;lia;refine Cg d1 @A @A (by rw[ri,lS];simp;omega) λDE HE fE sE eE=>?_;have eE:HE DE=ak (.lst ((eH d 0).map nat)):=by rw[eE];simp
   have h0:=sE.get d2;lia;intro DF HF fF sF eF;rw[show(20:Int) - (d:Int)=((20 - d:Nat):Int) by omega,sZ _ _ (by rw[cY];omega),<-Mx] at eF;refine qe (sF.get eE) eF (by rw[cY,cY,qq,JW];exact KA (c4 @A)) λDG HG fG sG eG=>?_;rw[<-gA] at eG;have π:=sD.trans (sE.trans (sF.trans sG));refine uf (SqL.of (π.get eC)) (SqL.of eG) ?_;lia;exact⟨_,_,rfl,β.trans (sC.trans π)⟩
  ·rintro σ H8 ⟨v7,v8,rfl,s8⟩;lia;exact q _ s8
end
section
variable {P:qc} {w:u7} {K:bp} {mg:F'} {base:z1} {a:Ad}
local macro_rules | `(tactic| walk_at "l2step") =>`(tactic| first | ((with_reducible refine' cZ ?e ?_);(case e=>walk_at "l2kind")) | ((with_reducible refine' fz ?e ?_);(case e=>walk_at "l2kind")) | (with_reducible refine bS ?_) | (with_reducible refine c6 ?_))
local macro_rules | `(tactic| walk_at "l2step") =>`(tactic| first | (with_reducible refine Fp ?_))
theorem ly (T:Tx K mg a):FnOk P w K mg base CX0 4 a.bx a.iS ["_law_told","_law_found"] tU:=by
 refine T.dF.1.okA aE λl9 A outer s H vs Q E ι h=>?_;obtain⟨t,n,o,m,nx,os,H0,f,B,S,I,L,u,bars,O,bq,ls,rfl,tt,h6,γ,q⟩:=h;have e0:=tt.t;have c3:=tt.tab.n;have c2:=tt.tab.o;have m6:=tt.tab.m6;have et:=γ.ht;have eB:=γ.hb;have eS:=γ.hs;have eI:=γ.hi;have eL:=γ.hl
 have lw:O.length<=nx.length:=by
  obtain⟨j,S,_⟩:=γ.fev.ex
  have hl:∀r∈O.map (· % 2 ^ (prs nx).length),r < 2 ^ nx.length:=λr ι=>by
   obtain⟨x,_,rfl⟩:=ov.mp ι;rw[aq];exact Mj _ (kb _)
  have:=M.rank_le hl;rw[M.fr_inj S.w.inj,cY] at this;exact this
 have d0:∀w∈O,w < 2 ^ (nx.length + m)/\M.tr2 @G (w % 2 ^ (@E).length) (w>>>(@E).length)=0:=by
  obtain⟨j,S,_⟩:=γ.fev.ex;exactλw hw=>⟨by have:=S.w.lt w hw;rw[aq] at this;exact this,(S.w.ev w hw).1⟩
 generalize θ:O.map (· % 2 ^ (@E).length)=Ss at *
 generalize c0:O.map (·>>>(@E).length)=Is at *
 have τ:Ss.length=O.length:=by rw[<-θ,cY]
 have lI:Is.length=O.length:=by rw[<-c0,cY]
 have ll:=γ.ll
 have b0:∀{x p:Nat},Sumd Ss x p->M.xs Ss (M.pl 1000 p)=x/\(M.pl 1000 p).Pairwise (· < ·)/\(∀k∈M.pl 1000 p,k < O.length):=λ{x p} sd=>by
  refine⟨?_,M.pl_rise 1000 p,λk hk=>?_⟩
  ·rw[M.pl_up sd.lt @A,M.xs_pl,sd.sm]
  ·rw[<-τ];exact M.pl_lt sd.lt k hk
 obtain⟨j3,f0,e8⟩:=b0 (by have:=γ.bs;rw[θ] at this;exact this)
 refine⟨_,((ae (qY (pv 1) (iP rfl (aF (av (i:=2) aE.nd rfl @D) (aF (av (i:=3) aE.nd rfl @D) (aF (av (i:=4) aE.nd rfl @D) (aF (av (i:=5) aE.nd rfl @D) (aF (av (i:=6) aE.nd rfl @D) (aF (av (i:=7) aE.nd rfl @D) eZ))))))))
  (ae (ax (i:=8) aE.nd rfl @D (aD (aM (K:=K) rfl) (by rfl) T.h8 u' (!j 5 af)))
  (ae (dN (PW.pt (i8 (aH mz (aD (aM (K:=K) rfl) (by rfl) T.h8 u' (!j 6 af)) (pv 8) (aK _)) (i8 (aH mz (aD (aM (K:=K) rfl) (by rfl) T.h8 u' (!j 7 af)) (pv 8) (aK _)) (iN (eX (dG (ar (km T) ι T.lP T.fq (!j 4 (!j 8 af))))))))) (ai (aC mx)) bh)
  (ae (c8 ry rfl (FK (K:=K) rfl (by rfl) T.HY (au k9 (pv 5) (cC (aa ag af))) (au k9 (pv 6) (cC (!j 3 af))) (au k9 (pv 7) (cC (!j 4 af)))) (iP rfl (aF (av (i:=9) aE.nd rfl @D) (aF (av (i:=10) aE.nd rfl @D) (aF (av (i:=11) aE.nd rfl @D) eZ)))) (ae (dN (PW.pt (i8 (eX (dG (ar (ff T) ι T.gm T.cD (!j 9 (aa (au eg (au bM ag (aD (aM (K:=K) rfl) (by rfl) T.h8 u' (aa (!A @H (pv 0) ag) af))) ag) af))))) (iN (eX (dG (ar (ff T) ι T.gm T.cD (!j 10 (aa (au eg (au bM ag (!A @H (pv 0) ag)) ag) af)))))))) (ai (aC mx)) bh)
  (ae (dN (PW.pt (i8 (eX (dG (ar (km T) ι T.lP T.fq (!j 11 (!j 8 af))))) (iN (aH mz (ar (iy T) ι T.jc T.d8 (aa (!A @H (pv 0) ag) (!j 9 (!j 10 af)))) ag (aK _))))) (ai (aC mx)) bh)
  (ai (dN (aH mz (ar (iy T) ι T.jc T.d8 (aa (!A @H (pv 0) ag) (!j 9 (!j 10 af)))) (ar (qj T) ι T.sV T.gQ (!j 5 (!j 11 af))) (aK _)) (ai (aC mx)) bh)))))
  (ai (aC (ja mz (pv 3) ag (aK _))))))))),aB (σ':=[ak _,ak _,none,none,none,none,none,none,none,none,none,none]) rfl ?_⟩
 lia;simp only[cY,τ,lI];rw[oT @F];lia;simp only[cY,ll];rw[oT @F];lia;refine⟨B,_,O.length,rfl,eB,f0,e8,@A,λH1 s1=>?_⟩;have f8:=s1.get eS;lia;intro D2 H2 f2 s2 e2;lia;refine qe (s2.get f8) e2 (by rw[cY,τ,ri];simp;omega) fun η H3 υ s3 e3=>?_;have a3:=s1.trans (s2.trans s3);have g3:=a3.get eI;lia;intro D4 H4 f4 s4 ω;lia;refine qe (s4.get g3) ω (by rw[cY,lI,ri];simp;omega) λD5 H5 f5 ε e5=>?_;have a0:=a3.trans (s4.trans ε);have g0:=a0.get eL;lia;intro D6 H6 f6 s6 e6;lia;refine qe (s6.get g0) e6 (by rw[cY,ll,ri];simp;omega) λD7 H7 f7 s7 e7=>?_;have ψ:=a0.trans (s6.trans s7);have c5:=(s4.trans (ε.trans (s6.trans s7))).get e3;have α:=(s6.trans s7).get e5;lia
 have ζ:∀(i:Nat) (χ φ π:V),(Ss.map nat++[V.int 0])[i]? =ak χ->(Is.map nat++[nat u])[i]? =ak φ->((ls.map λq=>V.ref q.1)++[V.ref B])[i]? =ak π->∃(x r:Nat) (pA:fy) (q:Nat),χ=nat x/\φ=nat r/\π= .ref pA/\H pA=ak (.lst ((M.pl 1000 q).map nat))/\x < 2 ^ nx.length/\r < 2 ^ m/\M.tr2 @G x r=0/\Sumd Ss (M.tr2 @E x r) q:=by
  intro i χ φ π ν ο hz;by_cases hi:i < O.length
  ·have a4:=d0 _ (KU hi);rw[qM (by rw[cY];omega),<-θ,ic,ic,gs hi] at ν;rw[qM (by rw[cY];omega),<-c0,ic,ic,gs hi] at ο;have ξ:i < ls.length:=by omega
   rw[qM (by rw[cY];omega),ic,gs ξ] at hz;have a5:=γ.ss i _ _ (gs hi) (gs ξ);rw[θ] at a5;refine⟨_,_,_,_,(mu ν).symm,(mu ο).symm,(mu hz).symm,γ.el _ (KU ξ),?_,?_,a4.2,a5⟩
   ·rw[aq];exact Mj _ (kb _)
   ·rw[aq];show O[i]>>>nx.length < 2 ^ m;rw[so,NM (kb _),<-Mw,Mz]
    exact a4.1
  ·have e1:i=O.length:=by
    have:=(dt.mp ν).1;rw[gw,cY,τ] at this;simp at this;omega
   subst e1;rw[qE (by rw[cY];omega),cY,τ,Lz] at ν;rw[qE (by rw[cY];omega),cY,lI,Lz] at ο;rw[qE (by rw[cY];omega),cY,ll,Lz] at hz;have b9:=γ.bs;rw[θ] at b9;exact⟨0,u,B,bq,(mu ν).symm,(mu ο).symm,(mu hz).symm,eB,kb _,γ.ul,γ.ev.1,b9⟩
 refine⟨η,D5,D7,_,_,_,rfl,rfl,rfl,SqL.of c5,SqL.of α,SqL.of e7,?_⟩;have j2:CPow (1:Int) ((m:Nat):Int):=⟨@A,@A,@C⟩;have j1:CPow (1:Int) ((nx.length:Nat):Int):=⟨@A,@A,@C⟩;have h5:(2:Nat) ^ nx.length<=2 ^ 1000:=gn @C @A;have h4:(2:Nat) ^ m<=2 ^ 1000:=gn @C @A;have h3:=kb m;have h0:=kb nx.length;refine Da (xs:=Ss.map nat++[V.int 0]) (ys:=Is.map nat++[nat u]) (zs:=(ls.map λq=>V.ref q.1)++[V.ref B]) (by rw[gw,gw,cY,cY,τ,lI];rfl) (by rw[gw,gw,cY,cY,τ,ll];rfl) (λi σ H'=>∃v1 v2 v3,σ=[ak (V.ref t),ak (V.ref f),ak (V.str (MV "never")),ak (nat u),ak (V.ref B),ak (V.ref S),ak (V.ref I),ak (V.ref L),ak (V.int O.length),v1,v2,v3]/\Same H7 H') ⟨none,none,none,rfl,Same.refl _⟩ (λi σ H' _ ⟨_,_,_,_,s'⟩=>⟨SqL.of (s'.get c5),SqL.of (s'.get α),SqL.of (s'.get e7)⟩) ?_ ?_
 ·rintro i χ φ π σ H8 p8 H9 ν ο hz ⟨v1,v2,v3,rfl,s8⟩ f9 s9 e9;obtain⟨x,r,pA,δ,rfl,rfl,rfl,c1,h7,h9,ho,sd⟩:=ζ i χ φ π ν ο hz;have Z:=ψ.trans (s8.trans s9);have l6:=Z.get e0;have k6:=Z.get c3;have j7:=Z.get c2;have g5:=Z.get c1;lia;rw[aS];lia;refine⟨x,2 ^ nx.length - 1,by rw[shl1,show(((2 ^ nx.length - 1:Nat):Nat):Int)=((2 ^ nx.length:Nat):Int) - 1 by omega],?_⟩;rw[lh (show x<=2 ^ nx.length - 1 by omega)];lia;refine⟨r,2 ^ m - 1,by rw[shl1,show(((2 ^ m - 1:Nat):Nat):Int)=((2 ^ m:Nat):Int) - 1 by omega],?_⟩;rw[lh (show r<=2 ^ m - 1 by omega)];lia;obtain⟨d3,d2,a6⟩:=b0 sd;refine⟨pA,_,O.length,rfl,g5,d2,a6,@A,λHA sA=>?_⟩;have Y:=Z.trans sA;have l4:=Y.get e0;lia;refine⟨o,os,x,r,rfl,SqL.of (Y.get c2),tt.tab.po.same Y,L9 tt.tab.lo @C,@A,@A,λHB ρ=>?_⟩;rw[ho];lia;have β:=Y.trans ρ;have k8:=β.get e0;have f1:=β.get eS;have g4:=β.get c1;refine⟨n,nx,x,r,rfl,SqL.of (β.get c3),tt.tab.pn.same β,tt.tab.ln,@A,@A,λHC sC=>?_⟩;lia;refine⟨S,pA,Ss,_,rfl,sC.get f1,sC.get g4,λk hk=>by rw[τ];exact a6 k hk,?_⟩;rw[d3];lia;dsimp only;rw[oT @F];lia;exact⟨_,_,_,rfl,s8.trans (s9.trans (sA.trans (ρ.trans sC)))⟩
 ·rintro σ H8 ⟨v1,v2,v3,rfl,s8⟩;have d1:=γ.u0;lia;rw[ia (show ¬(nat u=V.int 0) from λh=>d1 (by have:=V.int.inj h;omega))];exact q _ (ψ.trans s8)
end
section
variable {P:qc} {w:u7} {K:bp} {mg:F'} {base:z1} {a:Ad}
theorem jr (T:Tx K mg a):FnOk P w K mg base CX0 1 a.bj a.jU ["self","mask"] (GO a.aQ):=by
 refine T.cx.1.okA cO λa0 A outer s H vs Q E φ h=>?_;obtain⟨p,d,f,n,rows,x,rfl,st,q⟩:=h;have hu:=AW φ;obtain⟨dx,ho⟩:=st.ho;obtain⟨es,hd,ht,g,l⟩:=st.he
 refine⟨_,((ae (ax (i:=2) cO.nd rfl @D ag)
  (ae (k4 ry (Ef (HN hu (au eg (kN (K:=K) rfl Kv K3 K0 kS (pv 1)) ag) (bb (K:=K) rfl (pv 0) rfl))) (ae (ax (i:=3) cO.nd rfl @D (An hu (bb (K:=K) rfl (pv 0) rfl) (au eg (kN (K:=K) rfl Kv K3 K0 kS (pv 1)) ag) (λ_ _=>rfl)))
  (ae (ax (i:=1) cO.nd rfl @D (au fw (pv 1) (!A @H (pv 3) ag)))
  (ai (ax (i:=2) cO.nd rfl @D (au fw (pv 2) (!A @H (pv 3) ag)))))))
  (ai (aC (b8 (!j 1 (!j 2 af)))))))),aB (σ':=[ak _,ak _,none,none]) rfl ?_⟩
 lia;refine⟨fun μ σ' H'=>∃η v,σ'=[ak (.ref p),ak (nat (x^^^M.sm rows η)),ak (nat η),v]/\H'=H/\η < 2 ^ rows.length/\μ=x^^^M.sm rows η/\M.Frs rows η,⟨x,0,none,?_,rfl,kb _,?_,M.Frs.zero _⟩,?_⟩
 ·rw[M.sm_zero,KJ];rfl
 ·rw[M.sm_zero,KJ]
 rintro μ σ' H' ⟨η,v,rfl,rfl,ζ,rfl,Y⟩;lia;refine a9 ho T.dr T.bY rfl ?_;refine Hh hd ?_;lia;generalize hm:x^^^M.sm rows η=m;refine iteB (λZ=>?_) (λZ=>?_)
 ·rcases me es ((vl (m:Int):Nat) - 1:Int) with ⟨e,he,α,ev⟩ | ⟨_,ε⟩
  ·have γ:m≠0:=λz=>by rw[z,uY] at α;omega
   have hl2:m.log2=e.m.log2:=by rw[j9 γ] at α;omega
   have O:(e.m,e.p)∈es.map (λe=>(e.m,e.p)):=ov.mpr ⟨e,he,rfl⟩;have e0:=g.nz _ O;refine⟨fun ν H2=>∃π v,ν=[ak (.ref p),ak (nat (x^^^M.sm rows π)),ak (nat π),v]/\H2=H'/\π < 2 ^ rows.length/\x^^^M.sm rows π < m/\M.Frs rows π,fun ν H2 ⟨π,v,h1,h2,ψ,χ,δ⟩=>⟨_,χ,π,v,h1,h2,ψ,rfl,δ⟩,?_⟩;lia;refine a9 ho T.dr T.bY rfl ?_;lia;refine zW hd ev ?_;have υ:=ht e he;lia;refine⟨η^^^e.p,ak (.ref e.a),?_,rfl,M.xor_lt_pow ζ (g.lt _ O),?_,Y.xor (g.sub _ O)⟩
   ·rw[M.sm_xor,g.sm _ O,<-Ke,hm,aU,aU]
   ·rw[M.sm_xor,g.sm _ O,<-Ke,hm];exact M.xor_less γ e0 hl2
  ·rw[ε] at Z;cases Z
 ·lia;intro t H2 ω ξ e2;subst hm;refine q t H2 η ω ξ e2 ζ (fun ο y τ ι hl2=>?_) Y;rcases me es ((vl ((x^^^M.sm rows η:Nat):Int):Nat) - 1:Int) with ⟨e,he,α,ev⟩ | ⟨h1,ε⟩
  ·rw[ev] at Z;cases Z
  ·obtain⟨e,he,β⟩:=g.all y τ ι;obtain⟨θ,ρ,rfl⟩:=ov.mp he;refine h1 θ ρ ?_;have β:θ.m.log2=y.log2:=β;rw[j9 ο,β,hl2];omega
theorem uq (T:Tx K mg a):FnOk P w K mg base CX0 2 a.cM a.pS ["self","place","row"] (GP a.aQ):=by
 refine T.iu.1.okA jH fun ψ A outer s H vs Q E ν h=>?_;obtain⟨p,d,f,n,rows,r,rfl,st,hl,q⟩:=h;have hu:=AW ν;obtain⟨dx,ho⟩:=st.ho
 refine⟨_,((ae (ax (i:=3) jH.nd rfl @D (oG (pv 0) T.dr T.jN (jr T) (ν.mono @C) T.cx.2 .nil iw (!j 2 af)))
  (ae (ax (i:=4) jH.nd rfl @D (au fw (!A @H (pv 3) ag) (au bM ag (pv 1))))
  (ai (dN (aH kO (!A @H (pv 3) ag) ag (aK _)) (ai (bX (gF (K:=K) rfl sx wq wh cv (bb (K:=K) rfl (pv 0) rfl) (!j 4 af)))) (ae (bX (gF (K:=K) rfl sx wq wh cv (bb (K:=K) rfl (pv 0) rfl) (!j 1 af)))
  (ai (FD hu (bb (K:=K) rfl (pv 0) rfl) (au eg (kN (K:=K) rfl Kv K3 K0 kS (!A @H (pv 3) ag)) ag) (b8 (aa (!A @H (pv 3) ag) (!j 4 af))) rfl)))))))),aB (σ':=[ak _,ak _,ak _,none,none]) rfl ?_⟩
 lia;refine cb ho rfl ?_;lia;refine⟨p,d,f,n,rows,r,rfl,st,λt H2 η f2 β τ ο hn θ=>?_⟩;lia;rw[shl1,aU];have O:=β.get ho;have ξ:=st.same β;have lf:=M.fr_len rows;refine iteB (fun δ=>?_) (fun δ=>?_)
 ·have hz:r^^^M.sm rows η=0:=by have:=V.int.inj (Nn δ);omega
  obtain⟨nms,α,ρ⟩:=ξ.hn;have ln:=ρ.len;lia;refine a9 O T.dr T.iz rfl ?_;lia;refine dU α (by rw[cY];exact c4 @A) fun υ ζ=>?_;lia;exact q υ (λb o h1 h2 π e=>ζ.oth _ _ π (β.get e)) (ξ.null ο hz ρ α ζ)
 ·have hz:r^^^M.sm rows η≠0:=λz=>by rw[z] at δ;exact kf δ @C
  obtain⟨es,hd,ht,g,le⟩:=ξ.he;have φ:=ξ.hf;lia;refine a9 O T.dr T.dZ rfl ?_;lia;refine dU ξ.hf (by rw[cY];exact c4 @A) fun υ ζ=>?_;have e3:=ζ.oth _ _ (gE τ ξ.hf @F) τ;have ε:=ζ.oth _ _ (gE O ξ.hf @F) O;have ι:=ζ.oth _ _ (gE hd ξ.hf @F) hd;lia;intro t' Z f4 Y ω;lia;refine a9 (Y.get ε) T.dr T.bY rfl ?_;lia;refine Fu (Y.get ι) (by unfold lJ;rw[cY];exact c4 @A) λH5 γ=>?_;lia;refine q H5 (λb o h1 h2 π e=>γ.oth _ _ h1 (Y.get (ζ.oth _ _ h2 (β.get e)))) (ξ.more ο hz (hn hz) θ ζ Y ω hd ht g le ?_);have χ:(((r^^^M.sm rows η).log2 + 1:Nat):Int) - 1=(((r^^^M.sm rows η).log2:Nat):Int):=by omega
  rw[j9 hz,χ] at γ;exact γ
theorem fK (T:Tx K mg a):FnOk P w K mg base CX0 3 a.aW a.jv ["self","rows"] (E5 a.aQ):=by
 refine T.bR.1.okA fA λa4 A outer s H vs Q E hr h=>?_;obtain⟨x,dx,r,rows,rfl,hw,hl,ρ,q⟩:=h;have hu:=AW hr;have rx:r≠x:=gE hw ρ @F
 refine⟨_,((ae (mw (K:=K) rfl (pv 0) CD rfl)
  (ae (mw (K:=K) rfl (pv 0) (cC af) rfl)
  (ae (mw (K:=K) rfl (pv 0) (cC af) rfl)
  (ai (c8 ry rfl (kM (K:=K) rfl (by rfl) T.c9 (pv 1)) (iP rfl (aF (av (i:=2) fA.nd rfl @D) (aF (av (i:=3) fA.nd rfl @D) eZ))) (ai (bX (oG (pv 0) T.dr T.vR (uq T) (hr.mono @C) T.iu.2 .nil iw (!j 2 (!j 3 af))))))))))),aB (σ':=[ak _,ak _,none,none]) rfl ?_⟩
 lia;intro d H1 f1 s1 e1;lia;have ε:d≠x:=λz=>by rw[z,ρ] at f1;cases f1
 refine mj (s1.get ρ) T.dr T.bY @C rfl λH2 η=>?_;lia;intro f H3 υ ο e3;lia;have α:f≠x:=λz=>by rw[z,η.at'] at υ;cases υ
 refine mj (ο.get η.at') T.dr T.dZ (by show 1 < 1000;decide) rfl λZ ζ=>?_;lia;intro n H5 ι θ e5;lia;have π:n≠x:=λz=>by rw[z,ζ.at'] at ι;cases ι
 refine mj (θ.get ζ.at') T.dr T.iz (by show 2 < 1000;decide) rfl λH6 Y=>?_;have k1:∀b o,b≠x->H b=ak o->H2 b=ak o:=λb o O e=>η.oth _ _ O (s1.get e);have k2:∀b o,b≠x->H b=ak o->Z b=ak o:=λb o O e=>ζ.oth _ _ O (ο.get (k1 b o O e));have k3:∀b o,b≠x->H b=ak o->H6 b=ak o:=λb o O e=>Y.oth _ _ O (θ.get (k2 b o O e));have nd:∀b o,H b=ak o->b≠d:=λb o e=>aw e f1;have nf:∀b o,b≠x->H b=ak o->b≠f:=λb o O e=>aw (k1 b o O e) υ;have γ:∀b o,b≠x->H b=ak o->b≠n:=λb o O e=>aw (k2 b o O e) ι;have β:=ζ.oth _ _ α e3;have fn:f≠n:=aw β ι;have χ:H6 d=ak (.dK (lJ [])):=Y.oth _ _ ε (θ.get (ζ.oth _ _ ε (ο.get (η.oth _ _ ε e1))));have a0:=k3 _ _ rx hw;lia;refine je (xs:=rows.map nat) (λi σ H'=>∃v ψ,σ=[ak (.ref x),ak (.ref r),v,ψ]/\StA H' a.aQ x d f n (rows.take i)/\∀b o,b≠x->H b=ak o->H' b=ak o) ?_ ?_ ?_ ?_
 ·refine⟨none,none,rfl,⟨⟨dx,Y.at'⟩,⟨[],χ,λ_ h=>kf h @F,M.Ech.nil,rfl⟩,Y.oth _ _ α (θ.get β),⟨[],Y.oth _ _ π e5,M.Nul.nil⟩,fn⟩,k3⟩
 ·rintro i σ H' _ ⟨v,ψ,_,_,k⟩;exact SqL.of (k _ _ rx hw)
 ·rintro i y σ H' p H7 hy ⟨v,ψ,rfl,st,k⟩ fp ξ e7;obtain⟨φ,δ,rfl⟩:=aJ hy;obtain⟨a3,τ⟩:=(st.same ξ).ho;lia;refine cb τ rfl ?_;lia;have tl:=rL δ;refine⟨x,d,f,n,rows.take i,φ,by rw[tl],st.same ξ,by rw[tl];have:=(dt.mp δ).1;omega,λH8 ω ν=>?_⟩;lia;refine⟨_,_,rfl,by rw[take_succ δ];exact ν,λb o O e=>ω b o (nd b o e) (nf b o O e) (γ b o O e) (ξ.get (k b o O e))⟩
 ·rintro σ H' ⟨v,ψ,rfl,st,k⟩;rw[cY,vu] at st;lia;exact q H' d f n k st
theorem FV (T:Tx K mg a):FnOk P w K mg base CX0 5 a.pK a.Ez ["rows"] Fc:=by
 refine T.xM.1.okA Fi fun ε A outer s H vs Q E α h=>?_;obtain⟨r,rows,rfl,hw,hl,q⟩:=h;refine⟨_,((ai (aC (gi (gU (K:=K) rfl) (by rfl) T.kn zv (aa (bb (K:=K) rfl (oH T.wB (fK T) (α.mono @C) (by rfl) T.wb T.bR.2 .nil iw (!j 0 af)) rfl) af))))),aB (σ':=[ak _]) rfl ?_⟩;lia;intro x dx H2 γ O δ;refine⟨x,dx,r,rows,rfl,O.get hw,hl,δ,fun η d f n k st=>⟨rfl,?_⟩⟩;obtain⟨ζ,ho⟩:=st.ho;refine a9 ho T.dr T.dZ rfl ?_;have hf:=st.hf;lia;intro D Z β Y ω;have hs:Same H η:=λb o e=>k b o (aw e γ) (O.get e);exact q D Z (hs.free β) (hs.trans Y) ω
theorem mC (T:Tx K mg a):FnOk P w K mg base CX0 5 a.ig a.uP ["rows","wish"] x6:=by
 refine T.iV.1.okA mh λa3 A outer s H vs Q E ι h=>?_;obtain⟨r,rows,x,rfl,hw,hl,α,ω,τ,ζ,qB⟩:=h
 refine⟨_,((ae (ax (i:=2) mh.nd rfl @D (oH T.wB (fK T) (ι.mono @C) (by rfl) T.wb T.bR.2 .nil iw (!j 0 af)))
  (ae (ax (i:=3) mh.nd rfl @D (oG (pv 2) T.dr T.jN (jr T) (ι.mono @C) T.cx.2 .nil iw (!j 1 af)))
  (ae (dN (aH kO (!A @H (pv 3) ag) ag (aK _)) (ai (aC (b8 (aa gh (aa (ar (j4 T) ι T.lO T.ir (aa (!A @H (pv 3) ag) af)) af))))) bh)
  (ai (aC (b8 (aa gh (aa (oG (pv 2) T.dr T.jO (jt T) (ι.mono @C) T.cy.2 .nil iw (aa (au eg (kN (K:=K) rfl Kv K3 K0 kS (!A @H (pv 3) ag)) ag) af)) af))))))))),aB (σ':=[ak _,ak _,none,none]) rfl ?_⟩
 lia;intro p dx H2 f2 χ e2;refine⟨p,dx,r,rows,rfl,χ.get hw,hl,e2,λH3 d f n k st=>⟨rfl,?_⟩⟩;obtain⟨a0,ho⟩:=st.ho;have hs:Same H H3:=λb o e=>k b o (aw e f2) (χ.get e);lia;refine cb ho rfl ?_;lia;refine⟨p,d,f,n,rows,x,rfl,st,λt Z η f4 Y e4 hq hn ρ=>?_⟩;lia;refine iteB (fun ν=>?_) (fun ν=>?_)
 ·have hz:x^^^M.sm rows η=0:=by have:=V.int.inj (Nn ν);omega
  have π:M.sm rows η=x:=by
   have:=y3 (x^^^·) hz;simp only[<-Ke,M4,NX,KJ] at this;exact this
  lia;refine⟨η,rfl,fb hq (gn @C hl),λD H5 f5 ε e5=>?_⟩;lia;intro t' φ f6 δ υ;exact ζ t' D φ η (C9 (hs.trans Y) f5) (hs.trans (Y.trans (ε.trans δ))) υ (δ.get e5) ⟨hq,π,ρ⟩
 ·have hz:x^^^M.sm rows η≠0:=λz=>by rw[z] at ν;exact kf ν @C
  have O:x^^^M.sm rows η < 2 ^ 1000:=M.xor_lt_pow ω (M.span_lt α (M.sm_span rows η));have β:=M.log2_under hz O;have γ:¬M.Span rows x:=fun ο=>hn hz _ (M.span_xor ο (M.sm_span rows η)) hz rfl;have θ:(M.fr rows).length < 64:=τ.resolve_left γ;have ez:(((x^^^M.sm rows η).log2 + 1:Nat):Int) - 1=(((x^^^M.sm rows η).log2:Nat):Int):=by omega
  lia;refine cb (Y.get ho) rfl ?_;lia;rw[j9 hz,ez];refine⟨p,d,f,n,rows,(x^^^M.sm rows η).log2,rfl,st.same Y,β,α,θ,hn hz,λm H5 ε B=>?_⟩;lia;intro t' φ f6 δ υ;refine qB t' φ m (hs.trans (Y.trans (ε.trans δ))) υ ⟨γ,⟨M.sm rows η,M.sm_span _ _,hz,hn hz,B⟩,B.ev,B.odd hz rfl β,λW ψ ξ=>B.lt W ψ ?_⟩;exact M.log2_under hz (M.xor_lt_pow ξ (M.span_lt ψ (M.sm_span rows η)))
theorem oQ (T:Tx K mg a):FnOk P w K mg base CX0 5 a.ji a.xD ["rows","width"] yc:=by
 refine T.ke.1.okA tY λb0 A outer s H vs Q E π h=>?_;obtain⟨r,rows,β,rfl,hw,hl,ξ,δ,a3,q⟩:=h;have hu:=AW π
 refine⟨_,((ae (ax (i:=2) tY.nd rfl @D (oH T.wB (fK T) (π.mono @C) (by rfl) T.wb T.bR.2 .nil iw (!j 0 af)))
  (ai (aC (cW (osc:=ah nY) (ON:=["rows","width","steps"]) (N:=["bit","steps"]) (n:=1) (fx:=[2]) rfl rfl rfl (by decide +kernel) (cq (by rfl) T.fg (!j 1 af)) (bc @C) (λ_ _ _ _ _=>⟨(av (i:=0) (show vr (["bit","steps"]:C') from by decide +kernel) rfl @D),(oF (Ef (Ao hu (pv 0) (bb (K:=K) rfl (pv 1) rfl)))),(oG (pv 1) T.dr T.jO (jt T) (π.mono @C) T.cy.2 .nil iw (!j 0 af))⟩)))))),aB (σ':=[ak _,ak _,none]) rfl ?_⟩
 lia;intro x dx H2 f2 s2 e2;refine⟨x,dx,r,rows,rfl,s2.get hw,hl,e2,λH3 d f n k st=>⟨rfl,?_⟩⟩;obtain⟨ζ,ho⟩:=st.ho;obtain⟨es,hd,ht,g,le⟩:=st.he;have nd:(es.map λe=>e.m.log2).Nodup:=by have:=g.nd;rw[Ks] at this;exact this
 have hs:Same H H3:=λb o e=>k b o (aw e f2) (s2.get e);have ο:∀r∈rows,r < 2 ^ 1000:=λr π=>fb (δ r π) (gn @C ξ);lia;intro D hD;refine dB (λi ys H'=>∃ms:D8,ys=ms.map nat/\ms=M.acr rows i/\Same H3 H'/\H' D=ak (.lst ys)/\ms.length=((lB i).filter λk=> !decide (k∈es.map λe=>e.m.log2)).length/\M.Inj ms/\(∀m∈ms,∃b,b < i/\M.Bar rows b m)/\∀b,b < i->DP rows b->∃m,m∈ms/\M.Bar rows b m) ⟨[],rfl,rfl,eT hD,bg,rfl,M.Inj.nil,λ_ h=>kf h @F,λb hb=>kf hb (J6 _)⟩ (λi ys H' hi hP=>?_) (λys H' hP=>?_)
 ·obtain⟨ms,rfl,φ,s',χ,lm,inj,α,θ⟩:=hP
  have η:ms.length<=i:=by
   rw[lm];have:=NK (λk=> !decide (k∈es.map λe=>e.m.log2)) (lB i);rw[u2] at this;exact this
  have a4:i < β:=by omega
  lia;refine a9 (s'.get ho) T.dr T.bY rfl ?_;refine Fv (s'.get hd) ?_;lia;rw[Lm];rcases me es (i:Int) with ⟨e,he,ez,ev⟩ | ⟨τ,hv⟩
  ·rw[ev];lia
   have υ:M.acr rows (i + 1)=M.acr rows i:=M.acr_in λhn=>by
    have γ:(e.m,e.p)∈es.map (λe=>(e.m,e.p)):=ov.mpr ⟨e,he,rfl⟩;exact kf @A (hn e.m (g.span γ) (g.nz _ γ))
   refine⟨by rw[υ];exact φ,s',χ,?_,inj,λm hm=>let ⟨b,hb,B⟩:=α m hm;⟨b,@A,B⟩,λb hb hn=>?_⟩
   rotate_left
   ·by_cases eb:b=i
    ·subst eb;obtain⟨ε,ρ,a5,a6⟩:∃ε∈es,((ε.m.log2:Nat):Int)=(b:Int)/\True:=⟨e,he,ez,trivial⟩;have γ:(ε.m,ε.p)∈es.map (λe=>(e.m,e.p)):=ov.mpr ⟨ε,ρ,rfl⟩;exact kf @A (hn ε.m (g.span γ) (g.nz _ γ))
    ·exact θ b @A hn
   have ω:i∈es.map λe=>e.m.log2:=ov.mpr ⟨e,he,@A⟩;rw[lm,Kj,KO,show([i].filter λk=> !decide (k∈es.map λe=>e.m.log2))=[] from by rw[LH,lh ω];rfl,Kp]
  ·rw[hv]
   have ν:DP rows i:=λy hy y0 hl2=>by
    obtain⟨e,he,ee⟩:=g.all y hy y0;obtain⟨ε,ρ,rfl⟩:=ov.mp he;exact τ ε ρ (by have:ε.m.log2=y.log2:=ee;omega)
   lia;refine cb (s'.get ho) rfl ?_;lia;refine⟨x,d,f,n,rows,i,rfl,st.same s',@A,ο,a3,ν,λm Z Y B=>?_⟩;refine⟨Y.get χ,by rw[cY];exact c4 @A,ms++[m],by rw[gA];rfl,by rw[M.acr_out ο ν B,φ],λb o e=>?_,bg,?_,inj.own B.bit (λy hy=>?_),λy hy=>?_,λb hb hn=>?_⟩
   ·rw[aV (aw e hD)];exact Y.get (s'.get e)
   ·have ι:¬i∈es.map λe=>e.m.log2:=λz=>by
     obtain⟨e,he,ee⟩:=ov.mp z;exact τ e he @A
    rw[gw,lm,Kj,KO,show([i].filter λk=> !decide (k∈es.map λe=>e.m.log2))=[i] from by rw[LH,ia ι];rfl,gw];rfl
   ·obtain⟨b,hb,B'⟩:=α y hy;exact B'.oth i @A ν
   ·rcases px.mp hy with hy | hy
    ·obtain⟨b,hb,B'⟩:=α y hy;exact⟨b,@A,B'⟩
    ·rw[hC] at hy;subst hy;exact⟨i,@A,B⟩
   ·by_cases eb:b=i
    ·subst eb;exact⟨m,oD _ (hC.mpr rfl),B⟩
    ·obtain⟨m',ψ,B'⟩:=θ b @A hn;exact⟨m',ro _ ψ,B'⟩
 ·obtain⟨ms,rfl,φ,s',χ,lm,inj,α,θ⟩:=hP;rw[lS] at lm α θ φ;subst φ;refine q D H' (hs.free hD) (hs.trans s') χ ⟨?_,inj,λm hm=>?_,λm hm=>?_,λz hz a0=>?_⟩
  ·have hc:=M.count_not (n:=β) nd λt O=>by
    obtain⟨e,he,rfl⟩:=ov.mp O;have γ:(e.m,e.p)∈es.map (λe=>(e.m,e.p)):=ov.mpr ⟨e,he,rfl⟩;exact M.log2_under (g.nz _ γ) (M.span_lt δ (g.span γ))
   rw[cY] at hc;omega
  ·obtain⟨b,hb,B⟩:=α m hm;exact B.lt β δ hb
  ·obtain⟨b,hb,B⟩:=α m hm;exact B.ev
  ·exact M.bars_all ξ δ (λb hb hn=>let ⟨m,hm,B⟩:=θ b hb hn;⟨m,M.span_mem hm,B⟩) hz a0
end
section
variable {P:qc} {w:u7} {K:bp} {mg:F'} {base:z1} {a:Ad}
local macro_rules | `(tactic| walk_at "l2step") =>`(tactic| first | ((with_reducible refine' cZ ?e ?_);(case e=>walk_at "l2kind")) | ((with_reducible refine' fz ?e ?_);(case e=>walk_at "l2kind")) | (with_reducible refine bS ?_) | (with_reducible refine c6 ?_))
theorem Fg (y n:Nat):(y:Int) * 2 ^ ((n:Int).toNat)=((y <<< n:Nat):Int):=by rw[lS,k7,Kf];norm_cast
theorem Bw (w n:Nat):K' (w:Int) ((1:Int) * 2 ^ ((n:Int).toNat) - 1)=((w % 2 ^ n:Nat):Int):=by
 have h:=kb n;rw[LD,lS,show((2:Int) ^ n - 1)=((2 ^ n - 1:Nat):Int) by rw[Int.natCast_sub h];push_cast;rfl,bQ,KL]
theorem um (T:Tx K mg a):FnOk P w K mg base CX0 1 a.jg a.xB ["pair","stores"] zM:=by
 refine T.l7.1.okA zS λY A outer s H vs Q E Z h=>?_;obtain⟨t,x,y,n,rfl,et,hn,O,q⟩:=h;have α:CPow (y:Int) (n:Int):=⟨@A,@A,by rw[Od];exact O⟩;refine⟨_,((ai (aC (au fw (!A @H (pv 0) ag) (au bM (!A @H (pv 0) ag) (pv 1)))))),aB (σ':=[ak _,ak _]) rfl ?_⟩;lia;rw[Fg,aU];exact q
theorem kl (T:Tx K mg a):FnOk P w K mg base CX0 8 a.cG a.lU ["machine","bars"] (x5 a.ao):=by
 refine T.fk.1.okA dO λb9 A outer s H vs Q E α h=>?_;obtain⟨p,D,m,nx,os,bars,rfl,ma,g,Z,eD,lb,hb,q⟩:=h;obtain⟨dx,tn,to,ho,hn,φ⟩:=ma.ho;have m6:=g.m6
 refine⟨_,((ae (ax (i:=2) dO.nd rfl @D (fc (pv 0) T.ay T.cR (cu T) (α.mono @C) T.a8.2 .nil iw))
  (ae (hG (osc:=ah cE) (ON:=n12) (N:=["pair","stores"]) (n:=1) (fx:=[2]) (i:=3) dO.nd rfl rfl rfl rfl rfl rfl (by decide +kernel) (rX (K:=K) rfl (bb (K:=K) rfl (pv 0) rfl)) (bc @C) (λ_ _ _ _ _=>⟨(av (i:=0) (show vr (["pair","stores"]:C') from by decide +kernel) rfl @D),bJ,(ar (um T) α T.xu T.l7 (!j 0 (!j 1 af)))⟩))
  (ae (bX (gF (K:=K) rfl sx N3 N2 oX (pv 3) (aa (cW (osc:=ah cE) (ON:=n12) (N:=["bar","machine","stores"]) (n:=1) (fx:=[0,2]) rfl rfl rfl (by decide +kernel) (be (K:=K) rfl (pv 1)) (bc @C) (λ_ _ _ _ _=>⟨(av (i:=0) (show vr (["bar","machine","stores"]:C') from by decide +kernel) rfl @D),bJ,(ar (um T) α T.xu T.l7 (aa (dX (pv 1) T.ay T.iJ (hX T) (α.mono @C) T.b7.2 .nil thr0 (!j 0 af)) (!j 2 af)))⟩)) af)))
  (ae (ax (i:=4) dO.nd rfl @D (ar (oQ T) α T.sT T.ke (!j 3 (aa (au dH (pv 2) (bb (K:=K) rfl (pv 0) rfl)) af))))
  (ae (hG (osc:=ah cE) (ON:=n12) (N:=n10) (n:=1) (fx:=[2]) (i:=5) dO.nd rfl rfl rfl rfl rfl rfl (by decide +kernel) (be (K:=K) rfl (pv 4)) (bc @C) (λ_ _ _ _ _=>⟨(av (i:=0) (show vr (n10:C') from by decide +kernel) rfl @D),bJ,(au gH (pv 0) (au eg (au bM ag (pv 1)) ag))⟩))
  (ai (aC (cW (osc:=ah cE) (ON:=n12) (N:=["place","ways"]) (n:=1) (fx:=[4]) rfl rfl rfl (by decide +kernel) (be (K:=K) rfl (ar (FV T) α T.Iq T.xM (!j 5 af))) (bc @C) (λ_ _ _ _ _=>⟨(av (i:=0) (show vr (["place","ways"]:C') from by decide +kernel) rfl @D),bJ,(!A (dz (K:=K) rfl) (pv 1) (pv 0))⟩)))))))))),aB (σ':=[ak _,ak _,none,none,none,none]) rfl ?_⟩
 lia;refine cb ho rfl ?_;lia;refine⟨p,_,nx,os,rfl,ma,?_⟩;lia;refine a9 ho T.ay T.bZ rfl ?_;refine⟨to,rfl,⟨_,SqT.of φ⟩,?_⟩;intro D1 ο;have lo:=g.lo;refine n9 (xs:=refs os) (λi ys H'=>Cs (λi ys=>ys=((os.take i).map λq=>M.jd nx.length q.2).map nat) H D1 i ys H') (Cs.zero ο rfl) (λi ys H' _ c=>SqT.of (c.same.get φ)) (λi v ys H' δ c=>?_) (λys H1 c=>?_)
 ·obtain⟨r,τ,rfl⟩:=aJ δ;have hi:=(dt.mp τ).1;have hm:=hR τ;have er:=c.same.get (ma.hs r hm);have a4:=(g.bn r (oD _ hm)).2;lia;refine⟨r.1,r.2.1,r.2.2,nx.length,rfl,er,@A,fb a4 (gn @C @A),?_⟩;refine Cs.put ο c.same c.at' c.len @A ?_;rw[c.pv,take_succ τ,gA,gA];rfl
 have e1:=c.at';rw[c.pv,show(refs os).length=os.length from cY ..,vu] at e1;have s1:=c.same;clear c;have a3:=s1.get eD;have a5:=s1.get ho;lia;intro D2 β;refine bU (xs:=bars.map nat) (λi ys H'=>Cs (λi ys=>ys=((bars.take i).map λb=>M.jd nx.length (M.sm (nx.map λq=>q.2.1) b,M.sm (nx.map λq=>q.2.2) b)).map nat) H1 D2 i ys H') (Cs.zero β rfl) (λi ys H' _ c=>SqL.of (c.same.get a3)) (λi v ys H' δ c=>?_) (λys H2 c=>?_)
 ·obtain⟨b,γ,rfl⟩:=aJ δ;have hi:=(dt.mp γ).1;have hm:=hR γ;have ζ:=s1.trans c.same;lia;refine cP (ζ.get ho) rfl ?_;lia;refine⟨p,m,nx,os,nat b,"int",rfl,ma.same ζ,g,rfl,λa1 ea ha ι H7 s7 e7=>?_,λO=>?_⟩
  ·have ea:=iH ea;subst ea;lia;refine⟨ι,_,_,nx.length,rfl,e7,@A,?_,?_⟩
   ·exact fb (M.sm_lt (t:=m) _ (λx ρ=>by
     obtain⟨r,α,rfl⟩:=ov.mp ρ;exact(g.bn r (ro _ α)).2)) (gn @C @A)
   ·refine Cs.put β (c.same.trans s7) (s7.get c.at') c.len @A ?_;rw[c.pv,take_succ γ,gA,gA];rfl
  ·rw[cQ (hb b hm)] at O;cases O
 have e2:=c.at';rw[c.pv,cY,vu] at e2;have s2:=c.same;clear c;lia;have π:D1≠D2:=λz=>by rw[<-z,e1] at β;cases β
 refine rV (s2.get e1) e2 (by rw[cY,cY,cY,cY];exact KA (c4 @A)) π λH3 u3=>?_;have s3:=u3.same ο (s1.trans s2);have e3:=u3.at';rw[<-gA,show(os.map λq=>M.jd nx.length q.2)++(bars.map λb=>M.jd nx.length (M.sm (nx.map λq=>q.2.1) b,M.sm (nx.map λq=>q.2.2) b))=M.rowsJ @E @G bars by unfold M.rowsJ;rw[aq,show(@E).map (·.1)=nx.map λq=>q.2.1 by rw[Ks];rfl,show(@E).map (·.2)=nx.map λq=>q.2.2 by rw[Ks];rfl,Ks];rfl] at e3;clear u3 e1 e2 a3 a5 β π;lia;refine a9 (s3.get ho) T.ay T.aO rfl ?_;lia
 have a0:∀q∈prs nx++prs os,q.1 < 2 ^ nx.length:=λq η=>by
  rcases px.mp η with h | h
  ·obtain⟨r,α,rfl⟩:=ov.mp h;exact(g.bn r (ro _ α)).1
  ·obtain⟨r,α,rfl⟩:=ov.mp h;exact(g.bn r (oD _ α)).1
 have θ:∀r∈M.rowsJ (prs nx) (prs os) bars,r < 2 ^ (nx.length + m):=λr α=>by
  unfold M.rowsJ at α;rw[aq] at α;rcases px.mp α with h | h
  ·obtain⟨q,η,rfl⟩:=ov.mp h;obtain⟨r',τ,rfl⟩:=ov.mp η;exact M.jd_lt (g.bn r' (oD _ τ)).1 (g.bn r' (oD _ τ)).2
  ·obtain⟨b,γ,rfl⟩:=ov.mp h;refine M.jd_lt (M.sm_lt _ λx ρ=>?_) (M.sm_lt _ λx ρ=>?_)
   ·obtain⟨q,η,rfl⟩:=ov.mp ρ;obtain⟨r,α,rfl⟩:=ov.mp η;exact(g.bn r (ro _ α)).1
   ·obtain⟨q,η,rfl⟩:=ov.mp ρ;obtain⟨r,α,rfl⟩:=ov.mp η;exact(g.bn r (ro _ α)).2
 have υ:(M.rowsJ @E @G bars).length=os.length + bars.length:=by
  unfold M.rowsJ;rw[gw,cY,aq,cY]
 refine⟨D1,_,nx.length + m,rfl,e3,by rw[υ];omega,@A,θ,v' (M.rank_le θ) @A,λD4 H4 f4 Y ω ac=>?_⟩;have ok:=GM (ps:=prs nx) (os:=prs os) (m:=m) (bars:=bars) (by rw[aq];omega) (by rw[aq];exact a0) (by rw[aq];exact hb) (by rw[aq];exact ac);have hw:swy @E @G m bars=(M.fr ((M.acr (M.rowsJ @E @G bars) (nx.length + m)).map (· % 2 ^ nx.length))).map λi=>(M.acr (M.rowsJ @E @G bars) (nx.length + m)).getD i 0:=by unfold swy;rw[aq]
 have q1:=λ(D2:fy) (H2:Hp) h1 h2 h3=>q D2 H2 h1 h2 h3 ok;rw[hw] at q1;have wl:=ac.lt;have ll:(M.acr (M.rowsJ @E @G bars) (nx.length + m)).length<=nx.length + m:=by have:=ac.len;omega
 generalize M.acr (M.rowsJ @E @G bars) (nx.length + m)=ws at *
 clear q ok hw υ θ a0 e3;have ν:=s3.trans Y;clear ac;lia;intro D5 ψ;have hc:CPow (1:Int) (nx.length:Int):=⟨@A,@A,@C⟩;refine bU (xs:=ws.map nat) (λi ys H'=>Cs (λi ys=>ys=((ws.take i).map (· % 2 ^ nx.length)).map nat) H4 D5 i ys H') (Cs.zero ψ rfl) (λi ys H' _ c=>SqL.of (c.same.get ω)) (λi v ys H' δ c=>?_) (λys H5 c=>?_)
 ·obtain⟨b,γ,rfl⟩:=aJ δ;have hi:=(dt.mp γ).1;lia;refine Cs.put ψ c.same c.at' c.len @A ?_;rw[c.pv,take_succ γ,gA,gA,Bw];rfl
 have e5:=c.at';rw[c.pv,cY,vu] at e5;have ε:=c.same;clear c;lia;refine⟨D5,_,rfl,e5,by rw[cY];omega,λD6 H6 f6 s6 e6=>?_⟩;have a6:=(ε.trans s6).get ω;have lf:=λi hi=>M.fr_lt (rows:=ws.map (· % 2 ^ nx.length)) i hi
 have b0:(M.fr (ws.map (· % 2 ^ nx.length))).length<=nx.length:=M.rank_le λr α=>by
  obtain⟨x,_,rfl⟩:=ov.mp α;exact Mj _ (kb _)
 rw[cY] at lf;generalize M.fr (ws.map (· % 2 ^ nx.length))=ks at *
 lia;intro D7 ξ;refine bU (xs:=ks.map nat) (λi ys H'=>Cs (λi ys=>ys=((ks.take i).map λi=>ws.getD i 0).map nat) H6 D7 i ys H') (Cs.zero ξ rfl) (λi ys H' _ c=>SqL.of (c.same.get e6)) (λi v ys H' δ c=>?_) (λys H7 c=>?_)
 ·obtain⟨k,hk,rfl⟩:=aJ δ;have hi:=(dt.mp hk).1;have χ:=lf k (hR hk);have ex:=c.same.get a6;lia;refine ue (SqL.of ex) (ip (v:=nat (ws.getD k 0)) <| by rw[ic,gs χ,eh,gs χ];rfl) ?_;refine Cs.put ξ c.same c.at' c.len @A ?_;rw[c.pv,take_succ hk,gA,gA];rfl
 have e7:=c.at';rw[c.pv,cY,vu] at e7;have s7:=c.same;clear c;lia;exact q1 D7 H7 (((ν.trans ε).trans s6).free ξ) ((((ν.trans ε).trans s6)).trans s7) e7
end
section
variable {P:qc} {w:u7} {K:bp} {mg:F'} {base:z1} {a:Ad}
local macro_rules | `(tactic| walk_at "l2step") =>`(tactic| first | ((with_reducible refine' cZ ?e ?_);(case e=>walk_at "l2kind")) | ((with_reducible refine' fz ?e ?_);(case e=>walk_at "l2kind")) | (with_reducible refine bS ?_) | (with_reducible refine c6 ?_))
theorem Ar (T:Tx K mg a):FnOk P w K mg base CX0 1 a.jf a.xA ["masks","width"] B7:=by
 refine T.oa.1.okA jF fun ζ A outer s H vs Q E η h=>?_;obtain⟨r,ps,β,rfl,δ,hl,hw,hb,q⟩:=h
 refine⟨_,((ae (ax (i:=2) jF.nd rfl @D ag)
  (ae (c8 ry rfl (kM (K:=K) rfl (by rfl) T.c9 (pv 0)) (iP rfl (aF (av (i:=3) jF.nd rfl @D) (aF (av (i:=4) jF.nd rfl @D) eZ))) (ai (ax (i:=2) jF.nd rfl @D (au fw (pv 2) (au bM (pv 4) (au hU (pv 3) (pv 1)))))))
  (ai (aC (pv 2)))))),aB (σ':=[ak _,ak _,none,none,none]) rfl ?_⟩
 lia;refine je (xs:=ps.map nat) (λi σ H'=>∃v ψ,σ=[ak (.ref r),ak (nat β),ak (nat (M.pkw β (ps.take i))),v,ψ]/\Same H H') ⟨none,none,rfl,Same.refl _⟩ (λi σ H' _ ⟨_,_,_,e⟩=>SqL.of (e.get δ)) ?_ ?_
 ·rintro i y σ H' p ι γ ⟨v,ψ,rfl,Z⟩ fp α θ;obtain⟨x,Y,rfl⟩:=aJ γ;have hi:=(dt.mp Y).1;have ν:=hb x (hR Y);have O:i * β<=1000 * 1000:=M5 @A hw;have ε:(i:Int) * (β:Int)=((i * β:Nat):Int):=by push_cast;rfl
  lia;rw[ε];lia;have e:(x:Int) * 2 ^ (((i * β:Nat):Int).toNat)=((x <<< (i * β):Nat):Int):=by rw[lS,k7,Kf];norm_cast
  rw[e,aU,take_succ Y,M.pkw_snoc,rL Y];exact⟨_,_,rfl,Z.trans α⟩
 ·rintro σ H' ⟨v,ψ,rfl,Z⟩;rw[cY,vu];lia;exact q _ Z
theorem AV {i m:Nat} (h:i < m):idxB (nat i) m=true:=by
 show idxB (.int (i:Int)) m=true;unfold idxB;simp;omega
theorem oO (T:Tx K mg a):FnOk P w K mg base CX0 8 a.b4 a.kq ["machine","turns"] (x8 a.ao):=by
 refine T.fZ.1.okA cf λc0 A outer s H vs Q E hr h=>?_;obtain⟨p,m,nx,os,Y,rfl,ma,g,a5,q⟩:=h;obtain⟨dx,tn,to,ho,hn,b0⟩:=ma.ho;have m6:=g.m6;have lo:=g.lo
 refine⟨_,((ae (ax (i:=2) cf.nd rfl @D (fc (pv 0) T.ay T.cw (bT T) (hr.mono @C) T.aR.2 .nil iw))
  (ae (hG (osc:=ah dP) (ON:=n15) (N:=["which","machine","turns","outs"]) (n:=1) (fx:=[0,1,2]) (i:=3) cf.nd rfl rfl rfl rfl rfl rfl (by decide +kernel) (cq (by rfl) T.fg (aa (bb (K:=K) rfl (pv 0) rfl) af)) (bc @C) (λ_ _ _ _ _=>⟨(av (i:=0) (show vr (["which","machine","turns","outs"]:C') from by decide +kernel) rfl @D),bJ,(ar (Ar T) hr T.C6 T.oa (aa (dX (pv 1) T.ay T.nI (mG T) (hr.mono @C) T.cU.2 .nil thr0 (!j 0 (!j 2 af))) (!j 3 af)))⟩))
  (ae (ax (i:=4) cf.nd rfl @D (au eg (au bM ag (au hU (pv 1) (pv 2))) ag))
  (ae (ax (i:=5) cf.nd rfl @D (cC af))
  (ae (c8 ry rfl (cq (by rfl) T.fg (!j 1 af)) (av (i:=6) cf.nd rfl @D) (ai (bX (gF (K:=K) rfl sx N3 N2 oX (pv 5) (aa (cW (osc:=ah dP) (ON:=n15) (N:=["answers","turn","outs","whole"]) (n:=1) (fx:=[6,2,4]) rfl rfl rfl (by decide +kernel) (be (K:=K) rfl (pv 3)) (bc @C) (λ_ _ _ _ _=>⟨(av (i:=0) (show vr (["answers","turn","outs","whole"]:C') from by decide +kernel) rfl @D),bJ,(au gH (au FP (pv 0) (au hU (pv 1) (pv 2))) (pv 3))⟩)) af)))))
  (ai (aC (pv 5))))))))),aB (σ':=[ak _,ak _,none,none,none,none,none]) rfl ?_⟩
 lia;refine cb ho rfl ?_;lia;refine⟨p,_,nx,os,rfl,ma,?_⟩;lia;refine a9 ho T.ay T.aO rfl ?_;lia;intro χ θ;refine dB (λi ys H'=>Cs (λi ys=>ys=((lB i).map λk=>M.pkw os.length (M.wan @E @G 0 (M.pulse k Y))).map nat) H χ i ys H') (Cs.zero θ rfl) (λi ys H' hi c=>?_) (λys H1 c=>?_)
 ·have ο:i < m:=by omega
  lia;rw[Lm];refine cP (c.same.get ho) rfl ?_;lia;refine⟨p,m,nx,os,nat i,"int",Y,rfl,ma.same c.same,g,rfl,@A,λi' ei _ γ H2 ι π e2=>?_,fun ν=>?_⟩
  ·have ei:=iH ei;subst ei;lia;refine⟨γ,_,os.length,rfl,e2,by rw[M.wan_len,M.pulse_len];omega,@A,λx ρ=>?_,λH3 δ=>?_⟩
   ·have:=M.wan_lt @E @G _ 0 x ρ;rw[aq] at this;exact fb this (gn @C @A)
   ·have st:=π.trans δ;refine Cs.put θ (c.same.trans st) (st.get c.at') c.len @A ?_;rw[c.pv,Kj,gA,gA];rfl
  ·rw[AV ο] at ν;cases ν
 have e1:=c.at';rw[c.pv,lS] at e1;have s1:=c.same;clear c;have ε:Y * os.length<=102:=M5 a5 lo;have hp:((Y:Int) * (os.length:Int))=((Y * os.length:Nat):Int):=by push_cast;rfl
 have hc:CPow (1:Int) ((Y:Int) * (os.length:Int)):=by rw[hp];exact⟨@A,@A,@C⟩
 generalize ξ:(lB m).map (λk=>M.pkw os.length (M.wan @E @G 0 (M.pulse k Y)))=xs at *
 lia;rw[hp];intro γ H2 ι π e2;lia;have a4:xs.length=m:=by rw[<-ξ,cY,u2]
 have φ:xs=(lB m).map λk=>M.pkw os.length (M.wan @E @G 0 (M.pulse k Y)):=ξ.symm
 have ψ:∀x∈xs,x < 2 ^ 102:=λx ρ=>by
  rw[φ] at ρ;obtain⟨k,_,rfl⟩:=ov.mp ρ
  have:=M.pkw_lt (w:=os.length) (ps:=M.wan @E @G 0 (M.pulse k Y)) λy hy=>by
   have:=M.wan_lt @E @G _ 0 y hy;rwa [aq] at this
  rw[M.wan_len,M.pulse_len] at this;exact fb this (gn @C ε)
 have a0:=s1.trans π;have a6:=π.get e1;have τ:γ≠χ:=λz=>by rw[z,e1] at ι;cases ι
 have υ:(M.tol @E @G m Y).length=Y * m:=M.tol_len;refine jR (λi σ H'=>∃v,σ=[ak (.ref p),ak (nat Y),ak (nat os.length),ak (.ref χ),ak (.int (1 * 2 ^ ((Y * os.length:Nat):Int).toNat - 1)),ak (.ref γ),v]/\Same H H'/\H' χ=ak (.lst (xs.map nat))/\H' γ=ak (.lst (((M.tol @E @G m Y).take (i * m)).map nat))) ⟨none,rfl,a0,a6,by rw[Ov];exact e2⟩ ?_ ?_
 ·rintro i σ H' hi ⟨v,rfl,s',ex,et⟩;have ο:i < Y:=by omega
  lia;intro η α;have O:((i:Int) * (os.length:Int))=((i * os.length:Nat):Int):=by push_cast;rfl
  have b9:i * os.length<=102:=L9 (LC _ (KA ο)) ε;refine bU (xs:=xs.map nat) (λk ys β=>Cs (λk ys=>ys=((xs.take k).map λx=>(x <<< (i * os.length)) % 2 ^ (Y * os.length)).map nat) H' η k ys β) (Cs.zero α rfl) (λk ys β _ c=>SqL.of (c.same.get ex)) (λk v ys β hv c=>?_) (λys H3 c=>?_)
  ·obtain⟨b,hb,rfl⟩:=aJ hv;have hk:=(dt.mp hb).1;have hs:CShl (b:Int) ((0 + (i:Int)) * (os.length:Int)):=by rw[Lm,O];exact cshl (EV (ψ b (hR hb)) @C) @A
   lia;refine Cs.put α c.same c.at' c.len @A ?_;rw[c.pv,take_succ hb,gA,gA,Lm,O,Fg,Bw];rfl
  have e3:=c.at';rw[c.pv,cY,vu] at e3;have δ:=c.same;clear c;have a3:γ≠η:=λz=>by rw[<-z,et] at α;cases α
  lia;refine rV (δ.get et) e3 (by rw[cY,cY,cY,JW,a4,υ];have:=M5 (KA ο) m6;have:i * m<=17 * 6:=M5 @A m6;exact KA (c4 @A)) a3 λZ ζ=>?_;refine⟨_,rfl,ζ.same (s1.free ι) (s'.trans δ),?_,?_⟩
  ·exact ζ.oth _ _ (λz=>τ z.symm) (δ.get ex)
  ·have ω:=ζ.at';rw[<-gA] at ω;rw[ω,M.tol_next ο,φ,Ks,aq];rfl
 ·rintro σ H' ⟨v,rfl,s',ex,et⟩;lia;refine q γ H' (s1.free ι) s' ?_;rw[et,lS,Lp (Oy υ)]
end
section
variable {P:qc} {w:u7} {K:bp} {mg:F'} {base:z1} {a:Ad}
local macro_rules | `(tactic| walk_at "l2step") =>`(tactic| first | ((with_reducible refine' cZ ?e ?_);(case e=>walk_at "l2kind")) | ((with_reducible refine' fz ?e ?_);(case e=>walk_at "l2kind")) | (with_reducible refine bS ?_) | (with_reducible refine c6 ?_))
theorem oN (T:Tx K mg a):FnOk P w K mg base CX0 1 a.fO a.rp ["whole","width","count"] zB:=by
 refine T.iU.1.okA vB fun γ A outer s H vs Q E δ h=>?_;obtain⟨η,β,ε,rfl,hw,hT,q⟩:=h;have Z:=kb β;have α:(1:Int) * 2 ^ ((β:Int).toNat) - 1=((2 ^ β - 1:Nat):Int):=by rw[shl1];omega
 refine⟨_,((ai (aC (cW (osc:=ah j0) (ON:=["whole","width","count"]) (N:=["place","whole","width"]) (n:=1) (fx:=[0,1]) rfl rfl rfl (by decide +kernel) (cq (by rfl) T.fg (!j 2 af)) (bc @C) (λ_ _ _ _ _=>⟨(av (i:=0) (show vr (["place","whole","width"]:C') from by decide +kernel) rfl @D),bJ,(au gH (au oM (pv 1) (au hU (pv 0) (pv 2))) (au eg (au bM ag (pv 2)) ag))⟩))))),aB (σ':=[ak _,ak _,ak _]) rfl ?_⟩;lia;intro D Y;refine dB (λi ys H'=>Cs (λi ys=>ys=((lB i).map λt=>(η>>>(t * β))&&&(2 ^ β - 1)).map nat) H D i ys H') (Cs.zero Y rfl) (λi ys H' hi c=>?_) (λys H' c=>?_)
 ·have O:((0:Int) + (i:Int)) * (β:Int)=((i * β:Nat):Int):=by rw[Lm];push_cast;rfl
  lia;rw[O];lia;rw[Ff,α,bQ];refine Cs.put Y c.same c.at' c.len @A ?_;rw[c.pv,Kj,gA,gA];rfl
 ·have O:=c.at';rw[c.pv,lS] at O;exact q D H' Y c.same O
theorem rf (T:Tx K mg a):FnOk P w K mg base CX0 9 a.ie a.uO ["machine","delay"] (zE a.ao):=by
 refine T.jX.1.okA gT λc1 A outer s H vs Q E φ h=>?_;obtain⟨p,m,nx,os,d,rfl,ma,g,b0,a6,δ,ο⟩:=h;obtain⟨dx,tn,to,ho,hn,b9⟩:=ma.ho;have m6:=g.m6;have lo:=g.lo
 refine⟨_,((ae (ax (i:=2) gT.nd rfl @D (ar (oO T) φ T.qI T.fZ (!j 0 (aa (au dH (pv 1) ag) af))))
  (ae (ax (i:=3) gT.nd rfl @D (cC af))
  (ae (c8 ry rfl (cq (by rfl) T.fg (aa (bb (K:=K) rfl (pv 0) rfl) af)) (av (i:=4) gT.nd rfl @D) (ae (ax (i:=5) gT.nd rfl @D (gi (gU (K:=K) rfl) (by rfl) T.kn zv (!j 2 af)))
  (ae (qY ag (Eh (pv 5) (pv 4) wQ))
  (ae (ax (i:=6) gT.nd rfl @D (ar (mC T) φ T.pE T.iV (!j 5 (aa (!A (dz (K:=K) rfl) (pv 2) (pv 4)) af))))
  (ae (dN (aH kO (!A @H (pv 6) ag) gh (aK _)) (ai (aC (b8 (aa gh (aa (ar (oN T) φ T.rj T.iU (aa (ar (rg T) φ T.uI T.jY (aa (au k9 (!A @H (pv 6) ag) (cC (!j 4 af))) af)) (aa (bb (K:=K) rfl (pv 0) rfl) (aa (au dH (pv 1) ag) af)))) af))))) bh)
  (ai (bX (gF (K:=K) rfl sx wq wh cv (pv 3) (aa (!A @H (pv 6) ag) af)))))))))
  (ai (aC (b8 (aa gh (!j 3 af))))))))),aB (σ':=[ak _,ak _,none,none,none,none,none]) rfl ?_⟩
 lia;refine⟨p,m,nx,os,d + 1,rfl,ma,g,@A,λD1 H1 f1 s1 e1=>?_⟩;lia;intro D2 H2 ψ s2 e2;have ζ:=s1.trans s2;have υ:=s2.get e1;have tl:(M.tol @E @G m (d + 1)).length=(d + 1) * m:=M.tol_len;have Y:=M.tol_lt (ps:=prs nx) (os:=prs os) (m:=m) (T:=d + 1);rw[aq] at Y;have c0:(d + 1) * m<=17 * 6:=M5 @A m6;have ρ:m<=(d + 1) * m:=Mt m @A;have χ:=λi (h:i < m)=>show Osm @E @G m d i↔M.Span ((M.tol @E @G m (d + 1)).set i 0) ((M.tol @E @G m (d + 1)).getD i 0) from Qp
 lia;refine a9 (ζ.get ho) T.ay T.aO rfl ?_;lia;refine jR (λi σ H'=>∃(μs:D8) (v1 v2 v3:sh V),σ=[ak (.ref p),ak (nat d),ak (.ref D1),ak (.ref D2),v1,v2,v3]/\Same H H'/\H' D1=ak (.lst ((M.tol @E @G m (d + 1)).map nat))/\H' D2=ak (.lst (μs.map nat))/\μs.length=i/\(∀(k μ:Nat),μs[k]? =ak μ->Bard ((M.tol @E @G m (d + 1)).set k 0) ((M.tol @E @G m (d + 1)).getD k 0) μ)/\∀k,k < i->¬Osm @E @G m d k) ⟨[],none,none,none,rfl,ζ,υ,e2,rfl,λk μ h=>kf h @F,λk h=>kf h (J6 k)⟩ ?_ ?_
 ·rintro i σ H' hi ⟨μs,v1,v2,v3,rfl,s',et,em,lm,hB,hO⟩;have α:i < m:=by omega
  have ι:i < (M.tol @E @G m (d + 1)).length:=by rw[tl];omega
  lia;intro D3 H3 f3 ν e3;lia;refine Eb ?_;lia;rw[Lm];refine D0 e3 (by rw[cY];exact ι) λH4 u4=>?_;have ω:=u4.at';rw[show((M.tol @E @G m (d + 1)).map nat).set i (V.int 0)=((M.tol @E @G m (d + 1)).set i 0).map nat from(PM ..).symm] at ω;have s4:=u4.same f3 ν;have ls:∀x∈(M.tol (prs nx) (prs os) m (d + 1)).set i 0,x < 2 ^ ((d + 1) * os.length):=M.set_lt Y;have up:∀{x:Nat},x < 2 ^ ((d + 1) * os.length)->x < 2 ^ 1000:=λh=>fb h (gn @C @A);have rk:=M.rank_le ls;have ξ:=s4.get et;have β:=s4.get em;have O:=s'.trans s4;lia;refine ue (v:=nat ((M.tol @E @G m (d + 1)).getD i 0)) (SqL.of ξ) (ip <| by rw[ic,gs ι,eh,gs ι];rfl) ?_;clear u4 e3 ν;lia;refine⟨D3,_,_,rfl,ω,by rw[M6,tl];omega,λr h=>up (ls r h),up (M.getD_lt' Y i),Nz @A,λt5 D5 H5 q f5 ε a4 e5 sd=>?_,λt5 H5 μ ε a4 bd=>?_⟩
  ·have ql:=sd.lt;rw[M6,tl] at ql;have π:q < 2 ^ 1000:=fb ql (gn @C @A);lia;intro D6 H6 f6 s6 e6;have γ:=s6.get e5;have a5:(M.pl 1000 q).length<=1000:=M.pl_le 1000 q;have Z:∀x∈M.pl 1000 q,x < 1000:=M.pl_lt π;refine qe γ e6 (by rw[cY,ri];show(M.pl 1000 q).length + 1<=_;omega) λD7 H7 f7 s7 e7=>?_;rw[show(M.pl 1000 q).map nat++[V.int (i:Int)]=(M.pl 1000 q++[i]).map nat by rw[gA];rfl] at e7;have η:=ε.trans (s6.trans s7);lia;refine⟨D7,_,rfl,e7,λx hx=>?_,?_⟩
   ·rcases px.mp hx with h | h
    ·exact Z x h
    ·rw[hC.mp h];omega
   rw[M.xm_snoc,IY π];lia;refine a9 ((O.trans η).get ho) T.ay T.aO rfl ?_;lia;refine⟨q^^^2 ^ i,m,d + 1,rfl,@A,@A,fun θ H8 f8 s8 e8=>?_⟩;lia;intro tt H9 f9 s9 e9;exact δ tt θ H9 _ ((O.trans η).free f8) (((O.trans η).trans s8).trans s9) e9 (s9.get e8) ⟨i,q,α,hO,sd,rfl⟩
  ·lia;refine dU (ε.get β) (by rw[cY,lm,ri];omega) λH6 u6=>?_;have a0:=O.trans ε;have τ:D1≠D2:=λz=>by rw[<-z,e1] at ψ;cases ψ
   refine⟨μs++[μ],_,_,_,rfl,u6.same (s1.free ψ) a0,u6.oth _ _ τ (ε.get ξ),by rw[u6.at',gA];rfl,by rw[gw,lm];rfl,λk μ' h=>?_,λk hk=>?_⟩
   ·by_cases hk:k < μs.length
    ·rw[qM hk] at h;exact hB k μ' h
    ·have a3:=(dt.mp h).1;rw[gw,y2] at a3;have ek:k=i:=by omega
     subst ek;rw[qE @A,lm,Lz] at h;cases h;exact bd
   ·by_cases h:k < i
    ·exact hO k h
    ·rw[show k=i by omega];exact bd.ns
 ·rintro σ H' ⟨μs,v1,v2,v3,rfl,s',et,em,lm,hB,hO⟩;rw[lS] at lm hO;lia;intro tt H3 f3 ν e3;exact ο tt D2 H3 μs (s1.free ψ) (s'.trans ν) e3 (ν.get em) (Ia lm hB) hO
end
section
variable {P:qc} {w:u7} {K:bp} {mg:F'} {base:z1} {a:Ad}
local macro_rules | `(tactic| walk_at "l2step") =>`(tactic| first | ((with_reducible refine' cZ ?e ?_);(case e=>walk_at "l2kind")) | ((with_reducible refine' fz ?e ?_);(case e=>walk_at "l2kind")) | (with_reducible refine bS ?_) | (with_reducible refine c6 ?_))
theorem lj (T:Tx K mg a):FnOk P w K mg base CX0 9 a.bw a.iR ["machine"] (zN a.ao):=by
 refine T.dD.1.okA bG λa4 A outer s H vs Q E β h=>?_;obtain⟨p,m,nx,os,rfl,ma,g,Z,q⟩:=h;obtain⟨dx,tn,to,ho,hn,a0⟩:=ma.ho;have m6:=g.m6
 refine⟨_,((ae (ax (i:=1) bG.nd rfl @D (fc (pv 0) T.ay T.cR (cu T) (β.mono @C) T.a8.2 .nil iw))
  (ae (ax (i:=2) bG.nd rfl @D (cC af))
  (ae (ax (i:=3) bG.nd rfl @D (ar (kl T) β T.lL T.fk (!j 0 (!j 2 af))))
  (ae (k4 ry (aH CH (au dH (aD (aM (K:=K) rfl) (by rfl) T.h8 u' (!j 3 af)) (aD (aM (K:=K) rfl) (by rfl) T.h8 u' (!j 2 af))) (pv 1) (aK _)) (ae (ax (i:=2) bG.nd rfl @D (ar (oQ T) β T.sT T.ke (aa (cW (osc:=ah dw) (ON:=["machine","stores","bars","ways"]) (N:=n10) (n:=1) (fx:=[1]) rfl rfl rfl (by decide +kernel) (be (K:=K) rfl (pv 3)) (bc @C) (λ_ _ _ _ _=>⟨(av (i:=0) (show vr (n10:C') from by decide +kernel) rfl @D),bJ,(au gH (pv 0) (au eg (au bM ag (pv 1)) ag))⟩)) (!j 1 af))))
  (ai (ax (i:=3) bG.nd rfl @D (ar (kl T) β T.lL T.fk (!j 0 (!j 2 af)))))))
  (ai (aC (b8 (!j 2 (!j 3 af)))))))))),aB (σ':=[ak _,none,none,none]) rfl ?_⟩
 lia;refine cb ho rfl ?_;lia;refine⟨p,_,nx,os,rfl,ma,?_⟩;lia;intro O H1 f1 α ο;lia;refine⟨p,O,m,nx,os,[],rfl,ma.same α,g,Z,ο,L0 _,λb h=>kf h @F,λY H2 f2 ρ ξ θ=>?_⟩;lia;refine⟨λk σ H'=>∃(j:Nat) (O Y:fy),σ=[ak (.ref p),ak (nat nx.length),ak (.ref O),ak (.ref Y)]/\k=nx.length - j/\Same H H'/\H' O=ak (.lst ((evj @E @G m j).1.map nat))/\H' Y=ak (.lst ((evj @E @G m j).2.map nat))/\M.Slp @E @G m j (evj @E @G m j).1 (evj @E @G m j).2/\∀i,i < j->(evj @E @G m i).2.length + (evj @E @G m i).1.length < (@E).length,⟨_,0,O,Y,rfl,rfl,α.trans ρ,ρ.get ο,ξ,M.Slp.start θ,λi h=>kf h (J6 i)⟩,?_⟩;clear f1 f2 ο ξ α ρ θ;rintro k σ H1 ⟨j,O,Y,rfl,rfl,α,ο,ξ,S,hl⟩;have δ:evj @E @G m (j + 1)=(M.acr ((evj @E @G m j).2.map (· % 2 ^ (@E).length)) (@E).length,swy @E @G m (M.acr ((evj @E @G m j).2.map (· % 2 ^ (@E).length)) (@E).length)):=rfl;rw[aq] at δ hl;have un:(@E).length<=(evj @E @G m j).2.length + (evj @E @G m j).1.length->Fev @E @G m (evj @E @G m j).1 (evj @E @G m j).2:=λh=>⟨⟨j,S,h⟩,j,rfl,h,by rw[aq];exact hl⟩
 have hl2:∀i,i < j + 1->(evj @E @G m j).2.length + (evj @E @G m j).1.length < nx.length->(evj @E @G m i).2.length + (evj @E @G m i).1.length < nx.length:=λi hi h=>by
  by_cases h':i < j
  ·exact hl i h'
  ·rw[show i=j by omega];exact h
 generalize a3:(evj @E @G m j).1=bs at *
 generalize τ:(evj @E @G m j).2=ws at *
 rw[aq] at un;lia;simp only[cY];have ll:=S.cnt;rw[aq] at ll;by_cases hd:ws.length + bs.length < nx.length
 ·rw[pT (lh @A)];have hl2:=λi hi=>hl2 i hi hd
  have lt':∀r∈ws.map (· % 2 ^ nx.length),r < 2 ^ nx.length:=λr β=>by
   obtain⟨x,_,rfl⟩:=ov.mp β;exact Mj _ (kb _)
  have rk:(M.fr (ws.map (· % 2 ^ nx.length))).length=ws.length:=by
   have:=M.fr_inj S.w.inj;rw[aq,cY] at this;exact this
  generalize ζ:M.acr (ws.map (· % 2 ^ nx.length)) nx.length=ms at *
  refine⟨fun σ' H'=>∃(O Y:fy),σ'=[ak (.ref p),ak (nat nx.length),ak (.ref O),ak (.ref Y)]/\Same H H'/\H' O=ak (.lst (ms.map nat))/\H' Y=ak (.lst ((swy @E @G m ms).map nat))/\M.Slp @E @G m (j + 1) ms (swy @E @G m ms),?_,?_⟩
  ·rintro σ' H' ⟨η,D4,rfl,s',e3,ω,S'⟩;have:=S'.le;rw[aq] at this;refine⟨nx.length - (j + 1),@A,j + 1,η,D4,rfl,rfl,s',?_,?_,?_,?_⟩
   ·rw[δ];exact e3
   ·rw[δ];exact ω
   ·rw[δ];exact S'
   ·first | exact hl2 | (rw[aq];exact hl2)
  ·have hc:CPow (1:Int) (nx.length:Int):=⟨@A,@A,@C⟩;clear δ un hl2 hl;lia;intro D5 ν;refine bU (xs:=ws.map nat) (λi ys H'=>Cs (λi ys=>ys=((ws.take i).map (· % 2 ^ nx.length)).map nat) H1 D5 i ys H') (Cs.zero ν rfl) (λi ys H' _ c=>SqL.of (c.same.get ξ)) (λi v ys H' hv c=>?_) (λys H5 c=>?_)
   ·obtain⟨b,ι,rfl⟩:=aJ hv;have hi:=(dt.mp ι).1;lia;refine Cs.put ν c.same c.at' c.len @A ?_;rw[c.pv,take_succ ι,gA,gA,Bw];rfl
   have ψ:=c.at';rw[c.pv,cY,vu] at ψ;have ε:=c.same;clear c;lia;refine⟨D5,_,nx.length,rfl,ψ,by rw[cY];omega,@A,lt',@A,λD6 H6 f6 χ υ γ=>?_⟩;rw[ζ] at υ γ;have ln:=γ.len;rw[rk] at ln;lia;refine⟨p,D6,m,nx,os,ms,rfl,ma.same ((α.trans ε).trans χ),g,Z,υ,@A,γ.lt,λD7 H7 f7 φ e7 θ=>?_⟩;lia;refine⟨D6,D7,rfl,((α.trans ε).trans χ).trans φ,φ.get υ,e7,S.next (by rw[aq];omega) (by rw[aq];exact hd) (by rw[aq];exact γ.lt) (by rw[aq];exact ln) (by rw[aq];exact γ.ev) (by rw[aq];exact γ.all) θ⟩
 ·rw[oT (by rw[t4];omega)];have un:=un @A;lia;intro t8 H8 f8 π e8;exact q t8 O Y H8 bs ws (α.trans π) e8 (π.get ο) (π.get ξ) un
end
section
variable {P:qc} {w:u7} {K:bp} {mg:F'} {base:z1} {a:Ad}
local macro_rules | `(tactic| walk_at "l2step") =>`(tactic| first | ((with_reducible refine' cZ ?e ?_);(case e=>walk_at "l2kind")) | ((with_reducible refine' fz ?e ?_);(case e=>walk_at "l2kind")) | (with_reducible refine bS ?_) | (with_reducible refine c6 ?_))
theorem GW (b n:Nat):(b:Int) / 2 ^ ((n:Int).toNat)=((b>>>n:Nat):Int):=by rw[lS,so];push_cast;rfl
theorem r9 (T:Tx K mg a):FnOk P w K mg base CX0 10 a.dh a.nk ["machine"] (ya a.ao):=by
 refine T.iB.1.okA bI λo7 A outer s H vs Q E hr h=>?_;obtain⟨p,m,nx,os,rfl,ma,g,l6,qN,qS⟩:=h;obtain⟨dx,tn,to,ho,hn,l9⟩:=ma.ho;have m6:=g.m6;have lo:=g.lo
 refine⟨_,((ae (ax (i:=1) bI.nd rfl @D (ar (lj T) hr T.mV T.dD (!j 0 af)))
  (ae (hG (osc:=ah cB) (ON:=n11) (N:=["pair"]) (n:=1) (fx:=[]) (i:=2) bI.nd rfl rfl rfl rfl rfl rfl (by decide +kernel) (rX (K:=K) rfl (bb (K:=K) rfl (pv 0) rfl)) (bc @C) (λ_ _ _ _ _=>⟨(av (i:=0) (show vr (["pair"]:C') from by decide +kernel) rfl @D),bJ,(!A @H (pv 0) ag)⟩))
  (ae (bX (gF (K:=K) rfl sx N3 N2 oX (pv 2) (aa (cW (osc:=ah cB) (ON:=n11) (N:=["bar","machine"]) (n:=1) (fx:=[0]) rfl rfl rfl (by decide +kernel) (be (K:=K) rfl (!A @H (pv 1) ag)) (bc @C) (λ_ _ _ _ _=>⟨(av (i:=0) (show vr (["bar","machine"]:C') from by decide +kernel) rfl @D),bJ,(!A @H (dX (pv 1) T.ay T.iJ (hX T) (hr.mono @C) T.b7.2 .nil thr0 (!j 0 af)) ag)⟩)) af)))
  (ae (ax (i:=3) bI.nd rfl @D (ar (oQ T) hr T.sT T.ke (!j 2 (aa (bb (K:=K) rfl (pv 0) rfl) af))))
  (ae (dN (aH kO (aD (aM (K:=K) rfl) (by rfl) T.h8 u' (!j 3 af)) ag (aK _)) (ai (aC Ej)) bh)
  (ae (ax (i:=4) bI.nd rfl @D (fc (pv 0) T.ay T.cR (cu T) (hr.mono @C) T.a8.2 .nil iw))
  (ae (ax (i:=5) bI.nd rfl @D (cW (osc:=ah cB) (ON:=n11) (N:=n10) (n:=1) (fx:=[4]) rfl rfl rfl (by decide +kernel) (be (K:=K) rfl (!A @H (pv 1) ag)) (bc @C) (λ_ _ _ _ _=>⟨(av (i:=0) (show vr (n10:C') from by decide +kernel) rfl @D),bJ,(au gH (pv 0) (au eg (au bM ag (pv 1)) ag))⟩)))
  (ae (hG (osc:=ah cB) (ON:=n11) (N:=n10) (n:=1) (fx:=[4]) (i:=6) bI.nd rfl rfl rfl rfl rfl rfl (by decide +kernel) (be (K:=K) rfl (!A @H (pv 1) ag)) (bc @C) (λ_ _ _ _ _=>⟨(av (i:=0) (show vr (n10:C') from by decide +kernel) rfl @D),bJ,(au oM (pv 0) (pv 1))⟩))
  (ae (ax (i:=7) bI.nd rfl @D (!A @H (ar (mC T) hr T.pE T.iV (!j 5 (aa (!A @H (dX (pv 0) T.ay T.iI (hV T) (hr.mono @C) T.b6.2 .nil thr0 (aa ag (aa (!A (dz (K:=K) rfl) (pv 3) ag) af))) ag) af))) ag))
  (ae (hG (osc:=ah cB) (ON:=n11) (N:=n14) (n:=2) (fx:=[5,0]) (i:=8) bI.nd rfl rfl rfl rfl rfl rfl (by decide +kernel) (HI (K:=K) rfl (by rfl) T.HY (pv 5) (pv 6)) (Es (n6 (bc @C) (n6 (bc @C) A2))) (λ_ _ _ _ _=>⟨(Am (K:=K) (n:=2) rfl rfl (aF (av (i:=0) (show vr (n14:C') from by decide +kernel) rfl @D) (aF (av (i:=1) (show vr (n14:C') from by decide +kernel) rfl @D) eZ))),bJ,(!A @H (ar (mC T) hr T.pE T.iV (!j 2 (aa (!A @H (dX (pv 3) T.ay T.iI (hV T) (hr.mono @C) T.b6.2 .nil thr0 (!j 0 (!j 1 af))) ag) af))) ag)⟩))
  (ai (aC (b8 (aa gh (aa (!A (dz (K:=K) rfl) (pv 3) ag) (!j 7 (!j 5 (!j 6 (!j 8 af)))))))))))))))))))),aB (σ':=[ak _,none,none,none,none,none,none,none,none]) rfl ?_⟩
 lia;refine⟨p,m,nx,os,rfl,ma,g,l6,λt1 D1 D2 H1 bars a3 s1 et e1 e2 fv=>?_⟩;have m0:=s1.get ho;have χ:=s1.get l9;lia;refine a9 m0 T.ay T.bZ rfl ?_;refine⟨to,rfl,⟨_,SqT.of χ⟩,?_⟩;intro D3 d1;refine n9 (xs:=refs os) (λi ys H'=>Cs (λi ys=>ys=((os.take i).map λq=>q.2.2).map nat) H1 D3 i ys H') (Cs.zero d1 rfl) (λi ys H' _ c=>SqT.of (c.same.get χ)) (λi v ys H' hv c=>?_) (λys H3 c=>?_)
 ·obtain⟨r,τ,rfl⟩:=aJ hv;have hi:=(dt.mp τ).1;have hm:=hR τ;have er:=(s1.trans c.same).get (ma.hs r hm);lia;refine Cs.put d1 c.same c.at' c.len @A ?_;rw[c.pv,take_succ τ,gA,gA];rfl
 have e3:=c.at';rw[c.pv,show(refs os).length=os.length from cY ..,vu] at e3;have s3:=c.same;clear c;have c0:=s1.trans s3;have m8:=s3.get et;have d2:=s3.get e1;have bl:bars.length<=nx.length:=by obtain⟨j,S,_⟩:=fv.ex;obtain⟨pr,_,_,h,_⟩:=S.cnt;rw[aq] at h;omega
 have blt:∀b∈bars,b < 2 ^ nx.length:=by obtain⟨j,S,_⟩:=fv.ex;have:=S.lt;rw[aq] at this;exact this
 lia;intro D4 ε;refine bU (xs:=bars.map nat) (λi ys H'=>Cs (λi ys=>ys=((bars.take i).map (M.sm (nx.map λq=>q.2.2))).map nat) H3 D4 i ys H') (Cs.zero ε rfl) (λi ys H' _ c=>SqL.of (c.same.get d2)) (λi v ys H' hv c=>?_) (λys H4 c=>?_)
 ·obtain⟨b,a4,rfl⟩:=aJ hv;have hi:=(dt.mp a4).1;have hm:=hR a4;have f7:=c0.trans c.same;lia;refine cP (f7.get ho) rfl ?_;lia;refine⟨p,m,nx,os,nat b,"int",rfl,ma.same f7,g,rfl,λa1 ea ha t7 H7 s7 e7=>?_,λO=>?_⟩
  ·have ea:=iH ea;subst ea;lia;refine Cs.put ε (c.same.trans s7) (s7.get c.at') c.len @A ?_;rw[c.pv,take_succ a4,gA,gA];rfl
  ·rw[cQ (blt b hm)] at O;cases O
 have e4:=c.at';rw[c.pv,cY,vu] at e4;have s4:=c.same;clear c;lia;have f8:D3≠D4:=λz=>by rw[<-z,e3] at ε;cases ε
 refine rV (s4.get e3) e4 (by rw[cY,cY,cY,cY];exact KA (c4 @A)) f8 λH5 u5=>?_;have s5:=u5.same d1 (s3.trans s4);have e5:=u5.at';have er:(os.map λq=>q.2.2)++bars.map (M.sm (nx.map λq=>q.2.2))=(@G).map (·.2)++bars.map (M.sm ((@E).map (·.2))):=by rw[show(@E).map (·.2)=nx.map λq=>q.2.2 by rw[Ks];rfl,show(@G).map (·.2)=os.map λq=>q.2.2 by rw[Ks];rfl]
 rw[<-gA,er] at e5;have f5:=s1.trans s5
 have f0:∀r∈(prs os).map (·.2)++bars.map (M.sm ((prs nx).map (·.2))),r < 2 ^ m:=λr hr=>by
  rcases px.mp hr with h | h
  ·obtain⟨q,hq,rfl⟩:=ov.mp h;obtain⟨r',τ,rfl⟩:=ov.mp hq;exact(g.bn r' (oD _ τ)).2
  ·obtain⟨b,a4,rfl⟩:=ov.mp h;refine M.sm_lt _ λx hx=>?_;obtain⟨q,hq,rfl⟩:=ov.mp hx;obtain⟨r,hr,rfl⟩:=ov.mp hq;exact(g.bn r (ro _ hr)).2
 have g3:((@G).map (·.2)++bars.map (M.sm ((@E).map (·.2)))).length=os.length + bars.length:=by
  rw[gw,cY,aq,cY]
 have fi:=λu=>M.first_iff (ps:=prs nx) (os:=prs os) (bars:=bars) (u:=u) (by rw[aq];omega) (by rw[aq];omega);have n2:=s5.get e2;have m7:=s5.get et;clear u5 e3 e4 d2 m8 d1 ε f8 er s3 s4 c0 e1;lia;refine a9 (f5.get ho) T.ay T.aO rfl ?_;lia;refine⟨D3,_,m,rfl,e5,by rw[g3];omega,@A,f0,v' (M.rank_le f0) @A,λD6 H6 f6 s6 e6 ac=>?_⟩;have Z:=f5.trans s6;clear e5;lia;have h5:H6 D6=ak (.lst ((fsts @E @G m bars).map nat)):=e6;have α:Acr ((@G).map (·.2)++bars.map (M.sm ((@E).map (·.2)))) m (fsts @E @G m bars):=ac;rw[show M.acr ((@G).map (λx=>x.2)++bars.map (M.sm ((@E).map (λx=>x.2)))) m=fsts @E @G m bars from rfl];clear e6 ac;cases hf:fsts @E @G m bars with
 | nil=>
   dsimp only;rw[pT (by rw[t4];rfl)];lia;refine qN H6 bars a3 Z fv λu hu h1 h2=>?_;have:=α.all u hu ((fi u).mpr ⟨h1,h2⟩);rw[hf] at this;exact this
 | cons u fs=>
   rw[hf] at h5 α;have u0:=α.inj.nz (iv (a:=u));have ul:=α.lt u iv;have ι:=(fi u).mp (α.ev u iv);have hu:(fsts @E @G m bars)[0]? =ak u:=by rw[hf];rfl
   clear α fi f0 g3 hf qN
   have lw:a3.length<=nx.length:=by
    obtain⟨j,S,_⟩:=fv.ex
    have hl:∀r∈a3.map (· % 2 ^ (prs nx).length),r < 2 ^ nx.length:=λr hr=>by
     obtain⟨x,_,rfl⟩:=ov.mp hr;rw[aq];exact Mj _ (kb _)
    have:=M.rank_le hl;rw[M.fr_inj S.w.inj,cY] at this;exact this
   have j1:∀w∈a3,w < 2 ^ (nx.length + m):=by obtain⟨j,S,_⟩:=fv.ex;have:=S.w.lt;rw[aq] at this;exact this
   have gf:=λh=>fv.first (u:=u) h;have gg:=λw hw=>fv.goes (w:=w) hw;rw[aq] at gf;simp only[aq] at gg;dsimp only;rw[oT (by rw[t4];intro z;have:=V.int.inj z;rw[cY,ub] at this;omega)];have h6:=s6.get n2;have m5:=s6.get m7;lia;refine cb (Z.get ho) rfl ?_;lia;refine⟨p,_,nx,os,rfl,ma.same Z,?_⟩;have hc:CPow (1:Int) (nx.length:Int):=⟨@A,@A,@C⟩;lia;intro D7 f2;refine bU (xs:=a3.map nat) (λi ys H'=>Cs (λi ys=>ys=((a3.take i).map (· % 2 ^ nx.length)).map nat) H6 D7 i ys H') (Cs.zero f2 rfl) (λi ys H' _ c=>SqL.of (c.same.get h6)) (λi v ys H' hv c=>?_) (λys H7 c=>?_)
   ·obtain⟨b,a4,rfl⟩:=aJ hv;have hi:=(dt.mp a4).1;lia;refine Cs.put f2 c.same c.at' c.len @A ?_;rw[c.pv,take_succ a4,gA,gA,Bw];rfl
   have e7:=c.at';rw[c.pv,cY,vu] at e7;have s7:=c.same;clear c;have o6:=s7.get m5;have m9:=s7.get h6;lia;intro θ c2;refine bU (xs:=a3.map nat) (λi ys H'=>Cs (λi ys=>ys=((a3.take i).map (·>>>nx.length)).map nat) H7 θ i ys H') (Cs.zero c2 rfl) (λi ys H' _ c=>SqL.of (c.same.get m9)) (λi v ys H' hv c=>?_) (λys H8 c=>?_)
   ·obtain⟨b,a4,rfl⟩:=aJ hv;have hi:=(dt.mp a4).1;lia;refine Cs.put c2 c.same c.at' c.len @A ?_;rw[c.pv,take_succ a4,gA,gA,GW];rfl
   have e8:=c.at';rw[c.pv,cY,vu] at e8;have s8:=c.same;clear c;have f4:=s7.trans s8;have β:=f4.get h5;lia;have c5:=Z.trans f4;refine cP (c5.get ho) rfl ?_;lia;refine ue (v:=nat u) (SqL.of β) (ip (j:=0) rfl) ?_;lia
   refine⟨p,m,nx,os,nat 0,nat u,"int","int",rfl,ma.same c5,g,rfl,rfl,λa0 b0 ea eb _ _ t9 H9 s9 e9=>?_,λO=>by
    exfalso;rcases O with h | h
    ·rw[cQ (kb _)] at h;cases h
    ·rw[cQ ul] at h;cases h⟩
   have ea:=iH ea;have eb:=iH eb;subst ea eb
   have slt:∀r∈a3.map (· % 2 ^ nx.length),r < 2 ^ 1000:=λr hr=>by
    obtain⟨x,_,rfl⟩:=ov.mp hr;exact fb (Mj _ (kb _)) (gn @C @A)
   have Y:∀x y,M.tr2 @E x y < 2 ^ 1000:=λx y=>by
    have:=M.tr2_lt @E x y;rw[aq] at this;exact fb this (gn @C @A)
   have ν:=(s8.trans s9).get e7;lia;refine⟨D7,_,_,rfl,ν,by rw[cY];omega,slt,Y 0 u,Nd (gf ι.2),λj2 d3 f3 bq a6 d0 g5 ξ sd=>?_,λj2 f3 mm d0 g5 bd=>kf (gf ι.2) bd.ns⟩;lia;refine G9 ?_;have b9:=s9.trans d0;have a5:=d0.get ν;have γ:=b9.get e8;lia;refine⟨D7,θ,(a3.map (· % 2 ^ nx.length)).map nat,(a3.map (·>>>nx.length)).map nat,rfl,rfl,SqL.of a5,SqL.of γ,by rw[cY,cY,cY,cY],?_⟩;intro δ ψ;have c1:=c5.trans b9;refine Dq (xs:=(a3.map (· % 2 ^ nx.length)).map nat) (ys:=(a3.map (·>>>nx.length)).map nat) (by rw[cY,cY,cY,cY]) (λi zs H'=>∃ls:f' (fy×Nat),zs=ls.map (λq=>V.ref q.1)/\Same f3 H'/\H' δ=ak (.lst zs)/\ls.length=i/\(∀q∈ls,H' q.1=ak (.lst ((M.pl 1000 q.2).map nat)))/\(∀q∈ls,q.1≠δ/\f3 q.1=none)/\∀(k w:Nat) (q:fy×Nat),a3[k]? =ak w->ls[k]? =ak q->Sumd (a3.map (· % 2 ^ nx.length)) (M.tr2 @E (w % 2 ^ nx.length) (w>>>nx.length)) q.2) ⟨[],rfl,eT ψ,bg,rfl,λq h=>kf h @F,λq h=>kf h @F,λk w q _ h=>kf h @F⟩ (λi zs H' _ ⟨_,_,s',_⟩=>⟨SqL.of (s'.get a5),SqL.of (s'.get γ)⟩) (λi x y zs H' pz p3 hx hy c fp sp ep=>?_) (λzs n7 c=>?_)
   ·obtain⟨ls,rfl,s',eD,li,f1,φ,e0⟩:=c;obtain⟨x1,ω,rfl⟩:=aJ hx;rw[ic] at ω;obtain⟨w,hw,rfl⟩:=KD.mp ω;obtain⟨y1,f9,rfl⟩:=aJ hy;rw[ic] at f9;obtain⟨w2,g0,rfl⟩:=KD.mp f9;rw[hw] at g0;cases g0;have hi:=(dt.mp hw).1;have hm:=hR hw;have sw:=c1.trans (s'.trans sp);have o5:pz≠δ:=λz=>by rw[z,eD] at fp;cases fp
    lia;refine cP (sw.get ho) rfl ?_;lia;have wd:=M.jd_of (j1 w hm)
    refine⟨p,m,nx,os,_,_,"int","int",rfl,ma.same sw,g,rfl,rfl,λa0 b0 ea eb _ _ o3 h9 ζ h7=>?_,λO=>by
     exfalso;rcases O with h | h
     ·rw[cQ wd.2.1] at h;cases h
     ·rw[cQ wd.2.2] at h;cases h⟩
    have ea:=iH ea;have eb:=iH eb;subst ea eb;have h3:=(s'.trans (sp.trans ζ)).get a5;lia;refine⟨D7,_,_,rfl,h3,by rw[cY];omega,slt,Y _ _,Nd (gg w hm),fun η ο n4 q m2 c0 g4 d2 j3=>?_,fun η n4 mm c0 g4 bd=>kf (gg w hm) bd.ns⟩;have st:=sp.trans (ζ.trans c0);have c3:H' ο=none:=(sp.trans ζ).free m2;have υ:ο≠δ:=λz=>by rw[z,eD] at c3;cases c3
    lia;refine⟨st.get eD,by rw[cY];exact c4 @A,ls++[(ο,q)],by rw[gA];rfl,λb o e=>?_,bg,by rw[gw,li];rfl,λq' h=>?_,λq' h=>?_,λk w' q' h1 h2=>?_⟩
    ·rw[aV (aw e ψ)];exact st.get (s'.get e)
    ·rcases px.mp h with h | h
     ·rw[aV (φ q' h).1];exact st.get (f1 q' h)
     ·rw[hC.mp h,aV υ];exact d2
    ·rcases px.mp h with h | h
     ·exact φ q' h
     ·rw[hC.mp h];exact⟨υ,s'.free c3⟩
    ·by_cases hk:k < ls.length
     ·rw[qM hk] at h2;exact e0 k w' q' h1 h2
     ·have m1:=(dt.mp h2).1;rw[gw,y2] at m1;have ek:k=i:=by omega
      subst ek;rw[qE @A,li,Lz] at h2;cases h2;rw[hw] at h1;cases h1;exact j3
   obtain⟨ls,rfl,s',eD,li,f1,φ,e0⟩:=c;rw[cY,cY] at li;lia;have j7:=s';have n8:=(s8.trans (s9.trans (d0.trans s')));refine ue (v:=nat u) (SqL.of ((b9.trans s').get β)) (ip (j:=0) rfl) ?_;lia;intro tt h9 m3 ζ h7;have o4:∀{b:fy} {o:HO},n7 b=ak o->b≠tt:=λh z=>by rw[z,m3] at h;cases h
   have n3:=s'.get ξ;have h4:=s'.get a5;have h0:=s'.get γ;have ρ:D7≠θ:=λz=>by rw[<-z,e7] at c2;cases c2
   have l4:d3≠D7:=λz=>by rw[z] at a6;rw[ν] at a6;cases a6
   have k6:d3≠θ:=λz=>by rw[z] at a6;rw[s9.get e8] at a6;cases a6
   have nB:d3≠δ:=λz=>by rw[<-z,ξ] at ψ;cases ψ
   have π:D7≠δ:=λz=>by rw[<-z,a5] at ψ;cases ψ
   have k8:θ≠δ:=λz=>by rw[<-z,γ] at ψ;cases ψ
   refine qS h9 tt d3 D7 θ δ u bars a3 bq ls ((c1.trans s').trans ζ) ⟨h7,ζ.get n3,by rw[aq];exact ζ.get h4,by rw[aq];exact ζ.get h0,ζ.get eD,λq h=>ζ.get (f1 q h),(c5.trans s9).free a6,Z.free f2,(Z.trans s7).free c2,c1.free ψ,by simp[ρ,l4,k6,nB,π,k8],λq h z=>?_,fv,hu,u0,ul,ι,by rw[aq];exact sd,li,by rw[aq];exact e0⟩;have hq:=φ q h;simp only[rz,JV,L5] at z;rcases z with z | z | z | z
   ·rw[z,ξ] at hq;cases hq.2
   ·rw[z,a5] at hq;cases hq.2
   ·rw[z,γ] at hq;cases hq.2
   ·exact hq.1 z
end
section
variable {P:qc} {w:u7} {K:bp} {mg:F'} {base:z1} {a:Ad}
local macro_rules | `(tactic| walk_at "l2step") =>`(tactic| first | ((with_reducible refine' cZ ?e ?_);(case e=>walk_at "l2kind")) | ((with_reducible refine' fz ?e ?_);(case e=>walk_at "l2kind")) | (with_reducible refine bS ?_) | (with_reducible refine c6 ?_))
theorem qg (T:Tx K mg a):FnOk P w K mg base CX0 6 a.cF a.lR ["machine","delay","mask"] (zC a.ao):=by
 refine T.gN.1.okA bA λc5 A outer s H vs Q E γ h=>?_;obtain⟨p,m,nx,os,d,μ,rfl,ma,g,Z,ld,θ,Y,q⟩:=h;obtain⟨dx,tn,to,ho,hn,χ⟩:=ma.ho;have m6:=g.m6;have lo:=g.lo
 refine⟨_,((ae (ax (i:=3) bA.nd rfl @D (fc (pv 0) T.ay T.cw (bT T) (γ.mono @C) T.aR.2 .nil iw))
  (ae (ax (i:=4) bA.nd rfl @D ag)
  (ae (hG (osc:=ah eU) (ON:=n16) (N:=["pair"]) (n:=1) (fx:=[]) (i:=5) bA.nd rfl rfl rfl rfl rfl rfl (by decide +kernel) (rX (K:=K) rfl (bb (K:=K) rfl (pv 0) rfl)) (bc @C) (λ_ _ _ _ _=>⟨(av (i:=0) (show vr (["pair"]:C') from by decide +kernel) rfl @D),bJ,(!A @H (pv 0) ag)⟩))
  (ae (c8 ry rfl (be (K:=K) rfl (ar (oN T) γ T.rj T.iU (!j 2 (!j 3 (aa (au dH (pv 1) ag) af))))) (av (i:=6) bA.nd rfl @D) (ae (c8 ry rfl (be (K:=K) rfl (ar (j4 T) γ T.lO T.ir (!j 6 af))) (av (i:=7) bA.nd rfl @D) (ai (ax (i:=4) bA.nd rfl @D (au fw (pv 4) (!A (dz (K:=K) rfl) (pv 5) (pv 7))))))
  (ai (hG (osc:=ah eU) (ON:=n16) (N:=["look","machine"]) (n:=1) (fx:=[0]) (i:=5) bA.nd rfl rfl rfl rfl rfl rfl (by decide +kernel) (be (K:=K) rfl (pv 5)) (bc @C) (λ_ _ _ _ _=>⟨(av (i:=0) (show vr (["look","machine"]:C') from by decide +kernel) rfl @D),bJ,(!A @H (dX (pv 1) T.ay T.iJ (hX T) (γ.mono @C) T.b7.2 .nil thr0 (!j 0 af)) ag)⟩)))))
  (ae (ax (i:=8) bA.nd rfl @D (au gH (pv 2) (au eg (au bM ag (au hU (pv 1) (pv 3))) ag)))
  (ai (aC (b8 (aa (au fw (pv 4) (au bM (pv 8) (fc (pv 0) T.ay T.cR (cu T) (γ.mono @C) T.a8.2 .nil iw))) (aa (au oM (pv 2) (au hU (pv 1) (pv 3))) af))))))))))),aB (σ':=[ak _,ak _,ak _,none,none,none,none,none,none]) rfl ?_⟩
 lia;refine cb ho rfl ?_;lia;refine⟨p,_,nx,os,rfl,ma,?_⟩;lia;refine a9 ho T.ay T.bZ rfl ?_;refine⟨to,rfl,⟨_,SqT.of χ⟩,?_⟩;intro D1 ψ;refine n9 (xs:=refs os) (λi ys H'=>Cs (λi ys=>ys=((os.take i).map λq=>q.2.1).map nat) H D1 i ys H') (Cs.zero ψ rfl) (λi ys H' _ c=>SqT.of (c.same.get χ)) (λi v ys H' hv c=>?_) (λys H1 c=>?_)
 ·obtain⟨r,τ,rfl⟩:=aJ hv;have hi:=(dt.mp τ).1;have er:=c.same.get (ma.hs r (hR τ));lia;refine Cs.put ψ c.same c.at' c.len @A ?_;rw[c.pv,take_succ τ,gA,gA];rfl
 have e1:=c.at';rw[c.pv,show(refs os).length=os.length from cY ..,vu] at e1;have s1:=c.same;clear c;lia;refine⟨μ,os.length,d + 1,rfl,@A,@A,λD2 H2 f2 s2 e2=>?_⟩;have ζ:=s1.trans s2;have υ:=s2.get e1;lia;have pA:(@E).map (·.1)=nx.map λq=>q.2.1:=by rw[Ks];rfl
 have pO:(@G).map (·.1)=os.map λq=>q.2.1:=by rw[Ks];rfl
 have hA:∀x∈nx.map (λq=>q.2.1),x < 2 ^ nx.length:=λx ξ=>by
  obtain⟨r,γ,rfl⟩:=ov.mp ξ;exact(g.bn r (ro _ γ)).1
 have hO:∀x∈os.map (λq=>q.2.1),x < 2 ^ nx.length:=λx ξ=>by
  obtain⟨r,γ,rfl⟩:=ov.mp ξ;exact(g.bn r (oD _ γ)).1
 have zs:∀i,M.zmk @E @G μ (i + 1)=M.zmk @E @G μ i^^^M.sm ((os.map λq=>q.2.1).map λl=>M.bkI (nx.map λq=>q.2.1) l i) ((μ>>>(i * os.length))&&&(2 ^ os.length - 1)):=λi=>by
  show M.zmk @E @G μ i^^^_=_;rw[pA,pO,aq]
 generalize b9:nx.map (λq=>q.2.1)=As at *
 generalize b0:os.map (λq=>q.2.1)=Os at *
 have a3:Os.length=os.length:=by rw[<-b0,cY]
 refine fX (xs:=(M.upk os.length μ (d + 1)).map nat) (λi σ H'=>∃(DL:fy) (v1 v2:sh V),σ=[ak (.ref p),ak (nat d),ak (nat μ),ak (nat os.length),ak (nat (M.zmk @E @G μ i)),ak (.ref DL),v1,v2,none]/\Same H2 H'/\H' DL=ak (.lst ((Os.map λl=>M.bkI As l i).map nat))) ⟨D1,none,none,rfl,λ_ _ h=>h,by rw[show(Os.map λl=>M.bkI As l 0)=Os from Ri Os];exact υ⟩ (λi σ H' _ ⟨_,_,_,_,s',_⟩=>SqL.of (s'.get e2)) ?_ ?_
 ·rintro i y σ H' hy ⟨DL,v1,v2,rfl,s',eL⟩;obtain⟨an,β,rfl⟩:=aJ hy;have hi:=(dt.mp β).1;rw[M.upk_len] at hi
  have c0:an=(μ>>>(i * os.length))&&&(2 ^ os.length - 1):=by
   unfold M.upk at β;rw[ic,Lc hi] at β;exact(mu β).symm
  have ρ:an < 2 ^ os.length:=M.upk_lt _ _ _ an (hR β);lia;refine⟨an,rfl,fb ρ (gn @C @A),fun η H3 f3 s3 e3=>?_⟩;rw[M.pl_up ρ @A] at e3;have a0:=s3.get eL;generalize δ:Os.map (λl=>M.bkI As l i)=Ls at *
  have a5:Ls.length=os.length:=by rw[<-δ,cY,a3]
  have a4:∀x∈Ls,x < 2 ^ nx.length:=λx ξ=>by
   rw[<-δ] at ξ;obtain⟨l,hl,rfl⟩:=ov.mp ξ;exact M.bkI_lt hA (hO l hl) i
  lia;refine fX (xs:=(M.pl os.length an).map nat) (λk σ α=>∃v,σ=[ak (.ref p),ak (nat d),ak (nat μ),ak (nat os.length),ak (nat (M.zmk @E @G μ i^^^((M.pl os.length an).take k).foldl (λa p=>a^^^Ls.getD p 0) 0)),ak (.ref DL),ak (nat an),v,none]/\α=H3) ⟨v2,by rw[QU,O3,KJ],rfl⟩ (λk σ α _ ⟨_,_,e⟩=>by rw[e];exact SqL.of e3) ?_ ?_
  ·rintro k y σ α hy ⟨v,rfl,rfl⟩;obtain⟨k1,π,rfl⟩:=aJ hy;have c1:k1 < os.length:=zx.mp (KB.mp (hR π)).1;lia;refine ue (v:=nat (Ls.getD k1 0)) (SqL.of a0) (ip <| by rw[ic,gs (by omega),eh,gs (by omega)];rfl) ?_;lia;refine⟨ak (nat k1),?_,rfl⟩;rw[aU,take_succ π,KN,Ke];rfl
  ·rintro σ H3 ⟨v,rfl,rfl⟩;rw[cY,vu,M.sm_places Ls an (by rw[a5];exact ρ) os.length @A];lia;intro D4 ε;refine bU (xs:=Ls.map nat) (λk ys α=>Cs (λk ys=>ys=((Ls.take k).map (M.sm As)).map nat) H3 D4 k ys α) (Cs.zero ε rfl) (λk ys α _ c=>SqL.of (c.same.get a0)) (λk v ys α hv c=>?_) (λys H4 c=>?_)
   ·obtain⟨b,ν,rfl⟩:=aJ hv;have hk:=(dt.mp ν).1;have hm:=hR ν;have φ:=ζ.trans (s'.trans (s3.trans c.same));lia;refine cP (φ.get ho) rfl ?_;lia;refine⟨p,m,nx,os,nat b,"int",rfl,ma.same φ,g,rfl,λa1 ea ha ι H7 s7 e7=>?_,λO=>?_⟩
    ·have ea:=iH ea;subst ea;rw[b9] at e7;lia;refine Cs.put ε (c.same.trans s7) (s7.get c.at') c.len @A ?_;rw[c.pv,take_succ ν,gA,gA];rfl
    ·rw[cQ (a4 b hm)] at O;cases O
   have ω:=c.at';rw[c.pv,cY,vu] at ω;have s4:=c.same;clear c;lia;refine⟨D4,ak (nat an),v,?_,s'.trans (s3.trans s4),?_⟩
   ·rw[zs i,δ,c0]
   ·rw[ω,<-δ,Ks (f:=λl=>M.bkI As l i)];rfl
 ·rintro σ H' ⟨DL,v1,v2,rfl,s',eL⟩;rw[cY,M.upk_len];have c2:d * os.length + os.length < 64:=by rw[LK,Mb] at θ;exact θ
  have hp:((d:Int) * (os.length:Int))=((d * os.length:Nat):Int):=by push_cast;rfl
  have hc:CPow (1:Int) ((d:Int) * (os.length:Int)):=by rw[hp];exact⟨@A,@A,@C⟩
  have ο:μ < 2 ^ 64:=fb Y (gn @C (KA θ));have a6:μ % 2 ^ (d * os.length) < 2 ^ 64:=v' (Nat.mod_le _ _) ο;have sH:=ζ.trans s';lia;rw[hp,Bw];have c3:CPow ((μ % 2 ^ (d * os.length):Nat):Int) (nx.length:Int):=⟨@A,@A,by rw[Od];exact a6⟩;lia;refine cb (sH.get ho) rfl ?_;lia;refine⟨p,_,nx,os,rfl,ma.same sH,?_⟩;lia;intro tt H5 f5 s5 e5;rw[Fg,aU,hp,GW] at e5;refine q tt H5 (sH.trans s5) ?_;rw[e5];unfold M.tel;rw[aq,aq]
end
section
variable {P:qc} {w:u7} {K:bp} {mg:F'} {base:z1} {a:Ad}
local macro_rules | `(tactic| walk_at "l2step") =>`(tactic| first | ((with_reducible refine' cZ ?e ?_);(case e=>walk_at "l2kind")) | ((with_reducible refine' fz ?e ?_);(case e=>walk_at "l2kind")) | (with_reducible refine bS ?_) | (with_reducible refine c6 ?_))
theorem nE (T:Tx K mg a):FnOk P w K mg base CX0 2 a.bO a.jT ["pair","tellings"] Cd:=by
 refine T.fm.1.okA bP λa0 A outer s H vs Q E φ h=>?_;obtain⟨t,D,x,y,ts,rfl,et,eD,ht,lt,α,q⟩:=h
 refine⟨_,((ae (ax (i:=2) bP.nd rfl @D (!A @H (pv 0) ag))
  (ae (ax (i:=3) bP.nd rfl @D ag)
  (ae (c8 ry rfl (be (K:=K) rfl (ar (j4 T) φ T.lO T.ir (aa (!A @H (pv 0) ag) af))) (av (i:=4) bP.nd rfl @D) (ae (ax (i:=2) bP.nd rfl @D (au fw (pv 2) (!A @H (!A (dz (K:=K) rfl) (pv 1) (pv 4)) ag)))
  (ai (ax (i:=3) bP.nd rfl @D (au fw (pv 3) (!A @H (!A (dz (K:=K) rfl) (pv 1) (pv 4)) ag))))))
  (ai (aC (b8 (!j 2 (!j 3 af))))))))),aB (σ':=[ak _,ak _,none,none,none]) rfl ?_⟩
 lia;refine⟨y,rfl,fb α (gn @C @A),λD1 H1 f1 β ι=>?_⟩;rw[M.pl_up α @A] at ι;have ο:(prs ts).map (·.1)=ts.map λq=>q.2.1:=by rw[Ks];rfl
 have ξ:(prs ts).map (·.2)=ts.map λq=>q.2.2:=by rw[Ks];rfl
 have π:∀(Y:fy) (H2:Hp),Same H H2->H2 Y=ak (.tup [nat (x^^^M.sm (ts.map λq=>q.2.1) y),nat (M.sm (ts.map λq=>q.2.2) y)])->Q (.ref Y) H2:=λY H2 s e=>q Y H2 s (by unfold M.fol;rw[ο,ξ];exact e);clear q;generalize θ:ts.map (λq=>q.2.1)=As at π;generalize η:ts.map (λq=>q.2.2)=Bs at π;have τ:As.length=ts.length:=by rw[<-θ,cY]
 have ρ:Bs.length=ts.length:=by rw[<-η,cY]
 have ζ:=β.get eD;lia;refine fX (xs:=(M.pl ts.length y).map nat) (λi σ H'=>∃v,σ=[ak (.ref t),ak (.ref D),ak (nat (x^^^((M.pl ts.length y).take i).foldl (λa p=>a^^^As.getD p 0) 0)),ak (nat (((M.pl ts.length y).take i).foldl (λa p=>a^^^Bs.getD p 0) 0)),v]/\H'=H1) ⟨none,by rw[QU,O3,O3,KJ];rfl,rfl⟩ (λi σ H' _ ⟨_,_,e⟩=>by rw[e];exact SqL.of ι) ?_ ?_
 ·rintro i y1 σ H' δ ⟨v,rfl,rfl⟩;obtain⟨k,Z,rfl⟩:=aJ δ;have ε:k < ts.length:=zx.mp (KB.mp (hR Z)).1;obtain⟨O,γ⟩:∃O,ts[k]? =ak O:=⟨_,gs ε⟩;have χ:atI (refs ts) (k:Int)=ak (.ref O.1):=ip (by unfold refs;rw[ic,γ];rfl);have υ:=β.get (ht O (hR γ));have ω:As.getD k 0=O.2.1:=by rw[<-θ,eh,ic,γ];rfl
  have ψ:Bs.getD k 0=O.2.2:=by rw[<-η,eh,ic,γ];rfl
  lia;refine⟨ak (nat k),?_,rfl⟩;rw[aU,aU,take_succ Z,KN,KN,Ke];show _=[_,_,ak (nat (x^^^(_^^^As.getD k 0))),ak (nat (_^^^Bs.getD k 0)),_];rw[ω,ψ]
 ·rintro σ H1 ⟨v,rfl,rfl⟩;rw[cY,vu,M.sm_places As y (by rw[τ];exact α) ts.length @A,M.sm_places Bs y (by rw[ρ];exact α) ts.length @A];lia;intro Y H2 f2 ν e2;exact π Y H2 (β.trans ν) e2
theorem oP (T:Tx K mg a):FnOk P w K mg base CX0 2 a.b5 a.kr ["machine","delay"] (zL a.ao):=by
 refine T.gb.1.okA eP λa4 A outer s H vs Q E φ h=>?_;obtain⟨p,m,nx,os,d,rfl,ma,g,Z,ld,ζ,q⟩:=h;obtain⟨dx,tn,to,ho,hn,a0⟩:=ma.ho;have lo:=g.lo
 refine⟨_,((ae (ax (i:=2) eP.nd rfl @D (fc (pv 0) T.ay T.cw (bT T) (φ.mono @C) T.aR.2 .nil iw))
  (ae (hG (osc:=ah dQ) (ON:=["machine","delay","outs","moved","newest"]) (N:=["place","machine"]) (n:=1) (fx:=[0]) (i:=3) eP.nd rfl rfl rfl rfl rfl rfl (by decide +kernel) (Ak (by rfl) T.fg (!j 2 (aa (au hU (pv 1) (pv 2)) af))) (bc @C) (λ_ _ _ _ _=>⟨(av (i:=0) (show vr (["place","machine"]:C') from by decide +kernel) rfl @D),bJ,(b8 (aa (au bM ag (au dH (fc (pv 1) T.ay T.cR (cu T) (φ.mono @C) T.a8.2 .nil iw) (pv 0))) (aa ag af)))⟩))
  (ae (ax (i:=4) eP.nd rfl @D (CC (aH uj (pv 1) ag (aK _)) (cW (osc:=ah dQ) (ON:=["machine","delay","outs","moved","newest"]) (N:=["out"]) (n:=1) (fx:=[]) rfl rfl rfl (by decide +kernel) (cq (by rfl) T.fg (!j 2 af)) (bc @C) (λ_ _ _ _ _=>⟨(av (i:=0) (show vr (["out"]:C') from by decide +kernel) rfl @D),bJ,(b8 (aa ag (aa (au bM ag (pv 0)) af)))⟩)) (cC af)))
  (ai (aC (au k9 (pv 3) (pv 4)))))))),aB (σ':=[ak _,ak _,none,none,none]) rfl ?_⟩
 lia;refine cb ho rfl ?_;lia;refine⟨p,_,nx,os,rfl,ma,?_⟩;lia;have a3:d * os.length + os.length < 64:=by rw[LK,Mb] at ζ;exact ζ
 have ω:((d:Int) * (os.length:Int))=((d * os.length:Nat):Int):=by push_cast;rfl
 rw[ω];refine⟨_,_,rfl,⟨@A,@A,@A,@A⟩,?_⟩;intro D1 θ;refine dB (λi ys H'=>Cp (λqs=>prs qs=(lB qs.length).map λj=>(2 ^ (nx.length + (os.length + j)),0)) H D1 i ys H') (pU θ rfl) (λi ys H' hi c=>?_) (λys H1 c=>?_)
 ·obtain⟨qs,rfl,δ,pv,pt,s',τ⟩:=c;have ο:os.length + i < 64:=by omega
  have hc:CPow (1:Int) ((nx.length:Int) + ((os.length:Int) + (i:Int))):=⟨@A,@A,@C⟩;lia;refine cb (s'.get ho) rfl ?_;lia;refine⟨p,_,nx,os,rfl,ma.same s',?_⟩;lia;intro ρ H2 f2 O ι;refine uT (x:=2 ^ (nx.length + (os.length + i))) (y:=0) θ δ pt s' τ O ?_ @A ?_
  ·rw[ι,show(1:Int) * 2 ^ ((nx.length:Int) + ((os.length:Int) + (i:Int))).toNat=((2 ^ (nx.length + (os.length + i)):Nat):Int) by rw[LD,show((nx.length:Int) + ((os.length:Int) + (i:Int))).toNat=nx.length + (os.length + i) by omega];push_cast;rfl];rfl
  ·show prs (qs++[_])=_;rw[show prs (qs++[(ρ,2 ^ (nx.length + (os.length + i)),0)])=prs qs++[(2 ^ (nx.length + (os.length + i)),0)] from gA ..,pv,gw,y2,Kj,gA,δ];rfl
 obtain⟨qs,rfl,δ,pv,pt,ν,χ⟩:=c
 try dsimp only at pv
 rw[δ] at pv;have lr:(((d * os.length:Nat):Int) - (os.length:Int)).toNat=d * os.length - os.length:=by omega
 rw[lr] at pv;lia
 have kp:∀l,(prs qs++l=M.kpt @E @G d)↔l=(if 0 < d then (lB os.length).map (λk=>(0,2 ^ k)) else []):=λl=>by
  unfold M.kpt;rw[aq,aq,pv];exact List.append_right_inj _
 by_cases hd:0 < d;dsimp only
 ·rw[pT (by rw[t4];omega)];lia;intro ψ β;refine dB (λi ys H'=>Cp (λzs=>prs zs=(lB zs.length).map λk=>(0,2 ^ k)) H1 ψ i ys H') (pU β rfl) (λi ys H' hi c=>?_) (λys H2 c=>?_)
  ·obtain⟨zs,rfl,ε,π,α,O,τ⟩:=c;have ο:i < 64:=by omega
   have hc:CPow (1:Int) (0 + (i:Int)):=⟨@A,@A,@C⟩;lia;intro ρ ξ υ Y γ;refine uT (x:=0) (y:=2 ^ i) β ε α O τ Y ?_ @A ?_
   ·rw[γ,show(1:Int) * 2 ^ (0 + (i:Int)).toNat=((2 ^ i:Nat):Int) by rw[LD,show(0 + (i:Int)).toNat=i by omega];push_cast;rfl];rfl
   ·show prs (zs++[_])=_;rw[show prs (zs++[(ρ,0,2 ^ i)])=prs zs++[(0,2 ^ i)] from gA ..,π,gw,y2,Kj,gA,ε];rfl
  obtain⟨zs,rfl,ε,π,α,O,ι⟩:=c
  try dsimp only at π
  rw[ε,lS] at π;lia;refine qe (O.get χ) ι (by rw[aS,aS,δ,ε,lr,ri,lS];omega) fun η ξ υ Y γ=>?_;rw[show refs qs++refs zs=refs (qs++zs) from(gA ..).symm] at γ;lia;refine q η ξ (qs++zs) ((ν.trans O).free υ) ((ν.trans O).trans Y) γ (λz hz=>?_) ?_
  ·rcases px.mp hz with h | h
   ·exact(O.trans Y).get (pt z h)
   ·exact Y.get (α z h)
  ·rw[show prs (qs++zs)=prs qs++prs zs from gA ..,(kp _).mpr];rw[pT hd];exact π
 dsimp only
 ·rw[oT (by rw[t4];omega)];lia;intro ψ H2 f2 O ι;lia;refine qe (O.get χ) ι (by rw[aS,δ,lr,ri];show _ + 0<=_;omega) fun η ξ υ Y γ=>?_;rw[Kp] at γ;lia;refine q η ξ qs ((ν.trans O).free υ) ((ν.trans O).trans Y) γ (λz hz=>(O.trans Y).get (pt z hz)) ?_;have:=(kp []).mpr (by rw[oT hd]);rwa [Kp] at this
end
section
variable {P:qc} {w:u7} {K:bp} {mg:F'} {base:z1} {a:Ad}
local macro_rules | `(tactic| walk_at "l2step") =>`(tactic| first | ((with_reducible refine' cZ ?e ?_);(case e=>walk_at "l2kind")) | ((with_reducible refine' fz ?e ?_);(case e=>walk_at "l2kind")) | (with_reducible refine bS ?_) | (with_reducible refine c6 ?_))
theorem lg (T:Tx K mg a):FnOk P w K mg base CX0 7 a.bu a.iQ ["machine","delay","masks"] (zD a.ao):=by
 refine T.dC.1.okA eM λd2 A outer s H vs Q E ν h=>?_;obtain⟨p,D,m,nx,os,d,μs,rfl,ma,g,Z,ld,ι,eD,mk,q⟩:=h;obtain⟨dx,tn,to,ho,hn,d0⟩:=ma.ho;have m6:=g.m6;have lo:=g.lo;have d1:d * os.length + os.length < 64:=by rw[LK,Mb] at ι;exact ι
 have lμ:=mk.len
 have Y:∀μ∈μs,μ < 2 ^ ((d + 1) * os.length):=fun μ h=>by
  obtain⟨i,hi⟩:=NJ.mp h;have:=mk.lt i μ hi;rwa [aq] at this
 refine⟨_,((ae (ax (i:=3) eM.nd rfl @D (cW (osc:=ah cn) (ON:=n17) (N:=["mask","machine","delay"]) (n:=1) (fx:=[0,1]) rfl rfl rfl (by decide +kernel) (be (K:=K) rfl (pv 2)) (bc @C) (λ_ _ _ _ _=>⟨(av (i:=0) (show vr (["mask","machine","delay"]:C') from by decide +kernel) rfl @D),bJ,(ar (qg T) ν T.sR T.gN (!j 1 (!j 2 (!j 0 af))))⟩)))
  (ae (hG (osc:=ah cn) (ON:=n17) (N:=["pair","tellings"]) (n:=1) (fx:=[3]) (i:=4) eM.nd rfl rfl rfl rfl rfl rfl (by decide +kernel) (rX (K:=K) rfl (bb (K:=K) rfl (pv 0) rfl)) (bc @C) (λ_ _ _ _ _=>⟨(av (i:=0) (show vr (["pair","tellings"]:C') from by decide +kernel) rfl @D),bJ,(ar (nE T) ν T.pF T.fm (!j 0 (!j 1 af)))⟩))
  (ai (aC (oH T.vj (hZ T) (ν.mono @C) (by rfl) T.pG T.bW.2 .nil iw (aa (fc (pv 0) T.ay T.cw (bT T) (ν.mono @C) T.aR.2 .nil iw) (aa (au k9 (pv 4) (ar (oP T) ν T.qJ T.gb (!j 0 (!j 1 af)))) (!j 3 af))))))))),aB (σ':=[ak _,ak _,ak _,none,none]) rfl ?_⟩
 lia;intro D1 a5;refine bU (xs:=μs.map nat) (λi ys H'=>Cp (λqs=>prs qs=(μs.take qs.length).map (M.tel @E @G d)) H D1 i ys H') (pU a5 rfl) (λi ys H' _ ⟨_,_,_,_,_,s',_⟩=>SqL.of (s'.get eD)) (λi v ys H' hv c=>?_) (λys H1 c=>?_)
 ·obtain⟨qs,rfl,lq,pv,pt,s',π⟩:=c;obtain⟨μ,α,rfl⟩:=aJ hv;have hi:=(dt.mp α).1;lia;refine⟨p,m,nx,os,d,μ,rfl,ma.same s',g,Z,ld,ι,Y μ (hR α),λt2 H2 ρ e2=>?_⟩;refine uT a5 lq pt s' π ρ e2 @A ?_;show prs (qs++[_])=_;rw[show prs (qs++[(t2,(M.tel @E @G d μ).1,(M.tel @E @G d μ).2)])=prs qs++[M.tel @E @G d μ] from gA ..,pv,gw,y2,lq,take_succ α,gA];rfl
 obtain⟨ξ,rfl,ο,a0,χ,φ,e1⟩:=c;rw[cY] at ο;have eO:prs ξ=M.telO @E @G d μs:=by rw[a0,ο,vu];rfl
 clear a0;lia;refine a9 (φ.get ho) T.ay T.bF rfl ?_;refine⟨tn,rfl,⟨_,SqT.of (φ.get hn)⟩,?_⟩;intro D2 β;refine n9 (xs:=refs nx) (λi ys H'=>Cp (λqs=>prs qs=((@E).take qs.length).map (M.fol (M.telO @E @G d μs))) H1 D2 i ys H') (pU β rfl) (λi ys H' _ ⟨_,_,_,_,_,s',_⟩=>SqT.of (s'.get (φ.get hn))) (λi v ys H' hv c=>?_) (λys H2 c=>?_)
 ·obtain⟨qs,rfl,lq,pv,pt,s',π⟩:=c;obtain⟨r,τ,rfl⟩:=aJ hv;have hi:=(dt.mp τ).1;have hm:=hR τ;have er:=(φ.trans s').get (ma.hn r hm);have γ:(@E)[i]? =ak r.2:=by rw[ic,τ];rfl
  lia;refine⟨r.1,D1,r.2.1,r.2.2,ξ,rfl,er,s'.get e1,λz hz=>s'.get (χ z hz),@A,by rw[ο,lμ];exact(g.bn r (ro _ hm)).2,λt3 H3 s3 e3=>?_⟩;rw[eO] at e3;refine uT β lq pt s' π s3 e3 (by have:=g.ln;omega) ?_;show prs (qs++[_])=_;rw[show prs (qs++[(t3,(M.fol (M.telO @E @G d μs) (r.2.1,r.2.2)).1,(M.fol (M.telO @E @G d μs) (r.2.1,r.2.2)).2)])=prs qs++[M.fol (M.telO @E @G d μs) r.2] from gA ..,pv,gw,y2,lq,take_succ γ,gA];rfl
 obtain⟨O,rfl,θ,a3,c1,ρ,e2⟩:=c;rw[aS] at θ;have c3:prs O=(@E).map (M.fol (M.telO @E @G d μs)):=by rw[a3,θ,Lp (Oy (aq nx))]
 clear a3;have ζ:=φ.trans ρ;lia;refine cb (ζ.get ho) rfl ?_;lia;refine⟨p,m,nx,os,rfl,ma.same ζ,?_⟩;lia;refine⟨p,m,nx,os,d,rfl,ma.same ζ,g,Z,ld,ι,fun η H3 ks υ s3 e3 c0 eK=>?_⟩;have a4:ks.length=d * os.length:=by rw[<-aq,eK,M.kpt_len,aq]
 lia;refine qe (s3.get e2) e3 (by rw[aS,aS,θ,a4,ri];omega) λD4 H4 f4 s4 ω=>?_;rw[show refs O++refs ks=refs (O++ks) from(gA ..).symm] at ω
 have eN:prs (O++ks)=M.telP @E @G d μs:=by
  rw[show prs (O++ks)=prs O++prs ks from gA ..,c3,eK];rfl
 have lN:(O++ks).length=nx.length + d * os.length:=by rw[gw,θ,a4]
 have δ:=s3.trans s4;have b9:=ζ.trans δ
 have a6:∀q∈prs nx++prs os,q.1 < 2 ^ (@E).length:=λq hq=>by
  rw[aq];rcases px.mp hq with h | h
  ·obtain⟨r,ν,rfl⟩:=ov.mp h;exact(g.bn r (ro _ ν)).1
  ·obtain⟨r,ν,rfl⟩:=ov.mp h;exact(g.bn r (oD _ ν)).1
 have ψ:∀μ∈μs,μ < 2 ^ ((d + 1) * (@G).length):=by rw[aq];exact Y
 have tab:Tab H4 D4 D1 os.length (O++ks) ξ:=⟨lo,ω,(ρ.trans δ).get e1,λz hz=>by
   rcases px.mp hz with h | h
   ·exact δ.get (c1 z h)
   ·exact s4.get (c0 z h),λz hz=>(ρ.trans δ).get (χ z hz),by rw[lN];omega,@A,λz hz=>by
   rw[lN];rcases px.mp hz with h | h
   ·have:=M.telP_lt a6 ψ z.2 (by rw[<-eN];exact ov.mpr ⟨z,h,rfl⟩);rwa [aq,aq] at this
   ·have:=M.telO_lt a6 ψ z.2 (by rw[<-eO];exact ov.mpr ⟨z,h,rfl⟩);rwa [aq,aq] at this⟩
 lia;intro x c5 H5 f5 ε e5;refine⟨x,c5,D4,D1,os.length,O++ks,ξ,rfl,e5,tab.same ε,λH6 k6 c2=>⟨rfl,?_⟩⟩;have b0:Same H4 H6:=λb ob e=>k6 _ _ (aw e f5) (ε.get e);exact q x H6 (O++ks) ξ (b9.trans b0) c2 tab.g eN eO
end
section
variable {P:qc} {w:u7} {K:bp} {mg:F'} {base:z1} {a:Ad}
local macro_rules | `(tactic| walk_at "l2step") =>`(tactic| first | ((with_reducible refine' cZ ?e ?_);(case e=>walk_at "l2kind")) | ((with_reducible refine' fz ?e ?_);(case e=>walk_at "l2kind")) | (with_reducible refine bS ?_) | (with_reducible refine c6 ?_))
theorem uk (T:Tx K mg a):FnOk P w K mg base CX0 11 a.d4 a.pM ["machine"] (x4 a.ao):=by
 refine T.jl.1.okA cA λc5 A outer s H vs Q E τ h=>?_;obtain⟨p,m,nx,os,rfl,ma,g,Z,c0,α,qB⟩:=h;have up:∀d,d<=nx.length->(d + 1) * os.length < 64:=λd h=>v' (LC _ @A) c0
 refine⟨_,((ae (ax (i:=1) cA.nd rfl @D (ar (r9 T) τ T.uH T.iB (!j 0 af)))
  (ae (dN (aH FS (pv 1) Ej (aK _)) (ai (aC (pv 1))) bh)
  (ae (ax (i:=2) cA.nd rfl @D (cC af))
  (ae (ax (i:=3) cA.nd rfl @D ag)
  (ae (ax (i:=4) cA.nd rfl @D (ar (rf T) τ T.uG T.jX (!j 0 (!j 3 af))))
  (ae (k4 ry (aH kO (!A @H (pv 4) ag) gh (aK _)) (ae (ax (i:=2) cA.nd rfl @D (!A @H (pv 4) ag))
  (ae (ax (i:=3) cA.nd rfl @D (au dH (pv 3) ag))
  (ai (ax (i:=4) cA.nd rfl @D (ar (rf T) τ T.uG T.jX (!j 0 (!j 3 af))))))))
  (ai (aC (b8 (aa gh (!j 3 (aa (ar (lg T) τ T.mU T.dC (!j 0 (!j 3 (aa (!A @H (pv 4) ag) af)))) (!j 2 af)))))))))))))),aB (σ':=[ak _,none,none,none,none]) rfl ?_⟩
 lia;refine⟨p,m,nx,os,rfl,ma,g,Z,λH1 bars δ ο fv h0=>?_,λH1 t B S I L u bars δ bq ls ο nv=>?_⟩
 ·lia;intro D2 H2 f2 s2 e2;have ζ:=ο.trans s2;lia;refine⟨p,m,nx,os,0,rfl,ma.same ζ,g,@A,up 0 @A,λt D H3 rs υ θ et χ sl=>?_,λt D H3 μs υ θ et χ mk no=>?_⟩
  all_goals lia
  all_goals refine⟨λk σ H'=>∃d,k=nx.length - d/\TbI H p nx os m d σ H',?_,?_⟩
  ·have:=DZ sl fv h0;rw[aq] at this;exact⟨_,0,rfl,D2,t,D,[],rfl,@A,ζ.trans θ,ο.free f2,θ.get e2,.inl ⟨rfl,rfl⟩,λk h=>kf h (J6 k),ζ.free υ,.inl ⟨rs,et,χ,sl,this⟩⟩
  rotate_left
  ·exact⟨_,0,rfl,D2,t,D,[],rfl,@A,ζ.trans θ,ο.free f2,θ.get e2,.inl ⟨rfl,rfl⟩,λk h=>kf h (J6 k),ζ.free υ,.inr ⟨μs,et,χ,mk,no⟩⟩
  all_goals
   clear ζ θ et χ υ f2 e2 s2;rintro k σ H4 ⟨d,rfl,Dr,γ,D4,a3,rfl,dl,Y,fr,er,c1,hy,f4,h⟩;rcases h with ⟨π,c2,φ,O,c3⟩ | ⟨ω,c2,φ,ρ,a6⟩
   ·lia;refine⟨fun σ' H'=>TbI H p nx os m (d + 1) σ' H',fun σ' H' h=>⟨nx.length - (d + 1),@A,d + 1,rfl,h⟩,?_⟩;lia;refine⟨p,m,nx,os,d + 1,rfl,ma.same Y,g,@A,up (d + 1) @A,fun ψ D5 H5 a0 f5 ε η e5 ν=>?_,fun ψ D5 H5 ι f5 ε η e5 b0 a5=>?_⟩
    ·lia;have:=DZ ν fv h0;rw[aq] at this;refine⟨D4,ψ,D5,π,rfl,@A,Y.trans ε,f4,ε.get φ,.inr ⟨d,rfl,O⟩,λk hk=>?_,Y.free f5,.inl ⟨a0,η,e5,ν,this⟩⟩;by_cases h:k < d
     ·exact hy k h
     ·rw[show k=d by omega];exact O.osm
    ·lia;refine⟨D4,ψ,D5,π,rfl,@A,Y.trans ε,f4,ε.get φ,.inr ⟨d,rfl,O⟩,λk hk=>?_,Y.free f5,.inr ⟨ι,η,e5,b0,a5⟩⟩;by_cases h:k < d
     ·exact hy k h
     ·rw[show k=d by omega];exact O.osm
   ·lia;refine⟨p,D4,m,nx,os,d,ω,rfl,ma.same Y,g,Z,@A,up d dl,φ,ρ,λx H5 a4 ξ ε b9 g5 β eO=>?_⟩;lia;intro tt H6 f6 s6 e6;exact qB tt x Dr H6 d a4 ξ ω a3 fr ((Y.trans ε).trans s6) e6 ((ε.trans s6).get er) (b9.same s6) g5 β eO ⟨ρ,by rw[aq];exact dl,a6,hy,c1⟩
 ·lia;exact α H1 t B S I L u bars δ bq ls ο nv
end
section
variable {P:qc} {w:u7} {K:bp} {mg:F'} {base:z1} {a:Ad}
local macro_rules | `(tactic| walk_at "l2step") =>`(tactic| first | ((with_reducible refine' cZ ?e ?_);(case e=>walk_at "l2kind")) | ((with_reducible refine' fz ?e ?_);(case e=>walk_at "l2kind")) | (with_reducible refine bS ?_) | (with_reducible refine c6 ?_))
local macro_rules | `(tactic| walk_at "l2step") =>`(tactic| first | (with_reducible refine oE ?_))
theorem lC (T:Tx K mg a):FnOk P w K mg base CX0 1 a.dj a.nu ["_law_mask","_law_places_here"] vv:=by
 refine T.gx.1.okA eQ fun ζ A outer s H vs Q E ι h=>?_;obtain⟨x,p,pl,rfl,ep,lp,η,q⟩:=h
 refine⟨_,((ae (ax (i:=2) eQ.nd rfl @D ag)
  (ae (c8 ry rfl (kM (K:=K) rfl (by rfl) T.c9 (pv 1)) (iP rfl (aF (av (i:=3) eQ.nd rfl @D) (aF (av (i:=4) eQ.nd rfl @D) eZ))) (ai (ax (i:=2) eQ.nd rfl @D (au FQ (pv 2) (au bM (au gH (au oM (pv 0) (pv 3)) ag) (pv 4))))))
  (ai (aC (pv 2)))))),aB (σ':=[ak _,ak _,none,none,none]) rfl ?_⟩
 lia;refine je (xs:=pl.map nat) (λi σ H'=>∃Y O,σ=[ak (nat x),ak (.ref p),ak (nat (M.mvm pl x i)),Y,O]/\Same H H') ⟨none,none,rfl,Same.refl _⟩ (λi σ H' _ ⟨_,_,_,s'⟩=>SqL.of (s'.get ep)) ?_ ?_
 ·rintro i y σ H' θ ο γ ⟨Y,O,rfl,Z⟩ fp β ξ;obtain⟨v,α,rfl⟩:=aJ γ;have hi:=(dt.mp α).1;have hb:=η v (hR α);lia
  have δ:K' ((x:Int) / 2 ^ ((i:Int).toNat)) 1=(((x>>>i)&&&1:Nat):Int):=by
   rw[lS,show((x:Int) / 2 ^ i)=((x>>>i:Nat):Int) by rw[so];push_cast;rfl];exact bQ _ 1
  have χ:(x>>>i)&&&1<=1:=L3;rw[δ];have ν:CPow (((x>>>i)&&&1:Nat):Int) ((v:Nat):Int):=⟨@A,@A,@A⟩;lia
  have ε:(((x>>>i)&&&1:Nat):Int) * 2 ^ ((v:Int).toNat)=((((x>>>i)&&&1) <<< v:Nat):Int):=by
   rw[lS,Kf];push_cast;rfl
  rw[ε,l5,<-yo α];exact⟨_,_,rfl,Z.trans β⟩
 ·rintro σ H' ⟨Y,O,rfl,Z⟩;rw[cY];lia;exact q _ Z
theorem sf (T:Tx K mg a):FnOk P w K mg base CX0 1 a.dn a.nC ["_law_outs","_law_cell_here"] vx:=by
 refine T.iD.1.okA du λa5 A outer s H vs Q E hr h=>?_;obtain⟨p,po,c,rfl,ep,pt,lp,q⟩:=h
 refine⟨_,((ae (ax (i:=2) du.nd rfl @D (cC af))
  (ae (c8 ry rfl (kM (K:=K) rfl (by rfl) T.c9 (pv 0)) (iP rfl (aF (av (i:=3) du.nd rfl @D) (aF (av (i:=4) du.nd rfl @D) eZ))) (ae (c8 ry rfl (cq (by rfl) T.fg (!j 3 af)) (av (i:=5) du.nd rfl @D) (ai (dN (aH kO (au gH (au oM (pv 1) (au dH (au hU ag (pv 3)) (pv 5))) ag) ag (aK _)) (ai (ax (i:=4) du.nd rfl @D (b8 (aa (au fw (!A @H (pv 4) ag) (!A @H (!A (dz (K:=K) rfl) (pv 2) (pv 5)) ag)) (aa (au fw (!A @H (pv 4) ag) (!A @H (!A (dz (K:=K) rfl) (pv 2) (pv 5)) ag)) af))))) bh)))
  (ai (bX (gF (K:=K) rfl sx wq wh cv (pv 2) (!j 4 af))))))
  (ai (aC (pv 2)))))),aB (σ':=[ak _,ak _,none,none,none,none]) rfl ?_⟩
 lia;intro D H1 f1 s1 e1;lia;refine je (xs:=refs po) (λi σ H'=>∃(os:f' Pr3) (υ ρ β:sh V),σ=[ak (.ref p),ak (nat c),ak (.ref D),υ,ρ,β]/\Same H H'/\H' D=ak (.lst (refs os))/\Prt H' os/\os.length=i/\∀k q,k < i->(prs po)[k]? =ak q->(@G)[k]? =ak (adst @G (addl c k) q)) ⟨[],none,none,none,rfl,s1,e1,λq h=>kf h @F,rfl,λk q h=>kf h (J6 k)⟩ (λi σ H' _ ⟨_,_,_,_,_,s',_⟩=>SqL.of (s'.get ep)) ?_ ?_
 ·rintro i y σ H' p' H7 hy ⟨os,υ,ρ,β,rfl,ω,eD,ζ,φ,α⟩ fp ψ e7;obtain⟨O,γ,rfl⟩:=aJ hy;have hi:=(dt.mp γ).1;have η:=ω.trans ψ;have a0:=η.get (pt O (hR γ));have ο:=ψ.get eD;have θ:=ζ.same ψ;lia;refine jR (lo:=0) (n:=i) (λj σ H'=>∃(π:fy) (β:sh V),σ=[ak (.ref p),ak (nat c),ak (.ref D),ak (.int i),ak (.ref π),β]/\Same H7 H'/\H' π=ak (.tup [nat (adst @G ((lB j).filter λj=>c.testBit (3 * i + j)) O.2).1,nat (adst @G ((lB j).filter λj=>c.testBit (3 * i + j)) O.2).2])) ⟨O.1,β,rfl,Same.refl _,a0⟩ ?_ ?_
  ·rintro j σ H8 hj ⟨π,β,rfl,ε,ea⟩;have ξ:j < os.length:=by omega
   have τ:=ε.get ο;have ι:os[j]? =ak os[j]:=gs ξ
   have aj:atI (refs os) (0 + (j:Int))=ak (V.ref os[j].1):=by
    rw[Lm];exact ip (by unfold refs;rw[ic,ι];rfl)
   have a4:=ε.get (θ _ (KU ξ));have gj:(@G).getD j (0,0)=os[j].2:=by rw[eh,ic,ι];rfl
   generalize os[j]=oj at aj a4 gj;have fs:(lB (j + 1)).filter (λj=>c.testBit (3 * i + j))=(lB j).filter (λj=>c.testBit (3 * i + j))++(if c.testBit (3 * i + j)=true then [j] else []):=by rw[Kj,KO,LH];rfl
   lia;rw[show(3 * (i:Int) + (0 + (j:Int)))=((3 * i + j:Nat):Int) by omega,Br];dsimp only;by_cases hb:c.testBit (3 * i + j)=true
   ·rw[pT hb] at fs ⊢;rw[pT @C];lia;rw[aU,aU];intro pb H9 f9 s9 e9;lia;refine⟨pb,_,rfl,ε.trans s9,?_⟩;rw[e9,fs];unfold adst;rw[KN,La,O3,gj]
   ·rw[oT hb] at fs ⊢;rw[oT @C];lia;refine⟨π,_,rfl,ε,?_⟩;rw[fs,Kp];exact ea
  ·rintro σ H8 ⟨π,β,rfl,ε,ea⟩;have τ:=ε.get ο;lia;refine dU τ (by rw[aS,ri];omega) λH9 χ=>?_;have Z:Same H H9:=λb ob e=>χ.oth _ _ (aw e f1) (ε.get (η.get e));have np:∀(b:fy) (xs:f' V),H8 b=ak (.tup xs)->H9 b=ak (.tup xs):=λb xs e=>χ.oth _ _ (gE e τ λz=>by cases z) e;lia;refine⟨os++[(π,adst @G (addl c i) O.2)],_,_,_,rfl,Z,?_,fun δ Y=>?_,by rw[gw,φ];rfl,λk δ hk Y=>?_⟩
   ·rw[χ.at'];unfold refs;rw[gA];rfl
   ·rcases px.mp Y with h | h
    ·exact np _ _ (ε.get (θ δ h))
    ·rw[hC.mp h];exact np _ _ ea
   ·have a3:prs (os++[(π,adst @G (addl c i) O.2)])=prs os++[adst @G (addl c i) O.2]:=gA ..
    rw[a3,vc _ λj hj=>by have:=wt j hj;rw[aq,φ];omega];by_cases ν:k < i
    ·rw[qM (by rw[aq,φ];exact ν)];exact α k δ ν Y
    ·have:k=i:=by omega
     subst this;rw[qE (by rw[aq,φ];exact ru _),aq,φ,Lz];have e:(prs po)[k]? =ak O.2:=by rw[ic,γ];rfl
     rw[e] at Y;rw[<-mu Y];rfl
 ·rintro σ H' ⟨os,υ,ρ,β,rfl,ω,eD,ζ,φ,α⟩;rw[aS] at φ α;lia;exact q D H' os f1 ω eD ζ φ λk δ hk=>α k δ (by have:=(dt.mp hk).1;rw[aq] at this;exact this) hk
end
section
variable {P:qc} {w:u7} {K:bp} {mg:F'} {base:z1} {a:Ad}
local macro_rules | `(tactic| walk_at "l2step") =>`(tactic| first | ((with_reducible refine' cZ ?e ?_);(case e=>walk_at "l2kind")) | ((with_reducible refine' fz ?e ?_);(case e=>walk_at "l2kind")) | (with_reducible refine bS ?_) | (with_reducible refine c6 ?_))
local macro_rules | `(tactic| walk_at "l2step") =>`(tactic| first | (with_reducible refine oE ?_))
theorem qi (T:Tx K mg a):FnOk P w K mg base CX0 2 a.cI a.lW ["_law_nexts","_law_outs","_law_by"] tS:=by
 refine T.gP.1.okA cV λf5 A outer s H vs Q E hr h=>?_;obtain⟨pn,po,nx,os,b,rfl,hb,en,eo,φ,d2,ln,lo,q⟩:=h
 refine⟨_,((ae (ax (i:=3) cV.nd rfl @D (aD (aM (K:=K) rfl) (by rfl) T.h8 u' (!j 0 af)))
  (ae (ax (i:=4) cV.nd rfl @D (cW (osc:=ah eV) (ON:=n18) (N:=["_law_k","_law_by","_law_many"]) (n:=1) (fx:=[2,3]) rfl rfl rfl (by decide +kernel) (cq (by rfl) T.fg (!j 3 af)) (bc @C) (λ_ _ _ _ _=>⟨(av (i:=0) (show vr (["_law_k","_law_by","_law_many"]:C') from by decide +kernel) rfl @D),bJ,(au gG (au dH (pv 0) (pv 1)) (aD (Bp rfl) (by rfl) T.FZ N6 (aa ag (!j 2 af))))⟩)))
  (ae (ax (i:=5) cV.nd rfl @D (au xa (cC (aa (b8 (aa ag (aa ag af))) af)) (pv 3)))
  (ae (c8 ry rfl (kM (K:=K) rfl (by rfl) T.c9 (pv 0)) (iP rfl (aF (av (i:=6) cV.nd rfl @D) (aF (av (i:=7) cV.nd rfl @D) eZ))) (ai (qY (b8 (aa (ar (lC T) hr T.nh T.gx (aa (!A @H (pv 7) ag) (!j 4 af))) (aa (!A @H (pv 7) ag) af))) (Eh (pv 5) (!A (dz (K:=K) rfl) (pv 4) (pv 6)) wQ))))
  (ai (aC (b8 (!j 5 (aa (cW (osc:=ah eV) (ON:=n18) (N:=["_law_pair","_law_places_here"]) (n:=1) (fx:=[4]) rfl rfl rfl (by decide +kernel) (be (K:=K) rfl (pv 1)) (bc @C) (λ_ _ _ _ _=>⟨(av (i:=0) (show vr (["_law_pair","_law_places_here"]:C') from by decide +kernel) rfl @D),bJ,(b8 (aa (ar (lC T) hr T.nh T.gx (aa (!A @H (pv 0) ag) (!j 1 af))) (aa (!A @H (pv 0) ag) af)))⟩)) af)))))))))),aB (σ':=[ak _,ak _,ak _,none,none,none,none,none]) rfl ?_⟩
 lia;rw[aS];refine⟨@A,@A,?_⟩;intro D1 b0;refine dB (λi ys H'=>Cs (λi ys=>ys=((lB i).map λk=>(k + b) % max 1 nx.length).map nat) H D1 i ys H') (Cs.zero b0 rfl) (λi ys H' hi c=>?_) (λys H1 c=>?_)
 ·lia;refine⟨_,_,rfl,?_⟩;rw[show(if (nx.length:Int) > 1 then (nx.length:Int) else 1)=((max 1 nx.length:Nat):Int) by split<;>omega,Lm];refine⟨_,_,rfl,rfl,@A,?_⟩;refine Cs.put b0 c.same c.at' c.len @A ?_;rw[c.pv,Kj,gA,gA];rfl
 have ξ:=c.at';rw[c.pv,lS] at ξ;replace ξ:H1 D1=ak (.lst ((plc nx.length b).map nat)):=ξ;have π:=c.same;lia;intro t2 H2 f2 s2 e2;lia;intro η H3 f3 s3 e3;lia;refine Cg e3 @A @A (by rw[ri,lS];simp;omega) λD4 H4 f4 Y ω=>?_;rw[lS] at ω
 have r4:∀n:Nat,(eH n [V.ref t2]).flatten=refs (eH n (t2,0,0)):=λn=>by induction n with
  | zero=>rfl
  | succ n ih=>rw[KW,ME,ih,KW];rfl
 rw[r4] at ω;have ο:=s2.trans (s3.trans Y);have d1:=π.trans ο;have χ:=ο.get ξ
 have p4:Prt H4 (eH nx.length (t2,0,0)):=λq hq=>by
  rw[K5 hq];exact(s3.trans Y).get e2
 have l4:(eH nx.length ((t2,0,0):Pr3)).length=nx.length:=qq ..
 have n4:H D4=none:=by
  cases h:H D4 with
  | none=>rfl
  | some o=>rw[(π.trans (s2.trans s3)).get h] at f4;cases f4
 have e0:D4≠D1:=λe=>by rw[e,(s2.trans s3).get ξ] at f4;cases f4
 generalize eH nx.length ((t2,0,0):Pr3)=f0 at ω p4 l4;clear e2 e3 s2 s3 Y ο f2 f3 r4 ξ π c;have a3:(plc nx.length b).length=nx.length:=by unfold plc;rw[cY,u2]
 have c3:∀v∈plc nx.length b,v<=1000:=λv hv=>by
  obtain⟨k,_,rfl⟩:=ov.mp hv;have:=Mj (k + b) (show 0 < max 1 nx.length by omega);omega
 lia;refine je (xs:=refs nx) (λi σ H'=>∃(fs:f' Pr3) (v6 v7:sh V),σ=[ak (.ref pn),ak (.ref po),ak (nat b),ak (.int nx.length),ak (.ref D1),ak (.ref D4),v6,v7]/\Same H H'/\H' D1=ak (.lst ((plc nx.length b).map nat))/\H' D4=ak (.lst (refs fs))/\Prt H' fs/\fs.length=nx.length/\∀k q,k < i->(@E)[k]? =ak q->(prs fs)[(plc nx.length b).getD k 0]? =ak (M.mvm (plc nx.length b) q.1 nx.length,q.2)) ⟨f0,none,none,rfl,d1,χ,ω,p4,l4,λk q h=>kf h (J6 k)⟩ (λi σ H' _ ⟨_,_,_,_,s',_⟩=>SqL.of (s'.get en)) ?_ ?_
 ·rintro i y σ H' p' H7 hy ⟨fs,v6,v7,rfl,ψ,e6,Z,υ,lf,hf⟩ fp s7 e7;obtain⟨O,γ,rfl⟩:=aJ hy;have hi:=(dt.mp γ).1;have a0:=ψ.trans s7;have ρ:=a0.get (φ O (hR γ));have c2:=s7.get e6;have f1:=s7.get Z;have d3:=υ.same s7
  have e5:(plc nx.length b)[i]? =ak ((plc nx.length b).getD i 0):=by
   rw[eh,gs (show i < (plc nx.length b).length by omega)];rfl
  have a4:=Ah (b:=b) hi;lia;refine⟨_,_,_,rfl,c2,@A,c3,λH8 ν=>?_⟩;have b9:=ν.get ρ;have β:=ν.get c2;lia;rw[a3];intro τ H9 f9 ε e9;have c1:=ε.get β;have c0:=ε.get (ν.get f1);lia;refine Eb ?_;lia;refine ue (v:=nat ((plc nx.length b).getD i 0)) (SqL.of c1) (ip <| by rw[ic,e5];rfl) ?_;refine D0 c0 (by rw[aS,lf];exact a4) λc5 ζ=>?_;have st:=a0.trans (ν.trans ε);have d0:Same H c5:=λb ob e=>ζ.oth _ _ (aw e n4) (st.get e);have np:∀(b:fy) (xs:f' V),H9 b=ak (.tup xs)->c5 b=ak (.tup xs):=λb xs e=>ζ.oth _ _ (gE e c0 λz=>by cases z) e;refine⟨fs.set ((plc nx.length b).getD i 0) (τ,M.mvm (plc nx.length b) O.2.1 nx.length,O.2.2),_,_,rfl,d0,ζ.oth _ _ (λe=>e0 e.symm) c1,?_,fun δ α=>?_,by rw[M6,lf],λk δ hk α=>?_⟩
  ·rw[ζ.at'];unfold refs;rw[PM]
  ·rcases P4 α with h | h
   ·exact np _ _ ((ν.trans ε).get (d3 δ h))
   ·rw[h];exact np _ _ e9
  ·have a5:=(dt.mp α).1;rw[aq] at a5;rw[show prs (fs.set ((plc nx.length b).getD i 0) (τ,M.mvm (plc nx.length b) O.2.1 nx.length,O.2.2))=(prs fs).set ((plc nx.length b).getD i 0) (M.mvm (plc nx.length b) O.2.1 nx.length,O.2.2) from PM ..];by_cases a6:k=i
   ·subst a6;rw[Mo (by rw[aq,lf];exact a4)];have e:(@E)[k]? =ak O.2:=by rw[ic,γ];rfl
    rw[e] at α;rw[<-mu α]
   ·rw[Mf (λe=>a6 (FH a5 hi e.symm))];exact hf k δ @A α
 ·rintro σ H7 ⟨fs,v6,v7,rfl,ψ,e6,Z,υ,lf,hf⟩;rw[aS] at hf;have e8:=ψ.get eo;lia;intro θ ι;refine bU (xs:=refs os) (λi ys H'=>Cp (λqs=>prs qs=((@G).take qs.length).map λq=>(M.mvm (plc nx.length b) q.1 nx.length,q.2)) H7 θ i ys H') (pU ι rfl) (λi ys H' _ ⟨_,_,_,_,_,s',_⟩=>SqL.of (s'.get e8)) (λi v ys H' hv c=>?_) (λys H1 c=>?_)
  ·obtain⟨qs,rfl,lq,pv,pt,s',eD⟩:=c;obtain⟨O,γ,rfl⟩:=aJ hv;have hi:=(dt.mp γ).1;have ρ:=s'.get (ψ.get (d2 O (hR γ)));have β:=s'.get e6;lia;refine⟨_,_,_,rfl,β,@A,c3,λH8 ν=>?_⟩;have b9:=ν.get ρ;lia;rw[a3];intro τ H9 f9 ε e9;refine uT (x:=M.mvm (plc nx.length b) O.2.1 nx.length) (y:=O.2.2) ι lq pt s' eD (ν.trans ε) e9 @A ?_;show prs (qs++[_])=_;have ep:(@G)[i]? =ak O.2:=by rw[ic,γ];rfl
   rw[show prs (qs++[(τ,M.mvm (plc nx.length b) O.2.1 nx.length,O.2.2)])=prs qs++[(M.mvm (plc nx.length b) O.2.1 nx.length,O.2.2)] from gA ..,pv,gw,y2,lq,Lo,ep,gA];rfl
  obtain⟨qs,rfl,lq,pv,pt,π,ξ⟩:=c
  try dsimp only at pv
  rw[lq,aS,Lp (by rw[aq];exact ru _)] at pv;lia;intro τ H9 f9 ε e9;lia
  have n8:H θ=none:=by
   cases h:H θ with
   | none=>rfl
   | some o=>rw[ψ.get h] at ι;cases ι
  exact q τ D4 θ H9 fs qs (ψ.trans (π.trans ε)) n4 n8 e9 ((π.trans ε).get Z) (ε.get ξ) (υ.same (π.trans ε)) (pt.same ε) lf (λk δ hk=>hf k δ (by have:=(dt.mp hk).1;rw[aq] at this;exact this) hk) pv
end
section
variable {P:qc} {w:u7} {K:bp} {mg:F'} {base:z1} {a:Ad}
local macro_rules | `(tactic| walk_at "l2step") =>`(tactic| first | ((with_reducible refine' cZ ?e ?_);(case e=>walk_at "l2kind")) | ((with_reducible refine' fz ?e ?_);(case e=>walk_at "l2kind")) | (with_reducible refine bS ?_) | (with_reducible refine c6 ?_))
local macro_rules | `(tactic| walk_at "l2step") =>`(tactic| first | (with_reducible refine oE ?_))
local macro_rules | `(tactic| walk_at "l2step") =>`(tactic| first | ((with_reducible refine' m4 ?e ?a ?_);(case e=>walk_at "l2hp");(case a=>walk_at "l2side")))
theorem qk (T:Tx K mg a):FnOk P w K mg base CX0 2 a.cL a.lZ ["_law_script","_law_sizes","_law_shared"] (tV K):=by
 refine T.gR.1.okA bf λc5 A outer s H vs Q E hr h=>?_;obtain⟨ps,p,ns,zs,β,rfl,es,ep,lz,bz,q⟩:=h
 refine⟨_,((ae (ax (i:=3) bf.nd rfl @D (cC af))
  (ae (ax (i:=4) bf.nd rfl @D (cC af))
  (ae (c8 ry rfl (kM (K:=K) rfl (by rfl) T.c9 (pv 1)) (iP rfl (aF (av (i:=5) bf.nd rfl @D) (aF (av (i:=6) bf.nd rfl @D) eZ))) (ae (ax (i:=7) bf.nd rfl @D (aD (aM (K:=K) rfl) (by rfl) T.h8 u' (!j 3 af)))
  (ae (ax (i:=8) bf.nd rfl @D (au bM ag (pv 5)))
  (vF (dN (PW.pt (Ee (dG (pv 2)) (Af (aH uj (pv 5) ag (aK _))))) (ai (ax (i:=8) bf.nd rfl @D (au FQ (pv 8) ag))) bh)
  (ae (ax (i:=9) bf.nd rfl @D (au bM (au gG (ar (eu T) hr T.fN T.cN (!j 0 (aa (au dH ag (pv 5)) af))) (au bM ag (pv 6))) (pv 7)))
  (ae (c8 ry rfl (cq (by rfl) T.fg (!j 6 af)) (av (i:=10) bf.nd rfl @D) (ai (dN (aH kO (pv 10) ag (aK _)) (ai (bX (gF (K:=K) rfl sx wq wh cv (pv 3) (aa (b8 (!j 9 (!j 8 af))) af)))) (ai (bX (gF (K:=K) rfl sx wq wh cv (pv 3) (aa (b8 (aa (au bM ag (au eg (au dH (pv 7) (pv 10)) ag)) (aa ag af))) af)))))))
  (ai (dN (aH kO (pv 6) ag (aK _)) (ai (bX (gF (K:=K) rfl sx wq wh cv (pv 4) (aa (b8 (aa ag (!j 8 af))) af)))) (ai (bX (gF (K:=K) rfl sx wq wh cv (pv 4) (aa (b8 (aa (au bM ag (au eg (au dH (pv 7) (pv 6)) ag)) (aa ag af))) af))))))))))))
  (ai (aC (b8 (!j 3 (!j 4 af))))))))),aB (σ':=[ak _,ak _,ak _,none,none,none,none,none,none,none,none]) rfl ?_⟩
 lia;intro η H1 f1 s1 e1;lia;intro γ H2 f2 s2 e2
 have n2:H γ=none:=by
  cases h:H γ with
  | none=>rfl
  | some o=>rw[s1.get h] at f2;cases f2
 have τ:η≠γ:=λe=>by rw[<-e,e1] at f2;cases f2
 have a4:=s1.trans s2;have υ:=s2.get e1;lia;refine je (xs:=zs.map nat) (λi σ H'=>∃(nx os:f' Pr3) (bk:Nat->Nat) (v5 v6 v7 v8 v9 α:sh V),σ=[ak (.ref ps),ak (.ref p),ak (.bl β),ak (.ref η),ak (.ref γ),v5,v6,v7,v8,v9,α]/\Same H H'/\H' η=ak (.lst (refs nx))/\H' γ=ak (.lst (refs os))/\Prt H' nx/\Prt H' os/\M.Ch0 @E @G i (zat zs) (zrw β) bk (zfi zs)) ⟨[],[],λ_=>0,none,none,none,none,none,none,rfl,a4,υ,e2,λ_ h=>(by cases h),λ_ h=>(by cases h),M.Ch0.none rfl⟩ (λi σ H' _ ⟨_,_,_,_,_,_,_,_,_,_,s',_⟩=>SqL.of (s'.get ep)) ?_ ?_
 ·rintro i y σ H' p' H7 hy ⟨nx,os,bk,v5,v6,v7,v8,v9,α,rfl,s6,en,eo,pn,po,C⟩ fp s7 e7;obtain⟨z,hz,rfl⟩:=aJ hy;have hi:=(dt.mp hz).1;have b0:=bz z (hR hz);have a3:=s6.trans s7;have c1:=s7.get en;have c0:=s7.get eo;have a6:=pn.same s7;have a5:=po.same s7;have lf:=zb bz i @A;have ln:nx.length=zfi zs i:=by rw[<-C.ll,aq]
  have hc:CPow (1:Int) (i:Int):=⟨@A,@A,@C⟩;lia;rw[aS,ln,show(1:Int) * 2 ^ ((i:Int).toNat)=((2 ^ i:Nat):Int) by rw[LD,lS];push_cast;rfl];refine Cj (fun σ H'=>σ=[ak (.ref ps),ak (.ref p),ak (.bl β),ak (.ref η),ak (.ref γ),ak (.int i),ak (nat z),ak (nat (zfi zs i)),ak (nat (zrw β i)),v9,α]/\H'=H7) ?_ ?_
  ·lia;cases β with
   | false=>
     dsimp only;rw[oT @C];lia;rfl
   | true=>
     dsimp only;rw[pT rfl];lia;by_cases ο:0 < i
     ·rw[lh (show(0:Int) < (i:Int) by omega)];dsimp only;rw[pT rfl];lia;rw[show NQ ((2 ^ i:Nat):Int) 1=((zrw true i:Nat):Int) by rw[show zrw true i=2 ^ i||| 1 from pT ⟨rfl,ο⟩];exact l5 _ 1];exact⟨rfl,rfl⟩
     ·rw[ia (show ¬(0:Int) < (i:Int) by omega)];dsimp only;rw[oT @C];lia;rw[show zrw true i=2 ^ i from oT λh=>ο h.2];exact⟨rfl,rfl⟩
  ·rintro σ H8 ⟨rfl,rfl⟩;have φ:CPow (1:Int) (z:Int):=⟨@A,@A,@C⟩
   obtain⟨b,hb,O⟩:∃b:Nat,cell ns (1 + (i:Int)) % (1 * 2 ^ (z:Int).toNat)=(b:Int)/\b < 2 ^ z:=by
    rw[LD,lS];have hp:(0:Int) < 2 ^ z:=Int.pow_pos @C;have h1:=NH (cell ns (1 + (i:Int))) (Int.ne_of_gt hp);have h2:=N1 (cell ns (1 + (i:Int))) hp;refine⟨(cell ns (1 + (i:Int)) % 2 ^ z).toNat,@A,?_⟩;have h3:((2 ^ z:Nat):Int)=2 ^ z:=by push_cast;rfl
    omega
   have c2:b < 16:=fb O (gn @C b0);have b9:CPow (b:Int) (zfi zs i:Int):=⟨@A,@A,@A⟩;lia;refine⟨_,_,rfl,rfl,by rw[LD];exact Int.pow_pos @C,?_⟩;dsimp only;rw[hb];lia
   have Z:(b:Int) * 2 ^ (zfi zs i:Int).toNat=((b <<< zfi zs i:Nat):Int):=by
    rw[lS,Kf];push_cast;rfl
   rw[Z]
   have hB:∀j,(b <<< zfi zs i).testBit j=true->zfi zs i<=j/\j < zfi zs i + zat zs i:=λj h=>by
    rw[yv,Kb,t4] at h;refine⟨h.1,?_⟩;rw[tN hz];by_cases hj:j < zfi zs i + z
    ·exact hj
    ·have:b.testBit (j - zfi zs i)=false:=lT (fb O (gn @C @A));rw[this] at h;exact kf h.2 @C
   have C2:=C.more (wD hz) hB;rw[tN hz] at C2;generalize b <<< zfi zs i=B at C2 hB ⊢;clear C hb Z hc φ b9 e7;refine jR (lo:=0) (n:=z) (λk σ H'=>∃(Y:f' Pr3) (α:sh V),σ=[ak (.ref ps),ak (.ref p),ak (.bl β),ak (.ref η),ak (.ref γ),ak (.int i),ak (nat z),ak (nat (zfi zs i)),ak (nat (zrw β i)),ak (.int B),α]/\Same H H'/\H' η=ak (.lst (refs Y))/\H' γ=ak (.lst (refs os))/\Prt H' Y/\Prt H' os/\prs Y=prs nx++M.cht (zfi zs i) B (zrw β i) k) ⟨nx,α,rfl,a3,c1,c0,a6,a5,by rw[show M.cht (zfi zs i) B (zrw β i) 0=[] from rfl,Kp]⟩ ?_ ?_
   ·rintro k σ H9 hk ⟨Y,α,rfl,π,ν,θ,a0,ω,ec⟩;have l2:Y.length=zfi zs i + k:=by rw[<-aq,ec,gw,M.cht_len,aq,ln]
    have fin:∀(t:fy) (x y:Nat) (ξ ζ:Hp),Same H9 ξ->ξ t=ak (.tup [nat x,nat y])->Upd ξ ζ η (.lst (refs Y++[.ref t]))->(x,y)=(if k=0 then (B,zrw β i) else (2 ^ (zfi zs i + k - 1),0))->∃(Y:f' Pr3) (α:sh V),[ak (.ref ps),ak (.ref p),ak (.bl β),ak (.ref η),ak (.ref γ),ak (.int i),ak (nat z),ak (nat (zfi zs i)),ak (nat (zrw β i)),ak (.int B),ak (.int (0 + (k:Int)))]=[ak (.ref ps),ak (.ref p),ak (.bl β),ak (.ref η),ak (.ref γ),ak (.int i),ak (nat z),ak (nat (zfi zs i)),ak (nat (zrw β i)),ak (.int B),α]/\Same H ζ/\ζ η=ak (.lst (refs Y))/\ζ γ=ak (.lst (refs os))/\Prt ζ Y/\Prt ζ os/\prs Y=prs nx++M.cht (zfi zs i) B (zrw β i) (k + 1):=λt x y ξ ζ ι et u e=>by
     have np:∀(b:fy) (xs:f' V),ξ b=ak (.tup xs)->ζ b=ak (.tup xs):=λb xs e=>u.oth _ _ (gE e (ι.get ν) λz=>by cases z) e;refine⟨Y++[(t,x,y)],_,rfl,λb ob e=>u.oth _ _ (aw e f1) ((π.trans ι).get e),?_,u.oth _ _ (λe=>τ e.symm) (ι.get θ),fun δ ε=>?_,fun δ ε=>np _ _ (ι.get (ω δ ε)),?_⟩
     ·rw[u.at'];unfold refs;rw[gA];rfl
     ·rcases px.mp ε with h | h
      ·exact np _ _ (ι.get (a0 δ h))
      ·rw[hC.mp h];exact np _ _ et
     ·rw[show prs (Y++[(t,x,y)])=prs Y++[(x,y)] from gA ..,ec,M.cht_more,e,LM]
    lia;by_cases ο:k=0
    ·rw[lh (show(V.int (0 + (k:Int)))=V.int 0 by rw[ο];rfl)];dsimp only;rw[pT rfl];lia;intro χ Ha fa sa ea;lia;refine dU (sa.get ν) (by rw[aS,ri];omega) λHb ψ=>?_;lia;exact fin χ B (zrw β i) Ha Hb sa ea ψ (by rw[pT ο])
    ·rw[ia (show ¬(V.int (0 + (k:Int)))=V.int 0 from λe=>by injection e with e;omega)];dsimp only;rw[oT @C];have hc:CPow (1:Int) ((zfi zs i:Int) + (0 + (k:Int)) - 1):=⟨@A,@A,@C⟩;lia;intro χ Ha fa sa ea;lia;refine dU (sa.get ν) (by rw[aS,ri];omega) λHb ψ=>?_;lia;refine fin χ (2 ^ (zfi zs i + k - 1)) 0 Ha Hb sa ?_ ψ (by rw[oT ο]);rw[ea,LD,show((zfi zs i:Int) + (0 + (k:Int)) - 1).toNat=zfi zs i + k - 1 by omega,show((2:Int) ^ (zfi zs i + k - 1))=((2 ^ (zfi zs i + k - 1):Nat):Int) by push_cast;rfl];rfl
   ·rintro σ H9 ⟨Y,α,rfl,π,ν,θ,a0,ω,ec⟩;rw[<-ec] at C2;have c3:os.length<=3:=by have:=C2.len;rw[gw,aq,y2] at this;omega
    have fin:∀(t:fy) (x y:Nat) (ξ ζ:Hp) (w5 w6 w7 w8 w9 ρ:sh V),Same H9 ξ->ξ t=ak (.tup [nat x,nat y])->Upd ξ ζ γ (.lst (refs os++[.ref t]))->(x,y)=M.cho (zfi zs i) (zrw β i) z->∃(nx os:f' Pr3) (bk:Nat->Nat) (v5 v6 v7 v8 v9 α:sh V),[ak (.ref ps),ak (.ref p),ak (.bl β),ak (.ref η),ak (.ref γ),w5,w6,w7,w8,w9,ρ]=[ak (.ref ps),ak (.ref p),ak (.bl β),ak (.ref η),ak (.ref γ),v5,v6,v7,v8,v9,α]/\Same H ζ/\ζ η=ak (.lst (refs nx))/\ζ γ=ak (.lst (refs os))/\Prt ζ nx/\Prt ζ os/\M.Ch0 @E @G (i + 1) (zat zs) (zrw β) bk (zfi zs):=λt x y ξ ζ w5 w6 w7 w8 w9 ρ ι et u e=>by
     have np:∀(b:fy) (xs:f' V),ξ b=ak (.tup xs)->ζ b=ak (.tup xs):=λb xs e=>u.oth _ _ (gE e (ι.get θ) λz=>by cases z) e;refine⟨Y,os++[(t,x,y)],λw=>if w=i then B else bk w,w5,w6,w7,w8,w9,ρ,rfl,λb ob e=>u.oth _ _ (aw e n2) ((π.trans ι).get e),u.oth _ _ τ (ι.get ν),?_,fun δ ε=>np _ _ (ι.get (a0 δ ε)),fun δ ε=>?_,?_⟩
     ·rw[u.at'];unfold refs;rw[gA];rfl
     ·rcases px.mp ε with h | h
      ·exact np _ _ (ι.get (ω δ h))
      ·rw[hC.mp h];exact np _ _ et
     ·rw[show prs (os++[(t,x,y)])=prs os++[(x,y)] from gA ..,e];exact C2
    lia;by_cases ο:z=0
    ·rw[lh (show nat z=V.int 0 by rw[ο];rfl)];dsimp only;rw[pT rfl];lia;intro χ Ha fa sa ea;lia;refine dU (sa.get θ) (by rw[aS,ri];omega) λHb ψ=>?_;lia;exact fin χ 0 (zrw β i) Ha Hb _ _ _ _ _ _ sa ea ψ (by unfold M.cho;rw[pT ο])
    ·rw[ia (show ¬nat z=V.int 0 from λe=>by injection e with e;omega)];dsimp only;rw[oT @C];have hc:CPow (1:Int) ((zfi zs i:Int) + (z:Int) - 1):=⟨@A,@A,@C⟩;lia;intro χ Ha fa sa ea;lia;refine dU (sa.get θ) (by rw[aS,ri];omega) λHb ψ=>?_;lia;refine fin χ (2 ^ (zfi zs i + z - 1)) 0 Ha Hb _ _ _ _ _ _ sa ?_ ψ (by unfold M.cho;rw[oT ο]);rw[ea,LD,show((zfi zs i:Int) + (z:Int) - 1).toNat=zfi zs i + z - 1 by omega,show((2:Int) ^ (zfi zs i + z - 1))=((2 ^ (zfi zs i + z - 1):Nat):Int) by push_cast;rfl];rfl
 ·rintro σ H7 ⟨nx,os,bk,v5,v6,v7,v8,v9,α,rfl,s6,en,eo,pn,po,C⟩;rw[cY] at C;lia;intro t9 H9 f9 π e9;lia;exact q t9 η γ H9 nx os bk (s6.trans π) f1 n2 τ e9 (π.get en) (π.get eo) (pn.same π) (po.same π) C
end
local macro_rules | `(tactic| walk_at "l2step") =>`(tactic| first | ((with_reducible refine' m4 ?e ?a ?_);(case e=>walk_at "l2hp");(case a=>walk_at "l2side")) | ((with_reducible refine' Gj ?a ?b ?_);(case a=>walk_at "l2side");(case b=>walk_at "l2side");(with_reducible intro _ _)))
section
variable {P:qc} {w:u7} {K:bp} {mg:F'} {base:z1} {a:Ad}
local macro_rules | `(tactic| walk_at "l2step") =>`(tactic| first | ((with_reducible refine' cZ ?e ?_);(case e=>walk_at "l2kind")) | ((with_reducible refine' fz ?e ?_);(case e=>walk_at "l2kind")) | (with_reducible refine bS ?_) | (with_reducible refine c6 ?_))
local macro_rules | `(tactic| walk_at "l2step") =>`(tactic| first | ((with_reducible refine' m4 ?e ?a ?_);(case e=>walk_at "l2hp");(case a=>walk_at "l2side")))
theorem HU (T:Tx K mg a):FnOk P w K mg base CX0 13 a.yB a.IB ["_law_script"] (wK K):=by
 refine T.DQ.okA jG λs0 A outer s H vs Q E hr h=>?_;obtain⟨p0,ns,rfl,hS,q2,q⟩:=h;have q6:=AX hr;have q5:=Fy hr
 refine⟨_,((ae (ax (i:=1) jG.nd rfl @D (ar (eu T) hr T.fN T.cN (!j 0 (aa ag af))))
  (ae (hG (osc:=ah ud) (ON:=n19) (N:=["_law_k","_law_cell_here"]) (n:=1) (fx:=[1]) (i:=2) jG.nd rfl rfl rfl rfl rfl rfl (by decide +kernel) (cq (by rfl) T.fg (aa (au dH ag (au gG (pv 1) ag)) af)) (bc @C) (λ_ _ _ _ _=>⟨(av (i:=0) (show vr (["_law_k","_law_cell_here"]:C') from by decide +kernel) rfl @D),bJ,(au gG (au jM (au jM (pv 1) ag) (!A (dz (K:=K) rfl) (cC (aa ag (aa ag (aa ag af)))) (pv 0))) ag)⟩))
  (ae (ax (i:=3) jG.nd rfl @D (au gG (au jM (au jM (pv 1) ag) ag) ag))
  (ae (qY (ar (qk T) hr T.sW T.gR (!j 0 (!j 2 (aa (ja kO (pv 3) ag (aK _)) af)))) (iP rfl (aF (av (i:=4) jG.nd rfl @D) (aF (av (i:=5) jG.nd rfl @D) eZ))))
  (ae (qY (ar (qi T) hr T.sU T.gP (!j 4 (!j 5 (aa (au gG (ar (eu T) hr T.fN T.cN (!j 0 (aa ag af))) ag) af)))) (iP rfl (aF (av (i:=4) jG.nd rfl @D) (aF (av (i:=5) jG.nd rfl @D) eZ))))
  (ae (ax (i:=5) jG.nd rfl @D (ar (sf T) hr T.uK T.iD (!j 5 (aa (au gG (ar (eu T) hr T.fN T.cN (!j 0 (aa ag af))) ag) af))))
  (vF (dN (aH kO (pv 3) ag (aK _)) (ai (bX (gF (K:=K) rfl sx PySem.F.slot_list_pop PySem.F.type_list_pop CN (pv 5) (aa (au gG (au jM (ar (eu T) hr T.fN T.cN (!j 0 (aa ag af))) ag) (aD (aM (K:=K) rfl) (by rfl) T.h8 u' (!j 5 af))) af)))) bh)
  (ae (ax (i:=6) jG.nd rfl @D (b8 (aa (aD (aM (K:=K) rfl) (by rfl) T.h8 u' (!j 2 af)) (!j 4 (!j 5 af)))))
  (ae (ax (i:=7) jG.nd rfl @D (ar (uk T) hr T.vZ T.jl (aa (oH T.vj (hZ T) (hr.mono @C) (by rfl) T.pG T.bW.2 .nil iw (aa (aD (aM (K:=K) rfl) (by rfl) T.h8 u' (!j 2 af)) (aa (gi (gU (K:=K) rfl) (by rfl) T.kn zv (!j 4 af)) (aa (gi (gU (K:=K) rfl) (by rfl) T.kn zv (!j 5 af)) af)))) af)))
  (vF (dN (aH kO (pv 3) ag (aK _)) (ai (aC (oI (ja kO (!A @H (pv 7) ag) gh (aK _)) (ui (ar (ly T) hr T.mY T.dF (!j 6 (!j 7 af))))))) bh)
  (ae (dN (PW.pt (i8 (aH mz (!A @H (pv 7) ag) gh (aK _)) (i8 (aH uj (!A @H (pv 7) ag) (aD (uW rfl) (by rfl) T.FZ N6 (!j 2 af)) (aK _)) (iN (PW.pt (Ee (aH mz (pv 3) ag (aK _)) (Af (aH mz (!A @H (pv 7) ag) (aD (uW rfl) (by rfl) T.FZ N6 (!j 2 af)) (aK _))))))))) (ai (aC mx)) bh)
  (ai (aC (ar (mE T) hr T.nS T.dY (!j 6 (!j 7 (aa (cW (osc:=ah ud) (ON:=n19) (N:=["_law_k","_law_script"]) (n:=1) (fx:=[0]) rfl rfl rfl (by decide +kernel) (cq (by rfl) T.fg (aa ag af)) (bc @C) (λ_ _ _ _ _=>⟨(av (i:=0) (show vr (["_law_k","_law_script"]:C') from by decide +kernel) rfl @D),bJ,(ar (eu T) hr T.fN T.cN (!j 1 (aa (au dH ag (pv 0)) af)))⟩)) af)))))))))))))))))),aB (σ':=[ak _,none,none,none,none,none,none,none]) rfl ?_⟩
 lia;intro D1 j7;obtain⟨m,em,m1,m3⟩:∃m:Nat,(1 + cell ns 0 % 3).toNat=m/\1<=m/\m<=3:=⟨_,rfl,@A,@A⟩;rw[em];refine dB (λi ys H'=>Cs (λi ys=>∃zs:D8,ys=zs.map nat/\zs.length=i/\∀z∈zs,z<=4) H D1 i ys H') (Cs.zero j7 ⟨[],rfl,rfl,λ_ h=>(by cases h)⟩) (λi ys H' hi c=>?_) (λys H1 c=>?_)
 ·obtain⟨zs,rfl,lz,bz⟩:=c.pv;lia;intro t2 H2 f2 s2 e2;lia
  obtain⟨dv,ed,d0,d1⟩:∃dv:Int,atI [V.int 1,V.int 5,V.int 25] (0 + (i:Int))=ak (V.int dv)/\0 < dv/\dv<=25:=by
   rcases(show i=0∨i=1∨i=2 by omega) with h | h | h<;>subst h
   ·exact⟨1,rfl,@C,@C⟩
   ·exact⟨5,rfl,@C,@C⟩
   ·exact⟨25,rfl,@C,@C⟩
  refine ue (SqL.of e2) ed ?_;refine⟨_,_,rfl,rfl,by unfold CDiv;omega,?_⟩;lia;obtain⟨z,ez,z4⟩:∃z:Nat,cell ns 0 / 3 / dv % 5=(z:Int)/\z<=4:=⟨(cell ns 0 / 3 / dv % 5).toNat,@A,@A⟩;rw[ez];refine Cs.put j7 (c.same.trans s2) (s2.get c.at') c.len @A ⟨zs++[z],by rw[gA];rfl,by rw[gw,lz];rfl,λx hx=>?_⟩;rcases px.mp hx with h | h
  ·exact bz x h
  ·rw[hC.mp h];exact z4
 obtain⟨zs,rfl,lz,bz⟩:=c.pv;have e1:=c.at';have s1:=c.same;have j2:=Same.seq s1 hS;clear c;lia;refine⟨p0,D1,ns,zs,_,rfl,j2,e1,@A,bz,λt2 Dn Do H2 nx os bk s2 fn fo q4 e2 en eo φ l9 C=>?_⟩;have n3:=Same.seq s2 j2;lia;obtain⟨b,eb,hb⟩:∃b:Nat,cell ns 4 % 12=(b:Int)/\b<=12:=⟨(cell ns 4 % 12).toNat,@A,@A⟩;rw[eb];have d3:nx.length<=12:=by rw[<-aq,C.ll];have:=zb bz zs.length (ru _);omega
 have m8:os.length=m:=by rw[<-aq,C.len,lz]
 refine⟨Dn,Do,nx,os,b,rfl,hb,en,eo,φ,l9,d3,@A,λt3 ψ q1 H3 χ m0 s3 r1 r0 e3 k6 n8 h3 g4 e0 c2 a3=>?_⟩;have j1:=Same.seq s3 n3;lia;obtain⟨γ,o6,q7⟩:∃γ:Nat,cell ns 5 % 512=(γ:Int)/\γ < 512:=⟨(cell ns 5 % 512).toNat,@A,@A⟩;rw[o6];refine⟨q1,m0,γ,rfl,n8,g4,by rw[<-aq,a3,cY,aq];omega,fun π H4 ο f4 s4 f1 g3 a5 f5=>?_⟩;have q9:=Same.seq s4 j1;have o4:=s4.get k6;have g5:=h3.same s4;have o7:=(s2.trans (s3.trans s4)).get e1;have h4:ο.length=m:=by rw[a5,<-aq,a3,cY,aq,m8]
 lia;refine Cj (fun σ H'=>∃η:f' Pr3,σ=[ak (V.ref p0),ak (V.int (cell ns 0)),ak (V.ref D1),ak (V.int (cell ns 0 / 3 / 125 % 6)),ak (V.ref ψ),ak (V.ref π),none,none]/\(∀b ob,b≠π->H4 b=ak ob->H' b=ak ob)/\H' π=ak (.lst (refs η))/\((cell ns 0 / 3 / 125 % 6=0/\∃k,k < m/\η=ο.eraseIdx k)∨(cell ns 0 / 3 / 125 % 6≠0/\η=ο))) ?_ ?_
 ·lia;by_cases hw:cell ns 0 / 3 / 125 % 6=0
  ·rw[lh (show V.int (cell ns 0 / 3 / 125 % 6)=V.int 0 by rw[hw])];dsimp only;rw[pT rfl];lia;rw[aS,h4];refine⟨_,_,rfl,rfl,@A,?_⟩
   obtain⟨k,ρ,hk⟩:∃k:Nat,cell ns 5 / 512 % (m:Int)=(k:Int)/\k < m:=by
    have h1:=NH (cell ns 5 / 512) (show(m:Int)≠0 by omega);have h2:=N1 (cell ns 5 / 512) (show(0:Int) < m by omega);exact⟨(cell ns 5 / 512 % (m:Int)).toNat,@A,@A⟩
   dsimp only;rw[ρ];have O:ο[k]? =ak (ο[k]' @A):=gs @A;refine⟨π,refs ο,k,k,.ref (ο[k]' @A).1,rfl,rfl,f1,@A,@A,?_,by unfold refs;rw[ic,O];rfl,ο.eraseIdx k,rfl,λb ob hb e=>by rw[aV hb];exact e,?_,.inl ⟨hw,k,hk,rfl⟩⟩
   ·rw[aS,h4];simp[seqIndex?];omega
   ·rw[bg];unfold refs;simp[List.eraseIdx_eq_take_drop_succ,gA,Mx,Pc]
  ·rw[ia (show ¬V.int (cell ns 0 / 3 / 125 % 6)=V.int 0 from λe=>by injection e with e;exact hw e)];dsimp only;rw[oT @C];lia;exact⟨ο,rfl,λb ob _ e=>e,f1,.inr ⟨hw,rfl⟩⟩
 ·rintro σ H5 ⟨η,rfl,k5,f0,a0⟩;have l6:=k5 _ _ (aw ((s2.trans s3).get e1) f4) o7;have f3:=k5 _ _ (aw k6 f4) o4;have np:∀(b:fy) (xs:f' V),H4 b=ak (.tup xs)->H5 b=ak (.tup xs):=λb xs e=>k5 b _ (gE e f1 λz=>by cases z) e;have Z:Prt H5 χ:=fun δ τ=>np _ _ (g5 δ τ)
  have b9:∀δ∈η,δ∈ο:=by
   rcases a0 with ⟨_,k,_,rfl⟩ | ⟨_,rfl⟩
   ·exact fun δ h=>List.mem_of_mem_eraseIdx h
   ·exact fun δ h=>h
  have Y:Prt H5 η:=fun δ τ=>np _ _ (g3 δ (b9 δ τ));lia;rw[cY,lz];intro t6 H6 ζ s6 e6;have r4:=s6.get l6;have r3:=s6.get f3;have n7:=s6.get f0;lia;intro β H7 f7 s7 e7;have r2:=s7.get n7;lia;intro p6 H8 ε s8 e8;lia;rw[cY,lz];intro x dx H9 f9 s9 e9;have g0:=s8.trans s9;have c3:=s7.trans g0;have d2:=s6.trans c3
  have h6:η.length<=3:=by
   rcases a0 with ⟨_,k,hk,rfl⟩ | ⟨_,rfl⟩
   ·rw[NT];split<;>omega
   ·omega
  have α:∀δ∈χ++η,δ.2.1 < 2 ^ χ.length/\δ.2.2 < 2 ^ m:=fun δ τ=>bn72 C lz e0 c2 a3 a5 f5 δ <| px.mpr <| (px.mp τ).imp id (b9 δ);refine⟨x,dx,β,p6,m,χ,η,rfl,e9,⟨@A,g0.get e7,s9.get e8,Z.same d2,Y.same d2,@A,@A,α⟩,λHa k ma=>⟨rfl,?_⟩⟩;have sa:Same H5 Ha:=λb ob e=>k b ob (aw ((s6.trans (s7.trans s8)).get e) f9) (d2.get e);have g:MaG m χ η:=⟨@A,@A,@A,α⟩;have h7:(χ.length + 1) * η.length < 64:=v' (M5 (show χ.length + 1<=13 by omega) h6) @C;lia;refine⟨x,m,χ,η,rfl,ma,g,@A,h7,λHb f B S I L u bars c1 bq ls sb nv=>?_,λf x7 D Hb d m2 ξ μs rs fD sb ef eD m7 m5 o5 o3 b0=>?_⟩
  ·have et:=nv.ht
   have tt:TabT Hb t6 ψ π m χ η:=by
    have ι:=sa.trans sb;refine⟨?_,⟨@A,ι.get f3,ι.get f0,Z.same ι,Y.same ι,@A,@A,α⟩⟩;exact sb.get (k _ _ (aw ((s7.trans s8).get e6) f9) (c3.get e6))
   lia;rcases a0 with ⟨hw,ν,m9,rfl⟩ | ⟨hw,rfl⟩
   ·refine Cj (λ_ _=>False) ?_ (λ_ _ h=>h.elim);lia;rw[lh (show V.int (cell ns 0 / 3 / 125 % 6)=V.int 0 by rw[hw])];dsimp only;rw[pT rfl];lia;exact⟨t6,ψ,π,m,χ,_,_,f,B,S,I,L,u,bars,c1,bq,ls,rfl,tt,@A,nv,λH8 _=>q H8⟩
   ·exfalso;obtain⟨⟨pos,Cn⟩,he⟩:=IE C d3 e0 c2 a3 a5 f5;rw[lz] at Cn;exact Jz nv Cn he @A λw _=>DR bz w
  ·have hA:∀q∈prs χ++prs η,q.1 < 2 ^ (prs χ).length:=fun δ τ=>by
    unfold prs at τ;rw[<-gA] at τ;obtain⟨q0,h0,rfl⟩:=ov.mp τ;rw[aq];exact(α q0 h0).1
   have r5:d<=χ.length:=by have:=b0.le;rw[aq] at this;exact this
   have h9:(prs χ).length + (d + 1) * (prs η).length<=1000:=by
    rw[aq,aq];have:=M5 (show d + 1<=13 by omega) h6;omega
   have h5:(prs η).length<=1000:=by rw[aq];omega
   have υ:=sa.trans sb;have l4:=υ.get l6
   have tt:TabT Hb t6 ψ π m χ η:=by
    refine⟨?_,⟨@A,υ.get f3,υ.get f0,Z.same υ,Y.same υ,@A,@A,α⟩⟩;exact sb.get (k _ _ (aw ((s7.trans s8).get e6) f9) (c3.get e6))
   rcases a0 with ⟨hw,ν,m9,rfl⟩ | ⟨hw,rfl⟩
   ·exfalso;have:=M.few_ins b0.mks hA h9 h5 @A;rw[aq,NT,pT @A] at this;omega
   ·have q3:∀(b:fy) (xs:f' V),H5 b=ak (.lst xs)->Hb b=ak (.lst xs):=λb xs e=>υ.get e;have n2:SqL K Hb p0 (ns.map V.int):=Same.seq υ (zQ j1 f4 s4 k5);lia;refine Cj (fun σ H'=>σ=[ak (V.ref p0),ak (V.int (cell ns 0)),ak (V.ref D1),ak (V.int (cell ns 0 / 3 / 125 % 6)),ak (V.ref ψ),ak (V.ref π),ak (V.ref t6),ak (V.ref f)]/\H'=Hb) ?_ ?_
    ·lia;rw[ia (show ¬V.int (cell ns 0 / 3 / 125 % 6)=V.int 0 from λe=>by injection e with e;exact hw e)];dsimp only;rw[oT @C];lia;rfl
    ·rintro σ H' ⟨rfl,rfl⟩;lia;refine Ea l4 (by rw[lz];omega) λL hL c0=>?_;obtain⟨⟨pos,Cn⟩,he⟩:=IE C d3 e0 c2 a3 a5 f5;obtain⟨dL,dE⟩:=JK (by rw[lz];exact b0) Cn he @A hA h9 h5 hL c0;refine⟨_,_,rfl,rfl,?_⟩;refine⟨_,rfl,?_⟩;rw[ia (show ¬((L:Int) < d) by omega)];dsimp only;rw[oT @C];lia;rename_i R7 p3
     suffices fin:R7 [ak (V.ref p0),ak (V.int (cell ns 0)),ak (V.ref D1),ak (V.int (cell ns 0 / 3 / 125 % 6)),ak (V.ref ψ),ak (V.ref π),ak (V.ref t6),ak (V.ref f)] H' by
      dsimp only;by_cases h1:cell ns 0 / 3 / 125 % 6=1
      ·rw[lh (show V.int (cell ns 0 / 3 / 125 % 6)=V.int 1 by rw[h1]),oT @C,oT @C];exact fin
      ·have r7:=dE (ia λe=>h1 (by injection e));rw[ia (show ¬V.int (cell ns 0 / 3 / 125 % 6)=V.int 1 from λe=>by injection e with e;exact h1 e),pT @C];lia;refine Ea l4 (by rw[lz];omega) λL2 n4 e5=>?_;have eL:L2=d:=by have:=e5 L hL;have:=c0 L2 n4;omega
       subst eL;lia;rw[lh rfl];dsimp only;rw[oT @C];exact fin
     refine p3 _ _ ?_;lia;intro θ j3;refine dB (λi ys p5=>Cs (λi ys=>∃ω:I9,ys=ω.map V.int/\ω.length=i) H' θ i ys p5) (Cs.zero j3 ⟨[],rfl,rfl⟩) ?_ ?_
     ·rintro i ys p4 hi c;obtain⟨ω,a6,e4⟩:=c.pv;have q8:=Same.seq c.same n2;lia;refine Cs.put j3 c.same c.at' c.len @A ⟨ω++[_],by rw[a6,gA];rfl,by rw[gw,e4];rfl⟩
     ·rintro ys p4 c;obtain⟨ω,a6,e4⟩:=c.pv;have k8:=c.at';rw[a6] at k8;have a4:=c.same;clear c a6;lia;exact⟨t6,ψ,π,m,χ,_,f,x7,D,d,m2,ξ,μs,rs,θ,ω,rfl,tt.same a4,a4.get ef,a4.get eD,m7.same a4,m5,o5,o3,b0,@A,h7,k8,by rw[e4];decide,λH9 s9=>q H9⟩
end
open PySem.W in
theorem all_mk {l:Qe} {w:u7} {K:Frag} {h:z1} {mg:F'} {fa:fy} (X:K.In h) (G:h.Ns Kl mg) (hfa:mg "law"=ak (.ref fa)){dA gq pJ il ij jf fO ik cH jh df aL aZ aP bB aG bC aX l6:fy}{p5:hJ}{p3:J0}{pZ:Nat}{pX:Hx}{ko:Tok}{qo qO:J0}{p6:Hx}{qp qH qK qf kB qL:hJ}{bD a7 bE aW bj cM bo pK ig ji jg cG bw dh b4 ie cF bO b5 bu d4 d6 fT dk d5 fQ d7 fP di bH cJ cK bx cL cI dj dn:fy}{HW IH:J0}{GV:Hx}{HX Ie IA Hw EA IC:hJ}{yB ao:fy}(BE:NI K "Machine" ao){aQ:fy}(Gq:NI K "Steps" aQ)(yP:NI K "is_whole" dA)(yu:FR K "is_whole" "is_whole" ml dA)(BC:NI K "is_mask" gq)(AK:FR K "is_mask" "is_mask" oC gq)(IK:NI K "even" pJ)(Ib:FR K "even" "even" zV pJ)(BD:NI K "bits_of" il)(AL:FR K "bits_of" "bits_of" kX il)(BA:NI K "mask_of" ij)(AI:FR K "mask_of" "mask_of" oA ij)(DK:NI K "packed" jf)(CW:FR K "packed" "packed" rR jf)(yO:NI K "unpacked" fO)(yt:FR K "unpacked" "unpacked" j0 fO)(BB:NI K "is_pair" ik)(AJ:FR K "is_pair" "is_pair" oB ik)(tF:NI K "check_table" cH)(sI:FR K "check_table" "check_table" gL cH)(DN:NI K "is_odd" jh)(CZ:FR K "is_odd" "is_odd" rT jh)(vd:NI K "odd_places" df)(uw:FR K "odd_places" "odd_places" ix df)(wF:FI K ao "__init__" aL)(lH:FR K "__init__" "Machine.__init__" eW aL)(yZ:FI K ao "stores" aZ)(nQ:FR K "stores" "Machine.stores" gC aZ)(xN:FI K ao "outputs" aP)(mS:FR K "outputs" "Machine.outputs" fJ aP)(BM:FI K ao "told" bB)(qD:FR K "told" "Machine.told" iE bB)(tP:FI K ao "check_state" aG)(jQ:FR K "check_state" "Machine.check_state" c7 aG)(BN:FI K ao "step" bC)(qF:FR K "step" "Machine.step" iF bC)(yY:FI K ao "walked" aX)(nP:FR K "walked" "Machine.walked" gz aX)(BU:FI K ao "run" bD)(sO:K.lookup bD=ak ⟨qp,qo,.func (fnOf "run" "Machine.run" (fU dy) (dq dy) (ah dy) (.ref l6) qH qK qf qO kB qL),p6⟩)(qy:K.lookup l6=ak ⟨p5,p3,.seq #[.int 0 ko] pZ,pX⟩)(tj:codeIn K kB "Machine.run"=true)(k8:keepIn K (.ref bD)=true)(y4:FI K ao "single" a7)(nR:FR K "single" "Machine.single" gD a7)(BO:FI K ao "back" bE)(qG:FR K "back" "Machine.back" iG bE)(yX:FI K aQ "__init__" aW)(nO:FR K "__init__" "Steps.__init__" gy aW)(zd:FI K aQ "lowered" bj)(pj:FR K "lowered" "Steps.lowered" g8 bj)(ES:FI K aQ "lay" cM)(vY:FR K "lay" "Steps.lay" kL cM)(ze:FI K aQ "barring" bo)(pq:FR K "barring" "Steps.barring" g9 bo)(IL:NI K "base" pK)(Ic:FR K "base" "base" zX pK)(Bz:NI K "sum_for" ig)(AH:FR K "sum_for" "sum_for" oz ig)(DO:NI K "across" ji)(C0:FR K "across" "across" nY ji)(DM:NI K "joined" jg)(CY:FR K "joined" "joined" rS jg)(tE:NI K "silent_ways" cG)(sy:FR K "silent_ways" "silent_ways" cE cG)(m8:NI K "silent_for_ever" bw)(mQ:FR K "silent_for_ever" "silent_for_ever" dw bw)(ve:NI K "never_told" dh)(ux:FR K "never_told" "never_told" cB dh)(qP:NI K "sign_answers" b4)(qz:FR K "sign_answers" "sign_answers" dP b4)(By:NI K "tellers" ie)(AG:FR K "tellers" "tellers" oy ie)(tD:NI K "teller_pair" cF)(sv:FR K "teller_pair" "teller_pair" eU cF)(pW:NI K "followed_pair" bO)(ph:FR K "followed_pair" "followed_pair" g7 bO)(qR:NI K "kept_answers" b5)(qC:FR K "kept_answers" "kept_answers" dQ b5)(m5:NI K "telling_machine" bu)(mP:FR K "telling_machine" "telling_machine" cn bu)(wu:NI K "told_back" d4)(vU:FR K "told_back" "told_back" kH d4)(wy:NI K "_law_cell" d6)(vW:FR K "_law_cell" "_law_cell" kJ d6)(yS:NI K "_law_mix" fT)(yy:FR K "_law_mix" "_law_mix" mr fT)(vh:NI K "_law_masks" dk)(uA:FR K "_law_masks" "_law_masks" jK dk)(wx:NI K "_law_rows" d5)(vV:FR K "_law_rows" "_law_rows" kI d5)(yR:NI K "_law_odd" fQ)(yx:FR K "_law_odd" "_law_odd" mq fQ)(wz:NI K "_law_bits" d7)(vX:FR K "_law_bits" "_law_bits" kK d7)(yQ:NI K "_law_run" fP)(yw:FR K "_law_run" "_law_run" mn fP)(vf:NI K "_law_whole" di)(uy:FR K "_law_whole" "_law_whole" jI di)(nT:NI K "_law_back_good" bH)(nN:FR K "_law_back_good" "_law_back_good" dW bH)(tH:NI K "_law_summed" cJ)(sL:FR K "_law_summed" "_law_summed" i6 cJ)(tI:NI K "_law_places" cK)(sM:FR K "_law_places" "_law_places" gM cK)(m9:NI K "_law_never_good" bx)(mR:FR K "_law_never_good" "_law_never_good" fH bx)(tJ:NI K "_law_chains" cL)(sN:FR K "_law_chains" "_law_chains" i7 cL)(tG:NI K "_law_turned" cI)(sJ:FR K "_law_turned" "_law_turned" eV cI)(vg:NI K "_law_moved" dj)(uz:FR K "_law_moved" "_law_moved" jJ dj)(vi:NI K "_law_added" dn)(uB:FR K "_law_added" "_law_added" jL dn)(JO:NI K "law" yB)(JC:K.lookup yB=ak ⟨HX,HW,.func (fnOf "law" "law" (fU ud) (dq ud) (ah ud) .none Ie IA Hw IH EA IC),GV⟩)(JL:codeIn K EA "law"=true)(Jx:keepIn K (.ref yB)=true)(x3:isClsIn K ao=true)(xZ:typeIn K (.ref ao)=ak (.type "type"))(xX:mroIn K ao (.ref ao)=ak true)(qX:plainGet K ao QF=true)(qW:hasDictIn K ao=true)(qV:plainOver K ao=true)(qU:findIn K (.ref ao) "__setattr__"=ak (ak (.builtin "object.__setattr__")))(yi:findIn K (.ref ao) "__class__"=ak (ak (.builtin "object.__class__")))(yh:mroIn K ao (.type "object")=ak true)(yF:makesIn K ao=true)(yE:FI K ao "__init__" aL)(yD:isFn K (.ref aL)=true)(yC:keepIn K (.ref ao)=true)(mM:FI K ao "stores" aZ)(mJ:isFn K (.ref aZ)=true)(lG:FI K ao "outputs" aP)(lF:isFn K (.ref aP)=true)(o5:FI K ao "told" bB)(oY:isFn K (.ref bB)=true)(jC:FI K ao "check_state" aG)(jB:isFn K (.ref aG)=true)(o6:FI K ao "step" bC)(oZ:isFn K (.ref bC)=true)(mL:FI K ao "walked" aX)(mI:isFn K (.ref aX)=true)(qx:FI K ao "run" bD)(qw:isFn K (.ref bD)=true)(mO:FI K ao "single" a7)(mK:isFn K (.ref a7)=true)(o7:FI K ao "back" bE)(o4:isFn K (.ref bE)=true)(nF:FN K ao "inputs")(oW:FN K ao "nexts")(qt:FN K ao "outs")(fM:mroIn K ao (.ref ao)=ak true)(Cu:plainGet K aQ QF=true)(Ct:hasDictIn K aQ=true)(Cr:plainOver K aQ=true)(Cq:findIn K (.ref aQ) "__setattr__"=ak (ak (.builtin "object.__setattr__")))(Dm:makesIn K aQ=true)(Dk:FI K aQ "__init__" aW)(Dj:isFn K (.ref aW)=true)(Di:keepIn K (.ref aQ)=true)(nL:FI K aQ "lowered" bj)(nJ:isFn K (.ref bj)=true)(uu:FI K aQ "lay" cM)(ur:isFn K (.ref cM)=true)(nM:FI K aQ "barring" bo)(nK:isFn K (.ref bo)=true)(qr:FN K aQ "by_top")(kR:FN K aQ "free_places")(lD:FN K aQ "null_masks")(w1:specialIn K (.builtin "object.__class__") "__get__"=ak (ak (.builtin "getset_descriptor.__get__")))(w2:takesIn K (.builtin "object.__class__")=ak true){cS:fy}(BF:NI K "BadMask" cS){gW:fy}(yT:NI K "BadTable" gW)(gZ:excIn K cS [.type "ValueError",.type "Exception",.type "BaseException",.type "object"] "ValueError.__new__"=true)(d9:excIn K gW [.type "ValueError",.type "Exception",.type "BaseException",.type "object"] "ValueError.__new__"=true){i0:Tok}(tL:nsIn K Kl "MOST_INPUTS"=ak (ak (.int 6 i0))){kE:Tok}(wA:nsIn K Kl "MOST_OUTS"=ak (ak (.int 6 kE))){iZ:Tok}(tK:nsIn K Kl "MOST_STORES"=ak (ak (.int 120 iZ)))(IX:NN K "all")(GB:NN K "bool")(vk:NN K "enumerate")(IW:NN K "int")(tO:NN K "isinstance")(IV:NN K "len")(GA:NN K "list")(IU:NN K "max")(EJ:NN K "range")(IT:NN K "set")(BR:NN K "sorted")(EI:NN K "tuple")(IS:NN K "zip"):∃fd:oe,(∀(s:ib) (v:hJ),BindsTo s fd ⟨[v],[]⟩ [("_law_script",v)])/\∀base:z1,K.In base->base.Ns Kl mg->FnOk l.prog w K mg base CX0 13 fa fd ["_law_script"] (wK K):=by
 have e:=hfa.symm.trans (Kc X G JO);cases e;obtain⟨_,gX⟩:=yu.ok (ps:=["thing"]) (by walk_at "b");obtain⟨_,iq⟩:=AK.ok (ps:=["thing","width"]) (by walk_at "b");obtain⟨_,rE⟩:=Ib.ok (ps:=["number"]) (by walk_at "b");obtain⟨_,ir⟩:=AL.ok (ps:=["mask"]) (by walk_at "b");obtain⟨_,jY⟩:=AI.ok (ps:=["places"]) (by walk_at "b");obtain⟨_,oa⟩:=CW.ok (ps:=["masks","width"]) (by walk_at "b");obtain⟨_,iU⟩:=yt.ok (ps:=["whole","width","count"]) (by walk_at "b");obtain⟨_,l8⟩:=AJ.ok (ps:=["thing","stores","inputs"]) (by walk_at "b");obtain⟨_,gO⟩:=sI.ok (ps:=["inputs","nexts","outs"]) (by walk_at "b");obtain⟨_,og⟩:=CZ.ok (ps:=["pair","state","row"]) (by walk_at "b");obtain⟨_,gv⟩:=uw.ok (ps:=["pairs","state","row"]) (by walk_at "b");obtain⟨_,bW⟩:=lH.ok (ps:=["self","inputs","nexts","outs"]) (by walk_at "b");obtain⟨_,a8⟩:=nQ.ok (ps:=["self"]) (by walk_at "b");obtain⟨_,aR⟩:=mS.ok (ps:=["self"]) (by walk_at "b");obtain⟨_,dR⟩:=qD.ok (ps:=["self"]) (by walk_at "b");obtain⟨_,aN⟩:=jQ.ok (ps:=["self","state"]) (by walk_at "b");obtain⟨_,b6⟩:=qF.ok (ps:=["self","state","row"]) (by walk_at "b");obtain⟨_,cT⟩:=nP.ok (ps:=["self","rows","state"]) (by walk_at "b");have fu:=Gb (st:=dy) sO qy tj k8;have b_Machine_run:=fu.binds (ps:=["self","rows","state"]) (ds:=[]) λ_ _ _ _ _ _ _ us hl=>match us,hl with | [_,_,_],_=>⟨_,rfl,rfl⟩
 have jq:=fu.binds (ps:=["self","rows","state"]) (ds:=[.int 0 ko]) λ_ _ _ _ _ _ _ us hl=>match us,(show us.length=2 by simpa using hl) with | [_,_],_=>⟨_,rfl,rfl⟩
 obtain⟨_,cU⟩:=nR.ok (ps:=["self","which","turns"]) (by walk_at "b");obtain⟨_,b7⟩:=qG.ok (ps:=["self","mask"]) (by walk_at "b");obtain⟨_,bR⟩:=nO.ok (ps:=["self","rows"]) (by walk_at "b");obtain⟨_,cx⟩:=pj.ok (ps:=["self","mask"]) (by walk_at "b");obtain⟨_,iu⟩:=vY.ok (ps:=["self","place","row"]) (by walk_at "b");obtain⟨_,cy⟩:=pq.ok (ps:=["self","bit"]) (by walk_at "b");obtain⟨_,xM⟩:=Ic.ok (ps:=["rows"]) (by walk_at "b");obtain⟨_,iV⟩:=AH.ok (ps:=["rows","wish"]) (by walk_at "b");obtain⟨_,ke⟩:=C0.ok (ps:=["rows","width"]) (by walk_at "b");obtain⟨_,l7⟩:=CY.ok (ps:=["pair","stores"]) (by walk_at "b");obtain⟨_,fk⟩:=sy.ok (ps:=["machine","bars"]) (by walk_at "b");obtain⟨_,dD⟩:=mQ.ok (ps:=["machine"]) (by walk_at "b");obtain⟨_,iB⟩:=ux.ok (ps:=["machine"]) (by walk_at "b");obtain⟨_,fZ⟩:=qz.ok (ps:=["machine","turns"]) (by walk_at "b");obtain⟨_,jX⟩:=AG.ok (ps:=["machine","delay"]) (by walk_at "b");obtain⟨_,gN⟩:=sv.ok (ps:=["machine","delay","mask"]) (by walk_at "b");obtain⟨_,fm⟩:=ph.ok (ps:=["pair","tellings"]) (by walk_at "b");obtain⟨_,gb⟩:=qC.ok (ps:=["machine","delay"]) (by walk_at "b");obtain⟨_,dC⟩:=mP.ok (ps:=["machine","delay","masks"]) (by walk_at "b");obtain⟨_,jl⟩:=vU.ok (ps:=["machine"]) (by walk_at "b");obtain⟨_,cN⟩:=vW.ok (ps:=["_law_script","_law_k"]) (by walk_at "b");obtain⟨_,kg⟩:=yy.ok (ps:=["_law_cell_here","_law_k"]) (by walk_at "b");obtain⟨_,iC⟩:=uA.ok (ps:=["_law_cell_here","_law_start","_law_many","_law_width","_law_digits"]) (by walk_at "b");obtain⟨_,jm⟩:=vV.ok (ps:=["_law_cell_here","_law_many","_law_width"]) (by walk_at "b");obtain⟨_,iW⟩:=yx.ok (ps:=["_law_mask"]) (by walk_at "b");obtain⟨_,d8⟩:=vX.ok (ps:=["_law_pairs","_law_state","_law_row"]) (by walk_at "b");obtain⟨_,gY⟩:=yw.ok (ps:=["_law_told","_law_rows_here"]) (by walk_at "b");obtain⟨_,cD⟩:=uy.ok (ps:=["_law_thing","_law_high"]) (by walk_at "b");obtain⟨_,dY⟩:=nN.ok (ps:=["_law_told","_law_found","_law_cells"]) (by walk_at "b");obtain⟨_,gQ⟩:=sL.ok (ps:=["_law_states","_law_places_here"]) (by walk_at "b");obtain⟨_,fq⟩:=sM.ok (ps:=["_law_some","_law_many"]) (by walk_at "b");obtain⟨_,dF⟩:=mR.ok (ps:=["_law_told","_law_found"]) (by walk_at "b");obtain⟨_,gR⟩:=sN.ok (ps:=["_law_script","_law_sizes","_law_shared"]) (by walk_at "b");obtain⟨_,gP⟩:=sJ.ok (ps:=["_law_nexts","_law_outs","_law_by"]) (by walk_at "b");obtain⟨_,gx⟩:=uz.ok (ps:=["_law_mask","_law_places_here"]) (by walk_at "b");obtain⟨_,iD⟩:=uB.ok (ps:=["_law_outs","_law_cell_here"]) (by walk_at "b");have DQ:=Et (st:=ud) JC JL Jx;have b_law:=DQ.binds (ps:=["_law_script"]) λ_ _ _ _ _ _ us hl=>match us,hl with | [_],_=>rfl
 have T:Tx K mg ⟨dA,_,gq,_,pJ,_,il,_,ij,_,jf,_,fO,_,ik,_,cH,_,jh,_,df,_,aL,_,aZ,_,aP,_,bB,_,aG,_,bC,_,aX,_,bD,_,_,a7,_,bE,_,aW,_,bj,_,cM,_,bo,_,pK,_,ig,_,ji,_,jg,_,cG,_,bw,_,dh,_,b4,_,ie,_,cF,_,bO,_,b5,_,bu,_,d4,_,d6,_,fT,_,dk,_,d5,_,fQ,_,d7,_,fP,_,di,_,bH,_,cJ,_,cK,_,bx,_,cL,_,cI,_,dj,_,dn,_,fa,_,ao,aQ,cS,gW,_,_,_⟩:=⟨gX,Kc X G yP,iq,Kc X G BC,rE,Kc X G IK,ir,Kc X G BD,jY,Kc X G BA,oa,Kc X G DK,iU,Kc X G yO,l8,Kc X G BB,gO,Kc X G tF,og,Kc X G DN,gv,Kc X G vd,bW,a8,aR,dR,aN,b6,cT,fu,jq,⟨_,rfl⟩,cU,b7,bR,cx,iu,cy,xM,Kc X G IL,iV,Kc X G Bz,ke,Kc X G DO,l7,Kc X G DM,fk,Kc X G tE,dD,Kc X G m8,iB,Kc X G ve,fZ,Kc X G qP,jX,Kc X G By,gN,Kc X G tD,fm,Kc X G pW,gb,Kc X G qR,dC,Kc X G m5,jl,Kc X G wu,cN,Kc X G wy,kg,Kc X G yS,iC,Kc X G vh,jm,Kc X G wx,iW,Kc X G yR,d8,Kc X G wz,gY,Kc X G yQ,cD,Kc X G vf,dY,Kc X G nT,gQ,Kc X G tH,fq,Kc X G tI,dF,Kc X G m9,gR,Kc X G tJ,gP,Kc X G tG,gx,Kc X G vg,iD,Kc X G vi,DQ,Kc X G BE,⟨qX,qW,qV,qU⟩,⟨⟨qX,qW,qV,qU⟩,yi,w1,w2,yh⟩,⟨yF,yE,yD,yC⟩,⟨mM,mJ,a8.1.2⟩,⟨lG,lF,aR.1.2⟩,⟨o5,oY,dR.1.2⟩,⟨jC,jB,aN.1.2⟩,⟨o6,oZ,b6.1.2⟩,⟨mL,mI,cT.1.2⟩,⟨qx,qw,k8⟩,⟨mO,mK,cU.1.2⟩,⟨o7,o4,b7.1.2⟩,nF,oW,qt,Ig x3 xZ fM xX,Kc X G Gq,⟨Cu,Ct,Cr,Cq⟩,⟨Dm,Dk,Dj,Di⟩,⟨nL,nJ,cx.1.2⟩,⟨uu,ur,iu.1.2⟩,⟨nM,nK,cy.1.2⟩,qr,kR,lD,Kc X G BF,gZ,Kc X G yT,d9,Kc X G tL,Kc X G wA,Kc X G tK,Lh X G IX,Lh X G GB,Lh X G vk,Lh X G IW,Lh X G tO,Lh X G IV,Lh X G GA,Lh X G IU,Lh X G EJ,Lh X G IT,Lh X G BR,Lh X G EI,Lh X G IS⟩;exact⟨_,λs v=> .of_eq rfl,λbase _ _=>HU T⟩
open PySem.W in
theorem walk {l:Qe} {q:qc} {loose:C'} {XP:F'->z1->Prop} {YP:u7->z1->Prop} {d:DefRec} {K:Params->Frag} (hn:l.most=ak 63) (hdf:d.params.defaults=[])
  (hY:∀(w:u7) (h:z1),YP w h->(K w.params).In h)
  (F:∀(w:u7) (mg:F') (fa:fy) (h:z1),(K w.params).In h->h.Ns Kl mg->mg d.name=ak (.ref fa)->
   ∃fd:oe,(∀(s:ib) (u:hJ),BindsTo s fd ⟨[u],[]⟩ [("_law_script",u)])/\∀base:z1,(K w.params).In base->base.Ns Kl mg->FnOk l.prog w (K w.params) mg base CX0 13 fa fd ["_law_script"] (wK (K w.params))):
  WalkO q loose XP YP l.row.toRowW d [] (λf vs=>Q0 f vs):=
 L2.walk_of (n:=63) (k:=13) (x:="_law_script") (CX:=λ_=>CX0) (sp:=λw=>wK (K w.params)) hn @C hdf ⟨rfl,@C,@C⟩ hY F (λ_ _ a ns hl _ hS=>⟨a,ns,rfl,hS,hl,λ_=>rfl⟩) λ_ _ _ _ _ z=>z
end My
structure PySem.W.Fast:Prop where(tw10071588897385810411 tw102617501299114585 tw10273003005625595264 tw10284369487255708035 tw103091373826285834 tw10325789462694180829 tw10336747031677315277 tw10342509115225232701 tw10392330580003649940 tw10410471259785713181 tw10497389628838424760 tw10594277349623231083 tw106850385542663313 tw10803614520354036357 tw10879631869301557737 tw1094334066516794386 tw10944655075665686308 tw10945478869014197144 tw10956514799224798340 tw10981611557246182880 tw10996972836307011444 tw11061190101525963973 tw11075618958411623013 tw11178687417486756208 tw11186485870316167483 tw11221218721419889264 tw1124275659533713160 tw1139539334150636937 tw11397733980976855704 tw11413661449427099358 tw11469485523139700970 tw11498263684596985044 tw11538652248117016593 tw11564708111685853128 tw11581262478889158991 tw11698551826295307012 tw11770324822852800479 tw11832058860244493662 tw11941825824542724071 tw12003433101375741305 tw12005060755939511886 tw12006850450810427710 tw12063762577448206835 tw12091814365817685271 tw12318600104137571173 tw12327860079005046724 tw12336953606133839154 tw12382228934625721700 tw12509698933700337712 tw12559814550664513761 tw12578104253753553939 tw12635545243959320059 tw12880043085622247723 tw12888017528418125236 tw12924124801413876533 tw12945123590003257822 tw12946551074081585491 tw13068329625135467741 tw13087574299036371020 tw13112276013300040261 tw13145907464937116347 tw13247201424107640707 tw13255606924108971240 tw13283068370572398129 tw13294045332271136041 tw1338756193337967770 tw13435082294339270666 tw13464377178974430246 tw13469151295554739215 tw13549536524332777474 tw1360701850889137182 tw13722645265380587067 tw13725907487312651912 tw13754283460537571893 tw13850287538816741173 tw13854968349224838786 tw13864793218647104553 tw13869199414427291806 tw13879493523538479465 tw1389170965534412961 tw14139176843415576944 tw14242648509153759701 tw14255838483208440853 tw1432661575834064342 tw14356839614941788145 tw14453333197852005623 tw14722510570352943529 tw14772596218656288401 tw14925127954475389005 tw15039710529032115997 tw15064787715534889732 tw15093173987198261369 tw15096195577689171216 tw15120676785325450192 tw15332668365771212349 tw15383513193415663042 tw15420567455006682891 tw15501336265321130140 tw15559292917578708448 tw15688223405324884351 tw15703059877896242512 tw15769796782039418869 tw15804905268013423897 tw15918710066552469111 tw1593094301962144772 tw15972671482939520917 tw15992027659510507084 tw16010749413708491231 tw16074062515916011641 tw16151643444155000434 tw16167774798244328134 tw16187949175605977196 tw16197283029244066332 tw16208122508770299608 tw16251254908441805229 tw16313334926771876254 tw16338077297863939872 tw16357728367557632044 tw16396793280471420689 tw16424924922901650087 tw16649395958785764381 tw16807226117532318810 tw16815893522187096935 tw16855280031659300860 tw16878303414772419946 tw16878726903764103967 tw16988019179902306166 tw16997049858433649397 tw17052904116938610234 tw17071393238204073254 tw17104004077803001472 tw17150624180030379237 tw17258664865034928141 tw17267721558182375488 tw17280775501516262298 tw1730725441408643577 tw17360652137737660529 tw17405543086180064099 tw17531710993692692457 tw17545741448357774210 tw1760034070327822683 tw17756337525858787001 tw17846841331824936590 tw18130976580803758958 tw18219081186075291254 tw18262845105757205835 tw18267567970059721700 tw18332529822890859454 tw18402170134442851706 tw18435242437641785076 tw18444426659507357592 tw1860277029149700552 tw1912298241101760134 tw2103038702708959371 tw2220775343210151461 tw2367080648608686566 tw2368931556259427200 tw2414329478873514960 tw253900570335838275 tw2577837705332405605 tw2616339832250067953 tw2637401563218781960 tw2666862108875203339 tw2667749370458642565 tw271394448632959600 tw2778542221178259603 tw2854223216045724817 tw2942449684755819384 tw2982551079013948218 tw3026593179547282809 tw305997726992271492 tw3094230930356557338 tw3105070761361664706 tw3186851677171456178 tw3191371449193802439 tw3192133357769518152 tw3250060199248800892 tw3262943327132645983 tw3356066225055771920 tw3408312920933934378 tw346085674137302173 tw3465996193393504887 tw3498096924807873698 tw353871785763394904 tw3597315417812211228 tw3763132703971967152 tw379562052579486959 tw3853455924970369681 tw3856075927112476114 tw3893553629474224705 tw3953215589296144432 tw3992933763314615928 tw4064954882058337815 tw429148027600079365 tw4327621508089008636 tw4333775480550990022 tw4338151836400530914 tw4356535920136918538 tw4464793653726489138 tw4564627175222632571 tw4637013772570669073 tw474237154231193913 tw4911195383061056054 tw4953784915464944054 tw5002926897377023194 tw5096682828426344850 tw5106398333519087523 tw5129257974255406017 tw5174515258916536024 tw5294132882078651317 tw5350504253743912857 tw5402762711340404668 tw5498303288885341891 tw5538606222912853284 tw556828276049361869 tw5595409653435668553 tw5599846622955011956 tw5647033322255455280 tw5690757284185108865 tw5728926245486550640 tw5763299700996695039 tw5972316084858459585 tw5975764878501047520 tw6025360142199136300 tw6062866884290321679 tw6113817757424598115 tw6141990116651620418 tw6194319827066118877 tw6284432344518071621 tw6285594636706811611 tw6379862835513418355 tw6410712967479196713 tw6468637626567010423 tw6656966975626912577 tw6713831663721542376 tw6755199699227278729 tw675563075099189623 tw6764651161783018462 tw6777609488043068755 tw6822092307694906391 tw6843890164871719502 tw6884700283441301312 tw7128306358888090291 tw7225420805640157512 tw7244744824695347437 tw7252558872652502595 tw7312739797260245151 tw7316784814563069790 tw736277199915515652 tw7435005225645325441 tw7469217142719277150 tw7593020000264338233 tw7747533860705643255 tw7778456020475807167 tw7780091629985267060 tw7815646878520955140 tw7868375843393390185 tw8064707570170800458 tw8072311156333131794 tw807656064022528705 tw8123009126542532679 tw8152024045051365163 tw8164693004111352921 tw8216482760247614011 tw8218580842642679090 tw8255046347353851575 tw8325231198374771929 tw8355267668965787811 tw836382361904663332 tw8382405680553976748 tw8404162540845460304 tw8494571514436819207 tw8617407465397750472 tw8619789394356721250 tw8671069698703392228 tw8778094525750984760 tw8782906452655360312 tw890140471895161892 tw8920935223728394667 tw9012277539152848549 tw9051039716592087871 tw9087569563409947764 tw9102874571230034949 tw9103308182832933330 tw9126373715705734784 tw9362247109871030212 tw9429619010492163924 tw9502098522307673646 tw9540343077633345043 tw9636368198457873208 tw9717712021282214738 tw9775480840572655207 tw9827491308808688185 tw9834327406445630430 tw9863150378825770861 tw9863724743364422942 tw9916801468845896518 tw9926929019010020438:True)
open PySem PySem.W PyProof.Rows
set_option maxRecDepth 100000 in
set_option maxHeartbeats 0 in
theorem PySem.Challenge.cw_sumwires_k72_delays_known_holds : PySem.Challenge.rw_sumwires_k72_delays_known.Holds := by
 w_on;o_law;k_head;(case hw=>w_witness2)
 k_fill
 refine My.walk (l:=PySem.Challenge.rw_sumwires_k72_delays_known) rfl rfl (λw h Y=>PySem.W.kIn_of Y) ?F
 case F=>
  intro w mg fa h KX G hmg;refine' My.all_mk KX G hmg _ _ _ _ _ _ _ _ _ _ _ _ _ _ _ _ _ _ _ _ _ _ _ _ _ _ _ _ _ _ _ _ _ _ _ _ _ _ _ _ _ _ _ _ _ _ _ _ _ _ _ _ _ _ _ _ _ _ _ _ _ _ _ _ _ _ _ _ _ _ _ _ _ _ _ _ _ _ _ _ _ _ _ _ _ _ _ _ _ _ _ _ _ _ _ _ _ _ _ _ _ _ _ _ _ _ _ _ _ _ _ _ _ _ _ _ _ _ _ _ _ _ _ _ _ _ _ _ _ _ _ _ _ _ _ _ _ _ _ _ _ _ _ _ _ _ _ _ _ _ _ _ _ _ _ _ _ _ _ _ _ _ _ _ _ _ _ _ _ _ _ _ _ _ _ ?gZ ?d9 _ _ _ _ _ _ _ _ _ _ _ _ _ _ _ _
  any_goals ((with_reducible show _=_);k_is)
  any_goals (refine' My.FR.mk ?u ?v ?w;(case u=>k_is);(case v=>k_is);(case w=>k_is))
  (case gZ=>k_exc)
  (case d9=>k_exc)
