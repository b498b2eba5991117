import PyProof.Rows.All
import Wide.FinOn
import Lean
import KE.KDictOf
import KE.KFromBytes
import KE.KIsAll
import KE.KItem
import KE.KItemsList
import KE.KRevIter
import KE.KSortKey
import KE.KLam
import KE.KNestM
import PySem.Challenge.RW_sumwires_k63_compared_and_why
section
variable {α β γ δ ε ζ η θ ι : Sort _}{G:Prop}
theorem exx2{P:α→β→Prop}(h:∃a b,P a b)(k:∀a b,P a b→G):G:=h.elim fun a h=>Exists.elim h (k a)
theorem eyy2{P:α→β→Prop}(a:α)(b:β)(h:P a b):∃a b,P a b:=⟨a,b,h⟩
theorem exx3{P:α→β→γ→Prop}(h:∃a b c,P a b c)(k:∀a b c,P a b c→G):G:=h.elim fun a h=>exx2 h (k a)
theorem eyy3{P:α→β→γ→Prop}(a:α)(b:β)(c:γ)(h:P a b c):∃a b c,P a b c:=⟨a,b,c,h⟩
theorem exx4{P:α→β→γ→δ→Prop}(h:∃a b c d,P a b c d)(k:∀a b c d,P a b c d→G):G:=h.elim fun a h=>exx3 h (k a)
theorem eyy4{P:α→β→γ→δ→Prop}(a:α)(b:β)(c:γ)(d:δ)(h:P a b c d):∃a b c d,P a b c d:=⟨a,b,c,d,h⟩
theorem exx5{P:α→β→γ→δ→ε→Prop}(h:∃a b c d e,P a b c d e)(k:∀a b c d e,P a b c d e→G):G:=h.elim fun a h=>exx4 h (k a)
theorem eyy5{P:α→β→γ→δ→ε→Prop}(a:α)(b:β)(c:γ)(d:δ)(e:ε)(h:P a b c d e):∃a b c d e,P a b c d e:=⟨a,b,c,d,e,h⟩
theorem exx6{P:α→β→γ→δ→ε→ζ→Prop}(h:∃a b c d e f,P a b c d e f)(k:∀a b c d e f,P a b c d e f→G):G:=h.elim fun a h=>exx5 h (k a)
theorem eyy6{P:α→β→γ→δ→ε→ζ→Prop}(a:α)(b:β)(c:γ)(d:δ)(e:ε)(f:ζ)(h:P a b c d e f):∃a b c d e f,P a b c d e f:=⟨a,b,c,d,e,f,h⟩
theorem exx7{P:α→β→γ→δ→ε→ζ→η→Prop}(h:∃a b c d e f g,P a b c d e f g)(k:∀a b c d e f g,P a b c d e f g→G):G:=h.elim fun a h=>exx6 h (k a)
theorem eyy7{P:α→β→γ→δ→ε→ζ→η→Prop}(a:α)(b:β)(c:γ)(d:δ)(e:ε)(f:ζ)(g:η)(h:P a b c d e f g):∃a b c d e f g,P a b c d e f g:=⟨a,b,c,d,e,f,g,h⟩
theorem exx8{P:α→β→γ→δ→ε→ζ→η→θ→Prop}(h:∃a b c d e f g i,P a b c d e f g i)(k:∀a b c d e f g i,P a b c d e f g i→G):G:=h.elim fun a h=>exx7 h (k a)
theorem eyy8{P:α→β→γ→δ→ε→ζ→η→θ→Prop}(a:α)(b:β)(c:γ)(d:δ)(e:ε)(f:ζ)(g:η)(i:θ)(h:P a b c d e f g i):∃a b c d e f g i,P a b c d e f g i:=⟨a,b,c,d,e,f,g,i,h⟩
theorem exx9{P:α→β→γ→δ→ε→ζ→η→θ→ι→Prop}(h:∃a b c d e f g i j,P a b c d e f g i j)(k:∀a b c d e f g i j,P a b c d e f g i j→G):G:=h.elim fun a h=>exx8 h (k a)
theorem eyy9{P:α→β→γ→δ→ε→ζ→η→θ→ι→Prop}(a:α)(b:β)(c:γ)(d:δ)(e:ε)(f:ζ)(g:η)(i:θ)(j:ι)(h:P a b c d e f g i j):∃a b c d e f g i j,P a b c d e f g i j:=⟨a,b,c,d,e,f,g,i,j,h⟩
end
section
variable {G A B C D E F H I J K L M:Prop}
theorem axx3(h:A∧B∧C)(k:A→B→C→G):G:=k h.1 h.2.1 h.2.2
theorem ayy3(a:A)(b:B)(c:C):A∧B∧C:=⟨a,b,c⟩
theorem axx4(h:A∧B∧C∧D)(k:A→B→C→D→G):G:=axx3 h.2 (k h.1)
theorem ayy4(a:A)(b:B)(c:C)(d:D):A∧B∧C∧D:=⟨a,b,c,d⟩
theorem axx5(h:A∧B∧C∧D∧E)(k:A→B→C→D→E→G):G:=axx4 h.2 (k h.1)
theorem ayy5(a:A)(b:B)(c:C)(d:D)(e:E):A∧B∧C∧D∧E:=⟨a,b,c,d,e⟩
theorem axx6(h:A∧B∧C∧D∧E∧F)(k:A→B→C→D→E→F→G):G:=axx5 h.2 (k h.1)
theorem ayy6(a:A)(b:B)(c:C)(d:D)(e:E)(f:F):A∧B∧C∧D∧E∧F:=⟨a,b,c,d,e,f⟩
theorem axx7(h:A∧B∧C∧D∧E∧F∧H)(k:A→B→C→D→E→F→H→G):G:=axx6 h.2 (k h.1)
theorem ayy7(a:A)(b:B)(c:C)(d:D)(e:E)(f:F)(g:H):A∧B∧C∧D∧E∧F∧H:=⟨a,b,c,d,e,f,g⟩
theorem axx8(h:A∧B∧C∧D∧E∧F∧H∧I)(k:A→B→C→D→E→F→H→I→G):G:=axx7 h.2 (k h.1)
theorem ayy8(a:A)(b:B)(c:C)(d:D)(e:E)(f:F)(g:H)(i:I):A∧B∧C∧D∧E∧F∧H∧I:=⟨a,b,c,d,e,f,g,i⟩
theorem axx9(h:A∧B∧C∧D∧E∧F∧H∧I∧J)(k:A→B→C→D→E→F→H→I→J→G):G:=axx8 h.2 (k h.1)
theorem ayy9(a:A)(b:B)(c:C)(d:D)(e:E)(f:F)(g:H)(i:I)(j:J):A∧B∧C∧D∧E∧F∧H∧I∧J:=⟨a,b,c,d,e,f,g,i,j⟩
theorem axx10(h:A∧B∧C∧D∧E∧F∧H∧I∧J∧K)(k:A→B→C→D→E→F→H→I→J→K→G):G:=axx9 h.2 (k h.1)
theorem ayy10(a:A)(b:B)(c:C)(d:D)(e:E)(f:F)(g:H)(i:I)(j:J)(l:K):A∧B∧C∧D∧E∧F∧H∧I∧J∧K:=⟨a,b,c,d,e,f,g,i,j,l⟩
theorem axx11(h:A∧B∧C∧D∧E∧F∧H∧I∧J∧K∧L)(k:A→B→C→D→E→F→H→I→J→K→L→G):G:=axx10 h.2 (k h.1)
theorem ayy11(a:A)(b:B)(c:C)(d:D)(e:E)(f:F)(g:H)(i:I)(j:J)(l:K)(m:L):A∧B∧C∧D∧E∧F∧H∧I∧J∧K∧L:=⟨a,b,c,d,e,f,g,i,j,l,m⟩
theorem axx12(h:A∧B∧C∧D∧E∧F∧H∧I∧J∧K∧L∧M)(k:A→B→C→D→E→F→H→I→J→K→L→M→G):G:=axx11 h.2 (k h.1)
theorem ayy12(a:A)(b:B)(c:C)(d:D)(e:E)(f:F)(g:H)(i:I)(j:J)(l:K)(m:L)(n:M):A∧B∧C∧D∧E∧F∧H∧I∧J∧K∧L∧M:=⟨a,b,c,d,e,f,g,i,j,l,m,n⟩
end
open Lean in
local macro_rules
  | `(tactic| obtain ⟨$ps,*⟩ := $t:term) => do
    let ps := ps.getElems
    let n := ps.size
    if n < 3 then Macro.throwUnsupported
    -- what a pattern is bound to, and what is done behind
    let one (i : Nat) (p : TSyntax `Lean.Parser.Tactic.rcasesPatLo) : MacroM (TSyntax `term × Option (TSyntax `tactic)) := do
      let z := mkIdent (Name.mkSimple s!"zz{i}")
      match p with
      | `(Lean.Parser.Tactic.rcasesPatLo| $x:ident) => if x.getId == `rfl then return (z, some (← `(tactic| subst $z:term))) else return (x, none)
      | `(Lean.Parser.Tactic.rcasesPatLo| _) => return (← `(_), none)
      | `(Lean.Parser.Tactic.rcasesPatLo| $q:rcasesPatMed) => return (z, some (← `(tactic| obtain $q:rcasesPatMed := $z:term)))
      | _ => Macro.throwUnsupported
    let mut alts : Array (TSyntax ``Lean.Parser.Tactic.tacticSeq) := #[]
    let clr : TSyntax `tactic ← if t.raw.isIdent then `(tactic| try clear $(⟨t.raw⟩):ident) else `(tactic| skip)
    let w := mkIdent `ww
    for ex in [true, false] do
      for k in [0:n] do
        let i := if ex then n - 1 - k else n - k
        if i < 1 || i > (if ex then 9 else 12) || (!ex && i < 3) then continue
        let f := mkIdent (if ex then if i == 1 then `Exists.elim else Name.mkSimple s!"exx{i}" else Name.mkSimple s!"axx{i}")
        let m := if ex then i else if i == n then i else i - 1
        let mut bs : Array (TSyntax `term) := #[]
        let mut post : Array (TSyntax `tactic) := #[]
        for j in [0:m] do
          let (b, q) ← one j ps[j]!
          bs := bs.push b
          if let some q := q then post := post.push q
        if m < n then
          if m + 1 == n then
            let (b, q) ← one m ps[m]!
            bs := bs.push b
            if let some q := q then post := post.push q
          else
            bs := bs.push w
            let rest := ps.extract m n
            post := post.push (← `(tactic| obtain ⟨$rest,*⟩ := $w:term))
        alts := alts.push (← `(Lean.Parser.Tactic.tacticSeq| refine $f $t ?_; $clr:tactic; intro $bs*; $post;*))
    alts := alts.push (← `(Lean.Parser.Tactic.tacticSeq| rcases $t:term with ⟨$ps,*⟩))
    `(tactic| first $[| $alts]*)
open Lean in
local macro_rules
  | `(tactic| rintro $rs:rintroPat*) => do
    let mut out : Array (TSyntax `tactic) := #[]
    let mut any := false
    for r in rs do
      match r with
      | `(rintroPat| $x:ident) => if x.getId == `rfl then out := out.push (← `(tactic| (intro zz; subst zz))) else out := out.push (← `(tactic| intro $x:ident))
      | `(rintroPat| _) => out := out.push (← `(tactic| intro _))
      | `(rintroPat| ⟨$ps,*⟩) =>
        if ps.getElems.size ≥ 3 then any := true
        out := out.push (← `(tactic| (intro zz; obtain ⟨$ps,*⟩ := zz)))
      | _ => Macro.throwUnsupported
    if !any then Macro.throwUnsupported
    `(tactic| ($[$out:tactic];*))
open Lean in
local macro_rules
  | `(tactic| refine ⟨$xs,*⟩) => do
    let xs := xs.getElems
    let n := xs.size
    if n < 4 then Macro.throwUnsupported
    let mut alts : Array (TSyntax ``Lean.Parser.Tactic.tacticSeq) := #[]
    for k in [0:n] do
      let i := n - 1 - k
      if i > 9 then continue
      let ws := xs.extract 0 i
      let rs := xs.extract i n
      let m := n - i
      let cs : List (TSyntax `term) ← if m == 1 then pure [rs[0]!] else if m == 2 || m > 12 then pure [← `(⟨$rs,*⟩)] else pure [← `($(mkIdent (Name.mkSimple s!"ayy{m}")) $rs*), ← `(⟨$rs,*⟩)]
      for c in cs do
        if i == 0 then
          if m > 2 then alts := alts.push (← `(Lean.Parser.Tactic.tacticSeq| refine ($c)))
        else if i == 1 then alts := alts.push (← `(Lean.Parser.Tactic.tacticSeq| refine Exists.intro $(ws[0]!) $c))
        else alts := alts.push (← `(Lean.Parser.Tactic.tacticSeq| refine $(mkIdent (Name.mkSimple s!"eyy{i}")) $ws* $c))
    alts := alts.push (← `(Lean.Parser.Tactic.tacticSeq| refine (⟨$xs,*⟩)))
    `(tactic| first $[| $alts]*)
  | `(tactic| exact ⟨$xs,*⟩) => do
    let xs := xs.getElems
    if xs.size < 4 then Macro.throwUnsupported
    `(tactic| (refine ⟨$xs,*⟩))
open Option renaming some→aS,none→eC,map_eq_some_iff→K7,map_some→NK,isSome_map→OA,getD_none→P6
open PySem.W renaming Frag→aT,findIn→vr,mroIn→JJ,keepIn→JK,mg_of→JQ,fnOf→JX,emptyDict→Kf,instObj→Kz,mg_none_of→KC,specialIn→L4,codeIn→Lb,callWith_K→Lu,plainGet→Mp,isClsIn→Mz,methodCall_KW→MA,lookIn→ML,plainGet_of→MT,excIn→MV,isFn→Na,methodObj→Nb,hasDictIn→Nc,handedIn→Nl,takesIn→ND,takerIn→NF,cellsFrom_some→Oo,OpenLaw→OP,looks_mroIn→OS,plainOver→Pe,readsIn→Pu,makesIn→Pw,findCls→Px,typeIn→PR,Looks→Q5,nsIn→Qf,kla_obj→QJ
open PySem renaming wpAny_bind→aY,Addr→eh,wpAny_pure→eD,Shared→eL,Value→fC,wpAny→gn,sizeLine→hH,model→hL,FuncData→hP,sizeLine_eq→kv,starEach→lx,Program→oe,boot_len→q8,World→sb,Heap→u2,Str→u3,Around→u7,mem_of_lookup→u9,Expr→x7,wpAny_newObj_type→z5,wpAny_field→zx,Scope→Jq,mainGlobals→JG,codeAny_builtin→JH,Value→JR,wpAny_mono→JW,wpAny_call_entry→K0,wpAny_holding→K5,wpAny_truthy_bool→Kl,wpAny_callSpecial?_slot→Kn,wpAny_Call_Name_kw→KD,Spec→KG,wpAny_pyIter_enum→KO,wpAny_setField→K',wpAny_passesOwn→Le,Stmt→Lv,wpAny_newList→LG,codeAny_mono→LU,builtinLookup_eq_fast→M7,wpAny_loadPart'→Mh,wpAny_seqItems→Mw,wpAny_pyIter_tuple→Mx,wpAny_setState_of→MG,wpAny_comprehension_free→MN,wpAny_updateSeq→N1,wpAny_specialOf→N3,wpAny_execs_nil→N4,typeLookup_type→N5,wpAny_of_eq→Ni,wpAny_runValue→Nj,Str→NC,Obj→NJ,wpAny_standAt→NO,wpAny_attempt→NQ,plainId_quiet→NR,wpAny_rule→NU,wpAny_call→NV,call_meets→NW,tupleKind_room_in1→NX,Addr→O3,wpAny_pyIter_list→O4,wpAny_assign_Name→O5,wpAny_isInstance→Oi,wpAny_execs_cons→Oj,wpAny_askSetting→Ol,Within→OI,Shared→OJ,wpAny_load→P1,intKind_is→P3,isSubtype_type→P5,rangeSize_one→Pk,call→Pn,wpAny_typeOf→PB,call_range_1→PJ,wpAny_nextOf_list_item→PM,codeAny_compStart_list→PP,wpAny_isTrue_Compare1→Q2,exec_Assign_Name_used→Q3,wpAny_throw→Q9,layNew_perm→Qa,wpAny_newFunctionEnv→Qe,wpAny_setEntries_of→Qq,call_enumerate_list→Qr,wpAny_Name→Qz,typeIs_int→QA,wpAny_pyIter_slot→QK
open List renaming getElem?_eq_getElem→b',getElem?_eq_some_iff→dt,getD_eq_getElem?_getD→ee,length_map→eB,length_append→eH,mem_of_getElem?→eO,mem_singleton→fk,getElem?_map→f',range→hE,map_append→hF,mem_append_right→j',mem_append→lh,mem_cons_self→oi,mem_cons_of_mem→ov,mem_append_left→oD,getElem?_append_left→oP,Nodup→q3,size_toArray→q6,length_range→q7,replicate→ra,getElem?_append_right→rg,mem_cons→u5,mem_map→w2,length_take→x4,map_cons→z0,pairwise_iff_getElem→zt,mem_range→Ju,mem_iff_getElem→JE,getElem?_eq_none→JI,eq_nil_of_length_eq_zero→JM,getElem?_range→JN,length_cons→JV,take_length→K6,getElem?_of_mem→K8,length_singleton→Kc,length_drop→Kj,mem_iff_getElem?→Kt,length_replicate→Ku,range_succ→Ky,lookup_cons→KI,map_map→KR,replicate_succ→KY,getElem_mem→KZ,pairwise_cons→L9,getElem?_drop→La,forIn_cons→Lg,map_congr_left→Li,filterMap_cons→Lj,getElem?_zip_eq_some→Ll,take_add_one→Lm,nodup_append→Ln,foldl_append→Lp,append_assoc→Lq,mem_of_mem_take→LC,append_nil→LF,all_eq_true→LH,take_of_length_le→LL,getElem_take→LQ,find?_cons→LX,lookup→LY,filter_append→L',map_take→M4,not_mem_nil→M5,pairwise_map→Md,flatten_cons→Me,ext_getElem?→Mf,mem_filter→Mm,length→Mo,getElem?_take_of_lt→Mt,map_drop→MD,pairwise_lt_range→MI,nodup_cons→MO,take_append_drop→MR,pairwise_append→MW,mem_of_mem_drop→MX,getElem_map→N6,ext_getElem→N7,forIn_nil→N8,mem_filterMap→Ng,getElem?_take→Nh,findIdx?_eq_some_iff_getElem→Nr,of_mem_zip→Nv,length_zip→Nw,take_sublist→Nx,take_append_of_le_length→O0,map_nil→Oh,findIdx?_eq_none_iff→Oq,map_id→Ot,any_cons→Ov,pairwise_singleton→OL,getElem?_replicate→OM,range_succ_eq_map→OT,getElem?_set_self→OU,length_filter_le→P8,reverse_reverse→Pg,replicate_succ'→Ph,getElem?_set_ne→Pj,foldl→Pr,map_singleton→Py,getElem_range→Pz,reverse_cons→PX,nodup_range→Q6,getElem_inj→Q7,nil_append→Qk,length_set→Ql,length_nil→Qm,foldl_cons→Qn,take_succ→Qw,take_left→Qx,sum_cons→QF
open PySem.Heap renaming get?_push_of_some→en,lt_size→fy,get?_push_size→hG,size_push→z3,get?_update_self→Jv,get?_update_other→JF,get?_none_of_le→Kg,SameBut→KF
open _root_ renaming List→eA,decide_eq_false→fA,absurd→gd,decide_eq_true→hJ,if_neg→ko,Option→nk,if_pos→px,beq_eq_false_iff_ne→tz,congrArg→y',String→Jy,Bool→JC,beq_self_eq_true→JL,Array→JZ,decide_eq_true_iff→Ki,of_decide_eq_true→Km,decide_eq_true_eq→KQ,beq_iff_eq→L8,if_false→Mb,if_true→Nu,or_false→OZ,decide_eq_false_iff_not→Pt
open Nat renaming lt_of_lt_of_le→eF,pow_le_pow_right→gs,eq_of_testBit_eq→kA,two_pow_pos→lz,testBit_lt_two_pow→lT,le_refl→mu,pow_lt_pow_right→rn,testBit_two_pow→sg,testBit_xor→u6,lt_of_le_of_lt→v3,ne_of_lt→v7,shiftRight_eq_div_pow→wq,ne_of_gt→Jr,le_trans→Jx,testBit_and→JD,testBit_shiftRight→JS,xor_assoc→JU,lt_succ_of_lt→K1,xor_zero→K3,testBit_shiftLeft→K4,lt_pow_two_of_testBit→K9,zero_le→Ka,lt_succ_self→Ke,lt_irrefl→Kk,zero_testBit→Kp,lt_trichotomy→Kq,le_of_lt→Kw,shiftLeft_eq→KJ,testBit_two_pow_self→KN,le_succ→KS,xor_lt_two_pow→KW,lt_log2_self→L1,and_le_right→L3,xor_self→L7,mod_two_eq_zero_or_one→Lf,and_le_left→Lh,le_add_right→Lo,and_xor_distrib_right→Ls,zero_xor→Ly,pow_succ→Lz,sub_self→LP,and_two_pow_sub_one_eq_mod→LV,zero_and→M3,not_lt_zero→M6,not_lt→M9,testBit_div_two→Ma,xor_comm→Mj,testBit_or→Ml,le_succ_of_le→Ms,exists_eq_add_of_le→MB,lt_trans→ME,zero_add→M',mul_comm→N0,zero_shiftRight→Nd,zero_shiftLeft→Nn,and_one_is_mod→Np,or_lt_two_pow→NG,le_of_eq→NL,add_zero→NM,testBit_zero→NY,le_of_not_lt→NZ,min_eq_left→O7,div_add_mod→O8,two_pow_add_eq_or_of_lt→Od,mul_le_mul→On,min_self→Ou,and_zero→Ox,add_comm→Oy,pow_add→Pb,log2_lt→Pc,le_of_ble_eq_true→Pf,mul_le_mul_right→Po,div_lt_of_lt_mul→Pp,lt_or_gt_of_ne→PU,lt_or_eq_of_le→PV,mod_lt→PZ,mod_eq_of_lt→Qg,lt_of_not_le→Qh,log2_self_le→Qi,div_eq_of_lt→Qj,strongRecOn→Qv
open Array renaming length_toList→eY,getElem?_toList→z1,getElem?_eq_some_iff→Kr,getElem?_eq_getElem→KA,toList_push→LJ,toList_filterMap→LK,size_push→M0,getElem?_eq_none→MC,getD→N9,forIn_toList→Pq,replicate→Q8,size_zip→Qo,toList→QI
open Bool renaming false_ne_true→hC,and_eq_true→xn,false_and→J9,false_eq_true→JO,true_and→Kb,and_false→Ks,eq_iff_iff→Lw,or_false→Mq,not_eq_true'→Ny,eq_false_iff→Nz,xor_false→Oc,false_or→QG,and_true→QH
open Option.some renaming inj→iv
open PyProof.Rows renaming boot_isinstance→oL,boot_list→u1,callWith_type1→wh,boot_tuple→KB,boot_bool→Lr,boot_int→Mn,slot_tuple_getitem→MU,entry_proto_collect'→Nk,listUpdate_at→NS,entry_list_iadd'→Om,get?_update_seq→OG,entry_list_sort→OH,Call_→OY,size_push'→P2,slot_list_sort→P4,plain_sorted→PD,entry_sorted→PF,subscriptTail_builtinR→PN,kind_sorted→Qb,boot_range→QB,Subscript_→QC
open Int renaming toNat_natCast→pT,eq_ofNat_of_zero_le→KU,emod_lt_of_pos→L0,emod_nonneg→LB,toNat→LD,zero_add→LO,natCast_pos→MQ,natCast_nonneg→Nq,fdiv_eq_ediv_of_nonneg→Os,natAbs_natCast→PY,natCast_add→Qy
open PySem.PassesOwn renaming never→ry
open PySem.Value renaming ref→sC,type→JA,none→JB,int→Mu,str→Oz,bool→Pm,isStrOf→Qt,isInt→QM,float→QN,bytes→QO
open PySem.Heap.SameBut renaming update→t7
open PySem.Builtin.Int renaming intBits→u4
open Ne renaming symm→vl
open PySem.F renaming excBase_ValueError→vu,plainAttrs_list→y5,type_list_append→zP,slot_list_append→J8,type_int_bit_length→Js,slot_int_bit_length→Jt,plainAttrs_int→JY
open PySem.Obj renaming mapSeq→w1,data_mapFields→Kv,mapFields→KL,isFreed_of_fields→LS,cls_mapFields→Mr,putSet→PL
open PySem.NameKind renaming free→z2,cell→Jz
open False renaming elim→z4
open PySem.Builtin.SmallTypes renaming nextOf→Jw,ownedTupleIsFree→Mi
open PySem.Around renaming under_plainId→JP,under→OC,frames_deeper→OX
open Sum renaming inl→JT,inr→MK
open ForInStep renaming yield→Kd
open PySem.Builtin.List renaming listExtendWith→Kh,listTooLong→Ld,listLengthHint→LR,listSameRef→NB,listUpdate→NH,listItems→NT
open PySem.Builtin renaming bitNot→Ko,bitAnd→KM,bitXor→MM,bitOr→O9
open Classical renaming propDecidable→KH,epsilon→OW
open PySem.Builtin.Slice renaming slicePlaces→L5,sliceAdjust→LW,sliceApplied→Nf
open PySem.WalksT renaming enumerateD→L6,zip2→QD
open PySem.Builtin.Tuple renaming tupleExact→Lc
open PySem.Str renaming ofString→Lk,empty→Qc
open PySem.Calls renaming spliced_cons→Lx,spliced_nil→LI,Name_function_global→Oa,call_function_entry→Og,callWith_builtin→OO,evalArgs_plain→P9
open Nat.succ renaming inj→LZ
open PySem.Builtin.Range renaming rangeSize→M8,small→O2
open PySem.Data renaming cell→Mc,dict→Q1
open PySem.Code renaming quiet_builtin→Mg,isFrame→OQ,builtin→QR
open True renaming intro→MF
open PySem.SetTable renaming fresh→MH,orStandIn→OR,freeSlot→P7,fits→PQ,put→Q4
open PySem.EntryCells renaming newEntry→MJ
open Int.ofNat renaming inj→MP
open Except renaming ok→MS,error→OB
open Or renaming inr→MY,inl→MZ
open List.Pairwise renaming filter→O1,nil→Oe,imp→Of
open PySem.pickOrder renaming go→O6
open PySem.Paired renaming length→Ob,snoc→QE
open PySem.SeqAt.EqAt renaming str_int→OD,int_str→OE,same→Q0,of_refs→QQ
open PySem.Expr renaming Call→OF
open PySem.IsRange renaming new→OK
open Decidable renaming not_not→OV
open Array.Perm renaming refl→Pa
open PySem.Flow renaming ret→Pd
open PySem.Walks renaming list→Pl
open Iff renaming rfl→P'
open And renaming intro→Qd
open Prod renaming fst→Qp
open Sum.inl renaming inj→Qu
open PySem.W.WShape renaming has→QL
open PyProof.Rows.SortSt renaming mk'→QP
abbrev A':=eA (Nat×Nat)
abbrev C':=eA NC
abbrev D':=eA Nat
abbrev DB:=JR->OJ->Prop
abbrev DC:=eA (O3×PySem.Obj)
abbrev Dd:=eA JR
abbrev Dk:=NC->nk JR
abbrev Dz:=JZ JR
abbrev E':=JZ (nk JR)
abbrev F':=Unit->OJ->Prop
abbrev G':=eA O3
abbrev I8:=eA Int
abbrev J0:=nk O3
abbrev J1:=NC->JC
abbrev J2:=PySem.Result->OJ->Prop
abbrev J5:=eA (NC×O3)
abbrev J6:=eA (NC×JR)
abbrev J7:=nk JR
set_option Elab.async false
set_option hygiene false in
local macro_rules
|`(@A)=>`((by omega))
|`(@D)=>`((by walk_at "o"))
|`(@C)=>`((by decide))
|`(@E)=>`((by simp))
|`(@F)=>`((ay (K:=K) rfl))
|`(@G)=>`((by decide +kernel))
set_option hygiene false in
local macro_rules
|`(!j $a $b)=>`((aa (pv $a) $b))
|`(!A $a $b $c)=>`((aP $a $b $c (λ_ _=>rfl)))
local macro_rules | `(tactic| lia) => `(tactic| walk_at "l2")
set_option linter.all false
set_option maxRecDepth 100000
namespace L2
open PySem PySem.Spec PyProof.Rows
noncomputable abbrev Key:=Sum Int u3
noncomputable def uq:Key->fC->JC
 | .inl k,v=>QM k v
 | .inr x,v=>Qt x v
noncomputable def keyH (w:sb):Key->Int
 | .inl k=>hashInt k
 | .inr x=>hashStr w x
theorem cA:∀{k:Key} {v:fC},uq k v=true->(∃i t,k=JT i/\v=Mu i t)∨(∃x t,k=MK x/\v=Oz x t)
 | .inl i,v,h=>by
   obtain⟨t,e⟩:=Value.isInt_shape (k:=i) (v:=v) h;exact .inl ⟨i,t,rfl,e⟩
 | .inr x,v,h=>by
   obtain⟨t,e⟩:=Value.isStrOf_shape (x:=x) (v:=v) h;exact .inr ⟨x,t,rfl,e⟩
theorem Au (i:Int) (t:Tok):uq (.inl i) (.int i t)=true:=by simp[uq,QM]
theorem As (x:u3) (t:Tok):uq (.inr x) (.str x t)=true:=by simp[uq,Qt]
theorem Ho (a b:Int):decide ((JT a:Key)=JT b)=(a == b):=by
 by_cases e:a=b
 ·subst e;simp
 ·have h:¬(JT a:Key)=JT b:=λq=>e (Qu q);rw[fA h];exact(tz.mpr e).symm
theorem Hl (a b:u3):decide ((MK a:Key)=MK b)=decide (a=b):=by
 by_cases e:a=b
 ·subst e;simp
 ·have h:¬(MK a:Key)=MK b:=λq=>e (Sum.inr.inj q);rw[fA h,fA e]
theorem Hn (a:Int) (b:u3):decide ((JT a:Key)=MK b)=false:=fA (λq=>nomatch q)
theorem Hm (a:u3) (b:Int):decide ((MK a:Key)=JT b)=false:=fA (λq=>nomatch q)
noncomputable def du (prog:oe) (w:sb):PySem.KeyKind prog w Key where
 is:=uq
 hash:=keyH w
 inj:=λv a b ha hb=>by
  rcases cA ha with ⟨i,t,rfl,rfl⟩ | ⟨x,t,rfl,rfl⟩
  ·rcases cA hb with ⟨j,u,rfl,e⟩ | ⟨y,u,rfl,e⟩
   ·injection e with e1 _;rw[e1]
   ·exact nomatch e
  ·rcases cA hb with ⟨j,u,rfl,e⟩ | ⟨y,u,rfl,e⟩
   ·exact nomatch e
   ·injection e with e1 _;rw[e1]
 byValue:=λk v h=>by
  rcases cA h with ⟨i,t,rfl,rfl⟩ | ⟨x,t,rfl,rfl⟩<;>rfl
 pyHash:=λO h=>by
  rcases cA O with ⟨i,t,rfl,rfl⟩ | ⟨x,t,rfl,rfl⟩
  ·exact wpAny_pyHash_int h
  ·exact wpAny_pyHash_str h
 eqBool:=λhu O h=>by
  rcases cA hu with ⟨i,t,rfl,rfl⟩ | ⟨x,t,rfl,rfl⟩
  ·rcases cA O with ⟨j,u,rfl,rfl⟩ | ⟨y,u,rfl,rfl⟩
   ·rw[Ho] at h;exact wpAny_eqBool_int h
   ·rw[Hn] at h;exact OE i t y u _ _ _ _ h
  ·rcases cA O with ⟨j,u,rfl,rfl⟩ | ⟨y,u,rfl,rfl⟩
   ·rw[Hm] at h;exact OD x t j u _ _ _ _ h
   ·rw[Hl] at h;exact wpAny_eqBool_str h
 «strs»:=λk x t v h=>by
  rcases cA h with ⟨i,u,rfl,e⟩ | ⟨y,u,rfl,e⟩
  ·exact nomatch e
  ·injection e with e1 _
   subst e1
   cases v<;>rfl
theorem vM (prog:oe) (w:sb) (i:Int) (t:Tok):(du prog w).is (.inl i) (.int i t)=true:=Au i t
theorem vL (prog:oe) (w:sb) (x:u3) (t:Tok):(du prog w).is (.inr x) (.str x t)=true:=As x t
inductive V where
 | non | bl (b:JC) | int (i:Int) | str (x:u3) | byt (b:JZ UInt8) | flt (b:UInt64) | ref (a:eh) | ty (n:Jy)
 deriving DecidableEq
noncomputable def RelV:V->fC->Prop
 | .non,u=>u=JB
 | .bl b,u=>u=Pm b
 | .int i,u=>∃t,u=Mu i t
 | .str x,u=>∃t,u=Oz x t
 | .byt b,u=>∃t,u=QO b t
 | .flt b,u=>∃t,u=QN b t
 | .ref a,u=>u=sC a
 | .ty n,u=>u=JA n
noncomputable abbrev Vals:eA V->Dd->Prop:=Paired RelV
theorem Vals.length {xs:eA V} {us:Dd} (r:Vals xs us):xs.length=us.length:=Ob r
theorem Vals.get:∀{xs:eA V} {us:Dd} {i:Nat} {x:V},Vals xs us->xs[i]? =aS x->∃u,us[i]? =aS u/\RelV x u
 | _,_,_,_,.nil,e=>by simp at e
 | _,_,0,_,.cons r _,e=>by simp at e;subst e;exact⟨_,rfl,r⟩
 | _,_,i + 1,x,.cons _ t,e=>by
   obtain⟨u,h1,h2⟩:=Vals.get (i:=i) (x:=x) t (by simpa using e);exact⟨u,by simpa using h1,h2⟩
theorem Vals.append:∀{xs ys:eA V} {us ws:Dd},Vals xs us->Vals ys ws->Vals (xs++ys) (us++ws)
 | _,_,_,_,.nil,s=>s
 | _,_,_,_,.cons r t,s=> .cons r (Vals.append t s)
theorem Vals.take:∀{xs:eA V} {us:Dd} (n:Nat),Vals xs us->Vals (xs.take n) (us.take n)
 | _,_,0,_=> .nil
 | _,_,_ + 1,.nil=> .nil
 | _,_,n + 1,.cons r t=> .cons r (Vals.take n t)
theorem Vals.drop:∀{xs:eA V} {us:Dd} (n:Nat),Vals xs us->Vals (xs.drop n) (us.drop n)
 | _,_,0,r=>r
 | _,_,_ + 1,.nil=> .nil
 | _,_,n + 1,.cons _ t=>Vals.drop n t
noncomputable def RelO:nk V->J7->Prop
 | some v,aS u=>RelV v u
 | none,eC=>True
 | _,_=>False
noncomputable def KV {κ:Type}:eA (κ×V)->eA (κ×fC)->Prop:=Paired λ(p:κ×V) (q:κ×fC)=>p.1=q.1/\RelV p.2 q.2
noncomputable def kV:Key->V
 | .inl i=> .int i
 | .inr x=> .str x
inductive HO where
 | lst (xs:eA V)
 | tup (xs:eA V)
 | dK (kvs:eA (Key×V)) | dT (kvs:eA (eA Key×V))
 | set (S:Int->JC) (n:Nat)
 | ins (C dx:eh) (fs:eA (u3×V))
 | own (x:eh)
 | xd (fs:eA (u3×V))
 | met (f x:eh)
 | rng (lo hi:Int)
 | frz (o:NJ) (u:HO)
 | tbl (ps:Dz)
 | ext (φ:u2->Prop)
noncomputable abbrev Hp:=eh->nk HO
noncomputable def upd (H:Hp) (a:eh) (o:HO):Hp:=λb=>if b=a then aS o else H b
theorem aQ {H:Hp} {a:eh} {o:HO}:upd H a o a=aS o:=by unfold upd;rw[px rfl]
theorem aH {H:Hp} {a b:eh} {o:HO} (h:b≠a):upd H a o b=H b:=by unfold upd;rw[ko h]
theorem iY {H:Hp} {a b:eh} {o u:HO} (h:H a=aS o) (h':H b=aS u) (d:o≠u):a≠b:=by
 intro e;subst e;rw[h] at h';exact d (iv h')
theorem ar {H:Hp} {a b:eh} {o:HO} (h:H a=aS o) (h':H b=eC):a≠b:=by
 intro e;subst e;rw[h] at h';cases h'
section
variable (P:oe) (w:sb)
noncomputable def fJ (H:Hp) (h:u2) (a:eh):HO->Prop
 | .lst xs=>xs.length<=hH/\∃(its:Dd) (n:Nat),Vals xs its/\h.get? a=aS {cls:= .type "list",data:= .seq its.toArray n}
 | .tup xs=>xs.length<=hH/\∃its:Dd,Vals xs its/\IsTup h a its.toArray
 | .dK kvs=>kvs.length<=hH/\(a == sysModules)=false/\∃vs,KV kvs vs/\h.DictOf (du P w) a vs
 | .dT kvs=>kvs.length<=hH/\(a == sysModules)=false/\∃xs:eA (eA Key×eh×fC),
   Paired (λ(p:eA Key×V) (q:eA Key×eh×fC)=>p.1=q.1/\H q.2.1=aS (.tup (p.1.map kV))/\RelV p.2 q.2.2) kvs xs/\
   ∃o es ep,h.get? a=aS o/\o.ExactDict/\o.data= .dict es ep/\es.toList=xs.map (entryOfKey (tupleKind (du P w)))/\(xs.map (·.1)).Nodup
 | .set S n=>h.SetOf (intKind P w) a S n
 | .ins C dx fs=>H dx=aS (.own a)/\fs.length<=1000/\dx≠a/\h.get? a=aS (Kz C dx)/\
   ∃mA,h.Ns1 dx mA/\(∀f,RelO (fs.lookup f) (mA f))/\OI mA (fs.map (·.1))
 | .own _=>∃o,h.get? a=aS o
 | .xd fs=>∃mA,h.Ns1 a mA/\∀f,RelO (fs.lookup f) (mA f)
 | .rng lo hi=>∃t u v,h.get? a=aS {cls:= .type "range",data:= .fields #[.int lo t,.int hi u,.int 1 v]}
 | .frz o u=>h.get? a=aS o/\fJ H h a u
 | .tbl ps=>h.get? a=aS {cls:= .none,data:= .fields ps}
 | .met f x=>h.get? a=aS (Nb (.ref f) (.ref x))
 | .ext φ=>φ h/\(∃o,h.get? a=aS o)/\∀h1 h2:u2,φ h1->(∀o,h1.get? a=aS o->h2.get? a=aS o)->φ h2
def HOk (H:Hp) (h:u2):Prop:=∀a o,H a=aS o->fJ P w H h a o
end
section
variable {P:oe} {w:sb} {H H':Hp} {h h':u2} {a:eh} {o:HO}
theorem fJ.lt (x:fJ P w H h a o):a < h.objs.size:=by
 cases o with
 | lst xs=>obtain⟨_,_,_,_,e⟩:=x;exact fy e
 | tup xs=>obtain⟨_,_,_,p⟩:=x;exact p.lt
 | dK kvs=>obtain⟨_,_,_,_,o,_,_,e,_⟩:=x;exact fy e
 | dT kvs=>obtain⟨_,_,_,_,o,_,_,e,_⟩:=x;exact fy e
 | set S n=>obtain⟨o,_,_,_,e,_⟩:=x;exact fy e
 | ins C dx fs=>obtain⟨_,_,_,e,_⟩:=x;exact fy e
 | own y=>obtain⟨_,e⟩:=x;exact fy e
 | xd fs=>obtain⟨_,⟨_,_,_,e,_⟩,_⟩:=x;exact fy e
 | rng lo hi=>obtain⟨_,_,_,e⟩:=x;exact fy e
 | frz ob u=>obtain⟨e,_⟩:=x;exact fy e
 | tbl ps=>exact fy (show h.get? a=aS _ from x)
 | met f y=>exact fy (show h.get? a=aS _ from x)
 | ext φ=>obtain⟨_,⟨_,e⟩,_⟩:=x;exact fy e
theorem Paired.mapP {α β:Type} {F G:α->β->Prop}:∀{Y:eA α} {O:eA β},Paired F Y O->(∀a b,F a b->G a b)->Paired G Y O
 | _,_,.nil,_=> .nil
 | _,_,.cons r t,f=> .cons (f _ _ r) (Paired.mapP t f)
theorem fJ.stay (x:fJ P w H h a o) (k:∀b u,(b=a∨H b=aS (.own a))->h.get? b=aS u->h'.get? b=aS u)
  (ho:∀b,H b=aS (.own a)->H' b=aS (.own a)) (ht:∀b xs,H b=aS (.tup xs)->H' b=aS (.tup xs)):fJ P w H' h' a o:=by
 induction o with
 | lst xs=>obtain⟨z,its,n,r,e⟩:=x;exact⟨z,its,n,r,k _ _ (.inl rfl) e⟩
 | tup xs=>obtain⟨z,its,r,ob,e,c⟩:=x;exact⟨z,its,r,ob,k _ _ (.inl rfl) e,c⟩
 | dK kvs=>obtain⟨z,y,vs,r,ob,es,ep,e,c⟩:=x;exact⟨z,y,vs,r,ob,es,ep,k _ _ (.inl rfl) e,c⟩
 | dT kvs=>
   obtain⟨z,y,xs,r,ob,es,ep,e,c⟩:=x;exact⟨z,y,xs,Paired.mapP r λp q z=>⟨z.1,ht _ _ z.2.1,z.2.2⟩,ob,es,ep,k _ _ (.inl rfl) e,c⟩
 | set S n=>obtain⟨ob,es,ep,t,e,c⟩:=x;exact⟨ob,es,ep,t,k _ _ (.inl rfl) e,c⟩
 | ins C dx fs=>
   obtain⟨d,z,ne,e,mA,⟨od,es,ep,O,c⟩,r⟩:=x;exact⟨ho _ d,z,ne,k _ _ (.inl rfl) e,mA,⟨od,es,ep,k _ _ (.inr d) O,c⟩,r⟩
 | own y=>obtain⟨ob,e⟩:=x;exact⟨ob,k _ _ (.inl rfl) e⟩
 | xd fs=>obtain⟨mA,⟨od,es,ep,e,c⟩,r⟩:=x;exact⟨mA,⟨od,es,ep,k _ _ (.inl rfl) e,c⟩,r⟩
 | rng lo hi=>obtain⟨t,u,v,e⟩:=x;exact⟨t,u,v,k _ _ (.inl rfl) e⟩
 | frz ob u ih=>obtain⟨e,q⟩:=x;exact⟨k _ _ (.inl rfl) e,ih q⟩
 | tbl ps=>
   have e:h.get? a=aS {cls:= .none,data:= .fields ps}:=x;show h'.get? a=aS {cls:= .none,data:= .fields ps};exact k a _ (.inl rfl) e
 | met f y=>
   have e:h.get? a=aS (Nb (.ref f) (.ref y)):=x;show h'.get? a=aS (Nb (.ref f) (.ref y));exact k a _ (.inl rfl) e
 | ext φ=>obtain⟨p,⟨o,e⟩,st⟩:=x;exact⟨st _ _ p λo q=>k _ _ (.inl rfl) q,⟨o,k _ _ (.inl rfl) e⟩,st⟩
theorem HOk.lt (x:HOk P w H h) (e:H a=aS o):a < h.objs.size:=(x a o e).lt
theorem HOk.fresh (x:HOk P w H h) (e:h.objs.size<=a):H a=none:=by
 cases q:H a with
 | none=>rfl
 | some u=>exact gd (eF (x.lt q) e) (Kk _)
theorem HOk.kept (x:HOk P w H h) (k:∀b u,h.get? b=aS u->h'.get? b=aS u):HOk P w H h':=λa o e=>
 (x a o e).stay (λb u _ q=>k b u q) (λ_ q=>q) λ_ _ q=>q
theorem HOk.laid (x:HOk P w H h) (k:∀b u,h.get? b=aS u->h'.get? b=aS u) (hp:h.objs.size<=a) (new:fJ P w (upd H a o) h' a o):HOk P w (upd H a o) h':=λb u e=>by
 have hn:=x.fresh hp;by_cases hb:b=a
 ·subst hb;rw[aQ] at e;cases e;exact new
 ·rw[aH hb] at e;exact(x b u e).stay (λc v _ q=>k c v q) (λc q=>by rw[aH (ar q hn)];exact q) λc xs q=>by rw[aH (ar q hn)];exact q
end
def Rd (H:Hp) (a:eh) (u:HO):Prop:=H a=aS u∨∃o,H a=aS (.frz o u)
theorem Rd.ok {P:oe} {w:sb} {H:Hp} {h:u2} {a:eh} {u:HO} (r:Rd H a u) (x:HOk P w H h):fJ P w H h a u:=by
 rcases r with r | ⟨o,r⟩
 ·exact x a u r
 ·obtain⟨_,q⟩:=x a _ r;exact q
noncomputable def Mut:nk HO->Prop
 | some (.lst _)=>True
 | some (.dK _)=>True
 | some (.dT _)=>True
 | some (.set _ _)=>True
 | some (.ins _ _ _)=>True
 | some (.ext _)=>True
 | _=>False
section
variable {P:oe} {w:sb} {H:Hp} {h h':u2} {x e:eh} {o':HO}
theorem HOk.write (ok:HOk P w H h) (Y:Mut (H x)) (he:e=x∨H e=aS (.own x)) (k:∀b u,b≠e->h.get? b=aS u->h'.get? b=aS u) (ι:∃u,h'.get? e=aS u)
  (new:fJ P w (upd H x o') h' x o'):HOk P w (upd H x o') h':=λb u q=>by
 have Z:∀c y,H c=aS (.own y)->c≠x:=λc y r z=>by subst z;rw[r] at Y;exact Y
 have α:∀c xs,H c=aS (.tup xs)->c≠x:=λc xs r z=>by subst z;rw[r] at Y;exact Y
 by_cases hb:b=x
 ·subst hb;rw[aQ] at q;cases q;exact new
 ·rw[aH hb] at q;by_cases O:b=e
  ·have β:H b=aS (.own x):=by
    rcases he with z | z
    ·exact gd (O.trans z) hb
    ·rw[O];exact z
   rw[q] at β;cases β;obtain⟨v,γ⟩:=ι;exact⟨v,by rw[O];exact γ⟩
  ·refine(ok b u q).stay (λc v hc r=>k c v ?_ r) (λc r=>by rw[aH (Z c b r)];exact r) λc xs r=>by rw[aH (α c xs r)];exact r
   rcases hc with rfl | hc
   ·exact O
   ·rintro rfl;rcases he with z | z
    ·exact Z c b hc z
    ·rw[hc] at z;cases z;exact hb rfl
end
structure Un (fs ex:G') (H H':Hp) (h h':u2):Prop where
 keep:∀b o,h.get? b=aS o->H b=eC->b∉fs->b∉ex->h'.get? b=aS o
 slot:∀b o,h.get? b=aS o->H b=eC->b∈fs->b∉ex->∃sl,h'.get? b=aS {o with slots:=sl}
 free:∀b o,h.get? b=aS o->H b=eC->b∉ex->H' b=eC
 there:∀b o,h.get? b=aS o->b∉ex->∃o',h'.get? b=aS o'
 tups:∀b xs,H b=aS (.tup xs)->H' b=aS (.tup xs)
 frzs:∀b o u,H b=aS (.frz o u)->H' b=aS (.frz o u)
 tbls:∀b ps,H b=aS (.tbl ps)->∃more,H' b=aS (.tbl (ps++more))
section
variable {fs fs' ex ex':G'} {H H1 H2:Hp} {h h1 h2 h':u2} {a x e:eh} {o:HO}
theorem Un.any (u:Un fs ex H H1 h h1) {b:eh} {ob:NJ} (q:h.get? b=aS ob) (n:H b=eC) (hx:b∉ex):∃O,h1.get? b=aS {ob with slots:=O}:=by
 by_cases hb:b∈fs
 ·exact u.slot b ob q n hb hx
 ·exact⟨ob.slots,u.keep b ob q n hb hx⟩
theorem Un.kept (k:∀b u,h.get? b=aS u->h'.get? b=aS u):Un fs ex H H h h':=
 ⟨λb ob q _ _ _=>k b ob q,λb ob q _ _ _=>⟨ob.slots,k b ob q⟩,λ_ _ _ n _=>n,λb ob q _=>⟨ob,k b ob q⟩,λ_ _ q=>q,λ_ _ _ q=>q,λ_ ps q=>⟨#[],by rw[q];simp⟩⟩
theorem Un.refl:Un fs ex H H h h:=Un.kept λ_ _ q=>q
theorem Un.laid (k:∀b u,h.get? b=aS u->h'.get? b=aS u) (hp:h.objs.size<=a) (hn:H a=eC):Un fs ex H (upd H a o) h h' where
 keep:=λb u q _ _ _=>k b u q
 slot:=λb u q _ _ _=>⟨u.slots,k b u q⟩
 free:=λb u q n _=>by rw[aH (v7 (eF (fy q) hp))];exact n
 there:=λb u q _=>⟨u,k b u q⟩
 tups:=λb xs q=>by rw[aH (ar q hn)];exact q
 frzs:=λb u xs q=>by rw[aH (ar q hn)];exact q
 tbls:=λb ps q=>⟨#[],by rw[aH (ar q hn),q];simp⟩
theorem Un.write (Y:Mut (H x)) (he:e=x∨H e=aS (.own x)) (k:∀b u,b≠e->h.get? b=aS u->h'.get? b=aS u) (ι:∃u,h'.get? e=aS u):Un fs ex H (upd H x o) h h':=by
 have Z:∀b,H b=eC->b≠x:=λb n z=>by subst z;rw[n] at Y;exact Y
 have hb:∀b,H b=eC->b≠e:=λb n z=>by
  subst z;rcases he with r | r
  ·exact Z b n r
  ·rw[n] at r;cases r
 have hm:∀b u,H b=aS u->¬Mut (aS u)->b≠x:=λb u q nm z=>by subst z;rw[q] at Y;exact nm Y
 refine⟨λb u q n _ _=>k b u (hb b n) q,λb u q n _ _=>⟨u.slots,k b u (hb b n) q⟩,λb u q n _=>by rw[aH (Z b n)];exact n,λb u q _=>?_,
  λb xs q=>by rw[aH (hm b _ q λz=>z)];exact q,λb u xs q=>by rw[aH (hm b _ q λz=>z)];exact q,λb ps q=>⟨#[],by rw[aH (hm b _ q λz=>z),q];simp⟩⟩
 by_cases O:b=e
 ·subst O;exact ι
 ·exact⟨u,k b u O q⟩
end
noncomputable def trk (h:u2) (H:Hp):G':=(hE h.objs.size).filter λa=>(H a).isSome
noncomputable def hidT (h:u2) (H:Hp):Heap:=PySem.W.hideAll h (trk h H)
theorem Ay (h:u2) (H:Hp):(hidT h H).objs.size=h.objs.size:=PySem.W.hideAll_size _ _
theorem Cq {h:u2} {H:Hp} {b:eh} {o:NJ} (e:h.get? b=aS o) (n:H b=eC):(hidT h H).get? b=aS o:=
 PySem.W.hideAll_get _ e λhm=>by
  have q:(H b).isSome=true:=(Mm.mp hm).2;rw[n] at q;simp at q
theorem Ff {h:u2} {H:Hp} {b:eh} {o:NJ} (e:(hidT h H).get? b=aS o):h.get? b=aS o/\H b=none:=by
 have θ:h.get? b=aS o:=PySem.W.of_hideAll (trk h H) e;refine⟨θ,?_⟩;cases q:H b with
 | none=>rfl
 | some x=>
   have hm:b∈trk h H:=Mm.mpr ⟨Ju.mpr (fy θ),by simp[q]⟩;have z:(hidT h H).get? b=none:=PySem.W.hideAll_none (trk h H) hm;rw[z] at e;cases e
noncomputable def FS (g h:u2) (L:eh):DC:=(hE h.objs.size).filterMap λa=>if a=L∨(g.get? a).isSome=true then eC else (h.get? a).map λo=>(a,o)
noncomputable def rest (g h:u2) (L d:eh):DC:=(FS g h L).filter λp=>decide (p.1≠d)
structure Mod (K:aT) (mg:Dk) (base:u2):Prop where
 kin:K.In base
 glob:base.Ns JG mg
 blt:∃mb,base.Ns builtinsNs mb/\∀x:u3,x≠"__name__"->mb x=bootBuiltins x
 nolimit:base.NoLimit
structure Cx where
 prog:oe
 w:sb
 K:aT
 mg:Dk
 base:u2
 A:u7
 N:C'
 s₀:eL
 H₀:Hp
 env:Env
 outer:eA Env
 stack:eA Env
 ex:G'
 fn:J1
 calm:JC
 pn:DC
 xe:DB
noncomputable def frs (l:eA Env):G':=l.filterMap (·.frame)
noncomputable abbrev Cx.fs (X:Cx):G':=frs X.outer
def Vis (υ:Jq) (x:u3):Prop:=υ.names.lookup x=aS .local∨υ.names.lookup x=aS .cell∨υ.names.lookup x=aS .free
def Loc (υ:Jq) (x:u3):Prop:=υ.names.lookup x=aS .local∨υ.names.lookup x=aS .cell
def Look (env:Env) (h:u2) (m:Dk) (x:u3) (u:fC):Prop:=
 (env.kindOf x=aS .local/\m x=aS u)∨((env.kindOf x=aS .cell∨env.kindOf x=aS .free)/\∃c,env.cells.lookup x=aS c/\h.IsCell c (aS u))
structure Cx.Ok (X:Cx):Prop where
 mod:Mod X.K X.mg X.base
 kind:X.env.scope.kind= .function
 glob:X.env.globals=JG
 blt:X.env.builtins=builtinsNs
 above:X.s₀.heap.objs.size<=X.env.locals
 inj:∀x y c,X.env.cells.lookup x=aS c->X.env.cells.lookup y=aS c->x=y
 has:∀x,(X.env.kindOf x=aS .cell∨X.env.kindOf x=aS .free)->∃c,X.env.cells.lookup x=aS c
 cab:∀x c,X.fn x=true->X.env.cells.lookup x=aS c->X.s₀.heap.objs.size<=c
 hd:X.calm=true->X.A.handled=eC
 frames:X.A.frames=aS X.stack
 stk:X.stack=X.outer∨(X.stack=X.env::X.outer/\X.env.frame=aS X.env.locals)
 exf:∀b∈X.ex,b≠X.env.locals/\∀x c,X.env.cells.lookup x=aS c->c≠b
 bs:∀b o,X.base.get? b=aS o->X.s₀.heap.get? b=aS o/\X.H₀ b=eC
 bsz:X.base.objs.size<=X.s₀.heap.objs.size
 noex:∀b o,X.base.get? b=aS o->b∉X.ex
 exfs:∀b∈X.ex,b∉X.fs
 funs:X.s₀.heap.FunFrames X.base X.outer
 frf:∀b∈X.fs,X.H₀ b=eC
structure Inv (X:Cx) (pins:DC) (σ:eA (nk V)) (H:Hp) (s:eL):Prop where
 ok:X.Ok
 os:s.os=X.s₀.os
 bare:AllBare s.gens
 base:Un X.fs X.ex X.H₀ H X.s₀.heap s.heap
 loc:∃m,s.heap.Ns X.env.locals m/\∀(i:Nat) (x:u3) (v:V),X.N[i]? =aS x->σ[i]? =aS (aS v)->Vis X.env.scope x->∃u,RelV v u/\Look X.env s.heap m x u
 cell:∀x c,X.env.cells.lookup x=aS c->∃v,s.heap.IsCell c v
 free:H X.env.locals=eC
 freeC:∀x c,X.env.cells.lookup x=aS c->H c=eC
 pin:∀p∈X.pn++pins,s.heap.get? p.1=aS p.2/\H p.1=eC/\p.1≠X.env.locals/\p.1∉X.fs/\∀v,p.2.data≠.cell v
 hok:HOk X.prog X.w H s.heap
 len:σ.length=X.N.length
section
variable {X:Cx} {pins:DC} {σ:eA (nk V)} {H H':Hp} {s:eL} {h':u2}
theorem Cx.Ok.nofr (ok:X.Ok) {b:eh} {o:NJ} (e:X.base.get? b=aS o):b∉X.fs:=λhb=>by
 have:=(ok.funs.mem hb).1;rw[e] at this;cases this
theorem Inv.bs (I:Inv X pins σ H s):∀b o,X.base.get? b=aS o->s.heap.get? b=aS o/\H b=none:=λb o e=>
 ⟨I.base.keep b o (I.ok.bs b o e).1 (I.ok.bs b o e).2 (I.ok.nofr e) (I.ok.noex b o e),I.base.free b o (I.ok.bs b o e).1 (I.ok.bs b o e).2 (I.ok.noex b o e)⟩
theorem Inv.bk (I:Inv X pins σ H s):∀b o,X.base.get? b=aS o->s.heap.get? b=aS o:=λb o e=>(I.bs b o e).1
theorem Inv.mod (I:Inv X pins σ H s):Mod X.K X.mg X.base:=I.ok.mod
theorem Inv.kIn (I:Inv X pins σ H s):X.K.In s.heap:=I.ok.mod.kin.keeps I.bk
theorem Inv.nolimit (I:Inv X pins σ H s):s.heap.NoLimit:=I.ok.mod.nolimit.keeps I.bk
theorem Inv.lt (I:Inv X pins σ H s):X.env.locals < s.heap.objs.size:=let ⟨_,hn,_⟩:=I.loc;hn.lt
theorem Inv.sz (I:Inv X pins σ H s):X.s₀.heap.objs.size<=s.heap.objs.size:=Jx I.ok.above (Kw I.lt)
theorem Inv.nofs (I:Inv X pins σ H s) {a:eh} (h:s.heap.objs.size<=a):a∉X.fs:=λhb=>by
 obtain⟨_,o,ho,_⟩:=I.ok.funs.mem hb;exact gd (eF (fy ho) (Jx I.sz h)) (Kk _)
theorem Inv.cne (I:Inv X pins σ H s):∀x c,X.env.cells.lookup x=aS c->c≠X.env.locals:=λx c e z=>by
 obtain⟨v,o,ho,hd⟩:=I.cell x c e;obtain⟨m,⟨o',es,ep,O,η,_⟩,_⟩:=I.loc;rw[z,O] at ho;cases ho;rw[η] at hd;cases hd
theorem Inv.funs (I:Inv X pins σ H s):s.heap.FunFrames X.base X.outer:=by
 have all:∀(l:eA Env),(∀b∈frs l,b∈X.fs)->X.s₀.heap.FunFrames X.base l->s.heap.FunFrames X.base l:=by
  intro l
  induction l with
  | nil=>intro _ _;trivial
  | cons env r ih=>
    intro hs hl;obtain⟨hk,⟨L,o,hf,hn,ho,hd⟩,Y⟩:=hl;have O:L∈X.fs:=hs L (by unfold frs;rw[Lj,hf];exact oi);obtain⟨Z,e⟩:=I.base.slot L o ho (I.ok.frf L O) O λz=>I.ok.exfs L z O;exact⟨hk,⟨L,_,hf,hn,e,hd⟩,ih (λb hb=>hs b (by unfold frs;rw[Lj,hf];exact ov _ hb)) Y⟩
 exact all X.outer (λ_ hb=>hb) I.ok.funs
theorem Inv.stack (I:Inv X pins σ H s):s.heap.FunFrames X.base X.stack:=by
 rcases I.ok.stk with e | ⟨e,hf⟩
 ·rw[e];exact I.funs
 ·rw[e];obtain⟨m,hn,_⟩:=I.loc;refine .cons (by rw[I.ok.kind];decide) hf hn ?_ I.funs;exact Kg (Jx I.ok.bsz I.ok.above)
theorem Inv.stkSub (I:Inv X pins σ H s):∀b∈frs X.stack,b∈X.env.locals::X.fs:=λb hb=>by
 rcases I.ok.stk with e | ⟨e,hf⟩
 ·rw[e] at hb;exact ov _ hb
 ·rw[e] at hb;unfold frs at hb;rw[Lj,hf] at hb;exact hb
theorem Inv.stkFree (I:Inv X pins σ H s):∀b∈frs X.stack,H b=none:=λb hb=>by
 rcases u5.mp (I.stkSub b hb) with e | hb
 ·rw[e];exact I.free
 ·obtain⟨_,o,ho,_⟩:=I.ok.funs.mem hb;exact I.base.free b o ho (I.ok.frf b hb) λz=>I.ok.exfs b z hb
theorem Inv.step {g':JZ GenState} {t':Nat} {d':Drawn} {ch:G'} (I:Inv X pins σ H s)
  (Z:∀b∈ch,(b∈X.ex∨X.s₀.heap.objs.size<=b)/\b≠X.env.locals/\(∀x c,X.env.cells.lookup x=aS c->c≠b)/\∀p∈X.pn++pins,p.1≠b)
  (keep:∀b o,b≠X.env.locals->b∉X.fs->b∉ch->s.heap.get? b=aS o->H b=eC->h'.get? b=aS o)
  (slot:∀b o,b≠X.env.locals->b∈X.fs->b∉ch->s.heap.get? b=aS o->H b=eC->∃ζ,h'.get? b=aS {o with slots:=ζ}) (free:∀b o,b∉ch->s.heap.get? b=aS o->H b=eC->H' b=eC)
  (there:∀b o,b∉ch->s.heap.get? b=aS o->∃o',h'.get? b=aS o')
  (tups:∀b xs,H b=aS (.tup xs)->H' b=aS (.tup xs)) (frzs:∀b o u,H b=aS (.frz o u)->H' b=aS (.frz o u)) (tbls:∀b ps,H b=aS (.tbl ps)->∃more,H' b=aS (.tbl (ps++more)))
  (ns:∀m,s.heap.Ns X.env.locals m->h'.Ns X.env.locals m) (hok:HOk X.prog X.w H' h') (ι:AllBare g'):
  Inv X pins σ H' {s with heap:=h',gens:=g',drawn:=d',toks:=t'}:=by
 have γ:∀b o,X.s₀.heap.get? b=aS o->b≠X.env.locals:=λb o e=>v7 (eF (fy e) I.ok.above)
 have β:∀b o,X.s₀.heap.get? b=aS o->b∉X.ex->b∉ch:=λb o e O hb=>by
  rcases(Z b hb).1 with z | z
  ·exact O z
  ·exact gd (eF (fy e) z) (Kk _)
 have α:∀x c,X.env.cells.lookup x=aS c->∀v,s.heap.IsCell c v->h'.IsCell c v:=λx c e v ⟨o,ho,hd⟩=>by
  have Y:c∉ch:=λz=>(Z c z).2.2.1 x c e rfl;by_cases η:c∈X.fs
  ·obtain⟨ζ,q⟩:=slot c o (I.cne x c e) η Y ho (I.freeC x c e);exact⟨_,q,hd⟩
  ·exact⟨o,keep c o (I.cne x c e) η Y ho (I.freeC x c e),hd⟩
 refine⟨I.ok,I.os,ι,⟨λb o e n hb O=>?_,λb o e n hb O=>?_,λb o e n O=>?_,λb o e O=>?_,λb xs e=>tups b xs (I.base.tups b xs e),λb o xs e=>frzs b o xs (I.base.frzs b o xs e),λb ps e=>?_⟩,?_,λx c e=>?_,?_,λx c e=>?_,λp hp=>?_,hok,I.len⟩
 ·exact keep b o (γ b o e) hb (β b o e O) (I.base.keep b o e n hb O) (I.base.free b o e n O)
 ·obtain⟨ζ,e1⟩:=I.base.slot b o e n hb O;obtain⟨ε,δ⟩:=slot b _ (γ b o e) hb (β b o e O) e1 (I.base.free b o e n O);exact⟨ε,δ⟩
 ·obtain⟨o',e1⟩:=I.base.there b o e O;exact free b o' (β b o e O) e1 (I.base.free b o e n O)
 ·obtain⟨o',e1⟩:=I.base.there b o e O;exact there b o' (β b o e O) e1
 ·obtain⟨φ,e1⟩:=I.base.tbls b ps e;obtain⟨θ,δ⟩:=tbls b _ e1;exact⟨φ++θ,by rw[δ,Array.append_assoc]⟩
 ·obtain⟨m,hn,hl⟩:=I.loc;refine⟨m,ns m hn,λi x v e1 δ ν=>?_⟩;obtain⟨u,r,l⟩:=hl i x v e1 δ ν;refine⟨u,r,?_⟩;rcases l with l | ⟨k,c,e,z⟩
  ·exact .inl l
  ·exact .inr ⟨k,c,e,α x c e _ z⟩
 ·obtain⟨v,z⟩:=I.cell x c e;exact⟨v,α x c e v z⟩
 ·obtain⟨m,⟨o,_,_,ho,_⟩,_⟩:=I.loc;exact free _ o (λz=>(Z _ z).2.1 rfl) ho I.free
 ·obtain⟨v,o,ho,hd⟩:=I.cell x c e;exact free c o (λz=>(Z c z).2.2.1 x c e rfl) ho (I.freeC x c e)
 ·obtain⟨e,n,ne,nf,d⟩:=I.pin p hp;have Y:p.1∉ch:=λz=>(Z p.1 z).2.2.2 p hp rfl;exact⟨keep p.1 p.2 ne nf Y e n,free p.1 p.2 Y e n,ne,nf,d⟩
theorem Inv.un {t':Nat} (I:Inv X pins σ H s) (u:Un X.fs [] H H' s.heap h') (hok:HOk X.prog X.w H' h'):Inv X pins σ H' {s with heap:=h',toks:=t'}:=by
 obtain⟨m,⟨o,es,ep,ho,r⟩,_⟩:=id I.loc;obtain⟨α,Z⟩:=u.any ho I.free @E
 exact I.step (g':=s.gens) (d':=s.drawn) (ch:=[]) (λ_ z=>nomatch z) (λb o _ hb _ e n=>u.keep b o e n hb @E) (λb o _ hb _ e n=>u.slot b o e n hb @E) (λb o _ e n=>u.free b o e n @E) (λb o _ e=>u.there b o e @E) u.tups u.frzs u.tbls (fun β hm=>by
  obtain⟨o',χ,Y,O,r'⟩:=hm;rw[ho] at O;cases O;exact⟨_,χ,Y,Z,r'⟩) hok I.bare
theorem Inv.call {g':JZ GenState} {t':Nat} {d':Drawn} {ch:G'} (I:Inv X pins σ H s) (u:Un (frs X.stack) ch H H' s.heap h') (hok:HOk X.prog X.w H' h') (γ:AllBare g')
  (Z:∀b∈ch,(b∈X.ex∨X.s₀.heap.objs.size<=b)/\b≠X.env.locals/\(∀x c,X.env.cells.lookup x=aS c->c≠b)/\∀p∈X.pn++pins,p.1≠b):
  Inv X pins σ H' {s with heap:=h',gens:=g',drawn:=d',toks:=t'}:=by
 obtain⟨m,⟨o,es,ep,ho,r⟩,_⟩:=id I.loc;obtain⟨δ,α⟩:=u.any ho I.free λz=>(Z _ z).2.1 rfl
 exact I.step (ch:=ch) Z (λb o α hb O e n=>u.keep b o e n (λz=>(u5.mp (I.stkSub b z)).elim α hb) O) (λb o _ _ O e n=>u.any e n O) (λb o O e n=>u.free b o e n O) (λb o O e=>u.there b o e O) u.tups u.frzs u.tbls (fun ε hm=>by
  obtain⟨o',χ,β,Y,r'⟩:=hm;rw[ho] at Y;cases Y;exact⟨_,χ,β,α,r'⟩) hok γ
theorem Inv.turned {t':Nat} {it:eh} (I:Inv X pins σ H s) (k:∀b o,b≠it->s.heap.get? b=aS o->h'.get? b=aS o) (hn:H it=eC) (Y:it≠X.env.locals)
  (h1:it∈X.ex∨X.s₀.heap.objs.size<=it) (h2:∀x c,X.env.cells.lookup x=aS c->c≠it) (Z:∀p∈X.pn++pins,p.1≠it):Inv X pins σ H {s with heap:=h',toks:=t'}:=by
 have θ:∀b u,H b=aS u->b≠it:=λb u e z=>by rw[z,hn] at e;cases e
 refine I.step (g':=s.gens) (d':=s.drawn) (ch:=[it]) (λb hb=>?_) (λb o _ _ O e _=>k b o (λz=>O (by simp[z])) e) (λb o _ _ O e _=>⟨o.slots,k b o (λz=>O (by simp[z])) e⟩) (λ_ _ _ _ n=>n)
  (λb o O e=>⟨o,k b o (λz=>O (by simp[z])) e⟩) (λ_ _ e=>e) (λ_ _ _ e=>e) (λb ps e=>⟨#[],by rw[e];simp⟩) (λm hm=>?_) (λb u e=>?_) I.bare
 ·have e:b=it:=by simpa using hb
  subst e;exact⟨h1,Y,h2,Z⟩
 ·obtain⟨o,es,ep,ho,r⟩:=hm;exact⟨o,es,ep,k _ o (vl Y) ho,r⟩
 ·refine(I.hok b u e).stay (λc v O q=>k c v ?_ q) (λ_ q=>q) λ_ _ q=>q;rcases O with z | z
  ·rw[z];exact θ b u e
  ·exact θ c _ z
theorem Inv.tok (I:Inv X pins σ H s) (t:Nat):Inv X pins σ H {s with toks:=t}:=I.un (h':=s.heap) (t':=t) Un.refl I.hok
theorem Inv.kept {t':Nat} (I:Inv X pins σ H s) (k:∀b u,s.heap.get? b=aS u->h'.get? b=aS u):Inv X pins σ H {s with heap:=h',toks:=t'}:=I.un (Un.kept k) (I.hok.kept k)
theorem Inv.laid {a:eh} {o:HO} {t':Nat} (I:Inv X pins σ H s) (k:∀b u,s.heap.get? b=aS u->h'.get? b=aS u) (hp:s.heap.objs.size<=a) (new:fJ X.prog X.w (upd H a o) h' a o):
  Inv X pins σ (upd H a o) {s with heap:=h',toks:=t'}:=I.un (Un.laid k hp (I.hok.fresh hp)) (I.hok.laid k hp new)
theorem Inv.write {x e:eh} {o:HO} {t':Nat} (I:Inv X pins σ H s) (Y:Mut (H x)) (he:e=x∨H e=aS (.own x)) (k:∀b u,b≠e->s.heap.get? b=aS u->h'.get? b=aS u) (ι:∃u,h'.get? e=aS u)
  (new:fJ X.prog X.w (upd H x o) h' x o):Inv X pins σ (upd H x o) {s with heap:=h',toks:=t'}:=I.un (Un.write Y he k ι) (I.hok.write Y he k ι new)
theorem Inv.weak {σ':eA (nk V)} (I:Inv X pins σ H s) (hl:σ'.length=σ.length) (w:∀(i:Nat) v,σ'[i]? =aS (aS v)->σ[i]? =aS (aS v)):Inv X pins σ' H s:=
 ⟨I.ok,I.os,I.bare,I.base,let ⟨m,hn,O⟩:=I.loc;⟨m,hn,λi x v e1 Z Y=>O i x v e1 (w i v Z) Y⟩,I.cell,I.free,I.freeC,I.pin,I.hok,hl.trans I.len⟩
theorem Inv.pins_of {pins':DC} (I:Inv X pins σ H s) (h:∀p∈pins',s.heap.get? p.1=aS p.2/\H p.1=eC/\p.1≠X.env.locals/\p.1∉X.fs/\∀v,p.2.data≠.cell v):Inv X pins' σ H s:=
 ⟨I.ok,I.os,I.bare,I.base,I.loc,I.cell,I.free,I.freeC,λp hp=>(lh.mp hp).elim (λz=>I.pin p (oD _ z)) (h p),I.hok,I.len⟩
theorem xh {N:C'} (O:N.Nodup) {i j:Nat} {x:u3} (a:N[i]? =aS x) (b:N[j]? =aS x):i=j:=by
 obtain⟨h1,e1⟩:=dt.mp a;obtain⟨h2,Y⟩:=dt.mp b;exact(Q7 O).mp (e1.trans Y.symm)
theorem oJ {M:Model} {A:u7} {E:DB} {i:Nat} {x:u3} {v:V} {u:fC} {Q:F'} (I:Inv X pins σ H s) (hN:X.N.Nodup) (hi:X.N[i]? =aS x) (hx:Loc X.env.scope x) (r:RelV v u)
  (h:∀s',Inv X pins (σ.set i (aS v)) H s'->(∃a,KF a s.heap s'.heap/\(a=X.env.locals∨X.env.cells.lookup x=aS a))->Q () s') (hf:X.fn x=true∨X.env.scope.names.lookup x=aS .local:=by first | exact .inl rfl | exact .inr rfl | assumption):gn M A (storeName X.env x u) Q E s:=by
 obtain⟨m,hn,hl⟩:=id I.loc;have ν:(X.env.scope.kind == .class||(X.env.scope.kind == .module&&X.env.locals != X.env.globals))=false:=by rw[I.ok.kind];rfl
 have α:i < σ.length:=by rw[I.len];exact(dt.mp hi).1
 have cne:=I.cne
 have O:∀{a:eh} {h':u2},(∃o,s.heap.get? a=aS o/\H a=eC)->KF a s.heap h'->HOk X.prog X.w H h':=λ{a h'} ha hs b ob e=>by
  obtain⟨_,_,Y⟩:=ha;refine(I.hok b ob e).stay (λc δ hc q=>(hs.2 c ?_).trans q) (λ_ q=>q) λ_ _ q=>q;rintro rfl;rcases hc with rfl | hc
  ·rw[Y] at e;cases e
  ·rw[Y] at hc;cases hc
 rcases hx with hk | hk
 ·refine wpAny_storeName_local hk hn (λh' φ hs=>?_) ν;obtain⟨β,_,_,υ,_⟩:=id hn;refine h _ ⟨I.ok,I.os,I.bare,⟨λb o e n hb hx=>?_,λb o e n hb hx=>?_,I.base.free,λb o e hx=>?_,I.base.tups,I.base.frzs,I.base.tbls⟩,⟨_,φ,λj y π e1 Z χ=>?_⟩,λy c e=>?_,I.free,I.freeC,λp hp=>?_,O ⟨β,υ,I.free⟩ hs,by simpa using I.len⟩ ⟨_,hs,.inl rfl⟩
  ·exact(hs.2 b (v7 (eF (fy e) I.ok.above))).trans (I.base.keep b o e n hb hx)
  ·obtain⟨τ,e1⟩:=I.base.slot b o e n hb hx;exact⟨τ,(hs.2 b (v7 (eF (fy e) I.ok.above))).trans e1⟩
  ·obtain⟨o',e1⟩:=I.base.there b o e hx;exact⟨o',(hs.2 b (v7 (eF (fy e) I.ok.above))).trans e1⟩
  ·by_cases ε:j=i
   ·subst ε;rw[hi] at e1;cases e1;rw[OU α] at Z;cases Z;exact⟨u,r,.inl ⟨hk,by simp⟩⟩
   ·rw[Pj (vl ε)] at Z;obtain⟨ρ,r',q⟩:=hl j y π e1 Z χ;refine⟨ρ,r',?_⟩;rcases q with ⟨k,e⟩ | ⟨k,c,e,z⟩
    ·refine .inl ⟨k,?_⟩;have:y≠x:=λe=>ε (xh hN e1 (e ▸ hi));simp[this,e]
    ·exact .inr ⟨k,c,e,z.sameBut hs (cne y c e)⟩
  ·obtain⟨δ,z⟩:=I.cell y c e;exact⟨δ,z.sameBut hs (cne y c e)⟩
  ·obtain⟨e,n,ne,nf,d⟩:=I.pin p hp;exact⟨(hs.2 p.1 ne).trans e,n,ne,nf,d⟩
 ·have ζ:X.fn x=true:=by
   rcases hf with z | z
   ·exact z
   ·rw[z] at hk;cases hk
  obtain⟨c,hc⟩:=I.ok.has x (.inl hk);obtain⟨δ,z⟩:=I.cell x c hc;refine wpAny_storeName_cell I.ok.kind hk hc z (λh' ξ hs=>?_);obtain⟨ω,θ,η⟩:=id z;refine h {s with heap:=h'} ⟨I.ok,I.os,I.bare,⟨λb o e n hb hx=>?_,λb o e n hb hx=>?_,I.base.free,λb o e hx=>?_,I.base.tups,I.base.frzs,I.base.tbls⟩,⟨m,hn.sameBut hs (vl (cne x c hc)),λj y π e1 Z χ=>?_⟩,λy ο e=>?_,I.free,I.freeC,λp hp=>?_,O ⟨ω,θ,I.freeC x c hc⟩ hs,by simpa using I.len⟩ ⟨c,hs,.inr hc⟩
  ·exact(hs.2 b (v7 (eF (fy e) (I.ok.cab x c ζ hc)))).trans (I.base.keep b o e n hb hx)
  ·obtain⟨τ,e1⟩:=I.base.slot b o e n hb hx;exact⟨τ,(hs.2 b (v7 (eF (fy e) (I.ok.cab x c ζ hc)))).trans e1⟩
  ·obtain⟨o',e1⟩:=I.base.there b o e hx;exact⟨o',(hs.2 b (v7 (eF (fy e) (I.ok.cab x c ζ hc)))).trans e1⟩
  ·by_cases ε:j=i
   ·subst ε;rw[hi] at e1;cases e1;rw[OU α] at Z;cases Z;exact⟨u,r,.inr ⟨.inl hk,c,hc,ξ⟩⟩
   ·rw[Pj (vl ε)] at Z;obtain⟨ρ,r',q⟩:=hl j y π e1 Z χ;refine⟨ρ,r',?_⟩;rcases q with q | ⟨k,ο,e,z'⟩
    ·exact .inl q
    ·refine .inr ⟨k,ο,e,z'.sameBut hs ?_⟩;rintro rfl;exact ε (xh hN e1 (I.ok.inj _ _ _ e hc ▸ hi))
  ·by_cases ι:ο=c
   ·subst ι;exact⟨_,ξ⟩
   ·obtain⟨ψ,γ⟩:=I.cell y ο e;exact⟨ψ,γ.sameBut hs ι⟩
  ·obtain⟨e,n,ne,nf,d⟩:=I.pin p hp;refine⟨(hs.2 p.1 ?_).trans e,n,ne,nf,d⟩;intro q;rw[q,θ] at e;have q':ω=p.2:=iv e;exact d δ (by rw[<-q'];exact η)
theorem wN {M:Model} {A:u7} {E:DB} {i:Nat} {x:u3} {v:V} {u:fC} {Q:F'} (I:Inv X pins σ H s) (O:X.N.Nodup) (hi:X.N[i]? =aS x) (hx:Loc X.env.scope x) (r:RelV v u)
  (h:∀s',Inv X pins (σ.set i (aS v)) H s'->Q () s') (hf:X.fn x=true∨X.env.scope.names.lookup x=aS .local:=by first | exact .inl rfl | exact .inr rfl | assumption):gn M A (storeName X.env x u) Q E s:=
 oJ I O hi hx r (λs' Y _=>h s' Y) hf
theorem Inv.call' {s':eL} {ch:G'} (I:Inv X pins σ H s) (ho:s'.os=s.os) (u:Un (frs X.stack) ch H H' s.heap s'.heap) (hok:HOk X.prog X.w H' s'.heap) (Y:AllBare s'.gens)
  (O:∀b∈ch,(b∈X.ex∨X.s₀.heap.objs.size<=b)/\b≠X.env.locals/\(∀x c,X.env.cells.lookup x=aS c->c≠b)/\∀p∈X.pn++pins,p.1≠b):Inv X pins σ H' s':=by
 obtain⟨h',g',d',t',o'⟩:=s';have e:o'=s.os:=ho;subst e;exact I.call (g':=g') (t':=t') (d':=d') u hok Y O
end
noncomputable abbrev XK:=fC->J0->Hp->Prop
noncomputable abbrev St:=eA (nk V)
noncomputable abbrev VK:=V->Hp->Prop
noncomputable abbrev TE:=St->Hp->VK->Prop
noncomputable abbrev TT:=St->Hp->(JC->Hp->Prop)->Prop
noncomputable abbrev TA:=St->Hp->(eA V->Hp->Prop)->Prop
structure Ends where
 nx:St->Hp->Prop
 rt:VK
 bk:St->Hp->Prop:=λ_ _=>False
 ct:St->Hp->Prop:=λ_ _=>False
noncomputable abbrev TS:=Ends->St->Hp->Prop
def EP (X:Cx) (pins:DC) (σ:St) (Q:VK) (u:fC) (s':eL):Prop:=∃v H',Inv X pins σ H' s'/\RelV v u/\Q v H'
def TP (X:Cx) (pins:DC) (σ:St) (Q:JC->Hp->Prop) (b:JC) (s':eL):Prop:=∃H',Inv X pins σ H' s'/\Q b H'
def AP (X:Cx) (pins:DC) (σ:St) (Q:eA V->Hp->Prop) (us:Dd) (s':eL):Prop:=∃vs H',Inv X pins σ H' s'/\Vals vs us/\Q vs H'
def SP (X:Cx) (pins:DC) (D:Ends) (f:Flow) (s':eL):Prop:=
 match f with
 | .next=>∃σ' H',Inv X pins σ' H' s'/\D.nx σ' H'
 | .brk=>∃σ' H',Inv X pins σ' H' s'/\D.bk σ' H'
 | .cont=>∃σ' H',Inv X pins σ' H' s'/\D.ct σ' H'
 | .ret u=>∃v σ' H',Inv X pins σ' H' s'/\RelV v u/\D.rt v H'
def PE (X:Cx) (e:x7) (t:TE):Prop:=
 ∀(pins:DC) (s:eL) (σ:St) (H:Hp) (Q:VK),Inv X pins σ H s->t σ H Q->gn (hL X.prog X.w) X.A (eval e X.env) (EP X pins σ Q) X.xe s
def PT (X:Cx) (e:x7) (t:TT):Prop:=
 ∀(pins:DC) (s:eL) (σ:St) (H:Hp) (Q:JC->Hp->Prop),Inv X pins σ H s->t σ H Q->gn (hL X.prog X.w) X.A (isTrue e X.env (eval e X.env)) (TP X pins σ Q) X.xe s
def PW (X:Cx) (e:x7) (t:TT):Prop:=
 ∀(O:Sem fC) (pins:DC) (s:eL) (σ:St) (H:Hp) (Q:JC->Hp->Prop),Inv X pins σ H s->t σ H Q->gn (hL X.prog X.w) X.A (isTrue e X.env O) (TP X pins σ Q) X.xe s
theorem PW.pt {X:Cx} {e:x7} {t:TT} (h:PW X e t):PT X e t:=h _
def PA (X:Cx) (es:eA x7) (t:TA):Prop:=
 ∀(pos:Pos) (pins:DC) (s:eL) (σ:St) (H:Hp) (Q:eA V->Hp->Prop),Inv X pins σ H s->t σ H Q->gn (hL X.prog X.w) X.A (spliced (backTo pos (lx es X.env))) (AP X pins σ Q) X.xe s
def PS (X:Cx) (st:Lv) (t:TS):Prop:=
 ∀(pins:DC) (s:eL) (σ:St) (H:Hp) (D:Ends),Inv X pins σ H s->t D σ H->gn (hL X.prog X.w) X.A (exec st X.env) (SP X pins D) X.xe s
def PSs (X:Cx) (st:eA Lv) (t:TS):Prop:=
 ∀(pins:DC) (s:eL) (σ:St) (H:Hp) (D:Ends),Inv X pins σ H s->t D σ H->gn (hL X.prog X.w) X.A (execs st X.env) (SP X pins D) X.xe s
theorem thn {α:Type} {t:Sem α} {Q O:α->eL->Prop} {M:Model} {A:u7} {E:DB} {s:eL} (h:gn M A t Q E s) (Y:∀a s,Q a s->O a s):gn M A t O E s:=JW h Y λ_ _ x=>x
section
variable {X:Cx}
noncomputable def tVar (i:Nat):TE:=fun σ H Q=>∃v,σ[i]? =aS (aS v)/\Q v H
noncomputable abbrev tC (v:V):TE:=λ_ H Q=>Q v H
theorem G2 {i:Nat} {x:u3} {pos:Pos} (β:X.N[i]? =aS x) (α:Vis X.env.scope x) (hd:(x == ("__debug__":u3))=false:=by decide) (Y:(x == ("__classdict__":u3))=false:=by decide):PE X (.Name x pos) (tVar i):=by
 intro pins s σ H Q I h;obtain⟨v,e,h⟩:=h;obtain⟨m,hn,hl⟩:=I.loc;obtain⟨u,r,l⟩:=hl i x v β e α;have fin:EP X pins σ Q u s:=⟨v,H,I,r,h⟩;rcases l with ⟨hk,hm⟩ | ⟨hk,c,Z,O⟩
 ·exact Qz (wpAny_loadName_local I.ok.kind hk hn hm fin) hd
 ·rcases hk with hk | hk
  ·exact Qz (wpAny_loadName_cell I.ok.kind hk Z O fin) hd
  ·exact Qz (wpAny_loadName_free I.ok.kind hk Z O fin Y) hd
theorem ag {i j pos}:PE X (.Constant (.int i) j pos) (tC (.int i)):=λ_ _ _ H _ I h=>wpAny_Constant_int ⟨.int i,H,I.tok _,⟨_,rfl⟩,h⟩
theorem iU {b j pos}:PE X (.Constant (.bool b) j pos) (tC (.bl b)):=λ_ _ _ H _ I h=>Constant_bool ⟨.bl b,H,I,rfl,h⟩
theorem lW {j pos}:PE X (.Constant .none j pos) (tC .non):=λ_ _ _ H _ I h=>Constant_none ⟨.non,H,I,rfl,h⟩
theorem eM {x j pos}:PE X (.Constant (.str x) j pos) (tC (.str x)):=λ_ _ _ H _ I h=>Calls.Constant_str ⟨.str x,H,I.tok _,⟨_,rfl⟩,h⟩
def Gl (X:Cx) (x:u3):Prop:=X.env.kindOf x=aS .globalImplicit
theorem nC {E:DB} {pins:DC} {s:eL} {σ:St} {H:Hp} {x:u3} {u:fC} {pos:Pos} {Q:DB} (I:Inv X pins σ H s) (O:Gl X x) (hm:X.mg x=aS u) (h:Q u s)
  (hd:(x == ("__debug__":u3))=false:=by decide):gn (hL X.prog X.w) X.A (eval (.Name x pos) X.env) Q E s:=
 Oa I.ok.kind O (Calls.loadGlobal_global (by rw[I.ok.glob];exact I.mod.glob.keeps I.bk) hm h) hd
theorem iC {E:DB} {pins:DC} {s:eL} {σ:St} {H:Hp} {x:u3} {u:fC} {pos:Pos} {Q:DB} (I:Inv X pins σ H s) (Y:Gl X x) (hm:X.mg x=eC) (O:bootBuiltins x=aS u) (h:Q u s)
  (hn:x≠"__name__":=by decide) (hd:(x == ("__debug__":u3))=false:=by decide):gn (hL X.prog X.w) X.A (eval (.Name x pos) X.env) Q E s:=by
 obtain⟨Z,h1,h2⟩:=I.mod.blt;exact Oa I.ok.kind Y (Calls.loadGlobal_builtin (by rw[I.ok.glob];exact I.mod.glob.keeps I.bk) hm (by rw[I.ok.blt];exact h1.keeps I.bk) ((h2 x hn).trans O) h) hd
theorem vG {x:u3} {v:V} {u:fC} {pos:Pos} (O:Gl X x) (hm:X.mg x=aS u) (r:RelV v u) (hd:(x == ("__debug__":u3))=false:=by decide):PE X (.Name x pos) (tC v):=
 λ_ _ _ H _ I h=>nC I O hm ⟨v,H,I,r,h⟩ hd
theorem fi {x:u3} {v:V} {u:fC} {pos:Pos} (Y:Gl X x) (hm:X.mg x=eC) (O:bootBuiltins x=aS u) (r:RelV v u) (hn:x≠"__name__":=by decide) (hd:(x == ("__debug__":u3))=false:=by decide):PE X (.Name x pos) (tC v):=
 λ_ _ _ H _ I h=>iC I Y hm O ⟨v,H,I,r,h⟩ hn hd
variable {a b:x7} {ta tb:TE} {pos:Pos}
def PC (X:Cx) (Y:CmpOp) (a b:x7) (t:TE):Prop:=
 ∀(pins:DC) (s:eL) (σ:St) (H:Hp) (Q:VK),Inv X pins σ H s->t σ H Q->
  gn (hL X.prog X.w) X.A (eval a X.env) (λv O=>gn (hL X.prog X.w) X.A (eval b X.env) (λu ξ=>gn (hL X.prog X.w) X.A (compareOp Y v u) (EP X pins σ Q) X.xe ξ) X.xe O) X.xe s
noncomputable abbrev tB (t:TE):TT:=fun σ H Q=>t σ H λx H1=>∃c,x= .bl c/\Q c H1
theorem GX {Y:CmpOp} {t:TE} (h:PC X Y a b t) (h1:behindInMarks Y b=false:=by first | exact nobehind _ (by decide) (by decide) | rfl):PT X (.Compare a [Y] [b] pos) (tB t):=by
 intro pins s σ H Q I hw;refine Q2 (thn (h pins s σ H _ I hw) λv δ h1=>thn h1 λu γ h2=>thn h2 λc β ⟨x,H1,O,Z,α⟩=>?_) h1;obtain⟨d,rfl,q⟩:=α;cases Z;exact Kl ⟨H1,O,q⟩
theorem cq {e:x7} {t:TE} (h:PE X e t) (he:∀Y,isTrue e X.env Y=(do let v <-Y;standAt e.pos;holding [v] (truthy v)):=by intro _;rfl):PT X e (tB t):=by
 intro pins s σ H Q I hw;refine isTrue_plain (thn (h pins s σ H _ I hw) λv β ⟨x,H1,O,Z,α⟩=>?_) (he _);obtain⟨d,rfl,q⟩:=α;cases Z;exact Kl ⟨H1,O,q⟩
variable {tA tB':TT} {rest:eA x7}
noncomputable abbrev tAnd (t u:TT):TT:=fun σ H Q=>t σ H λc H1=>if c=true then u σ H1 Q else Q false H1
noncomputable abbrev tOr (t u:TT):TT:=fun σ H Q=>t σ H λc H1=>if c=true then Q true H1 else u σ H1 Q
noncomputable abbrev tNot (t:TT):TT:=fun σ H Q=>t σ H λc H1=>Q (!c) H1
theorem oX (ha:PT X a tA):PW X (.BoolOp .And [a] pos) tA:=by
 intro O pins s σ H Q I h;refine isTrue_and (thn (ha pins s σ H Q I h) λc Y e=>?_);cases c with
 | true=>exact isTrue_and_nil e
 | false=>exact e
theorem dX (ha:PT X a tA):PW X (.BoolOp .Or [a] pos) tA:=by
 intro O pins s σ H Q I h;refine isTrue_or (thn (ha pins s σ H Q I h) λc Y e=>?_);cases c with
 | false=>exact isTrue_or_nil e
 | true=>exact e
theorem tV (ha:PT X a tA) (hb:PW X (.BoolOp .And (b::rest) pos) tB'):PW X (.BoolOp .And (a::b::rest) pos) (tAnd tA tB'):=by
 intro Z pins s σ H Q I h;refine isTrue_and (thn (ha pins s σ H _ I h) λc α ⟨H1,O,Y⟩=>?_);cases c with
 | true=>exact hb Z pins α σ H1 Q O Y
 | false=>exact⟨H1,O,Y⟩
theorem gL (ha:PT X a tA) (hb:PW X (.BoolOp .Or (b::rest) pos) tB'):PW X (.BoolOp .Or (a::b::rest) pos) (tOr tA tB'):=by
 intro Z pins s σ H Q I h;refine isTrue_or (thn (ha pins s σ H _ I h) λc α ⟨H1,O,Y⟩=>?_);cases c with
 | true=>exact⟨H1,O,Y⟩
 | false=>exact hb Z pins α σ H1 Q O Y
theorem dj (ha:PT X a tA):PT X (.UnaryOp .Not a pos) (tNot tA):=by
 intro pins s σ H Q I h;exact isTrue_not (ha pins s σ H (λc H1=>Q (!c) H1) I h)
noncomputable abbrev Iq (ta tb:TE):TE:=fun σ H Q=>ta σ H λx H1=>∃c,x= .bl c/\if c=true then tb σ H1 Q else Q (.bl false) H1
noncomputable abbrev Im (ta:TE):TE:=fun σ H Q=>ta σ H λx H1=>∃c,x= .bl c/\Q (.bl (!c)) H1
theorem rj {op} {t:TE} (h:PE X a t):PE X (.BoolOp op [a] pos) t:=λpins s σ H Q I hw=>BoolOp_one (h pins s σ H Q I hw)
theorem o4 (ha:PE X a ta) (hb:PE X (.BoolOp .And (b::rest) pos) tb):PE X (.BoolOp .And (a::b::rest) pos) (Iq ta tb):=by
 intro pins s σ H Q I h;refine BoolOp_and (thn (ha pins s σ H _ I h) λv Z ⟨x,H1,O,α,Y⟩=>?_);obtain⟨c,rfl,Y⟩:=Y;cases α;refine Kl ?_;cases c with
 | true=>exact hb pins Z σ H1 Q O Y
 | false=>exact⟨.bl false,H1,O,rfl,Y⟩
theorem G3 (ha:PE X a ta):PE X (.UnaryOp .Not a pos) (Im ta):=by
 intro pins s σ H Q I h;refine UnaryOp_ (thn (ha pins s σ H _ I h) λv α ⟨x,H1,O,Z,Y⟩=>?_);obtain⟨c,rfl,Y⟩:=Y;cases Z;exact not_of (Kl ⟨.bl (!c),H1,O,rfl,Y⟩)
end
def SqL (K:aT) (H:Hp) (a:eh) (xs:eA V):Prop:=
 Rd H a (.lst xs)∨
  ∃(o:NJ) (its:Dz) (n:Nat),K.lookup a=aS o/\o.cls= .type "list"/\o.dict=eC/\o.data= .seq its n/\its.size<=hH/\Vals xs its.toList
def SqT (K:aT) (H:Hp) (a:eh) (xs:eA V):Prop:=
 Rd H a (.tup xs)∨
  ∃(o:NJ) (its:Dz) (n:Nat),K.lookup a=aS o/\o.cls= .type "tuple"/\o.data= .seq its n/\its.size<=hH/\Vals xs its.toList
noncomputable def absV:fC->nk V
 | .none=>aS .non
 | .bool b=>aS (.bl b)
 | .int i _=>aS (.int i)
 | .str x _=>aS (.str x)
 | .bytes b _=>aS (.byt b)
 | .float b _=>aS (.flt b)
 | .ref a=>aS (.ref a)
 | .type n=>aS (.ty n)
 | _=>eC
theorem RelV.abs {x:V} {u:fC} (r:RelV x u):absV u=aS x:=by
 cases x with
 | non=>cases r;rfl
 | bl _=>cases r;rfl
 | int _=>obtain⟨t,rfl⟩:=r;rfl
 | str _=>obtain⟨t,rfl⟩:=r;rfl
 | byt _=>obtain⟨t,rfl⟩:=r;rfl
 | flt _=>obtain⟨t,rfl⟩:=r;rfl
 | ref _=>cases r;rfl
 | ty _=>cases r;rfl
theorem RelV.inj {x y:V} {u:fC} (r:RelV x u) (q:RelV y u):x=y:=iv (r.abs.symm.trans q.abs)
theorem Vals.inj:∀{xs ys:eA V} {us:Dd},Vals xs us->Vals ys us->xs=ys
 | _,_,_,.nil,.nil=>rfl
 | _,_,_,.cons r t,.cons r' t'=>by rw[r.inj r',Vals.inj t t']
section
variable {X:Cx} {pins:DC} {σ:St} {H:Hp} {s:eL} {a:eh} {xs ys:eA V}
theorem SqL.of {K:aT} (h:H a=aS (.lst xs)):SqL K H a xs:= .inl (.inl h)
theorem SqT.of {K:aT} (h:H a=aS (.tup xs)):SqT K H a xs:= .inl (.inl h)
theorem Inv.list (I:Inv X pins σ H s) (h:SqL X.K H a xs):∃its:Dd,Vals xs its/\PlainL s.heap a its.toArray/\xs.length<=sizeLine:=by
 rcases h with h | ⟨o,its,n,hk,O,hd,hs,hz,r⟩
 ·obtain⟨z,its,n,r,e⟩:=h.ok I.hok;exact⟨its,r,⟨_,n,e,rfl,rfl,rfl⟩,z⟩
 ·refine⟨its.toList,r,⟨o,n,I.kIn a o hk,O,hd,by simpa using hs⟩,?_⟩;have e:=r.length;simp only[eY] at e;omega
theorem Inv.tuple (I:Inv X pins σ H s) (h:SqT X.K H a xs):∃its:Dd,Vals xs its/\IsTup s.heap a its.toArray/\xs.length<=sizeLine:=by
 rcases h with h | ⟨o,its,n,hk,O,hs,hz,r⟩
 ·obtain⟨z,its,r,p⟩:=h.ok I.hok;exact⟨its,r,p,z⟩
 ·refine⟨its.toList,r,⟨o,I.kIn a o hk,O,n,by simpa using hs⟩,?_⟩;have e:=r.length;simp only[eY] at e;omega
theorem Inv.list_inj (I:Inv X pins σ H s) (h:SqL X.K H a xs) (h':SqL X.K H a ys):xs=ys:=by
 obtain⟨its,r,⟨o,n,e,_,_,d⟩,_⟩:=I.list h;obtain⟨its',r',⟨o',Y,θ,_,_,d'⟩,_⟩:=I.list h';rw[e] at θ;cases θ;rw[d] at d';injection d' with O _
 have:its=its':=by simpa using y' QI O
 subst this;exact r.inj r'
theorem Inv.tuple_inj (I:Inv X pins σ H s) (h:SqT X.K H a xs) (h':SqT X.K H a ys):xs=ys:=by
 obtain⟨its,r,⟨o,e,_,n,d⟩,_⟩:=I.tuple h;obtain⟨its',r',⟨o',θ,_,Y,d'⟩,_⟩:=I.tuple h';rw[e] at θ;cases θ;rw[d] at d';injection d' with O _
 have:its=its':=by simpa using y' QI O
 subst this;exact r.inj r'
end
noncomputable abbrev Cx.wish (X:Cx) (E:DB):Cx:={X with xe:=E}
noncomputable abbrev Cx.nox (X:Cx):Cx:=X.wish λ_ _=>False
theorem Cx.Ok.wish {X:Cx} (ok:X.Ok) (E:DB):(X.wish E).Ok:=
 ⟨ok.mod,ok.kind,ok.glob,ok.blt,ok.above,ok.inj,ok.has,ok.cab,ok.hd,ok.frames,ok.stk,ok.exf,ok.bs,ok.bsz,ok.noex,ok.exfs,ok.funs,ok.frf⟩
theorem Cx.Ok.unwish {X:Cx} {E:DB} (ok:(X.wish E).Ok):X.Ok:=
 ⟨ok.mod,ok.kind,ok.glob,ok.blt,ok.above,ok.inj,ok.has,ok.cab,ok.hd,ok.frames,ok.stk,ok.exf,ok.bs,ok.bsz,ok.noex,ok.exfs,ok.funs,ok.frf⟩
section
variable {X:Cx} {pins:DC} {σ:St} {H:Hp} {s:eL} {E:DB}
theorem Inv.wish (I:Inv X pins σ H s) (E:DB):Inv (X.wish E) pins σ H s:=⟨I.ok.wish E,I.os,I.bare,I.base,I.loc,I.cell,I.free,I.freeC,I.pin,I.hok,I.len⟩
theorem Inv.unwish (I:Inv (X.wish E) pins σ H s):Inv X pins σ H s:=⟨I.ok.unwish,I.os,I.bare,I.base,I.loc,I.cell,I.free,I.freeC,I.pin,I.hok,I.len⟩
theorem SP.unwish {D:Ends} {f:Flow} {s':eL} (h:SP (X.wish E) pins D f s'):SP X pins D f s':=by
 cases f with
 | next=>obtain⟨σ',H',I,q⟩:=h;exact⟨σ',H',I.unwish,q⟩
 | brk=>obtain⟨σ',H',I,q⟩:=h;exact⟨σ',H',I.unwish,q⟩
 | cont=>obtain⟨σ',H',I,q⟩:=h;exact⟨σ',H',I.unwish,q⟩
 | ret u=>obtain⟨v,σ',H',I,r,q⟩:=h;exact⟨v,σ',H',I.unwish,r,q⟩
theorem PSs.nox {st:eA Lv} {t:TS} (h:PSs X.nox st t):PSs X st t:=λpins s σ H D I hw=>
 JW (h pins s σ H D (I.wish _) hw) (λ_ _ q=>q.unwish) λ_ _ z=>z4 z
end
section
variable {X:Cx} {st:Lv} {rest:eA Lv} {t u:TS} {e:x7} {te:TE} {pos:Pos}
noncomputable def Ga:TS:=λD σ H=>D.nx σ H
noncomputable def tSeq (t u:TS):TS:=λD σ H=>t {D with nx:=u D} σ H
theorem aF:PSs X [] Ga:=λ_ _ σ H _ I h=>N4 ⟨σ,H,I,h⟩
theorem ae (h1:PS X st t) (h2:PSs X rest u):PSs X (st::rest) (tSeq t u):=by
 intro pins s σ H D I h;refine Oj (thn (h1 pins s σ H {D with nx:=u D} I h) λf O q=>?_);cases f with
 | next=>
   obtain⟨σ',H',Y,q⟩:=q;exact h2 pins O σ' H' D Y q
 | ret v=>exact q
 | brk=>exact q
 | cont=>exact q
theorem ai (h1:PS X st t):PSs X [st] t:=by
 intro pins s σ H D I h;refine Oj (thn (h1 pins s σ H D I h) λf O q=>?_);cases f with
 | next=>exact N4 q
 | ret v=>exact q
 | brk=>exact q
 | cont=>exact q
theorem Inv.quiet {pins:DC} {σ:St} {H:Hp} {s:eL} (I:Inv X pins σ H s):interactive X.env=false:=by simp[interactive,I.ok.kind]
noncomputable abbrev Io (te:TE):TS:=λD σ H=>te σ H λ_ H1=>D.nx σ H1
theorem fg (he:PE X e te) (hs:swapsWith e eC pos.line X.env=pure false:=by rfl):PS X (.Expr e pos) (Io te):=by
 intro pins s σ H D I h;exact wpAny_Expr_any (thn (he pins s σ H _ I h) λv Z ⟨x,H1,O,α,Y⟩=>⟨σ,H1,O,Y⟩) I.quiet hs
noncomputable abbrev tRet (te:TE):TS:=λD σ H=>te σ H D.rt
theorem aB (he:PE X e te):PS X (.Return (aS e) pos) (tRet te):=by
 intro pins s σ H D I h;exact wpAny_Return_some (thn (he pins s σ H _ I h) λv α ⟨x,H1,O,Y,Z⟩=>⟨x,σ,H1,O,Y,Z⟩)
noncomputable abbrev tIfS (c:TT) (t u:TS):TS:=λD σ H=>c σ H λb H1=>if b=true then t D σ H1 else u D σ H1
theorem bz {c:x7} {a b:eA Lv} {tc:TT} (hc:PT X c tc) (ha:PSs X a t) (hb:PSs X b u):PS X (.If c a b pos) (tIfS tc t u):=by
 intro pins s σ H D I h;refine wpAny_If (thn (hc pins s σ H _ I h) λd Y ⟨H1,O,Z⟩=>?_);cases d with
 | true=>exact ha pins Y σ H1 D O Z
 | false=>exact hb pins Y σ H1 D O Z
end
noncomputable abbrev TG:=V->St->Hp->(St->Hp->Prop)->Prop
noncomputable abbrev TGs:=eA V->St->Hp->(St->Hp->Prop)->Prop
def PG (X:Cx) (O:x7) (t:TG):Prop:=
 ∀(pins:DC) (s:eL) (σ:St) (H:Hp) (v:V) (u:fC) (Q:St->Hp->Prop),Inv X pins σ H s->RelV v u->t v σ H Q->
  gn (hL X.prog X.w) X.A (assign O X.env u) (λ_ s'=>∃σ' H',Inv X pins σ' H' s'/\Q σ' H') X.xe s
def PGs (X:Cx) (ts:eA x7) (t:TGs):Prop:=
 ∀(pins:DC) (s:eL) (σ:St) (H:Hp) (vs:eA V) (us:Dd) (Q:St->Hp->Prop),Inv X pins σ H s->Vals vs us->t vs σ H Q->
  gn (hL X.prog X.w) X.A (assignInOrder ((assignEach ts X.env).map (·.2)) us) (λ_ s'=>∃σ' H',Inv X pins σ' H' s'/\Q σ' H') X.xe s
section
variable {X:Cx} {pos:Pos}
noncomputable def yr (i:Nat):TG:=λv σ H Q=>Q (σ.set i (aS v)) H
theorem aq {i:Nat} {x:u3} (O:X.N.Nodup) (hi:X.N[i]? =aS x) (hx:Loc X.env.scope x) (hf:X.fn x=true∨X.env.scope.names.lookup x=aS .local:=by first | exact .inl rfl | exact .inr rfl | assumption):PG X (.Name x pos) (yr i):=by
 intro pins s σ H v u Q I r h;exact O5 (wN I O hi hx r (λs' Y=>⟨_,H,Y,h⟩) hf)
noncomputable def gNil:TGs:=λvs σ H Q=>vs=[]/\Q σ H
noncomputable def FF (t:TG) (u:TGs):TGs:=λvs σ H Q=>∃v r,vs=v::r/\t v σ H fun σ' H'=>u r σ' H' Q
theorem b7:PGs X [] gNil:=by
 intro pins s σ H vs us Q I r h;obtain⟨e,h⟩:=h;subst e;cases r;exact assignInOrder_nil ⟨σ,H,I,h⟩
theorem ax {e:x7} {es:eA x7} {t:TG} {u:TGs} (h1:PG X e t) (h2:PGs X es u)
  (hs:(assignEach (e::es) X.env).map (·.2)=assign e X.env::(assignEach es X.env).map (·.2):=by rfl):PGs X (e::es) (FF t u):=by
 intro pins s σ H vs us Q I r h;obtain⟨v,γ,e1,h⟩:=h;subst e1;cases r with
 | cons r α=>
   rw[hs];refine assignInOrder_cons (thn (h1 pins s σ H _ _ _ I r h) λ_ Z ⟨Y,H1,O,β⟩=>?_);exact h2 pins Z Y H1 _ _ Q O α β
noncomputable def gTup (K:aT) (n:Nat) (t:TGs):TG:=λv σ H Q=>∃a xs,v= .ref a/\SqT K H a xs/\xs.length=n/\t xs σ H Q
theorem g7 {es:eA x7} {k:Nat} {t:TGs} {n:Nat} (hc:X.calm=true) (h:PGs X es t)
  (hn:(assignEach es X.env).length=n:=by rfl) (Y:(assignEach es X.env).findIdx? (·.1)=none:=by rfl):PG X (.Tuple es k pos) (gTup X.K n t):=by
 intro pins s σ H v u Q I r hw;obtain⟨a,xs,e1,β,hl,hw⟩:=hw;subst e1;cases r;obtain⟨its,Z,ht,hz⟩:=I.tuple β;refine assign_Tuple_tuple (I.ok.hd hc) ht (by simp[hn,<-hl,Z.length]) Y λh' α=>?_;have O:Inv X pins σ H {s with heap:=h'}:=I.kept (t':=s.toks) λb o e=>α b o (v7 (fy e)) e;exact h pins _ σ H xs _ Q O (by simpa using Z) hw
noncomputable abbrev tAsg (te:TE) (g:TG):TS:=λD σ H=>te σ H λx H1=>g x σ H1 D.nx
theorem oY {tg e:x7} {te:TE} {g:TG} (he:PE X e te) (β:PG X tg g) (hs:swapsWithSole [tg] e pos.line X.env=pure false:=by rfl) (hw:swappedStores [tg] e X.env=pure none:=by rfl)
  (h1:(assignEach [tg] X.env).map (·.2)=[assign tg X.env]:=by rfl):PS X (.Assign [tg] e pos) (tAsg te g):=by
 intro pins s σ H D I h;refine wpAny_Assign_stores (thn (he pins s σ H _ I h) λv Y ⟨x,H1,O,Z,α⟩=>?_) hs hw;rw[h1];exact thn (β pins Y σ H1 x v _ O Z α) λ_ γ q=>q
theorem av {i:Nat} {x:u3} {e:x7} {te:TE} {pos':Pos} (α:X.N.Nodup) (hi:X.N[i]? =aS x) (hx:Loc X.env.scope x) (he:PE X e te) (hs:swapsWith e (aS (.Name x pos')) pos.line X.env=pure false:=by rfl) (hf:X.fn x=true∨X.env.scope.names.lookup x=aS .local:=by first | exact .inl rfl | exact .inr rfl | assumption):
  PS X (.Assign [.Name x pos'] e pos) (tAsg te (yr i)):=by
 intro pins s σ H D I h;refine wpAny_Assign_Name (thn (he pins s σ H _ I h) λv δ ⟨y,H1,O,Y,Z⟩=>?_) hs;exact wN O α hi hx Y (fun γ β=>⟨_,H1,β,Z⟩) hf
end
section
variable {X:Cx} {pos:Pos}
noncomputable def F6 (c:TT) (tb:TS):TS:=λD σ H=>∃W:Nat->St->Hp->Prop,(∃m,W m σ H)/\∀m σ H,W m σ H->
 c σ H λb H1=>if b=true then ∃N:St->Hp->Prop,(∀σ' H',N σ' H'->∃O,O < m/\W O σ' H')/\tb {D with nx:=N,ct:=N,bk:=D.nx} σ H1 else D.nx σ H1
theorem w4 {c:x7} {body:eA Lv} {tc:TT} {tb:TS} (hp:PassesOwn (hL X.prog X.w) X.A X.env X.xe) (hc:PT X c tc) (hb:PSs X body tb):PS X (.While c body [] pos) (F6 tc tb):=by
 intro pins s σ H D I h;obtain⟨W,⟨ρ,w0⟩,α⟩:=h;refine wpAny_While (codeAny_whileLoop (λn s'=>∃σ' H',Inv X pins σ' H' s'/\W n σ' H') ?_ ρ ⟨σ,H,I,w0⟩);rintro n π ⟨Z,H1,O,ξ⟩;refine Le hp (thn (hc pins π Z H1 _ O (α n Z H1 ξ)) λb ο ⟨H2,ν,ε⟩=>?_);cases b with
 | true=>
   obtain⟨N,ι,ε⟩:=ε;rw[px rfl];refine Le hp (thn (hb pins ο Z H2 _ ν ε) λf τ γ=>?_);cases f with
   | next=>
     obtain⟨Y,β,θ,ζ⟩:=γ;obtain⟨η,hm,δ⟩:=ι Y β ζ;exact⟨η,hm,Y,β,θ,δ⟩
   | cont=>
     obtain⟨Y,β,θ,ζ⟩:=γ;obtain⟨η,hm,δ⟩:=ι Y β ζ;exact⟨η,hm,Y,β,θ,δ⟩
   | brk=>exact γ
   | ret v=>exact γ
 | false=>
   rw[ko hC];exact N4 ⟨Z,H2,ν,ε⟩
end
structure It where
 go:Nat->Hp->Prop
 yld:Nat->Hp->V->Hp->Prop
 stop:Nat->Hp->Prop
def FpOk (X:Cx) (pins:DC) (H:Hp) (b:eh):Prop:=
 H b=eC/\b≠X.env.locals/\b∉X.fs/\(b∈X.ex∨X.s₀.heap.objs.size<=b)/\(∀x c,X.env.cells.lookup x=aS c->c≠b)/\∀p∈X.pn++pins,p.1≠b
theorem Inv.fpOk {X:Cx} {pins:DC} {σ:St} {H H':Hp} {s:eL} {b:eh} (I:Inv X pins σ H s) (hb:s.heap.objs.size<=b) (hn:H' b=eC):FpOk X pins H' b:=by
 refine⟨hn,Jr (eF I.lt hb),I.nofs hb,.inr (Jx I.sz hb),λx c e z=>?_,λp hp z=>?_⟩
 ·obtain⟨v,q⟩:=I.cell x c e;exact gd (eF q.lt (by rw[z];exact hb)) (Kk _)
 ·exact gd (eF (fy (I.pin p hp).1) (by rw[z];exact hb)) (Kk _)
structure Turn (P:oe) (w:sb) (K:aT) (tg:x7) (J:It) (fp:G') (it:eh) (tn:Nat->u2->Prop):Prop where
 mem:it∈fp
 obj:∀i h,tn i h->∀b∈fp,∃o,h.get? b=aS o/\∀v,o.data≠.cell v
 keep:∀i h h',tn i h->(∀b∈fp,∀o,h.get? b=aS o->h'.get? b=aS o)->tn i h'
 item:∀(X:Cx),X.prog=P->X.w=w->X.K=K->X.calm=true->∀(i:Nat) (pins:DC) (s:eL) (σ:St) (H:Hp) (E:DB),Inv X pins σ H s->(∀b∈fp,FpOk X pins H b)->tn i s.heap->J.go i H->
  gn (hL P w) X.A (pyNext (.ref it)) (λr s1=>∃u,r=aS u/\
   gn (hL P w) X.A (letOwnedTupleGo tg (.ref it) u) (λ_ s2=>∃x H',Inv X pins σ H' s2/\RelV x u/\J.yld i H x H'/\tn (i + 1) s2.heap/\∀b∈fp,H' b=eC) E s1) E s
 done:∀(X:Cx),X.prog=P->X.w=w->X.K=K->X.calm=true->∀(i:Nat) (pins:DC) (s:eL) (σ:St) (H:Hp) (E:DB),Inv X pins σ H s->(∀b∈fp,FpOk X pins H b)->tn i s.heap->J.stop i H->
  gn (hL P w) X.A (pyNext (.ref it)) (λr s1=>r=eC/\Inv X pins σ H s1) E s
 self:∀(A:u7) (i:Nat) (s:eL) (Q:DB) (E:DB),tn i s.heap->Q (.ref it) s->gn (hL P w) A (pyIter (.ref it)) Q E s
noncomputable abbrev TI:=St->Hp->(It->Hp->Prop)->Prop
def PIE (X:Cx) (pins:DC) (σ:St) (tg:x7) (R:It->Hp->Prop) (O:fC) (Y:eL):Prop:=
 ∃(it:eh) (fp:G') (ε:Nat->u2->Prop) (J:It) (H':Hp),O= .ref it/\Inv X pins σ H' Y/\Turn X.prog X.w X.K tg J fp it ε/\ε 0 Y.heap/\(∀b∈fp,FpOk X pins H' b)/\R J H'
def PI (X:Cx) (tg iter:x7) (O:TI):Prop:=
 ∀(pins:DC) (s:eL) (σ:St) (H:Hp) (R:It->Hp->Prop),Inv X pins σ H s->O σ H R->
  gn (hL X.prog X.w) X.A (eval iter X.env) (λv Y=>gn (hL X.prog X.w) X.A (pyIter v) (PIE X pins σ tg R) X.xe Y) X.xe s
theorem FC {M:Model} {A:u7} {E:DB} {s:eL} {tg:x7} {it:eh} {u:fC} {o:NJ} {n:Jy} {vs:Dz} {Q:F'} (ho:s.heap.get? it=aS o) (hc:o.cls= .type n) (hd:o.data= .fields vs)
  (hn:["enumerate","zip","dict_itemiterator","dict_reverseitemiterator","odict_iterator","itertools.zip_longest","itertools.pairwise"].contains n=false) (O:Q () s):gn M A (letOwnedTupleGo tg (.ref it) u) Q E s:=by
 unfold letOwnedTupleGo
 cases tg<;>first
  | exact eD O
  | (cases u<;>first
    | exact eD O
    | (refine aY (P1 ho ?_)
       rw[hc,hd];show gn M A (if (["enumerate","zip","dict_itemiterator","dict_reverseitemiterator","odict_iterator","itertools.zip_longest","itertools.pairwise"].contains n&&vs[0]? == aS (rawInt _))=true then _ else _) Q E s;rw[ko (by intro h;rw[hn,J9] at h;cases h)];exact eD O))
noncomputable def Itl (K:aT) (a:eh):It:=
 ⟨λi H=>∃xs x,SqL K H a xs/\xs[i]? =aS x,λi H x H'=>H'=H/\∀xs,SqL K H a xs->xs[i]? =aS x,λi H=>∃xs,SqL K H a xs/\xs.length<=i⟩
noncomputable def Itt (K:aT) (a:eh):It:=
 ⟨λi H=>∃xs x,SqT K H a xs/\xs[i]? =aS x,λi H x H'=>H'=H/\∀xs,SqT K H a xs->xs[i]? =aS x,λi H=>∃xs,SqT K H a xs/\xs.length<=i⟩
noncomputable def Itr (lo:Int) (n:Nat):It:=⟨λi _=>i < n,λi H x H'=>H'=H/\x= .int (lo + i),λi _=>n<=i⟩
theorem y6 {P:oe} {w:sb} {K:aT} {tg:x7} (a it:eh):Turn P w K tg (Itl K a) [it] it (λi h=>h.IsListIter it a i) where
 mem:=by simp
 obj:=λi h st b hb=>by
  have e:b=it:=by simpa using hb
  subst e;obtain⟨o,e,c,d⟩:=st;exact⟨o,e,λv z=>by rw[d] at z;cases z⟩
 keep:=λi h h' st k=>st.at λo e=>k it @E o e
 item:=by
  intro X ζ hw γ ν i pins s σ H E I hf st β;subst ζ hw γ;obtain⟨xs,x,Y,α⟩:=β;obtain⟨its,Z,p,hz⟩:=I.list Y;obtain⟨u,hu,π⟩:=Z.get α;obtain⟨η,ι,ο,θ,ε,δ⟩:=hf it @E;refine wpAny_pyNext_list_item st p.isList (x:=u) (by simpa using hu) λh' ω ξ=>?_;have O:Inv X pins σ H {s with heap:=h'}:=I.turned (t':=s.toks) (λb o hb e=>(ξ.2 b hb).trans e) η ι θ ε δ;obtain⟨o,e,c,d⟩:=id ω;exact⟨u,rfl,FC (s:={s with heap:=h'}) e c d @C ⟨x,H,O,π,⟨rfl,λys ρ=>by rw[I.list_inj ρ Y];exact α⟩,ω,λb hb=>(hf b hb).1⟩⟩
 done:=by
  intro X ζ hw γ ν i pins s σ H E I hf st β;subst ζ hw γ;obtain⟨xs,Y,α⟩:=β;obtain⟨its,Z,p,hz⟩:=I.list Y;obtain⟨η,ι,ο,θ,ε,δ⟩:=hf it @E;have hl:=Z.length;exact wpAny_pyNext_list_end (I.ok.hd ν) st p.isList (by simp;omega) λh' τ=>⟨rfl,I.turned (t':=s.toks) (λb o hb e=>τ b o hb e) η ι θ ε δ⟩
 self:=λ_ _ _ _ _ st h=>wpAny_pyIter_listiter st h
theorem xH {P:oe} {w:sb} {K:aT} {tg:x7} (a it:eh):Turn P w K tg (Itt K a) [it] it (λi h=>h.IsTupleIter it a i) where
 mem:=by simp
 obj:=λi h st b hb=>by
  have e:b=it:=by simpa using hb
  subst e;obtain⟨o,e,c,d⟩:=st;exact⟨o,e,λv z=>by rw[d] at z;cases z⟩
 keep:=λi h h' st k=>st.at λo e=>k it @E o e
 item:=by
  intro X ζ hw γ ν i pins s σ H E I hf st β;subst ζ hw γ;obtain⟨xs,x,Y,α⟩:=β;obtain⟨its,Z,p,hz⟩:=I.tuple Y;obtain⟨u,hu,π⟩:=Z.get α;obtain⟨η,ι,ο,θ,ε,δ⟩:=hf it @E;refine wpAny_pyNext_tuple_item st (show s.heap.IsTuple a its.toArray from p) (x:=u) (by simpa using hu) λh' ω ξ=>?_;have O:Inv X pins σ H {s with heap:=h'}:=I.turned (t':=s.toks) (λb o hb e=>(ξ.2 b hb).trans e) η ι θ ε δ;obtain⟨o,e,c,d⟩:=id ω;exact⟨u,rfl,FC (s:={s with heap:=h'}) e c d @C ⟨x,H,O,π,⟨rfl,λys ρ=>by rw[I.tuple_inj ρ Y];exact α⟩,ω,λb hb=>(hf b hb).1⟩⟩
 done:=by
  intro X ζ hw γ ν i pins s σ H E I hf st β;subst ζ hw γ;obtain⟨xs,Y,α⟩:=β;obtain⟨its,Z,p,hz⟩:=I.tuple Y;obtain⟨η,ι,ο,θ,ε,δ⟩:=hf it @E;have hl:=Z.length;exact wpAny_pyNext_tuple_end (I.ok.hd ν) st (show s.heap.IsTuple a its.toArray from p) (by simp;omega) λh' τ=>⟨rfl,I.turned (t':=s.toks) (λb o hb e=>τ b o hb e) η ι θ ε δ⟩
 self:=λ_ _ _ _ _ st h=>wpAny_pyIter_tupleiter st h
theorem xI {P:oe} {w:sb} {K:aT} {tg:x7} (it:eh) (lo:Int) (n:Nat):Turn P w K tg (Itr lo n) [it] it (λi h=>IsRangeIter h it (lo + (i:Nat) * 1) ((n:Int) - (i:Nat)) 1) where
 mem:=by simp
 obj:=λi h st b hb=>by
  have e:b=it:=by simpa using hb
  subst e
  exact⟨_,st,λv z=>by
   have θ:Data.fields _=Mc v:=z;cases θ⟩
 keep:=λi h h' st k=>k it @E _ st
 item:=by
  intro X ζ hw α Z i pins s σ H E I hf st Y;subst ζ hw α;obtain⟨η,ε,ο,δ,γ,β⟩:=hf it @E;have W:=Walks.range (prog:=X.prog) (w:=X.w) (I.ok.hd Z) it lo 1 n;refine W.item i s _ _ Y st λv h' tk ι ω O=>?_;obtain⟨t,rfl⟩:=ι;have ξ:Inv X pins σ H {s with heap:=h',toks:=tk}:=I.turned (λb o hb e=>O b o (by simpa using hb) e) η ε δ γ β;refine⟨_,rfl,FC (s:={s with heap:=h',toks:=tk}) (n:="range_iterator") ω rfl rfl @C ⟨.int (lo + i),H,ξ,⟨t,?_⟩,⟨rfl,rfl⟩,ω,λb hb=>(hf b hb).1⟩⟩;rw[Int.mul_one]
 done:=by
  intro X ζ hw α Z i pins s σ H E I hf st Y;subst ζ hw α;obtain⟨η,ε,ο,δ,γ,β⟩:=hf it @E;exact wpAny_pyNext_range_end (I.ok.hd Z) st (by have:n<=i:=Y;omega) λh' ν=>⟨rfl,I.turned (t':=s.toks) (λb o hb e=>ν b o hb e) η ε δ γ β⟩
 self:=λ_ _ _ _ _ st h=>wpAny_pyIter_rangeiter st h
section
variable {X:Cx} {tg:x7}
noncomputable abbrev Hs (K:aT) (tl:TE):TI:=fun σ H R=>tl σ H λx H1=>∃a,x= .ref a/\(∃xs,SqL K H1 a xs)/\R (Itl K a) H1
noncomputable abbrev iTup (K:aT) (tl:TE):TI:=fun σ H R=>tl σ H λx H1=>∃a,x= .ref a/\(∃xs,SqT K H1 a xs)/\R (Itt K a) H1
theorem E4 {l:x7} {tl:TE} (hl:PE X l tl):PI X tg l (Hs X.K tl):=by
 intro pins s σ H R I h;refine thn (hl pins s σ H _ I h) λv O ⟨x,H1,I1,Y,Z⟩=>?_;obtain⟨a,e,⟨xs,α⟩,q⟩:=Z;subst e;cases Y;obtain⟨its,β,p,hz⟩:=I1.list α;refine O4 p.isList ?_;refine⟨O.heap.objs.size,[O.heap.objs.size],_,_,H1,rfl,I1.kept (t':=O.toks) λb o e=>en _ e,y6 a _,⟨_,hG _ rfl,rfl,rfl⟩,λb hb=>?_,q⟩;have e:b=O.heap.objs.size:=by simpa using hb
 subst e;exact I1.fpOk (mu _) (I1.hok.fresh (mu _))
theorem G1 {l:x7} {tl:TE} (hl:PE X l tl):PI X tg l (iTup X.K tl):=by
 intro pins s σ H R I h;refine thn (hl pins s σ H _ I h) λv O ⟨x,H1,I1,Y,Z⟩=>?_;obtain⟨a,e,⟨xs,α⟩,q⟩:=Z;subst e;cases Y;obtain⟨its,β,p,hz⟩:=I1.tuple α;refine Mx (show O.heap.IsTuple a its.toArray from p) ?_;refine⟨O.heap.objs.size,[O.heap.objs.size],_,_,H1,rfl,I1.kept (t':=O.toks) λb o e=>en _ e,xH a _,⟨_,hG _ rfl,rfl,rfl⟩,λb hb=>?_,q⟩;have e:b=O.heap.objs.size:=by simpa using hb
 subst e;exact I1.fpOk (mu _) (I1.hok.fresh (mu _))
theorem BS {pins:DC} {σ:St} {H:Hp} {s:eL} {R:It->Hp->Prop} {E:DB} {lo hi:Int} {t u v:Tok} {tk:Nat} (I:Inv X pins σ H s) (h1: -(2 ^ 62)<=lo) (h2:lo < 2 ^ 62) (h3: -(2 ^ 62)<=hi) (O:hi < 2 ^ 62)
  (q:R (Itr lo (hi - lo).toNat) H):gn (hL X.prog X.w) X.A (pyIter (.ref s.heap.objs.size)) (PIE X pins σ tg R) E {s with heap:=s.heap.push {cls:= .type "range",data:= .fields #[.int lo t,.int hi u,.int 1 v]},toks:=tk}:=by
 refine wpAny_pyIter_range (OK ..) (small_one h1 h2 h3 O) ?_;have I1:Inv X pins σ H {s with heap:=s.heap.push {cls:= .type "range",data:= .fields #[.int lo t,.int hi u,.int 1 v]},toks:=tk}:=I.kept λb o e=>en _ e
 refine⟨(s.heap.push {cls:= .type "range",data:= .fields #[.int lo t,.int hi u,.int 1 v]}).objs.size,[(s.heap.push {cls:= .type "range",data:= .fields #[.int lo t,.int hi u,.int 1 v]}).objs.size],_,_,H,rfl,
  I1.kept (t':=tk) λb o e=>en _ e,xI _ lo (hi - lo).toNat,?_,λb hb=>?_,q⟩
 ·have e1:lo + ((0:Nat):Int) * 1=lo:=by simp
  have Y:(((hi - lo).toNat:Nat):Int) - ((0:Nat):Int)=M8 lo hi 1:=by rw[Pk];split<;>omega
  show IsRangeIter _ _ (lo + ((0:Nat):Int) * 1) ((((hi - lo).toNat:Nat):Int) - ((0:Nat):Int)) 1;rw[e1,Y];exact hG _ rfl
 ·have e:b=(s.heap.push {cls:= .type "range",data:= .fields #[.int lo t,.int hi u,.int 1 v]}).objs.size:=by simpa using hb
  subst e;exact I1.fpOk (mu _) (I1.hok.fresh (mu _))
noncomputable abbrev IY (ta:TA):TI:=fun σ H R=>ta σ H λvs H1=>∃j:Int,vs=[.int j]/\-(2 ^ 62)<=j/\j < 2 ^ 62/\R (Itr 0 j.toNat) H1
theorem b0 {a:x7} {ta:TA} {p pos:Pos} (β:Gl X "range") (hm:X.mg "range"=eC) (ha:PA X [a] ta) (hs:lx [a] X.env=[(false,eval a X.env)]:=by rfl):PI X tg (.Call (.Name "range" p) [a] [] pos) (IY ta):=by
 intro pins s σ H R I h;refine OY (iC I β hm QB (wh (thn (ha pos pins s σ H _ I h) λus γ ⟨vs,H1,O,α,Y⟩=>?_) hs rfl));obtain⟨j,e,Y,ε,q⟩:=Y;subst e;cases α with
 | cons r Z=>
   cases Z;obtain⟨t,rfl⟩:=r;exact PJ (BS O @A @A Y ε (by simpa using q))
noncomputable def tFor (Y:TI) (g:TG) (tb:TS):TS:=λD σ H=>Y σ H λJ H1=>∃W:Nat->Nat->St->Hp->Prop,(∃m,W 0 m σ H1)/\∀i m σ H,W i m σ H->
 (J.stop i H/\D.nx σ H)∨(J.go i H/\∃N:St->Hp->Prop,(∀σ' H',N σ' H'->∃O,O < m/\W (i + 1) O σ' H')/\∀x H',J.yld i H x H'->g x σ H' fun ω H2=>tb {D with nx:=N,ct:=N,bk:=D.nx} ω H2)
noncomputable def rh (fp:G') (h:u2):DC:=fp.filterMap λb=>(h.get? b).map λo=>(b,o)
theorem gT {fp:G'} {h:u2} {b:eh} {o:NJ} (hb:b∈fp) (e:h.get? b=aS o):(b,o)∈rh fp h:=Ng.mpr ⟨b,hb,by rw[e];rfl⟩
theorem z8 {fp:G'} {h:u2} {p:eh×NJ} (hp:p∈rh fp h):p.1∈fp/\h.get? p.1=aS p.2:=by
 obtain⟨b,hb,e⟩:=Ng.mp hp;cases q:h.get? b with
 | none=>rw[q] at e;cases e
 | some o=>
   rw[q] at e;have θ:(b,o)=p:=iv e;subst θ;exact⟨hb,q⟩
theorem Inv.pinned {pins:DC} {σ:St} {H:Hp} {s:eL} {fp:G'} (I:Inv X pins σ H s) (hf:∀b∈fp,FpOk X pins H b) (ho:∀b∈fp,∃o,s.heap.get? b=aS o/\∀v,o.data≠.cell v):Inv X (pins++rh fp s.heap) σ H s:=
 I.pins_of λp hp=>(lh.mp hp).elim (λz=>I.pin p (j' _ z)) λz=>by
  obtain⟨hb,e⟩:=z8 z;obtain⟨η,O,ο,_⟩:=hf p.1 hb;obtain⟨o,θ,d⟩:=ho p.1 hb;rw[e] at θ;cases θ;exact⟨e,η,O,ο,d⟩
theorem Inv.unpinned {pins pl:DC} {σ:St} {H:Hp} {s:eL} (I:Inv X (pins++pl) σ H s):Inv X pins σ H s:=I.pins_of λp hp=>I.pin p (j' _ (oD _ hp))
theorem dS {iter:x7} {body:eA Lv} {wi:TI} {g:TG} {tb:TS} {pos:Pos} (hp:PassesOwn (hL X.prog X.w) X.A X.env X.xe) (hc:X.calm=true) (hi:PI X tg iter wi) (hg:PG X tg g) (hb:PSs X body tb)
  (hs:∀x,foldedSetIterable iter X.env x=pure x:=by intro _;rfl):PS X (.For tg iter body [] pos) (tFor wi g tb):=by
 intro pins s σ H D I h;refine wpAny_For (thn (hi pins s σ H _ I h) λv s1 h1=>thn h1 λa3 s2 h2=>?_) hs;obtain⟨it,fp,ε,J,H2,e,I2,T,ξ,ο,W,⟨m0,w0⟩,π⟩:=h2;subst e;have β:∀{H':Hp},(∀b∈fp,H' b=eC)->∀b∈fp,FpOk X pins H' b:=λhn b hb=>⟨hn b hb,(ο b hb).2⟩;refine codeAny_forLoop_any (λn s'=>∃i σ' H',Inv X pins σ' H' s'/\ε i s'.heap/\(∀b∈fp,H' b=eC)/\W i n σ' H') ?_ m0 ⟨0,σ,H2,I2,ξ,λb hb=>(ο b hb).1,w0⟩;rintro n s3 ⟨i,O,φ,I3,ρ,υ,w3⟩;rcases π i n O φ w3 with ⟨stop,qn⟩ | ⟨go,N,hN,step⟩
 ·refine Le hp (thn (T.done X rfl rfl rfl hc i pins s3 O φ X.xe I3 (β υ) ρ stop) λr s4 ⟨ω,I4⟩=>?_);subst ω;exact N4 ⟨O,φ,I4,qn⟩
 ·refine Le hp (thn (T.item X rfl rfl rfl hc i pins s3 O φ X.xe I3 (β υ) ρ go) λr s4 ⟨u,ω,h4⟩=>?_);subst ω;refine Le hp (thn h4 λ_ s5 ⟨x,α,I5,r5,γ,ι,a0⟩=>?_);have Y:=I5.pinned (β a0) (T.obj _ _ ι);refine Le hp (thn (hg _ s5 O α x u _ Y r5 (step x α γ)) λ_ s6 ⟨χ,H6,ζ,Z⟩=>?_);refine Le hp (thn (hb _ s6 χ H6 _ ζ Z) λf ψ θ=>?_)
  have again:∀{ν:St} {η:Hp},Inv X (pins++rh fp s5.heap) ν η ψ->N ν η->∃m,m < n/\∃i σ' H',Inv X pins σ' H' ψ/\ε i ψ.heap/\(∀b∈fp,H' b=eC)/\W i m σ' H':=λ{ν η} I7 τ=>by
   obtain⟨m',hm,w7⟩:=hN ν η τ;refine⟨m',hm,i + 1,ν,η,I7.unpinned,T.keep _ _ _ ι λb hb o e=>(I7.pin (b,o) (j' _ (j' _ (gT hb e)))).1,λb hb=>?_,w7⟩;obtain⟨o,e,d⟩:=T.obj _ _ ι b hb;exact(I7.pin (b,o) (j' _ (j' _ (gT hb e)))).2.1
  cases f with
  | next=>obtain⟨ν,η,I7,τ⟩:=θ;exact again I7 τ
  | cont=>obtain⟨ν,η,I7,τ⟩:=θ;exact again I7 τ
  | brk=>obtain⟨ν,η,I7,θ⟩:=θ;exact⟨ν,η,I7.unpinned,θ⟩
  | ret v=>obtain⟨δ,ν,η,I7,r7,θ⟩:=θ;exact⟨δ,ν,η,I7.unpinned,r7,θ⟩
end
theorem iE {K:aT} {a:eh} {xs:eA V} {g:TG} {tb:TS} {D:Ends} {σ:St} {H:Hp} (O:Nat->St->Hp->Prop) (h0:O 0 σ H) (hl:∀i σ H,i<=xs.length->O i σ H->SqL K H a xs)
  (hs:∀i x σ H,xs[i]? =aS x->O i σ H->g x σ H fun ω H2=>tb {D with nx:=O (i + 1),ct:=O (i + 1),bk:=D.nx} ω H2) (hd:∀σ H,O xs.length σ H->D.nx σ H):
  ∃W:Nat->Nat->St->Hp->Prop,(∃m,W 0 m σ H)/\∀i m σ H,W i m σ H->
    ((Itl K a).stop i H/\D.nx σ H)∨((Itl K a).go i H/\∃N:St->Hp->Prop,(∀σ' H',N σ' H'->∃Z,Z < m/\W (i + 1) Z σ' H')/\∀x H',(Itl K a).yld i H x H'->g x σ H' fun ω H2=>tb {D with nx:=N,ct:=N,bk:=D.nx} ω H2):=by
 refine⟨λi m σ H=>m=xs.length - i/\i<=xs.length/\O i σ H,⟨xs.length,@E,Ka _,h0⟩,?_⟩;rintro i m σ H ⟨rfl,hi,p⟩;have q:=hl i σ H hi p;by_cases Y:i < xs.length
 ·refine .inr ⟨⟨xs,xs[i],q,by simp[Y]⟩,O (i + 1),fun σ' H' α=>⟨xs.length - (i + 1),by omega,rfl,Y,α⟩,λx H' y=>?_⟩;obtain⟨e,y⟩:=y;subst e;exact hs i x σ _ (y xs q) p
 ·have e:i=xs.length:=by omega
  subst e;exact .inl ⟨⟨xs,q,mu _⟩,hd σ H p⟩
theorem FK {K:aT} {a:eh} {xs:eA V} {g:TG} {tb:TS} {D:Ends} {σ:St} {H:Hp} (O:Nat->St->Hp->Prop) (h0:O 0 σ H) (hl:∀i σ H,i<=xs.length->O i σ H->SqT K H a xs)
  (hs:∀i x σ H,xs[i]? =aS x->O i σ H->g x σ H fun ω H2=>tb {D with nx:=O (i + 1),ct:=O (i + 1),bk:=D.nx} ω H2) (hd:∀σ H,O xs.length σ H->D.nx σ H):
  ∃W:Nat->Nat->St->Hp->Prop,(∃m,W 0 m σ H)/\∀i m σ H,W i m σ H->
    ((Itt K a).stop i H/\D.nx σ H)∨((Itt K a).go i H/\∃N:St->Hp->Prop,(∀σ' H',N σ' H'->∃Z,Z < m/\W (i + 1) Z σ' H')/\∀x H',(Itt K a).yld i H x H'->g x σ H' fun ω H2=>tb {D with nx:=N,ct:=N,bk:=D.nx} ω H2):=by
 refine⟨λi m σ H=>m=xs.length - i/\i<=xs.length/\O i σ H,⟨xs.length,@E,Ka _,h0⟩,?_⟩;rintro i m σ H ⟨rfl,hi,p⟩;have q:=hl i σ H hi p;by_cases Y:i < xs.length
 ·refine .inr ⟨⟨xs,xs[i],q,by simp[Y]⟩,O (i + 1),fun σ' H' α=>⟨xs.length - (i + 1),by omega,rfl,Y,α⟩,λx H' y=>?_⟩;obtain⟨e,y⟩:=y;subst e;exact hs i x σ _ (y xs q) p
 ·have e:i=xs.length:=by omega
  subst e;exact .inl ⟨⟨xs,q,mu _⟩,hd σ H p⟩
theorem gx {lo:Int} {n:Nat} {g:TG} {tb:TS} {D:Ends} {σ:St} {H:Hp} (Y:Nat->St->Hp->Prop) (h0:Y 0 σ H)
  (hs:∀i σ H,i < n->Y i σ H->g (.int (lo + i)) σ H fun ω H2=>tb {D with nx:=Y (i + 1),ct:=Y (i + 1),bk:=D.nx} ω H2) (hd:∀σ H,Y n σ H->D.nx σ H):
  ∃W:Nat->Nat->St->Hp->Prop,(∃m,W 0 m σ H)/\∀i m σ H,W i m σ H->
    ((Itr lo n).stop i H/\D.nx σ H)∨((Itr lo n).go i H/\∃N:St->Hp->Prop,(∀σ' H',N σ' H'->∃Z,Z < m/\W (i + 1) Z σ' H')/\∀x H',(Itr lo n).yld i H x H'->g x σ H' fun ω H2=>tb {D with nx:=N,ct:=N,bk:=D.nx} ω H2):=by
 refine⟨λi m σ H=>m=n - i/\i<=n/\Y i σ H,⟨n,@E,Ka _,h0⟩,?_⟩;rintro i m σ H ⟨rfl,hi,p⟩;by_cases O:i < n
 ·refine .inr ⟨O,Y (i + 1),fun σ' H' α=>⟨n - (i + 1),by omega,rfl,O,α⟩,λx H' y=>?_⟩;obtain⟨e,y⟩:=y;subst e y;exact hs i σ _ O p
 ·have e:i=n:=by omega
  subst e;exact .inl ⟨mu _,hd σ H p⟩
noncomputable abbrev R2:=V->V->Hp->VK->Prop
def OpR (X:Cx) (f:fC->fC->Sem fC) (r:R2):Prop:=
 ∀(pins:DC) (s:eL) (σ:St) (H:Hp) (x y:V) (v u:fC) (Q:VK),Inv X pins σ H s->RelV x v->RelV y u->r x y H Q->
  gn (hL X.prog X.w) X.A (f v u) (EP X pins σ Q) X.xe s
def mL (X:Cx) (f:fC) (r:eA V->Hp->VK->Prop):Prop:=
 ∀(pins:DC) (s:eL) (σ:St) (H:Hp) (xs:eA V) (us:Dd) (Q:VK),Inv X pins σ H s->Vals xs us->r xs H Q->
  gn (hL X.prog X.w) X.A (call f us) (EP X pins σ Q) X.xe s
noncomputable abbrev tOp (r:R2) (ta tb:TE):TE:=fun σ H Q=>ta σ H λx H1=>tb σ H1 λy H2=>r x y H2 Q
noncomputable def rI (C:Int->Int->Prop) (g:Int->Int->V):R2:=λx y H Q=>∃i j,x= .int i/\y= .int j/\C i j/\Q (g i j) H
noncomputable def rI0 (g:Int->Int->V):R2:=λx y H Q=>∃i j,x= .int i/\y= .int j/\Q (g i j) H
section
variable {X:Cx} {a b c:x7} {ta tb tc:TE} {pos:Pos}
theorem binT (ha:PE X a ta) (hb:PE X b tb) {pins:DC} {s:eL} {σ:St} {H:Hp} {R:V->V->Hp->Prop} (I:Inv X pins σ H s)
  (h:ta σ H λx H1=>tb σ H1 λy H2=>R x y H2) {Q:DB} {f:fC->fC->Sem fC}
  (hf:∀v u Z x y H2,Inv X pins σ H2 Z->RelV x v->RelV y u->R x y H2->gn (hL X.prog X.w) X.A (f v u) Q X.xe Z):
  gn (hL X.prog X.w) X.A (eval a X.env) (λv Y=>gn (hL X.prog X.w) X.A (eval b X.env) (λu ξ=>gn (hL X.prog X.w) X.A (f v u) Q X.xe ξ) X.xe Y) X.xe s:=by
 refine thn (ha pins s σ H _ I h) λv α ⟨x,H1,O,γ,δ⟩=>?_;refine thn (hb pins α σ H1 _ O δ) λu Z ⟨y,H2,ζ,β,ε⟩=>?_;exact hf v u Z x y H2 ζ γ β ε
theorem ao {O:Operator} {r:R2} (ho:OpR X (binaryOp O) r) (ha:PE X a ta) (hb:PE X b tb):PE X (.BinOp a O b pos) (tOp r ta tb):=by
 intro pins s σ H Q I h;exact wpAny_BinOp (binT ha hb I h λv u Y x y H2 β α Z q=>ho pins Y σ H2 x y v u Q β α Z q)
theorem opI {f:fC->fC->Sem fC} {C:Int->Int->Prop} {g:Int->Int->Int}
  (rule:∀(i j:Int) (t u:Tok) (s:eL) (Q:DB) (E:DB),C i j->Q (.int (g i j) s.toks) {s with toks:=s.toks + 1}->gn (hL X.prog X.w) X.A (f (.int i t) (.int j u)) Q E s):
  OpR X f (rI C λi j=> .int (g i j)):=by
 intro pins s σ H x y v u Q I Y O h;obtain⟨i,j,rfl,rfl,Z,q⟩:=h;obtain⟨t,rfl⟩:=Y;obtain⟨t',rfl⟩:=O;exact rule i j t t' s _ _ Z ⟨.int (g i j),H,I.tok _,⟨_,rfl⟩,q⟩
theorem opI0 {f:fC->fC->Sem fC} {g:Int->Int->Int}
  (rule:∀(i j:Int) (t u:Tok) (s:eL) (Q:DB) (E:DB),Q (.int (g i j) s.toks) {s with toks:=s.toks + 1}->gn (hL X.prog X.w) X.A (f (.int i t) (.int j u)) Q E s):
  OpR X f (rI0 λi j=> .int (g i j)):=by
 intro pins s σ H x y v u Q I Y O h;obtain⟨i,j,rfl,rfl,q⟩:=h;obtain⟨t,rfl⟩:=Y;obtain⟨t',rfl⟩:=O;exact rule i j t t' s _ _ ⟨.int (g i j),H,I.tok _,⟨_,rfl⟩,q⟩
theorem opB0 {f:fC->fC->Sem fC} {g:Int->Int->JC}
  (rule:∀(i j:Int) (t u:Tok) (s:eL) (Q:DB) (E:DB),Q (.bool (g i j)) s->gn (hL X.prog X.w) X.A (f (.int i t) (.int j u)) Q E s):
  OpR X f (rI0 λi j=> .bl (g i j)):=by
 intro pins s σ H x y v u Q I Y O h;obtain⟨i,j,rfl,rfl,q⟩:=h;obtain⟨t,rfl⟩:=Y;obtain⟨t',rfl⟩:=O;exact rule i j t t' s _ _ ⟨.bl (g i j),H,I,rfl,q⟩
def CDiv (i j:Int):Prop:=0 < j/\j < 1073741824
def Jj (i j:Int):Prop:=j≠0/\j.natAbs < 1073741824
def CPow (i j:Int):Prop:=0<=j/\j<=1000000/\i.natAbs < 2 ^ 64
def CMul (i j:Int):Prop:=(-(2 ^ 64) < i/\i < 2 ^ 64)∨(-(2 ^ 64) < j/\j < 2 ^ 64)
theorem CMul.ok {i j:Int} (h:CMul i j):IntMulOk i j:=by
 rcases h with ⟨h1,h2⟩ | ⟨h1,h2⟩
 ·exact .of_left (intBits_le_64 h1 h2)
 ·exact .of_right (intBits_le_64 h1 h2)
theorem xG (k:Nat):(0:Int)<=2 ^ k:=by
 rw[two_pow_cast];exact Nq _
theorem bC:OpR X (binaryOp .Add) (rI0 λi j=> .int (i + j)):=opI0 λ_ _ _ _ _ _ _ q=>add_int q
theorem kL:OpR X (binaryOp .Sub) (rI0 λi j=> .int (i - j)):=opI0 λ_ _ _ _ _ _ _ q=>sub_int q
theorem o6:OpR X (binaryOp .Mult) (rI CMul λi j=> .int (i * j)):=opI λ_ _ _ _ _ _ _ hc q=>mul_int q hc.ok
theorem fm:OpR X (binaryOp .FloorDiv) (rI CDiv λi j=> .int (i / j)):=opI λi j _ _ _ _ _ hc q=>by
 have h1:(0:Int) < j:=hc.1;have h2:j < 1073741824:=hc.2;exact floordiv_int @A (by rw[Os i @A];exact q) (.inl (PyProof.noPylong_small @A))
theorem bP:OpR X (binaryOp .Mod) (rI (λ_ j=>0 < j) λi j=> .int (i % j)):=opI λi j _ _ _ _ _ hc q=>by
 have h1:(0:Int) < j:=hc;exact mod_int' @A (by rw[Int.fmod_eq_emod_of_nonneg i @A];exact q)
theorem bM:OpR X (binaryOp .LShift) (rI CPow λi j=> .int (i * 2 ^ j.toNat)):=opI λ_ _ _ _ _ _ _ hc q=>lshift_int_small hc.1 hc.2.1 hc.2.2 q
theorem l8:OpR X (binaryOp .RShift) (rI (λ_ j=>0<=j) λi j=> .int (i / 2 ^ j.toNat)):=opI λi j _ _ _ _ _ hc q=>
 rshift_int hc (by rw[Os i (xG _)];exact q)
theorem dY:OpR X (binaryOp .BitAnd) (rI0 λi j=> .int (KM i j)):=opI0 λ_ _ _ _ _ _ _ q=>and_int q
theorem G8:OpR X (binaryOp .BitOr) (rI0 λi j=> .int (O9 i j)):=opI0 λ_ _ _ _ _ _ _ q=>or_int q
theorem iV:OpR X (binaryOp .BitXor) (rI0 λi j=> .int (MM i j)):=opI0 λ_ _ _ _ _ _ _ q=>xor_int q
end
noncomputable def scal:V->V->JC
 | .non,.non=>true | .non,.int _=>true | .int _,.non=>true | .non,.bl _=>true | .bl _,.non=>true | .non,.str _=>true | .str _,.non=>true
 | .int _,.int _=>true | .bl _,.bl _=>true | .str _,.str _=>true | .byt _,.byt _=>true
 | .int _,.str _=>true | .str _,.int _=>true | .bl _,.str _=>true | .str _,.bl _=>true
 | _,_=>false
noncomputable def rEq:R2:=λx y H Q=>scal x y=true/\Q (.bl (decide (x=y))) H
noncomputable def rNe:R2:=λx y H Q=>scal x y=true/\Q (.bl (!decide (x=y))) H
theorem AY {i j:Int}:decide (V.int i=V.int j)=(i == j):=by
 rw[Lw];simp
theorem DP {i j:JC}:decide (V.bl i=V.bl j)=(i == j):=by
 rw[Lw];simp
theorem AX {i j:u3}:decide (V.str i=V.str j)=(i == j):=by
 rw[Lw];simp
theorem AZ {i j:JZ UInt8}:decide (V.byt i=V.byt j)=(i.toList == j.toList):=by
 rw[Lw];cases i;cases j;simp
section
variable {X:Cx} {a b c:x7} {ta tb tc:TE} {pos:Pos}
theorem bU {pins:DC} {σ:St} {H:Hp} {s:eL} {Q:VK} {k O:JC} (I:Inv X pins σ H s) (q:Q (.bl k) H) (e:k=O):EP X pins σ Q (.bool O) s:=by
 subst e;exact⟨.bl k,H,I,rfl,q⟩
theorem iu:OpR X (compareOp .Eq) rEq:=by
 intro pins s σ H x y v u Q I Y O h;obtain⟨hs,q⟩:=h;cases x with
 | non=>
   cases Y;cases y with
   | non=>cases O;exact PySem.EqNone.eq_none_none (bU I q @E)
   | bl j=>cases O;exact PySem.EqNone.eq_none_bool (bU I q @E)
   | int j=>obtain⟨t',rfl⟩:=O;exact PySem.EqNone.eq_none_int (bU I q @E)
   | str j=>obtain⟨t',rfl⟩:=O;exact PySem.EqNone.eq_none_str (bU I q @E)
   | _=>exact gd (show false=true from hs) hC
 | bl i=>
   cases Y;cases y with
   | non=>cases O;exact PySem.EqNone.eq_bool_none (bU I q @E)
   | bl j=>cases O;exact eq_bool (bU I q DP)
   | str j=>obtain⟨t',rfl⟩:=O;exact PySem.EqMixed.eq_bool_str (bU I q @E)
   | _=>exact gd (show false=true from hs) hC
 | int i=>
   obtain⟨t,rfl⟩:=Y;cases y with
   | non=>cases O;exact PySem.EqNone.eq_int_none (bU I q @E)
   | int j=>obtain⟨t',rfl⟩:=O;exact eq_int (bU I q AY)
   | str j=>obtain⟨t',rfl⟩:=O;exact PySem.EqMixed.eq_int_str (bU I q @E)
   | _=>exact gd (show false=true from hs) hC
 | str i=>
   obtain⟨t,rfl⟩:=Y;cases y with
   | non=>cases O;exact PySem.EqNone.eq_str_none (bU I q @E)
   | bl j=>cases O;exact PySem.EqMixed.eq_str_bool (bU I q @E)
   | int j=>obtain⟨t',rfl⟩:=O;exact PySem.EqMixed.eq_str_int (bU I q @E)
   | str j=>obtain⟨t',rfl⟩:=O;exact eq_str (bU I q AX)
   | _=>exact gd (show false=true from hs) hC
 | byt i=>
   obtain⟨t,rfl⟩:=Y;cases y with
   | byt j=>obtain⟨t',rfl⟩:=O;exact PySem.W.eq_bytes (bU I q AZ)
   | _=>exact gd (show false=true from hs) hC
 | _=>cases y<;>exact gd (show false=true from hs) hC
theorem kH:OpR X (compareOp .NotEq) rNe:=by
 intro pins s σ H x y v u Q I Y O h;obtain⟨hs,q⟩:=h;cases x with
 | non=>
   cases Y;cases y with
   | non=>cases O;exact PySem.EqNone.ne_none_none (bU I q @E)
   | bl j=>cases O;exact PySem.EqNone.ne_none_bool (bU I q @E)
   | int j=>obtain⟨t',rfl⟩:=O;exact PySem.EqNone.ne_none_int (bU I q @E)
   | str j=>obtain⟨t',rfl⟩:=O;exact PySem.EqNone.ne_none_str (bU I q @E)
   | _=>exact gd (show false=true from hs) hC
 | bl i=>
   cases Y;cases y with
   | non=>cases O;exact PySem.EqNone.ne_bool_none (bU I q @E)
   | bl j=>cases O;exact ne_bool (bU I q (y' not DP))
   | str j=>obtain⟨t',rfl⟩:=O;exact PySem.EqMixed.ne_bool_str (bU I q @E)
   | _=>exact gd (show false=true from hs) hC
 | int i=>
   obtain⟨t,rfl⟩:=Y;cases y with
   | non=>cases O;exact PySem.EqNone.ne_int_none (bU I q @E)
   | int j=>obtain⟨t',rfl⟩:=O;exact ne_int (bU I q (y' not AY))
   | str j=>obtain⟨t',rfl⟩:=O;exact PySem.EqMixed.ne_int_str (bU I q @E)
   | _=>exact gd (show false=true from hs) hC
 | str i=>
   obtain⟨t,rfl⟩:=Y;cases y with
   | non=>cases O;exact PySem.EqNone.ne_str_none (bU I q @E)
   | bl j=>cases O;exact PySem.EqMixed.ne_str_bool (bU I q @E)
   | int j=>obtain⟨t',rfl⟩:=O;exact PySem.EqMixed.ne_str_int (bU I q @E)
   | str j=>obtain⟨t',rfl⟩:=O;exact ne_str (bU I q (y' not AX))
   | _=>exact gd (show false=true from hs) hC
 | byt i=>
   obtain⟨t,rfl⟩:=Y;cases y with
   | byt j=>obtain⟨t',rfl⟩:=O;exact PySem.W.ne_bytes (bU I q (y' not AZ))
   | _=>exact gd (show false=true from hs) hC
 | _=>cases y<;>exact gd (show false=true from hs) hC
theorem zZ:OpR X (compareOp .Lt) (rI0 λi j=> .bl (decide (i < j))):=opB0 λ_ _ _ _ _ _ _ q=>lt_int q
theorem Fb:OpR X (compareOp .LtE) (rI0 λi j=> .bl (decide (i<=j))):=opB0 λ_ _ _ _ _ _ _ q=>le_int q
theorem o7:OpR X (compareOp .Gt) (rI0 λi j=> .bl (decide (j < i))):=opB0 λ_ _ _ _ _ _ _ q=>gt_int q
theorem Ha:OpR X (compareOp .GtE) (rI0 λi j=> .bl (decide (j<=i))):=opB0 λ_ _ _ _ _ _ _ q=>ge_int q
theorem z6:OpR X (compareOp .Is) (λx y H Q=>y= .non/\Q (.bl (decide (x= .non))) H):=by
 intro pins s σ H x y v u Q I O Y h;obtain⟨rfl,q⟩:=h;cases Y;refine is_none_gen (bU I q ?_)
 cases x<;>first
  | (cases O;rfl)
  | (obtain⟨t,rfl⟩:=O;rfl)
theorem vI:OpR X (compareOp .IsNot) (λx y H Q=>y= .non/\Q (.bl (!decide (x= .non))) H):=by
 intro pins s σ H x y v u Q I O Y h;obtain⟨rfl,q⟩:=h;cases Y;refine isnot_none_gen (bU I q ?_)
 cases x<;>first
  | (cases O;rfl)
  | (obtain⟨t,rfl⟩:=O;rfl)
theorem aG (b:x7) {O:CmpOp} (h:O≠.In:=by decide) (h2:O≠.NotIn:=by decide):behindInMarks O b=false:=by
 have e1:(O == CmpOp.In)=false:=by cases O<;>first | rfl | exact gd rfl h
 have Y:(O == CmpOp.NotIn)=false:=by cases O<;>first | rfl | exact gd rfl h2
 cases b<;>simp[behindInMarks,e1,Y]
theorem gF {O:CmpOp} {r:R2} (ho:OpR X (compareOp O) r) (ha:PE X a ta) (hb:PE X b tb) (hm:behindInMarks O b=false):PE X (.Compare a [O] [b] pos) (tOp r ta tb):=by
 intro pins s σ H Q I h;exact wpAny_Compare1 (binT ha hb I h λv u Y x y H2 β α Z q=>ho pins Y σ H2 x y v u Q β α Z q) hm
noncomputable abbrev F8 (t:TE):TT:=fun σ H Q=>t σ H λx H'=>∃k,x= .bl k/\Q k H'
theorem aA {Y:CmpOp} {r:R2} (ho:OpR X (compareOp Y) r) (ha:PE X a ta) (hb:PE X b tb) (hm:behindInMarks Y b=false):PT X (.Compare a [Y] [b] pos) (F8 (tOp r ta tb)):=by
 intro pins s σ H Q I h
 refine Q2 (thn (ha pins s σ H _ I h) λv α ⟨x,H1,O,δ,η⟩=>thn (hb pins α σ H1 _ O η) λu Z ⟨y,H2,ι,γ,ε⟩=>
  thn (ho pins Z σ H2 x y v u _ ι δ γ ε) λc ξ ⟨z,ν,θ,β,k,e,ζ⟩=>?_) hm
 subst e;cases β;exact Kl ⟨ν,θ,ζ⟩
noncomputable abbrev Gf (r r':R2) (ta tb tc:TE):TE:=fun σ H Q=>ta σ H λx H1=>tb σ H1 λy H2=>r x y H2 λz O=>∃k,z= .bl k/\
 (if k=true then tc σ O fun δ Z=>r' y δ Z Q else Q (.bl false) O)
theorem wZ {β Y:CmpOp} {r r':R2} (ho:OpR X (compareOp β) r) (ζ:OpR X (compareOp Y) r') (ha:PE X a ta) (hb:PE X b tb) (hc:PE X c tc)
  (hm:lastMarks [β,Y] [b,c]=false:=by with_unfolding_all rfl):PT X (.Compare a [β,Y] [b,c] pos) (F8 (Gf r r' ta tb tc)):=by
 intro pins s σ H Q I h
 refine isTrue_chain (thn (ha pins s σ H _ I h) λv χ ⟨x,H1,O,r1,q1⟩=>test_link (thn (hb pins χ σ H1 _ O q1) λu φ ⟨y,H2,I2,ι,ε⟩=>
  thn (ho pins φ σ H2 x y v u _ I2 r1 ι ε) λd υ ⟨z,π,ο,r3,k,e,ξ⟩=>?_)) hm
 subst e;cases r3;refine Kl ?_;cases k with
 | false=>
   obtain⟨k',θ,q'⟩:=ξ;cases θ;exact ite_ff ⟨π,ο,q'⟩
 | true=>
   refine ite_tt (test_last (thn (hc pins υ σ π _ ο ξ) fun δ τ ⟨ρ,Z,I4,ω,q4⟩=>thn (ζ pins τ σ Z y ρ u δ _ I4 ι ω q4) λd' ν ⟨γ,α,η,ψ,k2,e2,q5⟩=>?_));subst e2;cases ψ;exact Kl ⟨α,η,q5⟩
theorem Ai:(hH:Nat) < 2 ^ 63:=by rw[kv];decide
theorem tJ {x:V} {us:Dd} (r:Vals [x] us):∃u,us=[u]/\RelV x u:=by
 cases r with
 | cons Y O=>cases O;exact⟨_,rfl,Y⟩
theorem Ij {x y:V} {us:Dd} (r:Vals [x,y] us):∃u δ,us=[u,δ]/\RelV x u/\RelV y δ:=by
 cases r with
 | cons α Z=>
   cases Z with
   | cons Y O=>cases O;exact⟨_,_,rfl,α,Y⟩
theorem uQ:mL X (.type "int") (λxs H Q=>(∃i,xs=[.int i]/\Q (.int i) H)∨∃k,xs=[.bl k]/\Q (.int (if k then 1 else 0)) H):=by
 intro pins s σ H xs us Q I r h;rcases h with ⟨i,rfl,q⟩ | ⟨k,rfl,q⟩
 ·obtain⟨u,rfl,t,rfl⟩:=tJ r;exact call_int_int ⟨.int i,H,I,⟨_,rfl⟩,q⟩
 ·obtain⟨u,rfl,O⟩:=tJ r;cases O;exact call_int_bool ⟨.int (if k then 1 else 0),H,I.tok _,⟨_,rfl⟩,q⟩
def LenV (K:aT) (x:V) (H:Hp) (n:Nat):Prop:=
 match x with
 | .str y=>y.length<=hH/\n=y.length
 | .byt y=>y.size<=hH/\n=y.size
 | .ref p=>(∃xs,SqL K H p xs/\n=xs.length)∨∃xs,SqT K H p xs/\n=xs.length
 | _=>False
theorem CZ:mL X (.builtin "len") (λxs H Q=>∃x n,xs=[x]/\LenV X.K x H n/\Q (.int n) H):=by
 intro pins s σ H xs us Q I r h;obtain⟨x,n,rfl,e,q⟩:=h;obtain⟨u,rfl,Y⟩:=tJ r;have hl:=Ai;have hs:hH=16777216:=kv;cases x with
 | str y=>
   obtain⟨t,rfl⟩:=Y;obtain⟨α,θ⟩:y.length<=hH/\n=y.length:=e;subst θ;exact len_str @A ⟨.int _,H,I.tok _,⟨_,rfl⟩,q⟩
 | byt y=>
   obtain⟨t,rfl⟩:=Y;obtain⟨α,θ⟩:y.size<=hH/\n=y.size:=e;subst θ;exact PySem.W.len_bytes @A ⟨.int _,H,I.tok _,⟨_,rfl⟩,q⟩
 | ref p=>
   cases Y;have θ:(∃xs,SqL X.K H p xs/\n=xs.length)∨∃xs,SqT X.K H p xs/\n=xs.length:=e;rcases θ with ⟨xs,Z,θ⟩ | ⟨xs,Z,θ⟩
   ·subst θ;obtain⟨its,r',pl,hz⟩:=I.list Z;have O:=r'.length;exact Calls.call_len_list pl.isList (by simp only[q6];omega) ⟨.int xs.length,H,I.tok _,⟨_,by simp only[q6];rw[O]⟩,q⟩
   ·subst θ;obtain⟨its,r',pl,hz⟩:=I.tuple Z;have O:=r'.length;exact len_tuple pl (by simp only[q6];omega) ⟨.int xs.length,H,I.tok _,⟨_,by simp only[q6];rw[O]⟩,q⟩
 | _=>exact(show False from e).elim
end
structure ObjM (h:u2) (x dx C:eh) (mA:Dk):Prop where
 obj:h.get? x=aS (Kz C dx)
 ns:h.Ns1 dx mA
 ne:dx≠x
theorem Ag {h:u2} {dx:eh} {mA:Dk} (n:h.Ns1 dx mA):∃od,h.get? dx=aS od/\∀name,ML name od=aS (mA name):=by
 obtain⟨o,es,ep,ho,hd,hk,_,hm⟩:=n;refine⟨o,ho,λname=>?_⟩;have e:=hm name;unfold nsFind findBy at e;rw[<-Array.find?_toList] at e;unfold ML;rw[hd];dsimp only;split
 ·rename_i y q;rw[q] at e;exact y' aS e
 ·rename_i q;rw[q] at e
  have a:es.toList.any (·.refKey)=false:=by
   rw[List.any_eq_false];intro y Y;obtain⟨z,t,O⟩:=hk y (Array.mem_toList_iff.mp Y);simp[DictEntry.refKey,O]
  have Z:¬es.toList.any (·.refKey)=true:=by rw[a];exact hC
  rw[ko Z];exact y' aS e
theorem ObjM.look {h:u2} {x dx C:eh} {mA:Dk} (I:ObjM h x dx C mA):∃od,PySem.W.InstAt h x (Kz C dx) C (aS od)/\∀name,ML name od=aS (mA name):=
 let ⟨od,ho,hl⟩:=Ag I.ns
 ⟨od,⟨I.obj,rfl,rfl,ho⟩,hl⟩
section
variable {prog:oe} {w:sb} {A:u7} {E:DB} {s:eL} {K:aT} {x dx C f:eh} {mA:Dk} {name:u3} {v:fC}
theorem aX {O:JC} {Q:DB} (X:K.In s.heap) (I:ObjM s.heap x dx C mA) (Z:Mp K C name=true) (ζ:Nc K C=true)
  (ha:vr K (.ref C) name=aS eC) (Y:mA name=aS v) (α:Nl v=true) (h:Q v {s with toks:=s.toks + 1}):
  gn (hL prog w) A (getAttr (.ref x) name O) Q E s:=by
 obtain⟨od,J,hl⟩:=I.look;exact PySem.W.get_value X J (MT Z).1 (PySem.W.findObj_own ζ ha rfl (by rw[hl,Y])) α h
theorem Cu {pl:Sem JC} {Q:fC×eA fC->eL->Prop} (X:K.In s.heap) (I:ObjM s.heap x dx C mA) (O:Mp K C name=true)
  (hf:vr K (.ref C) name=aS (aS (.ref f))) (ht:Na K (.ref f)=true) (Y:mA name=eC) (h:Q (.ref f,[.ref x]) s):
  gn (hL prog w) A (getMethod (.ref x) name pl) Q E s:=by
 obtain⟨od,J,hl⟩:=I.look;exact PySem.W.method_fn X J (MT O).1 (MT O).2 hf (L8.mp ht) (by show(ML name od).map (·.isSome)=aS false;rw[hl,Y];rfl) h
theorem EE {ns:C'} {Q:F'} (X:K.In s.heap) (I:ObjM s.heap x dx C mA)
  (hs:vr K (.ref C) "__setattr__"=aS (aS (.builtin "object.__setattr__"))) (hp:Pe K C=true) (ht:NF K C name=aS eC) (ζ:Nc K C=true)
  (hw:OI mA ns) (hsz:ns.length<=hH)
  (h:∀h',ObjM h' x dx C (λy=>if y=name then aS v else mA y)->KF dx s.heap h'->Q () {s with heap:=h',toks:=s.toks + 2}):
  gn (hL prog w) A (setAttr (.ref x) name v) Q E s:=by
 obtain⟨od,J,hl⟩:=I.look;refine PySem.W.set_plain X J hs (PySem.W.osa_open (s:={s with toks:=s.toks + 1}) (r:=eC) X J hp ht λb=>?_);obtain⟨cd,Y,η⟩:=PySem.W.any_some ζ;have O:s.heap.get? x=aS ⟨.ref C,aS dx,.plain,#[]⟩:=I.obj;refine aY (eD (aY (aY (wpAny_loadPart O (aY (PySem.W.Looks.here (s:={s with toks:=s.toks + 1}) (PySem.W.looks_clsIn X Y) ?_))))));rw[η];refine eD (a:=aS dx) (aY (eD (aY ?_)));refine wpAny_nsSet1 (s:={s with toks:=s.toks + 1}) I.ns λh' ξ ν=>?_;obtain⟨Z,θ,ι,β,γ,δ⟩:=ξ.count (PySem.Within.cons name v hw);refine aY (wpAny_lookBehind β (by rw[γ];exact pastItsLine_dict (Jx δ (by rw[JV];omega))) ?_);exact eD (h _ ⟨(ν.2 _ (vl I.ne)).trans I.obj,ξ,I.ne⟩ ν)
theorem Ca {R:J2} {vs:Dd} {O:J6} (X:K.In s.heap) (hm:Pw K C=true)
  (hi:vr K (.ref C) "__init__"=aS (aS (.ref f))) (hf:PR K (.ref f)=aS (.type "function"))
  (h:codeAny (hL prog w) (A.under (.builtin "type.__call__" ⟨.ref C::vs,O⟩)) (.call (.ref f) ⟨.ref (s.heap.objs.size + 1)::vs,O⟩) (PySem.W.InitBack (s.heap.objs.size + 1) R)
   {s with heap:=(s.heap.push Kf).push (Kz C s.heap.objs.size)}):
  codeAny (hL prog w) A (.call (.ref C) ⟨vs,O⟩) R s:=by
 obtain⟨ζ,g,d,t,os⟩:=s;exact PySem.W.make_core (PySem.W.makes_of X hm) (PySem.W.looks_findIn X hi) (λself=>PySem.W.bind_fn X self hf) (.inl rfl) h
end
noncomputable def putF (f:u3) (v:V):eA (u3×V)->eA (u3×V)
 | []=>[(f,v)]
 | (g,x)::r=>if g=f then (g,v)::r else (g,x)::putF f v r
theorem pC (f g:u3) (v:V):∀fs:eA (u3×V),(putF f v fs).lookup g=if g=f then aS v else fs.lookup g
 | []=>by
   show LY g [(f,v)]=_;by_cases h:g=f
   ·have hb:(g == f)=true:=L8.mpr h;simp only[LY,hb,px h]
   ·have hb:(g == f)=false:=tz.mpr h;simp only[LY,hb,ko h]
 | (k,x)::r=>by
   have ih:=pC f g v r;rw[show putF f v ((k,x)::r)=(if k=f then (k,v)::r else (k,x)::putF f v r) from rfl];by_cases hk:k=f
   ·rw[px hk];by_cases h:g=k
    ·have hb:(g == k)=true:=L8.mpr h;simp only[LY,hb,px (h.trans hk)]
    ·have hb:(g == k)=false:=tz.mpr h;simp only[LY,hb,ko (λe:g=f=>h (e.trans hk.symm))]
   ·rw[ko hk];by_cases h:g=k
    ·have hb:(g == k)=true:=L8.mpr h;simp only[LY,hb,ko (λe:g=f=>hk (h.symm.trans e))]
    ·have hb:(g == k)=false:=tz.mpr h;simp only[LY,hb];exact ih
theorem pL (f:u3) (v:V):∀fs:eA (u3×V),f∈(putF f v fs).map (·.1)/\∀g,g∈fs.map (·.1)->g∈(putF f v fs).map (·.1)
 | []=>⟨by simp[putF],λg h=>by simp at h⟩
 | (k,x)::r=>by
   obtain⟨i1,i2⟩:=pL f v r;rw[show putF f v ((k,x)::r)=(if k=f then (k,v)::r else (k,x)::putF f v r) from rfl];by_cases hk:k=f
   ·rw[px hk];subst hk;exact⟨@E,λg h=>by simpa using h⟩
   ·rw[ko hk];refine⟨?_,λg h=>?_⟩
    ·rw[z0];exact ov _ i1
    ·rw[z0] at h ⊢;rcases u5.mp h with e | e
     ·exact u5.mpr (.inl e)
     ·exact ov _ (i2 g e)
theorem pG (f:u3) (v:V):∀fs:eA (u3×V),(putF f v fs).length<=fs.length + 1
 | []=>by simp[putF]
 | (k,x)::r=>by
   have ih:=pG f v r;rw[show putF f v ((k,x)::r)=(if k=f then (k,v)::r else (k,x)::putF f v r) from rfl];by_cases hk:k=f
   ·rw[px hk,JV,JV];omega
   ·rw[ko hk,JV,JV];omega
theorem RelO.some_of {v:V} {o:J7} (r:RelO (aS v) o):∃u,o=aS u/\RelV v u:=by
 cases o with
 | none=>exact(show False from r).elim
 | some u=>exact⟨u,rfl,r⟩
theorem RelO.none_of {o:J7} (r:RelO eC o):o=none:=by
 cases o with
 | none=>rfl
 | some u=>exact(show False from r).elim
theorem AA {v:V} {u:fC} (r:RelV v u):Nl u=true:=by
 cases v with
 | non=>cases(show u=JB from r);rfl
 | bl b=>cases(show u=Pm b from r);rfl
 | int i=>obtain⟨t,e⟩:=(show ∃t,u=Mu i t from r);cases e;rfl
 | str x=>obtain⟨t,e⟩:=(show ∃t,u=Oz x t from r);cases e;rfl
 | byt b=>obtain⟨t,e⟩:=(show ∃t,u=QO b t from r);cases e;rfl
 | flt b=>obtain⟨t,e⟩:=(show ∃t,u=QN b t from r);cases e;rfl
 | ref a=>cases(show u=sC a from r);rfl
 | ty n=>cases(show u=JA n from r);rfl
section
variable {P:oe} {w:sb} {H H':Hp} {h h':u2} {a C dx:eh} {fs fs':eA (u3×V)}
theorem vX (hok:HOk P w H h) (e:H a=aS (.ins C dx fs)):∃mA,ObjM h a dx C mA/\(∀f,RelO (fs.lookup f) (mA f))/\OI mA (fs.map (·.1))/\fs.length<=1000/\H dx=aS (.own a):=by
 obtain⟨d,z,ne,ob,mA,n,r,q⟩:=(show fJ P w H h a (.ins C dx fs) from hok a _ e);exact⟨mA,⟨ob,n,ne⟩,r,q,z,d⟩
end
structure Cls (K:aT) (C:eh):Prop where
 pg:Mp K C Qc=true
 hd:Nc K C=true
 po:Pe K C=true
 sa:vr K (.ref C) "__setattr__"=aS (aS (.builtin "object.__setattr__"))
theorem Cls.get {K:aT} {C:eh} (c:Cls K C) (f:u3):Mp K C f=true:=c.pg
def gI (K:aT) (C:eh) (f:u3):Prop:=vr K (.ref C) f=aS eC
theorem gI.taker {K:aT} {C:eh} {f:u3} (n:gI K C f):NF K C f=aS none:=by
 unfold NF;rw[show vr K (.ref C) f=aS eC from n];rfl
structure Con (K:aT) (C:eh) (f:u3) (v:V) (u:fC):Prop where
 at_:vr K (.ref C) f=aS (aS u)
 rel:RelV v u
 get:L4 K u "__get__"=aS eC
 cp:PySem.W.copiedNames.contains f=false
structure Meth (K:aT) (C:eh) (m:u3) (f:eh):Prop where
 at_:vr K (.ref C) m=aS (aS (.ref f))
 fn:Na K (.ref f)=true
 kp:JK K (.ref f)=true
section
variable {X:Cx} {pins:DC} {σ:St} {H:Hp} {s:eL} {a C dx:eh} {fs:eA (u3×V)} {f:u3} {v:V} {A:u7} {E:DB}
theorem yq {b:JC} {Q:DB} (I:Inv X pins σ H s) (e:H a=aS (.ins C dx fs)) (c:Cls X.K C) (n:gI X.K C f) (l:fs.lookup f=aS v)
  (h:∀u s',Inv X pins σ H s'->RelV v u->Q u s'):gn (hL X.prog X.w) A (getAttr (.ref a) f b) Q E s:=by
 obtain⟨mA,O,r,_,_,_⟩:=vX I.hok e;obtain⟨u,hu,Y⟩:=RelO.some_of (v:=v) (o:=mA f) (by rw[<-l];exact r f);exact aX I.kIn O (c.get f) c.hd n hu (AA Y) (h u _ (I.tok _) Y)
theorem nF {m:u3} {g:eh} {pl:Sem JC} {Q:fC×eA fC->eL->Prop} (I:Inv X pins σ H s) (e:H a=aS (.ins C dx fs)) (c:Cls X.K C) (k:Meth X.K C m g) (l:fs.lookup m=eC)
  (h:Q (.ref g,[.ref a]) s):gn (hL X.prog X.w) A (getMethod (.ref a) m pl) Q E s:=by
 obtain⟨mA,O,r,_,_,_⟩:=vX I.hok e;have hn:mA m=none:=RelO.none_of (by rw[<-l];exact r m);exact Cu I.kIn O (c.get m) k.at_ k.fn hn h
theorem xU {y:V} {u:fC} {Q:F'} (I:Inv X pins σ H s) (e:H a=aS (.ins C dx fs)) (c:Cls X.K C) (n:gI X.K C f) (hl:fs.length < 1000) (α:RelV y u)
  (h:∀s',Inv X pins σ (upd H a (.ins C dx (putF f y fs))) s'->Q () s'):gn (hL X.prog X.w) A (setAttr (.ref a) f u) Q E s:=by
 obtain⟨mA,O,r,Y,_,ho⟩:=vX I.hok e;have hz:(fs.map (·.1)).length<=sizeLine:=by rw[eB,kv];omega
 refine EE I.kIn O c.sa c.po n.taker c.hd Y hz λh' O' Z=>h _ ?_;have hd:∃o,h'.get? dx=aS o:=let ⟨o,_,_,θ,_⟩:=O'.ns;⟨o,θ⟩
 refine I.write (x:=a) (e:=dx) (by rw[e];exact MF) (.inr ho) (λb q hb z=>(Z.2 b hb).trans z) hd ?_;refine⟨by rw[aH O.ne];exact ho,?_,O.ne,O'.obj,_,O'.ns,λg=>?_,λg β=>?_⟩
 ·have:=pG f y fs;omega
 ·show RelO ((putF f y fs).lookup g) (if g=f then aS u else mA g);rw[pC];by_cases q:g=f
  ·rw[px q,px q];exact α
  ·rw[ko q,ko q];exact r g
 ·by_cases q:g=f
  ·rw[q];exact(pL f y fs).1
  ·refine(pL f y fs).2 g (Y g λz=>β ?_);show(if g=f then aS u else mA g)=eC;rw[ko q];exact z
theorem Inv.made (I:Inv X pins σ H s):Inv X pins σ (upd (upd H s.heap.objs.size (.own (s.heap.objs.size + 1))) (s.heap.objs.size + 1) (.ins C s.heap.objs.size []))
  {s with heap:=(s.heap.push Kf).push (Kz C s.heap.objs.size)}:=by
 have e1:(s.heap.push Kf).get? s.heap.objs.size=aS PySem.W.emptyDict:=hG s.heap rfl
 have Z:((s.heap.push Kf).push (Kz C s.heap.objs.size)).get? (s.heap.objs.size + 1)=aS (Kz C s.heap.objs.size):=by
  have:=hG (s.heap.push Kf) (o:=Kz C s.heap.objs.size) rfl;rwa [z3] at this
 have Y:(s.heap.push Kf).Ns s.heap.objs.size (λ_=>eC):=⟨Kf,#[],_,e1,rfl,(λe he=>gd he @E),λ_=>rfl⟩;have I1:=I.laid (a:=s.heap.objs.size) (o:= .own (s.heap.objs.size + 1)) (h':=s.heap.push Kf) (t':=s.toks) (λb u q=>en _ q) (mu _) ⟨_,e1⟩;refine I1.laid (a:=s.heap.objs.size + 1) (o:= .ins C s.heap.objs.size []) (t':=s.toks) (λb u q=>en _ q) (NL (z3 _ _)) ?_;have ne:s.heap.objs.size≠s.heap.objs.size + 1:=v7 (Ke _);refine⟨by rw[aH ne,aQ],Ka _,ne,Z,λ_=>eC,(Heap.Ns1.of_empty Y).at λo q=>en _ q,λ_=>MF,λy O=>gd rfl O⟩
theorem FQ {prog:oe} {w:sb} {env:Env} {e:x7} {f:u3} {pos:Pos} {s:eL} {Q:DB} (hb:attributeBase e f env (eval e env)=eval e env)
  (h:gn (hL prog w) A (eval e env) (λo O=>gn (hL prog w) A (getAttr o f true) Q E O) E s):gn (hL prog w) A (eval (.Attribute e f pos) env) Q E s:=
 Attribute_any_ h (by rw[arm_eval_Attribute,hb])
end
noncomputable def tFld (K:aT) (ta:TE) (f:u3):TE:=fun σ H Q=>ta σ H λx H1=>∃a C dx fs v,x= .ref a/\H1 a=aS (.ins C dx fs)/\Cls K C/\gI K C f/\fs.lookup f=aS v/\Q v H1
noncomputable def sFld (K:aT) (ta tv:TE) (f:u3):TS:=λD σ H=>tv σ H λy H1=>ta σ H1 λx H2=>∃a C dx fs,x= .ref a/\H2 a=aS (.ins C dx fs)/\Cls K C/\gI K C f/\fs.length < 1000/\
 D.nx σ (upd H2 a (.ins C dx (putF f y fs)))
section
variable {X:Cx} {o e value:x7} {f:u3} {pos pos' tpos:Pos} {ta tv:TE}
theorem G4 (he:PE X e ta) (hb:attributeBase e f X.env (eval e X.env)=eval e X.env):PE X (.Attribute e f pos) (tFld X.K ta f):=by
 intro pins s σ H Q I h;refine FQ hb (thn (he pins s σ H _ I h) λu δ ⟨x,H1,O,Y,a,C,dx,fs,v,ex,ea,c,n,l,q⟩=>?_);subst ex;obtain rfl:u=sC a:=Y;exact yq O ea c n l fun β γ α Z=>⟨v,H1,α,Z,q⟩
theorem GY (ha:PE X o ta) (γ:PE X value tv) (hs:swapsWith value (aS (.Attribute o f pos')) pos.line X.env=pure false):PS X (.Assign [.Attribute o f pos'] value pos) (sFld X.K ta tv f):=by
 intro pins s σ H D I h;refine plainObj_wpAny_Assign_Attribute (thn (γ pins s σ H _ I h) λu Y ⟨y,H1,O,Z,q⟩=>thn (ha pins Y σ H1 _ O q) fun β θ ⟨x,H2,ζ,α,a,C,dx,fs,ex,ea,c,n,l,ε⟩=>?_) hs;subst ex;obtain rfl:β=sC a:=α;exact xU ζ ea c n l Z fun η δ=>⟨σ,_,δ,ε⟩
end
section
variable {X:Cx} {pins:DC} {σ:St} {H:Hp} {s:eL} {A:u7} {E:DB} {Q:DB} {c:fC} {b:JC}
inductive TyOf (K:aT) (H:Hp):V->fC->Prop where
 | non:TyOf K H .non (.type "NoneType")
 | bl (x:JC):TyOf K H (.bl x) (.type "bool")
 | int (i:Int):TyOf K H (.int i) (.type "int")
 | str (x:u3):TyOf K H (.str x) (.type "str")
 | flt (x:UInt64):TyOf K H (.flt x) (.type "float")
 | lst {a:eh} {xs:eA V} (e:H a=aS (.lst xs)):TyOf K H (.ref a) (.type "list")
 | frz {a:eh} {o:NJ} {xs:eA V} (e:H a=aS (.frz o (.lst xs))):TyOf K H (.ref a) (.type "list")
 | tup {a:eh} {xs:eA V} (e:H a=aS (.tup xs)):TyOf K H (.ref a) (.type "tuple")
 | dK {a:eh} {kvs:eA (Key×V)} (e:H a=aS (.dK kvs)):TyOf K H (.ref a) (.type "dict")
 | dT {a:eh} {kvs:eA (eA Key×V)} (e:H a=aS (.dT kvs)):TyOf K H (.ref a) (.type "dict")
 | ins {a C dx:eh} {fs:eA (u3×V)} (e:H a=aS (.ins C dx fs)) (cl:Cls K C) (ha:vr K (.ref C) "__class__"=aS (aS (.builtin "object.__class__")))
   (hn:L4 K (.builtin "object.__class__") "__get__"=aS (aS (.builtin "getset_descriptor.__get__"))) (htk:ND K (.builtin "object.__class__")=aS true)
   (hm:JJ K C (.type "object")=aS true):TyOf K H (.ref a) (.ref C)
end
structure Room (k:Nat) (A:u7):Prop where
 hd:A.handled=eC
 dp:A.depth + 3 * k + 5 < recursionLimit
 un:A.units + 16 * k + 200 < cLine
theorem Room.mono {j k:Nat} {A:u7} (r:Room k A) (h:j<=k):Room j A:=⟨r.hd,by have:=r.dp;omega,by have:=r.un;omega⟩
theorem Room.deeper {k:Nat} {A:u7} (r:Room (k + 1) A) (env:Env):Room k (A.deeper env):=
 ⟨r.hd,by have:=r.dp;show A.depth + 1 + 3 * k + 5 < _;omega,by have:=r.un;show A.units + 3 + 16 * k + 200 < _;omega⟩
theorem Room.in1 {k:Nat} {A:u7} (r:Room (k + 1) A):Room k A.in1:=
 ⟨r.hd,by have:=r.dp;show A.depth + 3 * k + 5 < _;omega,by have:=r.un;show A.units + 1 + 16 * k + 200 < _;omega⟩
theorem yj {A:u7} {C:eh} {us:Dd} {O:J6}:(A.under (.builtin "type.__call__" ⟨.ref C::us,O⟩)).depth=A.depth + 1:=by
 first | rfl | simp[OC,Code.weight,Code.isCreation,Code.isGuard,Code.isCaller,Code.frames,OQ,guardIds]
theorem yi {A:u7} {C:eh} {us:Dd} {O:J6}:(A.under (.builtin "type.__call__" ⟨.ref C::us,O⟩)).units=A.units + 1:=by
 first | rfl | simp[OC,Code.cUnits,Code.frames,OQ]
theorem Room.make {k:Nat} {A:u7} (r:Room (k + 1) A) (C:eh) (us:Dd) (O:J6):Room k (A.under (.builtin "type.__call__" ⟨.ref C::us,O⟩)):=
 ⟨r.hd,by have:=r.dp;rw[yj];omega,by have:=r.un;rw[yi];omega⟩
theorem Room.depth {k:Nat} {A:u7} (r:Room k A):A.depth < recursionLimit:=by have:=r.dp;omega
theorem Room.units {k:Nat} {A:u7} (r:Room k A):A.units + 64 < cLine:=by have:=r.un;omega
noncomputable abbrev tNil:TA:=λ_ H Q=>Q [] H
noncomputable abbrev Ip (ta:TE) (tr:TA):TA:=fun σ H Q=>ta σ H λx H1=>tr σ H1 λxs H2=>Q (x::xs) H2
section
variable {X:Cx} {e:x7} {es:eA x7} {te:TE} {t:TA} {pos:Pos}
theorem af:PA X [] tNil:=λ_ _ _ _ H Q I h=>LI ⟨[],H,I,.nil,h⟩
theorem aa (ha:PE X e te) (γ:PA X es t) (hs:lx (e::es) X.env=(false,eval e X.env)::lx es X.env:=by rfl):PA X (e::es) (Ip te t):=by
 intro pos pins s σ H Q I h;rw[hs];show gn _ _ (spliced ((false,eval e X.env)::backTo pos (lx es X.env))) _ _ s;refine Lx (thn (ha pins s σ H _ I h) λu Y ⟨x,H1,O,α,β⟩=>?_);exact thn (γ pos pins Y σ H1 _ O β) λus ζ ⟨xs,H2,δ,Z,ε⟩=>⟨x::xs,H2,δ,.cons α Z,ε⟩
noncomputable def tTup (t:TA):TE:=fun σ H Q=>t σ H λxs H1=>xs.length<=hH/\∀p,H1 p=eC->Q (.ref p) (upd H1 p (.tup xs))
noncomputable def tLst (t:TA):TE:=fun σ H Q=>t σ H λxs H1=>xs.length<=hH/\∀p,H1 p=eC->Q (.ref p) (upd H1 p (.lst xs))
theorem cH {x1} (h:PA X es t):PE X (.Tuple es x1 pos) (tTup t):=by
 intro pins s σ H Q I Y;refine wpAny_Tuple_spliced (thn (h pos pins s σ H _ I Y) λus O ⟨xs,H1,I1,r,z,q⟩=>⟨by rw[<-r.length];exact z,?_⟩);have hf:H1 O.heap.objs.size=none:=I1.hok.fresh (mu _);refine⟨.ref O.heap.objs.size,upd H1 O.heap.objs.size (.tup xs),I1.laid (t':=O.toks) (λb u e=>en _ e) (mu _) ?_,rfl,q _ hf⟩;exact⟨z,us,r,⟨_,hG _ rfl,rfl,_,rfl⟩⟩
theorem dU (h:PA X es t):PE X (.List es pos) (tLst t):=by
 intro pins s σ H Q I Y;refine wpAny_List_spliced (thn (h pos pins s σ H _ I Y) λus O ⟨xs,H1,I1,r,z,q⟩=>⟨by rw[<-r.length];exact z,?_⟩);have hf:H1 O.heap.objs.size=none:=I1.hok.fresh (mu _);refine⟨.ref O.heap.objs.size,upd H1 O.heap.objs.size (.lst xs),I1.laid (t':=O.toks) (λb u e=>en _ e) (mu _) ?_,rfl,q _ hf⟩;exact⟨z,us,0,r,hG _ rfl⟩
end
noncomputable abbrev Sp:=eA V->Hp->VK->XK->Prop
noncomputable abbrev CXT:=eA Env->Hp->eL->XK->DB
structure Env0 (P:oe) (w:sb) (K:aT) (mg:Dk) (base:u2) (A:u7) (outer:eA Env) (s:eL) (H:Hp):Prop where
 frames:A.frames=aS outer
 mod:Mod K mg base
 bs:∀b o,base.get? b=aS o->s.heap.get? b=aS o/\H b=eC
 bsz:base.objs.size<=s.heap.objs.size
 funs:s.heap.FunFrames base outer
 frf:∀b∈frs outer,H b=eC
 hok:HOk P w H s.heap
 bare:AllBare s.gens
def CE (outer:eA Env) (P:oe) (w:sb) (H:Hp) (s:eL) (Q:VK) (u:fC) (s':eL):Prop:=
 ∃v H',s'.os=s.os/\AllBare s'.gens/\Un (frs outer) [] H H' s.heap s'.heap/\HOk P w H' s'.heap/\RelV v u/\Q v H'
def CR (CX:CXT) (outer:eA Env) (P:oe) (w:sb) (H:Hp) (s:eL) (Q:VK) (E:XK) (r:Result) (s':eL):Prop:=
 match r with
 | .ok (.ret u)=>CE outer P w H s Q u s'
 | .ok _=>False
 | .error e=>CX outer H s E e s'
structure FnOk (P:oe) (w:sb) (K:aT) (mg:Dk) (base:u2) (CX:CXT) (k:Nat) (f:eh) (fd:hP) (ps:C') (sp:Sp):Prop where
 len:∀vs H Q E,sp vs H Q E->vs.length=ps.length
 run:∀(A:u7) (outer:eA Env) (s:eL) (H:Hp) (args:Args) (us:Dd) (vs:eA V) (Q:VK) (E:XK),Room k A->Env0 P w K mg base A outer s H->BindsTo s fd args (ps.zip us)->Vals vs us->sp vs H Q E->
  codeAny (hL P w) A (.call (.ref f) args) (CR CX outer P w H s Q E) s
theorem Env0.make {P:oe} {w:sb} {K:aT} {mg:Dk} {base:u2} {A:u7} {outer:eA Env} {s:eL} {H:Hp} (e:Env0 P w K mg base A outer s H) (C:eh) (us:Dd) (O:J6):
  Env0 P w K mg base (A.under (.builtin "type.__call__" ⟨.ref C::us,O⟩)) outer s H:=⟨by first | exact e.frames | (simpa[OC,Code.envs,OQ,pushEnvs] using e.frames),e.mod,e.bs,e.bsz,e.funs,e.frf,e.hok,e.bare⟩
section
variable {X:Cx} {pins:DC} {σ:St} {H:Hp} {s s':eL}
theorem Inv.env0 (I:Inv X pins σ H s):Env0 X.prog X.w X.K X.mg X.base X.A X.stack s H:=
 ⟨I.ok.frames,I.ok.mod,I.bs,Jx I.ok.bsz I.sz,I.stack,I.stkFree,I.hok,I.bare⟩
theorem Inv.after {Q:VK} {u:fC} (I:Inv X pins σ H s) (h:CE X.stack X.prog X.w H s Q u s'):EP X pins σ Q u s':=by
 obtain⟨v,H',os,bare,un,hok,r,q⟩:=h;obtain⟨ζ,g,d,t,O⟩:=s';obtain rfl:O=s.os:=os;exact⟨v,H',I.call (h':=ζ) (g':=g) (d':=d) (t':=t) (ch:=[]) un hok bare (λb z=>gd z @E),r,q⟩
end
noncomputable def Bv (sp:Sp) (dvs:eA V) (E:XK) (t:TA):TE:=fun σ H Q=>t σ H λvs H1=>sp (vs++dvs) H1 Q E
noncomputable def Em (C:eh) (m:u3) (sp:Sp) (dvs:eA V) (E:XK) (ta:TE) (t:TA):TE:=fun σ H Q=>ta σ H λx H1=>∃a dx fs,x= .ref a/\H1 a=aS (.ins C dx fs)/\fs.lookup m=eC/\
 t σ H1 λvs H2=>sp (x::(vs++dvs)) H2 Q E
noncomputable def Gb (C:eh) (sp:Sp) (dvs:eA V) (E:XK) (t:TA):TE:=fun σ H Q=>t σ H λvs H1=>∀x dx,H1 x=eC->H1 dx=eC->dx≠x->
 sp (.ref x::(vs++dvs)) (upd (upd H1 dx (.own x)) x (.ins C dx [])) (λv H2=>v= .non/\Q (.ref x) H2) E
def ke (K:aT) (fd:hP) (ps:C') (ds:Dd):Prop:=
 ∀(s:eL) (us:Dd),K.In s.heap->(us++ds).length=ps.length->BindsTo s fd ⟨us,[]⟩ (ps.zip (us++ds))
theorem ke.all {K:aT} {fd:hP} {ps:C'} (h:∀us:Dd,us.length=ps.length->bindArgs fd ⟨us,[]⟩=pure (ps.zip us)):ke K fd ps []:=λs us _ hl=>by
 rw[LF] at hl ⊢;exact .of_eq (h us hl)
def nV (CX:CXT) (X:Cx) (E:XK):Prop:=∀(pins:DC) (σ:St) (H:Hp) (s:eL) (e:fC) (s':eL),Inv X pins σ H s->CX X.stack H s E e s'->X.xe e s'
section
variable {X:Cx} {CX:CXT} {k:Nat} {f C:eh} {fd:hP} {ps:C'} {sp:Sp} {dvs:eA V} {ds:Dd} {E:XK} {x m:u3} {p pos apos:Pos} {e o:x7} {es:eA x7} {ta:TE} {t:TA}
theorem zG {pins:DC} {σ:St} {H:Hp} {s:eL} {Q:VK} {us:Dd} {vs:eA V} (F:FnOk X.prog X.w X.K X.mg X.base CX k f fd ps sp) (Z:Room k X.A) (hb:ke X.K fd ps ds) (hd:Vals dvs ds) (hx:nV CX X E)
  (I:Inv X pins σ H s) (r:Vals vs us) (h:sp (vs++dvs) H Q E):gn (hL X.prog X.w) X.A (call (.ref f) us) (EP X pins σ Q) X.xe s:=by
 have Y:Vals (vs++dvs) (us++ds):=r.append hd;have hl:(us++ds).length=ps.length:=by rw[<-Y.length];exact F.len _ _ _ _ h
 refine NV (LU (F.run X.A X.stack s H ⟨us,[]⟩ (us++ds) (vs++dvs) Q E Z I.env0 (hb s us I.kIn hl) Y h) λr s' O=>?_);cases r with
 | error e=>exact hx pins σ H s e s' I O
 | ok α=>
   cases α with
   | ret u=>exact I.after O
   | next=>exact z4 O
   | brk=>exact z4 O
   | cont=>exact z4 O
theorem lE (F:FnOk X.prog X.w X.K X.mg X.base CX k f fd ps sp) (Z:Room k X.A) (α:Gl X x) (hm:X.mg x=aS (.ref f)) (hk:JK X.K (.ref f)=true) (hb:ke X.K fd ps ds) (hd:Vals dvs ds) (hx:nV CX X E)
  (ha:PA X (e::es) t) (Y:(x == ("__debug__":u3))=false:=by decide) (he:lx (e::es) X.env=(false,eval e X.env)::lx es X.env:=by rfl) (O:(backTo pos (lx es X.env)).any (·.1)=false:=by rfl):
  PE X (.Call (.Name x p) (e::es) [] pos) (Bv sp dvs E t):=by
 intro pins s σ H Q I h;refine KD (nC I α hm ?_ Y);refine Lu (h₀:=X.base) I.ok.mod.kin hk (thn (ha pos pins s σ H _ I h) λus β ⟨vs,H1,I1,r,q⟩=>⟨I1.kIn,?_⟩) he O;exact zG F Z hb hd hx I1 r q
theorem rT {pl:Sem JC} (he:PE X o ta) (c:Cls X.K C) (hm:Meth X.K C m f) (F:FnOk X.prog X.w X.K X.mg X.base CX k f fd ps sp) (δ:Room k X.A) (hb:ke X.K fd ps ds) (hd:Vals dvs ds) (hx:nV CX X E) (ha:PA X (e::es) t)
  (Y:lx (e::es) X.env=(false,eval e X.env)::lx es X.env:=by rfl) (Z:(backTo pos (lx es X.env)).any (·.1)=false:=by rfl)
  (ht:eval (.Call (.Attribute o m apos) (e::es) [] pos) X.env=(do
   let α <-eval o X.env
   standAt apos.atName
   let (f,first) <-holding [α] (getMethod α m pl)
   callWith pos f first (backTo pos (lx (e::es) X.env)) (backToKw pos (keywordEach [] X.env))):=by rfl):
  PE X (.Call (.Attribute o m apos) (e::es) [] pos) (Em C m sp dvs E ta t):=by
 intro pins s σ H Q I h;refine MA (pl:=pl) (thn (he pins s σ H _ I h) λu β ⟨x,H1,O,γ,a,dx,fs,ex,ea,l,q⟩=>?_) ht;subst ex;obtain rfl:u=sC a:=γ;refine nF O ea c hm l ?_;refine Lu (first:=[.ref a]) (h₀:=X.base) I.ok.mod.kin hm.kp (thn (ha pos pins β σ H1 _ O q) λus ζ ⟨vs,H2,I2,r,ε⟩=>⟨I2.kIn,?_⟩) Y Z;exact zG (us:= .ref a::us) (vs:= .ref a::vs) F δ hb hd hx I2 (.cons rfl r) ε
theorem dk {pl:Sem JC} (he:PE X o ta) (c:Cls X.K C) (hm:Meth X.K C m f) (F:FnOk X.prog X.w X.K X.mg X.base CX k f fd ps sp) (Z:Room k X.A) (hb:ke X.K fd ps ds) (hd:Vals dvs ds) (hx:nV CX X E)
  (ht:eval (.Call (.Attribute o m apos) [] [] pos) X.env=(do
   let O <-eval o X.env
   standAt apos.atName
   let (f,first) <-holding [O] (getMethod O m pl)
   callWith pos f first (backTo pos (lx [] X.env)) (backToKw pos (keywordEach [] X.env))):=by rfl):
  PE X (.Call (.Attribute o m apos) [] [] pos) (Em C m sp dvs E ta tNil):=by
 intro pins s σ H Q I h;refine MA (pl:=pl) (thn (he pins s σ H _ I h) λu α ⟨x,H1,I1,Y,a,dx,fs,ex,ea,l,q⟩=>?_) ht;subst ex;obtain rfl:u=sC a:=Y;refine nF I1 ea c hm l ?_;exact PySem.W.callWith_K0 (first:=[.ref a]) I1.kIn hm.kp (zG (us:=[.ref a]) (vs:=[.ref a]) F Z hb hd hx I1 (.cons rfl .nil) q)
structure Mk (K:aT) (C f:eh):Prop where
 makes:Pw K C=true
 init:vr K (.ref C) "__init__"=aS (aS (.ref f))
 fn:Na K (.ref f)=true
 kp:JK K (.ref C)=true
theorem BM {pins:DC} {σ:St} {H:Hp} {s:eL} {Q:VK} {us:Dd} {vs:eA V} (M:Mk X.K C f) (F:FnOk X.prog X.w X.K X.mg X.base CX k f fd ps sp) (δ:Room (k + 1) X.A) (hb:ke X.K fd ps ds) (hd:Vals dvs ds)
  (γ:nV CX X E) (I:Inv X pins σ H s) (r:Vals vs us)
  (h:∀x dx,H x=eC->H dx=eC->dx≠x->sp (.ref x::(vs++dvs)) (upd (upd H dx (.own x)) x (.ins C dx [])) (λv H2=>v= .non/\Q (.ref x) H2) E):
  gn (hL X.prog X.w) X.A (call (.ref C) us) (EP X pins σ Q) X.xe s:=by
 have Z:=h (s.heap.objs.size + 1) s.heap.objs.size (I.hok.fresh (KS _)) (I.hok.fresh (mu _)) (v7 (Ke _));have I2:=Inv.made (C:=C) I;have Y:Vals (V.ref (s.heap.objs.size + 1)::(vs++dvs)) (sC (s.heap.objs.size + 1)::(us++ds)):= .cons rfl (r.append hd)
 have hl:(sC (s.heap.objs.size + 1)::us++ds).length=ps.length:=by
  have e:=Y.length;rw[F.len _ _ _ _ Z] at e;exact e.symm
 refine NV (Ca (f:=f) I.kIn M.makes M.init (L8.mp M.fn) (LU (F.run _ X.stack _ _ ⟨sC (s.heap.objs.size + 1)::us,[]⟩ (sC (s.heap.objs.size + 1)::(us++ds)) _ _ E (δ.make C us [])
  (I2.env0.make C us []) (hb _ (sC (s.heap.objs.size + 1)::us) I2.kIn hl) Y Z) λr s' O=>?_))
 cases r with
 | error e=>exact γ pins σ _ _ e s' I2 O
 | ok ε=>
   cases ε with
   | ret u=>
     obtain⟨v,H',ζ,α,ev,β⟩:=I2.after O;subst ev;exact⟨α,⟨V.ref (s.heap.objs.size + 1),H',ζ,rfl,β⟩⟩
   | next=>exact z4 O
   | brk=>exact z4 O
   | cont=>exact z4 O
theorem rV (M:Mk X.K C f) (F:FnOk X.prog X.w X.K X.mg X.base CX k f fd ps sp) (Z:Room (k + 1) X.A) (α:Gl X x) (hm:X.mg x=aS (.ref C)) (hb:ke X.K fd ps ds) (hd:Vals dvs ds) (hx:nV CX X E)
  (ha:PA X (e::es) t) (Y:(x == ("__debug__":u3))=false:=by decide) (he:lx (e::es) X.env=(false,eval e X.env)::lx es X.env:=by rfl) (O:(backTo pos (lx es X.env)).any (·.1)=false:=by rfl):
  PE X (.Call (.Name x p) (e::es) [] pos) (Gb C sp dvs E t):=by
 intro pins s σ H Q I h;refine KD (nC I α hm ?_ Y);refine Lu (h₀:=X.base) I.ok.mod.kin M.kp (thn (ha pos pins s σ H _ I h) λus β ⟨vs,H1,I1,r,q⟩=>⟨I1.kIn,?_⟩) he O;exact BM M F Z hb hd hx I1 r q
end
section
variable {X:Cx} {CX:CXT} {k:Nat} {f C:eh} {fd:hP} {ps ks:C'} {sp:Sp} {E:XK} {x m:u3} {p pos apos kpos:Pos} {e o:x7} {es:eA x7} {kws:eA Keyword} {te ta:TE} {t tk:TA} {nm:nk u3}
structure Jl (K:aT) (fd:hP) (ps ks:C') (g:Dd->Dd->Dd) (gV:eA V->eA V->eA V):Prop where
 to:∀(s:eL) (us ws:Dd),K.In s.heap->(g us ws).length=ps.length->BindsTo s fd ⟨us,ks.zip ws⟩ (ps.zip (g us ws))
 rel:∀{vs:eA V} {us:Dd} {zs:eA V} {ws:Dd},Vals vs us->Vals zs ws->Vals (gV vs zs) (g us ws)
variable {g:Dd->Dd->Dd} {gV:eA V->eA V->eA V}
end
structure aD (N P:C') (sc:Jq):Prop where
 kind:sc.kind= .function
 co:sc.isCoroutine=false
 gen:sc.isGenerator=false
 nd:N.Nodup
 pre:N.take P.length=P
 par:∀x∈P,sc.names.lookup x=aS .local∨sc.names.lookup x=aS .cell
 nofree:∀y∈sc.names,y.2≠.free
theorem uT {kindOf:u3->nk NameKind} {x:u3}:∀{binds:J6} {m:Dk},(∀v,(x,v)∉binds)->bindL kindOf binds m x=m x
 | [],_,_=>rfl
 | (n,v)::r,m,h=>by
   unfold bindL;rw[uT λw hw=>h w (ov _ hw)];split
   ·have:x≠n:=by rintro rfl;exact h v oi
    simp[this]
   ·rfl
theorem uV {kindOf:u3->nk NameKind} {x:u3}:∀{binds:J6} {m:Dk},(∀v,(x,v)∉binds)->bindC kindOf binds m x=m x
 | [],_,_=>rfl
 | (n,v)::r,m,h=>by
   unfold bindC;rw[uV λw hw=>h w (ov _ hw)];split
   ·rfl
   ·have:x≠n:=by rintro rfl;exact h v oi
    simp[this]
theorem uU {kindOf:u3->nk NameKind} {x:u3} {v:fC}:∀{P:C'} {vs:Dd} {i:Nat} {m:Dk},P.Nodup->P[i]? =aS x->vs[i]? =aS v->kindOf x=aS .local->
  bindL kindOf (P.zip vs) m x=aS v
 | [],_,_,_,_,h,_,_=>by simp at h
 | _::_,[],_,_,_,_,h,_=>by simp at h
 | p::P,w::vs,0,m,nd,h1,h2,hk=>by
   simp at h1 h2;subst h1;subst h2;show bindL kindOf ((p,w)::P.zip vs) m p=_;unfold bindL;rw[uT λv O=>(MO.mp nd).1 (Nv O).1,px hk];simp
 | p::P,w::vs,i + 1,m,nd,h1,h2,hk=>by
   show bindL kindOf ((p,w)::P.zip vs) m x=_;unfold bindL;exact uU (i:=i) (MO.mp nd).2 (by simpa using h1) (by simpa using h2) hk
theorem uW {kindOf:u3->nk NameKind} {x:u3} {v:fC}:∀{P:C'} {vs:Dd} {i:Nat} {m:Dk},P.Nodup->P[i]? =aS x->vs[i]? =aS v->kindOf x≠aS .local->
  bindC kindOf (P.zip vs) m x=aS v
 | [],_,_,_,_,h,_,_=>by simp at h
 | _::_,[],_,_,_,_,h,_=>by simp at h
 | p::P,w::vs,0,m,nd,h1,h2,hk=>by
   simp at h1 h2;subst h1;subst h2;show bindC kindOf ((p,w)::P.zip vs) m p=_;unfold bindC;rw[uV λv O=>(MO.mp nd).1 (Nv O).1,ko hk];simp
 | p::P,w::vs,i + 1,m,nd,h1,h2,hk=>by
   show bindC kindOf ((p,w)::P.zip vs) m x=_;unfold bindC;exact uW (i:=i) (MO.mp nd).2 (by simpa using h1) (by simpa using h2) hk
noncomputable def lQ (N:C') (vs:eA V):St:=vs.map aS++ra (N.length - vs.length) eC
noncomputable def cxOf (CX:CXT) (P:oe) (w:sb) (K:aT) (mg:Dk) (base:u2) (N:C') (qual:u3) (scope:Jq) (f:eh) (cd:fC) (A:u7) (outer:eA Env) (s:eL) (H:Hp) (E:XK):Cx where
 prog:=P
 w:=w
 K:=K
 mg:=mg
 base:=base
 A:=A.deeper (envOfC qual scope s.heap.objs.size f cd)
 N:=N
 s₀:=s
 H₀:=H
 env:=envOfC qual scope s.heap.objs.size f cd
 outer:=outer
 stack:=envOfC qual scope s.heap.objs.size f cd::outer
 ex:=[]
 calm:=true
 fn:=λ_=>true
 pn:=[]
 xe:=λe s'=>gn (hL P w) (A.deeper (envOfC qual scope s.heap.objs.size f cd)) (leaving (envOfC qual scope s.heap.objs.size f cd) e) (λ_ O=>CX outer H s E e O) (fun θ O=>CX outer H s E θ O) s'
theorem xB {sc:Jq} {n:Nat} {x:u3} (h:sc.names.lookup x=aS .cell):∃c,(cellsFrom n sc.names []).lookup x=aS c:=by
 have q:=Oo sc.names n [] (.inl h);exact Option.isSome_iff_exists.mp q
theorem Ax {CX:CXT} {P:oe} {w:sb} {K:aT} {mg:Dk} {base:u2} {N ps:C'} {qual:u3} {scope:Jq} {f:eh} {cd:fC} {A:u7} {outer:eA Env} {s α:eL} {H:Hp} {E:XK} {us:Dd} {vs:eA V}
  (S:aD N ps scope) (hd:A.handled=eC) (O:Env0 P w K mg base A outer s H) (hl:vs.length=ps.length) (r:Vals vs us)
  (x:InCallC s s.heap.objs.size (bindL (envOfC qual scope s.heap.objs.size f cd).kindOf (ps.zip us) λ_=>eC) (cellsFrom (s.heap.objs.size + 1) scope.names []) (bindC (envOfC qual scope s.heap.objs.size f cd).kindOf (ps.zip us) λ_=>eC) α):
  Inv (cxOf CX P w K mg base N qual scope f cd A outer s H E) [] (lQ N vs) H α:=by
 have γ:ps.length<=N.length:=by have:=y' Mo S.pre;rw[x4] at this;omega
 obtain⟨h1,tk,rfl,hk⟩:=x.done;have Y:∀b:eh,b∉(cxOf CX P w K mg base N qual scope f cd A outer s H E).ex:=λb z=>gd (show b∈([]:G') from z) @E
 refine⟨⟨O.mod,S.kind,rfl,rfl,mu _,λy z c h1 h2=>?_,λy hy=>?_,λy c _ h=>?_,λ_=>hd,OX O.frames,.inr ⟨rfl,rfl⟩,λb z=>gd z (Y b),O.bs,O.bsz,λb _ _=>Y b,λb z=>gd z (Y b),O.funs,O.frf⟩,
  rfl,O.bare,Un.kept hk,⟨_,x.toInCall.ns,λi y v h1 h2 δ=>?_⟩,λy c h=>⟨_,x.cell y c h⟩,O.hok.fresh (mu _),λy c h=>?_,λp hp=>gd (show p∈([]:DC) from hp) @E,O.hok.kept hk,?_⟩
 ·exact name_of_addr x.apart (u9 h1) (u9 h2)
 ·have hy:scope.names.lookup y=aS .cell∨scope.names.lookup y=aS .free:=hy;rcases hy with hy | hy
  ·exact xB hy
  ·exact gd rfl (S.nofree _ (u9 hy))
 ·exact Kw (x.above y c (u9 h))
 ·have hi:i < vs.length:=by
   unfold lQ at h2;by_cases hi:i < vs.length
   ·exact hi
   ·rw[rg (by simpa using hi)] at h2;rw[OM] at h2;split at h2<;>cases h2
  have ha:vs[i]? =aS v:=by
   unfold lQ at h2;rw[oP (by simpa using hi),f'] at h2;cases e:vs[i]? with
   | none=>rw[e] at h2;cases h2
   | some a=>rw[e] at h2;cases h2;rfl
  obtain⟨u,hu,β⟩:=r.get ha
  have hp:ps[i]? =aS y:=by
   rw[<-S.pre,Mt @A];exact h1
  have Z:ps.Nodup:=by rw[<-S.pre];exact S.nd.sublist (Nx _ _)
  refine⟨u,β,?_⟩;rcases S.par y (eO hp) with k | k
  ·exact .inl ⟨k,uU Z hp hu k⟩
  ·obtain⟨c,e⟩:=xB (n:=s.heap.objs.size + 1) k;refine .inr ⟨.inl k,c,e,?_⟩;have q:=x.cell y c e;rw[uW Z hp hu (by show scope.names.lookup y≠_;rw[k];decide)] at q;exact q
 ·exact O.hok.fresh (Kw (x.above y c (u9 h)))
 ·unfold lQ;show _=N.length;rw[eH,eB,Ku];omega
theorem Cy {CX:CXT} {P:oe} {w:sb} {K:aT} {mg:Dk} {base:u2} {k:Nat} {f:eh} {name qual:u3} {Y:Arguments} {body:eA Lv} {scope:Jq} {dV kV β ν O ct π:fC} {an od:J0}
  {ο:E'} {N ps:C'} {sp:Sp} (lk:K.lookup f=aS ⟨π,od,.func (JX name qual Y body scope dV kV β ν an O ct),ο⟩) (θ:Lb K O qual=true) (S:aD N ps scope)
  (len:∀vs H Q E,sp vs H Q E->vs.length=ps.length)
  (α:∀(A:u7) (outer:eA Env) (s:eL) (H:Hp) (vs:eA V) (Q:VK) (E:XK),Room k (A.deeper (envOfC qual scope s.heap.objs.size f O))->sp vs H Q E->
   ∃t,PSs (cxOf CX P w K mg base N qual scope f O A outer s H E) body t/\t {nx:=λ_ H'=>Q .non H',rt:=Q} (lQ N vs) H):
  FnOk P w K mg base CX (k + 1) f (JX name qual Y body scope dV kV β ν an O ct) ps sp:=by
 refine⟨len,λA outer s H args us vs Q E η δ hb r γ=>?_⟩;have hl:=len _ _ _ _ γ;have ξ:K.In s.heap:=δ.mod.kin.keeps λb o e=>(δ.bs b o e).1;have ε:s.heap.NoLimit:=δ.mod.nolimit.keeps λb o e=>(δ.bs b o e).1
 have Z:∀y∈ps.zip us,scope.names.lookup y.1=aS .local∨(scope.names.lookup y.1=aS .cell/\((cellsFrom (s.heap.objs.size + 1) scope.names []).lookup y.1).isSome=true):=λ⟨n,v⟩ ρ=>by
  rcases S.par n (Nv ρ).1 with q | q
  ·exact .inl q
  ·exact .inr ⟨q,Oo _ _ _ (.inl q)⟩
 refine codeAny_call_function η.depth (ξ _ _ lk) rfl S.co S.gen rfl (PySem.W.codeRec_of ξ θ) (hb _ _ _ _ ?_);refine wpAny_newFunctionEnv_cells S.kind Z λenv he ι x=>?_;subst he;refine⟨ε.keeps x.toInCall.keep,codeAny_func ?_⟩;obtain⟨t,ht,τ⟩:=α A outer s H vs Q E (η.deeper _) γ;have I:Inv (cxOf CX P w K mg base N qual scope f O A outer s H E) [] (lQ N vs) H ι:=Ax S η.hd δ hl r x;refine JW (ht [] ι (lQ N vs) H _ I τ) (fun υ s' hs=>?_) λe s' hs=>hs
 have fin:∀{σ':St} {H':Hp} {v:V} {u:fC},Inv (cxOf CX P w K mg base N qual scope f O A outer s H E) [] σ' H' s'->RelV v u->Q v H'->CE outer P w H s Q u s':=
  λ{σ' H' v u} J ζ q=>⟨v,H',J.os,J.bare,J.base,J.hok,ζ,q⟩
 cases υ with
 | ret u=>
   obtain⟨v,σ',H',J,ζ,q⟩:=hs;exact fin J ζ q
 | next=>
   obtain⟨σ',H',J,q⟩:=hs;exact fin (v:=V.non) (u:=JB) J rfl q
 | brk=>
   obtain⟨_,_,_,q⟩:=hs;exact z4 q
 | cont=>
   obtain⟨_,_,_,q⟩:=hs;exact z4 q
section
variable {X:Cx} {x:u3} {p pos:Pos} {e:x7} {es:eA x7} {t:TA} {id T:Jy} {r:eA V->Hp->VK->Prop}
noncomputable abbrev tCB (r:eA V->Hp->VK->Prop) (t:TA):TE:=fun σ H Q=>t σ H λvs H1=>r vs H1 Q
theorem aE (hc:mL X (.builtin id) r) (ε:Gl X x) (hm:X.mg x=eC) (δ:bootBuiltins x=aS (.builtin id)) (ha:PA X (e::es) t) (hn:x≠"__name__":=by decide) (Z:(x == ("__debug__":u3))=false:=by decide)
  (he:lx (e::es) X.env=(false,eval e X.env)::lx es X.env:=by rfl) (Y:(backTo pos (lx es X.env)).any (·.1)=false:=by rfl):PE X (.Call (.Name x p) (e::es) [] pos) (tCB r t):=by
 intro pins s σ H Q I h;refine KD (iC I ε hm δ ?_ hn Z);exact PyProof.Rows.callWith_builtin1 (thn (ha pos pins s σ H _ I h) λus α ⟨vs,H1,O,β,γ⟩=>hc pins α σ H1 vs us Q O β γ) he Y
theorem fh (hc:mL X (.type T) r) (ε:Gl X x) (hm:X.mg x=eC) (δ:bootBuiltins x=aS (.type T)) (ha:PA X (e::es) t) (hn:x≠"__name__":=by decide) (Z:(x == ("__debug__":u3))=false:=by decide)
  (he:lx (e::es) X.env=(false,eval e X.env)::lx es X.env:=by rfl) (Y:(backTo pos (lx es X.env)).any (·.1)=false:=by rfl):PE X (.Call (.Name x p) (e::es) [] pos) (tCB r t):=by
 intro pins s σ H Q I h;refine KD (iC I ε hm δ ?_ hn Z);exact wh (thn (ha pos pins s σ H _ I h) λus α ⟨vs,H1,O,β,γ⟩=>hc pins α σ H1 vs us Q O β γ) he Y
end
end L2
namespace HT
open PySem PyProof.Rows
section
variable {prog:oe} {w:sb} {A:u7} {E:DB} {s:eL}
noncomputable def sIx (n d:Nat):nk Int->Nat
 | none=>d
 | some v=>if v < 0 then (v + (n:Int)).toNat else min v.toNat n
theorem sIx_none (n d:Nat):sIx n d eC=d:=rfl
theorem sIx_nat (n d k:Nat):sIx n d (aS (k:Int))=min k n:=by
 show(if (k:Int) < 0 then ((k:Int) + (n:Int)).toNat else min (k:Int).toNat n)=min k n;rw[ko @A,pT]
theorem GR (n d:Nat) (hd:d<=n) (o:nk Int):sIx n d o<=n:=by
 cases o with
 | none=>exact hd
 | some v=>
   show(if v < 0 then (v + (n:Int)).toNat else min v.toNat n)<=n;by_cases O:v < 0
   ·rw[px O];omega
   ·rw[ko O];exact Nat.min_le_right _ _
theorem A8 (v:Int) (n d:Nat):(if v < 0 then max (v + (n:Int)) 0 else min v (n:Int))=((sIx n d (aS v):Nat):Int):=by
 show(if v < 0 then max (v + (n:Int)) 0 else min v (n:Int))=(((if v < 0 then (v + (n:Int)).toNat else min v.toNat n):Nat):Int);by_cases O:v < 0
 ·simp only[px O];omega
 ·simp only[ko O];omega
theorem yE (lo hi:nk Int) (n:Nat):LW lo hi 1 (n:Int)=(((sIx n 0 lo:Nat):Int),((sIx n n hi:Nat):Int)):=by
 have h1:¬((1:Int) < 0):=by omega
 unfold LW;simp only[h1,Mb];refine Prod.ext ?_ ?_
 ·cases lo with
  | none=>rfl
  | some v=>exact A8 v n 0
 ·cases hi with
  | none=>rfl
  | some v=>exact A8 v n n
theorem yb (i j:Nat):L5 (i:Int) (j:Int) 1=j - i:=by
 unfold L5;have h1:(1:Int) > 0:=by omega
 simp only[h1,Nu,Int.ediv_one];split<;>omega
theorem rf {v:fC} {o:nk Int} {Q:nk Int->eL->Prop} (p:IsPart v o) (h:Q o s):gn (hL prog w) A (Builtin.Slice.slicePartIndex v) Q E s:=by
 cases p with
 | none=>exact slicePart_none h
 | int i t=>exact slicePart_int h
theorem nW {β:eh} {α Z:fC} {lo hi:nk Int} {n:Nat} {Q:Int×Int×Nat->eL->Prop} (hs:s.heap.IsSliceOf β α Z .none) (pl:IsPart α lo) (γ:IsPart Z hi)
  (h:Q (((sIx n 0 lo:Nat):Int),1,sIx n n hi - sIx n 0 lo) s):gn (hL prog w) A (Nf (.ref β) (pure (n:Int))) Q E s:=by
 obtain⟨os,O,δ,Y⟩:=id hs;unfold Nf Builtin.Slice.sliceFields;refine aY (aY (zx O Y (x:=α) rfl (aY (zx O Y (x:=Z) rfl (aY (zx O Y (x:= .none) rfl (eD ?_)))))));refine aY (slicePart_none ?_);show gn _ _ (if ((1:Int) == 0)=true then _ else _) _ _ s;rw[ko @C];refine aY (rf pl (aY (rf γ (aY (eD ?_)))));show gn _ _ (match LW lo hi 1 (n:Int) with | (lo,hi)=>pure (lo,(1:Int),L5 lo hi 1)) _ _ s;rw[yE lo hi n];show gn _ _ (pure (((sIx n 0 lo:Nat):Int),(1:Int),L5 ((sIx n 0 lo:Nat):Int) ((sIx n n hi:Nat):Int) 1)) _ _ s;rw[yb];exact eD h
theorem B1 (xs:Dz) (i k:Nat):((hE k).filterMap λ(m:Nat)=>xs[((i:Int) + (m:Int) * 1).toNat]?).toArray=((xs.toList.drop i).take k).toArray:=by
 have e:(λ(m:Nat)=>xs[((i:Int) + (m:Int) * 1).toNat]?)=λm=>xs[i + m]? :=by
  funext m;have:((i:Int) + (m:Int) * 1).toNat=i + m:=by omega
  rw[this]
 rw[e];have:=pick_run xs i k;rw[List.filterMap_map] at this;have O:((λx=>xs[x]?) ∘ λx=>i + x)=λm=>xs[i + m]? :=rfl;rw[O] at this;rw[this]
theorem getItem_tuple_cut {t Z:eh} {O:Dz} {η δ:fC} {lo hi:nk Int} {Q:DB} (ht:IsTup s.heap t O) (hs:s.heap.IsSliceOf Z η δ .none) (pl:IsPart η lo) (θ:IsPart δ hi)
  (hw:¬(sIx O.size 0 lo=0/\sIx O.size O.size hi=O.size))
  (h:Q (.ref s.heap.objs.size) {s with heap:=s.heap.push {cls:= .type "tuple",data:= .seq ((O.toList.drop (sIx O.size 0 lo)).take (sIx O.size O.size hi - sIx O.size 0 lo)).toArray}})
  (hsz:O.size<=hH):gn (hL prog w) A (getItem (.ref t) (.ref Z)) Q E s:=by
 have Y:sizeOk (.seq ((O.toList.drop (sIx O.size 0 lo)).take (sIx O.size O.size hi - sIx O.size 0 lo)).toArray):=by
  show((O.toList.drop (sIx O.size 0 lo)).take (sIx O.size O.size hi - sIx O.size 0 lo)).toArray.size<=hH;rw[q6,x4,Kj,eY];omega
 have ξ:sIx O.size O.size hi<=O.size:=GR _ _ (mu _) hi;obtain⟨os,α,γ,ι⟩:=id hs;have ζ:s.TypeIs (.ref Z) "slice":=⟨os,α,γ⟩;unfold getItem
 try with_reducible refine K5 ?_
 first | refine aY (eD ?_) | skip
 refine aY (wpAny_sequenceKey ht.typeIs @C ?_)
 refine aY (Kn (name:=Lk "__getitem__") ht.typeIs MU
  (K0 MU ht.typeIs entry_tuple_getitem ?_ (args_tuple_getitem _ _)))
 show gn _ _ (Builtin.Tuple.tupleItemsOf (.ref t) >>=_) _ _ s;refine aY (tupleItemsOf_ ht ?_);refine aY (PB ζ ?_);rw[px @C];refine aY (nW hs pl θ ?_)
 have β:¬((((sIx O.size 0 lo:Nat):Int) == 0&&(1:Int) == 1&&(sIx O.size O.size hi - sIx O.size 0 lo) == O.size)=true):=by
  intro q;rw[xn,xn] at q;have ν:((sIx O.size 0 lo:Nat):Int)=0:=eq_of_beq q.1.1;have ε:sIx O.size O.size hi - sIx O.size 0 lo=O.size:=eq_of_beq q.2;exact hw ⟨by omega,by omega⟩
 show gn _ _ (if (((sIx O.size 0 lo:Nat):Int) == 0&&(1:Int) == 1&&(sIx O.size O.size hi - sIx O.size 0 lo) == O.size)=true then _ else _) _ _ s;rw[ko β,B1]
 first
  | exact aY (m:=Lc _) (z5 (eD ⟨_,rfl,eD h⟩) Y)
  | exact aY (m:=Lc _) (z5 (aY (eD (eD ⟨_,rfl,eD h⟩))) Y)
  | exact aY (aY (m:=Lc _) (z5 (eD (eD ⟨_,rfl,eD h⟩)) Y))
  | exact aY (aY (m:=Lc _) (z5 (eD ⟨_,rfl,eD h⟩) Y))
end
end HT
namespace L2
open PySem PySem.Spec PyProof.Rows
noncomputable abbrev TO:=St->Hp->(nk Int->Hp->Prop)->Prop
def PO (X:Cx) (e:nk x7) (t:TO):Prop:=
 ∀(pins:DC) (s:eL) (σ:St) (H:Hp) (Q:nk Int->Hp->Prop),Inv X pins σ H s->t σ H Q->
  gn (hL X.prog X.w) X.A (evalPart e X.env) (λu s'=>∃o H',Inv X pins σ H' s'/\IsPart u o/\Q o H') X.xe s
noncomputable abbrev El:TO:=λ_ H Q=>Q eC H
noncomputable abbrev Il (t:TE):TO:=fun σ H Q=>t σ H λx H1=>∃i,x= .int i/\Q (aS i) H1
section
variable {X:Cx} {e:x7} {te:TE} {lo hi:nk x7} {tl th:TO} {pos p2:Pos}
theorem jh:PO X eC El:=by
 intro pins s σ H Q I h;rw[evalPart_none];exact eD ⟨eC,H,I,.none,h⟩
theorem jg (h:PE X e te):PO X (aS e) (Il te):=by
 intro pins s σ H Q I hw;rw[evalPart_some];refine thn (h pins s σ H _ I hw) λu α ⟨x,H1,O,Y,Z⟩=>?_;obtain⟨i,rfl,q⟩:=Z;obtain⟨t,rfl⟩:=Y;exact⟨aS i,H1,O,.int i t,q⟩
def SlR (X:Cx) (r:V->nk Int->nk Int->Hp->VK->Prop):Prop:=
 ∀(pins:DC) (s:eL) (σ:St) (H:Hp) (x:V) (v Y O:fC) (lo hi:nk Int) (Z:eh) (Q:VK),Inv X pins σ H s->RelV x v->s.heap.IsSliceOf Z Y O .none->IsPart Y lo->IsPart O hi->r x lo hi H Q->
  ∃T id,typeLookup (.type T) "__getitem__"=pure (aS (.builtin id))/\s.TypeIs v T/\gn (hL X.prog X.w) X.A (getItem v (.ref Z)) (EP X pins σ Q) X.xe s
noncomputable abbrev tSl (r:V->nk Int->nk Int->Hp->VK->Prop) (te:TE) (tl th:TO):TE:=fun σ H Q=>te σ H λx H1=>tl σ H1 λl H2=>th σ H2 λu O=>r x l u O Q
theorem gM {r:V->nk Int->nk Int->Hp->VK->Prop} (ν:SlR X r) (he:PE X e te) (hl:PO X lo tl) (hu:PO X hi th):PE X (.Subscript e (.Slice lo hi eC p2) pos) (tSl r te tl th):=by
 intro pins s σ H Q I h;refine QC (thn (he pins s σ H _ I h) λv δ ⟨x,H1,O,ζ,θ⟩=>?_);refine wpAny_Slice (thn (hl pins δ σ H1 _ O θ) fun α γ ⟨l,H2,π,pl,ε⟩=>thn (hu pins γ σ H2 _ π ε) λZ Y ⟨u,β,I3,ι,η⟩=>?_);rw[evalPart_none];refine eD ?_;have ο:Inv X pins σ β {Y with heap:=Y.heap.push {cls:= .type "slice",data:= .fields #[α,Z,.none]}}:=I3.kept (t':=Y.toks) λb ob q=>en _ q;obtain⟨T,id,hT,ht,ξ⟩:=ν pins {Y with heap:=Y.heap.push {cls:= .type "slice",data:= .fields #[α,Z,.none]}} σ β x v α Z l u Y.heap.objs.size Q ο ζ (Heap.IsSliceOf.new ..) pl ι η;show gn (hL X.prog X.w) X.A (subscriptTail e (.Slice lo hi eC p2) v (.ref Y.heap.objs.size)) (EP X pins σ Q) X.xe {Y with heap:=Y.heap.push {cls:= .type "slice",data:= .fields #[α,Z,.none]}};exact tail_any (ops:=[.ref Y.heap.objs.size,v]) ht hT ξ (by with_unfolding_all rfl)
noncomputable def cutV (xs:eA V) (lo hi:nk Int):eA V:=(xs.drop (HT.sIx xs.length 0 lo)).take (HT.sIx xs.length xs.length hi - HT.sIx xs.length 0 lo)
theorem p3 (xs:eA V) (lo hi:nk Int):(cutV xs lo hi).length<=xs.length:=by
 unfold cutV;rw[x4,Kj];omega
noncomputable def rSlT (K:aT):V->nk Int->nk Int->Hp->VK->Prop:=λx lo hi H Q=>∃a xs,x= .ref a/\SqT K H a xs/\
 ¬(HT.sIx xs.length 0 lo=0/\HT.sIx xs.length xs.length hi=xs.length)/\∀p,H p=eC->Q (.ref p) (upd H p (.tup (cutV xs lo hi)))
theorem Gq:SlR X (rSlT X.K):=by
 intro pins s σ H x v γ β lo hi δ Q I Y hs pl Z h;obtain⟨a,xs,rfl,α,hw,q⟩:=h;cases Y;obtain⟨its,r,ht,hz⟩:=I.tuple α;have O:its.toArray.size=xs.length:=by rw[q6];exact r.length.symm
 refine⟨"tuple",_,PyProof.Rows.slot_tuple_getitem.lookup,ht.typeIs,?_⟩;refine HT.getItem_tuple_cut ht hs pl Z (by rw[O];exact hw) ?_ (by rw[O];exact hz);rw[O];refine⟨.ref s.heap.objs.size,_,I.laid (t':=s.toks) (o:= .tup (cutV xs lo hi)) (λb ob q=>en _ q) (mu _) ?_,rfl,q _ (I.hok.fresh (mu _))⟩;exact⟨Jx (p3 xs lo hi) hz,_,(r.drop (HT.sIx xs.length 0 lo)).take (HT.sIx xs.length xs.length hi - HT.sIx xs.length 0 lo),IsTup.new _ _⟩
end
noncomputable def ixN (n:Nat) (i:Int):nk Nat:=if 0<=i then (if i < n then aS i.toNat else eC) else if -(n:Int)<=i then aS (i + n).toNat else eC
noncomputable def atI {α:Type} (xs:eA α) (i:Int):nk α:=(ixN xs.length i).bind λj=>xs[j]?
theorem Fq {n:Nat} {i:Int} {j:Nat} (h:ixN n i=aS j):seqIndex? i n=aS j/\j < n/\-(n:Int)<=i/\i < n:=by
 unfold ixN at h;by_cases O:0<=i
 ·rw[px O] at h;by_cases h1:i < n
  ·rw[px h1] at h;have e:i.toNat=j:=iv h;exact⟨by rw[seqIndex_of O h1,e],@A,@A,h1⟩
  ·rw[ko h1] at h;cases h
 ·rw[ko O] at h;by_cases h1: -(n:Int)<=i
  ·rw[px h1] at h;have e:(i + n).toNat=j:=iv h;exact⟨by rw[seqIndex_neg @A h1,e],@A,h1,@A⟩
  ·rw[ko h1] at h;cases h
theorem Bc {α:Type} {xs:eA α} {i:Int} {v:α} (h:atI xs i=aS v):∃j,seqIndex? i xs.length=aS j/\xs[j]? =aS v/\j < xs.length/\-(xs.length:Int)<=i/\i < xs.length:=by
 unfold atI at h;cases e:ixN xs.length i with
 | none=>rw[e] at h;cases h
 | some j=>
   rw[e] at h;obtain⟨h1,h2,Y,O⟩:=Fq e;exact⟨j,h1,h,h2,Y,O⟩
theorem fY {α:Type} {xs:eA α} {j:Nat} {v:α} (h:xs[j]? =aS v):atI xs (j:Int)=aS v:=by
 have O:j < xs.length:=(dt.mp h).1
 have e:ixN xs.length (j:Int)=aS j:=by
  unfold ixN;rw[px @A,px @A];simp
 unfold atI;rw[e];exact h
def FX (b:x7):Prop:=∀o i,subscripted b false o i=operate [o,i] (getItem o i)
def IxR (X:Cx) (r:R2):Prop:=
 ∀(value O:x7) (pins:DC) (s:eL) (σ:St) (H:Hp) (x y:V) (v u:fC) (Q:VK),Inv X pins σ H s->RelV x v->RelV y u->r x y H Q->
  subscripted O false v u=operate [v,u] (getItem v u)->gn (hL X.prog X.w) X.A (subscriptTail value O v u) (EP X pins σ Q) X.xe s
def MtR (X:Cx) (id:Jy) (r:V->eA V->Hp->VK->Prop):Prop:=
 ∀(pins:DC) (s:eL) (σ:St) (H:Hp) (x:V) (xs:eA V) (v:fC) (us:Dd) (Q:VK),Inv X pins σ H s->RelV x v->Vals xs us->r x xs H Q->
  gn (hL X.prog X.w) X.A (call (.builtin id) (v::us)) (EP X pins σ Q) X.xe s
section
variable {X:Cx} {a b:x7} {ta tb:TE} {pos:Pos}
theorem aP {r:R2} (α:IxR X r) (ha:PE X a ta) (hb:PE X b tb) (hs:FX b):PE X (.Subscript a b pos) (tOp r ta tb):=by
 intro pins s σ H Q I h;exact QC (binT ha hb I h λv u O x y H2 β Z Y q=>α a b pins O σ H2 x y v u Q β Z Y q (hs _ _))
noncomputable def rIxL (K:aT):R2:=λx y H Q=>∃p xs i v,x= .ref p/\y= .int i/\SqL K H p xs/\atI xs i=aS v/\Q v H
noncomputable def rIxT (K:aT):R2:=λx y H Q=>∃p xs i v,x= .ref p/\y= .int i/\SqT K H p xs/\atI xs i=aS v/\Q v H
theorem Fp:IxR X (rIxL X.K):=by
 intro value O pins s σ H x y v u Q I δ γ h hs;obtain⟨p,xs,i,z,rfl,rfl,ε,he,q⟩:=h;cases δ;obtain⟨t,rfl⟩:=γ;obtain⟨its,r,pl,hz⟩:=I.list ε;obtain⟨j,h1,h2,η,ζ,θ⟩:=Bc he;obtain⟨w,β,Y⟩:=r.get h2;have hl:=r.length;have hn:=Ai;have fin:EP X pins σ Q w s:=⟨z,H,I,Y,q⟩;by_cases α:0<=i
 ·have Z:i.toNat=j:=by
   rw[seqIndex_of α θ] at h1;exact iv h1
  exact item_listR pl.isList α @A (by rw[Z];simpa using β) fin hs
 ·have Z:(i + (its.toArray.size:Int)).toNat=j:=by
   rw[seqIndex_neg @A ζ] at h1;rw[q6,<-hl];exact iv h1
  exact PN (x:=w) pl.isList.typeIs slot_list_getitem.lookup
   (wpAny_getItem_list_neg (Q:=λr s'=>r=w/\EP X pins σ Q r s') pl.isList @A (by rw[q6]<;>omega) @A (by rw[Z];simpa using β) ⟨rfl,fin⟩) hs
theorem Hq:IxR X (rIxT X.K):=by
 intro value O pins s σ H x y v u Q I α Z h hs;obtain⟨p,xs,i,z,rfl,rfl,β,he,q⟩:=h;cases α;obtain⟨t,rfl⟩:=Z;obtain⟨its,r,pl,hz⟩:=I.tuple β;obtain⟨j,h1,h2,ε,δ,θ⟩:=Bc he;obtain⟨w,γ,Y⟩:=r.get h2;have hl:=r.length;have hn:=Ai;have fin:EP X pins σ Q w s:=⟨z,H,I,Y,q⟩
 exact PN (x:=w) pl.typeIs slot_tuple_getitem.lookup
  (getItem_tuple (j:=j) (Q:=λr s'=>r=w/\EP X pins σ Q r s') pl @A @A (by rw[q6,<-hl];exact h1) (by simpa using γ) ⟨rfl,fin⟩) hs
theorem tO (lo hi:nk Int) (n:Nat):(sliceBounds lo hi eC n).1=((HT.sIx n 0 lo:Nat):Int)/\(sliceBounds lo hi eC n).2.1=((HT.sIx n n hi:Nat):Int)/\(sliceBounds lo hi eC n).2.2=1:=by
 refine⟨?_,?_,rfl⟩
 ·cases lo with
  | none=>simp[sliceBounds,HT.sIx]
  | some i=>
    simp only[sliceBounds,HT.sIx,P6,show(1:Int) > 0 by decide,Nu];by_cases h:i < 0
    ·simp only[h,Nu]<;>omega
    ·simp only[h,Mb]<;>omega
 ·cases hi with
  | none=>simp[sliceBounds,HT.sIx]
  | some i=>
    simp only[sliceBounds,HT.sIx,P6,show(1:Int) > 0 by decide,Nu];by_cases h:i < 0
    ·simp only[h,Nu]<;>omega
    ·simp only[h,Mb]<;>omega
theorem rL (its:Dd) (lo hi:nk Int):slicePick its.toArray lo hi eC=((its.drop (HT.sIx its.length 0 lo)).take (HT.sIx its.length its.length hi - HT.sIx its.length 0 lo)).toArray:=by
 obtain⟨h1,h2,O⟩:=tO lo hi its.toArray.size;unfold slicePick;rw[h1,h2,O];simp only[sliceRange_one,pick_run,q6]<;>rfl
noncomputable def rSlL (K:aT):V->nk Int->nk Int->Hp->VK->Prop:=λx lo hi H Q=>∃a xs,x= .ref a/\SqL K H a xs/\∀p,H p=eC->Q (.ref p) (upd H p (.lst (cutV xs lo hi)))
theorem EC:SlR X (rSlL X.K):=by
 intro pins s σ H x v γ β lo hi δ Q I Y hs pl Z h;obtain⟨a,xs,rfl,α,q⟩:=h;cases Y;obtain⟨its,r,ht,hz⟩:=I.list α;have O:=r.length;refine⟨"list",_,slot_list_getitem.lookup,ht.isList.typeIs,?_⟩;refine wpAny_getItem_list_slice ht.isList hs pl Z .none @E ?_ (by rw[q6]<;>omega);rw[rL,<-O];refine⟨.ref s.heap.objs.size,_,I.laid (t':=s.toks) (o:= .lst (cutV xs lo hi)) (λb ob q=>en _ q) (mu _) ?_,rfl,q _ (I.hok.fresh (mu _))⟩;exact⟨Jx (p3 xs lo hi) hz,_,0,(r.drop (HT.sIx xs.length 0 lo)).take (HT.sIx xs.length xs.length hi - HT.sIx xs.length 0 lo),hG _ rfl⟩
noncomputable def pP:V->JC
 | .non=>true
 | .bl _=>true
 | .int _=>true
 | .str _=>true
 | _=>false
noncomputable def eqV:V->V->JC
 | .non,.non=>true
 | .bl a,.bl b=>a == b
 | .bl a,.int b=>(if a then 1 else 0) == b
 | .int a,.bl b=>a == (if b then 1 else 0)
 | .int a,.int b=>a == b
 | .str a,.str b=>a == b
 | _,_=>false
theorem HE {A:u7} {s:eL} {y x:V} {u v:fC} (Y:RelV y u) (O:RelV x v) (Z:pP y=true) (fx:pP x=true):SeqAt.EqAt A s u v (eqV y x):=by
 cases y with
 | non=>
   cases Y;cases x with
   | non=>cases O;exact SeqAt.EqAt.same _
   | bl b=>cases O;exact SeqAt.EqAt.none_bool b
   | int b=>obtain⟨t,rfl⟩:=O;exact SeqAt.EqAt.none_int b t
   | str b=>obtain⟨t,rfl⟩:=O;exact SeqAt.EqAt.none_str b t
   | _=>exact gd (show false=true from fx) hC
 | bl a=>
   cases Y;cases x with
   | non=>cases O;exact SeqAt.EqAt.bool_none a
   | bl b=>cases O;exact SeqAt.EqAt.bool_bool a b
   | int b=>obtain⟨t,rfl⟩:=O;exact SeqAt.EqAt.bool_int a b t
   | str b=>obtain⟨t,rfl⟩:=O;exact SeqAt.EqAt.bool_str a b t
   | _=>exact gd (show false=true from fx) hC
 | int a=>
   obtain⟨t',rfl⟩:=Y;cases x with
   | non=>cases O;exact SeqAt.EqAt.int_none a t'
   | bl b=>cases O;exact SeqAt.EqAt.int_bool a t' b
   | int b=>obtain⟨t,rfl⟩:=O;exact SeqAt.EqAt.int_int a t' b t
   | str b=>obtain⟨t,rfl⟩:=O;exact OE a t' b t
   | _=>exact gd (show false=true from fx) hC
 | str a=>
   obtain⟨t',rfl⟩:=Y;cases x with
   | non=>cases O;exact SeqAt.EqAt.str_none a t'
   | bl b=>cases O;exact SeqAt.EqAt.str_bool a t' b
   | int b=>obtain⟨t,rfl⟩:=O;exact OD a t' b t
   | str b=>obtain⟨t,rfl⟩:=O;exact SeqAt.EqAt.str_str a t' b t
   | _=>exact gd (show false=true from fx) hC
 | _=>exact gd (show false=true from Z) hC
theorem uP:mL X (.type "list") (λxs H Q=>∃p ys,xs=[.ref p]/\(SqL X.K H p ys∨SqT X.K H p ys)/\∀l,H l=eC->Q (.ref l) (upd H l (.lst ys))):=by
 intro pins s σ H xs us Q I r h;obtain⟨p,ys,rfl,hq,q⟩:=h;obtain⟨u,rfl,α⟩:=tJ r;cases α
 have fin:∀(its:Dd),Vals ys its->ys.length<=hH->∀(h':u2) (O:Nat),(∀b o',s.heap.get? b=aS o'->h'.get? b=aS o')->
   h'.get? s.heap.objs.size=aS {cls:= .type "list",dict:=eC,data:= .seq its.toArray O,slots:=#[]}->EP X pins σ Q (.ref s.heap.objs.size) {s with heap:=h'}:=λits r' hz h' O kp e=>
  ⟨.ref s.heap.objs.size,_,I.laid (t':=s.toks) kp (mu _) (show fJ X.prog X.w _ h' _ (.lst ys) from⟨hz,its,O,r',e⟩),rfl,q _ (I.hok.fresh (mu _))⟩
 rcases hq with hq | hq
 ·obtain⟨its,r',pl,hz⟩:=I.list hq;have Y:=r'.length;obtain⟨o,ho,Z,n,hd⟩:=pl.isList;exact call_list_seq p (.inl rfl) ho Z hd (λh' O kp e=>fin its r' hz h' O kp e) (by simp only[q6]<;>omega)
 ·obtain⟨its,r',pl,hz⟩:=I.tuple hq;have Y:=r'.length;obtain⟨o,ho,Z,n,hd⟩:=pl;exact call_list_seq p (.inr rfl) ho Z hd (λh' O kp e=>fin its r' hz h' O kp e) (by simp only[q6]<;>omega)
theorem sO:mL X (.type "tuple") (λxs H Q=>∃p ys,xs=[.ref p]/\((SqL X.K H p ys/\∀l,H l=eC->Q (.ref l) (upd H l (.tup ys)))∨(SqT X.K H p ys/\Q (.ref p) H))):=by
 intro pins s σ H xs us Q I r h;obtain⟨p,ys,rfl,h⟩:=h;obtain⟨u,rfl,Z⟩:=tJ r;cases Z;rcases h with ⟨O,q⟩ | ⟨O,q⟩
 ·obtain⟨its,r',pl,hz⟩:=I.list O;have Y:=r'.length;refine call_tuple_list pl.isList (λh' kp=>?_) (by simp only[q6]<;>omega);have I1:Inv X pins σ H {s with heap:=h'}:=I.kept (t':=s.toks) kp
  have α:Inv X pins σ (upd H h'.objs.size (.tup ys)) {s with heap:=h'.push {cls:= .type "tuple",data:= .seq its.toArray}}:=
   I1.laid (t':=s.toks) (λb o e=>en _ e) (mu _) (show fJ X.prog X.w _ _ _ (.tup ys) from⟨hz,its,r',IsTup.new _ _⟩)
  exact⟨.ref h'.objs.size,_,α,rfl,q _ (I1.hok.fresh (mu _))⟩
 ·obtain⟨its,r',pl,hz⟩:=I.tuple O;exact call_tuple_same pl ⟨.ref p,H,I,rfl,q⟩
def tyV (K:aT) (T:Jy) (x:V) (H:Hp):Prop:=match x with
 | .str _=>T="str"
 | .int _=>T="int"
 | .ref p=>(T="list"/\∃xs,SqL K H p xs)∨(T="tuple"/\∃o,K.lookup p=aS o/\o.cls= .type "tuple"/\o.dict=eC)∨
   (T="dict"/\((∃kvs,H p=aS (.dK kvs))∨∃kvs,H p=aS (.dT kvs)))∨(T="set"/\∃S n,H p=aS (.set S n))
 | _=>False
theorem C8 {pins:DC} {σ:St} {H:Hp} {s:eL} {T:Jy} {x:V} {v:fC} (I:Inv X pins σ H s) (r:RelV x v) (ty:tyV X.K T x H):
  s.TypeIs v T/\∀a,v= .ref a->∃ob,s.heap.get? a=aS ob/\ob.dict=none:=by
 cases x with
 | str z=>
   obtain⟨t,rfl⟩:=r;cases(show T="str" from ty);exact⟨typeIs_str s z t,λ_ e=>nomatch e⟩
 | int i=>
   obtain⟨t,rfl⟩:=r;cases(show T="int" from ty);exact⟨QA s i t,λ_ e=>nomatch e⟩
 | ref p=>
   cases r;rcases ty with ⟨rfl,xs,Y⟩ | ⟨rfl,o,hk,Z,hd⟩ | ⟨rfl,hk⟩ | ⟨rfl,S,n,hk⟩
   ·obtain⟨its,_,pl,_⟩:=I.list Y;refine⟨pl.isList.typeIs,λa e=>?_⟩;cases e;obtain⟨o,n,e,c,hd,_⟩:=pl;exact⟨o,e,hd⟩
   ·refine⟨⟨o,I.kIn p o hk,Z⟩,λa e=>?_⟩;cases e;exact⟨o,I.kIn _ o hk,hd⟩
   ·have z:∃o,s.heap.get? p=aS o/\o.ExactDict:=by
     rcases hk with ⟨kvs,hk⟩ | ⟨kvs,hk⟩
     ·obtain⟨_,_,_,_,o,_,_,e,ex,_⟩:=I.hok p _ hk;exact⟨o,e,ex⟩
     ·obtain⟨_,_,_,_,o,_,_,e,ex,_⟩:=I.hok p _ hk;exact⟨o,e,ex⟩
    obtain⟨o,e,ex⟩:=z;refine⟨⟨o,e,ex.1⟩,λa O=>?_⟩;cases O;exact⟨o,e,ex.2.1⟩
   ·obtain⟨o,_,_,_,e,ex,_⟩:=I.hok p _ hk;refine⟨⟨o,e,ex.1⟩,λa O=>?_⟩;cases O;exact⟨o,e,ex.2.1⟩
 | _=>exact z4 ty
noncomputable abbrev tBM0 (K:aT) (T:Jy) (r:V->eA V->Hp->VK->Prop) (to:TE):TE:=fun σ H Q=>to σ H λx H1=>tyV K T x H1/\r x [] H1 Q
noncomputable abbrev tBM (K:aT) (T:Jy) (r:V->eA V->Hp->VK->Prop) (to:TE) (t:TA):TE:=fun σ H Q=>to σ H λx H1=>tyV K T x H1/\t σ H1 λxs H2=>r x xs H2 Q
variable {o e:x7} {es:eA x7} {to:TE} {t:TA} {name:u3} {apos cpos:Pos} {T id:Jy} {r:V->eA V->Hp->VK->Prop}
theorem G5 (Z:PlainAttrs T) (slot:Slot T name id) (β:typeOf (.builtin id)=pure (.type "method_descriptor")) (hm:MtR X id r) (ho:PE X o to)
  (α:attributeBase o name X.env (eval o X.env)=eval o X.env:=by rfl) (Y:(apos.endLine == cpos.line)=true:=by rfl):PE X (.Call (.Attribute o name apos) [] [] cpos) (tBM0 X.K T r to):=by
 intro pins s σ H Q I h;refine wpAny_Call_method0_late α Y (thn (ho pins s σ H _ I h) λv δ ⟨x,H1,O,γ,ty,ε⟩=>?_);obtain⟨h1,h2⟩:=C8 O γ ty;exact⟨T,id,Z,slot,β,h1,h2,OO rfl (PySem.evalArgs_none (hm pins δ σ H1 x [] v [] Q O γ .nil ε))⟩
theorem IM (Z:PlainAttrs T) (slot:Slot T name id) (δ:typeOf (.builtin id)=pure (.type "method_descriptor")) (hm:MtR X id r) (ho:PE X o to) (ha:PA X (e::es) t)
  (β:attributeBase o name X.env (eval o X.env)=eval o X.env:=by rfl)
  (γ:((backTo cpos (lx (e::es) X.env)).all (λx=> !x.1)&&(backToKw cpos (keywordEach [] X.env)).all (λx=>x.1.isSome)
   &&decide ((e::es).length + ([]:eA Keyword).length + (if ([]:eA Keyword).isEmpty then 0 else 1) < 30))=true:=by rfl)
  (α:(apos.endLine == cpos.line)=true:=by rfl) (hs:lx (e::es) X.env=(false,eval e X.env)::lx es X.env:=by rfl) (Y:(backTo cpos (lx es X.env)).any (·.1)=false:=by rfl):
  PE X (.Call (.Attribute o name apos) (e::es) [] cpos) (tBM X.K T r to t):=by
 intro pins s σ H Q I h;refine wpAny_Call_method_late β γ α rfl (thn (ho pins s σ H _ I h) λv θ ⟨x,H1,O,ζ,ty,ν⟩=>?_);obtain⟨h1,h2⟩:=C8 O ζ ty;refine⟨T,id,Z,slot,δ,h1,h2,?_⟩;have hA:=ha cpos pins θ σ H1 _ O ν;rw[hs] at hA ⊢;refine OO (by show(false||(backTo cpos (lx es X.env)).any (·.1))=false;rw[Y]<;>rfl) (P9 ?_);exact thn hA λus η ⟨vs,H2,ξ,ι,ε⟩=>hm pins η σ H2 x vs v us Q ξ ζ ι ε
end
def MtM (X:Cx) (id:Jy) (r:V->eA V->Hp->VK->Prop):Prop:=
 ∀(pins:DC) (s:eL) (σ:St) (H:Hp) (x:V) (xs:eA V) (v:fC) (us:Dd) (Q:VK),Inv X pins σ H s->RelV x v->Vals xs us->r x xs H Q->
  gn (hL X.prog X.w) X.A (call (.builtin id) (v::us)) (EP X pins σ Q) X.xe s
theorem Vals.one:∀{x:V} {us:Dd},Vals [x] us->∃u,us=[u]/\RelV x u
 | _,_,.cons r .nil=>⟨_,rfl,r⟩
theorem Vals.zero:∀{us:Dd},Vals [] us->us=[]
 | _,.nil=>rfl
theorem Vals.rep {xs:eA V} {us:Dd} (h:Vals xs us):∀k:Nat,Vals (ra k xs).flatten (ra k us).flatten
 | 0=> .nil
 | k + 1=>by
   rw[KY,KY,Me,Me];exact Vals.append h (Vals.rep h k)
theorem uB (its:Dd):∀(k:Nat) (O:Dd),
  Pr (λx1 x2=>x1++x2) O.toArray (ra k its.toArray)=(O++(ra k its).flatten).toArray
 | 0,O=>by simp
 | k + 1,O=>by
   have e:O.toArray++its.toArray=(O++its).toArray:=by simp
   have Y:(O++its)++(ra k its).flatten=O++(ra (k + 1) its).flatten:=by
    rw[KY,Me,Lq]
   rw[<-Y,<-uB its k (O++its),<-e,KY,Qn]
section
variable {X:Cx} {pins:DC} {σ:St} {H:Hp} {s:eL} {l b:eh} {xs ys zs:eA V}
theorem Inv.lset {its its':Dd} {n:Nat} {f:Dz->Dz} {t':Nat} (I:Inv X pins σ H s) (Y:H l=aS (.lst xs))
  (e:s.heap.get? l=aS {cls:= .type "list",data:= .seq its.toArray n}) (hf:f its.toArray=its'.toArray) (O:Vals ys its') (hz:ys.length<=hH):
  Inv X pins σ (upd H l (.lst ys)) {s with heap:=s.heap.update l (w1 f),toks:=t'}:=by
 have q:=PySem.IsL.update e f;rw[hf] at q;refine I.write (x:=l) (e:=l) (by rw[Y];exact trivial) (.inl rfl) (λZ u hb hu=>(JF s.heap (w1 f) (vl hb)).trans hu) ⟨_,q⟩ ?_;exact⟨hz,its',_,O,q⟩
theorem Inv.lnew {its:Dd} {t':Nat} (I:Inv X pins σ H s) (O:Vals ys its) (hz:ys.length<=hH):
  Inv X pins σ (upd H s.heap.objs.size (.lst ys)) {s with heap:=s.heap.push {cls:= .type "list",data:= .seq its.toArray},toks:=t'}:=
 I.laid (λ_ _ q=>en _ q) (mu _) ⟨hz,its,0,O,hG _ rfl⟩
theorem Inv.fresh (I:Inv X pins σ H s):H s.heap.objs.size=none:=I.hok.fresh (mu _)
theorem Inv.lstM (I:Inv X pins σ H s) (O:H l=aS (.lst xs)):xs.length<=hH/\∃(its:Dd) (n:Nat),Vals xs its/\xs.length=its.length/\s.heap.get? l=aS {cls:= .type "list",data:= .seq its.toArray n}:=by
 obtain⟨z,its,n,r,e⟩:=I.hok l _ O;exact⟨z,its,n,r,r.length,e⟩
theorem xc {n:Nat} (h:n<=hH):Ld n=false:=by
 unfold Ld;exact fA @A
end
section
variable {X:Cx}
noncomputable def zR:V->eA V->Hp->VK->Prop:=λx vs H Q=>∃l xs y,x= .ref l/\vs=[y]/\H l=aS (.lst xs)/\xs.length < hH/\Q .non (upd H l (.lst (xs++[y])))
theorem dZ:MtM X "list.append" zR:=by
 intro pins s σ H x vs v us Q I Y Z h;obtain⟨l,xs,y,rfl,rfl,O,hz,q⟩:=h;cases Y;obtain⟨u,rfl,α⟩:=Z.one;obtain⟨z,its,n,r,hl,e⟩:=I.lstM O;refine NW F.slot_list_append ⟨_,e,rfl⟩ F.entry_list_append (F.args_list_append_2 _ _) (PySem.list_append l its.toArray n u (by rw[q6];omega)) ⟨e,?_⟩;refine⟨.non,_,I.lset (its':=its++[u]) O e @E (r.append (.cons α .nil)) ?_,rfl,q⟩;rw[eH,Kc];omega
noncomputable def zQ:V->eA V->Hp->VK->Prop:=λx vs H Q=>∃l b xs zs,x= .ref l/\vs=[.ref b]/\H l=aS (.lst xs)/\H b=aS (.lst zs)/\xs.length + zs.length<=hH/\Q .non (upd H l (.lst (xs++zs)))
theorem Ae:MtM X "list.extend" zQ:=by
 intro pins s σ H x vs v us Q I α β h;obtain⟨l,b,xs,zs,rfl,rfl,Z,ζ,hz,q⟩:=h;cases α;obtain⟨u,rfl,δ⟩:=β.one;cases δ;obtain⟨z,its,n,r,hl,e⟩:=I.lstM Z;obtain⟨γ,ο,Y,ε,hl2,η⟩:=I.lstM ζ;have hsz:its.toArray.size + ο.toArray.size<=sizeLine:=by rw[q6,q6];omega
 have O:¬(!its.toArray.isEmpty&&Ld (its.toArray.size + ο.toArray.size))=true:=by
  rw[xc hsz,Ks];exact hC
 refine NW F.slot_list_extend ⟨_,e,rfl⟩ F.entry_list_extend (F.args_list_extend_2 _ _)
  (AutoSeq1.list_extend_list_list_0 l its.toArray n b ο.toArray Y O (by rw[q6];omega) @A) ⟨e,η,?_⟩
 refine⟨.non,_,I.lset (its':=its++ο) Z e @E (r.append ε) ?_,rfl,q⟩;rw[eH];omega
noncomputable def DG:V->eA V->Hp->VK->Prop:=λx vs H Q=>∃l xs,x= .ref l/\vs=[]/\H l=aS (.lst xs)/\Q .non (upd H l (.lst []))
theorem B9:MtM X "list.clear" DG:=by
 intro pins s σ H x vs v us Q I Y Z h;obtain⟨l,xs,rfl,rfl,O,q⟩:=h;cases Y;have η:=Z.zero;subst η;obtain⟨z,its,n,r,hl,e⟩:=I.lstM O;refine NW F.slot_list_clear ⟨_,e,rfl⟩ F.entry_list_clear (F.args_list_clear_1 _) (AutoSeq1.list_clear_list_0 l its.toArray n (by rw[q6];omega)) ⟨e,?_⟩;exact⟨.non,_,I.lset (its':=[]) (ys:=[]) O e rfl .nil (Ka _),rfl,q⟩
noncomputable def rCat:R2:=λx y H Q=>∃l b xs zs,x= .ref l/\y= .ref b/\H l=aS (.lst xs)/\H b=aS (.lst zs)/\xs.length + zs.length<=hH/\∀p,H p=eC->Q (.ref p) (upd H p (.lst (xs++zs)))
theorem jz:OpR X (binaryOp .Add) rCat:=by
 intro pins s σ H x y v u Q I Z O h;obtain⟨l,b,xs,zs,rfl,rfl,β,δ,hz,q⟩:=h;cases Z;cases O;obtain⟨z,its,n,r,hl,e⟩:=I.lstM β;obtain⟨γ,ο,Y,α,hl2,ε⟩:=I.lstM δ;refine PySem.P.add_list e ε ?_ (by rw[q6,q6];omega);have ea:its.toArray++ο.toArray=(its++ο).toArray:=by simp
 rw[ea];exact⟨.ref _,_,I.lnew (t':=s.toks) (r.append α) (by rw[eH];omega),rfl,q _ I.fresh⟩
noncomputable def rRep:R2:=λx y H Q=>∃l k xs,x= .ref l/\y= .int k/\H l=aS (.lst xs)/\-(2 ^ 63)<=k/\k < 2 ^ 63/\xs.length * k.toNat<=hH/\
 ∀p,H p=eC->Q (.ref p) (upd H p (.lst (ra k.toNat xs).flatten))
theorem Fj {α:Type} (xs:eA α) (k:Nat):(ra k xs).flatten.length=k * xs.length:=by
 induction k with
 | zero=>simp
 | succ k ih=>rw[KY,Me,eH,ih,Nat.succ_mul,Oy]
theorem G7:OpR X (binaryOp .Mult) rRep:=by
 intro pins s σ H x y v u Q I δ γ h;obtain⟨l,k,xs,rfl,rfl,ε,h1,h2,hz,q⟩:=h;cases δ;obtain⟨t,rfl⟩:=γ;obtain⟨z,its,n,r,hl,e⟩:=I.lstM ε;have Z:its.toArray.size * k.toNat<=sizeLine:=by rw[q6,<-hl];exact hz
 have β:¬its.toArray.size * k.toNat > (2 ^ 63 - 1) / 8:=by
  have:(hH:Nat)<=(2 ^ 63 - 1) / 8:=by decide
  omega
 have α:¬(!Builtin.List.listFitsIndex k)=true:=by
  rw[fitsIndex_both h1 h2];exact hC
 have O:¬Ld (its.toArray.size * k.toNat)=true:=by
  rw[xc Z];exact hC
 have Y:Pr (λx1 x2=>x1++x2) #[] (ra (if its.toArray.isEmpty=true then 0 else k.toNat) its.toArray)=(ra k.toNat its).flatten.toArray:=by
  have η:∀m:Nat,Pr (λx1 x2=>x1++x2) #[] (ra m its.toArray)=(ra m its).flatten.toArray:=λm=>by
   have:=uB its m [];rw[Qk] at this;exact this
  rw[η];cases its with
  | nil=>simp
  | cons a r'=>rw[ko @E]
 refine wpAny_binaryOp_repeat_ref (T:="list") (U:="int") @C ⟨_,e,rfl⟩ (λs'=>QA s' k t) noFill_list_mul F.fills_int_mul F.slot_int_rmul repeat_list F.slot_int_index.lookup
  (NW F.slot_int_rmul (QA s k t) F.entry_int_rmul (F.args_int_rmul_2 _ _) (int___rmul___int_list k t l its.toArray n)
   ⟨e,rfl,⟨_,e,rfl⟩,NW F.slot_list_mul ⟨_,e,rfl⟩ F.entry_list_mul (F.args_list_mul_2 _ _) (AutoListH.list___mul___list_int_3 l its.toArray n k t α β O) ⟨e,?_⟩⟩)
 rw[Y];exact⟨.ref _,_,I.lnew (t':=s.toks) (r.rep k.toNat) (by rw[Fj,N0];exact hz),rfl,q _ I.fresh⟩
end
end L2
namespace Att
open PySem PySem.W PySem.Calls PyProof.Rows
theorem pM {P:Params} {h:u2}:∀(ns:I8) (vs:Dd),WellAll P h vs (ns.map WData.int)->IntsAre vs ns:=by
 intro ns
 induction ns with
 | nil=>
   intro vs w;rw[Oh] at w;cases w;exact .nil
 | cons n ns ih=>
   intro vs w;rw[z0] at w;cases w with
   | cons a b=>
     cases a;exact .cons _ _ (ih _ b)
theorem zw {l:OP} {n:Nat} (hn:l.most=aS n) {P:Params} {h:u2} {args:eA WData} {π:Dd}
  (α:l.row.toRowW.claim.pre args=true) (β:WellAll P h π args):
  ∃a vs ns,π=[sC a]/\args=[WData.list (ns.map WData.int)]/\h.get? a=aS {cls:= .type "list",data:= .seq vs.toArray}/\IntsAre vs ns/\ns.length<=n:=by
 have γ:WShape.hasAll [] args [.list .int]=true:=(pre_splitW α).1;have δ:l.pre.holds [] {args:=args}=true:=(pre_splitW α).2;obtain⟨d,r,rfl,h1,h2⟩:=hasAllW_cons γ;obtain rfl:=hasAllW_nil h2;obtain⟨xs,rfl,η⟩:=hasW_list h1;obtain⟨ns,rfl⟩:=items_int η
 have O:ns.length<=n:=by
  unfold OpenLaw.pre at δ
  have Z:(WTm.not (.lt (.lit (.int (n:Int))) (.len (.arg 0)))).holds [] {args:=[.list (ns.map .int)]}=true:=by
   have Z:=(holds_andW δ).1;rw[hn] at Z;exact Z
  have θ:=condW_of Z (w_not (w_lt w_lit (w_len_list (w_arg rfl))));rw[eB] at θ;refine NZ λq=>?_;have ζ:(n:Int) < ((ns.length:Nat):Int):=by omega
  first
   | (rw[hJ ζ] at θ;exact gd θ @C)
   | (simp at θ;omega)
 cases β with
 | cons ε ψ=>
   cases ψ;cases ε with
   | list ho Y=>exact⟨_,_,ns,rfl,rfl,ho,pM ns _ Y,O⟩
theorem zU (l:OP) (args:eA WData):l.row.toRowW.claim.post args (.bool true) args=true:=
 postW_of (r:=l.row.toRowW) (X:=(true == true))
  (show QL [] (.bool true) .bool=true by first | rfl | decide | simp[QL,WShape.arms,WShape.armsAll])
  (show(WTm.eq .res (.lit (.bool true))).value [] {args:=args,res:=aS (.bool true),after:=args}=aS (.bool (true == true)) from w_eq_bool (w_res rfl) w_lit) rfl
theorem attach_call {l:OP} {n:Nat} {q:oe} {γ:C'} {φ:Dk->u2->Prop} {υ:sb->u2->Prop} {d:DefRec}
  (hn:l.most=aS n) (Z:d.params.defaults=[])
  (call:∀(w:sb) (s₀ O:eL) (mg θ:Dk) (ρ:eh) (o:NJ) (η cd β:fC) (a:eh) (vs:Dd) (ns:I8),
   Ground q γ [] φ w s₀ mg θ O.heap->υ w O.heap->
   O.heap.get? ρ=aS o->o.data= .func (docDef d.name d.params d.body d.scope η cd β)->O.heap.CodeRec cd d.name->mg d.name=aS (.ref ρ)->
   O.heap.get? a=aS {cls:= .type "list",data:= .seq vs.toArray}->IntsAre vs ns->ns.length<=n->O.gens=#[]->
   codeAny (hL l.prog w) callerA (.call (.ref ρ) ⟨[.ref a],[]⟩) (λr s'=>r= .ok (.ret (.bool true))/\OldK O.heap s'.heap/\s'.os=O.os/\AllBare s'.gens) O):
  WalkO q γ φ υ l.row.toRowW d [] (λf vs=>Pn f vs):=by
 intro w s₀ O mg θ G Y ρ o η cd β dV kV ho hd ξ τ ν hg args π as α ο χ ι ω;obtain rfl:dV= .none:=Dflts.none τ Z;obtain rfl:kV= .none:=Dflts.noKw τ;obtain⟨a,vs,ns,rfl,rfl,ε,δ,ζ⟩:=zw hn α ι;refine enter_call (LU (call w s₀ O mg θ ρ o η cd β a vs ns G Y ho (fd_plain hd) ξ ν ε δ ζ hg) λr s' ψ=>?_);obtain⟨rfl,h2,h3,h4⟩:=ψ;exact⟨.inl ⟨.bool true,.bool true,[],rfl,λ_=>rfl,.bool true,zU l _,λ_=>⟨Oe,λ_ hm=>(nomatch hm)⟩⟩,h2,h3,h4⟩
end Att
namespace L2
open PySem PySem.Spec PyProof.Rows
theorem lO:∀{vs:Dd} {ns:I8},IntsAre vs ns->Vals (ns.map V.int) vs
 | _,_,.nil=> .nil
 | _,_,.cons n t h=> .cons ⟨t,rfl⟩ (lO h)
noncomputable def gH (s:Lv) (j:Nat):Stmt:=match s with
 | .ClassDef _ _ _ body _ _ _ _ _ _ _=>body.getD j (.Pass ⟨0,0,0,0⟩)
 | _=> .Pass ⟨0,0,0,0⟩
noncomputable def eG (s:Lv):Arguments:=match s with
 | .FunctionDef _ a _ _ _ _ _ _ _ _=>a
 | _=>{posonlyargs:=[],args:=[],vararg:=eC,kwonlyargs:=[],kw_defaults:=[],kwarg:=eC,defaults:=[]}
noncomputable def cL (s:Lv):eA Stmt:=match s with
 | .FunctionDef _ _ b _ _ _ _ _ _ _=>b
 | _=>[]
noncomputable def ah (s:Lv):Scope:=match s with
 | .FunctionDef _ _ _ _ _ _ υ _ _ _=>υ
 | _=>{kind:= .function,names:=[],isGenerator:=false,isCoroutine:=false}
noncomputable abbrev CX0:CXT:=λ_ _ _ _ _ _=>False
noncomputable abbrev E0:XK:=λ_ _ _=>False
theorem fj {X:Cx}:nV CX0 X E0:=λ_ _ _ _ _ _ _ h=>h.elim
structure Fun (K:aT) (x qual:u3) (st:Lv) (f:eh) (fd:hP):Prop where
 ex:∃(oc:fC) (od:J0) (kV doc pm:fC) (an:J0) (cdv ct:fC) (osl:E'),
  fd=JX x qual (eG st) (cL st) (ah st) .none kV doc pm an cdv ct/\K.lookup f=aS ⟨oc,od,.func fd,osl⟩/\Lb K cdv qual=true
 kp:JK K (.ref f)=true
section
variable {P:oe} {w:sb} {K:aT} {mg:Dk} {base:u2}
theorem Fun.ok {x qual:u3} {st:Lv} {f:eh} {fd:hP} {N ps:C'} {k:Nat} {sp:Sp} (F:Fun K x qual st f fd) (S:aD N ps (ah st)) (len:∀vs H Q E,sp vs H Q E->vs.length=ps.length)
  (Y:∀(O:fC) (A:u7) (outer:eA Env) (s:eL) (H:Hp) (vs:eA V) (Q:VK) (E:XK),Room k (A.deeper (envOfC qual (ah st) s.heap.objs.size f O))->sp vs H Q E->
   ∃t,PSs (cxOf CX0 P w K mg base N qual (ah st) f O A outer s H E).nox (cL st) t/\t {nx:=λ_ H'=>Q .non H',rt:=Q} (lQ N vs) H):FnOk P w K mg base CX0 (k + 1) f fd ps sp:=by
 obtain⟨ε,od,kV,β,δ,an,O,ct,ο,rfl,lk,α⟩:=F.ex;refine Cy lk α S len λA outer s H vs Q E γ Z=>?_;obtain⟨t,h,q⟩:=Y O A outer s H vs Q E γ Z;exact⟨t,h.nox,q⟩
theorem Fun.okA {x qual:u3} {st:Lv} {f:eh} {fd:hP} {N ps:C'} {k:Nat} {sp:Sp} (F:Fun K x qual st f fd) (S:aD N ps (ah st))
  (O:∀(Y:fC) (A:u7) (outer:eA Env) (s:eL) (H:Hp) (vs:eA V) (Q:VK) (E:XK),Room k (A.deeper (envOfC qual (ah st) s.heap.objs.size f Y))->sp vs H Q E->
   ∃t,PSs (cxOf CX0 P w K mg base N qual (ah st) f Y A outer s H E).nox (cL st) t/\t {nx:=λ_ H'=>Q .non H',rt:=Q} (lQ N vs) H) (len:∀vs H Q E,sp vs H Q E->vs.length=ps.length:=by walk_at "n"):FnOk P w K mg base CX0 (k + 1) f fd ps sp:=F.ok S len O
theorem Fun.binds {x qual:u3} {st:Lv} {f:eh} {fd:hP} {ps:C'} (F:Fun K x qual st f fd)
  (h:∀(kV β Y:fC) (an:J0) (O ct:fC) (us:Dd),us.length=ps.length->bindArgs (JX x qual (eG st) (cL st) (ah st) .none kV β Y an O ct) ⟨us,[]⟩=pure (ps.zip us)):ke K fd ps []:=by
 obtain⟨α,od,kV,β,Y,an,O,ct,ο,rfl,lk,Z⟩:=F.ex;exact .all (h kV β Y an O ct)
theorem xt {x qual:u3} {st:Lv} {f:eh} {Z:fC} {od an:J0} {ο:E'} {kV β Y O ct:fC} (l:K.lookup f=aS ⟨Z,od,.func (JX x qual (eG st) (cL st) (ah st) .none kV β Y an O ct),ο⟩)
  (c:Lb K O qual=true) (k:JK K (.ref f)=true):Fun K x qual st f (JX x qual (eG st) (cL st) (ah st) .none kV β Y an O ct):=⟨⟨Z,od,kV,β,Y,an,O,ct,ο,rfl,l,c⟩,k⟩
end
theorem Cm {A:u7} {k:Nat} (O:Room k A):A.units + 1 < cLine:=v3 (Nat.add_le_add_left (by decide:1<=64) _) O.units
theorem gm {n:Nat} (h:n<=1000):n < sizeLine:=v3 h @C
section
variable {X:Cx}
theorem pv (i:Nat) {x:u3} {pos:Pos} (Z:X.N[i]? =aS x:=by rfl) (Y:Vis X.env.scope x:=by first | exact MZ rfl | exact MY (MZ rfl) | exact MY (MY rfl)) (hd:(x == ("__debug__":u3))=false:=by decide)
  (O:(x == ("__classdict__":u3))=false:=by decide):PE X (.Name x pos) (tVar i):=G2 Z Y hd O
end
theorem ite2 {c A B:Prop} [Decidable c] (h1:c->A) (h2:¬c->B):if c then A else B:=by
 by_cases h:c
 ·rw[px h];exact h1 h
 ·rw[ko h];exact h2 h
def Same (H H':Hp):Prop:=∀b o,H b=aS o->H' b=aS o
theorem Same.refl (H:Hp):Same H H:=λ_ _ h=>h
theorem Same.trans {H H1 H2:Hp} (a:Same H H1) (b:Same H1 H2):Same H H2:=λc o h=>b c o (a c o h)
theorem Same.free {H H':Hp} (e:Same H H') {l:eh} (h:H' l=Option.none):H l=Option.none:=by
 cases q:H l with
 | none=>rfl
 | some o=>
   rw[e l o q] at h;cases h
theorem Same.seq {K:aT} {H H':Hp} {a:eh} {xs:eA V} (e:Same H H') (h:SqL K H a xs):SqL K H' a xs:=by
 rcases h with (h | ⟨o,h⟩) | h
 ·exact .inl (.inl (e _ _ h))
 ·exact .inl (.inr ⟨o,e _ _ h⟩)
 ·exact .inr h
section
variable {κ:Type} [DecidableEq κ]
noncomputable def valV (kvs:eA (κ×V)) (k:κ):nk V:=(kvs.find? λO=>decide (O.1=k)).map (·.2)
noncomputable def putK (kvs:eA (κ×V)) (k:κ) (v:V):eA (κ×V):=
 if (kvs.any λO=>decide (O.1=k))=true then kvs.map (λO=>if O.1=k then (O.1,v) else O) else kvs++[(k,v)]
theorem oy {p:κ×V} {r:eA (κ×V)} {k:κ} (e:p.1=k):valV (p::r) k=aS p.2:=by simp[valV,LX,e]
theorem oz {p:κ×V} {r:eA (κ×V)} {k:κ} (e:¬p.1=k):valV (p::r) k=valV r k:=by simp[valV,LX,e]
theorem rH (k:κ):∀kvs:eA (κ×V),(kvs.any λO=>decide (O.1=k))=(valV kvs k).isSome
 | []=>rfl
 | p::r=>by
   rw[Ov];by_cases e:p.1=k
   ·simp only[oy e,hJ e,Bool.true_or,Option.isSome_some]
   ·rw[oz e,fA e,QG];exact rH k r
theorem pF (kvs:eA (κ×V)) (k:κ) (v:V):(putK kvs k v).length<=kvs.length + 1:=by
 unfold putK;split
 ·rw[eB];omega
 ·rw[eH,JV,Qm];omega
theorem RelO.isSome_eq {o:nk V} {u:J7} (r:RelO o u):o.isSome=u.isSome:=by
 cases o with
 | none=>cases u with
   | none=>rfl
   | some _=>exact(show False from r).elim
 | some _=>cases u with
   | none=>exact(show False from r).elim
   | some _=>rfl
theorem KV.val {kvs:eA (κ×V)} {vs:eA (κ×fC)} (r:KV kvs vs) (k:κ):RelO (valV kvs k) (valueAt vs k):=by
 unfold KV at r
 induction r with
 | nil=>exact MF
 | @cons p q ps ι h t ih=>
   obtain⟨h1,h2⟩:=h;by_cases e:p.1=k
   ·have θ:q.1=k:=h1.symm.trans e;have b:valueAt (q::ι) k=aS q.2:=by simp[valueAt,LX,θ]
    rw[oy e,b];exact h2
   ·have θ:¬q.1=k:=λz=>e (h1.trans z);have b:valueAt (q::ι) k=valueAt ι k:=by simp[valueAt,LX,θ]
    rw[oz e,b];exact ih
theorem KV.any {kvs:eA (κ×V)} {vs:eA (κ×fC)} (r:KV kvs vs) (k:κ):(kvs.any λO=>decide (O.1=k))=vs.any λO=>decide (O.1=k):=by
 unfold KV at r
 induction r with
 | nil=>rfl
 | cons h t ih=>rw[Ov,Ov,ih,h.1]
theorem KV.repl {kvs:eA (κ×V)} {vs:eA (κ×fC)} (r:KV kvs vs) (k:κ) {y:V} {u:fC} (Y:RelV y u):
  KV (kvs.map λO=>if O.1=k then (O.1,y) else O) (vs.map λO=>if O.1=k then (O.1,u) else O):=by
 unfold KV at r ⊢
 induction r with
 | nil=>exact .nil
 | @cons p q ps ι h t ih=>
   rw[z0,z0];refine .cons ?_ ih;obtain⟨h1,h2⟩:=h;by_cases e:p.1=k
   ·rw[px e,px (h1.symm.trans e)];exact⟨h1,Y⟩
   ·rw[ko e,ko (λz=>e (h1.trans z))];exact⟨h1,h2⟩
theorem KV.put {kvs:eA (κ×V)} {vs:eA (κ×fC)} (r:KV kvs vs) (k:κ) {y:V} {u:fC} (O:RelV y u):KV (putK kvs k y) (stored vs k u):=by
 unfold putK stored;rw[r.any k];by_cases e:(vs.any λY=>decide (Y.1=k))=true
 ·rw[px e,px e];exact r.repl k O
 ·rw[ko e,ko e];exact QE r ⟨rfl,O⟩
theorem KV.keys {kvs:eA (κ×V)} {vs:eA (κ×fC)} (r:KV kvs vs):kvs.map (·.1)=vs.map (·.1):=by
 unfold KV at r
 induction r with
 | nil=>rfl
 | cons h t ih=>rw[z0,z0,ih,h.1]
theorem KV.length {kvs:eA (κ×V)} {vs:eA (κ×fC)} (r:KV kvs vs):kvs.length=vs.length:=Ob r
end
theorem Cj {P:oe} {w:sb} {k:Key} {u:fC} (r:RelV (kV k) u):(du P w).is k u=true:=by
 cases k with
 | inl i=>obtain⟨t,e⟩:=(show ∃t,u=Mu i t from r);subst e;exact vM P w i t
 | inr x=>obtain⟨t,e⟩:=(show ∃t,u=Oz x t from r);subst e;exact vL P w x t
theorem ur {P:oe} {w:sb}:∀{ks:eA Key} {us:Dd},Vals (ks.map kV) us->ItemsAre (du P w) ks us
 | [],_,r=>by rw[Oh] at r;cases r;exact .nil
 | k::ks,_,r=>by
   rw[z0] at r;cases r with
   | cons h t=>exact .cons (Cj h) (ur t)
noncomputable abbrev KT (H:Hp):eA (eA Key×V)->eA (eA Key×eh×fC)->Prop:=Paired λp q=>p.1=q.1/\H q.2.1=aS (.tup (p.1.map kV))/\RelV p.2 q.2.2
theorem KT.val {H:Hp} {kvs:eA (eA Key×V)} {xs:eA (eA Key×eh×fC)} (r:KT H kvs xs) (k:eA Key):RelO (valV kvs k) ((atKey xs k).map (·.2)):=by
 induction r with
 | nil=>exact MF
 | @cons p q ps ι h t ih=>
   obtain⟨h1,_,h2⟩:=h;by_cases e:p.1=k
   ·have θ:q.1=k:=h1.symm.trans e;have b:atKey (q::ι) k=aS q.2:=by simp[atKey,LX,θ]
    rw[oy e,b];exact h2
   ·have θ:¬q.1=k:=λz=>e (h1.trans z);have b:atKey (q::ι) k=atKey ι k:=by simp[atKey,LX,θ]
    rw[oz e,b];exact ih
theorem KT.repl {H:Hp} {kvs:eA (eA Key×V)} {xs:eA (eA Key×eh×fC)} (r:KT H kvs xs) (k:eA Key) {y:V} {u:fC} (Y:RelV y u):
  KT H (kvs.map λO=>if O.1=k then (O.1,y) else O) (xs.map (putAt k u)):=by
 induction r with
 | nil=>exact .nil
 | @cons p q ps ι h t ih=>
   rw[z0,z0];refine .cons ?_ ih;obtain⟨h1,h2,Z⟩:=h;unfold putAt;by_cases e:p.1=k
   ·rw[px e,px (h1.symm.trans e)];exact⟨h1,h2,Y⟩
   ·rw[ko e,ko (λz=>e (h1.trans z))];exact⟨h1,h2,Z⟩
theorem KT.put {H:Hp} {kvs:eA (eA Key×V)} {xs:eA (eA Key×eh×fC)} (r:KT H kvs xs) (k:eA Key) {b:eh} {y:V} {u:fC} (hb:H b=aS (.tup (k.map kV))) (O:RelV y u):
  KT H (putK kvs k y) (storedH xs k b u):=by
 have e:(kvs.any λY=>decide (Y.1=k))=(atKey xs k).isSome:=by
  rw[rH,(r.val k).isSome_eq,OA]
 unfold putK storedH;rw[e];by_cases q:(atKey xs k).isSome=true
 ·rw[px q,px q];exact r.repl k O
 ·rw[ko q,ko q];exact QE r ⟨rfl,hb,O⟩
theorem KT.keeps {H H':Hp} {kvs:eA (eA Key×V)} {xs:eA (eA Key×eh×fC)} (r:KT H kvs xs) (ht:∀b ys,H b=aS (.tup ys)->H' b=aS (.tup ys)):KT H' kvs xs:=
 Paired.mapP r λ_ _ z=>⟨z.1,ht _ _ z.2.1,z.2.2⟩
section
variable {P:oe} {w:sb} {H:Hp} {h:u2} {a:eh}
theorem GU {u:HO} (ok:HOk P w H h) (e:Rd H a u):fJ P w H h a u:=e.ok ok
theorem CN {kvs:eA (Key×V)} (ok:HOk P w H h) (e:Rd H a (.dK kvs)):kvs.length<=hH/\(a == sysModules)=false/\∃vs,KV kvs vs/\h.DictOf (du P w) a vs:=
 show fJ P w H h a (.dK kvs) from GU ok e
theorem HF {kvs:eA (Key×V)} (ok:HOk P w H h) (e:H a=aS (.dK kvs)):kvs.length<=hH/\(a == sysModules)=false/\∃vs,KV kvs vs/\h.DictOf (du P w) a vs:=CN ok (.inl e)
theorem xp {ks:eA Key} (ok:HOk P w H h) (e:H a=aS (.tup (ks.map kV))):(tupleKind (du P w)).is h ks a:=by
 obtain⟨_,its,r,o,h1,h2,n,O⟩:=(show fJ P w H h a (.tup (ks.map kV)) from ok a _ e);exact⟨o,its.toArray,n,h1,h2,O,by simpa using ur r⟩
theorem CL {kvs:eA (eA Key×V)} (ok:HOk P w H h) (e:Rd H a (.dT kvs)):kvs.length<=hH/\(a == sysModules)=false/\
  ∃xs,KT H kvs xs/\h.DictOfH (tupleKind (du P w)) a xs:=by
 obtain⟨z,y,xs,r,o,es,ep,h1,h2,Z,Y,θ⟩:=(show fJ P w H h a (.dT kvs) from GU ok e);refine⟨z,y,xs,r,o,es,ep,h1,h2,Z,Y,λx hx=>?_,θ⟩
 have all:∀{l:eA (eA Key×V)} {m:eA (eA Key×eh×fC)},KT H l m->∀x∈m,(tupleKind (du P w)).is h x.1 x.2.1:=by
  intro l m q
  induction q with
  | nil=>intro x hx;exact nomatch hx
  | @cons p q ps ι O t ih=>
    intro x hx;rcases u5.mp hx with e | hx
    ·subst e;exact xp ok (by rw[<-O.1];exact O.2.1)
    ·exact ih x hx
 exact all r x hx
theorem Je {kvs:eA (eA Key×V)} (ok:HOk P w H h) (e:H a=aS (.dT kvs)):kvs.length<=hH/\(a == sysModules)=false/\
  ∃xs,KT H kvs xs/\h.DictOfH (tupleKind (du P w)) a xs:=CL ok (.inl e)
end
def DGet (H:Hp) (a:eh) (y:V) (r:nk V):Prop:=
 (∃kvs k,Rd H a (.dK kvs)/\y=kV k/\r=valV kvs k)∨∃kvs k b,Rd H a (.dT kvs)/\y= .ref b/\H b=aS (.tup (k.map kV))/\r=valV kvs k
def DPut (H:Hp) (a:eh) (y v:V) (H':Hp):Prop:=
 (∃kvs k,H a=aS (.dK kvs)/\y=kV k/\kvs.length < hH/\H'=upd H a (.dK (putK kvs k v)))∨
 ∃kvs k b,H a=aS (.dT kvs)/\y= .ref b/\H b=aS (.tup (k.map kV))/\kvs.length < hH/\H'=upd H a (.dT (putK kvs k v))
theorem DGet.k {H:Hp} {a:eh} {kvs:eA (Key×V)} {k:Key} (e:H a=aS (.dK kvs)):DGet H a (kV k) (valV kvs k):= .inl ⟨kvs,k,.inl e,rfl,rfl⟩
theorem DPut.k {H:Hp} {a:eh} {kvs:eA (Key×V)} {k:Key} {v:V} (e:H a=aS (.dK kvs)) (hl:kvs.length < hH):DPut H a (kV k) v (upd H a (.dK (putK kvs k v))):= .inl ⟨kvs,k,e,rfl,hl,rfl⟩
section
variable {X:Cx} {pins:DC} {σ:St} {H:Hp} {s:eL} {a:eh} {y v:V} {u r:fC} {o:nk V} {A:u7} {E:DB}
theorem Inv.big (I:Inv X pins σ H s):sysModules < s.heap.objs.size:=by
 have h:JG < s.heap.objs.size:=(I.mod.glob.keeps I.bk).lt;exact ME @C h
theorem A3 {Q:DB} (hu:A.units + 1 < cLine) (I:Inv X pins σ H s) (g:DGet H a y (aS v)) (Z:RelV y u) (h:∀δ s',Inv X pins σ H s'->RelV v δ->Q δ s'):
  gn (hL X.prog X.w) A (getItem (.ref a) u) Q E s:=by
 rcases g with ⟨kvs,k,e,ey,l⟩ | ⟨kvs,k,b,e,ey,α,l⟩
 ·subst ey;obtain⟨z,hd,vs,rel,dd⟩:=CN I.hok e;obtain⟨δ,hw,O⟩:=RelO.some_of (v:=v) (o:=valueAt vs k) (by rw[l];exact rel.val k);exact wpAny_getItem_of (Cj Z) dd.mapOf hw (h δ _ (I.tok _) O)
 ·subst ey;cases(show u=sC b from Z);obtain⟨z,hd,xs,rel,dd⟩:=CL I.hok e;obtain⟨δ,hw,O⟩:=RelO.some_of (v:=v) (o:=(atKey xs k).map (·.2)) (by rw[l];exact rel.val k);obtain⟨p,hp,Y⟩:=K7.mp hw;refine wpAny_getItem_heap (NX hu) (xp I.hok α) dd hp ?_;rw[Y];exact h δ _ (I.tok _) O
theorem d_in {Q:DB} (hu:A.units + 1 < cLine) (I:Inv X pins σ H s) (g:DGet H a y o) (O:RelV y u) (h:∀s',Inv X pins σ H s'->Q (.bool o.isSome) s'):
  gn (hL X.prog X.w) A (compareOp .In u (.ref a)) Q E s:=by
 rcases g with ⟨kvs,k,e,ey,l⟩ | ⟨kvs,k,b,e,ey,Y,l⟩
 ·subst ey;obtain⟨z,hd,vs,rel,dd⟩:=CN I.hok e;refine wpAny_in_of (Cj O) hd dd.mapOf ?_;rw[<-(rel.val k).isSome_eq,<-l];exact h _ (I.tok _)
 ·subst ey;cases(show u=sC b from O);obtain⟨z,hd,xs,rel,dd⟩:=CL I.hok e;refine wpAny_in_heap (NX hu) (xp I.hok Y) hd dd ?_;have q:=(rel.val k).isSome_eq;rw[OA] at q;rw[<-q,<-l];exact h _ (I.tok _)
theorem A1 {h':u2} {t':Nat} {ob:HO} (I:Inv X pins σ H s) (Y:Mut (H a)) (hs:KF a s.heap h') (he:∃q,h'.get? a=aS q) (new:fJ X.prog X.w (upd H a ob) h' a ob):
  Inv X pins σ (upd H a ob) {s with heap:=h',toks:=t'}:=
 I.write (x:=a) (e:=a) Y (.inl rfl) (λb q hb z=>(hs.2 b hb).trans z) he new
theorem HG {P:oe} {w:sb} {H':Hp} {h':u2} {kvs:eA (Key×V)} {vs:eA (Key×fC)} (z:kvs.length<=hH) (hd:(a == sysModules)=false) (rel:KV kvs vs) (dd:h'.DictOf (du P w) a vs):
  fJ P w H' h' a (.dK kvs):=⟨z,hd,vs,rel,dd⟩
theorem A2 {H':Hp} {Q:F'} (hu:A.units + 1 < cLine) (I:Inv X pins σ H s) (g:DPut H a y v H') (Z:RelV y u) (α:RelV v r) (h:∀s',Inv X pins σ H' s'->Q () s'):
  gn (hL X.prog X.w) A (setItem (.ref a) u r) Q E s:=by
 rcases g with ⟨kvs,k,e,ey,l,ι⟩ | ⟨kvs,k,b,e,ey,γ,l,ι⟩
 ·subst ey ι;obtain⟨z,hd,vs,rel,dd⟩:=HF I.hok e;have hz:vs.length<=sizeLine:=by rw[<-rel.length];exact z
  have hl:(putK kvs k v).length<=sizeLine:=by have:=pF kvs k v;omega
  refine wpAny_setItem_pairs (hsz:=hz) (Cj Z) dd λh' O hs=>h _ ?_;have he:∃q,h'.get? a=aS q:=let ⟨q,_,_,Y,_⟩:=O;⟨q,Y⟩
  exact A1 I (by rw[e];exact MF) hs he (HG hl hd (rel.put k α) O)
 ·subst ey ι;cases(show u=sC b from Z);obtain⟨z,hd,xs,rel,dd⟩:=Je I.hok e;have hz:xs.length<=sizeLine:=by rw[<-Ob rel];exact z
  have hl:(putK kvs k v).length<=sizeLine:=by have:=pF kvs k v;omega
  refine wpAny_setItem_heap (hsz:=hz) (NX hu) (xp I.hok γ) dd λh' O hs=>h _ ?_;obtain⟨q,es,ep,Y,h2,ε,δ,_,θ⟩:=O;refine A1 I (by rw[e];exact MF) hs ⟨q,Y⟩ ⟨hl,hd,_,(rel.put k γ α).keeps λc ys β=>?_,q,es,ep,Y,h2,ε,δ,θ⟩;rw[aH (iY β e (λz=>nomatch z))];exact β
end
def NoSl (i:x7):Prop:=∀O Y,subscripted i false O Y=operate [O,Y] (getItem O Y)
theorem Eo {prog:oe} {w:sb} {A:u7} {E:DB} {s:eL} {env:Env} {value O:x7} {pos:Pos} {T id:Jy} {Q:DB}
  (hl:typeLookup (.type T) "__getitem__"=pure (aS (.builtin id))) (hs:NoSl O)
  (h:gn (hL prog w) A (eval value env) (λo α=>gn (hL prog w) A (eval O env) (λi ξ=>ξ.TypeIs o T/\gn (hL prog w) A (getItem o i) Q E ξ) E α) E s):
  gn (hL prog w) A (eval (.Subscript value O pos) env) Q E s:=by
 refine QC (JW h (λo α h₁=>JW h₁ (λi ξ Y=>?_) λ_ _ x=>x) λ_ _ x=>x);obtain⟨hT,Y⟩:=Y;unfold subscriptTail;refine aY ?_;rw[getitemInPython_of_ne hT.not_modules];refine aY (N3 hT hl ?_)
 have fin:gn (hL prog w) A (subscripted O false o i) (λr Z=>gn (hL prog w) A (letTemporaryGo value o r >>=λ_=>pure r) Q E Z) E ξ:=by
  rw[hs o i];exact wpAny_operating (JW Y (λr Z β=>aY (wpAny_letTemporaryGo (eD β))) λ_ _ x=>x)
 first
  | exact eD (aY fin)
  | exact aY (eD (aY fin))
  | exact aY fin
theorem we {X:Cx} {pins:DC} {σ:St} {H:Hp} {s:eL} {a:eh} {y:V} {o:nk V} (I:Inv X pins σ H s) (g:DGet H a y o):s.TypeIs (.ref a) "dict":=by
 rcases g with ⟨kvs,k,e,_,_⟩ | ⟨kvs,k,b,e,_,_,_⟩
 ·obtain⟨_,_,vs,_,dd⟩:=CN I.hok e;exact dd.typeIs
 ·obtain⟨_,_,xs,_,dd⟩:=CL I.hok e;exact dd.typeIs
noncomputable def Ge (td ty:TE):TE:=fun σ H Q=>td σ H λx H1=>ty σ H1 λy H2=>∃a v,x= .ref a/\DGet H2 a y (aS v)/\Q v H2
noncomputable def tDIn (ty td:TE):TE:=fun σ H Q=>ty σ H λy H1=>td σ H1 λx H2=>∃a o,x= .ref a/\DGet H2 a y o/\Q (.bl o.isSome) H2
noncomputable def GS (td ty tv:TE):TS:=λD σ H=>tv σ H λv H1=>td σ H1 λx H2=>ty σ H2 λy O=>∃a Z,x= .ref a/\DPut O a y v Z/\D.nx σ Z
section
variable {X:Cx} {o i e value:x7} {pos pos' tpos:Pos} {td ty tv:TE}
theorem zW (hu:X.A.units + 1 < cLine) (ho:PE X o td) (hi:PE X i ty) (hs:NoSl i):PE X (.Subscript o i pos) (Ge td ty):=by
 intro pins s σ H Q I h;refine Eo PySem.F.slot_dict_getitem.lookup hs (thn (ho pins s σ H _ I h) λu α ⟨x,H1,O,γ,ζ⟩=>thn (hi pins α σ H1 _ O ζ) fun ν ι ⟨y,H2,Z,β,a,v,ex,g,ε⟩=>?_);subst ex;obtain rfl:u=sC a:=γ;exact⟨we Z g,A3 hu Z g β fun δ θ η Y=>⟨v,H2,η,Y,ε⟩⟩
theorem G6 (hu:X.A.units + 1 < cLine) (hi:PE X i ty) (ho:PE X o td):PC X .In i o (tDIn ty td):=by
 intro pins s σ H Q I h;refine thn (hi pins s σ H _ I h) fun ι Y ⟨y,H1,O,Z,β⟩=>thn (ho pins Y σ H1 _ O β) λu θ ⟨x,H2,ζ,α,a,γ,ex,g,ε⟩=>?_;subst ex;obtain rfl:u=sC a:=α;exact d_in hu ζ g Z fun η δ=>⟨.bl γ.isSome,H2,δ,rfl,ε⟩
theorem EX (hu:X.A.units + 1 < cLine) (ho:PE X o td) (hi:PE X i ty) (θ:PE X value tv) (hs:swapsWith value (aS (.Subscript o i pos')) pos.line X.env=pure false):
  PS X (.Assign [.Subscript o i pos'] value pos) (GS td ty tv):=by
 intro pins s σ H D I h;refine wpAny_Assign_Subscript (thn (θ pins s σ H _ I h) λr α ⟨v,H1,O,δ,η⟩=>thn (ho pins α σ H1 _ O η) λu Y ⟨x,H2,ξ,γ,ε⟩=>thn (hi pins Y σ H2 _ ξ ε) fun ρ π ⟨y,τ,ν,β,a,Z,ex,g,ζ⟩=>?_) hs;subst ex;obtain rfl:u=sC a:=γ;exact A2 hu ν g β δ fun ο ι=>⟨σ,Z,ι,ζ⟩
end
theorem CO {P:oe} {w:sb} {H:Hp} (h:u2) (hb:sysModules < h.objs.size):fJ P w H (h.push {cls:= .type "dict",data:= .dict #[]}) h.objs.size (.dK []):=
 ⟨Ka _,tz.mpr (vl (v7 hb)),[],.nil,Heap.DictOf.new h⟩
noncomputable def Dj:TE:=λ_ H Q=>∀p,H p=eC->Q (.ref p) (upd H p (.dK []))
section
variable {X:Cx} {pos:Pos}
theorem B5:PE X (.Dict [] [] pos) Dj:=λpins s σ H Q I h=>
 wpAny_Dict_empty ⟨.ref s.heap.objs.size,_,I.laid (a:=s.heap.objs.size) (o:= .dK []) (t':=s.toks) (λ_ _ q=>en _ q) (mu _) (CO s.heap I.big),rfl,h _ (I.hok.fresh (mu _))⟩
end
structure M1 (X:Cx) (o:x7) (m:u3) (apos:Pos) (e:x7) (cpos:Pos):Prop where
 base:attributeBase o m X.env (eval o X.env)=eval o X.env
 few:((backTo cpos (lx [e] X.env)).all (λx=> !x.1)&&(backToKw cpos (keywordEach [] X.env)).all (λx=>x.1.isSome)
  &&decide (([e]:eA x7).length + ([]:eA Keyword).length + (if ([]:eA Keyword).isEmpty then 0 else 1) < 30))=true
 line:(apos.endLine == cpos.line)=true
 trees:backTo cpos (lx [e] X.env)=[(false,eval e X.env)]
structure M2 (X:Cx) (o:x7) (m:u3) (apos:Pos) (e f:x7) (cpos:Pos):Prop where
 base:attributeBase o m X.env (eval o X.env)=eval o X.env
 few:((backTo cpos (lx [e,f] X.env)).all (λx=> !x.1)&&(backToKw cpos (keywordEach [] X.env)).all (λx=>x.1.isSome)
  &&decide (([e,f]:eA x7).length + ([]:eA Keyword).length + (if ([]:eA Keyword).isEmpty then 0 else 1) < 30))=true
 line:(apos.endLine == cpos.line)=true
 trees:backTo cpos (lx [e,f] X.env)=[(false,eval e X.env),(false,eval f X.env)]
end L2
set_option maxHeartbeats 4000000
namespace L2
open PySem PySem.Spec PyProof.Rows
section
variable {P0:oe} {w0:sb} {A0:u7} {R0:J2} {t0:eL}
theorem rD {η tg iter:x7} {ζ:eA x7} {sc:Jq} {pos:Pos} {it ι:fC} {θ:Env} (J:Nat->eL->Prop)
  (ο:∀n s,J n s->gn (hL P0 w0) A0 (pyNext it) (λr Z=>match r with
   | none=>R0 (.ok .next) Z
   | some v=>gn (hL P0 w0) A0 (letOwnedTupleGo tg it v) (λ_ ξ=>gn (hL P0 w0) A0 (assign tg θ v) (λ_ ε=>
     gn (hL P0 w0) A0 (forIn ζ true λc r=>if r=true then do let ok <-isTrue c θ (eval c θ);pure (Kd ok) else pure (Kd r)) (λok O=>
      if ok=true then gn (hL P0 w0) A0 (eval η θ) (λx δ=>
       gn (hL P0 w0) A0 (call (.builtin "list.append") [ι,x]) (λ_ γ=>∃m,m < n/\J m γ) (λ_ _=>False) δ) (λ_ _=>False) O
      else ∃m,m < n/\J m O) (λ_ _=>False) ε) (λ_ _=>False) ξ) (λ_ _=>False) Z) (λ_ _=>False) s)
  (n:Nat) (h:J n t0):
  codeAny (hL P0 w0) A0 (.compLoop (.ListComp η [⟨tg,iter,ζ,0⟩] sc pos) 0 it ι θ) R0 t0:=by
 have no:∀{α:Type} {t:Sem α} {Q:α->eL->Prop} {E:DB} {s:eL},gn (hL P0 w0) A0 t Q (λ_ _=>False) s->gn (hL P0 w0) A0 t Q E s:=
  λh=>JW h (λ_ _ q=>q) λ_ _ z=>z.elim
 refine codeAny_loop rfl J (λn s ν=>?_) n h;show gn _ A0 ((compTurn (.ListComp η [⟨tg,iter,ζ,0⟩] sc pos) 0 it ι θ).onRaise (λx=>do noteFrame x θ;theTreesLotGoes x)) _ _ s;refine wpAny_noted ?_;rw[compTurn_list];refine aY (NO (aY (thn (no (ο n s ν)) λr Z h₁=>?_)));cases r with
 | none=>exact eD h₁
 | some v=>
   refine aY (thn (no h₁) λ_ ξ Y=>?_);refine aY (thn (no Y) λ_ ε τ=>aY (thn (no τ) λok O β=>?_));cases ok with
   | false=>exact eD ⟨rfl,β⟩
   | true=>
     rw[px rfl] at β;refine aY (aY (thn (no β) λx δ ρ=>?_));refine aY (thn (no ρ) λ_ γ π=>?_);exact eD (eD ⟨rfl,π⟩)
end
theorem nJ (env:Env):∀(l:eA (u3×NameKind)) (Y:J5),(∀y∈l,y.2= .free->∃c,env.cells.lookup y.1=aS c)->
  ∃r:J5,(forIn l Y (λ(x:u3×NameKind) (r:J5)=>if x.2 == z2 then (do let c <-cellOf env x.1;pure (Kd ((x.1,c)::r))) else pure (Kd r)):Sem J5)=pure r/\
   (∀p∈r,p∈Y∨env.cells.lookup p.1=aS p.2)/\(∀p∈Y,p∈r)/\(∀y∈l,y.2= .free->∃c,(y.1,c)∈r)
 | [],Y,_=>⟨Y,rfl,λp hp=> .inl hp,λp hp=>hp,λy O=>nomatch O⟩
 | (x,k)::l,Y,h=>by
   by_cases hk:k= .free
   ·subst hk;obtain⟨c,α⟩:=h (x,.free) oi rfl;obtain⟨r,e,h1,h2,Z⟩:=nJ env l ((x,c)::Y) λy O=>h y (ov _ O);refine⟨r,?_,λp hp=>?_,λp hp=>h2 p (ov _ hp),λy O hf=>?_⟩
    ·rw[Lg];have β:cellOf env x=pure c:=by unfold cellOf;rw[α]
     simp only[JL,Nu,β,pure_bind];exact e
    ·rcases h1 p hp with q | q
     ·rcases u5.mp q with z | z
      ·subst z;exact .inr α
      ·exact .inl z
     ·exact .inr q
    ·rcases u5.mp O with z | z
     ·subst z;exact⟨c,h2 _ oi⟩
     ·exact Z y z hf
   ·obtain⟨r,e,h1,h2,Z⟩:=nJ env l Y λy O=>h y (ov _ O);refine⟨r,?_,h1,h2,λy O hf=>?_⟩
    ·rw[Lg];have hb:(k == z2)=false:=by cases k<;>first | rfl | exact gd rfl hk
     simp only[hb,JO,Mb,pure_bind];exact e
    ·rcases u5.mp O with z | z
     ·subst z;exact gd hf hk
     ·exact Z y z hf
theorem nI (sc:Jq) (env:Env) (h:∀y∈sc.names,y.2= .free->∃c,env.cells.lookup y.1=aS c):
  ∃O,closureFor sc env=pure O/\(∀p∈O,env.cells.lookup p.1=aS p.2)/\∀y∈sc.names,y.2= .free->∃c,(y.1,c)∈O:=by
 obtain⟨r,e,h1,h2,Y⟩:=nJ env sc.names [] h;refine⟨r,?_,λp hp=>(h1 p hp).resolve_left (λz=>nomatch z),Y⟩;unfold closureFor;have:=e;simp only[bind_pure] at *
 exact e
theorem mf {κ β:Type} [BEq κ] [LawfulBEq κ]:∀{l:eA (κ×β)} {x:κ} {c:β},(x,c)∈l->∃O,l.lookup x=aS O
 | [],_,_,h=>nomatch h
 | (y,d)::l,x,c,h=>by
   by_cases e:x=y
   ·subst e;exact⟨d,by simp[KI]⟩
   ·have hb:(x == y)=false:=tz.mpr e;rcases u5.mp h with z | z
    ·exact gd (y' Qp z) e
    ·obtain⟨O,q⟩:=mf z;exact⟨O,by rw[KI,hb];exact q⟩
theorem jf {env:Env}:∀{names:eA (u3×NameKind)} {x:u3} {Y:NameKind},
  (names.map λ(n,k)=>if (k == z2&&env.scope.kind == .function&&env.kindOf n == aS .cell) then (n,Jz) else (n,k)).lookup x=aS Y->∃k,(x,k)∈names/\(Y=k∨k= .free)
 | [],_,_,h=>by cases h
 | (y,k)::l,x,Y,h=>by
   rw[z0,KI] at h;by_cases e:x=y
   ·subst e;by_cases O:(k == z2&&env.scope.kind == .function&&env.kindOf x == aS .cell)=true
    ·refine⟨k,oi,.inr ?_⟩;rw[xn,xn] at O;exact eq_of_beq O.1.1
    ·refine⟨k,oi,.inl ?_⟩;simp only[ko O,JL] at h;exact(iv h).symm
   ·have hb:(x == y)=false:=tz.mpr e
    have h':(l.map λ(n,k)=>if (k == z2&&env.scope.kind == .function&&env.kindOf n == aS .cell) then (n,Jz) else (n,k)).lookup x=aS Y:=by
     by_cases O:(k == z2&&env.scope.kind == .function&&env.kindOf y == aS .cell)=true
     ·simp only[px O,hb] at h;exact h
     ·simp only[ko O,hb] at h;exact h
    obtain⟨q,hm,z⟩:=jf h';exact⟨q,ov _ hm,z⟩
theorem jT {env:Env}:∀{names:eA (u3×NameKind)} {x:u3},names.lookup x=aS .free->
  (names.map λ(n,k)=>if (k == z2&&env.scope.kind == .function&&env.kindOf n == aS .cell) then (n,Jz) else (n,k)).lookup x=aS .cell∨
  (names.map λ(n,k)=>if (k == z2&&env.scope.kind == .function&&env.kindOf n == aS .cell) then (n,Jz) else (n,k)).lookup x=aS .free
 | [],_,h=>by cases h
 | (y,k)::l,x,h=>by
   rw[KI] at h;rw[z0,KI];by_cases e:x=y
   ·subst e;simp only[JL] at h;cases h;by_cases O:(z2 == z2&&env.scope.kind == .function&&env.kindOf x == aS .cell)=true
    ·refine .inl ?_;rw[px O];simp only[JL]
    ·refine .inr ?_;rw[ko O];simp only[JL]
   ·have hb:(x == y)=false:=tz.mpr e;simp only[hb] at h;have q:=jT (env:=env) h;by_cases O:(k == z2&&env.scope.kind == .function&&env.kindOf y == aS .cell)=true
    ·simp only[px O,hb];exact q
    ·simp only[ko O,hb];exact q
structure i8 (osc:Jq) (ON N:C') (n:Nat) (fx:D') (sc:Jq):Prop where
 kind:sc.kind= .function
 noc:∀y∈sc.names,y.2≠.cell
 own:∀y∈sc.names,y.2= .local->sc.names.lookup y.1=aS .local
 fre:∀y∈sc.names,y.2= .free->osc.names.lookup y.1=aS .cell∨osc.names.lookup y.1=aS .free
 len:N.length=n + fx.length
 frn:∀k,k < fx.length->∃x j,N[n + k]? =aS x/\fx[k]? =aS j/\ON[j]? =aS x/\sc.names.lookup x=aS .free
noncomputable def AH (ON:C') (υ:Jq):C'->D'->JC
 | [],[]=>true
 | x::xs,j::js=>decide (ON[j]? =aS x)&&decide (υ.names.lookup x=aS .free)&&AH ON υ xs js
 | _,_=>false
theorem pO {ON:C'} {sc:Jq}:∀{xs:C'} {O:D'},AH ON sc xs O=true->xs.length=O.length/\∀k,k < O.length->∃x j,xs[k]? =aS x/\O[k]? =aS j/\ON[j]? =aS x/\sc.names.lookup x=aS .free
 | [],[],_=>⟨rfl,λk h=>gd h (M6 k)⟩
 | [],_::_,h=>by cases h
 | _::_,[],h=>by cases h
 | x::xs,j::O,h=>by
   simp only[AH,xn,KQ] at h;obtain⟨l,q⟩:=pO h.2;refine⟨y' Nat.succ l,λk hk=>?_⟩;cases k with
   | zero=>exact⟨x,j,rfl,rfl,h.1.1,h.1.2⟩
   | succ k=>
     obtain⟨Y,Z,a,b,c⟩:=q k (Nat.lt_of_succ_lt_succ hk);exact⟨Y,Z,by simpa using a,by simpa using b,c⟩
noncomputable def xx (osc:Jq) (ON N:C') (n:Nat) (fx:D') (υ:Jq):Bool:=
 decide (υ.kind= .function)&&decide (∀y∈υ.names,y.2≠.cell)&&decide (∀y∈υ.names,y.2= .local->υ.names.lookup y.1=aS .local)&&
 decide (∀y∈υ.names,y.2= .free->osc.names.lookup y.1=aS .cell∨osc.names.lookup y.1=aS .free)&&decide (n<=N.length)&&AH ON υ (N.drop n) fx
theorem i8.of {osc:Jq} {ON N:C'} {n:Nat} {fx:D'} {sc:Jq} (h:xx osc ON N n fx sc=true):i8 osc ON N n fx sc:=by
 simp only[xx,xn,KQ] at h;obtain⟨⟨⟨⟨⟨h1,h2⟩,Y⟩,O⟩,θ⟩,δ⟩:=h;obtain⟨l,q⟩:=pO δ;refine⟨h1,h2,Y,O,?_,λk hk=>?_⟩
 ·rw[Kj] at l;omega
 ·obtain⟨x,j,a,b⟩:=q k hk;exact⟨x,j,by rw[La] at a;exact a,b⟩
noncomputable def i5 (X:Cx) (N:C') (υ:Jq) (O:J5) (C:eh) (fp:G') (s:eL) (H:Hp):Cx where
 prog:=X.prog
 w:=X.w
 K:=X.K
 mg:=X.mg
 base:=X.base
 A:=X.A
 N:=N
 s₀:=s
 H₀:=H
 env:=compEnvC υ O C X.env
 outer:=X.stack
 stack:=X.stack
 ex:=fp
 fn:=λ_=>false
 calm:=X.calm
 pn:=[]
 xe:=λ_ _=>False
noncomputable def cQ (n:Nat) (fx:D') (σ:St):St:=ra n eC++fx.map λj=>(σ[j]?).join
def vi (n:Nat) (g:TG):Prop:=∀v σ H (Q O:St->Hp->Prop),(∀σ' H',Q σ' H'->σ'.drop n=σ.drop n->σ'.length=σ.length->O σ' H')->g v σ H Q->g v σ H O
def xD (n:Nat) (g:TGs):Prop:=∀vs σ H (Q O:St->Hp->Prop),(∀σ' H',Q σ' H'->σ'.drop n=σ.drop n->σ'.length=σ.length->O σ' H')->g vs σ H Q->g vs σ H O
theorem aN {n i:Nat} (h:i < n):vi n (yr i):=λv σ H Q O k q=>k _ _ q (by rw[List.drop_set_of_lt h]) (by rw[Ql])
theorem jm {n:Nat}:xD n gNil:=λvs σ H Q O k ⟨e,q⟩=>⟨e,k _ _ q rfl rfl⟩
theorem cj {n:Nat} {t:TG} {u:TGs} (ht:vi n t) (hu:xD n u):xD n (FF t u):=λvs σ H Q γ k ⟨v,r,e,q⟩=>
 ⟨v,r,e,ht v σ H _ _ (λO H1 Y e1 α=>hu r O H1 Q γ (fun ω H2 ε β Z=>k ω H2 ε (β.trans e1) (Z.trans α)) Y) q⟩
theorem mq {K:aT} {n m:Nat} {t:TGs} (h:xD n t):vi n (gTup K m t):=λv σ H Q O k ⟨a,xs,e,hs,hl,q⟩=>⟨a,xs,e,hs,hl,h xs σ H Q O k q⟩
def PTs (X:Cx) (O:eA x7) (t:TT):Prop:=
 ∀(pins:DC) (s:eL) (σ:St) (H:Hp) (Q:JC->Hp->Prop),Inv X pins σ H s->t σ H Q->
  gn (hL X.prog X.w) X.A (forIn O true λc r=>if r=true then do let ok <-isTrue c X.env (eval c X.env);pure (Kd ok) else pure (Kd r)) (TP X pins σ Q) X.xe s
noncomputable def tYes:TT:=λ_ H Q=>Q true H
theorem bB {X:Cx}:PTs X [] tYes:=λ_ _ _ H _ I h=>wpAny_tests_nil ⟨H,I,h⟩
theorem rQ {X:Cx} {c:x7} {t:TT} (h:PT X c t):PTs X [c] t:=λpins s σ H Q I q=>wpAny_tests_one (h pins s σ H Q I q)
noncomputable def xM (n:Nat) (fx:D') (δ:TI) (g:TG) (tc:TT) (te:TE):TE:=fun σ H Q=>δ σ H λJ H1=>∀D,H1 D=eC->
 ∃W:Nat->Nat->eA V->Hp->Prop,(∃m,W 0 m [] (upd H1 D (.lst [])))/\∀i m ys H2,W i m ys H2->(J.stop i H2/\Q (.ref D) H2)∨
   (J.go i H2/\∃N:eA V->Hp->Prop,(∀O H',N O H'->∃Y,Y < m/\W (i + 1) Y O H')/\∀x γ,J.yld i H2 x γ->g x (cQ n fx σ) γ fun π Z=>tc π Z λb α=>
    if b=true then te π α λv β=>β D=aS (.lst ys)/\ys.length < hH/\N (ys++[v]) (upd β D (.lst (ys++[v]))) else N ys α)
section
variable {X:Cx} {pins:DC} {σ:St} {H:Hp} {s:eL}
theorem rE {n:Nat} {fx:D'}:(cQ n fx σ).length=n + fx.length:=by unfold cQ;simp
theorem kD {n:Nat} {fx:D'} {i:Nat} {v:V} (e:(cQ n fx σ)[i]? =aS (aS v)):∃k j,i=n + k/\fx[k]? =aS j/\σ[j]? =aS (aS v):=by
 unfold cQ at e;by_cases h:i < n
 ·rw[oP (by simpa using h),OM,px h] at e;cases e
 ·rw[rg (by simpa using h),Ku,f'] at e;cases q:fx[i - n]? with
  | none=>rw[q] at e;cases e
  | some j=>
    rw[q] at e;have θ:(σ[j]?).join=aS v:=iv e;refine⟨i - n,j,@A,q,?_⟩;cases z:σ[j]? with
    | none=>rw[z] at θ;cases θ
    | some o=>rw[z] at θ;have:o=aS v:=θ;rw[this]
theorem CV {osc:Jq} {ON N:C'} {n:Nat} {fx:D'} {sc:Jq} {ζ:J5} {fp:G'} {ν:u2} {tk:Nat}
  (ho:X.env.scope=osc) (ω:X.N=ON) (S:i8 osc ON N n fx sc)
  (δ:∀p∈ζ,X.env.cells.lookup p.1=aS p.2) (Z:∀y∈sc.names,y.2= .free->∃c,(y.1,c)∈ζ)
  (I:Inv X pins σ H s) (hf:∀b∈fp,FpOk X pins H b) (ι:∀b∈fp,b < s.heap.objs.size)
  (υ:∃m,ν.Ns s.heap.objs.size m) (Y:∀b o,s.heap.get? b=aS o->ν.get? b=aS o):
  Inv (i5 X N sc ζ s.heap.objs.size fp s H) [] (cQ n fx σ) H {s with heap:=ν,toks:=tk}:=by
 have look:∀{x:u3} {c:eh},ζ.lookup x=aS c->X.env.cells.lookup x=aS c:=λ{x c} e=>δ (x,c) (u9 e)
 have ok:(i5 X N sc ζ s.heap.objs.size fp s H).Ok:=by
  refine⟨I.ok.mod,S.kind,I.ok.glob,I.ok.blt,mu _,λx y c h1 h2=>I.ok.inj x y c (look h1) (look h2),λx hx=>?_,λx c z=>(by cases z),I.ok.hd,I.ok.frames,.inl rfl,λb hb=>⟨v7 (ι b hb),λx c e=>(hf b hb).2.2.2.2.1 x c (look e)⟩,
   I.bs,Jx I.ok.bsz I.sz,λb o e hb=>?_,λb hb z=>?_,I.stack,I.stkFree⟩
  ·have θ:∃η,(η=Jz∨η=z2)/\(sc.names.map λ(n,k)=>if (k == z2&&X.env.scope.kind == .function&&X.env.kindOf n == aS .cell) then (n,Jz) else (n,k)).lookup x=aS η:=by
    rcases hx with hx | hx
    ·exact⟨_,.inl rfl,hx⟩
    ·exact⟨_,.inr rfl,hx⟩
   obtain⟨η,hk,e⟩:=θ;obtain⟨k,hm,z⟩:=jf e
   have τ:k= .free:=by
    rcases z with z | z
    ·subst z;rcases hk with q | q
     ·exact gd q (S.noc _ hm)
     ·exact q
    ·exact z
   subst τ;obtain⟨c,ψ⟩:=Z _ hm rfl;exact mf ψ
  ·rcases(hf b hb).2.2.2.1 with z | z
   ·exact I.ok.noex b o e z
   ·exact gd (eF (fy (I.ok.bs b o e).1) z) (Kk _)
  ·rcases u5.mp (I.stkSub b z) with q | q
   ·exact(hf b hb).2.1 q
   ·exact(hf b hb).2.2.1 q
 obtain⟨m,υ⟩:=υ;refine⟨ok,rfl,I.bare,Un.kept Y,⟨m,υ,λi x v e1 e2 e3=>?_⟩,λx c e=>?_,I.hok.fresh (mu _),λx c e=>I.freeC x c (look e),λp hp=>gd (show p∈([]:DC) from hp) @E,I.hok.kept Y,?_⟩
 ·obtain⟨k,j,rfl,ρ,χ⟩:=kD e2;obtain⟨α,O,a1,a2,a3,ο⟩:=S.frn k (dt.mp ρ).1;have ex:α=x:=iv (a1.symm.trans e1);have ej:O=j:=iv (a2.symm.trans ρ);subst ex;subst ej;obtain⟨m',_,hl⟩:=I.loc;have hk:X.env.scope.names.lookup α=aS .cell∨X.env.scope.names.lookup α=aS .free:=by rw[ho];exact S.fre _ (u9 ο) rfl
  have β:Vis X.env.scope α:=by rcases hk with z | z;exact .inr (.inl z);exact .inr (.inr z)
  obtain⟨u,r,q⟩:=hl O α v (by rw[ω];exact a3) χ β;rcases q with ⟨z,_⟩ | ⟨_,c,ec,φ⟩
  ·have π:X.env.scope.names.lookup α=aS .local:=z;rcases hk with q | q<;>(rw[q] at π;cases π)
  ·refine⟨u,r,.inr ⟨jT ο,c,?_,φ.keeps Y⟩⟩;obtain⟨c0,γ⟩:=Z _ (u9 ο) rfl;obtain⟨ξ,ε⟩:=mf γ;have:=look ε;rw[ec] at this;cases this;exact ε
 ·obtain⟨v,q⟩:=I.cell x c (look e);exact⟨v,q.keeps Y⟩
 ·show _=N.length;rw[rE,S.len]
theorem uM {osc:Jq} {ON N:C'} {n:Nat} {fx:D'} {sc:Jq} {cl:J5} {c4 tg iter:x7} {c0:eA x7} {pos:Pos} {wi:TI} {g:TG} {tc:TT} {te:TE} {Q:VK} {RR:fC->eh->J2}
  (c2:X.calm=true) (ho:X.env.scope=osc) (hN:X.N=ON) (S:i8 osc ON N n fx sc)
  (b4:∀p∈cl,X.env.cells.lookup p.1=aS p.2) (e5:∀y∈sc.names,y.2= .free->∃c,(y.1,c)∈cl)
  (hi:PI X tg iter wi) (gk:vi n g) (hb:∀cl C fp s H,PG (i5 X N sc cl C fp s H) tg g/\PTs (i5 X N sc cl C fp s H) c0 tc/\PE (i5 X N sc cl C fp s H) c4 te)
  (I:Inv X pins σ H s) (h:xM n fx wi g tc te σ H Q)
  (η:∀D C H' s',Inv X pins σ H' s'->(∃m,s'.heap.Ns C m)->FpOk X pins H' C->Q (.ref D) H'->RR (.ref D) C (.ok .next) s'):
  gn (hL X.prog X.w) X.A (eval iter X.env) (λx s₁=>gn (hL X.prog X.w) X.A (pyIter x) (λit ξ=>gn (hL X.prog X.w) X.A (newList []) (λe8 s₃=>
   gn (hL X.prog X.w) X.A (newFunctionEnv sc X.env.globals cl [] X.env.qual eC .none (aS X.env)) (fun α s₄=>
    codeAny (hL X.prog X.w) X.A (.compStart (.ListComp c4 [⟨tg,iter,c0,0⟩] sc pos) 0 it e8 {α with scope:=relabel sc X.env}) (RR e8 α.locals) s₄) X.xe s₃) X.xe ξ) X.xe s₁) X.xe s:=by
 refine thn (hi pins s σ H _ I h) λv s1 h1=>thn h1 λf7 s2 h2=>?_;obtain⟨it,fp,ε,J,H2,e2,I2,T,e0,f2,hW⟩:=h2;subst e2;obtain⟨W,⟨m0,w0⟩,c1⟩:=hW s2.heap.objs.size I2.fresh;refine z5 ?_;have I3:Inv X pins σ (upd H2 s2.heap.objs.size (.lst [])) {s2 with heap:=s2.heap.push {cls:= .type "list",data:= .seq ([]:Dd).toArray}}:=I2.lnew (t':=s2.toks) (its:=[]) .nil (Ka _)
 have f3:∀b∈fp,FpOk X pins (upd H2 s2.heap.objs.size (.lst [])) b/\b < s2.heap.objs.size:=λb hb=>by
  obtain⟨o,e,_⟩:=T.obj _ _ e0 b hb;have l:=fy e;obtain⟨a1,a2⟩:=f2 b hb;exact⟨⟨by rw[aH (v7 l)];exact a1,a2⟩,l⟩
 have sz:({s2 with heap:=s2.heap.push {cls:= .type "list",data:= .seq ([]:Dd).toArray}}:eL).heap.objs.size=s2.heap.objs.size + 1:=z3 ..
 generalize ζ:({s2 with heap:=s2.heap.push {cls:= .type "list",data:= .seq ([]:Dd).toArray}}:eL)=s3 at I3 sz ⊢;generalize f8:upd H2 s2.heap.objs.size (.lst [])=H3 at I3 f3 w0;have e3:∀b o,s2.heap.get? b=aS o->s3.heap.get? b=aS o:=λb o e=>by rw[<-ζ];exact en _ e
 refine Qe (λy hy=>S.noc y hy) (λy hy=>nomatch hy) (λh4 υ f1=>?_) S.kind;have Z:∀b o,s3.heap.get? b=aS o->h4.get? b=aS o:=λb o e=>f1.extBut b o (v7 (fy e)) (en _ e);have I4:=CV (tk:=s3.toks + ([]:J6).length) ho hN S b4 e5 I3 (λb hb=>(f3 b hb).1) (λb hb=>by rw[sz];exact K1 (f3 b hb).2) ⟨_,υ⟩ Z;have b3:=hb cl s3.heap.objs.size fp s3 H3;generalize hY:i5 X N sc cl s3.heap.objs.size fp s3 H3=Y at I4 b3
 have ν:∀{H':Hp},(∀b∈fp,H' b=eC)->∀b∈fp,FpOk Y [] H' b:=λ{H'} hn b hb=>by
  subst hY;obtain⟨⟨a1,a2,a3,a4,a5,a6⟩,l⟩:=f3 b hb;refine⟨hn b hb,v7 (show b < s3.heap.objs.size by rw[sz];exact K1 l),λz=>?_,.inl hb,λx c e=>a5 x c (b4 (x,c) (u9 e)),λp hp=>gd (show p∈([]:DC) from hp) @E⟩;rcases u5.mp (I3.stkSub b z) with q | q
  ·exact a2 q
  ·exact a3 q
 have fin:∀{σ6:St} {H6:Hp} {s6:eL},Inv Y [] σ6 H6 s6->Q (.ref s2.heap.objs.size) H6->RR (.ref s2.heap.objs.size) s3.heap.objs.size (.ok .next) s6:=λ{σ6 H6 s6} I6 q=>by
  subst hY;refine η _ _ H6 s6 ?_ (let ⟨m,hm,_⟩:=I6.loc;⟨m,hm⟩) (I3.fpOk (mu _) I6.free) q;obtain⟨hh,gg,dd,tt,f0⟩:=s6;obtain rfl:f0=s3.os:=I6.os
  exact I3.call (h':=hh) (g':=gg) (d':=dd) (t':=tt) (ch:=fp) I6.base I6.hok I6.bare λb hb=>by
   obtain⟨⟨a1,a2,a3,a4,a5,a6⟩,l⟩:=f3 b hb;exact⟨a4,a2,a5,a6⟩
 have pY:Y.prog=X.prog:=by subst hY;rfl
 have wY:Y.w=X.w:=by subst hY;rfl
 have kY:Y.K=X.K:=by subst hY;rfl
 have χ:Y.A=X.A:=by subst hY;rfl
 have cY:Y.calm=true:=by subst hY;exact c2
 have φ:Y.env=compEnvC sc cl s3.heap.objs.size X.env:=by subst hY;rfl
 have xY:Y.xe=λ_ _=>False:=by subst hY;rfl
 have T':Turn Y.prog Y.w Y.K tg J fp it ε:=by rw[pY,wY,kY];exact T
 have d1:ε 0 h4:=T.keep _ _ _ e0 λb hb o e=>Z b o (e3 b o e)
 have loop:codeAny (hL X.prog X.w) X.A (.compLoop (.ListComp c4 [⟨tg,iter,c0,0⟩] sc pos) 0 (.ref it) (.ref s2.heap.objs.size) (compEnvC sc cl s3.heap.objs.size X.env)) (RR (.ref s2.heap.objs.size) s3.heap.objs.size)
   {s3 with heap:=h4,toks:=s3.toks + ([]:J6).length}:=by
  rw[<-pY,<-wY,<-χ,<-φ];refine rD (λk s'=>∃i ys σ' H',Inv Y [] σ' H' s'/\σ'.drop n=(cQ n fx σ).drop n/\σ'.length=(cQ n fx σ).length/\ε i s'.heap/\(∀b∈fp,H' b=eC)/\W i k ys H') ?_ m0 ⟨0,[],_,H3,I4,rfl,rfl,d1,λb hb=>(f3 b hb).1.1,w0⟩;rintro k s5 ⟨i,ys,σ5,H5,I5,ed,el,d2,e7,w5⟩
  have I5:Inv Y [] (cQ n fx σ) H5 s5:=I5.weak el.symm λj v e=>by
   obtain⟨k',O,rfl,_,_⟩:=kD e;have q:=y' (λl=>l[k']?) ed;simp only[La] at q;rw[q];exact e
  rcases c1 i k ys H5 w5 with ⟨stop,q⟩ | ⟨go,ψ,θ,step⟩
  ·refine JW (T'.done Y rfl rfl rfl cY i [] s5 _ H5 (λ_ _=>False) I5 (ν e7) d2 stop) (λr s6 ⟨hr,I6⟩=>?_) λ_ _ z=>z;subst hr;exact fin I6 q
  ·rw[<-xY];refine thn (T'.item Y rfl rfl rfl cY i [] s5 _ H5 Y.xe I5 (ν e7) d2 go) λr s6 ⟨u,hr,h6⟩=>?_;subst hr;show gn _ _ _ _ _ _;refine thn h6 λ_ s7 ⟨x,H7,I7,r7,y7,b5,ι⟩=>?_;have ο:=I7.pinned (ν ι) (T.obj _ _ b5);refine thn (b3.1 _ s7 _ H7 x u _ ο r7 (gk _ _ _ _ _ (fun σ' H' q e l=>(⟨q,e,l⟩:_/\_/\_)) (step x H7 y7))) λ_ s8 ⟨τ,H8,ω,ρ,f5,f4⟩=>?_;refine thn (b3.2.1 _ s8 τ H8 _ ω ρ) λok s9 ⟨H9,I9,q9⟩=>?_
   have again:∀{a0:Hp} {γ:eL} {zs:eA V},Inv Y ([]++rh fp s7.heap) τ a0 γ->ψ zs a0->
     ∃m,m < k/\∃i ys σ' H',Inv Y [] σ' H' γ/\σ'.drop n=(cQ n fx σ).drop n/\σ'.length=(cQ n fx σ).length/\ε i γ.heap/\(∀b∈fp,H' b=eC)/\W i m ys H':=λ{a0 γ zs} I10 b6=>by
    obtain⟨m',hm,δ⟩:=θ _ _ b6;refine⟨m',hm,i + 1,zs,τ,a0,I10.unpinned,f5,f4,T.keep _ _ _ b5 λb hb o e=>(I10.pin (b,o) (j' _ (j' _ (gT hb e)))).1,λb hb=>?_,δ⟩;obtain⟨o,e,d⟩:=T.obj _ _ b5 b hb;exact(I10.pin (b,o) (j' _ (j' _ (gT hb e)))).2.1
   cases ok with
   | false=>exact again I9 q9
   | true=>
     rw[px rfl];refine thn (b3.2.2 _ s9 τ H9 _ I9 q9) λy γ ⟨v',a0,I10,e9,e6,e4,b6⟩=>?_;refine thn (dZ (X:=Y) _ γ τ a0 (.ref s2.heap.objs.size) [v'] (.ref s2.heap.objs.size) [y] (λ_ H'=>H'=upd a0 s2.heap.objs.size (.lst (ys++[v']))) I10 rfl (.cons e9 .nil) ⟨_,ys,v',rfl,rfl,e6,e4,rfl⟩) λ_ β ⟨_,f9,π,_,f6⟩=>?_;subst f6;exact again π b6
 exact PP loop (T.self X.A 0 _ _ _ d1 loop)
theorem g8 {osc:Jq} {ON N:C'} {n:Nat} {fx:D'} {sc:Jq} {β tg iter:x7} {Y:eA x7} {pos:Pos} {θ:TI} {g:TG} {tc:TT} {te:TE}
  (O:X.calm=true) (ho:X.env.scope=osc) (ν:X.N=ON) (S:xx osc ON N n fx sc=true) (hi:PI X tg iter θ) (ξ:vi n g)
  (hb:∀γ C fp s H,PG (i5 X N sc γ C fp s H) tg g/\PTs (i5 X N sc γ C fp s H) Y tc/\PE (i5 X N sc γ C fp s H) β te)
  (hs:∀x,foldedSetIterable iter X.env x=pure x:=by intro _;rfl):PE X (.ListComp β [⟨tg,iter,Y,0⟩] sc pos) (xM n fx θ g tc te):=by
 intro pins s σ H Q I h;have S:=i8.of S;obtain⟨γ,ε,α,Z⟩:=nI sc X.env λy ι hf=>I.ok.has y.1 (by show X.env.scope.names.lookup y.1=aS .cell∨X.env.scope.names.lookup y.1=aS .free;rw[ho];exact S.fre y ι hf);rw[eval_ListComp];refine MN (use:=eC) rfl hs ε S.kind S.own (uM (RR:=fun ζ C=>compPost (hL X.prog X.w) X.A X.xe eC (EP X pins σ Q) ζ C) O ho ν S α Z hi ξ hb I h ?_);intro D C H' s' I' hm hf q;obtain⟨m,hm⟩:=hm;obtain⟨η,υ,ο,τ,ρ,π⟩:=hf;exact⟨m,hm,λh' δ=>⟨.ref D,H',I'.turned (t':=s'.toks) (λb o hb e=>(δ.2 b hb).trans e) η υ τ ρ π,rfl,q⟩⟩
theorem cK {i:Nat} {x:u3} {ξ:Pos} {γ:Pos} {osc:Jq} {ON N:C'} {n:Nat} {fx:D'} {sc:Jq} {Z tg iter:x7} {Y:eA x7} {pos:Pos} {ρ:TI} {g:TG} {tc:TT} {te:TE}
  (ο:X.N.Nodup) (hx:X.N[i]? =aS x) (hl:X.env.scope.names.lookup x=aS .local) (ζ:swapsWith (.ListComp Z [⟨tg,iter,Y,0⟩] sc pos) (aS (.Name x ξ)) γ.line X.env=pure true)
  (α:X.calm=true) (ho:X.env.scope=osc) (hN:X.N=ON) (S:xx osc ON N n fx sc=true) (hi:PI X tg iter ρ) (gk:vi n g)
  (hb:∀ε C fp s H,PG (i5 X N sc ε C fp s H) tg g/\PTs (i5 X N sc ε C fp s H) Y tc/\PE (i5 X N sc ε C fp s H) Z te)
  (hs:∀x,foldedSetIterable iter X.env x=pure x:=by intro _;rfl):PS X (.Assign [.Name x ξ] (.ListComp Z [⟨tg,iter,Y,0⟩] sc pos) γ) (tAsg (xM n fx ρ g tc te) (yr i)):=by
 intro pins s σ H D I h;have S:=i8.of S;obtain⟨ε,ι,δ,β⟩:=nI sc X.env λy ω hf=>I.ok.has y.1 (by show X.env.scope.names.lookup y.1=aS .cell∨X.env.scope.names.lookup y.1=aS .free;rw[ho];exact S.fre y ω hf);rw[Q3 _ _ _ _ ζ];refine aY (NO (aY ?_));show gn _ X.A (do let _ <-comprehension (.ListComp Z [⟨tg,iter,Y,0⟩] sc pos) sc X.env _ (newList []) false (eval iter X.env) (aS (assign (.Name x ξ) X.env))) _ _ s
 refine aY (thn (MN (use:=aS (assign (.Name x ξ) X.env)) (Q:=λ_ s'=>SP X pins D .next s') rfl hs ι S.kind S.own
  (uM (RR:=fun π C=>compPost (hL X.prog X.w) X.A X.xe (aS (assign (.Name x ξ) X.env)) (λ_ s'=>SP X pins D .next s') π C) α ho hN S δ β hi gk hb I h ?_)) λ_ s' q=>eD (eD q))
 intro χ C H' s' I' hm hf q;obtain⟨m,hm⟩:=hm;obtain⟨η,φ,f2,f3,υ,f5⟩:=hf;show gn _ X.A (assign (.Name x ξ) X.env (.ref χ)) _ _ _;refine O5 (oJ I' ο hx (.inl hl) (v:= .ref χ) rfl (fun ψ I2 ν=>?_) (.inr hl));obtain⟨a,θ,ha⟩:=ν
 have τ:C≠a:=by
  rcases ha with z | z
  ·rw[z];exact φ
  ·exactλe=>υ _ _ z e.symm
 exact⟨m,hm.sameBut θ τ,λh' O=>⟨_,H',I2.turned (t':=ψ.toks) (λb o hb e=>(O.2 b hb).trans e) η φ f3 υ f5,q⟩⟩
end
section
variable {K:aT} {n:Nat} {fx:D'} {g:TG} {tc:TT} {te:TE} {σ:St} {H1:Hp} {D:eh} {Q:Hp->Prop}
theorem i6 {lo:Int} {k:Nat} (β:Nat->eA V->Hp->Prop) (h0:β 0 [] (upd H1 D (.lst [])))
  (hs:∀i ys H,i < k->β i ys H->g (.int (lo + i)) (cQ n fx σ) H fun π Z=>tc π Z λb α=>if b=true then te π α λv γ=>γ D=aS (.lst ys)/\ys.length < hH/\β (i + 1) (ys++[v]) (upd γ D (.lst (ys++[v]))) else β (i + 1) ys α)
  (hd:∀ys H,β k ys H->Q H):
  ∃W:Nat->Nat->eA V->Hp->Prop,(∃m,W 0 m [] (upd H1 D (.lst [])))/\∀i m ys H2,W i m ys H2->((Itr lo k).stop i H2/\Q H2)∨
    ((Itr lo k).go i H2/\∃N:eA V->Hp->Prop,(∀O H',N O H'->∃δ,δ < m/\W (i + 1) δ O H')/\∀x ε,(Itr lo k).yld i H2 x ε->g x (cQ n fx σ) ε fun π Z=>tc π Z λb α=>
      if b=true then te π α λv γ=>γ D=aS (.lst ys)/\ys.length < hH/\N (ys++[v]) (upd γ D (.lst (ys++[v]))) else N ys α):=by
 refine⟨λi m ys H=>m=k - i/\i<=k/\β i ys H,⟨k,@E,Ka _,h0⟩,?_⟩;rintro i m ys H ⟨rfl,hi,p⟩;by_cases Y:i < k
 ·refine .inr ⟨Y,β (i + 1),λO H' ζ=>⟨k - (i + 1),by omega,rfl,Y,ζ⟩,λx H' y=>?_⟩;obtain⟨e,y⟩:=y;subst e;subst y;exact hs i ys _ Y p
 ·have e:i=k:=by omega
  subst e;exact .inl ⟨mu _,hd ys H p⟩
theorem bQ {a:eh} {xs:eA V} (O:Nat->eA V->Hp->Prop) (h0:O 0 [] (upd H1 D (.lst []))) (hl:∀i ys H,i<=xs.length->O i ys H->SqL K H a xs)
  (hs:∀i x ys H,xs[i]? =aS x->O i ys H->g x (cQ n fx σ) H fun π Z=>tc π Z λb α=>if b=true then te π α λv γ=>γ D=aS (.lst ys)/\ys.length < hH/\O (i + 1) (ys++[v]) (upd γ D (.lst (ys++[v]))) else O (i + 1) ys α)
  (hd:∀ys H,O xs.length ys H->Q H):
  ∃W:Nat->Nat->eA V->Hp->Prop,(∃m,W 0 m [] (upd H1 D (.lst [])))/\∀i m ys H2,W i m ys H2->((Itl K a).stop i H2/\Q H2)∨
    ((Itl K a).go i H2/\∃N:eA V->Hp->Prop,(∀Y H',N Y H'->∃δ,δ < m/\W (i + 1) δ Y H')/\∀x ε,(Itl K a).yld i H2 x ε->g x (cQ n fx σ) ε fun π Z=>tc π Z λb α=>
      if b=true then te π α λv γ=>γ D=aS (.lst ys)/\ys.length < hH/\N (ys++[v]) (upd γ D (.lst (ys++[v]))) else N ys α):=by
 refine⟨λi m ys H=>m=xs.length - i/\i<=xs.length/\O i ys H,⟨xs.length,@E,Ka _,h0⟩,?_⟩;rintro i m ys H ⟨rfl,hi,p⟩;have q:=hl i ys H hi p;by_cases β:i < xs.length
 ·refine .inr ⟨⟨xs,xs[i],q,by simp[β]⟩,O (i + 1),λY H' ζ=>⟨xs.length - (i + 1),by omega,rfl,β,ζ⟩,λx H' y=>?_⟩;obtain⟨e,y⟩:=y;subst e;exact hs i x ys _ (y xs q) p
 ·have e:i=xs.length:=by omega
  subst e;exact .inl ⟨⟨xs,q,mu _⟩,hd ys H p⟩
end
def j0 (K:aT) (H:Hp) (x:V) (k:Jy):Prop:=match x with
 | .non=>k="NoneType"
 | .bl _=>k="bool"
 | .int _=>k="int"
 | .str _=>k="str"
 | .ref p=>(k="list"/\∃xs,SqL K H p xs)∨(k="tuple"/\∃xs,SqT K H p xs)∨(k="dict"/\∃kvs,Rd H p (.dK kvs))
 | _=>False
noncomputable def subB (k T:Jy):Bool:=k == T||(k == "bool"&&T == "int")
noncomputable def rIsi (K:aT):eA V->Hp->VK->Prop:=λxs H Q=>∃x k T,xs=[x,.ty T]/\j0 K H x k/\T∈["int","bool","str","list","tuple","dict"]/\Q (.bl (subB k T)) H
section
variable {X:Cx}
theorem C0:mL X (.builtin "isinstance") (rIsi X.K):=by
 intro pins s σ H xs us Q I r h;obtain⟨x,k,T,rfl,hk,hT,q⟩:=h;obtain⟨u,v,rfl,Z,rt⟩:=Ij r;cases rt;have η:∀b,b=subB k T->EP X pins σ Q (.bool b) s:=λb e=>⟨.bl b,H,I,rfl,by rw[e];exact q⟩;have O:∀b,b=subB k T->EP X pins σ Q (.bool b) {s with toks:=s.toks + 1}:=λb e=>⟨.bl b,H,I.tok _,rfl,by rw[e];exact q⟩;simp only[u5,M5,OZ] at hT;cases x with
 | non=>
   cases Z;cases hk;rcases hT with rfl | rfl | rfl | rfl | rfl | rfl
   ·exact IsiPair.NoneType_int (O _ @C)
   ·exact IsiPair.NoneType_bool (O _ @C)
   ·exact IsiPair.NoneType_str (O _ @C)
   ·exact IsiPair.NoneType_list (O _ @C)
   ·exact IsiPair.NoneType_tuple (O _ @C)
   ·exact IsiPair.NoneType_dict (O _ @C)
 | bl b=>
   cases Z;cases hk;rcases hT with rfl | rfl | rfl | rfl | rfl | rfl
   ·exact IsiPair.bool_int (η _ @C)
   ·exact IsiPair.bool_bool (η _ @C)
   ·exact IsiPair.bool_str (O _ @C)
   ·exact IsiPair.bool_list (O _ @C)
   ·exact IsiPair.bool_tuple (O _ @C)
   ·exact IsiPair.bool_dict (O _ @C)
 | int i=>
   obtain⟨t,rfl⟩:=Z;cases hk;rcases hT with rfl | rfl | rfl | rfl | rfl | rfl
   ·exact IsiPair.int_int (η _ @C)
   ·exact IsiPair.int_bool (O _ @C)
   ·exact IsiPair.int_str (O _ @C)
   ·exact IsiPair.int_list (O _ @C)
   ·exact IsiPair.int_tuple (O _ @C)
   ·exact IsiPair.int_dict (O _ @C)
 | str z=>
   obtain⟨t,rfl⟩:=Z;cases hk;rcases hT with rfl | rfl | rfl | rfl | rfl | rfl
   ·exact IsiPair.str_int (O _ @C)
   ·exact IsiPair.str_bool (O _ @C)
   ·exact IsiPair.str_str (η _ @C)
   ·exact IsiPair.str_list (O _ @C)
   ·exact IsiPair.str_tuple (O _ @C)
   ·exact IsiPair.str_dict (O _ @C)
 | ref p=>
   cases Z;rcases hk with ⟨rfl,xs,α⟩ | ⟨rfl,xs,α⟩ | ⟨rfl,kvs,α⟩
   ·obtain⟨its,_,pl,_⟩:=I.list α;obtain⟨o,ho,Y,_⟩:=pl.isList;rcases hT with rfl | rfl | rfl | rfl | rfl | rfl
    ·exact IsiPair.list_int ho Y (O _ @C)
    ·exact IsiPair.list_bool ho Y (O _ @C)
    ·exact IsiPair.list_str ho Y (O _ @C)
    ·exact IsiPair.list_list ho Y (η _ @C)
    ·exact IsiPair.list_tuple ho Y (O _ @C)
    ·exact IsiPair.list_dict ho Y (O _ @C)
   ·obtain⟨its,_,pl,_⟩:=I.tuple α;obtain⟨o,ho,Y,_⟩:=pl;rcases hT with rfl | rfl | rfl | rfl | rfl | rfl
    ·exact IsiPair.tuple_int ho Y (O _ @C)
    ·exact IsiPair.tuple_bool ho Y (O _ @C)
    ·exact IsiPair.tuple_str ho Y (O _ @C)
    ·exact IsiPair.tuple_list ho Y (O _ @C)
    ·exact IsiPair.tuple_tuple ho Y (η _ @C)
    ·exact IsiPair.tuple_dict ho Y (O _ @C)
   ·obtain⟨_,_,_,_,o,_,_,ho,ex,_⟩:=α.ok I.hok;have Y:o.cls= .type "dict":=ex.1;rcases hT with rfl | rfl | rfl | rfl | rfl | rfl
    ·exact IsiPair.dict_int ho Y (O _ @C)
    ·exact IsiPair.dict_bool ho Y (O _ @C)
    ·exact IsiPair.dict_str ho Y (O _ @C)
    ·exact IsiPair.dict_list ho Y (O _ @C)
    ·exact IsiPair.dict_tuple ho Y (O _ @C)
    ·exact IsiPair.dict_dict ho Y (η _ @C)
 | _=>exact z4 hk
noncomputable def GV:V->eA V->Hp->VK->Prop:=λx xs H Q=>∃i,x= .int i/\xs=[]/\Q (.int (u4 i:Nat)) H
theorem lI:MtR X "int.bit_length" GV:=by
 intro pins s σ H x xs v us Q I O rs h;obtain⟨i,rfl,rfl,q⟩:=h;obtain⟨t,rfl⟩:=O;cases rs;exact call_int_bit_length ⟨.int _,H,I.tok _,⟨_,rfl⟩,q⟩
noncomputable def eqVs (xs ys:eA V):Bool:=xs.length == ys.length&&(hE xs.length).all λj=>eqV (xs.getD j .non) (ys.getD j .non)
noncomputable def rEqL (K:aT) (neg:JC):R2:=λx y H Q=>∃a b xs ys,x= .ref a/\y= .ref b/\SqL K H a xs/\SqL K H b ys/\xs.all pP=true/\ys.all pP=true/\Q (.bl (if neg then !eqVs xs ys else eqVs xs ys)) H
theorem mM {xs:eA V} {us:Dd} (r:Vals xs us) {j:Nat} (h:j < us.toArray.size):RelV (xs.getD j .non) (us.toArray[j]):=by
 have hl:=r.length;have h':j < us.length:=by simpa using h
 obtain⟨u,e,O⟩:=r.get (i:=j) (x:=xs.getD j .non) (by rw[ee,b' @A];rfl)
 have Y:us.toArray[j]=u:=by
  rw[b' h'] at e;have:=iv e;simpa using this
 rw[Y];exact O
theorem wb {xs:eA V} (f:xs.all pP=true) (j:Nat):pP (xs.getD j .non)=true:=by
 rw[ee];cases e:xs[j]? with
 | none=>rfl
 | some x=>exact LH.mp f x (eO e)
theorem wX {pins:DC} {σ:St} {H:Hp} {s:eL} {a b:eh} {xs ys:eA V} {A:u7} (hu:A.units < cLine) (I:Inv X pins σ H s) (ha:SqL X.K H a xs) (hb:SqL X.K H b ys) (fx:xs.all pP=true) (Z:ys.all pP=true):
  SeqAt.RcAt A s (.ref a) (.ref b) (eqVs xs ys)/\SeqAt.RcNeAt A s (.ref a) (.ref b) (!eqVs xs ys):=by
 obtain⟨its,r,pl,_⟩:=I.list ha;obtain⟨υ,r',O,_⟩:=I.list hb;have Y:=r.length;have α:=r'.length;by_cases hl:xs.length=ys.length
 ·have e:eqVs xs ys=(hE its.toArray.size).all λj=>eqV (xs.getD j .non) (ys.getD j .non):=by
   unfold eqVs;rw[hl,JL,Kb,q6,<-Y,hl]
  rw[e];have hz:its.toArray.size=υ.toArray.size:=by simp;omega
  have he:∀j (h1:j < its.toArray.size) (h2:j < υ.toArray.size),SeqAt.EqAt A.in1 s its.toArray[j] υ.toArray[j] (eqV (xs.getD j .non) (ys.getD j .non)):=λj h1 h2=>
   HE (mM r h1) (mM r' h2) (wb fx j) (wb Z j)
  exact⟨SeqAt.RcAt.lists pl.isList O.isList hz hu he,SeqAt.RcNeAt.lists pl.isList O.isList hz hu he⟩
 ·have e:eqVs xs ys=false:=by
   unfold eqVs;rw[tz.mpr hl,J9]
  rw[e];have hz:(its.toArray.size != υ.toArray.size)=true:=by simp;omega
  exact⟨SeqAt.RcAt.lists_lengths pl.isList O.isList hz hu,SeqAt.RcNeAt.lists_lengths pl.isList O.isList hz hu⟩
theorem Hb (hu:X.A.units < cLine):OpR X (compareOp .Eq) (rEqL X.K false):=by
 intro pins s σ H x y v u Q I Y O h;obtain⟨a,b,xs,ys,rfl,rfl,ha,hb,fx,Z,q⟩:=h;cases Y;cases O;exact(wX hu I ha hb fx Z).1 X.prog X.w X.xe _ ⟨.bl _,H,I,rfl,q⟩
theorem G9 (hu:X.A.units < cLine):OpR X (compareOp .NotEq) (rEqL X.K true):=by
 intro pins s σ H x y v u Q I Y O h;obtain⟨a,b,xs,ys,rfl,rfl,ha,hb,fx,Z,q⟩:=h;cases Y;cases O;exact(wX hu I ha hb fx Z).2 X.prog X.w X.xe _ ⟨.bl _,H,I,rfl,q⟩
end
theorem AQ {xs:eA V} (f:xs.all pP=true):eqVs xs xs=true:=by
 unfold eqVs;rw[JL,Kb,LH];intro j _;have:=wb f j;generalize xs.getD j .non=x at this;cases x<;>first | rfl | exact JL _ | cases this
theorem a8 (a b:Nat):KM (a:Int) (b:Int)=((a&&&b:Nat):Int):=by
 unfold KM;rw[hJ (Nq a),hJ (Nq b)];simp
section
variable {X:Cx} {K:aT}
theorem cf (h:X.K=K):IxR X (rIxL K):=by subst h;exact Fp
theorem ay (h:X.K=K):IxR X (rIxT K):=by subst h;exact Hq
theorem iw (h:X.K=K):SlR X (rSlL K):=by subst h;exact EC
theorem Fc (h:X.K=K) (hu:X.A.units < cLine):OpR X (compareOp .Eq) (rEqL K false):=by subst h;exact Hb hu
theorem mY (h:X.K=K) (hu:X.A.units < cLine):OpR X (compareOp .NotEq) (rEqL K true):=by subst h;exact G9 hu
theorem cu (h:X.K=K):mL X (.builtin "isinstance") (rIsi K):=by subst h;exact C0
noncomputable def rLen (K:aT):eA V->Hp->VK->Prop:=λxs H Q=>∃x n,xs=[x]/\LenV K x H n/\Q (.int n) H
theorem aO (h:X.K=K):mL X (.builtin "len") (rLen K):=by subst h;exact CZ
noncomputable def vF (K:aT):eA V->Hp->VK->Prop:=λxs H Q=>∃p ys,xs=[.ref p]/\(SqL K H p ys∨SqT K H p ys)/\∀l,H l=eC->Q (.ref l) (upd H l (.lst ys))
theorem i7 (h:X.K=K):mL X (.type "list") (vF K):=by subst h;exact uP
noncomputable def DE (K:aT):eA V->Hp->VK->Prop:=λxs H Q=>∃p ys,xs=[.ref p]/\((SqL K H p ys/\∀l,H l=eC->Q (.ref l) (upd H l (.tup ys)))∨(SqT K H p ys/\Q (.ref p) H))
theorem p5 (h:X.K=K):mL X (.type "tuple") (DE K):=by subst h;exact sO
theorem aW {tg l:x7} {tl:TE} (h:X.K=K) (hl:PE X l tl):PI X tg l (Hs K tl):=by subst h;exact E4 hl
theorem E3 {tg l:x7} {tl:TE} (h:X.K=K) (hl:PE X l tl):PI X tg l (iTup K tl):=by subst h;exact G1 hl
theorem jV {o:x7} {to:TE} {name:u3} {apos cpos:Pos} {T id:Jy} {r:V->eA V->Hp->VK->Prop} (h:X.K=K) (Z:PlainAttrs T) (slot:Slot T name id) (α:typeOf (.builtin id)=pure (.type "method_descriptor")) (hm:MtR X id r) (ho:PE X o to)
  (Y:attributeBase o name X.env (eval o X.env)=eval o X.env:=by rfl) (O:(apos.endLine == cpos.line)=true:=by rfl):PE X (.Call (.Attribute o name apos) [] [] cpos) (tBM0 K T r to):=by subst h;exact G5 Z slot α hm ho Y O
theorem lX {o e:x7} {es:eA x7} {to:TE} {t:TA} {name:u3} {apos cpos:Pos} {T id:Jy} {r:V->eA V->Hp->VK->Prop} (h:X.K=K) (Z:PlainAttrs T) (slot:Slot T name id) (γ:typeOf (.builtin id)=pure (.type "method_descriptor")) (hm:MtR X id r) (ho:PE X o to) (ha:PA X (e::es) t)
  (α:attributeBase o name X.env (eval o X.env)=eval o X.env:=by rfl)
  (β:((backTo cpos (lx (e::es) X.env)).all (λx=> !x.1)&&(backToKw cpos (keywordEach [] X.env)).all (λx=>x.1.isSome)
   &&decide ((e::es).length + ([]:eA Keyword).length + (if ([]:eA Keyword).isEmpty then 0 else 1) < 30))=true:=by rfl)
  (Y:(apos.endLine == cpos.line)=true:=by rfl) (hs:lx (e::es) X.env=(false,eval e X.env)::lx es X.env:=by rfl) (O:(backTo cpos (lx es X.env)).any (·.1)=false:=by rfl):
  PE X (.Call (.Attribute o name apos) (e::es) [] cpos) (tBM K T r to t):=by subst h;exact IM Z slot γ hm ho ha α β Y hs O
end
noncomputable def GW (K:aT):eA V->Hp->VK->Prop:=λxs H Q=>∃(a:eh) (bs:eA JC),xs=[.ref a]/\SqL K H a (bs.map V.bl)/\Q (.bl (bs.all id)) H
section
variable {X:Cx} {K:aT}
theorem FP {bs:eA JC} {its:Dd} (O:Vals (bs.map V.bl) its) {i:Nat} {v:fC} (h:its.toArray[i]? =aS v):v= .bool (bs.getD i false):=by
 have h':its[i]? =aS v:=by simpa using h
 have hi:i < its.length:=(dt.mp h').1;have hl:=O.length;rw[eB] at hl;obtain⟨u,e,r⟩:=O.get (i:=i) (x:= .bl (bs.getD i false)) (by rw[f',b' @A,ee,b' @A];rfl);rw[h'] at e;cases e;exact r
theorem HP (bs:eA JC):(hE bs.length).all (λi=>bs.getD i false)=bs.all id:=by
 rw[Lw,LH,LH];constructor
 ·intro h x O;obtain⟨i,hi,e⟩:=JE.mp O;have:=h i (Ju.mpr hi);rw[ee,b' hi,e] at this;exact this
 ·intro h i hi;have hi:=Ju.mp hi;rw[ee,b' hi];exact h _ (KZ hi)
theorem Ba (h:X.K=K) (hc:X.calm=true):mL X (.builtin "all") (GW K):=by
 subst h;intro pins s σ H xs us Q I r h;obtain⟨a,bs,rfl,β,q⟩:=h;obtain⟨u,rfl,Z⟩:=tJ r;cases Z;obtain⟨its,Y,pl,hz⟩:=I.list β;have lt:a < s.heap.objs.size:=let ⟨o,e,_⟩:=pl.isList;fy e
 have hl:its.toArray.size=bs.length:=by have:=Y.length;rw[eB] at this;simp[this]
 refine call_all_walk (O4 pl.isList ⟨s.heap.objs.size,_,_,its.toArray.size,_,_,λi=>bs.getD i false,rfl,Pl (A:=X.A.in1) (I.ok.hd hc) s.heap.objs.size a (v7 lt) its.toArray,⟨⟨_,hG _ rfl,rfl,rfl⟩,let ⟨o,e,c⟩:=pl.isList;⟨o,en _ e,c⟩⟩,λi v s Q E α γ=>by rw[FP Y α];exact Kl γ,λh' tk O=>?_⟩);rw[hl,HP];exact⟨.bl _,H,I.kept (λb o e=>O b o (λhm=>by have:=fy e;rw[fk.mp hm] at this;exact gd this (Kk _)) (en _ e)),rfl,q⟩
end
inductive Dt where
 | non | bl (b:JC) | int (i:Int) | str (x:u3) | lst (xs:eA Dt) | tup (xs:eA Dt)
inductive Rep (K:aT) (H:Hp):V->Dt->Prop where
 | non:Rep K H .non .non
 | bl (b:JC):Rep K H (.bl b) (.bl b)
 | int (i:Int):Rep K H (.int i) (.int i)
 | str (x:u3):Rep K H (.str x) (.str x)
 | lst {p:eh} {xs:eA V} {ds:eA Dt} (h:SqL K H p xs) (l:xs.length=ds.length) (r:∀(i:Nat) x d,xs[i]? =aS x->ds[i]? =aS d->Rep K H x d):Rep K H (.ref p) (.lst ds)
 | tup {p:eh} {xs:eA V} {ds:eA Dt} (h:SqT K H p xs) (l:xs.length=ds.length) (r:∀(i:Nat) x d,xs[i]? =aS x->ds[i]? =aS d->Rep K H x d):Rep K H (.ref p) (.tup ds)
theorem Same.tup {K:aT} {H H':Hp} {a:eh} {xs:eA V} (e:Same H H') (h:SqT K H a xs):SqT K H' a xs:=by
 rcases h with (h | ⟨o,h⟩) | h
 ·exact .inl (.inl (e _ _ h))
 ·exact .inl (.inr ⟨o,e _ _ h⟩)
 ·exact .inr h
theorem Rep.same {K:aT} {H H':Hp} (e:Same H H') {x:V} {d:Dt} (r:Rep K H x d):Rep K H' x d:=by
 induction r with
 | non=>exact .non
 | bl b=>exact .bl b
 | int i=>exact .int i
 | str x=>exact .str x
 | lst h l r ih=>exact .lst (e.seq h) l ih
 | tup h l r ih=>exact .tup (e.tup h) l ih
mutual
noncomputable def eqD:Dt->Dt->JC
 | .non,.non=>true
 | .bl a,.bl b=>a == b
 | .bl a,.int b=>(if a then 1 else 0) == b
 | .int a,.bl b=>a == (if b then 1 else 0)
 | .int a,.int b=>a == b
 | .str a,.str b=>a == b
 | .lst xs,.lst ys=>eqDs xs ys
 | .tup xs,.tup ys=>eqDs xs ys
 | _,_=>false
noncomputable def eqDs:eA Dt->eA Dt->JC
 | [],[]=>true
 | x::xs,y::ys=>eqD x y&&eqDs xs ys
 | _,_=>false
end
mutual
noncomputable def depD:Dt->Nat
 | .lst xs=>ik xs + 1
 | .tup xs=>ik xs + 1
 | _=>0
noncomputable def ik:eA Dt->Nat
 | []=>0
 | x::xs=>max (depD x) (ik xs)
end
theorem AV {ds:eA Dt} {d:Dt} (h:d∈ds):depD d<=ik ds:=by
 induction ds with
 | nil=>cases h
 | cons x xs ih=>
   rw[ik];rcases u5.mp h with rfl | h
   ·omega
   ·have:=ih h;omega
theorem sJ:∀{xs ys:eA Dt},xs.length≠ys.length->eqDs xs ys=false
 | [],[],h=>gd rfl h
 | [],_::_,_=>rfl
 | _::_,[],_=>rfl
 | x::xs,y::ys,h=>by rw[eqDs,sJ (λz=>h (by simp[z])),Ks]
theorem sL:∀{xs ys:eA Dt},xs.length=ys.length->eqDs xs ys=(hE xs.length).all λi=>eqD (xs.getD i .non) (ys.getD i .non)
 | [],[],_=>rfl
 | [],_::_,h=>by cases h
 | _::_,[],h=>by cases h
 | x::xs,y::ys,h=>by
   rw[eqDs,sL (by simpa using h),JV,OT,List.all_cons,List.all_map];rfl
theorem sM:∀d:Dt,eqD d d=true:=by
 intro d;refine Dt.rec (motive_1:=λd=>eqD d d=true) (motive_2:=λds=>eqDs ds ds=true) ?_ ?_ ?_ ?_ ?_ ?_ ?_ ?_ d
 ·rfl
 ·intro b;simp[eqD]
 ·intro b;simp[eqD]
 ·intro b;simp[eqD]
 ·intro xs h;rw[eqD];exact h
 ·intro xs h;rw[eqD];exact h
 ·rfl
 ·intro x xs h1 h2;rw[eqDs,h1,h2];rfl
theorem DO:∀{d e:Dt},d=e->eqD d e=true:=λh=>by subst h;exact sM _
section
variable {X:Cx} {pins:DC} {σ:St} {H:Hp} {s:eL}
theorem Inv.notBoth (I:Inv X pins σ H s) {p:eh} {xs ys:eA V} (h1:SqL X.K H p xs) (h2:SqT X.K H p ys):False:=by
 obtain⟨_,_,pl,_⟩:=I.list h1;obtain⟨_,_,⟨o,ho,Z,_⟩,_⟩:=I.tuple h2;obtain⟨o',n,O,Y,_⟩:=pl;rw[ho] at O;cases O;rw[Z] at Y;exact gd Y @C
theorem Rep.fun (I:Inv X pins σ H s) {x:V} {d:Dt} (r:Rep X.K H x d):∀{e:Dt},Rep X.K H x e->d=e:=by
 induction r with
 | non=>intro e q;cases q;rfl
 | bl b=>intro e q;cases q;rfl
 | int i=>intro e q;cases q;rfl
 | str z=>intro e q;cases q;rfl
 | lst h l r ih=>
   intro e q;cases q with
   | lst h' Y r'=>
     have ex:=I.list_inj h h';subst ex;congr 1;refine Mf λi=>?_;rename_i xs ds Z;by_cases hi:i < ds.length
     ·rw[b' hi,b' @A];have O:i < xs.length:=by omega
      rw[ih i _ _ (b' O) (b' hi) (r' i _ _ (b' O) (b' @A))]
     ·rw[JI @A,JI @A]
   | tup h' Y r'=>exact(I.notBoth h h').elim
 | tup h l r ih=>
   intro e q;cases q with
   | tup h' Y r'=>
     have ex:=I.tuple_inj h h';subst ex;congr 1;refine Mf λi=>?_;rename_i xs ds Z;by_cases hi:i < ds.length
     ·rw[b' hi,b' @A];have O:i < xs.length:=by omega
      rw[ih i _ _ (b' O) (b' hi) (r' i _ _ (b' O) (b' @A))]
     ·rw[JI @A,JI @A]
   | lst h' Y r'=>exact(I.notBoth h' h).elim
open SeqAt in
theorem rc_D (I:Inv X pins σ H s) {x:V} {d:Dt} (r:Rep X.K H x d):∀{A:u7} {e:Dt} {y:V} {u v:fC} (n:Nat),Rep X.K H y e->RelV x u->RelV y v->depD d<=n->A.units + n < cLine->
  EqAt A s u v (eqD d e)/\RcAt A s u v (eqD d e)/\RcNeAt A s u v (!eqD d e):=by
 induction r with
 | non=>
   intro A e y u v n q θ Z hd hu;cases θ;cases q with
   | non=>cases Z;exact⟨Q0 _,RcAt.none_none,RcNeAt.none_none⟩
   | bl b=>cases Z;exact⟨EqAt.none_bool b,RcAt.none_bool b,RcNeAt.none_bool b⟩
   | int b=>obtain⟨t,rfl⟩:=Z;exact⟨EqAt.none_int b t,RcAt.none_int b t,RcNeAt.none_int b t⟩
   | str b=>obtain⟨t,rfl⟩:=Z;exact⟨EqAt.none_str b t,RcAt.none_str b t,RcNeAt.none_str b t⟩
   | lst h l r=>cases Z;obtain⟨_,_,pl,_⟩:=I.list h;exact⟨EqAt.none_list pl.isList @A,RcAt.none_list pl.isList @A,RcNeAt.none_list pl.isList @A⟩
   | tup h l r=>cases Z;obtain⟨_,_,pl,_⟩:=I.tuple h;exact⟨EqAt.none_tuple pl @A,RcAt.none_tuple pl @A,RcNeAt.none_tuple pl @A⟩
 | bl a=>
   intro A e y u v n q θ Z hd hu;cases θ;cases q with
   | non=>cases Z;exact⟨EqAt.bool_none a,RcAt.bool_none a,RcNeAt.bool_none a⟩
   | bl b=>cases Z;exact⟨EqAt.bool_bool a b,RcAt.bool_bool a b,RcNeAt.bool_bool a b⟩
   | int b=>obtain⟨t,rfl⟩:=Z;exact⟨EqAt.bool_int a b t,RcAt.bool_int a b t,RcNeAt.bool_int a b t⟩
   | str b=>obtain⟨t,rfl⟩:=Z;exact⟨EqAt.bool_str a b t,RcAt.bool_str a b t,RcNeAt.bool_str a b t⟩
   | lst h l r=>cases Z;obtain⟨_,_,pl,_⟩:=I.list h;exact⟨EqAt.bool_list a pl.isList @A,RcAt.bool_list a pl.isList @A,RcNeAt.bool_list a pl.isList @A⟩
   | tup h l r=>cases Z;obtain⟨_,_,pl,_⟩:=I.tuple h;exact⟨EqAt.bool_tuple a pl @A,RcAt.bool_tuple a pl @A,RcNeAt.bool_tuple a pl @A⟩
 | int a=>
   intro A e y u v n q θ Z hd hu;obtain⟨t',rfl⟩:=θ;cases q with
   | non=>cases Z;exact⟨EqAt.int_none a t',RcAt.int_none a t',RcNeAt.int_none a t'⟩
   | bl b=>cases Z;exact⟨EqAt.int_bool a t' b,RcAt.int_bool a t' b,RcNeAt.int_bool a t' b⟩
   | int b=>obtain⟨t,rfl⟩:=Z;exact⟨EqAt.int_int a t' b t,RcAt.int_int a t' b t,RcNeAt.int_int a t' b t⟩
   | str b=>obtain⟨t,rfl⟩:=Z;exact⟨EqAt.int_str a t' b t,RcAt.int_str a t' b t,RcNeAt.int_str a t' b t⟩
   | lst h l r=>cases Z;obtain⟨_,_,pl,_⟩:=I.list h;exact⟨EqAt.int_list a t' pl.isList @A,RcAt.int_list a t' pl.isList @A,RcNeAt.int_list a t' pl.isList @A⟩
   | tup h l r=>cases Z;obtain⟨_,_,pl,_⟩:=I.tuple h;exact⟨EqAt.int_tuple a t' pl @A,RcAt.int_tuple a t' pl @A,RcNeAt.int_tuple a t' pl @A⟩
 | str a=>
   intro A e y u v n q θ Z hd hu;obtain⟨t',rfl⟩:=θ;cases q with
   | non=>cases Z;exact⟨EqAt.str_none a t',RcAt.str_none a t',RcNeAt.str_none a t'⟩
   | bl b=>cases Z;exact⟨EqAt.str_bool a t' b,RcAt.str_bool a t' b,RcNeAt.str_bool a t' b⟩
   | int b=>obtain⟨t,rfl⟩:=Z;exact⟨EqAt.str_int a t' b t,RcAt.str_int a t' b t,RcNeAt.str_int a t' b t⟩
   | str b=>obtain⟨t,rfl⟩:=Z;exact⟨EqAt.str_str a t' b t,RcAt.str_str a t' b t,RcNeAt.str_str a t' b t⟩
   | lst h l r=>cases Z;obtain⟨_,_,pl,_⟩:=I.list h;exact⟨EqAt.str_list a t' pl.isList @A,RcAt.str_list a t' pl.isList @A,RcNeAt.str_list a t' pl.isList @A⟩
   | tup h l r=>cases Z;obtain⟨_,_,pl,_⟩:=I.tuple h;exact⟨EqAt.str_tuple a t' pl @A,RcAt.str_tuple a t' pl @A,RcNeAt.str_tuple a t' pl @A⟩
 | @lst p xs ds h l r ih=>
   intro A e y u v n q θ Z hd hu;cases θ;obtain⟨its,η,pl,_⟩:=I.list h;rw[depD] at hd;cases q with
   | non=>cases Z;exact⟨EqAt.list_none pl.isList @A,RcAt.list_none pl.isList @A,RcNeAt.list_none pl.isList @A⟩
   | bl b=>cases Z;exact⟨EqAt.list_bool b pl.isList @A,RcAt.list_bool b pl.isList @A,RcNeAt.list_bool b pl.isList @A⟩
   | int b=>obtain⟨t,rfl⟩:=Z;exact⟨EqAt.list_int b t pl.isList @A,RcAt.list_int b t pl.isList @A,RcNeAt.list_int b t pl.isList @A⟩
   | str b=>obtain⟨t,rfl⟩:=Z;exact⟨EqAt.list_str b t pl.isList @A,RcAt.list_str b t pl.isList @A,RcNeAt.list_str b t pl.isList @A⟩
   | tup h' π r'=>
     cases Z;obtain⟨_,_,α,_⟩:=I.tuple h';exact⟨EqAt.list_tuple pl.isList α @A,RcAt.list_tuple pl.isList α @A,RcNeAt.list_tuple pl.isList α @A⟩
   | @lst ν δ O h' π r'=>
     cases Z;obtain⟨its',ζ,α,_⟩:=I.list h';have n1:=η.length;have Y:=ζ.length
     have β:RcAt A s (.ref p) (.ref ν) (eqDs ds O)/\RcNeAt A s (.ref p) (.ref ν) (!eqDs ds O):=by
      by_cases hl:ds.length=O.length
      ·have e:eqDs ds O=(hE its.toArray.size).all λi=>eqD (ds.getD i .non) (O.getD i .non):=by
        rw[sL hl,q6,<-n1,l]
       rw[e];have hz:its.toArray.size=its'.toArray.size:=by simp;omega
       have he:∀j (h1:j < its.toArray.size) (h2:j < its'.toArray.size),EqAt A.in1 s its.toArray[j] its'.toArray[j] (eqD (ds.getD j .non) (O.getD j .non)):=λj h1 h2=>by
        have υ:j < its.length:=by simpa using h1
        have τ:j < its'.length:=by simpa using h2
        have ρ:j < xs.length:=by omega
        have ξ:j < δ.length:=by omega
        have ο:j < ds.length:=by omega
        have ι:j < O.length:=by omega
        have g1:xs[j]? =aS (xs.getD j .non):=by rw[ee,b' ρ];rfl
        have g2:ds[j]? =aS (ds.getD j .non):=by rw[ee,b' ο];rfl
        have χ:δ[j]? =aS (δ.getD j .non):=by rw[ee,b' ξ];rfl
        have φ:O[j]? =aS (O.getD j .non):=by rw[ee,b' ι];rfl
        have hn:n≠0:=by omega
        exact(ih j _ _ g1 g2 (n - 1) (r' j _ _ χ φ) (mM η h1) (mM ζ h2) (by have:=AV (eO g2);omega) (by show A.units + 1 + (n - 1) < cLine;omega)).1
       exact⟨RcAt.lists pl.isList α.isList hz @A he,RcNeAt.lists pl.isList α.isList hz @A he⟩
      ·rw[sJ hl];have hz:(its.toArray.size != its'.toArray.size)=true:=by simp;omega
       exact⟨RcAt.lists_lengths pl.isList α.isList hz @A,RcNeAt.lists_lengths pl.isList α.isList hz @A⟩
     rw[eqD];refine⟨?_,β⟩;by_cases hp:p=ν
     ·subst hp;have e:Dt.lst ds=Dt.lst O:=(Rep.lst h l r).fun I (.lst h' π r');have ψ:eqDs ds O=true:=by have:=DO e;rw[eqD] at this;exact this
      rw[ψ];exact Q0 _
     ·exact QQ hp β.1
 | @tup p xs ds h l r ih=>
   intro A e y u v n q θ Z hd hu;cases θ;obtain⟨its,η,pl,_⟩:=I.tuple h;rw[depD] at hd;cases q with
   | non=>cases Z;exact⟨EqAt.tuple_none pl @A,RcAt.tuple_none pl @A,RcNeAt.tuple_none pl @A⟩
   | bl b=>cases Z;exact⟨EqAt.tuple_bool b pl @A,RcAt.tuple_bool b pl @A,RcNeAt.tuple_bool b pl @A⟩
   | int b=>obtain⟨t,rfl⟩:=Z;exact⟨EqAt.tuple_int b t pl @A,RcAt.tuple_int b t pl @A,RcNeAt.tuple_int b t pl @A⟩
   | str b=>obtain⟨t,rfl⟩:=Z;exact⟨EqAt.tuple_str b t pl @A,RcAt.tuple_str b t pl @A,RcNeAt.tuple_str b t pl @A⟩
   | lst h' π r'=>
     cases Z;obtain⟨_,_,α,_⟩:=I.list h';exact⟨EqAt.tuple_list pl α.isList @A,RcAt.tuple_list pl α.isList @A,RcNeAt.tuple_list pl α.isList @A⟩
   | @tup ν δ O h' π r'=>
     cases Z;obtain⟨its',ζ,α,_⟩:=I.tuple h';have n1:=η.length;have Y:=ζ.length
     have β:RcAt A s (.ref p) (.ref ν) (eqDs ds O)/\RcNeAt A s (.ref p) (.ref ν) (!eqDs ds O):=by
      have e:eqDs ds O=((hE (min its.toArray.size its'.toArray.size)).all (λi=>eqD (ds.getD i .non) (O.getD i .non))&&its.toArray.size == its'.toArray.size):=by
       by_cases hl:ds.length=O.length
       ·have ε:its.toArray.size=ds.length:=by simp;omega
        have γ:its'.toArray.size=ds.length:=by simp;omega
        rw[sL hl,ε,γ,Ou,JL,QH]
       ·have z:(its.toArray.size == its'.toArray.size)=false:=by rw[tz];simp;omega
        rw[sJ hl,z,Ks]
      rw[e]
      have he:∀j (h1:j < its.toArray.size) (h2:j < its'.toArray.size),EqAt A.in1 s its.toArray[j] its'.toArray[j] (eqD (ds.getD j .non) (O.getD j .non)):=λj h1 h2=>by
       have υ:j < its.length:=by simpa using h1
       have τ:j < its'.length:=by simpa using h2
       have ρ:j < xs.length:=by omega
       have ξ:j < δ.length:=by omega
       have ο:j < ds.length:=by omega
       have ι:j < O.length:=by omega
       have g1:xs[j]? =aS (xs.getD j .non):=by rw[ee,b' ρ];rfl
       have g2:ds[j]? =aS (ds.getD j .non):=by rw[ee,b' ο];rfl
       have χ:δ[j]? =aS (δ.getD j .non):=by rw[ee,b' ξ];rfl
       have φ:O[j]? =aS (O.getD j .non):=by rw[ee,b' ι];rfl
       have hn:n≠0:=by omega
       exact(ih j _ _ g1 g2 (n - 1) (r' j _ _ χ φ) (mM η h1) (mM ζ h2) (by have:=AV (eO g2);omega) (by show A.units + 1 + (n - 1) < cLine;omega)).1
      exact⟨RcAt.tuples pl α @A he,RcNeAt.tuples pl α @A he⟩
     rw[eqD];refine⟨?_,β⟩;by_cases hp:p=ν
     ·subst hp;have e:Dt.tup ds=Dt.tup O:=(Rep.tup h l r).fun I (.tup h' π r');have ψ:eqDs ds O=true:=by have:=DO e;rw[eqD] at this;exact this
      rw[ψ];exact Q0 _
     ·exact QQ hp β.1
end
noncomputable def rEqD (K:aT) (neg:JC):R2:=λx y H Q=>∃d e,Rep K H x d/\Rep K H y e/\depD d<=100/\Q (.bl (if neg then !eqD d e else eqD d e)) H
section
variable {X:Cx} {K:aT}
theorem Fd (h:X.K=K) (hu:X.A.units + 100 < cLine):OpR X (compareOp .Eq) (rEqD K false):=by
 subst h;intro pins s σ H x y v u Q I Y O h;obtain⟨d,e,α,Z,hd,q⟩:=h;exact(rc_D I α 100 Z Y O hd hu).2.1 X.prog X.w X.xe _ ⟨.bl _,H,I,rfl,q⟩
theorem rY (h:X.K=K) (hu:X.A.units + 100 < cLine):OpR X (compareOp .NotEq) (rEqD K true):=by
 subst h;intro pins s σ H x y v u Q I Y O h;obtain⟨d,e,α,Z,hd,q⟩:=h;exact(rc_D I α 100 Z Y O hd hu).2.2 X.prog X.w X.xe _ ⟨.bl _,H,I,rfl,q⟩
end
inductive yL:St->Nat->nk V->St->Prop where
 | z {a v:nk V} {l:St}:yL (a::l) 0 v (v::l)
 | s {a v:nk V} {l l':St} {i:Nat}:yL l i v l'->yL (a::l) (i + 1) v (a::l')
theorem yL.eq {l O:St} {i:Nat} {v:nk V} (h:yL l i v O):l.set i v=O:=by
 induction h with
 | z=>rfl
 | s _ ih=>rw[List.set_cons_succ,ih]
inductive yM:St->Nat->V->Prop where
 | z {v:V} {l:St}:yM (aS v::l) 0 v
 | s {a:nk V} {v:V} {l:St} {i:Nat}:yM l i v->yM (a::l) (i + 1) v
theorem yM.eq {l:St} {i:Nat} {v:V} (h:yM l i v):l[i]? =aS (aS v):=by
 induction h with
 | z=>rfl
 | s _ ih=>rw[List.getElem?_cons_succ];exact ih
section
variable {σ σ':St} {H:Hp} {Q:VK} {D:Ends} {ta tb tc te:TE} {t u:TS} {tt tt':TT} {r r':R2} {x y v:V}
theorem aI {N:C'} {vs:eA V} {t:TS} (e:lQ N vs=σ') (h:t D σ' H):t D (lQ N vs) H:=by rw[e];exact h
theorem Iu {i:Nat} (e:yM σ i v) (h:Q v H):tVar i σ H Q:=⟨v,e.eq,h⟩
theorem s_rI {C:Int->Int->Prop} {g:Int->Int->V} {i j:Int} (c:C i j) (h:Q (g i j) H):rI C g (.int i) (.int j) H Q:=⟨i,j,rfl,rfl,c,h⟩
theorem ID {g:Int->Int->V} {i j:Int} (h:Q (g i j) H):rI0 g (.int i) (.int j) H Q:=⟨i,j,rfl,rfl,h⟩
theorem IE (e:scal x y=true) (h:Q (.bl (decide (x=y))) H):rEq x y H Q:=⟨e,h⟩
theorem IC (e:scal x y=true) (h:Q (.bl (!decide (x=y))) H):rNe x y H Q:=⟨e,h⟩
theorem GA (h:D.nx σ H):Ga D σ H:=h
theorem IA (h:t {D with nx:=u D} σ H):tSeq t u D σ H:=h
theorem EK {i:Nat} {Q:St->Hp->Prop} (e:yL σ i (aS v) σ') (h:Q σ' H):yr i v σ H Q:=by show Q (σ.set i (aS v)) H;rw[e.eq];exact h
theorem GJ {Q:St->Hp->Prop} (h:Q σ H):gNil [] σ H Q:=⟨rfl,h⟩
theorem EL {g:TG} {O:TGs} {vs:eA V} {Q:St->Hp->Prop} (h:g v σ H fun σ' H'=>O vs σ' H' Q):FF g O (v::vs) σ H Q:=⟨v,vs,rfl,h⟩
theorem GI {K:aT} {n:Nat} {O:TGs} {p:eh} {xs:eA V} {Q:St->Hp->Prop} (e:SqT K H p xs) (l:xs.length=n) (h:O xs σ H Q):gTup K n O (.ref p) σ H Q:=⟨p,xs,rfl,e,l,h⟩
def NewT (Q:VK) (xs:eA V) (H:Hp):Prop:=xs.length<=hH/\∀p,H p=eC->Q (.ref p) (upd H p (.tup xs))
def NewL (Q:VK) (xs:eA V) (H:Hp):Prop:=xs.length<=hH/\∀p,H p=eC->Q (.ref p) (upd H p (.lst xs))
theorem Iv {tr:TA} (h:tr σ H (NewT Q)):tTup tr σ H Q:=h
theorem IF {tr:TA} (h:tr σ H (NewL Q)):tLst tr σ H Q:=h
theorem eX {H:Hp} {D:eh} {o:HO} (h:H D=eC):Same H (upd H D o):=λb u e=>by rw[aH (ar e h)];exact e
theorem jb {o:HO} (h:∀p H2,H p=eC->Same H H2->H2 p=aS o->Q (.ref p) H2):∀p,H p=eC->Q (.ref p) (upd H p o):=λp hp=>h p _ hp (eX hp) aQ
theorem Same.get {H H':Hp} (e:Same H H') {b:eh} {o:HO} (h:H b=aS o):H' b=aS o:=e b o h
theorem GB {xs:eA V} (l:xs.length<=hH) (h:∀p H2,H p=eC->Same H H2->H2 p=aS (.tup xs)->Q (.ref p) H2):NewT Q xs H:=⟨l,jb h⟩
theorem GC {xs:eA V} (l:xs.length<=hH) (h:∀p H2,H p=eC->Same H H2->H2 p=aS (.lst xs)->Q (.ref p) H2):NewL Q xs H:=⟨l,jb h⟩
theorem ES {sp:Sp} {E:XK} {tr:TA} (h:tr σ H λvs H1=>sp vs H1 Q E):Bv sp [] E tr σ H Q:=by unfold Bv;simp only[LF];exact h
theorem Iy {K:aT} {p:eh} {xs:eA V} {lo hi:nk Int} (e:SqL K H p xs) (h:∀q H2,H q=eC->Same H H2->H2 q=aS (.lst (cutV xs lo hi))->Q (.ref q) H2):rSlL K (.ref p) lo hi H Q:=⟨p,xs,rfl,e,jb h⟩
theorem IH {K:aT} {p:eh} {xs:eA V} {i:Int} (e:SqL K H p xs) (a:atI xs i=aS v) (h:Q v H):rIxL K (.ref p) (.int i) H Q:=⟨p,xs,i,v,rfl,rfl,e,a,h⟩
theorem IG {K:aT} {p:eh} {xs:eA V} {i:Int} (e:SqT K H p xs) (a:atI xs i=aS v) (h:Q v H):rIxT K (.ref p) (.int i) H Q:=⟨p,xs,i,v,rfl,rfl,e,a,h⟩
theorem Aj {n:Nat} (h:n<=1000):n<=sizeLine:=Kw (gm h)
theorem BK {K:aT} {neg:JC} {d e:Dt} (Y:Rep K H x d) (O:Rep K H y e) (hd:depD d<=100) (h:Q (.bl (if neg then !eqD d e else eqD d e)) H):rEqD K neg x y H Q:=⟨d,e,Y,O,hd,h⟩
theorem s_ty {K:aT} {T:Jy} {A:Prop} (e:tyV K T x H) (h:A):tyV K T x H/\A:=⟨e,h⟩
theorem GP {i:Int} (h:Q (.int (u4 i:Nat)) H):GV (.int i) [] H Q:=⟨i,rfl,rfl,h⟩
theorem GH {K:aT} {p:eh} {xs:eA V} (e:SqL K H p xs) (h:Q (.int xs.length) H):rLen K [.ref p] H Q:=⟨_,_,rfl,.inl ⟨xs,e,rfl⟩,h⟩
theorem GG {K:aT} {p:eh} {xs:eA V} (e:SqT K H p xs) (h:Q (.int xs.length) H):rLen K [.ref p] H Q:=⟨_,_,rfl,.inr ⟨xs,e,rfl⟩,h⟩
theorem II {K:aT} {T k:Jy} (e:j0 K H x k) (m:T∈["int","bool","str","list","tuple","dict"]) (h:Q (.bl (subB k T)) H):rIsi K [x,.ty T] H Q:=⟨x,k,T,rfl,e,m,h⟩
theorem GL (h:∀p H2,H p=eC->Same H H2->H2 p=aS (.dK [])->Q (.ref p) H2):Dj σ H Q:=jb h
theorem IJ {O:TI} {g:TG} {tb:TS} (h:O σ H λJ H1=>∃W:Nat->Nat->St->Hp->Prop,(∃m,W 0 m σ H1)/\∀i m σ H,W i m σ H->(J.stop i H/\D.nx σ H)∨(J.go i H/\∃N:St->Hp->Prop,(∀σ' H',N σ' H'->∃m',m' < m/\W (i + 1) m' σ' H')/\∀x H',J.yld i H x H'->g x σ H' fun ω H2=>tb {D with nx:=N,ct:=N,bk:=D.nx} ω H2)):tFor O g tb D σ H:=h
theorem Ir {Q:JC->Hp->Prop} (h:Q true H):tYes σ H Q:=h
theorem Gw {A B:Prop} (h:A):if true=true then A else B:=by rw[px rfl];exact h
theorem EM {A B:Prop} (h:B):if false=true then A else B:=by rw[ko hC];exact h
theorem zA {c:JC} {A B:Prop} (e:c=true) (h:A):if c=true then A else B:=by rw[px e];exact h
theorem tS {c:JC} {A B:Prop} (e:c=false) (h:B):if c=true then A else B:=by rw[e,ko hC];exact h
theorem GO {n:Nat} {fx:D'} {Y:TI} {g:TG} (h:Y σ H λJ H1=>∀D,H1 D=eC->
 ∃W:Nat->Nat->eA V->Hp->Prop,(∃m,W 0 m [] (upd H1 D (.lst [])))/\∀i m ys H2,W i m ys H2->(J.stop i H2/\Q (.ref D) H2)∨
   (J.go i H2/\∃N:eA V->Hp->Prop,(∀O H',N O H'->∃β,β < m/\W (i + 1) β O H')/\∀x δ,J.yld i H2 x δ->g x (cQ n fx σ) δ fun π Z=>tt π Z λb α=>
    if b=true then te π α λv γ=>γ D=aS (.lst ys)/\ys.length < hH/\N (ys++[v]) (upd γ D (.lst (ys++[v]))) else N ys α)):xM n fx Y g tt te σ H Q:=h
theorem GQ {K:aT} {p:eh} {bs:eA JC} (e:SqL K H p (bs.map V.bl)) (h:Q (.bl (bs.all id)) H):GW K [.ref p] H Q:=⟨p,bs,rfl,e,h⟩
theorem BL {j:Int} {A:Prop} (h1: -(2 ^ 62)<=j) (h2:j < 2 ^ 62) (h:A): -(2 ^ 62)<=j/\j < 2 ^ 62/\A:=⟨h1,h2,h⟩
end
noncomputable def tCut (t u:TS):TS:=λD σ H=>∃P:St->Hp->Prop,t {D with nx:=P} σ H/\∀σ' H',P σ' H'->u D σ' H'
theorem iO {X:Cx} {st:Lv} {rest:eA Lv} {t u:TS} (h1:PS X st t) (h2:PSs X rest u):PSs X (st::rest) (tCut t u):=by
 intro pins s σ H D I ⟨P,a,b⟩;refine Oj (thn (h1 pins s σ H {D with nx:=P} I a) λf Z q=>?_);cases f with
 | next=>obtain⟨Y,H1,O,α⟩:=q;exact h2 pins Z Y H1 D O (b Y H1 α)
 | brk=>exact q
 | cont=>exact q
 | ret v=>exact q
theorem qj {t u:TS} {D:Ends} {σ:St} {H:Hp} (P:St->Hp->Prop) (h:t {D with nx:=P} σ H) (k:∀σ' H',P σ' H'->u D σ' H'):tCut t u D σ H:=⟨P,h,k⟩
section
variable {K:aT} {n:Nat} {fx:D'} {g:TG} {tc:TT} {te:TE} {σ:St} {H1:Hp} {D:eh} {Q:Hp->Prop}
structure Cs (Pv:Nat->eA V->Prop) (H1:Hp) (D:eh) (i:Nat) (ys:eA V) (H:Hp):Prop where
 pv:Pv i ys
 same:Same H1 H
 at':H D=aS (.lst ys)
 len:ys.length<=i
theorem Cs.put {Y:Nat->eA V->Prop} {i:Nat} {ys:eA V} {v:V} {O:Hp} (f:H1 D=eC) (s:Same H1 O) (e:O D=aS (.lst ys)) (l:ys.length<=i) (hi:i < 16777216) (p:Y (i + 1) (ys++[v])):
  O D=aS (.lst ys)/\ys.length < hH/\Cs Y H1 D (i + 1) (ys++[v]) (upd O D (.lst (ys++[v]))):=
 ⟨e,by rw[kv];omega,p,λb o h=>by rw[aH (ar h f)];exact s b o h,aQ,by rw[eH];simpa using l⟩
theorem Cs.skip {Y:Nat->eA V->Prop} {i:Nat} {ys:eA V} {O:Hp} (s:Same H1 O) (e:O D=aS (.lst ys)) (l:ys.length<=i) (p:Y (i + 1) ys):Cs Y H1 D (i + 1) ys O:=⟨p,s,e,@A⟩
theorem Cs.zero {O:Nat->eA V->Prop} (f:H1 D=eC) (p:O 0 []):Cs O H1 D 0 [] (upd H1 D (.lst [])):=⟨p,eX f,aQ,mu _⟩
end
structure Jm (K:aT) (C:eh) (m:u3) (f:eh):Prop where
 ga:L4 K (.ref C) "__getattribute__"=aS (aS (.builtin "type.__getattribute__"))
 rd:Pu K C (.type "type")=true
 fd:Px K (.ref C) (.type "type") m=aS (.val (.ref f))
 hd:Nl (.ref f)=true
 kp:JK K (.ref f)=true
structure Jp (K:aT) (D:eh):Prop where
 cls:Cls K D
 ha:vr K (.ref D) "__class__"=aS (aS (.builtin "object.__class__"))
 hn:L4 K (.builtin "object.__class__") "__get__"=aS (aS (.builtin "getset_descriptor.__get__"))
 tk:ND K (.builtin "object.__class__")=aS true
 hm:JJ K D (.type "object")=aS true
section
variable {X:Cx} {K:aT}
theorem bL {e:x7} {ta:TE} {f:u3} {pos:Pos} (h:X.K=K) (he:PE X e ta) (hb:attributeBase e f X.env (eval e X.env)=eval e X.env):PE X (.Attribute e f pos) (tFld K ta f):=by subst h;exact G4 he hb
theorem mV {o value:x7} {ta tv:TE} {f:u3} {pos pos':Pos} (h:X.K=K) (ha:PE X o ta) (O:PE X value tv) (hs:swapsWith value (aS (.Attribute o f pos')) pos.line X.env=pure false):PS X (.Assign [.Attribute o f pos'] value pos) (sFld K ta tv f):=by subst h;exact GY ha O hs
end
section
variable {σ:St} {H:Hp} {Q:VK} {D:Ends} {te tv ta:TE} {x y v:V}
def HW (K:aT) (f:u3) (Q:VK) (x:V) (H:Hp):Prop:=∃a C dx fs v,x= .ref a/\H a=aS (.ins C dx fs)/\Cls K C/\gI K C f/\fs.lookup f=aS v/\Q v H
theorem IK {K:aT} {f:u3} (h:te σ H (HW K f Q)):tFld K te f σ H Q:=h
theorem bS {K:aT} {f:u3} {p C dx:eh} {fs:eA (u3×V)} (e:H p=aS (.ins C dx fs)) (c:Cls K C) (n:gI K C f) (l:fs.lookup f=aS v) (h:Q v H):HW K f Q (.ref p) H:=⟨p,C,dx,fs,v,rfl,e,c,n,l,h⟩
structure Upd (H H':Hp) (p:eh) (o:HO):Prop where
 at':H' p=aS o
 oth:∀b u,b≠p->H b=aS u->H' b=aS u
 non:∀b,b≠p->H b=eC->H' b=eC
theorem Upd.of {H:Hp} {p:eh} {o:HO}:Upd H (upd H p o) p o:=⟨aQ,λb u n h=>by rw[aH n];exact h,λb n h=>by rw[aH n];exact h⟩
def HU (K:aT) (f:u3) (y:V) (D:Ends) (σ:St) (x:V) (H:Hp):Prop:=∃a C dx fs,x= .ref a/\H a=aS (.ins C dx fs)/\Cls K C/\gI K C f/\fs.length < 1000/\D.nx σ (upd H a (.ins C dx (putF f y fs)))
theorem BF {K:aT} {f:u3} (h:tv σ H λy H1=>te σ H1 (HU K f y D σ)):sFld K te tv f D σ H:=h
theorem mQ {K:aT} {f:u3} {p C dx:eh} {fs fs':eA (u3×V)} (e:H p=aS (.ins C dx fs)) (c:Cls K C) (n:gI K C f) (l:fs.length < 1000) (O:putF f y fs=fs') (h:∀H2,Upd H H2 p (.ins C dx fs')->D.nx σ H2):
  HU K f y D σ (.ref p) H:=⟨p,C,dx,fs,rfl,e,c,n,l,by rw[O];exact h _ Upd.of⟩
def DY (C:eh) (sp:Sp) (E:XK) (Q:VK) (vs:eA V) (H:Hp):Prop:=∀x dx,H x=eC->H dx=eC->dx≠x->sp (.ref x::(vs++[])) (upd (upd H dx (.own x)) x (.ins C dx [])) (λv H2=>v= .non/\Q (.ref x) H2) E
theorem GE {C:eh} {sp:Sp} {E:XK} {tr:TA} (h:tr σ H (DY C sp E Q)):Gb C sp [] E tr σ H Q:=h
theorem BH {C:eh} {sp:Sp} {E:XK} {vs:eA V} (h:∀x dx H2,H x=eC->Same H H2->H2 x=aS (.ins C dx [])->sp (.ref x::vs) H2 (λv H2=>v= .non/\Q (.ref x) H2) E):DY C sp E Q vs H:=by
 intro x dx O ο n;rw[LF];exact h x dx _ O (λb o e=>by rw[aH (ar e O),aH (ar e ο)];exact e) aQ
theorem Upd.same {H0 H2:Hp} {p:eh} {o:HO} (u:Upd H H2 p o) (f:H0 p=eC) (s:Same H0 H):Same H0 H2:=λb q e=>u.oth b q (ar e f) (s b q e)
end
theorem Inv.laidCh {X:Cx} {pins:DC} {σ:St} {H:Hp} {s:eL} {h':u2} {a:eh} {o:HO} {t':Nat} {ch:G'} (I:Inv X pins σ H s) (k:∀b u,b∉ch->s.heap.get? b=aS u->h'.get? b=aS u) (hp:s.heap.objs.size<=a)
  (new:fJ X.prog X.w (upd H a o) h' a o) (fp:∀b∈ch,FpOk X pins H b):Inv X pins σ (upd H a o) {s with heap:=h',toks:=t'}:=by
 have fr:H a=none:=I.hok.fresh hp;have θ:∀b u,H b=aS u->b∉ch:=λb u e z=>by rw[(fp b z).1] at e;cases e
 refine I.step (g':=s.gens) (d':=s.drawn) (ch:=ch) (λb hb=>?_) (λb ob _ _ O e _=>k b ob O e) (λb ob _ _ O e _=>⟨ob.slots,k b ob O e⟩) (λb ob _ e n=>?_) (λb ob O e=>⟨ob,k b ob O e⟩)
  (λb xs e=>by rw[aH (ar e fr)];exact e) (λb ob u e=>by rw[aH (ar e fr)];exact e) (λb ps e=>⟨#[],by rw[aH (ar e fr),e];simp⟩) (λm hm=>?_) (λb u e=>?_) I.bare
 ·obtain⟨η,β,ο,α,Z,Y⟩:=fp b hb;exact⟨α,β,Z,Y⟩
 ·rw[aH (v7 (eF (fy e) hp))];exact n
 ·obtain⟨ob,es,ep,ho,r⟩:=hm;exact⟨ob,es,ep,k _ ob (λz=>(fp _ z).2.1 rfl) ho,r⟩
 ·by_cases hb:b=a
  ·subst hb;rw[aQ] at e;cases e;exact new
  ·rw[aH hb] at e;refine(I.hok b u e).stay (λc v O q=>k c v ?_ q) (λc q=>by rw[aH (ar q fr)];exact q) λc xs q=>by rw[aH (ar q fr)];exact q
   rcases O with z | z
   ·rw[z];exact θ b u e
   ·exact θ c _ z
theorem Inv.turnedCh {X:Cx} {pins:DC} {σ:St} {H:Hp} {s:eL} {h':u2} {t':Nat} {ch:G'} (I:Inv X pins σ H s) (k:∀b u,b∉ch->s.heap.get? b=aS u->h'.get? b=aS u)
  (fp:∀b∈ch,FpOk X pins H b):Inv X pins σ H {s with heap:=h',toks:=t'}:=by
 have θ:∀b u,H b=aS u->b∉ch:=λb u e z=>by rw[(fp b z).1] at e;cases e
 refine I.step (g':=s.gens) (d':=s.drawn) (ch:=ch) (λb hb=>?_) (λb ob _ _ O e _=>k b ob O e) (λb ob _ _ O e _=>⟨ob.slots,k b ob O e⟩) (λb ob _ e n=>n) (λb ob O e=>⟨ob,k b ob O e⟩)
  (λb xs e=>e) (λb ob u e=>e) (λb ps e=>⟨#[],by rw[e];simp⟩) (λm hm=>?_) (λb u e=>?_) I.bare
 ·obtain⟨η,β,ο,α,Z,Y⟩:=fp b hb;exact⟨α,β,Z,Y⟩
 ·obtain⟨ob,es,ep,ho,r⟩:=hm;exact⟨ob,es,ep,k _ ob (λz=>(fp _ z).2.1 rfl) ho,r⟩
 ·refine(I.hok b u e).stay (λc v O q=>k c v ?_ q) (λc q=>q) λc xs q=>q;rcases O with z | z
  ·rw[z];exact θ b u e
  ·exact θ c _ z
noncomputable def Ite (K:aT) (a:eh):It:=
 ⟨λi H=>∃xs x,SqL K H a xs/\xs[i]? =aS x,λi H x H'=>∃p v,H p=eC/\x= .ref p/\H'=upd H p (.tup [.int i,v])/\∀xs,SqL K H a xs->xs[i]? =aS v,λi H=>∃xs,SqL K H a xs/\xs.length=i⟩
noncomputable def Itz (x:u3):It:=⟨λi _=>i < x.cps.size,λi H v H'=>∃p c,H p=eC/\v= .ref p/\H'=upd H p (.tup [.int i,.str ⟨#[c]⟩])/\x.cps[i]? =aS c,λi _=>i=x.cps.size⟩
theorem wJ:(2:Nat)<=sizeLine:=by rw[kv];decide
theorem qZ {P:oe} {w:sb} {K:aT} {γ:eA x7} {k:Nat} {pos:Pos} (a e it:eh) (α:e≠it):
  Turn P w K (.Tuple γ k pos) (Ite K a) [e,it] e (λi h=>(∃Z,IsEnum h e it i Z)/\h.IsListIter it a i) where
 mem:=by simp
 obj:=λi h st b hb=>by
  obtain⟨⟨Z,he⟩,⟨o,ho,φ,hd⟩⟩:=st;rcases u5.mp hb with z | z
  ·subst z;exact⟨_,he,λv z=>by cases z⟩
  ·rw[fk.mp z];exact⟨o,ho,λv z=>by rw[hd] at z;cases z⟩
 keep:=λi h h' st k=>⟨let ⟨Z,he⟩:=st.1;⟨Z,k e @E _ he⟩,st.2.at λo z=>k it @E o z⟩
 item:=by
  intro X ζ hw hK φ i pins s σ H E I hf st ω;subst ζ hw hK;obtain⟨xs,x,υ,τ⟩:=ω;obtain⟨its,ο,p,hz⟩:=I.list υ;obtain⟨⟨Z,he⟩,hl⟩:=st
  have θ:a≠it:=λz=>by
   obtain⟨o,ho,η,_⟩:=hl;obtain⟨o',n,Y,ρ,_⟩:=p;rw[z,ho] at Y;cases Y;rw[η] at ρ;exact gd ρ @C
  have ι:a≠e:=λz=>by
   obtain⟨o',n,Y,ρ,_⟩:=p;rw[z,he] at Y;cases Y;exact gd (show JA "enumerate"= .type "list" from ρ) @C
  have W:=L6 (prog:=X.prog) (w:=X.w) (A:=X.A) (Draws.list (A:=X.A.in1) (I.ok.hd φ) it a θ its.toArray) e α (by simp[α,vl ι]) @E;have hi:i < its.toArray.size:=by have:=ο.length;have:=(dt.mp τ).1;simp;omega
  refine W.item i s _ _ hi ⟨⟨Z,he⟩,hl,p.isList⟩ λT π h' tk a3 hT ε β hk=>⟨_,rfl,W.go γ k pos i T _ _ _ β λa4 ν ξ=>?_⟩;obtain⟨t,χ,ψ,rfl⟩:=a3;have a0:=W.apart i T h' β
  have ru:RelV x χ:=by
   obtain⟨u,hu,r⟩:=ο.get τ;have δ:its[i]? =aS χ:=by simpa using ψ
   rw[hu] at δ;cases δ;exact r
  have O:∀b u,b∉[e,it]->s.heap.get? b=aS u->a4.get? b=aS u:=λb u hb q=>ξ b u hb (hk b u hb q);have fr:H T=none:=I.hok.fresh hT;refine⟨.ref T,upd H T (.tup [.int i,x]),I.laidCh (t':=tk) O hT ⟨wJ,[.int i t,χ],.cons ⟨t,rfl⟩ (.cons ru .nil),?_⟩ hf,rfl,⟨T,x,fr,rfl,rfl,λys hy=>by rw[I.list_inj hy υ];exact τ⟩,⟨ν.1,ν.2.1⟩,λb hb=>?_⟩
  ·obtain⟨o,ho,r⟩:=ε;exact⟨o,ξ T o a0 ho,r⟩
  ·have fb:=(hf b hb);rw[aH (λz=>?_)]
   ·exact fb.1
   ·have lt:b < s.heap.objs.size:=by
     rcases u5.mp hb with z | z
     ·subst z;exact fy he
     ·rw[fk.mp z];obtain⟨o,ho,_⟩:=hl;exact fy ho
    rw[z] at lt;exact gd (eF lt hT) (Kk _)
 done:=by
  intro X ζ hw hK φ i pins s σ H E I hf st ω;subst ζ hw hK;obtain⟨xs,υ,τ⟩:=ω;obtain⟨its,ο,p,hz⟩:=I.list υ;obtain⟨⟨Z,he⟩,hl⟩:=st
  have θ:a≠it:=λz=>by
   obtain⟨o,ho,η,_⟩:=hl;obtain⟨o',n,Y,ρ,_⟩:=p;rw[z,ho] at Y;cases Y;rw[η] at ρ;exact gd ρ @C
  have ι:a≠e:=λz=>by
   obtain⟨o',n,Y,ρ,_⟩:=p;rw[z,he] at Y;cases Y;exact gd (show JA "enumerate"= .type "list" from ρ) @C
  have W:=L6 (prog:=X.prog) (w:=X.w) (A:=X.A) (Draws.list (A:=X.A.in1) (I.ok.hd φ) it a θ its.toArray) e α (by simp[α,vl ι]) @E;have hn:its.toArray.size=i:=by have:=ο.length;simp;omega
  subst hn;exact W.done s _ _ ⟨⟨Z,he⟩,hl,p.isList⟩ λh' tk hk=>⟨rfl,I.turnedCh hk hf⟩
 self:=λ_ _ _ _ _ st h=>let ⟨_,he⟩:=st.1;KO he h
theorem xK {P:oe} {w:sb} {K:aT} {γ:eA x7} {k:Nat} {pos:Pos} {x:u3} {t:Tok} {n:Jy} (e it:eh) (α:e≠it)
  (D:∀A:u7,A.handled=eC->Draws P w A it [it] x.cps.size (λi v=>∃c u,x.cps[i]? =aS c/\v= .str ⟨#[c]⟩ u) (λi h=>h.IsStrIter it n x t i)):
  Turn P w K (.Tuple γ k pos) (Itz x) [e,it] e (λi h=>(∃Y,IsEnum h e it i Y)/\h.IsStrIter it n x t i) where
 mem:=by simp
 obj:=λi h st b hb=>by
  obtain⟨⟨Y,he⟩,⟨o,ho,ι,hd⟩⟩:=st;rcases u5.mp hb with z | z
  ·subst z;exact⟨_,he,λv z=>by cases z⟩
  ·rw[fk.mp z];exact⟨o,ho,λv z=>by rw[hd] at z;cases z⟩
 keep:=λi h h' st k=>⟨let ⟨Y,he⟩:=st.1;⟨Y,k e @E _ he⟩,let ⟨o,ho,r⟩:=st.2;⟨o,k it @E o ho,r⟩⟩
 item:=by
  intro X ζ hw ρ ι i pins s σ H E I hf st θ;subst ζ hw ρ;obtain⟨⟨Y,he⟩,hl⟩:=st;have W:=L6 (prog:=X.prog) (w:=X.w) (A:=X.A) (D X.A.in1 (I.ok.hd ι)) e α (by simp[α]) @E;refine W.item i s _ _ θ ⟨⟨Y,he⟩,hl⟩ λT π h' tk ο hT ε β hk=>⟨_,rfl,W.go γ k pos i T _ _ _ β fun τ δ η=>?_⟩;obtain⟨Z,υ,⟨c,u,ν,rfl⟩,rfl⟩:=ο;have ξ:=W.apart i T h' β;have O:∀b u,b∉[e,it]->s.heap.get? b=aS u->τ.get? b=aS u:=λb u hb q=>η b u hb (hk b u hb q);have fr:H T=none:=I.hok.fresh hT;refine⟨.ref T,upd H T (.tup [.int i,.str ⟨#[c]⟩]),I.laidCh (t':=tk) O hT ⟨wJ,[.int i Z,.str ⟨#[c]⟩ u],.cons ⟨Z,rfl⟩ (.cons ⟨u,rfl⟩ .nil),?_⟩ hf,rfl,⟨T,c,fr,rfl,rfl,ν⟩,⟨δ.1,δ.2⟩,λb hb=>?_⟩
  ·obtain⟨o,ho,r⟩:=ε;exact⟨o,η T o ξ ho,r⟩
  ·have fb:=(hf b hb);rw[aH (λz=>?_)]
   ·exact fb.1
   ·have lt:b < s.heap.objs.size:=by
     rcases u5.mp hb with z | z
     ·subst z;exact fy he
     ·rw[fk.mp z];obtain⟨o,ho,_⟩:=hl;exact fy ho
    rw[z] at lt;exact gd (eF lt hT) (Kk _)
 done:=by
  intro X ζ hw ρ ι i pins s σ H E I hf st θ;subst ζ hw ρ;obtain⟨⟨Y,he⟩,hl⟩:=st;have W:=L6 (prog:=X.prog) (w:=X.w) (A:=X.A) (D X.A.in1 (I.ok.hd ι)) e α (by simp[α]) @E;have θ:i=x.cps.size:=θ;subst θ;exact W.done s _ _ ⟨⟨Y,he⟩,hl⟩ λh' tk hk=>⟨rfl,I.turnedCh hk hf⟩
 self:=λ_ _ _ _ _ st h=>let ⟨_,he⟩:=st.1;KO he h
noncomputable def Ht (K:aT) (tl:TE):TI:=fun σ H R=>tl σ H λx H1=>(∃a,x= .ref a/\(∃xs,SqL K H1 a xs)/\R (Ite K a) H1)∨∃z,x= .str z/\R (Itz z) H1
section
variable {X:Cx} {K:aT}
theorem ji {l:x7} {tl:TE} {Z:eA x7} {k:Nat} {tpos p pos:Pos} (h:X.K=K) (ζ:Gl X "enumerate") (hm:X.mg "enumerate"=eC) (hl:PE X l tl) (hs:lx [l] X.env=[(false,eval l X.env)]:=by rfl):
  PI X (.Tuple Z k tpos) (.Call (.Name "enumerate" p) [l] [] pos) (Ht K tl):=by
 subst h;intro pins s σ H R I h;refine OY (iC I ζ hm boot_enumerate (wh (thn (aa hl af hs pos pins s σ H (λvs H1=>match vs with | [x]=>(∃a,x= .ref a/\(∃xs,SqL X.K H1 a xs)/\R (Ite X.K a) H1)∨∃z,x= .str z/\R (Itz z) H1 | _=>False) I h) λus O ⟨vs,H1,I1,β,γ⟩=>?_) hs rfl))
 match vs,β,γ with
 | [x],β,γ=>
 obtain⟨u,rfl,δ⟩:=β.one;rcases γ with ⟨a,rfl,⟨xs,ε⟩,q⟩ | ⟨z,rfl,q⟩
 ·cases δ;obtain⟨its,η,pl,hz⟩:=I1.list ε;refine Qr pl.isList λh' he α hsz hk=>KO he ?_;refine⟨O.heap.objs.size + 1,[O.heap.objs.size + 1,O.heap.objs.size],_,_,H1,rfl,I1.kept (t':=O.toks) hk,qZ a _ _ (Jr (Ke _)),⟨⟨_,he⟩,α⟩,λb hb=>?_,q⟩;have Y:O.heap.objs.size<=b:=(u5.mp hb).elim (λz=>by rw[z];exact KS _) (λz=>by rw[fk.mp z];exact mu _);exact I1.fpOk Y (I1.hok.fresh Y)
 ·obtain⟨t,rfl⟩:=δ;refine call_enumerate_str λh' he α hsz hk=>KO he ?_
  have fin:∀n,(h'.IsStrIter O.heap.objs.size n z t 0)->(∀A:u7,A.handled=eC->Draws X.prog X.w A O.heap.objs.size [O.heap.objs.size] z.cps.size (λi v=>∃c u,z.cps[i]? =aS c/\v= .str ⟨#[c]⟩ u) (λi h=>h.IsStrIter O.heap.objs.size n z t i))->
    PIE X pins σ (.Tuple Z k tpos) R (.ref (O.heap.objs.size + 1)) {O with heap:=h'}:=λn hn D=>by
   refine⟨O.heap.objs.size + 1,[O.heap.objs.size + 1,O.heap.objs.size],_,_,H1,rfl,I1.kept (t':=O.toks) hk,xK _ _ (Jr (Ke _)) D,⟨⟨_,he⟩,hn⟩,λb hb=>?_,q⟩;have Y:O.heap.objs.size<=b:=(u5.mp hb).elim (λz=>by rw[z];exact KS _) (λz=>by rw[fk.mp z];exact mu _);exact I1.fpOk Y (I1.hok.fresh Y)
  unfold strIterType at α;split at α
  ·exact fin _ α λA hA=>Draws.strAscii hA _ z t
  ·exact fin _ α λA hA=>Draws.strWide hA _ z t
end
theorem mz {K:aT} {a:eh} {xs:eA V} {g:TG} {tb:TS} {D:Ends} {σ:St} {H:Hp} (O:Nat->St->Hp->Prop) (h0:O 0 σ H) (hl:∀i σ H,i<=xs.length->O i σ H->SqL K H a xs)
  (hs:∀i x σ H p H',xs[i]? =aS x->O i σ H->H p=eC->Same H H'->H' p=aS (.tup [.int i,x])->g (.ref p) σ H' fun ω H2=>tb {D with nx:=O (i + 1),ct:=O (i + 1),bk:=D.nx} ω H2) (hd:∀σ H,O xs.length σ H->D.nx σ H):
  ∃W:Nat->Nat->St->Hp->Prop,(∃m,W 0 m σ H)/\∀i m σ H,W i m σ H->
    ((Ite K a).stop i H/\D.nx σ H)∨((Ite K a).go i H/\∃N:St->Hp->Prop,(∀σ' H',N σ' H'->∃Z,Z < m/\W (i + 1) Z σ' H')/\∀x H',(Ite K a).yld i H x H'->g x σ H' fun ω H2=>tb {D with nx:=N,ct:=N,bk:=D.nx} ω H2):=by
 refine⟨λi m σ H=>m=xs.length - i/\i<=xs.length/\O i σ H,⟨xs.length,@E,Ka _,h0⟩,?_⟩;rintro i m σ H ⟨rfl,hi,p⟩;have q:=hl i σ H hi p;by_cases Y:i < xs.length
 ·refine .inr ⟨⟨xs,xs[i],q,by simp[Y]⟩,O (i + 1),fun σ' H' α=>⟨xs.length - (i + 1),by omega,rfl,Y,α⟩,λx H' y=>?_⟩;obtain⟨r,v,f,e1,β,y⟩:=y;subst e1 β;exact hs i v σ H r _ (y xs q) p f (eX f) aQ
 ·have e:i=xs.length:=by omega
  subst e;exact .inl ⟨⟨xs,q,rfl⟩,hd σ H p⟩
section
variable {σ:St} {H:Hp} {te:TE} {R:It->Hp->Prop}
theorem vC {K:aT} (h:te σ H λx H1=>(∃a,x= .ref a/\(∃xs,SqL K H1 a xs)/\R (Ite K a) H1)∨∃z,x= .str z/\R (Itz z) H1):Ht K te σ H R:=h
end
section
variable {σ:St} {H:Hp} {Q:VK} {D:Ends} {te ty tv td:TE} {x y v:V}
theorem iy {l:eh} {xs:eA V} (e:H l=aS (.lst xs)) (hz:xs.length < hH) (h:∀H2,Upd H H2 l (.lst (xs++[y]))->Q .non H2):zR (.ref l) [y] H Q:=⟨l,xs,y,rfl,rfl,e,hz,h _ Upd.of⟩
def DZ (v:V) (x:V) (D:Ends) (σ:St) (y:V) (H:Hp):Prop:=∃a Z,x= .ref a/\DPut H a y v Z/\D.nx σ Z
theorem GK (h:tv σ H λv H1=>td σ H1 λx H2=>ty σ H2 (DZ v x D σ)):GS td ty tv D σ H:=h
theorem EN {p:eh} {kvs:eA (Key×V)} {z:Int} (e:H p=aS (.dK kvs)) (hl:kvs.length < hH) (h:∀H2,Upd H H2 p (.dK (putK kvs (JT z) v))->D.nx σ H2):DZ v (.ref p) D σ (.int z) H:=⟨p,_,rfl,DPut.k (k:=JT z) e hl,h _ Upd.of⟩
def D6 (x:V) (Q:VK) (y:V) (H:Hp):Prop:=∃a v,x= .ref a/\DGet H a y (aS v)/\Q v H
theorem GN (h:td σ H λx H1=>ty σ H1 (D6 x Q)):Ge td ty σ H Q:=h
theorem zC {p:eh} {kvs:eA (Key×V)} {z:Int} (e:H p=aS (.dK kvs)) (l:valV kvs (JT z)=aS v) (h:Q v H):D6 (.ref p) Q (.int z) H:=⟨p,v,rfl,by rw[<-l];exact DGet.k (k:=JT z) e,h⟩
def DX (C:eh) (m:u3) (sp:Sp) (E:XK) (tr:TA) (σ:St) (Q:VK) (x:V) (H:Hp):Prop:=∃a dx fs,x= .ref a/\H a=aS (.ins C dx fs)/\fs.lookup m=eC/\tr σ H λvs H2=>sp (x::(vs++[])) H2 Q E
theorem GD {C:eh} {m:u3} {sp:Sp} {E:XK} {tr:TA} (h:te σ H (DX C m sp E tr σ Q)):Em C m sp [] E te tr σ H Q:=h
theorem di {C dx p:eh} {m:u3} {fs:eA (u3×V)} {sp:Sp} {E:XK} {tr:TA} (e:H p=aS (.ins C dx fs)) (l:fs.lookup m=eC) (h:tr σ H λvs H2=>sp (.ref p::vs) H2 Q E):DX C m sp E tr σ Q (.ref p) H:=⟨p,dx,fs,rfl,e,l,by simp only[LF];exact h⟩
theorem EJ {K:aT} {p:eh} {xs:eA V} (e:SqL K H p xs) (h:∀q H2,H q=eC->Same H H2->H2 q=aS (.lst xs)->Q (.ref q) H2):vF K [.ref p] H Q:=⟨p,xs,rfl,.inl e,jb h⟩
theorem EI {K:aT} {p:eh} {xs:eA V} (e:SqT K H p xs) (h:∀q H2,H q=eC->Same H H2->H2 q=aS (.lst xs)->Q (.ref q) H2):vF K [.ref p] H Q:=⟨p,xs,rfl,.inr e,jb h⟩
theorem Gu {K:aT} {p:eh} {xs:eA V} (e:SqL K H p xs) (h:∀q H2,H q=eC->Same H H2->H2 q=aS (.tup xs)->Q (.ref q) H2):DE K [.ref p] H Q:=⟨p,xs,rfl,.inl ⟨e,jb h⟩⟩
end
def Mv (ch fr:G') (h h':u2):Prop:=(∀b o,b∉ch->b∉fr->h.get? b=aS o->h'.get? b=aS o)/\∀b o,b∉ch->b∈fr->h.get? b=aS o->∃O,h'.get? b=aS {o with slots:=O}
def Bp (h:u2) (e:eh) (C:fC) (dx:J0) (T:nk (eh×fC)):Prop:=
 ∃O vs,h.get? e=aS O/\O.cls=C/\O.dict=dx/\O.data= .fields vs/\1 < vs.size/\
   match T with
   | none=>vs[1]? =aS .none
   | some (t,Z)=>vs[1]? =aS (.ref t)/\t≠e/\∃Y ts,h.get? t=aS Y/\Y.data= .fields ts/\ts[3]? =aS Z
section
variable {M:Model} {A:u7} {E:DB} {s:eL}
theorem uD {h:u2} {a:eh} {o:NJ} {vs:Dz} {i:Nat} {v:fC} (ho:h.get? a=aS o) (hd:o.data= .fields vs):
  ∃o',(h.update a (KL (·.setIfInBounds i v))).get? a=aS o'/\o'.cls=o.cls/\o'.dict=o.dict/\o'.data= .fields (vs.setIfInBounds i v):=by
 have η:=Kv hd (·.setIfInBounds i v);refine⟨_,Jv (KL (·.setIfInBounds i v)) ho (LS η),Mr _ _,?_,η⟩;obtain⟨c,d,O,Y⟩:=o;have hd:O= .fields vs:=hd;subst hd;rfl
theorem CF {base:u2} {env:Env} {outer:eA Env} {L e:eh} {Z:NJ} {vs:Dz} {O:fC} {b:JC} {Q:F'}
  (γ:A.frames=aS (env::outer)) (hl:s.heap.FunFrames base (env::outer)) (hf:env.frame=aS L) (he:s.heap.get? e=aS Z) (hd:Z.data= .fields vs) (hsz:1 < vs.size)
  (h:∀h',Mv [e] (frs (env::outer)) s.heap h'->Bp h' e Z.cls Z.dict (aS (s.heap.objs.size,rawInt L))->Q () {s with heap:=h'}):
  gn M A (do let a <-frameOf env;let pl <-entryPlaceOf L b;let t <-MJ O a .none (rawInt L) .none pl;setField (.ref e) 1 t) Q E s:=by
 have ne:e∉frs (env::outer):=λhm=>by
  obtain⟨_,o,ho,υ⟩:=hl.mem hm;rw[he] at ho;cases ho;exact υ vs hd
 refine aY (wpAny_frameOf_fun γ hl hf λg1 ε=>?_);refine aY (wpAny_entryPlaceOf λpl β=>?_);unfold MJ newFields;refine aY (z5 ?_ (β.sizeOk5 _ _ _ _ _));have e1:g1.get? e=aS Z:=(ε.2.1 e ne).trans he;have sz:g1.objs.size=s.heap.objs.size:=ε.1;generalize Y:({cls:= .type "traceback",dict:=eC,data:= .fields ([O,.ref L,.none,rawInt L,.none]++(if pl.isEmpty then ra 6 JB else pl)).toArray}:NJ)=ob;have ζ:(g1.push ob).get? e=aS Z:=en ob e1;refine K' ζ hd hsz ?_;have lt:e < g1.objs.size:=fy e1;obtain⟨o',ξ,ν,ι,θ⟩:=uD (i:=1) (v:= .ref g1.objs.size) ζ hd;have oth:∀c,c≠e->((g1.push ob).update e (KL (·.setIfInBounds 1 (sC g1.objs.size)))).get? c=(g1.push ob).get? c:=λc δ=>JF _ _ (vl δ);have α:∀c o,c≠e->g1.get? c=aS o->((g1.push ob).update e (KL (·.setIfInBounds 1 (sC g1.objs.size)))).get? c=aS o:=λc o δ q=>(oth c δ).trans (en ob q);refine h _ ⟨λc o n m q=>α c o (λz=>n (by rw[z];exact fk.mpr rfl)) ((ε.2.1 c m).trans q),λc o n m q=>?_⟩ ⟨o',_,ξ,ν,ι,θ,by simpa using hsz,?_⟩
 ·obtain⟨η,ο⟩:=ε.2.2 c o q;exact⟨η,α c _ (λz=>n (by rw[z];exact fk.mpr rfl)) ο⟩
 ·have φ:g1.objs.size≠e:=Jr lt;refine⟨by rw[<-sz];simp[hsz],by rw[<-sz];exact φ,ob,_,?_,by rw[<-Y],?_⟩
  ·rw[<-sz,oth _ φ];exact hG g1 (by rw[<-Y];rfl)
  ·first | (simp;done) | (rcases β with rfl | ⟨_,_,_,_,_,_,_,rfl⟩<;>simp)
theorem AL {e t:eh} {C:fC} {dx:J0} {fl:fC} {fr:J0} {Q:F'} (x:Bp s.heap e C dx (aS (t,fl)))
  (h:∀h',(∀b o,b≠t->s.heap.get? b=aS o->h'.get? b=aS o)->Bp h' e C dx (aS (t,fr.elim .none λf=>rawInt f))->Q () {s with heap:=h'}):gn M A (setFlight (.ref e) fr) Q E s:=by
 obtain⟨γ,vs,he,Y,ρ,hd,hsz,h1,O,ζ,ts,hT,π,Z⟩:=x;unfold setFlight;refine aY (zx he hd h1 ?_);rw[px (show(sC t != JB)=true from by simp)];refine K' hT π (Kr.mp Z).1 ?_;obtain⟨o',β,ε,δ,α⟩:=uD (i:=3) (v:=fr.elim .none λf=>rawInt f) hT π;have oth:∀c,c≠t->(s.heap.update t (KL (·.setIfInBounds 3 (fr.elim JB λf=>rawInt f)))).get? c=s.heap.get? c:=λc Y=>JF _ _ (vl Y);refine h _ (λb o hb q=>(oth b hb).trans q) ⟨γ,vs,(oth e (vl O)).trans he,Y,ρ,hd,hsz,h1,O,o',_,β,α,?_⟩;have:=(Kr.mp Z).1;simp[this]
end
section
variable {X:Cx} {pins:DC} {σ:St} {H:Hp} {s:eL}
theorem Inv.mv {h':u2} {ch:G'} (I:Inv X pins σ H s) (m:Mv ch (frs X.stack) s.heap h') (fp:∀b∈ch,FpOk X pins H b):Inv X pins σ H {s with heap:=h'}:=by
 have θ:∀b u,H b=aS u->b∉ch:=λb u e z=>by rw[(fp b z).1] at e;cases e
 have Y:∀b u,H b=aS u->b∉frs X.stack:=λb u e z=>by rw[I.stkFree b z] at e;cases e
 have any:∀b o,b∉ch->s.heap.get? b=aS o->∃Z,h'.get? b=aS {o with slots:=Z}:=λb o n e=>by
  by_cases z:b∈frs X.stack
  ·exact m.2 b o n z e
  ·exact⟨o.slots,m.1 b o n z e⟩
 refine I.step (g':=s.gens) (d':=s.drawn) (t':=s.toks) (ch:=ch) (λb hb=>?_) (λb ob α hb O e _=>m.1 b ob O (λz=>(u5.mp (I.stkSub b z)).elim α hb) e) (λb ob _ _ O e _=>any b ob O e) (λb ob _ e n=>n) (λb ob O e=>let ⟨Z,q⟩:=any b ob O e;⟨_,q⟩)
  (λb xs e=>e) (λb ob u e=>e) (λb ps e=>⟨#[],by rw[e];simp⟩) (fun ζ hm=>?_) (λb u e=>?_) I.bare
 ·obtain⟨η,ε,ο,δ,γ,β⟩:=fp b hb;exact⟨δ,ε,γ,β⟩
 ·obtain⟨ob,es,ep,ho,r⟩:=hm;obtain⟨Z,q⟩:=any _ ob (λz=>(fp _ z).2.1 rfl) ho;exact⟨_,es,ep,q,r⟩
 ·refine(I.hok b u e).stay (λc v O q=>m.1 c v ?_ ?_ q) (λc q=>q) λc xs q=>q
  ·rcases O with z | z
   ·rw[z];exact θ b u e
   ·exact θ c _ z
  ·rcases O with z | z
   ·rw[z];exact Y b u e
   ·exact Y c _ z
theorem fJ.there {P:oe} {w:sb} {h:u2} {a:eh} {o:HO} (x:fJ P w H h a o):∃o',h.get? a=aS o':=by
 cases o with
 | lst xs=>obtain⟨_,_,_,_,e⟩:=x;exact⟨_,e⟩
 | tup xs=>obtain⟨_,_,_,_,e,_⟩:=x;exact⟨_,e⟩
 | dK kvs=>obtain⟨_,_,_,_,o,_,_,e,_⟩:=x;exact⟨_,e⟩
 | dT kvs=>obtain⟨_,_,_,_,o,_,_,e,_⟩:=x;exact⟨_,e⟩
 | set S n=>obtain⟨o,_,_,_,e,_⟩:=x;exact⟨_,e⟩
 | ins C dx fs=>obtain⟨_,_,_,e,_⟩:=x;exact⟨_,e⟩
 | own y=>obtain⟨_,e⟩:=x;exact⟨_,e⟩
 | xd fs=>obtain⟨_,⟨_,_,_,e,_⟩,_⟩:=x;exact⟨_,e⟩
 | rng lo hi=>obtain⟨_,_,_,e⟩:=x;exact⟨_,e⟩
 | frz ob u=>obtain⟨e,_⟩:=x;exact⟨_,e⟩
 | tbl ps=>exact⟨_,(show h.get? a=aS _ from x)⟩
 | met f y=>exact⟨_,(show h.get? a=aS _ from x)⟩
 | ext φ=>obtain⟨_,⟨_,e⟩,_⟩:=x;exact⟨_,e⟩
theorem HOk.none_ {P:oe} {w:sb} {h:u2} {a:eh} (x:HOk P w H h) (e:h.get? a=eC):H a=none:=by
 cases q:H a with
 | none=>rfl
 | some u=>obtain⟨o,z⟩:=(x a u q).there;rw[e] at z;cases z
def FpN (X:Cx) (pins:DC) (H:Hp) (b:eh):Prop:=
 H b=eC/\b≠X.env.locals/\b∉X.fs/\(b∈X.ex∨X.s₀.heap.get? b=eC)/\(∀x c,X.env.cells.lookup x=aS c->c≠b)/\∀p∈X.pn++pins,p.1≠b
theorem FpOk.n {b:eh} (f:FpOk X pins H b):FpN X pins H b:=⟨f.1,f.2.1,f.2.2.1,f.2.2.2.1.imp id Kg,f.2.2.2.2⟩
theorem Inv.fpN {H':Hp} {b:eh} (I:Inv X pins σ H s) (hb:s.heap.get? b=eC) (hn:H' b=eC):FpN X pins H' b:=by
 refine⟨hn,λz=>?_,λz=>?_,?_,λx c e z=>?_,λp hp z=>?_⟩
 ·obtain⟨m,⟨o,es,ep,ho,r⟩,_⟩:=I.loc;rw[<-z,hb] at ho;cases ho
 ·obtain⟨_,o,ho,_⟩:=I.ok.funs.mem z;obtain⟨o',θ⟩:=I.base.there b o ho λy=>I.ok.exfs b y z;rw[hb] at θ;cases θ
 ·by_cases z:b∈X.ex
  ·exact .inl z
  ·cases q:X.s₀.heap.get? b with
   | none=>exact .inr rfl
   | some o=>obtain⟨o',θ⟩:=I.base.there b o q z;rw[hb] at θ;cases θ
 ·obtain⟨v,o,q,_⟩:=I.cell x c e;rw[z,hb] at q;cases q
 ·have:=(I.pin p hp).1;rw[z,hb] at this;cases this
theorem Inv.mvN {h':u2} {ch:G'} (I:Inv X pins σ H s) (m:Mv ch (frs X.stack) s.heap h') (fp:∀b∈ch,FpN X pins H b):Inv X pins σ H {s with heap:=h'}:=by
 have out:∀b o,X.s₀.heap.get? b=aS o->b∉X.ex->b∉ch++X.ex:=λb o e n z=>by
  rcases lh.mp z with z | z
  ·rcases(fp b z).2.2.2.1 with y | y
   ·exact n y
   ·rw[e] at y;cases y
  ·exact n z
 have sub:∀b,b∉ch++X.ex->b∉X.ex:=λb n z=>n (j' _ z)
 have ok:Cx.Ok {X with ex:=ch++X.ex}:=⟨I.ok.mod,I.ok.kind,I.ok.glob,I.ok.blt,I.ok.above,I.ok.inj,I.ok.has,I.ok.cab,I.ok.hd,I.ok.frames,I.ok.stk,
  λb hb=>(lh.mp hb).elim (λz=>⟨(fp b z).2.1,(fp b z).2.2.2.2.1⟩) (I.ok.exf b),I.ok.bs,I.ok.bsz,λb o e=>out b o (I.ok.bs b o e).1 (I.ok.noex b o e),
  λb hb=>(lh.mp hb).elim (λz=>(fp b z).2.2.1) (I.ok.exfs b),I.ok.funs,I.ok.frf⟩
 have U:=I.base
 have J:Inv {X with ex:=ch++X.ex} pins σ H s:=⟨ok,I.os,I.bare,⟨λb o e n f z=>U.keep b o e n f (sub b z),λb o e n f z=>U.slot b o e n f (sub b z),λb o e n z=>U.free b o e n (sub b z),λb o e z=>U.there b o e (sub b z),U.tups,U.frzs,U.tbls⟩,
  I.loc,I.cell,I.free,I.freeC,I.pin,I.hok,I.len⟩
 have J':=J.mv (h':=h') (ch:=ch) m λb hb=>⟨(fp b hb).1,(fp b hb).2.1,(fp b hb).2.2.1,.inl (oD _ hb),(fp b hb).2.2.2.2⟩;have V:=J'.base
 exact⟨I.ok,J'.os,J'.bare,⟨λb o e n f z=>V.keep b o e n f (out b o e z),λb o e n f z=>V.slot b o e n f (out b o e z),λb o e n z=>V.free b o e n (out b o e z),λb o e z=>V.there b o e (out b o e z),V.tups,V.frzs,V.tbls⟩,
  J'.loc,J'.cell,J'.free,J'.freeC,J'.pin,J'.hok,J'.len⟩
structure Fly (X:Cx) (pins:DC) (H:Hp) (e:eh) (C:fC) (dx:J0) (T:nk (eh×fC)) (h:u2):Prop where
 at_:Bp h e C dx T
 fe:FpN X pins H e
 ft:∀t fl,T=aS (t,fl)->FpN X pins H t
def Own (X:Cx):Prop:=X.stack=X.env::X.outer/\X.env.frame=aS X.env.locals
theorem vK {M:Model} {E:DB} {e:eh} {C:fC} {dx:J0} {T:nk (eh×fC)} {Q:F'} (I:Inv X pins σ H s) (ow:Own X) (f:Fly X pins H e C dx T s.heap)
  (h:∀h' t,Inv X pins σ H {s with heap:=h'}->Fly X pins H e C dx (aS (t,rawInt X.env.locals)) h'->Q () {s with heap:=h'}):gn M X.A (noteFrame (.ref e) X.env) Q E s:=by
 obtain⟨ho,hf⟩:=ow;have θ:X.A.frames=aS (X.env::X.outer):=by rw[I.ok.frames,ho]
 have a0:s.heap.FunFrames X.base (X.env::X.outer):=by rw[<-ho];exact I.stack
 obtain⟨⟨δ,vs,he,γ,ρ,hd,hsz,hT⟩,fe,ft⟩:=f
 have fin:∀(Y:eL) (O:NJ) (χ:Dz) (β:fC) (b1:JC),Inv X pins σ H Y->Y.heap.objs.size=s.heap.objs.size->Y={s with heap:=Y.heap}->Y.heap.get? e=aS O->O.cls=C->O.dict=dx->O.data= .fields χ->1 < χ.size->
   gn M X.A (do let a <-frameOf X.env;let pl <-entryPlaceOf X.env.locals b1;let t <-MJ β a .none (rawInt X.env.locals) .none pl;setField (.ref e) 1 t) Q E Y:=by
  intro Y O χ β b1 I1 hz η ω ε υ τ ο;have Z:Y.heap.FunFrames X.base (X.env::X.outer):=by rw[<-ho];exact I1.stack
  refine CF θ Z hf ω τ ο λh' m x=>?_;have ξ:Inv X pins σ H {Y with heap:=h'}:=I1.mvN (ch:=[e]) (by rw[ho];exact m) λb hb=>by rw[fk.mp hb];exact fe
  have e2:({Y with heap:=h'}:eL)={s with heap:=h'}:=by rw[η]
  rw[e2] at ξ ⊢;rw[ε,υ] at x;exact h h' _ ξ ⟨x,fe,λt ν z=>by cases z;exact(I1.fpOk (mu _) (I1.hok.fresh (mu _))).n⟩
 unfold noteFrame;simp only[hf];cases T with
 | none=>
   have h1:vs[1]? =aS .none:=hT;refine aY (zx he hd h1 ?_);rw[ko @C];exact fin s δ vs _ _ I rfl rfl he γ ρ hd hsz
 | some p=>
   obtain⟨t,ν⟩:=p;obtain⟨h1,α,oT,ts,ψ,π,ι⟩:=hT;refine aY (zx he hd h1 ?_);rw[px (show(sC t != JB)=true from by simp)];refine aY (zx ψ π ι ?_);by_cases hz:(ν == rawInt X.env.locals)=true
   ·rw[px hz];have ζ:=eq_of_beq hz;subst ζ;exact eD (h s.heap t I ⟨⟨δ,vs,he,γ,ρ,hd,hsz,h1,α,oT,ts,ψ,π,ι⟩,fe,ft⟩)
   ·rw[ko hz];refine aY (K' ψ π (Kr.mp ι).1 ?_);have oth:∀c,c≠t->(s.heap.update t (KL (·.setIfInBounds 3 JB))).get? c=s.heap.get? c:=λc γ=>JF _ _ (vl γ)
    have φ:Mv [t] (frs X.stack) s.heap (s.heap.update t (KL (·.setIfInBounds 3 JB))):=
     ⟨λb o n _ q=>(oth b (λz=>n (by rw[z];exact fk.mpr rfl))).trans q,λb o n _ q=>⟨o.slots,(oth b (λz=>n (by rw[z];exact fk.mpr rfl))).trans q⟩⟩
    have I1:=I.mvN φ λb hb=>by rw[fk.mp hb];exact ft t ν rfl
    exact fin _ δ vs _ _ I1 (Heap.size_after_update ..) rfl ((oth e (vl α)).trans he) γ ρ hd hsz
theorem uC {M:Model} {A:u7} {E:DB} {e t:eh} {C:fC} {dx:J0} {fl:fC} {fr:J0} {Q:F'} (I:Inv X pins σ H s) (f:Fly X pins H e C dx (aS (t,fl)) s.heap)
  (h:∀h',Inv X pins σ H {s with heap:=h'}->Fly X pins H e C dx (aS (t,fr.elim .none λf=>rawInt f)) h'->Q () {s with heap:=h'}):gn M A (setFlight (.ref e) fr) Q E s:=by
 refine AL f.at_ λh' k x=>h h' (I.mvN (ch:=[t]) ⟨λb o n _ q=>k b o (λz=>n (by rw[z];exact fk.mpr rfl)) q,λb o n _ q=>⟨o.slots,k b o (λz=>n (by rw[z];exact fk.mpr rfl)) q⟩⟩ λb hb=>by rw[fk.mp hb];exact f.ft t fl rfl) ⟨x,f.fe,λt' ο z=>by cases z;exact f.ft t fl rfl⟩
end
noncomputable abbrev XW:=St->XK
def XE (X:Cx) (W:XW) (e:fC) (s:eL):Prop:=∃pins x C dx T σ H,e= .ref x/\Inv X pins σ H s/\Fly X pins H x C dx T s.heap/\W σ C dx H
def Thr (X:Cx) (W:XW):Prop:=∀e s,XE X W e s->X.xe e s
noncomputable abbrev Cx.thr (X:Cx) (W:XW):Cx:=X.wish (XE X W)
noncomputable abbrev W0:XW:=λ_ _ _ _=>False
section
variable {X:Cx} {W:XW} {pins:DC} {σ:St} {H:Hp} {s:eL}
theorem Fly.wish {E:DB} {e:eh} {C:fC} {dx:J0} {T:nk (eh×fC)} {h:u2} (f:Fly (X.wish E) pins H e C dx T h):Fly X pins H e C dx T h:=⟨f.at_,f.fe,f.ft⟩
theorem d3:Thr (X.thr W) W:=λe s ⟨pins,x,C,dx,T,σ,H,he,I,f,w⟩=>⟨pins,x,C,dx,T,σ,H,he,I.unwish,f.wish,w⟩
theorem thr0:Thr X W0:=λe s ⟨pins,x,C,dx,T,σ,H,he,I,f,w⟩=>w.elim
theorem yd (ow:Own X):PassesOwn (hL X.prog X.w) X.A X.env (XE X W):=by
 intro e s' ⟨pins,x,C,dx,T,σ,H,he,I,f,w⟩;subst he;unfold notedBy;refine vK I ow f λh' t γ O=>?_;unfold cameBackBy;obtain⟨⟨θ,vs,α,ε,η,Y,ζ,Z,δ⟩,fe,ft⟩:=id O;refine aY (zx α Y Z ?_);rw[ko @E];refine uC γ O λh2 β ο=>?_;rw[ow.2] at ο;exact⟨pins,x,C,dx,_,σ,H,rfl,β,ο,w⟩
theorem vH (ow:Own X):PassesOwn (hL X.prog X.w) X.A X.env (X.thr W).xe:=yd ow
theorem PSs.thr {st:eA Lv} {t:TS} (h:PSs (X.thr W) st t) (k:Thr X W):PSs X st t:=λpins s σ H D I hw=>
 JW (h pins s σ H D (I.wish _) hw) (λ_ _ q=>q.unwish) k
end
noncomputable def CX1 (P:oe) (w:sb):CXT:=λouter H s E e s'=>∃x C dx t H',e= .ref x/\s'.os=s.os/\AllBare s'.gens/\Un (frs outer) [] H H' s.heap s'.heap/\HOk P w H' s'.heap/\
 Bp s'.heap x C dx (aS (t,.none))/\s.heap.get? x=eC/\s.heap.get? t=eC/\H' x=eC/\H' t=eC/\E C dx H'
section
variable {P:oe} {w:sb} {K:aT} {mg:Dk} {base:u2}
theorem xl {N:C'} {qual:u3} {scope:Jq} {f:eh} {cd:fC} {A:u7} {outer:eA Env} {s:eL} {H:Hp} {E:XK}:
  Thr (cxOf (CX1 P w) P w K mg base N qual scope f cd A outer s H E) λ_=>E:=by
 intro e s' ⟨pins,x,C,dx,T,σ,H',he,I,Z,π⟩;subst he;have own:Own (cxOf (CX1 P w) P w K mg base N qual scope f cd A outer s H E):=⟨rfl,rfl⟩;show gn _ _ (leaving _ _) _ _ _;unfold leaving;refine aY (vK I own Z λh1 t O Y=>?_);refine uC (fr:=eC) O Y λh2 I2 ο=>?_;have fx:=ο.fe;have ft:=ο.ft t _ rfl;have no:∀b:eh,(b∈([]:G')∨s.heap.get? b=eC)->s.heap.get? b=none:=λb z=>z.elim (λq=>gd q @E) id;exact⟨x,C,dx,t,H',rfl,I2.os,I2.bare,I2.base,I2.hok,ο.at_,no x fx.2.2.2.1,no t ft.2.2.2.1,fx.1,ft.1,π⟩
theorem Fun.okX {x qual:u3} {st:Lv} {f:eh} {fd:hP} {N ps:C'} {k:Nat} {sp:Sp} (F:Fun K x qual st f fd) (S:aD N ps (ah st)) (len:∀vs H Q E,sp vs H Q E->vs.length=ps.length)
  (Y:∀(O:fC) (A:u7) (outer:eA Env) (s:eL) (H:Hp) (vs:eA V) (Q:VK) (E:XK),Room k (A.deeper (envOfC qual (ah st) s.heap.objs.size f O))->sp vs H Q E->
   ∃t,PSs ((cxOf (CX1 P w) P w K mg base N qual (ah st) f O A outer s H E).thr λ_=>E) (cL st) t/\t {nx:=λ_ H'=>Q .non H',rt:=Q} (lQ N vs) H):FnOk P w K mg base (CX1 P w) (k + 1) f fd ps sp:=by
 obtain⟨ε,od,kV,β,δ,an,O,ct,ο,rfl,lk,α⟩:=F.ex;refine Cy lk α S len λA outer s H vs Q E γ Z=>?_;obtain⟨t,h,q⟩:=Y O A outer s H vs Q E γ Z;exact⟨t,h.thr xl,q⟩
end
section
variable {X:Cx} {W:XW} {pins:DC} {σ:St} {H:Hp} {s s':eL}
theorem Inv.afterX {e:fC} (I:Inv X pins σ H s) (hx:Thr X W) (h:CX1 X.prog X.w X.stack H s (W σ) e s'):X.xe e s':=by
 obtain⟨x,C,dx,t,H',rfl,os,bare,un,hok,ea,ρ,O,nx,φ,w⟩:=h;refine hx _ _ ⟨pins,x,C,dx,_,σ,H',rfl,I.call' (ch:=[]) os un hok bare (λb z=>gd z @E),⟨ea,I.fpN ρ nx,λt' Y z=>?_⟩,w⟩;cases z;exact I.fpN O φ
variable {k:Nat} {f C:eh} {fd:hP} {ps:C'} {sp:Sp} {dvs:eA V} {ds:Dd} {x m:u3} {p pos apos:Pos} {e o:x7} {es:eA x7} {ta:TE} {t:TA}
theorem zF {Q:VK} {us:Dd} {vs:eA V} (F:FnOk X.prog X.w X.K X.mg X.base (CX1 X.prog X.w) k f fd ps sp) (Z:Room k X.A) (hb:ke X.K fd ps ds) (hd:Vals dvs ds) (hx:Thr X W)
  (I:Inv X pins σ H s) (r:Vals vs us) (h:sp (vs++dvs) H Q (W σ)):gn (hL X.prog X.w) X.A (call (.ref f) us) (EP X pins σ Q) X.xe s:=by
 have Y:Vals (vs++dvs) (us++ds):=r.append hd;have hl:(us++ds).length=ps.length:=by rw[<-Y.length];exact F.len _ _ _ _ h
 refine NV (LU (F.run X.A X.stack s H ⟨us,[]⟩ (us++ds) (vs++dvs) Q (W σ) Z I.env0 (hb s us I.kIn hl) Y h) λr s' O=>?_);cases r with
 | error e=>exact I.afterX hx O
 | ok α=>
   cases α with
   | ret u=>exact I.after O
   | next=>exact z4 O
   | brk=>exact z4 O
   | cont=>exact z4 O
noncomputable def zb (sp:Sp) (dvs:eA V) (W:XW) (t:TA):TE:=fun σ H Q=>t σ H λvs H1=>sp (vs++dvs) H1 Q (W σ)
theorem ER {σ:St} {H:Hp} {Q:VK} {sp:Sp} {W:XW} {t:TA} (h:t σ H λvs H1=>sp vs H1 Q (W σ)):zb sp [] W t σ H Q:=by
 unfold zb;simpa using h
theorem rW (F:FnOk X.prog X.w X.K X.mg X.base (CX1 X.prog X.w) k f fd ps sp) (Z:Room k X.A) (α:Gl X x) (hm:X.mg x=aS (.ref f)) (hk:JK X.K (.ref f)=true) (hb:ke X.K fd ps ds) (hd:Vals dvs ds) (hx:Thr X W)
  (ha:PA X (e::es) t) (Y:(x == ("__debug__":u3))=false:=by decide) (he:lx (e::es) X.env=(false,eval e X.env)::lx es X.env:=by rfl) (O:(backTo pos (lx es X.env)).any (·.1)=false:=by rfl):
  PE X (.Call (.Name x p) (e::es) [] pos) (zb sp dvs W t):=by
 intro pins s σ H Q I h;refine KD (nC I α hm ?_ Y);refine Lu (h₀:=X.base) I.ok.mod.kin hk (thn (ha pos pins s σ H _ I h) λus β ⟨vs,H1,I1,r,q⟩=>⟨I1.kIn,?_⟩) he O;exact zF F Z hb hd hx I1 r q
noncomputable def Dg (C:eh) (m:u3) (sp:Sp) (dvs:eA V) (W:XW) (ta:TE) (t:TA):TE:=fun σ H Q=>ta σ H λx H1=>∃a dx fs,x= .ref a/\H1 a=aS (.ins C dx fs)/\fs.lookup m=eC/\
 t σ H1 λvs H2=>sp (x::(vs++dvs)) H2 Q (W σ)
theorem gN {pl:Sem JC} (he:PE X o ta) (c:Cls X.K C) (hm:Meth X.K C m f) (F:FnOk X.prog X.w X.K X.mg X.base (CX1 X.prog X.w) k f fd ps sp) (δ:Room k X.A) (hb:ke X.K fd ps ds) (hd:Vals dvs ds) (hx:Thr X W) (ha:PA X (e::es) t)
  (Y:lx (e::es) X.env=(false,eval e X.env)::lx es X.env:=by rfl) (Z:(backTo pos (lx es X.env)).any (·.1)=false:=by rfl)
  (ht:eval (.Call (.Attribute o m apos) (e::es) [] pos) X.env=(do
   let α <-eval o X.env
   standAt apos.atName
   let (f,first) <-holding [α] (getMethod α m pl)
   callWith pos f first (backTo pos (lx (e::es) X.env)) (backToKw pos (keywordEach [] X.env))):=by rfl):
  PE X (.Call (.Attribute o m apos) (e::es) [] pos) (Dg C m sp dvs W ta t):=by
 intro pins s σ H Q I h;refine MA (pl:=pl) (thn (he pins s σ H _ I h) λu β ⟨x,H1,O,γ,a,dx,fs,ex,ea,l,q⟩=>?_) ht;subst ex;obtain rfl:u=sC a:=γ;refine nF O ea c hm l ?_;refine Lu (first:=[.ref a]) (h₀:=X.base) I.ok.mod.kin hm.kp (thn (ha pos pins β σ H1 _ O q) λus ζ ⟨vs,H2,I2,r,ε⟩=>⟨I2.kIn,?_⟩) Y Z;exact zF (us:= .ref a::us) (vs:= .ref a::vs) F δ hb hd hx I2 (.cons rfl r) ε
end
structure XCls (h:u2) (C:eh) (bmB:Dd) (newId:Jy):Prop where
 obj:∃bm N nm q bs hdct sn sub ab col dd k0 k1 k2 k3 k5 mN,h.get? C=aS (excClassObj nm q C N bs bm hdct sn sub ab col dd k0 k1 k2 k3 k5 newId)/\h.Ns N mN/\mN "__init__"=eC/\OwnTail h bmB bm
theorem Eg {K:aT} {h:u2} {C:eh} {bmB:Dd} {newId:Jy} (X:K.In h) (q:MV K C bmB newId=true):XCls h C bmB newId:=by
 refine⟨?_⟩;unfold MV at q;split at q
 next dd cd β ho=>
  split at q
  next ε bm k0 k1 k2 k3 n k5 hm hs=>
   simp only[xn,L8,Ny] at q;obtain⟨⟨⟨⟨⟨e1,δ⟩,Y⟩,ht⟩,hok⟩,α⟩:=q;subst e1 δ;cases cd with
   | mk nm bs O ns γ hd sn sub ab col del=>
   have hm:O=_:=hm;have Y:del=false:=Y;subst hm Y;have Z:β=#[k0,k1,k2,k3,aS (.builtin n),k5]:=by rw[<-hs]
   subst Z;exact⟨bm,ns,nm,γ,bs,hd,sn,sub,ab,col,dd,k0,k1,k2,k3,k5,_,X _ _ ho,.of_isNs (PySem.W.isNs_of_in X hok),PySem.W.nsMap_none_of_in X hok α,PySem.W.tail_of_in X ht⟩
  next=>cases q
 next=>cases q
section
variable {X:Cx} {W:XW} {C:eh} {x:u3} {np cpos pos:Pos} {e:x7} {es:eA x7} {t:TA} {B newId initId:Jy} {bmB:Dd}
noncomputable def Df (C:eh) (W:XW) (t:TA):TS:=λ_ σ H=>t σ H λvs H1=>vs.length<=hH/\W σ (.ref C) eC H1
theorem Fi {pins:DC} {σ:St} {H:Hp} {s:eL} {h':u2} {a:eh} {vs:Dd} (I:Inv X pins σ H s) (m:Heap.MadeExcOf s.heap h' a (.ref C) vs):
  Inv X pins σ H {s with heap:=h'}/\Fly X pins H a (.ref C) eC eC h':=by
 obtain⟨tt,O,ε,Y⟩:=m.there;exact⟨I.mvN (ch:=[]) ⟨λb o _ _ e=>m.keeps b o e,λb o _ _ e=>⟨o.slots,m.keeps b o e⟩⟩ λb z=>gd z @E,⟨⟨_,_,O,rfl,rfl,rfl,@E,@E⟩,I.fpN m.new (I.hok.none_ m.new),λt Z z=>by cases z⟩⟩
theorem gh (FB:ExcBaseFacts B newId initId bmB) (q:MV X.K C bmB newId=true) (hx:Thr X W) (hc:X.calm=true) (γ:Gl X x) (hm:X.mg x=aS (.ref C)) (ha:PA X (e::es) t)
  (α:(x == ("__debug__":u3))=false:=by decide) (he:lx (e::es) X.env=(false,eval e X.env)::lx es X.env:=by rfl) (O:(backTo cpos (lx es X.env)).any (·.1)=false:=by rfl):
  PS X (.Raise (aS (.Call (.Name x np) (e::es) [] cpos)) eC pos) (Df C W t):=by
 intro pins s σ H D I h;obtain⟨tl,N,nm,β,bs,hdct,sn,sub,ab,col,dd,k0,k1,k2,k3,k5,mN,ω,δ,Y,T⟩:=(Eg I.ok.mod.kin q).obj
 refine wpAny_Raise_call_subT (C:=C) (nm:=nm) (q:=β) (N:=N) (bs:=bs) (bm:=tl) (hdct:=hdct) (sn:=sn) (sub:=sub) (ab:=ab) (col:=col) (dd:=dd) (k0:=k0) (k1:=k1) (k2:=k2) (k3:=k3) (k5:=k5)
  FB (mN:=mN) (T.hasType FB.hasBase) (I.ok.hd hc) (by rw[he];show(false||(backTo cpos (lx es X.env)).any (·.1))=false;rw[O];rfl) Y (nC I γ hm ⟨rfl,?_⟩ α)
 have Z:=ha cpos pins s σ H _ I h;rw[he] at Z ⊢;refine P9 (JW Z (λus ζ ⟨vs,H1,I1,r,z,w⟩=>⟨rfl,?_,I1.bk _ _ ω,δ.keeps I1.bk,T.keeps I1.bk,λh' a m=>?_⟩) λ_ _ y=>y)
 ·show us.length<=_;rw[<-r.length];exact z
 ·obtain⟨ε,ο⟩:=Fi I1 m;exact hx _ _ ⟨pins,a,.ref C,eC,eC,σ,H1,rfl,ε,ο,w⟩
end
structure tE (K:aT) (G:eh):Prop where
 ty:PR K (.ref G)=aS (.type "type")
 cls:Mz K G=true
 base:JJ K G (.type "BaseException")=aS true
theorem ud {K:aT} {M:Model} {h:u2} {G:eh} (X:K.In h) (c:Mz K G=true):Q5 M h (isType (.ref G)) true:=by
 unfold Mz PySem.W.clsIn at c;split at c
 next Y d' τ O ho=>
  intro β Z α s' k q;unfold isType loadHead;exact aY (wpAny_loadPart (k _ _ (X _ _ ho)) (eD q))
 next=>cases c
theorem rp {K:aT} {M:Model} {A:u7} {E:DB} {s:eL} {a G C:eh} {O:NJ} {b:JC} {Q:JC->eL->Prop} (X:K.In s.heap) (c:tE K G) (he:s.heap.get? a=aS O) (hc:O.cls= .ref C)
  (hm:JJ K C (.ref G)=aS b) (q:Q b s):gn M A (excMatches (.ref a) (.ref G)) Q E s:=by
 unfold excMatches isInstance;refine aY (aY ((PySem.W.looks_typeIn X c.ty).here ?_));rw[tc_notTuple];refine eD ?_;simp only[JO,Mb];refine aY (eD ?_);simp only[Lg,N8];unfold isExcClass;refine aY (aY (aY (aY ((ud X c.cls).here ?_))));simp only[Nu];refine(OS X c.base).here ?_;simp only[Bool.not_true,JO,Mb];refine eD (eD ?_);have L:Q5 M s.heap (typeOf (.ref a)) (.ref C):=hc ▸ (PySem.W.Looks.ld he).andThen .now;refine aY (L.here ?_);refine aY (aY (aY ((OS X hm).here ?_)));cases b<;>simp only[JO,Mb,Nu]
 ·exact eD (eD (eD q))
 ·exact eD (eD (eD q))
section
variable {X:Cx} {pins:DC} {σ:St} {H:Hp} {s:eL}
theorem Inv.track {x:eh} {o:HO} (I:Inv X pins σ H s) (f:FpN X pins H x) (new:fJ X.prog X.w (upd H x o) s.heap x o):Inv X pins σ (upd H x o) s:=by
 obtain⟨η,γ,ο,β,α,Z⟩:=f;have ne:∀b u,H b=aS u->b≠x:=λb u e z=>by rw[z,η] at e;cases e
 have O:∀b u,H b=aS u->upd H x o b=aS u:=λb u e=>by rw[aH (ne b u e)];exact e
 have U:=I.base;refine⟨I.ok,I.os,I.bare,⟨U.keep,U.slot,λb ob e n Y=>?_,U.there,λb xs e=>O b _ (U.tups b xs e),λb ob u e=>O b _ (U.frzs b ob u e),λb ps e=>?_⟩,I.loc,I.cell,?_,λy c e=>?_,λp hp=>?_,λb ob e=>?_,I.len⟩
 ·rw[aH (λz=>?_)]
  ·exact U.free b ob e n Y
  ·subst z;rcases β with y | y
   ·exact Y y
   ·rw[e] at y;cases y
 ·obtain⟨m,q⟩:=U.tbls b ps e;exact⟨m,O b _ q⟩
 ·rw[aH (vl γ)];exact I.free
 ·rw[aH (α y c e)];exact I.freeC y c e
 ·obtain⟨e,n,r⟩:=I.pin p hp;exact⟨e,by rw[aH (Z p hp)];exact n,r⟩
 ·by_cases z:b=x
  ·subst z;rw[aQ] at e;cases e;exact new
  ·rw[aH z] at e;exact(I.hok b ob e).stay (λ_ _ _ q=>q) (λc q=>O c _ q) λc xs q=>O c _ q
end
noncomputable def ExcO (x:eh) (C:fC) (dx:J0):HO:= .ext λh=>∃O vs,h.get? x=aS O/\O.cls=C/\O.dict=dx/\O.data= .fields vs
noncomputable abbrev Cx.pin (X:Cx) (pins:DC):Cx:={X with pn:=X.pn++pins}
noncomputable abbrev Cx.mark (X:Cx) (pins:DC) (e:fC):Cx:={X with A:=X.A.mark (aS e),calm:=false,pn:=X.pn++pins,xe:=λ_ _=>False}
section
variable {X:Cx} {pins pins':DC} {σ:St} {H:Hp} {s:eL} {e:fC}
theorem Inv.toPin (I:Inv X pins σ H s):Inv (X.pin pins) [] σ H s:=
 ⟨⟨I.ok.mod,I.ok.kind,I.ok.glob,I.ok.blt,I.ok.above,I.ok.inj,I.ok.has,I.ok.cab,I.ok.hd,I.ok.frames,I.ok.stk,I.ok.exf,I.ok.bs,I.ok.bsz,I.ok.noex,I.ok.exfs,I.ok.funs,I.ok.frf⟩,I.os,I.bare,I.base,I.loc,I.cell,I.free,I.freeC,
   λp hp=>I.pin p (by simpa using hp),I.hok,I.len⟩
theorem Inv.ofPin (ok:X.Ok) (I:Inv (X.pin pins) pins' σ H s):Inv X pins σ H s:=
 ⟨ok,I.os,I.bare,I.base,I.loc,I.cell,I.free,I.freeC,λp hp=>I.pin p (oD _ hp),I.hok,I.len⟩
theorem Inv.toMark (I:Inv X pins σ H s):Inv (X.mark pins e) [] σ H s:=
 ⟨⟨I.ok.mod,I.ok.kind,I.ok.glob,I.ok.blt,I.ok.above,I.ok.inj,I.ok.has,I.ok.cab,(λz=>gd (show false=true from z) @C),I.ok.frames,I.ok.stk,I.ok.exf,I.ok.bs,I.ok.bsz,I.ok.noex,I.ok.exfs,I.ok.funs,I.ok.frf⟩,I.os,I.bare,I.base,I.loc,I.cell,I.free,I.freeC,
   λp hp=>I.pin p (by simpa using hp),I.hok,I.len⟩
theorem Inv.ofMark (ok:X.Ok) (I:Inv (X.mark pins e) pins' σ H s):Inv X pins σ H s:=
 ⟨ok,I.os,I.bare,I.base,I.loc,I.cell,I.free,I.freeC,λp hp=>I.pin p (oD _ hp),I.hok,I.len⟩
theorem FpN.ofPin {b:eh} (f:FpN (X.pin pins) pins' H b):FpN X pins H b:=⟨f.1,f.2.1,f.2.2.1,f.2.2.2.1,f.2.2.2.2.1,λp hp=>f.2.2.2.2.2 p (oD _ hp)⟩
theorem Fly.ofPin {x:eh} {C:fC} {dx:J0} {T:nk (eh×fC)} {h:u2} (f:Fly (X.pin pins) pins' H x C dx T h):Fly X pins H x C dx T h:=⟨f.at_,f.fe.ofPin,λt fl z=>(f.ft t fl z).ofPin⟩
end
noncomputable def Ends.less (D:Ends) (i:Nat):Ends:={nx:=fun σ H=>D.nx (σ.set i eC) H,rt:=D.rt,bk:=fun σ H=>D.bk (σ.set i eC) H,ct:=fun σ H=>D.ct (σ.set i eC) H}
noncomputable def WTry (K:aT) (G:eh) (i:Nat) (Wo:XW) (ts:TS) (D:Ends):XW:=fun σ C dx H=>∃c,C= .ref c/\((JJ K c (.ref G)=aS true/\∀x,H x=eC->ts (D.less i) (σ.set i (aS (.ref x))) (upd H x (ExcO x C dx)))∨
 (JJ K c (.ref G)=aS false/\Wo σ C dx H))
structure XIsi (K:aT) (D:eh):Prop where
 cls:Mz K D=true
 ga:vr K (.ref D) "__getattribute__"=aS (aS (.builtin "BaseException.__getattribute__"))
 gr:vr K (.ref D) "__getattr__"=aS eC
 ha:vr K (.ref D) "__class__"=aS (aS (.builtin "object.__class__"))
 hn:L4 K (.builtin "object.__class__") "__get__"=aS (aS (.builtin "getset_descriptor.__get__"))
 tk:ND K (.builtin "object.__class__")=aS true
 hm:JJ K D (.type "object")=aS true
 base:JJ K D (.type "BaseException")=aS true
noncomputable def dV:V->fC
 | .ref a=> .ref a
 | .ty n=> .type n
 | _=> .none
section
variable {σ:St} {H:Hp} {Q:VK} {D:Ends} {W:XW} {t:TA}
theorem EH {C:eh} (h:t σ H λvs H1=>vs.length<=hH/\W σ (.ref C) eC H1):Df C W t D σ H:=h
end
theorem jj {X:Cx} {K:aT} {es:eA x7} {k:Nat} {t:TGs} {n:Nat} {pos:Pos} (h:X.K=K) (hc:X.calm=true) (ht:PGs X es t)
  (hn:(assignEach es X.env).length=n:=by rfl) (O:(assignEach es X.env).findIdx? (·.1)=none:=by rfl):PG X (.Tuple es k pos) (gTup K n t):=by subst h;exact g7 hc ht hn O
theorem ET {k:Key} {v:fC} (h:uq k v=true):RelV (kV k) v:=by
 rcases cA h with ⟨i,t,rfl,rfl⟩ | ⟨x,t,rfl,rfl⟩
 ·exact⟨t,rfl⟩
 ·exact⟨t,rfl⟩
theorem lY {α β:Type} {F:α->β->Prop}:∀{l:eA α} {m:eA β},l.length=m.length->(∀(i:Nat) (a:α) (b:β),l[i]? =aS a->m[i]? =aS b->F a b)->Paired F l m
 | [],[],_,_=> .nil
 | a::l,b::m,hl,h=> .cons (h 0 a b rfl rfl) (lY (by simpa using hl) λi x y Y O=>h (i + 1) x y (by simpa using Y) (by simpa using O))
 | [],_::_,hl,_=>by simp at hl
 | _::_,[],hl,_=>by simp at hl
section
variable {σ:St} {H:Hp} {Q:VK} {D:Ends} {te ty tv td:TE} {x y v:V}
def HX (y:V) (Q:VK) (x:V) (H:Hp):Prop:=∃a o,x= .ref a/\DGet H a y o/\Q (.bl o.isSome) H
theorem IL (h:ty σ H λy H1=>td σ H1 (HX y Q)):tDIn ty td σ H Q:=h
theorem GM {p:eh} {kvs:eA (Key×V)} {z:Int} (e:H p=aS (.dK kvs)) (h:Q (.bl (valV kvs (JT z)).isSome) H):HX (.int z) Q (.ref p) H:=⟨p,_,rfl,DGet.k (k:=JT z) e,h⟩
theorem EO {l:eh} {xs:eA V} (e:H l=aS (.lst xs)) (h:∀H2,Upd H H2 l (.lst [])->Q .non H2):DG (.ref l) [] H Q:=⟨l,xs,rfl,rfl,e,h _ Upd.of⟩
theorem nX {l b:eh} {xs zs:eA V} (e:H l=aS (.lst xs)) (e':H b=aS (.lst zs)) (hz:xs.length + zs.length<=hH) (h:∀p H2,H p=eC->Same H H2->H2 p=aS (.lst (xs++zs))->Q (.ref p) H2):rCat (.ref l) (.ref b) H Q:=⟨l,b,xs,zs,rfl,rfl,e,e',hz,jb h⟩
end
theorem km:∀{ns:I8} {us:Dd},Vals (ns.map V.int) us->IntsAre us ns
 | [],us,r=>by cases r;exact .nil
 | n::ns,us,r=>by
   rw[z0] at r;cases r with
   | cons h t=>obtain⟨t',rfl⟩:=h;exact .cons _ _ (km t)
theorem uu:∀{ns:I8} {us:Dd},IntsAre us ns->Vals (ns.map V.int) us:=lO
noncomputable def EV:eA V->Hp->VK->Prop:=λxs H Q=>∃(p:eh) (ns:I8),xs=[.ref p]/\H p=aS (.lst (ns.map V.int))/\Q (.int ns.sum) H
section
variable {X:Cx}
theorem ya (zs:JZ (Int×Tok)):preSum (numAt zs) zs.size=(zs.toList.map (·.1)).sum:=by
 rw[preSum_eq,LL (by rw[eB,eY];exact mu _)]
theorem A9 (hc:X.calm=true):mL X (.builtin "sum") EV:=by
 intro pins s σ H xs us Q I r h;obtain⟨p,ns,rfl,hp,q⟩:=h;obtain⟨u,rfl,α⟩:=tJ r;cases α;obtain⟨z,its,n,β,hl,e⟩:=I.lstM hp;have hi:=km β;obtain⟨zs,Z⟩:=hi.allInts.items;have υ:ns=zs.toList.map (·.1):=by rw[<-hi.numsOf,<-nums_intItems,<-Z]
 have γ:s.heap.IsList p (intItems zs):=by rw[<-Z];exact⟨_,e,rfl,n,rfl⟩
 refine call_sum_walkAnyS (iter_intList γ fun ξ δ st Y O=>?_);subst δ;refine⟨_,_,_,_,_,_,_,numAt zs,rfl,(Pl (A:=X.A.in1) (I.ok.hd hc) _ p O (intItems zs)).toS,st,Y,(λ_ _=>intItems_at),λs' t' hm=>?_⟩;rw[Moved.eq_with hm];have hsz:(intItems zs).size=zs.size:=by simp[intItems]
 rw[hsz,ya,<-υ];refine⟨.int ns.sum,H,I.kept (λb o e=>hm.heap b o (λhb=>?_) (en _ e)),⟨_,rfl⟩,q⟩;rw[fk] at hb;rw[hb] at e;exact Kk _ (fy e)
end
section
variable {prog:oe} {w:sb} {A:u7} {E:DB} {s:eL} {d:eh} {vs:eA (Key×fC)} {ep:Nat}
theorem mW:plainId "list.__iadd__"=true:=by decide +kernel
theorem uN {Q:Dd->eL->Prop} (γ:A.handled=eC) (lo:(d == sysModules)=false) (Y:s.heap.DictAt (du prog w) d vs ep) (hn:vs.length<=hH)
  (h:∀h' tk (α:Dz),(∀b o,s.heap.get? b=aS o->h'.get? b=aS o)->s.heap.objs.size < h'.objs.size->ItemsOf (λi v=>∃k x,vs[i]? =aS (k,x)/\(du prog w).is k v=true) α vs.length->Q α.toList {s with heap:=h',toks:=tk}):
  gn (hL prog w) A (collect (.ref d)) Q E s:=by
 unfold collect;refine aY (Nj (JH Nk ?_));show gn _ _ (do again (.builtin "list.__iadd__" ⟨[<-newList [],.ref d],[]⟩)) _ _ s;refine aY (LG (eD ⟨Mg _ @G,JH Om ?_⟩));rw[JP mW _];show gn _ _ (Kh (.ref s.heap.objs.size) (.ref d) (.ref s.heap.objs.size)) _ _ {s with heap:=s.heap.push (seqObj "list" #[] 0)};have O:=Y.lt_size
 refine PySem.W.kdl_extend (R:=λr s'=>match r with
   | MS (Pd v)=>gn (hL prog w) A (match v with
     | sC a=>do
       let o <-load a
       match o.data with
       | .seq xs _=>pure xs.toList
       | _=>unsupported "internal:collect"
     | _=>unsupported "internal:collect") Q E s'
   | MS _=>False
   | OB e=>E e s') (s:={s with heap:=s.heap.push (seqObj "list" #[] 0)}) (PySem.W.kdl_dict (knd:=du prog w) (kvs:=vs) (ep:=ep) lo) γ (Y.push _) s.heap.objs.size (Jr O) (Jr O) _ 0 (hG _ rfl) (λh' tk ζ δ hk β Z=>?_) hn
 show gn (hL prog w) A (do
   let o <-load s.heap.objs.size
   match o.data with
   | .seq xs _=>pure xs.toList
   | _=>unsupported "internal:collect") Q E {s with heap:=h',toks:=tk}
 refine aY (P1 β ?_);exact eD (h h' tk ζ (λb o e=>hk b o (v7 (fy e)) (en _ e)) (fy β) Z)
theorem vx {Q:DB} {ks:I8} (ζ:A.handled=eC) (lo:(d == sysModules)=false) (η:s.heap.DictAt (du prog w) d vs ep) (hn:vs.length<=hH) (hk:vs.map (·.1)=ks.map JT) (θ:vs.length < 64)
  (h:∀h' tk a (out:Dz) (e:Nat) (π:I8),(∀b o,s.heap.get? b=aS o->h'.get? b=aS o)->s.heap.objs.size<=a->h'.get? a=aS (seqObj "list" out e)->IntsAre out.toList π->π.Perm ks->π.Pairwise (·<=·)->Q (.ref a) {s with heap:=h',toks:=tk}):
  gn (hL prog w) A (call (.builtin "sorted") [.ref d]) Q E s:=by
 refine Og Qb PD PF (args_sorted1 _) ?_;unfold Builtin.«sorted»;refine aY (m:=checkCount "sorted" 1 1 _) (eD ?_);refine aY (uN (by exact ζ) lo η hn λh' tk O ε hsz Y=>?_)
 have δ:(ks.map V.int).length=O.toList.length:=by
  have e1:=y' Mo hk;rw[eB,eB] at e1;have ο:O.toList.length=vs.length:=by rw[eY];exact Y.1
  rw[eB];omega
 have hI:IntsAre O.toList ks:=by
  refine km (lY δ λi a b ha hb=>?_);rw[f'] at ha;obtain⟨k,β,rfl⟩:=K7.mp ha;rw[z1] at hb;obtain⟨ι,x,ν,α⟩:=Y.2 i b hb;have e1:(vs.map (·.1))[i]? =aS ι:=by rw[f',ν];rfl
  rw[hk,f',β] at e1;have e1:=iv e1;subst e1;exact ET (show uq (JT k) b=true from α)
 have τ:O.toList.length < 64:=by rw[eY,Y.1];exact θ
 refine aY (LG ?_);have Z:(h'.push (seqObj "list" O.toList.toArray 0)).get? h'.objs.size=aS (seqObj "list" O.toList.toArray 0):=hG _ rfl;show gn _ _ _ _ _ {s with heap:=h'.push (seqObj "list" O.toList.toArray 0),toks:=tk};refine aY (K5 (K0 P4 ⟨_,Z,rfl⟩ OH (list_sort_tree Z hI τ λout π a1 a2 ξ=>⟨_,rfl,?_⟩) (args_list_sort _)));obtain⟨e,he⟩:=sortedHeap_at (out:=out) Z;refine eD ⟨_,rfl,h _ tk h'.objs.size out e π (λb o hb=>?_) ?_ he a1 a2 ξ⟩
 ·have γ:=fy (ε b o hb);rw[sortedHeap_old (v7 γ) (by rw[P2];exact K1 γ)];exact en _ (ε b o hb)
 ·exact Kw hsz
end
noncomputable def DF:eA V->Hp->VK->Prop:=λxs H Q=>∃(p:eh) (ks:I8) (kvs:eA (Key×V)),xs=[.ref p]/\H p=aS (.dK kvs)/\kvs.map (·.1)=ks.map JT/\kvs.length < 64/\
 ∀(l:eh) (ns:I8),H l=eC->ns.Perm ks->ns.Pairwise (·<=·)->Q (.ref l) (upd H l (.lst (ns.map V.int)))
theorem yB {X:Cx} (hc:X.calm=true):mL X (.builtin "sorted") DF:=by
 intro pins s σ H xs us Q I r h;obtain⟨p,ks,kvs,rfl,hp,hk,α,q⟩:=h;obtain⟨u,rfl,β⟩:=tJ r;cases β;obtain⟨hz,lo,vs,rel,dd⟩:=HF I.hok hp;obtain⟨ep,Z⟩:=dd.dictAt;refine vx (ks:=ks) (I.ok.hd hc) lo Z (by rw[<-rel.length];exact hz) (by rw[<-rel.keys];exact hk) (by rw[<-rel.length];exact α) λh' tk a out e π kp ha he hi O Y=>?_;have γ:=uu hi
 have hl:(π.map V.int).length<=sizeLine:=by
  have e1:=y' Mo hk;rw[eB,eB] at e1;rw[eB,O.length_eq,<-e1];exact hz
 refine⟨.ref a,_,I.laid (t':=tk) kp ha (show fJ X.prog X.w _ h' _ (.lst (π.map V.int)) from⟨hl,out.toList,e,γ,by simpa using he⟩),rfl,q _ π (I.hok.fresh ha) O Y⟩
section
variable {H:Hp} {Q:VK}
theorem EG {p:eh} {kvs:eA (Key×V)} {ks:I8} (e:H p=aS (.dK kvs)) (hk:kvs.map (·.1)=ks.map JT) (O:kvs.length < 64) (h:∀(l:eh) (ns:I8) (H2:Hp),H l=eC->Same H H2->H2 l=aS (.lst (ns.map V.int))->ns.Perm ks->ns.Pairwise (·<=·)->Q (.ref l) H2):DF [.ref p] H Q:=
 ⟨p,ks,kvs,rfl,e,hk,O,λl ns hl hp hw=>h l ns _ hl (eX hl) aQ hp hw⟩
end
noncomputable def FW (K:aT) (G:eh) (Wo:XW) (ts:TS) (D:Ends):XW:=fun σ C dx H=>∃c,C= .ref c/\((JJ K c (.ref G)=aS true/\ts D σ H)∨(JJ K c (.ref G)=aS false/\Wo σ C dx H))
noncomputable def F7 (K:aT) (G:eh) (Wo:XW) (tb:XW->TS) (ts:TS):TS:=λD σ H=>tb (FW K G Wo ts D) D σ H
section
variable {X:Cx} {Wo:XW} {G:eh} {g:u3} {gp hp pos:Pos} {b₀:Lv} {body suite:eA Lv} {tb:XW->TS} {ts:TS}
theorem EW (ow:Own X) (hx:Thr X Wo) (ζ:tE X.K G) (θ:Gl X g) (hm:X.mg g=aS (.ref G))
  (hb:∀pins W,PSs ((X.pin pins).thr W) body (tb W)) (hs:∀pins e,PSs (X.mark pins e) (b₀::suite) ts) (α:(g == ("__debug__":u3))=false:=by decide):
  PS X (.Try body [.ExceptHandler (aS (.Name g gp)) eC (b₀::suite) hp] [] [] pos) (F7 X.K G Wo tb ts):=by
 intro pins s σ H D I h;have ok:=I.ok;refine wpAny_Try_except (JW (hb pins _ [] s σ H D (I.toPin.wish _) h) (fun γ η q=>?_) λe η q=>?_)
 ·have Y:=q.unwish;cases γ with
  | next=>obtain⟨σ',H',I',z⟩:=Y;exact eD ⟨σ',H',I'.ofPin ok,z⟩
  | brk=>obtain⟨σ',H',I',z⟩:=Y;exact⟨σ',H',I'.ofPin ok,z⟩
  | cont=>obtain⟨σ',H',I',z⟩:=Y;exact⟨σ',H',I'.ofPin ok,z⟩
  | ret u=>obtain⟨v,σ',H',I',r,z⟩:=Y;exact⟨v,σ',H',I'.ofPin ok,r,z⟩
 ·obtain⟨pins',x,C,dx,T,Z,H1,rfl,I1,ν,c,rfl,w⟩:=q;have φ:=I1.ofPin ok;have g1:=ν.ofPin;refine vK φ ow g1 λh2 t υ g2=>?_;refine uC (fr:=eC) υ g2 fun π J3 β=>?_;obtain⟨⟨ο,vs,he,δ,ρ,hd,hsz,hT⟩,fe,ft⟩:=id β;refine wpAny_handleBy_cons (codeAny_handlers_test (nC (X:=X.mark pins (.ref x)) J3.toMark θ hm ?_ α)) (by intro q;cases q);rcases w with ⟨O,w⟩ | ⟨O,w⟩
  ·refine rp J3.kIn ζ he δ O (codeAny_handlers_suite ?_);refine uC (fr:=eC) J3 β fun ι J4 ε=>?_;refine JW (hs pins (.ref x) [] _ _ _ _ J4.toMark w) (fun γ ξ q=>?_) λ_ _ z=>z4 z;cases γ with
   | next=>obtain⟨σ',H',I',z⟩:=q;exact⟨σ',H',I'.ofMark ok,z⟩
   | brk=>obtain⟨σ',H',I',z⟩:=q;exact⟨σ',H',I'.ofMark ok,z⟩
   | cont=>obtain⟨σ',H',I',z⟩:=q;exact⟨σ',H',I'.ofMark ok,z⟩
   | ret u=>obtain⟨v,σ',H',I',r,z⟩:=q;exact⟨v,σ',H',I'.ofMark ok,r,z⟩
  ·refine rp J3.kIn ζ he δ O (wpAny_handleBy_nil ?_);unfold PySem.passOn;refine aY (zx he hd hT.1 ?_);rw[ko @E];refine aY (uC J3 β fun ι J4 ε=>?_);exact Q9 (hx _ _ ⟨pins,x,.ref c,dx,_,Z,H1,rfl,J4,ε,w⟩)
end
section
variable {K:aT} {G:eh} {Wo:XW} {tb:XW->TS} {ts:TS} {D:Ends} {σ:St} {H:Hp}
theorem Gv (h:tb (FW K G Wo ts D) D σ H):F7 K G Wo tb ts D σ H:=h
theorem zD {c:eh} {dx:J0} (m:JJ K c (.ref G)=aS true) (h:ts D σ H):FW K G Wo ts D σ (.ref c) dx H:=⟨c,rfl,.inl ⟨m,h⟩⟩
end
open AutoSeq1 (wpAny_loadPart')
section
variable {prog:oe} {w:sb} {A:u7} {E:DB} {s:eL}
theorem ng {it t:eh} {i:Nat} {O:Dz} {x:fC} {Q:DB} (α:s.heap.IsTupleIter it t i) (ht:s.heap.IsTuple t O) (hx:O[i]? =aS x)
  (Z:∀h',h'.IsTupleIter it t (i + 1)->KF it s.heap h'->Q x {s with heap:=h'}):
  gn (hL prog w) A (Jw (.ref it)) Q E s:=by
 obtain⟨o,ho,Y,hd⟩:=id α;obtain⟨β,υ,_,nl,φ⟩:=ht;unfold Jw
 refine aY (Kn (name:=Lk "__next__") α.typeIs F.slot_tuple_iterator_next
  (K0 F.slot_tuple_iterator_next α.typeIs F.entry_tuple_iterator_next ?_ (F.args_tuple_iterator_next_1 _)))
 show gn _ _ (field (.ref it) 0 >>=_) _ _ s;refine aY (zx ho hd (x:= .ref t) rfl ?_);show gn _ _ (if (sC t == JB)=true then _ else _) _ _ s;rw[ko (show ¬((sC t == JB)=true) from hC)];show gn _ _ (field (.ref it) 1 >>=_) _ _ s;refine aY (zx ho hd (x:= .int i 0) rfl ?_);show gn _ _ (seqItems? (.ref t) >>=_) _ _ s;refine aY (Mw υ φ ?_);simp only[pT,hx];refine aY (K' ho hd @E (eD ⟨x,rfl,eD (Z _ ?_ (t7 ..))⟩))
 exact⟨_,Jv _ ho (LS (Kv hd _)),(Mr ..).trans Y,by
  rw[Kv hd];simp[rawInt]⟩
theorem n0 {it t:eh} {i:Nat} {O:Dz} {Q:DB} (ζ:A.handled=eC) (α:s.heap.IsTupleIter it t i) (ht:s.heap.IsTuple t O) (hx:O[i]? =eC)
  (γ:∀h' e,Heap.ExtBut it s.heap h'->(∃o,h'.get? e=aS o/\o.cls= .type "StopIteration")->E (.ref e) {s with heap:=h'}):
  gn (hL prog w) A (Jw (.ref it)) Q E s:=by
 obtain⟨o,ho,Z,hd⟩:=id α;obtain⟨Y,υ,_,nl,φ⟩:=ht;unfold Jw
 refine aY (Kn (name:=Lk "__next__") α.typeIs F.slot_tuple_iterator_next
  (K0 F.slot_tuple_iterator_next α.typeIs F.entry_tuple_iterator_next ?_ (F.args_tuple_iterator_next_1 _)))
 show gn _ _ (field (.ref it) 0 >>=_) _ _ s;refine aY (zx ho hd (x:= .ref t) rfl ?_);show gn _ _ (if (sC t == JB)=true then _ else _) _ _ s;rw[ko (show ¬((sC t == JB)=true) from hC)];show gn _ _ (field (.ref it) 1 >>=_) _ _ s;refine aY (zx ho hd (x:= .int i 0) rfl ?_);show gn _ _ (seqItems? (.ref t) >>=_) _ _ s;refine aY (Mw υ φ ?_);simp only[pT,hx];refine aY (NU (aY (K' ho hd @E ?_)));show gn _ _ (newExc (.type "StopIteration") [] >>=_) _ _ _;refine aY ?_;simp only[newExc,newTuple];refine aY (z5 ?_ (by size_fits));refine aY (m:=firstArgMember _ _) (Ni (a:=JB) (by first | rfl | (simp only[firstArgMember];rfl)) ?_);refine z5 ?_ (by size_fits);simp only[raiseNew];refine aY (wpAny_handled ?_)
 first | rw[show A.in1.handled=eC from ζ] | rw[ζ]
 refine aY (eD (Q9 ?_));exact γ _ _ (((t7 ..).extBut.push _).push _) ⟨_,hG _ rfl,rfl⟩
end
theorem Draws.tuple {prog:oe} {w:sb} {A:u7} (ζ:A.handled=eC) (it l:eh) (Y:l≠it) (O:Dz):
  Draws prog w A it [it,l] O.size (λi v=>O[i]? =aS v) (λi h=>h.IsTupleIter it l i/\h.IsTuple l O) where
 live:=λ_ _ st=>let ⟨o,ho,_⟩:=st.1;⟨o,ho⟩
 frame:=λ_ _ _ st hk=>⟨let ⟨o,ho,r⟩:=st.1;⟨o,hk it @E o ho,r⟩,let ⟨o,ho,r⟩:=st.2;⟨o,hk l @E o ho,r⟩⟩
 item:=λi s Q E hi st Z=>by
  refine ng st.1 st.2 (x:=O[i]) (by simp[hi]) λh' ε δ=>?_;exact Z _ h' s.toks (by simp[hi]) ⟨ε,st.2.extBut δ.extBut Y⟩ δ
 done:=λs Q E st γ=>n0 ζ st.1 st.2 @E γ
theorem kI (l:eh) (O:Dz) (n:Nat) (Z:J0) (β:E'):
  Meets (Builtin.«enumerate.__new__» ⟨[.type "enumerate",.ref l],[]⟩) (λ_ R s=>s.heap.get? l=aS {cls:= .type "tuple",dict:=Z,data:= .seq O n,slots:=β}/\
   R (.ok (.ret (.ref (s.heap.push {cls:= .type "tuple_iterator",data:= .fields #[.ref l,.int 0 0]}).objs.size)))
     {s with heap:=(s.heap.push {cls:= .type "tuple_iterator",data:= .fields #[.ref l,.int 0 0]}).push {cls:= .type "enumerate",data:= .fields #[.none,.bool false,.ref s.heap.objs.size,rawInt 0,.none,.none]}}):=
 .of_wp λprog w A R s h=>by
  obtain⟨hp,g,d,tk,os⟩:=s;obtain⟨hl,h⟩:=h;have α:=sub_enumerate;have Y:Heap.IsTuple (Shared.heap ⟨hp,g,d,tk,os⟩) l O:=⟨_,hl,rfl,n,rfl⟩
  wp_walk using Mh hl
  refine wpAny_stack_any λst=>eD ?_;split
  ·rename_i c _ _ _ _ _;cases(c == JA "enumerate")
   ·wp_walk using Mh hl,Mx Y
    exact⟨_,rfl,h⟩
   ·wp_walk using Mh hl,Mx Y
    exact⟨_,rfl,h⟩
  ·wp_walk using Mh hl,Mx Y
   exact⟨_,rfl,h⟩
theorem kJ {prog:oe} {w:sb} {A:u7} {E:DB} {s:eL} {l:eh} {O:Dz} {Q:DB} (β:s.heap.IsTuple l O)
  (h:∀h',IsEnum h' (s.heap.objs.size + 1) s.heap.objs.size 0 .none->h'.IsTupleIter s.heap.objs.size l 0->h'.objs.size=s.heap.objs.size + 2->
   (∀b o,s.heap.get? b=aS o->h'.get? b=aS o)->Q (.ref (s.heap.objs.size + 1)) {s with heap:=h'}):
  gn (hL prog w) A (call (.type "enumerate") [.ref l]) Q E s:=by
 obtain⟨⟨c,Z,γ,α⟩,hl,Y,n,hd⟩:=β;replace Y:c= .type "tuple":=Y;replace hd:γ= .seq O n:=hd;subst Y hd
 refine callType_new F.called_enumerate @C (F.typeCall_enumerate_1 _) (F.newCall_enumerate_1 _) (λobj=>F.args_object_init_2 obj _) F.entry_enumerate_new
  (kI l O n Z α) ⟨hl,?_⟩
 have hz:(s.heap.push {cls:= .type "tuple_iterator",data:= .fields #[.ref l,.int 0 0]}).objs.size=s.heap.objs.size + 1:=z3 ..
 show _/\_;rw[hz]
 have he:IsEnum ((s.heap.push {cls:= .type "tuple_iterator",data:= .fields #[.ref l,.int 0 0]}).push
   {cls:= .type "enumerate",data:= .fields #[.none,.bool false,.ref s.heap.objs.size,rawInt 0,.none,.none]}) (s.heap.objs.size + 1) s.heap.objs.size 0 .none:=by
  have:=hG (s.heap.push {cls:= .type "tuple_iterator",data:= .fields #[.ref l,.int 0 0]})
   (o:={cls:= .type "enumerate",data:= .fields #[.none,.bool false,.ref s.heap.objs.size,rawInt 0,.none,.none]}) rfl
  rw[hz] at this;exact this
 refine⟨⟨_,he,rfl⟩,h _ he ⟨_,en _ (hG _ rfl),rfl,rfl⟩ (by rw[z3,hz]) λb o x=>en _ (en _ x)⟩
noncomputable def Itet (K:aT) (a:eh):It:=
 ⟨λi H=>∃xs x,SqT K H a xs/\xs[i]? =aS x,λi H x H'=>∃p v,H p=eC/\x= .ref p/\H'=upd H p (.tup [.int i,v])/\∀xs,SqT K H a xs->xs[i]? =aS v,λi H=>∃xs,SqT K H a xs/\xs.length=i⟩
theorem xJ {P:oe} {w:sb} {K:aT} {γ:eA x7} {k:Nat} {pos:Pos} (a e it:eh) (α:e≠it):
  Turn P w K (.Tuple γ k pos) (Itet K a) [e,it] e (λi h=>(∃Z,IsEnum h e it i Z)/\h.IsTupleIter it a i) where
 mem:=by simp
 obj:=λi h st b hb=>by
  obtain⟨⟨Z,he⟩,⟨o,ho,χ,hd⟩⟩:=st;rcases u5.mp hb with z | z
  ·subst z;exact⟨_,he,λv z=>by cases z⟩
  ·rw[fk.mp z];exact⟨o,ho,λv z=>by rw[hd] at z;cases z⟩
 keep:=λi h h' st k=>⟨let ⟨Z,he⟩:=st.1;⟨Z,k e @E _ he⟩,(let ⟨o,ho,r⟩:=st.2;⟨o,k it @E o ho,r⟩)⟩
 item:=by
  intro X ζ hw hK χ i pins s σ H E I hf st hg;subst ζ hw hK;obtain⟨xs,x,φ,υ⟩:=hg;obtain⟨its,τ,p,hz⟩:=I.tuple φ;have η:s.heap.IsTuple a its.toArray:=p;obtain⟨⟨Z,he⟩,hl⟩:=st
  have ι:a≠it:=λz=>by
   obtain⟨o,ho,θ,_⟩:=hl;obtain⟨o',Y,ρ,_⟩:=η;rw[z,ho] at Y;cases Y;rw[θ] at ρ;exact gd ρ @C
  have ν:a≠e:=λz=>by
   obtain⟨o',Y,ρ,_⟩:=η;rw[z,he] at Y;cases Y;exact gd (show JA "enumerate"= .type "tuple" from ρ) @C
  have W:=L6 (prog:=X.prog) (w:=X.w) (A:=X.A) (Draws.tuple (A:=X.A.in1) (I.ok.hd χ) it a ι its.toArray) e α (by simp[α,vl ν]) @E;have hi:i < its.toArray.size:=by have:=τ.length;have:=(dt.mp υ).1;simp;omega
  refine W.item i s _ _ hi ⟨⟨Z,he⟩,hl,η⟩ λT π h' tk a3 hT ε β hk=>⟨_,rfl,W.go γ k pos i T _ _ _ β λa4 ξ ο=>?_⟩;obtain⟨t,ψ,ω,rfl⟩:=a3;have a0:=W.apart i T h' β
  have ru:RelV x ψ:=by
   obtain⟨u,hu,r⟩:=τ.get υ;have δ:its[i]? =aS ψ:=by simpa using ω
   rw[hu] at δ;cases δ;exact r
  have O:∀b u,b∉[e,it]->s.heap.get? b=aS u->a4.get? b=aS u:=λb u hb q=>ο b u hb (hk b u hb q);have fr:H T=none:=I.hok.fresh hT;refine⟨.ref T,upd H T (.tup [.int i,x]),I.laidCh (t':=tk) O hT ⟨wJ,[.int i t,ψ],.cons ⟨t,rfl⟩ (.cons ru .nil),?_⟩ hf,rfl,⟨T,x,fr,rfl,rfl,λys hy=>by rw[I.tuple_inj hy φ];exact υ⟩,⟨ξ.1,ξ.2.1⟩,λb hb=>?_⟩
  ·obtain⟨o,ho,r⟩:=ε;exact⟨o,ο T o a0 ho,r⟩
  ·have fb:=(hf b hb);rw[aH (λz=>?_)]
   ·exact fb.1
   ·have lt:b < s.heap.objs.size:=by
     rcases u5.mp hb with z | z
     ·subst z;exact fy he
     ·rw[fk.mp z];obtain⟨o,ho,_⟩:=hl;exact fy ho
    rw[z] at lt;exact gd (eF lt hT) (Kk _)
 done:=by
  intro X ζ hw hK χ i pins s σ H E I hf st hg;subst ζ hw hK;obtain⟨xs,φ,υ⟩:=hg;obtain⟨its,τ,p,hz⟩:=I.tuple φ;have η:s.heap.IsTuple a its.toArray:=p;obtain⟨⟨Z,he⟩,hl⟩:=st
  have ι:a≠it:=λz=>by
   obtain⟨o,ho,θ,_⟩:=hl;obtain⟨o',Y,ρ,_⟩:=η;rw[z,ho] at Y;cases Y;rw[θ] at ρ;exact gd ρ @C
  have ν:a≠e:=λz=>by
   obtain⟨o',Y,ρ,_⟩:=η;rw[z,he] at Y;cases Y;exact gd (show JA "enumerate"= .type "tuple" from ρ) @C
  have W:=L6 (prog:=X.prog) (w:=X.w) (A:=X.A) (Draws.tuple (A:=X.A.in1) (I.ok.hd χ) it a ι its.toArray) e α (by simp[α,vl ν]) @E;have hn:its.toArray.size=i:=by have:=τ.length;simp;omega
  subst hn;exact W.done s _ _ ⟨⟨Z,he⟩,hl,η⟩ λh' tk hk=>⟨rfl,I.turnedCh hk hf⟩
 self:=λ_ _ _ _ _ st h=>let ⟨_,he⟩:=st.1;KO he h
noncomputable def DL (K:aT) (tl:TE):TI:=fun σ H R=>tl σ H λx H1=>∃a,x= .ref a/\(((∃xs,SqL K H1 a xs)/\R (Ite K a) H1)∨((∃xs,SqT K H1 a xs)/\R (Itet K a) H1))
section
variable {X:Cx} {K:aT}
theorem B4 {l:x7} {tl:TE} {β:eA x7} {k:Nat} {tpos p pos:Pos} (h:X.K=K) (η:Gl X "enumerate") (hm:X.mg "enumerate"=eC) (hl:PE X l tl) (hs:lx [l] X.env=[(false,eval l X.env)]:=by rfl):
  PI X (.Tuple β k tpos) (.Call (.Name "enumerate" p) [l] [] pos) (DL K tl):=by
 subst h;intro pins s σ H R I h;refine OY (iC I η hm boot_enumerate (wh (thn (aa hl af hs pos pins s σ H (λvs H1=>match vs with | [x]=>∃a,x= .ref a/\(((∃xs,SqL X.K H1 a xs)/\R (Ite X.K a) H1)∨((∃xs,SqT X.K H1 a xs)/\R (Itet X.K a) H1)) | _=>False) I h) λus O ⟨vs,H1,I1,γ,Z⟩=>?_) hs rfl))
 match vs,γ,Z with
 | [x],γ,Z=>
 obtain⟨u,rfl,ζ⟩:=γ.one;obtain⟨a,rfl,Z⟩:=Z;cases ζ
 have fin:∀b∈[O.heap.objs.size + 1,O.heap.objs.size],FpOk X pins H1 b:=λb hb=>by
  have Y:O.heap.objs.size<=b:=(u5.mp hb).elim (λz=>by rw[z];exact KS _) (λz=>by rw[fk.mp z];exact mu _);exact I1.fpOk Y (I1.hok.fresh Y)
 rcases Z with ⟨⟨xs,δ⟩,q⟩ | ⟨⟨xs,δ⟩,q⟩
 ·obtain⟨its,ε,pl,hz⟩:=I1.list δ;refine Qr pl.isList λh' he α hsz hk=>KO he ?_;exact⟨O.heap.objs.size + 1,[O.heap.objs.size + 1,O.heap.objs.size],_,_,H1,rfl,I1.kept (t':=O.toks) hk,qZ a _ _ (Jr (Ke _)),⟨⟨_,he⟩,α⟩,fin,q⟩
 ·obtain⟨its,ε,pl,hz⟩:=I1.tuple δ;refine kJ (show O.heap.IsTuple a its.toArray from pl) λh' he α hsz hk=>KO he ?_;exact⟨O.heap.objs.size + 1,[O.heap.objs.size + 1,O.heap.objs.size],_,_,H1,rfl,I1.kept (t':=O.toks) hk,xJ a _ _ (Jr (Ke _)),⟨⟨_,he⟩,α⟩,fin,q⟩
end
theorem kC {K:aT} {n:Nat} {fx:D'} {g:TG} {tc:TT} {te:TE} {σ:St} {H1:Hp} {D:eh} {Q:Hp->Prop} {a:eh} {xs:eA V} (O:Nat->eA V->Hp->Prop) (h0:O 0 [] (upd H1 D (.lst []))) (hl:∀i ys H,i<=xs.length->O i ys H->SqL K H a xs)
  (hs:∀i x ys H p H',xs[i]? =aS x->O i ys H->H p=eC->Same H H'->H' p=aS (.tup [.int i,x])->g (.ref p) (cQ n fx σ) H' fun π Z=>tc π Z λb α=>if b=true then te π α λv γ=>γ D=aS (.lst ys)/\ys.length < hH/\O (i + 1) (ys++[v]) (upd γ D (.lst (ys++[v]))) else O (i + 1) ys α)
  (hd:∀ys H,O xs.length ys H->Q H):
  ∃W:Nat->Nat->eA V->Hp->Prop,(∃m,W 0 m [] (upd H1 D (.lst [])))/\∀i m ys H2,W i m ys H2->((Ite K a).stop i H2/\Q H2)∨
    ((Ite K a).go i H2/\∃N:eA V->Hp->Prop,(∀Y H',N Y H'->∃δ,δ < m/\W (i + 1) δ Y H')/\∀x ε,(Ite K a).yld i H2 x ε->g x (cQ n fx σ) ε fun π Z=>tc π Z λb α=>
      if b=true then te π α λv γ=>γ D=aS (.lst ys)/\ys.length < hH/\N (ys++[v]) (upd γ D (.lst (ys++[v]))) else N ys α):=by
 refine⟨λi m ys H=>m=xs.length - i/\i<=xs.length/\O i ys H,⟨xs.length,@E,Ka _,h0⟩,?_⟩;rintro i m ys H ⟨rfl,hi,p⟩;have q:=hl i ys H hi p;by_cases β:i < xs.length
 ·refine .inr ⟨⟨xs,xs[i],q,by simp[β]⟩,O (i + 1),λY H' ζ=>⟨xs.length - (i + 1),by omega,rfl,β,ζ⟩,λx H' y=>?_⟩;obtain⟨r,v,f,e1,η,y⟩:=y;subst e1 η;exact hs i v ys H r _ (y xs q) p f (eX f) aQ
 ·have e:i=xs.length:=by omega
  subst e;exact .inl ⟨⟨xs,q,rfl⟩,hd ys H p⟩
theorem yz {K:aT} {n:Nat} {fx:D'} {g:TG} {tc:TT} {te:TE} {σ:St} {H1:Hp} {D:eh} {Q:Hp->Prop} {a:eh} {xs:eA V} (O:Nat->eA V->Hp->Prop) (h0:O 0 [] (upd H1 D (.lst []))) (hl:∀i ys H,i<=xs.length->O i ys H->SqT K H a xs)
  (hs:∀i x ys H p H',xs[i]? =aS x->O i ys H->H p=eC->Same H H'->H' p=aS (.tup [.int i,x])->g (.ref p) (cQ n fx σ) H' fun π Z=>tc π Z λb α=>if b=true then te π α λv γ=>γ D=aS (.lst ys)/\ys.length < hH/\O (i + 1) (ys++[v]) (upd γ D (.lst (ys++[v]))) else O (i + 1) ys α)
  (hd:∀ys H,O xs.length ys H->Q H):
  ∃W:Nat->Nat->eA V->Hp->Prop,(∃m,W 0 m [] (upd H1 D (.lst [])))/\∀i m ys H2,W i m ys H2->((Itet K a).stop i H2/\Q H2)∨
    ((Itet K a).go i H2/\∃N:eA V->Hp->Prop,(∀Y H',N Y H'->∃δ,δ < m/\W (i + 1) δ Y H')/\∀x ε,(Itet K a).yld i H2 x ε->g x (cQ n fx σ) ε fun π Z=>tc π Z λb α=>
      if b=true then te π α λv γ=>γ D=aS (.lst ys)/\ys.length < hH/\N (ys++[v]) (upd γ D (.lst (ys++[v]))) else N ys α):=by
 refine⟨λi m ys H=>m=xs.length - i/\i<=xs.length/\O i ys H,⟨xs.length,@E,Ka _,h0⟩,?_⟩;rintro i m ys H ⟨rfl,hi,p⟩;have q:=hl i ys H hi p;by_cases β:i < xs.length
 ·refine .inr ⟨⟨xs,xs[i],q,by simp[β]⟩,O (i + 1),λY H' ζ=>⟨xs.length - (i + 1),by omega,rfl,β,ζ⟩,λx H' y=>?_⟩;obtain⟨r,v,f,e1,η,y⟩:=y;subst e1 η;exact hs i v ys H r _ (y xs q) p f (eX f) aQ
 ·have e:i=xs.length:=by omega
  subst e;exact .inl ⟨⟨xs,q,rfl⟩,hd ys H p⟩
section
variable {σ:St} {H:Hp} {te:TE} {R:It->Hp->Prop}
theorem gf {K:aT} (h:te σ H λx H1=>∃a,x= .ref a/\(((∃xs,SqL K H1 a xs)/\R (Ite K a) H1)∨((∃xs,SqT K H1 a xs)/\R (Itet K a) H1))):DL K te σ H R:=h
end
namespace ZP
noncomputable abbrev Busy (h:u2) (z TI TO T:eh) (O:JC):Prop:=h.get? z=aS {cls:= .type "zip",data:= .fields #[rawInt T,.bool O,.bool false,.ref TI,.ref TO]}
section
variable {prog:oe} {w:sb} {A:u7} {E:DB} {s:eL}
theorem Aa {z TI TO T:eh} {fl:JC} {O:NJ} {Q:JC->eL->Prop} (hz:Busy s.heap z TI TO T fl) (hT:s.heap.get? T=aS O) (h:∀h',Busy h' z TI TO T true->KF z s.heap h'->Q false {s with heap:=h'}):
  gn (hL prog w) A (Mi (.ref z)) Q E s:=by
 unfold Mi;refine aY (zx hz rfl (x:=rawInt T) rfl ?_);show gn _ _ (loadIfAlive ((T:Int).toNat) >>=_) _ _ s;rw[pT];refine aY (PySem.W.kdx_alive hT ?_);rw[ko @E];refine aY (zx hz rfl (x:= .bool fl) rfl ?_);cases fl with
 | true=>
   rw[ko @C];exact eD (h s.heap hz ⟨rfl,λ_ _=>rfl⟩)
 | false=>
   rw[px @C];refine aY (wpAny_setField_rec hz (by show 1 < 5;decide) λh' e hs=>eD (h h' e hs))
theorem Ab {z TI TO T i1 i2 γ β:eh} {fl:JC} {τ:NJ} {i:Nat} {xs ys:Dz} {x y:fC} {Q:J7->eL->Prop} (ap:ZipApart z TI TO i1 i2 γ β) (hz:Busy s.heap z TI TO T fl) (hT:s.heap.get? T=aS τ)
  (hI:IsPair s.heap TI (.ref i1) (.ref i2)) (h1:s.heap.IsListIter i1 γ i) (h2:s.heap.IsListIter i2 β i) (hl1:s.heap.IsList γ xs) (hl2:s.heap.IsList β ys) (φ:xs[i]? =aS x) (υ:ys[i]? =aS y)
  (h:∀h',Busy h' z TI TO T true->h'.IsListIter i1 γ (i + 1)->h'.IsListIter i2 β (i + 1)->(∀b o,b≠z->b≠i1->b≠i2->s.heap.get? b=aS o->h'.get? b=aS o)->h'.get? s.heap.objs.size=aS {cls:= .type "tuple",data:= .seq #[x,y]}->Q (aS (.ref s.heap.objs.size)) {s with heap:=h'}):
  gn (hL prog w) A (pyNext (.ref z)) Q E s:=by
 have ty:s.TypeIs (.ref z) "zip":=⟨_,hz,rfl⟩;unfold pyNext;refine aY (NQ (Kn (name:=Lk "__next__") ty F.slot_zip_next (K0 F.slot_zip_next ty F.entry_zip_next ?_ (F.args_zip_next_1 _))));unfold Builtin.«zip.__next__»;refine aY (Ni (a:=(sC z,[])) rfl ?_);dsimp only;refine aY (zx hz rfl (x:= .bool false) rfl ?_);refine aY (zx hz rfl (x:= .ref TI) rfl ?_);refine aY (Mw hI rfl ?_);dsimp only;rw[ko (show ¬(#[sC i1,sC i2].isEmpty=true) from hC)];refine aY (Aa hz hT λh' ξ hs=>?_);rw[ko @C];rw[<-Pq];simp only[Lg,N8];have keep:∀{b:eh} {o:NJ},b≠z->s.heap.get? b=aS o->h'.get? b=aS o:=fun δ e=>(hs.2 _ δ).trans e;have π:h'.IsListIter i1 γ i:=h1.at λo e=>keep ap.i1z e;have ο:h'.IsListIter i2 β i:=h2.at λo e=>keep ap.i2z e;have α:h'.IsList γ xs:=let ⟨o,e,c⟩:=hl1;⟨o,keep ap.l1z e,c⟩
 have θ:h'.IsList β ys:=let ⟨o,e,c⟩:=hl2;⟨o,keep ap.l2z e,c⟩
 refine aY (aY (aY (K5 ?_)));show gn _ _ (Jw (.ref i1) >>=λx=>pure (aS x)) _ _ _;refine aY (PM π α φ fun ρ ν η=>eD ?_);dsimp only;refine eD ?_;dsimp only;have O:∀{b:eh} {o:NJ},b≠i1->h'.get? b=aS o->ρ.get? b=aS o:=fun δ e=>(η.2 _ δ).trans e;refine aY (aY (K5 ?_));show gn _ _ (Jw (.ref i2) >>=λx=>pure (aS x)) _ _ _;refine aY (PM (ο.at λo e=>O (vl ap.i12) e) (let ⟨o,e,c⟩:=θ;⟨o,O ap.l2i1 e,c⟩) υ fun ε ι ζ=>eD ?_);have Z:∀{b:eh} {o:NJ},b≠i2->ρ.get? b=aS o->ε.get? b=aS o:=fun δ e=>(ζ.2 _ δ).trans e;dsimp only;refine eD ?_;dsimp only;refine eD ?_;dsimp only;have es:ε.objs.size=s.heap.objs.size:=ζ.1.trans (η.1.trans hs.1);refine aY (wpAny_newTuple (eD ⟨_,rfl,eD ?_⟩) (by show 2<=hH;rw[kv];decide));show Q (aS (.ref ε.objs.size)) {s with heap:=ε.push _};rw[es];refine h _ ?_ ?_ ?_ (λb o nz n1 Y e=>en _ (Z Y (O n1 (keep nz e)))) ?_
 ·exact en _ (Z (vl ap.i2z) (O (vl ap.i1z) ξ))
 ·exact ν.at λo e=>en _ (Z ap.i12 e)
 ·exact ι.at λo e=>en _ e
 ·rw[<-es];exact hG _ rfl
theorem B8 {z TI TO T i1 i2 O δ:eh} {fl:JC} {β:NJ} {i:Nat} {xs:Dz} {Q:J7->eL->Prop} (ζ:A.handled=eC) (ap:ZipApart z TI TO i1 i2 O δ) (hz:Busy s.heap z TI TO T fl) (hT:s.heap.get? T=aS β)
  (hI:IsPair s.heap TI (.ref i1) (.ref i2)) (h1:s.heap.IsListIter i1 O i) (hl1:s.heap.IsList O xs) (η:xs[i]? =eC)
  (h:∀h',(∀b o,b≠z->b≠i1->s.heap.get? b=aS o->h'.get? b=aS o)->Q eC {s with heap:=h'}):
  gn (hL prog w) A (pyNext (.ref z)) Q E s:=by
 have ty:s.TypeIs (.ref z) "zip":=⟨_,hz,rfl⟩;unfold pyNext;refine aY (NQ (Kn (name:=Lk "__next__") ty F.slot_zip_next (K0 F.slot_zip_next ty F.entry_zip_next ?_ (F.args_zip_next_1 _))));unfold Builtin.«zip.__next__»;refine aY (Ni (a:=(sC z,[])) rfl ?_);dsimp only;refine aY (zx hz rfl (x:= .bool false) rfl ?_);refine aY (zx hz rfl (x:= .ref TI) rfl ?_);refine aY (Mw hI rfl ?_);dsimp only;rw[ko (show ¬(#[sC i1,sC i2].isEmpty=true) from hC)];refine aY (Aa hz hT λh' ε hs=>?_);rw[ko @C];rw[<-Pq];simp only[Lg,N8];have keep:∀{b:eh} {o:NJ},b≠z->s.heap.get? b=aS o->h'.get? b=aS o:=fun γ e=>(hs.2 _ γ).trans e;have Y:h'.IsListIter i1 O i:=h1.at λo e=>keep ap.i1z e;have α:h'.IsList O xs:=let ⟨o,e,c⟩:=hl1;⟨o,keep ap.l1z e,c⟩
 refine aY (aY (aY (K5 ?_)));show gn _ _ (Jw (.ref i1) >>=λx=>pure (aS x)) _ _ _;refine aY (wpAny_nextOf_list_end (by first | exact ζ | (rw[show A.in1.handled=eC from ζ])) Y α η λZ e ex he=>?_);refine aY (Oi (T:="StopIteration") (b:=true) (s:={s with heap:=Z}) (let ⟨o,a,b⟩:=he;⟨o,a,b⟩) isSubtype_stop ?_);exact eD (h Z λb o nz n1 θ=>ex b o n1 (keep nz θ))
structure ZGot (h:u2) (lo:Nat) (xs ys:Dz) (as:G'):Prop where
 rise:as.Pairwise (· < ·)
 above:∀a∈as,lo<=a/\a < h.objs.size
 pairs:∀(j:Nat) (a:eh),as[j]? =aS a->∃x y,xs[j]? =aS x/\ys[j]? =aS y/\h.IsTuple a #[x,y]
structure ZSt (h:u2) (z TI TO i1 i2 l1 l2:eh) (lo:Nat) (xs ys:Dz) (i:Nat) (as:G'):Prop where
 zp:(i=0/\IsZip h z TI TO .none)∨∃T fl,Busy h z TI TO T fl/\as[0]? =aS T
 hI:IsPair h TI (.ref i1) (.ref i2)
 hO:∃a b,IsPair h TO a b
 h1:h.IsListIter i1 l1 i
 h2:h.IsListIter i2 l2 i
 hl1:h.IsList l1 xs
 hl2:h.IsList l2 ys
 len:as.length=i
 got:ZGot h lo xs ys as
structure Und (z TI TO i1 i2 l1 l2 S:eh) (lo:Nat):Prop where
 ap:ZipApart z TI TO i1 i2 l1 l2
 Sz:S≠z
 STI:S≠TI
 STO:S≠TO
 Si1:S≠i1
 Si2:S≠i2
 Sl1:S≠l1
 Sl2:S≠l2
 z:z < lo
 TO:TO < lo
 i1:i1 < lo
 i2:i2 < lo
 S:S < lo
theorem iZ {h:u2} {a:eh} {o:NJ} (e:h.get? a=aS o):a < h.objs.size:=fy e
theorem ZGot.keep {h h':u2} {lo:Nat} {xs ys:Dz} {Y:G'} (g:ZGot h lo xs ys Y) (k:∀b o,lo<=b->h.get? b=aS o->h'.get? b=aS o):ZGot h' lo xs ys Y:=by
 have k2:∀a∈Y,h'.IsTuple a #[.none,.none]->True:=λ_ _ _=>trivial;refine⟨g.rise,λa ha=>?_,λj a O=>?_⟩
 ·obtain⟨j,O⟩:=Kt.mp ha;obtain⟨x,y,_,_,o,e,_⟩:=g.pairs j a O;exact⟨(g.above a ha).1,iZ (k a o (g.above a ha).1 e)⟩
 ·obtain⟨x,y,α,Z,o,e,c⟩:=g.pairs j a O;exact⟨x,y,α,Z,o,k a o (g.above a (eO O)).1 e,c⟩
theorem ZGot.more {h:u2} {lo:Nat} {xs ys:Dz} {O:G'} {a:eh} {x y:fC} (g:ZGot h lo xs ys O) (ha:∀b∈O,b < a) (Z:lo<=a) (hx:xs[O.length]? =aS x) (hy:ys[O.length]? =aS y) (ht:h.IsTuple a #[x,y]):ZGot h lo xs ys (O++[a]):=by
 refine⟨MW.mpr ⟨g.rise,OL _ _,λb hb c α=>by rw[fk.mp α];exact ha b hb⟩,λb hb=>?_,λj b Y=>?_⟩
 ·rcases lh.mp hb with z | z
  ·exact g.above b z
  ·rw[fk.mp z];obtain⟨o,e,_⟩:=ht;exact⟨Z,iZ e⟩
 ·by_cases hl:j < O.length
  ·rw[oP hl] at Y;exact g.pairs j b Y
  ·rw[rg @A] at Y
   have β:j=O.length:=by
    have:=(dt.mp Y).1;simp at this;omega
   subst β;rw[LP] at Y;have:a=b:=by simpa using Y
   subst this;exact⟨x,y,hx,hy,ht⟩
theorem loop {R:J2} {z TI TO i1 i2 τ ρ S:eh} {lo:Nat} {xs ys:Dz} (ζ:A.handled=eC) (U:Und z TI TO i1 i2 τ ρ S lo) (hn:xs.size<=hH) (b4:ys.size=xs.size) (res:fC) {h₁:u2}
  (hR:∀h' tk Z c δ,(∀b o,b≠S->b≠z->b≠TO->b≠i1->b≠i2->h₁.get? b=aS o->h'.get? b=aS o)->h'.get? S=aS {cls:= .type "list",data:= .seq Z c}->Z.toList=δ.map .ref->δ.length=xs.size->ZGot h' lo xs ys δ->R (.ok (.ret res)) {s with heap:=h',toks:=tk}):
  ∀(k i:Nat) (h:u2) (tk c:Nat) (Z:Dz) (δ:G'),xs.size - i=k->i<=xs.size->lo<=h.objs.size->ZSt h z TI TO i1 i2 τ ρ lo xs ys i δ->
    (∀b o,b≠S->b≠z->b≠TO->b≠i1->b≠i2->h₁.get? b=aS o->h.get? b=aS o)->h.get? S=aS {cls:= .type "list",data:= .seq Z c}->Z.toList=δ.map .ref->
    codeAny (hL prog w) A (QR "list.extend.loop" {pos:=[.ref S,.ref z,res]}) R {s with heap:=h,toks:=tk}:=by
 have ap:=U.ap;intro k
 induction k with
 | zero=>
   intro i h tk c Z δ hk hi ο st kh hS α;have a5:i=xs.size:=by omega
   subst a5;refine JH F.entry_extend_loop ?_;rw[JP F.plain_extend_loop];show gn _ A.in1 (pyNext (.ref z) >>=_) _ _ _;refine aY ?_
   have fin:∀h' γ,(∀b o,b≠z->b≠TO->b≠i1->b≠i2->h.get? b=aS o->h'.get? b=aS o)->R (.ok (.ret res)) {s with heap:=h',toks:=γ}:=λh' γ O=>
    hR h' γ Z c δ (λb o n1 Y ξ η ε e=>O b o Y ξ η ε (kh b o n1 Y ξ η ε e)) (O S _ U.Sz U.STO U.Si1 U.Si2 hS) α st.len (st.got.keep λb o hb e=>O b o (Jr (eF U.z hb)) (Jr (eF U.TO hb)) (Jr (eF U.i1 hb)) (Jr (eF U.i2 hb)) e)
   rcases st.zp with ⟨h0,hz⟩ | ⟨T,fl,hz,hT⟩
   ·have W:=QD (prog:=prog) (w:=w) (A:=A.in1) ζ z TI TO i1 i2 τ ρ ap xs ys;have em:min xs.size ys.size=xs.size:=by omega
    rw[em] at W;refine W.done {s with heap:=h,toks:=tk} _ _ ⟨hz,st.hI,st.hO,st.h1,st.h2,st.hl1,st.hl2⟩ λh' γ O=>?_;exact eD (fin h' γ λb o Y ξ η ε e=>O b o (by simp[Y,ξ,η,ε]) e)
   ·obtain⟨x,y,_,_,oT,eT,_⟩:=st.got.pairs 0 T hT;refine B8 (s:={s with heap:=h,toks:=tk}) ζ ap hz eT st.hI st.h1 st.hl1 @E λh' O=>?_;exact eD (fin h' tk λb o Y ξ η ε e=>O b o Y η e)
 | succ k ih=>
   intro i h tk c Z δ hk hi ο st kh hS α;have υ:i < xs.size:=by omega
   have hx:xs[i]? =aS xs[i]:=KA υ;have hy:ys[i]? =aS (ys[i]' @A):=KA @A;generalize xs[i]=x at hx;generalize ys[i]'_=y at hy;refine JH F.entry_extend_loop ?_;rw[JP F.plain_extend_loop];show gn _ A.in1 (pyNext (.ref z) >>=_) _ _ _;refine aY ?_
   have go:∀(a:eh) (h':u2) (γ:Nat),h.objs.size<=a->h'.IsTuple a #[x,y]->(∀b o,b≠z->b≠TO->b≠i1->b≠i2->h.get? b=aS o->h'.get? b=aS o)->lo<=h'.objs.size->
     (∃T fl,Busy h' z TI TO T fl/\(δ++[a])[0]? =aS T)->IsPair h' TI (.ref i1) (.ref i2)->(∃a b,IsPair h' TO a b)->h'.IsListIter i1 τ (i + 1)->h'.IsListIter i2 ρ (i + 1)->h'.IsList τ xs->h'.IsList ρ ys->
     gn (hL prog w) A.in1 (NH (.ref S) (λq=>q.push (.ref a)) >>=λ_=>again (QR "list.extend.loop" {pos:=[.ref S,.ref z,res]}))
      (λfin s'=>match fin with | .done f=>R (.ok f) s' | .again c'=>c'.quiet=true/\codeAny (hL prog w) A c' R s') (λe s'=>R (.error e) s') {s with heap:=h',toks:=γ}:=by
    intro a h' γ ha ht O ι a3 hI hO h1 h2 hl1 hl2;have θ:=O S _ U.Sz U.STO U.Si1 U.Si2 hS;have ω:a≠S:=Jr (eF (iZ hS) ha);have hsz:Z.size=i:=by have:=y' Mo α;rw[eB,st.len] at this;simpa using this
    have oth:∀b o,b≠S->h'.get? b=aS o->(h'.update S (w1 λq=>q.push (.ref a))).get? b=aS o:=λb o hb e=>(JF _ _ (vl hb)).trans e;have a6:=Jv (w1 (λq=>q.push (sC a))) θ rfl;refine aY (N1 (s:={s with heap:=h',toks:=γ}) θ rfl (eD ⟨NR F.plain_extend_loop _,?_⟩) (by rw[hsz];omega) (by rw[M0,hsz];omega));refine ih (i + 1) (h'.update S _) γ _ (Z.push (.ref a)) (δ++[a]) @A υ ?_ ⟨.inr ?_,?_,?_,?_,?_,?_,?_,?_,?_⟩ ?_ a6 ?_
    ·have es:(h'.update S (w1 λq=>q.push (.ref a))).objs.size=h'.objs.size:=(t7 ..).1;rw[es];exact ι
    ·obtain⟨T,fl,e,q⟩:=a3;exact⟨T,fl,oth _ _ (vl U.Sz) e,q⟩
    ·exact oth _ _ (vl U.STI) hI
    ·obtain⟨p,q,e⟩:=hO;exact⟨p,q,oth _ _ (vl U.STO) e⟩
    ·exact h1.at λo e=>oth _ o (vl U.Si1) e
    ·exact h2.at λo e=>oth _ o (vl U.Si2) e
    ·exact let ⟨o,e,c⟩:=hl1;⟨o,oth _ o (vl U.Sl1) e,c⟩
    ·exact let ⟨o,e,c⟩:=hl2;⟨o,oth _ o (vl U.Sl2) e,c⟩
    ·rw[eH,st.len];rfl
    ·have g:=st.got.keep (h':=h'.update S (w1 λq=>q.push (.ref a))) λb o hb e=>oth b o (Jr (eF U.S hb)) (O b o (Jr (eF U.z hb)) (Jr (eF U.TO hb)) (Jr (eF U.i1 hb)) (Jr (eF U.i2 hb)) e);refine g.more (λb hb=>eF (st.got.above b hb).2 ha) (Jx ο ha) (by rw[st.len];exact hx) (by rw[st.len];exact hy) (let ⟨o,e,c⟩:=ht;⟨o,oth _ o ω e,c⟩)
    ·exactλb o n1 Y ξ η ε e=>oth b o n1 (O b o Y ξ η ε (kh b o n1 Y ξ η ε e))
    ·rw[LJ,α,hF];rfl
   rcases st.zp with ⟨h0,hz⟩ | ⟨T,fl,hz,hT⟩
   ·have W:=QD (prog:=prog) (w:=w) (A:=A.in1) ζ z TI TO i1 i2 τ ρ ap xs ys;have em:min xs.size ys.size=xs.size:=by omega
    rw[em] at W;refine W.item i {s with heap:=h,toks:=tk} _ _ υ ⟨hz,st.hI,st.hO,st.h1,st.h2,st.hl1,st.hl2⟩ λT π h' γ hp hT ht a0 O=>?_;obtain⟨x',ν,ex,ey,rfl⟩:=hp;rw[hx] at ex;cases ex;rw[hy] at ey;cases ey;obtain⟨φ,m2,m3,ψ,χ,m6,m7,_⟩:=a0;have b3:δ=[]:=JM (st.len.trans h0);refine go T h' γ hT ht (λb o Y ξ η ε e=>O b o (by simp[Y,ξ,η,ε]) e) ?_ ⟨T,false,φ,by rw[b3];rfl⟩ m2 m3 ψ χ m6 m7;obtain⟨o,e,_⟩:=ht;exact Kw (v3 (Jx ο hT) (iZ e))
   ·obtain⟨_,_,_,_,oT,eT,_⟩:=st.got.pairs 0 T hT;refine Ab (s:={s with heap:=h,toks:=tk}) ap hz eT st.hI st.h1 st.h2 st.hl1 st.hl2 hx hy λh' a4 b1 b2 O ht=>?_;refine go h.objs.size h' tk (mu _) ⟨_,ht,rfl,_,rfl⟩ (λb o Y ξ η ε e=>O b o Y η ε e) ?_ ⟨T,true,a4,?_⟩ (O TI _ ap.TIz ap.TIi1 ap.TIi2 st.hI) (let ⟨p,q,e⟩:=st.hO;⟨p,q,O TO _ ap.TOz ap.TOi1 ap.TOi2 e⟩) b1 b2 (let ⟨o,e,c⟩:=st.hl1;⟨o,O τ o ap.l1z ap.l1i1 ap.l1i2 e,c⟩) (let ⟨o,e,c⟩:=st.hl2;⟨o,O ρ o ap.l2z ap.l2i1 ap.l2i2 e,c⟩)
    ·have β:h'.get? h.objs.size=_:=ht;exact Kw (v3 ο (iZ β))
    ·have:0 < δ.length:=(dt.mp hT).1;rw[oP this];exact hT
theorem IT:typeLookup (.type "zip") "__len__"=pure none:=by rw[N5,M7];kernel_rfl
theorem Hg:typeLookup (.type "zip") "__length_hint__"=pure none:=by rw[N5,M7];kernel_rfl
structure New (h:u2) (z TI TO i1 i2 l1 l2:eh) (xs ys:Dz):Prop where
 ap:ZipApart z TI TO i1 i2 l1 l2
 hz:IsZip h z TI TO .none
 hI:IsPair h TI (.ref i1) (.ref i2)
 hO:∃a b,IsPair h TO a b
 h1:h.IsListIter i1 l1 0
 h2:h.IsListIter i2 l2 0
 hl1:h.IsList l1 xs
 hl2:h.IsList l2 ys
theorem New.keep {h h':u2} {z TI TO i1 i2 Y O:eh} {xs ys:Dz} (n:New h z TI TO i1 i2 Y O xs ys) (k:∀b o,h.get? b=aS o->(b=z∨b=TI∨b=TO∨b=i1∨b=i2∨b=Y∨b=O)->h'.get? b=aS o):New h' z TI TO i1 i2 Y O xs ys where
 ap:=n.ap
 hz:=k _ _ n.hz @E
 hI:=k _ _ n.hI @E
 hO:=let ⟨a,b,e⟩:=n.hO;⟨a,b,k _ _ e @E⟩
 h1:=n.h1.at λo e=>k _ o e @E
 h2:=n.h2.at λo e=>k _ o e @E
 hl1:=let ⟨o,e,c⟩:=n.hl1;⟨o,k _ o e @E,c⟩
 hl2:=let ⟨o,e,c⟩:=n.hl2;⟨o,k _ o e @E,c⟩
theorem Hz {R:J2} {z TI TO i1 i2 Z Y S:eh} {lo:Nat} {xs ys:Dz} (ζ:A.handled=eC) (U:Und z TI TO i1 i2 Z Y S lo) (N:New s.heap z TI TO i1 i2 Z Y xs ys) (hn:xs.size<=hH) (χ:ys.size=xs.size) (α:lo<=s.heap.objs.size) (res:fC) {ξ:Nat} (ι:s.heap.get? S=aS {cls:= .type "list",data:= .seq #[] ξ})
  (hR:∀h' tk O c β,(∀b o,b≠S->b≠z->b≠TO->b≠i1->b≠i2->s.heap.get? b=aS o->h'.get? b=aS o)->h'.get? S=aS {cls:= .type "list",data:= .seq O c}->O.toList=β.map .ref->β.length=xs.size->ZGot h' lo xs ys β->R (.ok (.ret res)) {s with heap:=h',toks:=tk}):
  gn (hL prog w) A.in1 (Kh (.ref S) (.ref z) res)
   (λfin s'=>match fin with | .done f=>R (.ok f) s' | .again ο=>ο.quiet=true/\codeAny (hL prog w) A ο R s') (λe s'=>R (.error e) s') s:=by
 have ty:s.TypeIs (.ref z) "zip":=⟨_,N.hz,rfl⟩;have h1:NB (.ref S) (.ref z)=false:=by simp[NB,U.Sz]
 unfold Kh;refine aY (PB ty ?_);rw[ko (by rw[h1];decide)];refine aY (wpAny_pyIter_zip N.hz ?_);refine aY (K5 ?_);unfold LR;refine aY (N3 ty IT ?_);show gn _ A.in1 (specialOf (sC z) (Lk "__length_hint__") >>=_) _ _ _;refine aY (N3 ty Hg ?_);refine eD ?_;dsimp only;rw[px @C];refine aY (NU (aY ?_));show gn _ _ (updateSeq S (λx=>x.push .none) >>=λ_=>updateSeq S λx=>x.pop) _ _ s;have e1:=Jv (w1 (λx=>x.push JB)) ι rfl;have ε:∀b o,b≠S->s.heap.get? b=aS o->(s.heap.update S (w1 (λx=>x.push JB))).get? b=aS o:=λb o hb e=>(JF _ _ (vl hb)).trans e;have η:(s.heap.update S (w1 (λx=>x.push JB))).objs.size=s.heap.objs.size:=(t7 ..).1;refine aY (N1 ι rfl ?_ (by show 0<=hH;exact Ka _) (by show 1<=hH + 1;omega));generalize τ:s.heap.update S (w1 (λx=>x.push JB))=g1 at e1 ε η;refine N1 (s:={s with heap:=g1}) e1 rfl ?_ (by show 1<=hH;rw[kv];decide) (by show 0<=hH + 1;omega);have ν:=Jv (w1 (λx=>x.pop)) e1 rfl;have δ:∀b o,b≠S->g1.get? b=aS o->(g1.update S (w1 (λx=>x.pop))).get? b=aS o:=λb o hb e=>(JF _ _ (vl hb)).trans e;have γ:(g1.update S (w1 (λx=>x.pop))).objs.size=g1.objs.size:=(t7 ..).1;generalize ρ:g1.update S (w1 (λx=>x.pop))=g2 at ν δ γ;refine eD ⟨NR F.plain_extend_loop _,?_⟩
 have N2:New g2 z TI TO i1 i2 Z Y xs ys:=N.keep λb o e hb=>by
  have θ:b≠S:=by
   rcases hb with rfl | rfl | rfl | rfl | rfl | rfl | rfl
   ·exact vl U.Sz
   ·exact vl U.STI
   ·exact vl U.STO
   ·exact vl U.Si1
   ·exact vl U.Si2
   ·exact vl U.Sl1
   ·exact vl U.Sl2
  exact δ b o θ (ε b o θ e)
 exact loop (s:=s) (h₁:=s.heap) ζ U hn χ res hR xs.size 0 g2 s.toks _ #[] [] (Nat.sub_zero _) (Ka _) (by rw[γ,η];exact α) ⟨.inl ⟨rfl,N2.hz⟩,N2.hI,N2.hO,N2.h1,N2.h2,N2.hl1,N2.hl2,rfl,⟨Oe,λ_ h=>gd h @E,λj a π=>by simp at π⟩⟩ (λb o n1 _ _ _ _ e=>δ b o n1 (ε b o n1 e)) ν rfl
theorem init {R:J2} {z TI TO i1 i2 ε δ S:eh} {lo:Nat} {xs ys:Dz} (ζ:A.handled=eC) (U:Und z TI TO i1 i2 ε δ S lo) (N:New s.heap z TI TO i1 i2 ε δ xs ys) (hn:xs.size<=hH) (χ:ys.size=xs.size) (β:lo<=s.heap.objs.size) (γ:s.heap.get? S=aS {cls:= .type "list",data:= .seq #[]})
  (hR:∀h' tk O c Z,(∀b o,b≠S->b≠z->b≠TO->b≠i1->b≠i2->s.heap.get? b=aS o->h'.get? b=aS o)->h'.get? S=aS {cls:= .type "list",data:= .seq O c}->O.toList=Z.map .ref->Z.length=xs.size->ZGot h' lo xs ys Z->R (.ok (.ret .none)) {s with heap:=h',toks:=tk}):
  gn (hL prog w) A.in1 (Builtin.«list.__init__» ⟨[.ref S,.ref z],[]⟩)
   (λfin s'=>match fin with | .done f=>R (.ok f) s' | .again θ=>θ.quiet=true/\codeAny (hL prog w) A θ R s') (λe s'=>R (.error e) s') s:=by
 show gn _ _ (do let α <-NT (.ref S);NH (.ref S) (λ_=>#[]);letGo α.toList.reverse;Kh (.ref S) (.ref z) .none) _ _ s;refine aY ?_;unfold NT;refine aY (Mw γ rfl (eD ?_));show gn _ _ (updateSeq S (λ_=>#[]) >>=λ_=>letGo (#[]:Dz).toList.reverse >>=λ_=>Kh (.ref S) (.ref z) .none) _ _ s;refine aY (N1 γ rfl ?_);have ι:=Jv (w1 (λ_=>(#[]:Dz))) γ rfl;have oth:∀b o,b≠S->s.heap.get? b=aS o->(s.heap.update S (w1 (λ_=>(#[]:Dz)))).get? b=aS o:=λb o hb e=>(JF _ _ (vl hb)).trans e;have es:(s.heap.update S (w1 (λ_=>(#[]:Dz)))).objs.size=s.heap.objs.size:=(t7 ..).1;refine aY (wpAny_letGo ?_);refine Hz (s:={s with heap:=_}) ζ U (N.keep λb o e hb=>oth b o ?_ e) hn χ (by show lo<=(s.heap.update S _).objs.size;rw[es];exact β) .none ι λh' tk O c Z k a1 a2 π ο=>hR h' tk O c Z (λb o n1 Y ξ η ν e=>k b o n1 Y ξ η ν (oth b o n1 e)) a1 a2 π ο;rcases hb with rfl | rfl | rfl | rfl | rfl | rfl | rfl
 ·exact vl U.Sz
 ·exact vl U.STI
 ·exact vl U.STO
 ·exact vl U.Si1
 ·exact vl U.Si2
 ·exact vl U.Sl1
 ·exact vl U.Sl2
theorem call_list {Q:DB} {z TI TO i1 i2 ι θ:eh} {xs ys:Dz} (υ:A.handled=eC) (N:New s.heap z TI TO i1 i2 ι θ xs ys) (hn:xs.size<=hH) (χ:ys.size=xs.size)
  (φ:∀h' tk O c β,(∀b o,b≠z->b≠TO->b≠i1->b≠i2->s.heap.get? b=aS o->h'.get? b=aS o)->h'.get? s.heap.objs.size=aS {cls:= .type "list",data:= .seq O c}->O.toList=β.map .ref->β.length=xs.size->ZGot h' (s.heap.objs.size + 1) xs ys β->Q (.ref s.heap.objs.size) {s with heap:=h',toks:=tk}):
  gn (hL prog w) A (call (.type "list") [.ref z]) Q E s:=by
 have ζ:=iZ N.hz;have ε:=iZ N.hI;obtain⟨Z,pb,ψ⟩:=N.hO;have ρ:=iZ ψ;have π:i1 < s.heap.objs.size:=let ⟨o,e,_⟩:=N.h1;iZ e
 have ο:i2 < s.heap.objs.size:=let ⟨o,e,_⟩:=N.h2;iZ e
 have δ:ι < s.heap.objs.size:=let ⟨o,e,_⟩:=N.hl1;iZ e
 have γ:θ < s.heap.objs.size:=let ⟨o,e,_⟩:=N.hl2;iZ e
 refine callType_codes (Q₁:=λobj α=>obj= .ref s.heap.objs.size/\α={s with heap:=s.heap.push {cls:= .type "list",data:= .seq #[]}}) F.called_list (F.typeCall_list_1 _) F.entry_list_init (code_list_new _ ⟨rfl,rfl⟩) λobj α h₁=>?_;obtain⟨rfl,rfl⟩:=h₁;have ν:(s.heap.push {cls:= .type "list",data:= .seq #[]}).get? s.heap.objs.size=aS {cls:= .type "list",data:= .seq #[]}:=hG _ rfl;have up:∀{b:eh},b < s.heap.objs.size->b < s.heap.objs.size + 1:=λh=>K1 h;have ne:∀{b:eh},b < s.heap.objs.size->s.heap.objs.size≠b:=λh=>Jr h;have U:Und z TI TO i1 i2 ι θ s.heap.objs.size (s.heap.objs.size + 1):=⟨N.ap,ne ζ,ne ε,ne ρ,ne π,ne ο,ne δ,ne γ,up ζ,up ρ,up π,up ο,Ke _⟩;have sz:(s.heap.push {cls:= .type "list",data:= .seq #[]}).objs.size=s.heap.objs.size + 1:=by simp[Heap.push]
 refine⟨⟨_,ν,rfl⟩,F.args_list_init_2 _ _,init (A:=A.in1) (s:={s with heap:=_}) υ U (N.keep λb o e _=>en _ e) hn χ (NL sz.symm) ν λh' tk O c β k a1 a2 a3 ω=>?_⟩;exact⟨rfl,φ h' tk O c β (λb o Y τ η ξ e=>k b o (v7 (iZ e)) Y τ η ξ (en _ e)) a1 a2 a3 ω⟩
end
end ZP
open PySem PySem.Spec PyProof.Rows
theorem tI:∀O:G',Vals (O.map V.ref) (O.map sC)
 | []=> .nil
 | _::O=> .cons rfl (tI O)
theorem C9 {X:Cx} {pins:DC} {σ:St} {s0 s:eL} {H0:Hp} (I0:Inv X pins σ H0 s0):∀(Y:G') (xs ys:eA V) (H:Hp),Inv X pins σ H s->Y.Pairwise (· < ·)->(∀a∈Y,s0.heap.objs.size<=a/\H a=eC)->Y.length=xs.length->Y.length=ys.length->
  (∀(j:Nat) (a:eh) (x y:V),Y[j]? =aS a->xs[j]? =aS x->ys[j]? =aS y->∃u v,RelV x u/\RelV y v/\s.heap.IsTuple a #[u,v])->
  ∃H2,Inv X pins σ H2 s/\Same H H2/\(∀b,b∉Y->H2 b=H b)/\∀(j:Nat) (a:eh) (x y:V),Y[j]? =aS a->xs[j]? =aS x->ys[j]? =aS y->H2 a=aS (.tup [x,y])
 | [],_,_,H,I,_,_,_,_,_=>⟨H,I,Same.refl _,λ_ _=>rfl,λj a x y h=>by simp at h⟩
 | a::Y,[],_,H,I,_,_,h,_,_=>by simp at h
 | a::Y,_,[],H,I,_,_,_,h,_=>by simp at h
 | a::Y,x::xs,y::ys,H,I,pw,fr,l1,l2,ht=>by
   obtain⟨u,v,ε,δ,o,e,c⟩:=ht 0 a x y rfl rfl rfl;have ρ:=fr a (oi ..);have Z:=L9.mp pw;have na:a∉Y:=λh=>Kk _ (Z.1 a h);have O:Inv X pins σ (upd H a (.tup [x,y])) s:=I.track (I0.fpN (Kg ρ.1) ρ.2) ⟨wJ,[u,v],.cons ε (.cons δ .nil),o,e,c⟩;obtain⟨H2,θ,γ,o2,g2⟩:=C9 I0 Y xs ys (upd H a (.tup [x,y])) O Z.2 (λb hb=>⟨(fr b (ov _ hb)).1,by rw[aH (λz:b=a=>na (by rw[<-z];exact hb))];exact(fr b (ov _ hb)).2⟩) (by simpa using l1) (by simpa using l2) λj b α ν h1 h2 β=>ht (j + 1) b α ν (by simpa using h1) (by simpa using h2) (by simpa using β);refine⟨H2,θ,λb ob h=>γ b ob (by rw[aH (ar h ρ.2)];exact h),λb hb=>?_,λj b α ν h1 h2 β=>?_⟩
   ·rw[o2 b λz=>hb (ov _ z),aH (λz:b=a=>hb (by rw[z];exact oi ..))]
   ·cases j with
    | zero=>
      have e1:a=b:=by simpa using h1
      have η:x=α:=by simpa using h2
      have ζ:y=ν:=by simpa using β
      subst e1 η ζ;exact γ a _ aQ
    | succ j=>exact g2 j b α ν (by simpa using h1) (by simpa using h2) (by simpa using β)
def FV (K:aT) (Q:VK) (x y:V) (H:Hp):Prop:=∃a b xs ys,x= .ref a/\y= .ref b/\SqL K H a xs/\SqL K H b ys/\xs.length=ys.length/\
 ∀(D:eh) (ps:G') (O:Hp),H D=eC->Same H O->O D=aS (.lst (ps.map V.ref))->ps.length=xs.length->(∀(j:Nat) (p:eh) (x y:V),ps[j]? =aS p->xs[j]? =aS x->ys[j]? =aS y->O p=aS (.tup [x,y]))->Q (.ref D) O
noncomputable def tZip (K:aT) (Z O:TE):TE:=fun σ H Q=>Z σ H λx H1=>O σ H1 λy H2=>FV K Q x y H2
theorem Gs {K:aT} {Z O:TE} {σ:St} {H:Hp} {Q:VK} (h:Z σ H λx H1=>O σ H1 λy H2=>FV K Q x y H2):tZip K Z O σ H Q:=h
section
variable {X:Cx}
theorem HD {K:aT} {e1 α:x7} {ξ ν:TE} {p1 p2:Pos} {pins:DC} {s:eL} {σ:St} {H:Hp} {Q:VK} (hK:X.K=K) (g2:Gl X "zip") (Y:X.mg "zip"=eC) (ι:PE X e1 ξ) (ζ:PE X α ν) (h2:lx [e1,α] X.env=(false,eval e1 X.env)::lx [α] X.env) (h3:lx [α] X.env=[(false,eval α X.env)])
  (I:Inv X pins σ H s) (h:tZip K ξ ν σ H Q) (π:DB)
  (hQ:∀(O:eL) (h':u2) (H1:Hp) (a b:eh) (xs ys:eA V) (its υ:Dd),Inv X pins σ H1 O->Vals xs its->Vals ys υ->its.length<=hH->xs.length=ys.length->h'.objs.size=O.heap.objs.size + 5->(∀c o,O.heap.get? c=aS o->h'.get? c=aS o)->
   ZP.New h' (O.heap.objs.size + 4) (O.heap.objs.size + 2) (O.heap.objs.size + 3) O.heap.objs.size (O.heap.objs.size + 1) a b its.toArray υ.toArray->
   (∀(D:eh) (ps:G') (β:Hp),H1 D=eC->Same H1 β->β D=aS (.lst (ps.map V.ref))->ps.length=xs.length->(∀(j:Nat) (p:eh) (x y:V),ps[j]? =aS p->xs[j]? =aS x->ys[j]? =aS y->β p=aS (.tup [x,y]))->Q (.ref D) β)->
   π (.ref (O.heap.objs.size + 4)) {O with heap:=h'}):
  gn (hL X.prog X.w) X.A (eval (.Call (.Name "zip" p1) [e1,α] [] p2) X.env) π X.xe s:=by
 subst hK;refine OY (iC I g2 Y PyProof.Rows.boot_zip (wh (thn (aa ι (aa ζ af h3) h2 p2 pins s σ H (λvs H1=>match vs with | [x,y]=>FV X.K Q x y H1 | _=>False) I h) λus O ⟨vs,H1,I1,δ,η⟩=>?_) h2 (by rw[h3];rfl)))
 match vs,δ,η with
 | [x,y],δ,η=>
 obtain⟨a,b,xs,ys,ex,ey,sa,χ,hl,q⟩:=η;subst ex ey;cases δ with
 | cons ω r2=>
 cases r2 with
 | cons ψ r3=>
 cases r3;cases ω;cases ψ;obtain⟨its,ο,Z,θ⟩:=I1.list sa;obtain⟨υ,rb,pb,a0⟩:=I1.list χ;have la:a < O.heap.objs.size:=let ⟨o,e,_⟩:=Z.isList;fy e
 have lb:b < O.heap.objs.size:=let ⟨o,e,_⟩:=pb.isList;fy e
 refine call_zip_2 Z.isList pb.isList λh' ε γ φ τ ρ hsz k=>?_;exact hQ O h' H1 a b xs ys its υ I1 ο rb (by rw[<-ο.length];exact θ) hl hsz k ⟨zipApart_new la lb,ε,γ,⟨_,_,φ⟩,τ,ρ,let ⟨o,e,c⟩:=Z.isList;⟨o,k _ o e,c⟩,let ⟨o,e,c⟩:=pb.isList;⟨o,k _ o e,c⟩⟩ q
theorem mX {K:aT} {e1 β:x7} {Z t2:TE} {p1 p2 q1 ε:Pos} (hK:X.K=K) (hc:X.calm=true) (g1:Gl X "list") (g2:Gl X "zip") (n1:X.mg "list"=eC) (Y:X.mg "zip"=eC) (χ:PE X e1 Z) (ζ:PE X β t2)
  (h1:lx [OF (.Name "zip" p1) [e1,β] [] p2] X.env=[(false,eval (.Call (.Name "zip" p1) [e1,β] [] p2) X.env)]:=by rfl) (h2:lx [e1,β] X.env=(false,eval e1 X.env)::lx [β] X.env:=by rfl) (h3:lx [β] X.env=[(false,eval β X.env)]:=by rfl):
  PE X (.Call (.Name "list" q1) [.Call (.Name "zip" p1) [e1,β] [] p2] [] ε) (tZip K Z t2):=by
 intro pins s σ H Q I h;refine OY (iC I g1 n1 u1 (wh (Q:=EP X pins σ Q) ?_ h1 rfl));rw[h1];show gn _ _ (spliced ((false,eval (.Call (.Name "zip" p1) [e1,β] [] p2) X.env)::backTo ε [])) _ _ s;refine Lx (HD hK g2 Y χ ζ h2 h3 I h _ fun α h' H1 a b xs ys its υ I1 ξ rb θ hl hsz k N q=>LI ?_);have φ:υ.toArray.size=its.toArray.size:=by have:=ξ.length;have:=rb.length;simp;omega
 refine ZP.call_list (s:={α with heap:=h'}) (I1.ok.hd hc) N (by simpa using θ) φ λh2 tk a0 c γ kk hD ν ι G=>?_
 have ο:∀b o,α.heap.get? b=aS o->h2.get? b=aS o:=λb o e=>by
  have lt:=fy e;exact kk b o (v7 (eF lt (Lo _ _))) (v7 (eF lt (Lo _ _))) (v7 lt) (v7 (eF lt (Lo _ _))) (k b o e)
 have I2:Inv X pins σ H1 {α with heap:=h2,toks:=tk}:=I1.kept (t':=tk) ο;have O:γ.length=xs.length:=by rw[ι,ξ.length];simp
 have ω:∀p∈γ,α.heap.objs.size<=p/\H1 p=none:=λp hp=>by
  have h0:α.heap.objs.size<=p:=Jx (by show α.heap.objs.size<=h'.objs.size + 1;rw[hsz];exact Jx (Lo _ _) (KS _)) (G.above p hp).1;exact⟨h0,I1.hok.fresh h0⟩
 obtain⟨H3,I3,s3,o3,g3⟩:=C9 I1 γ xs ys H1 I2 G.rise ω O (O.trans hl) λj p x y hp ρ π=>by
  obtain⟨u,v,hu,τ,ht⟩:=G.pairs j p hp;rw[List.getElem?_toArray] at hu τ;obtain⟨u',eu,ru⟩:=ξ.get ρ;obtain⟨v',ev,rv⟩:=rb.get π;rw[eu] at hu;cases hu;rw[ev] at τ;cases τ;exact⟨u,v,ru,rv,ht⟩
 have η:α.heap.objs.size<=h'.objs.size:=by rw[hsz];exact Lo _ _
 have fD:H1 h'.objs.size=none:=I1.hok.fresh η;have nD:h'.objs.size∉γ:=λz=>Nat.not_succ_le_self _ (G.above _ z).1;have δ:H3 h'.objs.size=none:=by rw[o3 _ nD];exact fD
 have ψ:α.heap.get? h'.objs.size=none:=Kg η;have I4:Inv X pins σ (upd H3 h'.objs.size (.lst (γ.map V.ref))) {α with heap:=h2,toks:=tk}:=I3.track (I1.fpN ψ δ) ⟨by rw[eB,O,ξ.length];exact θ,γ.map .ref,c,tI γ,by rw[<-ν];exact hD⟩;refine⟨.ref h'.objs.size,_,I4,rfl,q h'.objs.size γ _ fD (λb ob e=>?_) aQ O λj p x y hp ρ π=>?_⟩
 ·rw[aH (ar (s3 b ob e) δ)];exact s3 b ob e
 ·have:=g3 j p x y hp ρ π;rw[aH (ar this δ)];exact this
end
structure FunD (K:aT) (x qual:u3) (st:Lv) (f:eh) (fd:hP) (dv:fC):Prop where
 ex:∃(oc:fC) (od:J0) (T:eh) (kV doc pm:fC) (an:J0) (cdv ct:fC) (osl:E') (tc:fC) (td:J0) (n:Nat) (tsl:E'),
  fd=JX x qual (eG st) (cL st) (ah st) (.ref T) kV doc pm an cdv ct/\K.lookup f=aS ⟨oc,od,.func fd,osl⟩/\Lb K cdv qual=true/\K.lookup T=aS ⟨tc,td,.seq #[dv] n,tsl⟩
 kp:JK K (.ref f)=true
section
variable {P:oe} {w:sb} {K:aT} {mg:Dk} {base:u2}
theorem FunD.okX {x qual:u3} {st:Lv} {f:eh} {fd:hP} {dv:fC} {N ps:C'} {k:Nat} {sp:Sp} (F:FunD K x qual st f fd dv) (S:aD N ps (ah st)) (len:∀vs H Q E,sp vs H Q E->vs.length=ps.length)
  (Y:∀(O:fC) (A:u7) (outer:eA Env) (s:eL) (H:Hp) (vs:eA V) (Q:VK) (E:XK),Room k (A.deeper (envOfC qual (ah st) s.heap.objs.size f O))->sp vs H Q E->
   ∃t,PSs ((cxOf (CX1 P w) P w K mg base N qual (ah st) f O A outer s H E).thr λ_=>E) (cL st) t/\t {nx:=λ_ H'=>Q .non H',rt:=Q} (lQ N vs) H):FnOk P w K mg base (CX1 P w) (k + 1) f fd ps sp:=by
 obtain⟨ζ,od,T,kV,β,ε,an,O,ct,ο,tc,td,n,γ,rfl,lk,α,_⟩:=F.ex;refine Cy lk α S len λA outer s H vs Q E δ Z=>?_;obtain⟨t,h,q⟩:=Y O A outer s H vs Q E δ Z;exact⟨t,h.thr xl,q⟩
theorem FunD.binds {x qual:u3} {st:Lv} {f:eh} {fd:hP} {dv:fC} {ps:C'} {ds:Dd} (F:FunD K x qual st f fd dv)
  (h:∀(T:eh) (kV β Y:fC) (an:J0) (O ct:fC) (us:Dd),(us++ds).length=ps.length->∃k:nk Dz->Sem J6,bindArgs (JX x qual (eG st) (cL st) (ah st) (.ref T) kV β Y an O ct) ⟨us,[]⟩=(seqItems? (.ref T) >>=k)/\k (aS #[dv])=pure (ps.zip (us++ds))):ke K fd ps ds:=by
 obtain⟨ζ,od,T,kV,β,Y,an,O,ct,ο,tc,td,n,Z,rfl,lk,γ,α⟩:=F.ex;intro s us δ hl;obtain⟨k,e1,ε⟩:=h T kV β Y an O ct us hl;exact BindsTo.of_defaults (T:=T) rfl (δ T _ α) rfl e1 ε
theorem FG {x qual:u3} {st:Lv} {f T:eh} {α tc dv:fC} {od an td:J0} {ο Y:E'} {n:Nat} {kV β Z O ct:fC} (l:K.lookup f=aS ⟨α,od,.func (JX x qual (eG st) (cL st) (ah st) (.ref T) kV β Z an O ct),ο⟩)
  (γ:K.lookup T=aS ⟨tc,td,.seq #[dv] n,Y⟩) (c:Lb K O qual=true) (k:JK K (.ref f)=true):FunD K x qual st f (JX x qual (eG st) (cL st) (ah st) (.ref T) kV β Z an O ct) dv:=⟨⟨α,od,T,kV,β,Z,an,O,ct,ο,tc,td,n,Y,rfl,l,c,γ⟩,k⟩
end
section
variable {σ:St} {H:Hp} {Q:VK} {te:TE}
def Bl (C:eh) (m:u3) (sp:Sp) (dvs:eA V) (W:XW) (tr:TA) (σ:St) (Q:VK) (x:V) (H:Hp):Prop:=∃a dx fs,x= .ref a/\H a=aS (.ins C dx fs)/\fs.lookup m=eC/\tr σ H λvs H2=>sp (x::(vs++dvs)) H2 Q (W σ)
theorem iK {C:eh} {m:u3} {sp:Sp} {dvs:eA V} {W:XW} {tr:TA} (h:te σ H (Bl C m sp dvs W tr σ Q)):Dg C m sp dvs W te tr σ H Q:=h
theorem eZ {C dx p:eh} {m:u3} {fs:eA (u3×V)} {sp:Sp} {dvs:eA V} {W:XW} {tr:TA} (e:H p=aS (.ins C dx fs)) (l:fs.lookup m=eC) (h:tr σ H λvs H2=>sp (.ref p::(vs++dvs)) H2 Q (W σ)):Bl C m sp dvs W tr σ Q (.ref p) H:=⟨p,dx,fs,rfl,e,l,h⟩
end
noncomputable abbrev xBM:Dd:=[.type "ValueError",.type "Exception",.type "BaseException",.type "object"]
structure XOwn (K:aT) (C W f:eh):Prop where
 lk:∃nm q N bs sn sub ab col dd k0 k1 k2 k3 k5,K.lookup C=aS (excClassObj nm q C N bs (.ref W::xBM) true sn sub ab col dd k0 k1 k2 k3 k5 "ValueError.__new__")
 up:MV K W xBM "ValueError.__new__"=true
 init:vr K (.ref C) "__init__"=aS (aS (.ref f))
 fn:Na K (.ref f)=true
 kp:JK K (.ref C)=true
 sa:vr K (.ref C) "__setattr__"=aS (aS (.builtin "object.__setattr__"))
 mo:JJ K C (.type "object")=aS true
 mv:JJ K C (.type "ValueError")=aS true
section
variable {X:Cx} {pins:DC} {σ:St} {H:Hp} {s:eL} {p C W f:eh} {fs:eA (u3×V)}
structure Jn (K:aT) (W:eh):Prop where
 ga:L4 K (.ref W) "__getattribute__"=aS (aS (.builtin "type.__getattribute__"))
 rd:Pu K W (.type "type")=true
 fd:Px K (.ref W) (.type "type") "__init__"=aS (.val (.builtin "ValueError.__init__"))
end
end L2
namespace PySem
end PySem
namespace L2
open PySem PySem.Spec PyProof.Rows
end L2
namespace PySem
end PySem
namespace L2
open PySem PySem.Spec PyProof.Rows
noncomputable def del (H:Hp) (p:eh):Hp:=λb=>if b=p then eC else H b
inductive PH (X:Cx) (Wo:XW):eA ExceptHandler->(Ends->XW)->Prop where
 | nil:PH X Wo [] (λ_=>Wo)
 | cons {G:eh} {g n:u3} {i:Nat} {gp hp:Pos} {b₀:Lv} {suite:eA Lv} {ts:TS} {hs:eA ExceptHandler} {WR:Ends->XW} (cg:tE X.K G) (hg:Gl X g) (hm:X.mg g=aS (.ref G)) (hi:X.N[i]? =aS n) (hk:X.env.scope.names.lookup n=aS .local)
   (hs':∀pins e,PSs (X.mark pins e) (b₀::suite) ts) (hdb:(g == ("__debug__":u3))=false) (r:PH X Wo hs WR):PH X Wo (.ExceptHandler (aS (.Name g gp)) (aS n) (b₀::suite) hp::hs) (λD=>WTry X.K G i (WR D) ts D)
section
variable {M:Model} {A:u7} {E:DB}
noncomputable def sN (x:u3×NameKind) (cells:J5):Sem (ForInStep J5):=
 match x with
 | (name,kind)=>
   if (kind == Jz)=true then do
    let c <-alloc {cls:=JA "cell",data:=Mc eC}
    pure (Kd ((name,c)::cells))
   else pure (Kd cells)
theorem xA {Q:J5->eL->Prop} {s:eL} {cells:J5}:∀{names:eA (u3×NameKind)},(∀y∈names,y.2≠.cell)->Q cells s->gn M A (forIn names cells sN) Q E s
 | [],_,q=>by rw[N8];exact eD q
 | (x,k)::l,h,q=>by
   rw[Lg];refine aY ?_;have hk:(k == Jz)=false:=tz.mpr (h _ oi);show gn M A (if (k == Jz)=true then _ else _) _ E s;rw[hk];exact eD (xA (λy O=>h y (ov _ O)) q)
theorem uO {Q:J5->eL->Prop} {s:eL} {cells:J5} {x0:u3} {O:eA (u3×NameKind)} (h2:∀y∈O,y.2≠.cell)
  (q:Q ((x0,s.heap.objs.size)::cells) {s with heap:=s.heap.push {cls:=JA "cell",data:=Mc eC}}):∀{pre:eA (u3×NameKind)},(∀y∈pre,y.2≠.cell)->gn M A (forIn (pre++(x0,.cell)::O) cells sN) Q E s
 | [],_=>by
   rw[Qk,Lg];refine aY ?_;show gn M A (alloc {cls:=JA "cell",data:=Mc eC} >>=λc=>pure (Kd ((x0,c)::cells))) _ E s;refine aY (wpAny_alloc' ?_);exact eD (xA h2 q)
 | (x,k)::l,h=>by
   rw[List.cons_append,Lg];refine aY ?_;have hk:(k == Jz)=false:=tz.mpr (h _ oi);show gn M A (if (k == Jz)=true then _ else _) _ E s;rw[hk];exact eD (uO h2 q (λy Y=>h y (ov _ Y)))
theorem FM {s:eL} {sc:Jq} {globals:eh} {Y:J5} {qual:u3} {func:J0} {code:fC} {out:Env} {bl:eh} {Q:Env->eL->Prop} {x0:u3} {pre O:eA (u3×NameKind)}
  (hn:sc.names=pre++(x0,.cell)::O) (h1:∀y∈pre,y.2≠.cell) (h2:∀y∈O,y.2≠.cell)
  (q:Q {scope:=sc,locals:=s.heap.objs.size,globals:=globals,cells:=(x0,s.heap.objs.size + 1)::Y,qual:=qual,func:=func,code:=out.code,frame:=out.frame,builtins:=out.builtins}
   {s with heap:=(s.heap.push {cls:=JA "dict",data:=Q1 #[]}).push {cls:=JA "cell",data:=Mc eC}}):
  gn M A (newFunctionEnv sc globals Y [] qual func code (aS out) bl) Q E s:=by
 unfold newFunctionEnv;refine aY ?_;refine wpAny_alloc' ?_;refine aY ?_;show gn M A (forIn sc.names Y sN) _ E _;rw[hn];refine uO h2 ?_ h1;show gn M A (pure _) _ E _;refine eD ?_;rw[z3];exact q
end
structure gc (osc:Jq) (ON N:C') (n:Nat) (fx:D') (x0:u3) (sc:Jq):Prop where
 kind:sc.kind= .function
 one:∃pre post,sc.names=pre++(x0,.cell)::post/\(∀y∈pre,y.2≠.cell)/\∀y∈post,y.2≠.cell
 its:sc.names.lookup x0=aS .cell
 own:∀y∈sc.names,y.2= .local->sc.names.lookup y.1=aS .local
 fre:∀y∈sc.names,y.2= .free->osc.names.lookup y.1=aS .cell∨osc.names.lookup y.1=aS .free
 len:N.length=n + fx.length
 frn:∀k,k < fx.length->∃x j,N[n + k]? =aS x/\fx[k]? =aS j/\ON[j]? =aS x/\sc.names.lookup x=aS .free
theorem gc.cel {osc:Jq} {ON N:C'} {n:Nat} {fx:D'} {x0:u3} {sc:Jq} (S:gc osc ON N n fx x0 sc):∀y∈sc.names,y.2= .cell->y.1=x0:=λy hy e=>by
 obtain⟨pre,O,hn,h1,h2⟩:=S.one;rw[hn] at hy;rcases lh.mp hy with h | h
 ·exact gd e (h1 y h)
 ·rcases u5.mp h with h | h
  ·rw[h]
  ·exact gd e (h2 y h)
noncomputable def rZ (x0:u3):eA (u3×NameKind)->JC
 | []=>false
 | (x,k)::l=>if k= .cell then decide (x=x0)&&decide (∀y∈l,y.2≠.cell) else rZ x0 l
theorem o8 {x0:u3}:∀{l:eA (u3×NameKind)},rZ x0 l=true->∃pre O,l=pre++(x0,.cell)::O/\(∀y∈pre,y.2≠.cell)/\∀y∈O,y.2≠.cell
 | [],h=>by cases h
 | (x,k)::l,h=>by
   unfold rZ at h;by_cases hk:k= .cell
   ·rw[px hk,xn,KQ,KQ] at h;exact⟨[],l,by rw[hk,h.1];rfl,λy Y=>(by cases Y),h.2⟩
   ·rw[ko hk] at h;obtain⟨pre,O,e,h1,h2⟩:=o8 h;exact⟨(x,k)::pre,O,by rw[e];rfl,λy Y=>by rcases u5.mp Y with z | z;(rw[z];exact hk);exact h1 y z,h2⟩
noncomputable def wg (osc:Jq) (ON N:C') (n:Nat) (fx:D') (x0:u3) (υ:Jq):Bool:=
 decide (υ.kind= .function)&&rZ x0 υ.names&&decide (υ.names.lookup x0=aS .cell)&&decide (∀y∈υ.names,y.2= .local->υ.names.lookup y.1=aS .local)&&
 decide (∀y∈υ.names,y.2= .free->osc.names.lookup y.1=aS .cell∨osc.names.lookup y.1=aS .free)&&decide (n<=N.length)&&AH ON υ (N.drop n) fx
theorem gc.of {osc:Jq} {ON N:C'} {n:Nat} {fx:D'} {x0:u3} {sc:Jq} (h:wg osc ON N n fx x0 sc=true):gc osc ON N n fx x0 sc:=by
 simp only[wg,xn,KQ] at h;obtain⟨⟨⟨⟨⟨⟨h1,h2⟩,O⟩,Z⟩,Y⟩,θ⟩,δ⟩:=h;obtain⟨l,q⟩:=pO δ;refine⟨h1,o8 h2,O,Z,Y,?_,λk hk=>?_⟩
 ·rw[Kj] at l;omega
 ·obtain⟨x,j,a,b⟩:=q k hk;exact⟨x,j,by rw[La] at a;exact a,b⟩
noncomputable def iS (X:Cx) (N:C') (υ:Jq) (x0:u3) (O:J5) (C:eh) (fp:G') (s:eL) (H:Hp):Cx:={i5 X N υ ((x0,C + 1)::O) C fp s H with fn:=λx=>decide (x=x0)}
theorem iB {x0 x:u3} {c d:eh} {O:J5} (h:((x0,c)::O).lookup x=aS d):(x=x0/\d=c)∨(x≠x0/\O.lookup x=aS d):=by
 rw[KI] at h;by_cases e:x=x0
 ·subst e;simp only[JL] at h;exact .inl ⟨rfl,(iv h).symm⟩
 ·have hb:(x == x0)=false:=tz.mpr e;simp only[hb] at h;exact .inr ⟨e,h⟩
theorem Af {x0 x:u3} {c:eh} {O:J5} (e:x≠x0):((x0,c)::O).lookup x=O.lookup x:=by
 have hb:(x == x0)=false:=tz.mpr e;rw[KI];simp only[hb]
theorem vO {x0:u3} {c:eh} {O:J5}:((x0,c)::O).lookup x0=aS c:=by rw[KI];simp only[JL]
section
variable {X:Cx} {pins:DC} {σ:St} {H:Hp} {s:eL}
theorem A5 {x0:u3} {osc:Jq} {ON N:C'} {n:Nat} {fx:D'} {sc:Jq} {ι:J5} {fp:G'} {φ:u2} {tk:Nat}
  (ho:X.env.scope=osc) (hN:X.N=ON) (S:gc osc ON N n fx x0 sc)
  (ο:∀p∈ι,X.env.cells.lookup p.1=aS p.2) (α:∀y∈sc.names,y.2= .free->∃c,(y.1,c)∈ι)
  (I:Inv X pins σ H s) (hf:∀b∈fp,FpOk X pins H b) (ν:∀b∈fp,b < s.heap.objs.size)
  (υ:∃m,φ.Ns s.heap.objs.size m) (Y:∀b o,s.heap.get? b=aS o->φ.get? b=aS o) (η:φ.IsCell (s.heap.objs.size + 1) eC):
  Inv (iS X N sc x0 ι s.heap.objs.size fp s H) [] (cQ n fx σ) H {s with heap:=φ,toks:=tk}:=by
 have look:∀{x:u3} {c:eh},ι.lookup x=aS c->X.env.cells.lookup x=aS c:=λ{x c} e=>ο (x,c) (u9 e);have Z:∀{x:u3} {c:eh},ι.lookup x=aS c->c < s.heap.objs.size:=λ{x c} e=>let ⟨v,q⟩:=I.cell x c (look e);q.lt
 have ok:(iS X N sc x0 ι s.heap.objs.size fp s H).Ok:=by
  refine⟨I.ok.mod,S.kind,I.ok.glob,I.ok.blt,mu _,λx y c h1 h2=>?inj,λx hx=>?_,λx c ε γ=>?cab,I.ok.hd,I.ok.frames,.inl rfl,λb hb=>⟨v7 (ν b hb),λx c e=>?exf⟩,
   I.bs,Jx I.ok.bsz I.sz,λb o e hb=>?_,λb hb z=>?_,I.stack,I.stkFree⟩
  case inj=>
   rcases iB h1 with ⟨ε,γ⟩ | ⟨ε,γ⟩<;>rcases iB h2 with ⟨δ,ψ⟩ | ⟨δ,ψ⟩
   ·rw[ε,δ]
   ·have h:=Z ψ;rw[γ] at h;exact gd h (M9.mpr (KS _))
   ·have h:=Z γ;rw[ψ] at h;exact gd h (M9.mpr (KS _))
   ·exact I.ok.inj x y c (look γ) (look ψ)
  case cab=>
   have ε:x=x0:=Km ε;rcases iB γ with ⟨_,ψ⟩ | ⟨δ,_⟩
   ·rw[ψ];exact KS _
   ·exact gd ε δ
  case exf=>
   rcases iB e with ⟨_,ψ⟩ | ⟨δ,ψ⟩
   ·intro z;rw[ψ] at z;have h:=ν b hb;rw[<-z] at h;exact gd h (M9.mpr (KS _))
   ·exact(hf b hb).2.2.2.2.1 x c (look ψ)
  ·have χ:∃τ,(τ=Jz∨τ=z2)/\(sc.names.map λ(n,k)=>if (k == z2&&X.env.scope.kind == .function&&X.env.kindOf n == aS .cell) then (n,Jz) else (n,k)).lookup x=aS τ:=by
    rcases hx with hx | hx
    ·exact⟨_,.inl rfl,hx⟩
    ·exact⟨_,.inr rfl,hx⟩
   obtain⟨τ,hk,e⟩:=χ;obtain⟨k,hm,z⟩:=jf e;by_cases ζ:x=x0
   ·exact⟨_,by rw[ζ];exact vO⟩
   have kf:k= .free:=by
    rcases z with z | z
    ·subst z;rcases hk with q | q
     ·exact gd (S.cel _ hm q) ζ
     ·exact q
    ·exact z
   subst kf;obtain⟨c,hc⟩:=α _ hm rfl;obtain⟨c',a0⟩:=mf hc;exact⟨c',(Af ζ).trans a0⟩
  ·rcases(hf b hb).2.2.2.1 with z | z
   ·exact I.ok.noex b o e z
   ·exact gd (eF (fy (I.ok.bs b o e).1) z) (Kk _)
  ·rcases u5.mp (I.stkSub b z) with q | q
   ·exact(hf b hb).2.1 q
   ·exact(hf b hb).2.2.1 q
 obtain⟨m,υ⟩:=υ;refine⟨ok,rfl,I.bare,Un.kept Y,⟨m,υ,λi x v e1 e2 e3=>?_⟩,λx c e=>?_,I.hok.fresh (mu _),λx c e=>?frc,λp hp=>gd (show p∈([]:DC) from hp) @E,I.hok.kept Y,?_⟩
 case frc=>
  rcases iB e with ⟨_,ψ⟩ | ⟨δ,ψ⟩
  ·rw[ψ];exact I.hok.fresh (KS _)
  ·exact I.freeC x c (look ψ)
 ·obtain⟨k,j,rfl,hj,hv⟩:=kD e2;obtain⟨θ,O,a1,a2,a3,ρ⟩:=S.frn k (dt.mp hj).1;have ex:θ=x:=iv (a1.symm.trans e1);have ej:O=j:=iv (a2.symm.trans hj);subst ex;subst ej;obtain⟨m',_,hl⟩:=I.loc;have hk:X.env.scope.names.lookup θ=aS .cell∨X.env.scope.names.lookup θ=aS .free:=by rw[ho];exact S.fre _ (u9 ρ) rfl
  have β:Vis X.env.scope θ:=by rcases hk with z | z;exact .inr (.inl z);exact .inr (.inr z)
  obtain⟨u,r,q⟩:=hl O θ v (by rw[hN];exact a3) hv β;rcases q with ⟨z,_⟩ | ⟨_,c,ec,ic⟩
  ·have z':X.env.scope.names.lookup θ=aS .local:=z;rcases hk with q | q<;>(rw[q] at z';cases z')
  ·refine⟨u,r,.inr ⟨jT ρ,c,?_,ic.keeps Y⟩⟩;obtain⟨c0,ω⟩:=α _ (u9 ρ) rfl;obtain⟨ξ,π⟩:=mf ω;have:=look π;rw[ec] at this;cases this;exact(Af λz=>(by rw[z,S.its] at ρ;cases ρ)).trans π
 ·rcases iB e with ⟨_,ψ⟩ | ⟨δ,ψ⟩
  ·rw[ψ];exact⟨_,η⟩
  ·obtain⟨v,q⟩:=I.cell x c (look ψ);exact⟨v,q.keeps Y⟩
 ·show _=N.length;rw[rE,S.len]
theorem yA {x0:u3} {osc:Jq} {ON N:C'} {n:Nat} {fx:D'} {sc:Jq} {cl:J5} {d2 tg iter:x7} {c0:eA x7} {pos:Pos} {wi:TI} {g:TG} {tc:TT} {te:TE} {Q:VK} {RR:fC->eh->J2}
  (d1:X.calm=true) (ho:X.env.scope=osc) (hN:X.N=ON) (S:gc osc ON N n fx x0 sc)
  (b4:∀p∈cl,X.env.cells.lookup p.1=aS p.2) (e7:∀y∈sc.names,y.2= .free->∃c,(y.1,c)∈cl)
  (hi:PI X tg iter wi) (gk:vi n g) (hb:∀cl C fp s H,PG (iS X N sc x0 cl C fp s H) tg g/\PTs (iS X N sc x0 cl C fp s H) c0 tc/\PE (iS X N sc x0 cl C fp s H) d2 te)
  (I:Inv X pins σ H s) (h:xM n fx wi g tc te σ H Q)
  (η:∀D C H' s',Inv X pins σ H' s'->(∃m,s'.heap.Ns C m)->FpOk X pins H' C->Q (.ref D) H'->RR (.ref D) C (.ok .next) s'):
  gn (hL X.prog X.w) X.A (eval iter X.env) (λx s₁=>gn (hL X.prog X.w) X.A (pyIter x) (λit ξ=>gn (hL X.prog X.w) X.A (newList []) (λf0 s₃=>
   gn (hL X.prog X.w) X.A (newFunctionEnv sc X.env.globals cl [] X.env.qual eC .none (aS X.env)) (fun α s₄=>
    codeAny (hL X.prog X.w) X.A (.compStart (.ListComp d2 [⟨tg,iter,c0,0⟩] sc pos) 0 it f0 {α with scope:=relabel sc X.env}) (RR f0 α.locals) s₄) X.xe s₃) X.xe ξ) X.xe s₁) X.xe s:=by
 refine thn (hi pins s σ H _ I h) λv s1 h1=>thn h1 λg5 s2 h2=>?_;obtain⟨it,fp,ε,J,H2,e2,I2,T,e4,f2,hW⟩:=h2;subst e2;obtain⟨W,⟨m0,w0⟩,c1⟩:=hW s2.heap.objs.size I2.fresh;refine z5 ?_;have I3:Inv X pins σ (upd H2 s2.heap.objs.size (.lst [])) {s2 with heap:=s2.heap.push {cls:= .type "list",data:= .seq ([]:Dd).toArray}}:=I2.lnew (t':=s2.toks) (its:=[]) .nil (Ka _)
 have f3:∀b∈fp,FpOk X pins (upd H2 s2.heap.objs.size (.lst [])) b/\b < s2.heap.objs.size:=λb hb=>by
  obtain⟨o,e,_⟩:=T.obj _ _ e4 b hb;have l:=fy e;obtain⟨a1,a2⟩:=f2 b hb;exact⟨⟨by rw[aH (v7 l)];exact a1,a2⟩,l⟩
 have sz:({s2 with heap:=s2.heap.push {cls:= .type "list",data:= .seq ([]:Dd).toArray}}:eL).heap.objs.size=s2.heap.objs.size + 1:=z3 ..
 generalize ζ:({s2 with heap:=s2.heap.push {cls:= .type "list",data:= .seq ([]:Dd).toArray}}:eL)=s3 at I3 sz ⊢;generalize g6:upd H2 s2.heap.objs.size (.lst [])=H3 at I3 f3 w0;have e5:∀b o,s2.heap.get? b=aS o->s3.heap.get? b=aS o:=λb o e=>by rw[<-ζ];exact en _ e
 obtain⟨pre,g4,f7,f6,f5⟩:=S.one;refine FM f7 f6 f5 ?_;generalize c2:(s3.heap.push {cls:=JA "dict",data:=Q1 #[]}).push {cls:=JA "cell",data:=Mc eC}=h4;have Z:∀b o,s3.heap.get? b=aS o->h4.get? b=aS o:=λb o e=>by rw[<-c2];exact en _ (en _ e)
 have υ:h4.Ns s3.heap.objs.size λ_=>none:=by rw[<-c2];exact(Heap.Ns.new _ _).push _
 have c4:h4.IsCell (s3.heap.objs.size + 1) none:=by
  rw[<-c2];refine⟨{cls:=JA "cell",data:=Mc eC},?_,rfl⟩;have:=hG (s3.heap.push {cls:=JA "dict",data:=Q1 #[]}) (o:={cls:=JA "cell",data:=Mc eC}) (by rfl);rw[z3] at this;exact this
 have I4:=A5 (tk:=s3.toks) ho hN S b4 e7 I3 (λb hb=>(f3 b hb).1) (λb hb=>by rw[sz];exact K1 (f3 b hb).2) ⟨_,υ⟩ Z c4;have b3:=hb cl s3.heap.objs.size fp s3 H3;generalize hY:iS X N sc x0 cl s3.heap.objs.size fp s3 H3=Y at I4 b3
 have ν:∀{H':Hp},(∀b∈fp,H' b=eC)->∀b∈fp,FpOk Y [] H' b:=λ{H'} hn b hb=>by
  subst hY;obtain⟨⟨a1,a2,a3,a4,a5,a6⟩,l⟩:=f3 b hb;refine⟨hn b hb,v7 (show b < s3.heap.objs.size by rw[sz];exact K1 l),λz=>?_,.inl hb,λx c e=>?_,λp hp=>gd (show p∈([]:DC) from hp) @E⟩
  ·rcases u5.mp (I3.stkSub b z) with q | q
   ·exact a2 q
   ·exact a3 q
  ·rcases iB e with ⟨_,ψ⟩ | ⟨_,ψ⟩
   ·intro z;rw[ψ] at z;rw[<-z] at l;rw[sz] at l;exact gd l (M9.mpr (Ms (KS _)))
   ·exact a5 x c (b4 (x,c) (u9 ψ))
 have fin:∀{σ6:St} {H6:Hp} {s6:eL},Inv Y [] σ6 H6 s6->Q (.ref s2.heap.objs.size) H6->RR (.ref s2.heap.objs.size) s3.heap.objs.size (.ok .next) s6:=λ{σ6 H6 s6} I6 q=>by
  subst hY;refine η _ _ H6 s6 ?_ (let ⟨m,hm,_⟩:=I6.loc;⟨m,hm⟩) (I3.fpOk (mu _) I6.free) q;obtain⟨hh,gg,dd,tt,f4⟩:=s6;obtain rfl:f4=s3.os:=I6.os
  exact I3.call (h':=hh) (g':=gg) (d':=dd) (t':=tt) (ch:=fp) I6.base I6.hok I6.bare λb hb=>by
   obtain⟨⟨a1,a2,a3,a4,a5,a6⟩,l⟩:=f3 b hb;exact⟨a4,a2,a5,a6⟩
 have pY:Y.prog=X.prog:=by subst hY;rfl
 have wY:Y.w=X.w:=by subst hY;rfl
 have kY:Y.K=X.K:=by subst hY;rfl
 have χ:Y.A=X.A:=by subst hY;rfl
 have cY:Y.calm=true:=by subst hY;exact d1
 have φ:Y.env=compEnvC sc ((x0,s3.heap.objs.size + 1)::cl) s3.heap.objs.size X.env:=by subst hY;rfl
 have xY:Y.xe=λ_ _=>False:=by subst hY;rfl
 have T':Turn Y.prog Y.w Y.K tg J fp it ε:=by rw[pY,wY,kY];exact T
 have e0:ε 0 h4:=T.keep _ _ _ e4 λb hb o e=>Z b o (e5 b o e)
 have loop:codeAny (hL X.prog X.w) X.A (.compLoop (.ListComp d2 [⟨tg,iter,c0,0⟩] sc pos) 0 (.ref it) (.ref s2.heap.objs.size) (compEnvC sc ((x0,s3.heap.objs.size + 1)::cl) s3.heap.objs.size X.env)) (RR (.ref s2.heap.objs.size) s3.heap.objs.size)
   {s3 with heap:=h4}:=by
  rw[<-pY,<-wY,<-χ,<-φ];refine rD (λk s'=>∃i ys σ' H',Inv Y [] σ' H' s'/\σ'.drop n=(cQ n fx σ).drop n/\σ'.length=(cQ n fx σ).length/\ε i s'.heap/\(∀b∈fp,H' b=eC)/\W i k ys H') ?_ m0 ⟨0,[],_,H3,I4,rfl,rfl,e0,λb hb=>(f3 b hb).1.1,w0⟩;rintro k s5 ⟨i,ys,σ5,H5,I5,ed,el,e3,e9,w5⟩
  have I5:Inv Y [] (cQ n fx σ) H5 s5:=I5.weak el.symm λj v e=>by
   obtain⟨k',O,rfl,_,_⟩:=kD e;have q:=y' (λl=>l[k']?) ed;simp only[La] at q;rw[q];exact e
  rcases c1 i k ys H5 w5 with ⟨stop,q⟩ | ⟨go,N',θ,step⟩
  ·refine JW (T'.done Y rfl rfl rfl cY i [] s5 _ H5 (λ_ _=>False) I5 (ν e9) e3 stop) (λr s6 ⟨hr,I6⟩=>?_) λ_ _ z=>z;subst hr;exact fin I6 q
  ·rw[<-xY];refine thn (T'.item Y rfl rfl rfl cY i [] s5 _ H5 Y.xe I5 (ν e9) e3 go) λr s6 ⟨u,hr,h6⟩=>?_;subst hr;show gn _ _ _ _ _ _;refine thn h6 λ_ s7 ⟨x,H7,I7,r7,y7,b5,ι⟩=>?_;have ο:=I7.pinned (ν ι) (T.obj _ _ b5);refine thn (b3.1 _ s7 _ H7 x u _ ο r7 (gk _ _ _ _ _ (fun σ' H' q e l=>(⟨q,e,l⟩:_/\_/\_)) (step x H7 y7))) λ_ s8 ⟨τ,H8,ω,ρ,f9,f8⟩=>?_;refine thn (b3.2.1 _ s8 τ H8 _ ω ρ) λok s9 ⟨H9,I9,q9⟩=>?_
   have again:∀{a0:Hp} {γ:eL} {zs:eA V},Inv Y ([]++rh fp s7.heap) τ a0 γ->N' zs a0->
     ∃m,m < k/\∃i ys σ' H',Inv Y [] σ' H' γ/\σ'.drop n=(cQ n fx σ).drop n/\σ'.length=(cQ n fx σ).length/\ε i γ.heap/\(∀b∈fp,H' b=eC)/\W i m ys H':=λ{a0 γ zs} I10 b6=>by
    obtain⟨m',hm,δ⟩:=θ _ _ b6;refine⟨m',hm,i + 1,zs,τ,a0,I10.unpinned,f9,f8,T.keep _ _ _ b5 λb hb o e=>(I10.pin (b,o) (j' _ (j' _ (gT hb e)))).1,λb hb=>?_,δ⟩;obtain⟨o,e,d⟩:=T.obj _ _ b5 b hb;exact(I10.pin (b,o) (j' _ (j' _ (gT hb e)))).2.1
   cases ok with
   | false=>exact again I9 q9
   | true=>
     rw[px rfl];refine thn (b3.2.2 _ s9 τ H9 _ I9 q9) λy γ ⟨v',a0,I10,f1,e8,e6,b6⟩=>?_;refine thn (dZ (X:=Y) _ γ τ a0 (.ref s2.heap.objs.size) [v'] (.ref s2.heap.objs.size) [y] (λ_ H'=>H'=upd a0 s2.heap.objs.size (.lst (ys++[v']))) I10 rfl (.cons f1 .nil) ⟨_,ys,v',rfl,rfl,e8,e6,rfl⟩) λ_ β ⟨_,h0,π,_,g3⟩=>?_;subst g3;exact again π b6
 exact PP loop (T.self X.A 0 _ _ _ e0 loop)
theorem B0 {x0:u3} {i:Nat} {x:u3} {ξ:Pos} {γ:Pos} {osc:Jq} {ON N:C'} {n:Nat} {fx:D'} {sc:Jq} {Z tg iter:x7} {Y:eA x7} {pos:Pos} {ρ:TI} {g:TG} {tc:TT} {te:TE}
  (ο:X.N.Nodup) (hx:X.N[i]? =aS x) (hl:X.env.scope.names.lookup x=aS .local) (ζ:swapsWith (.ListComp Z [⟨tg,iter,Y,0⟩] sc pos) (aS (.Name x ξ)) γ.line X.env=pure true)
  (α:X.calm=true) (ho:X.env.scope=osc) (hN:X.N=ON) (S:wg osc ON N n fx x0 sc=true) (hi:PI X tg iter ρ) (gk:vi n g)
  (hb:∀ε C fp s H,PG (iS X N sc x0 ε C fp s H) tg g/\PTs (iS X N sc x0 ε C fp s H) Y tc/\PE (iS X N sc x0 ε C fp s H) Z te)
  (hs:∀x,foldedSetIterable iter X.env x=pure x:=by intro _;rfl):PS X (.Assign [.Name x ξ] (.ListComp Z [⟨tg,iter,Y,0⟩] sc pos) γ) (tAsg (xM n fx ρ g tc te) (yr i)):=by
 intro pins s σ H D I h;have S:=gc.of S;obtain⟨ε,ι,δ,β⟩:=nI sc X.env λy ω hf=>I.ok.has y.1 (by show X.env.scope.names.lookup y.1=aS .cell∨X.env.scope.names.lookup y.1=aS .free;rw[ho];exact S.fre y ω hf);rw[Q3 _ _ _ _ ζ];refine aY (NO (aY ?_));show gn _ X.A (do let _ <-comprehension (.ListComp Z [⟨tg,iter,Y,0⟩] sc pos) sc X.env _ (newList []) false (eval iter X.env) (aS (assign (.Name x ξ) X.env))) _ _ s
 refine aY (thn (MN (use:=aS (assign (.Name x ξ) X.env)) (Q:=λ_ s'=>SP X pins D .next s') rfl hs ι S.kind S.own
  (yA (RR:=fun π C=>compPost (hL X.prog X.w) X.A X.xe (aS (assign (.Name x ξ) X.env)) (λ_ s'=>SP X pins D .next s') π C) α ho hN S δ β hi gk hb I h ?_)) λ_ s' q=>eD (eD q))
 intro χ C H' s' I' hm hf q;obtain⟨m,hm⟩:=hm;obtain⟨η,φ,f2,f3,υ,f5⟩:=hf;show gn _ X.A (assign (.Name x ξ) X.env (.ref χ)) _ _ _;refine O5 (oJ I' ο hx (.inl hl) (v:= .ref χ) rfl (fun ψ I2 ν=>?_) (.inr hl));obtain⟨a,θ,ha⟩:=ν
 have τ:C≠a:=by
  rcases ha with z | z
  ·rw[z];exact φ
  ·exactλe=>υ _ _ z e.symm
 exact⟨m,hm.sameBut θ τ,λh' O=>⟨_,H',I2.turned (t':=ψ.toks) (λb o hb e=>(O.2 b hb).trans e) η φ f3 υ f5,q⟩⟩
noncomputable def BO (osc υ:Jq):Scope:={υ with names:=υ.names.map λ(n,k)=>if (k == z2&&osc.kind == .function&&osc.names.lookup n == aS .cell) then (n,Jz) else (n,k)}
theorem CU {osc:Jq} {N:C'} {sc:Jq} {x0:u3} {O:J5} {C:eh} {fp:G'} (h:X.env.scope=osc):(iS X N sc x0 O C fp s H).env.scope=BO osc sc:=by subst h;rfl
end
theorem BI {l b:eh} {xs zs:eA V} {H:Hp} {Q:VK} (e:H l=aS (.lst xs)) (O:H b=aS (.lst zs)) (hl:xs.length + zs.length<=hH) (n:l≠b) (h:∀H2,Upd H H2 l (.lst (xs++zs))->Q .non H2):zQ (.ref l) [.ref b] H Q:=by
 first
 | exact⟨l,b,xs,zs,rfl,rfl,e,O,hl,h _ Upd.of⟩
 | exact⟨l,b,xs,zs,rfl,rfl,e,O,hl,n,h _ Upd.of⟩
section
variable {X:Cx}
def Bn (Q:VK) (x:V) (H1:Hp):Prop:=∃n:Nat,x= .int (n:Int)/\n<=1000/\∀(D:eh) (O:Hp),H1 D=eC->Same H1 O->O D=aS (.lst ((hE n).map λk:Nat=>V.int (k:Int)))->Q (.ref D) O
noncomputable def Gd (t:TE):TE:=fun σ H Q=>t σ H (Bn Q)
theorem GF {t:TE} {σ:St} {H:Hp} {Q:VK} (h:t σ H (Bn Q)):Gd t σ H Q:=h
theorem y4:∀{xs:eA V} {us:Dd},xs.length=us.length->(∀(i:Nat) x u,xs[i]? =aS x->us[i]? =aS u->RelV x u)->Vals xs us
 | [],[],_,_=> .nil
 | x::xs,u::us,hl,h=> .cons (h 0 x u rfl rfl) (y4 (by simpa using hl) λi y v O Y=>h (i + 1) y v (by simpa using O) (by simpa using Y))
 | [],_::_,hl,_=>by simp at hl
 | _::_,[],hl,_=>by simp at hl
theorem tX {e:x7} {t:TE} {p1 p2 Z ε:Pos} (hc:X.calm=true) (g1:Gl X "list") (g2:Gl X "range") (n1:X.mg "list"=eC) (Y:X.mg "range"=eC) (he:PE X e t)
  (h1:lx [OF (.Name "range" p1) [e] [] p2] X.env=[(false,eval (.Call (.Name "range" p1) [e] [] p2) X.env)]:=by rfl) (h2:lx [e] X.env=[(false,eval e X.env)]:=by rfl):
  PE X (.Call (.Name "list" Z) [.Call (.Name "range" p1) [e] [] p2] [] ε) (Gd t):=by
 intro pins s σ H Q I h;refine OY (iC I g1 n1 u1 (wh (Q:=EP X pins σ Q) ?_ h1 rfl));rw[h1];show gn _ _ (spliced ((false,eval (.Call (.Name "range" p1) [e] [] p2) X.env)::backTo ε [])) _ _ s;refine Lx ?_;refine OY (iC I g2 Y QB (wh (thn (aa he af h2 p2 pins s σ H (λvs H1=>match vs with | [x]=>Bn Q x H1 | _=>False) I h) λus O ⟨vs,H1,I1,γ,Z⟩=>?_) h2 rfl))
 match vs,γ,Z with
 | [x],γ,Z=>
 obtain⟨n,rfl,hn,q⟩:=Z;cases γ with
 | cons r π=>
 cases π;obtain⟨t',rfl⟩:=r;refine PJ ?_;refine LI ?_;refine call_list_range (n:=n) (I1.ok.hd hc) (OK ..) (small_one @A @A @A @A) (by rw[Pk];split<;>omega) @A λh' tk β c hk τ α=>?_;have δ:∀b o,O.heap.get? b=aS o->h'.get? b=aS o:=λb o e=>hk b o (en _ e);have I2:Inv X pins σ H1 {O with heap:=h',toks:=tk}:=I1.kept (t':=tk) δ;obtain⟨D,ζ⟩:∃D,D=(O.heap.push {cls:= .type "range",data:= .fields #[.int 0 O.toks,.int (n:Int) t',.int 1 (O.toks + 1)]}).objs.size:=⟨_,rfl⟩;have η:O.heap.objs.size<=D:=by rw[ζ,z3];exact KS _
 have ν:H1 D=none:=I1.hok.fresh η;have ψ:O.heap.get? D=none:=Kg η
 have ρ:Vals ((hE n).map λk:Nat=>V.int (k:Int)) β.toList:=by
  obtain⟨ι,θ⟩:=α;refine y4 (by rw[eB,q7];simpa using ι.symm) λi x u ξ hu=>?_;rw[f',JN] at ξ
  ·cases ξ;obtain⟨ο,υ⟩:=θ i u (by simpa using hu);refine⟨ο,?_⟩;rw[υ];congr 1;omega
  ·have:=(dt.mp hu).1;simp at this;omega
 have φ:Inv X pins σ (upd H1 D (.lst ((hE n).map λk:Nat=>V.int (k:Int)))) {O with heap:=h',toks:=tk}:=I2.track (I1.fpN ψ ν) ⟨by rw[eB,q7,kv];omega,β.toList,c,ρ,by rw[ζ];exact τ⟩;refine⟨.ref D,_,φ,by rw[ζ];rfl,q D _ ν (λb ob e=>?_) aQ⟩;rw[aH (ar e ν)];exact e
end
section
variable {σ:St} {H:Hp} {D:Ends} {t u:TS}
theorem Gz (h:∀R:St->Hp->Prop,(∀σ H,u D σ H->R σ H)->t {D with nx:=R} σ H):tSeq t u D σ H:=h _ λ_ _ q=>q
theorem s_go {R X:St->Hp->Prop} (e:∀σ H,X σ H->R σ H) (h:X σ H):R σ H:=e _ _ h
end
end L2
namespace ST
open PySem PySem.SetTable
theorem sS (l:D') (hp:l.Pairwise (· < ·)) (j:Nat):∀(f lo hi:Nat),hi<=lo + f->lo<=hi->hi<=l.length->(∀k (h:k < l.length),k < lo->l[k] < j)->(∀k (h:k < l.length),hi<=k->j<=l[k])->
  below.go l.toArray j f lo hi<=l.length/\(∀k (h:k < l.length),k < below.go l.toArray j f lo hi->l[k] < j)/\(∀k (h:k < l.length),below.go l.toArray j f lo hi<=k->j<=l[k])
 | 0,lo,hi,h1,h2,α,Y,θ=>⟨by show lo<=_;omega,λk h hk=>Y k h hk,λk h hk=>θ k h (by have:lo<=k:=hk;omega)⟩
 | f + 1,lo,hi,h1,h2,α,Y,θ=>by
   unfold below.go;by_cases h:lo < hi
   ·rw[px h];dsimp only;have hm:(lo + hi) / 2 < l.length:=by omega
    have e:l.toArray.getD ((lo + hi) / 2) j=l[(lo + hi) / 2]:=by simp[N9,hm]
    rw[e];have pw:=zt.mp hp;by_cases O:l[(lo + hi) / 2] < j
    ·rw[px O];refine sS l hp j f _ hi @A @A α (λk hk β=>?_) θ;by_cases δ:k=(lo + hi) / 2
     ·subst δ;exact O
     ·exact ME (pw k _ hk hm @A) O
    ·rw[ko O];refine sS l hp j f lo _ @A @A @A Y (λk hk Z=>?_);by_cases δ:k=(lo + hi) / 2
     ·subst δ;omega
     ·have:=pw _ k hm hk @A;omega
   ·rw[ko h];exact⟨@A,Y,λk hk Z=>θ k hk @A⟩
theorem kG {xs:JZ Nat} (hp:xs.toList.Pairwise (· < ·)) (j:Nat):
  below xs j<=xs.toList.length/\(∀k (h:k < xs.toList.length),k < below xs j->xs.toList[k] < j)/\(∀k (h:k < xs.toList.length),below xs j<=k->j<=xs.toList[k]):=by
 have:=sS xs.toList hp j xs.size 0 xs.size @A (Ka _) @E (λk h hk=>gd hk (M6 k)) (λk h hk=>gd h (by simp;omega));simpa[below] using this
theorem za {xs:JZ Nat} (hp:xs.toList.Pairwise (· < ·)) (j:Nat):∀y∈xs.toList.take (below xs j),y < j:=λy O=>by
 obtain⟨k,hk,rfl⟩:=JE.mp O;rw[x4] at hk;rw[LQ];exact(kG hp j).2.1 k @A @A
theorem AU {xs:JZ Nat} (hp:xs.toList.Pairwise (· < ·)) (j:Nat):∀y∈xs.toList.drop (below xs j),j<=y:=λy O=>by
 obtain⟨k,hk,rfl⟩:=JE.mp O;rw[Kj] at hk;rw[List.getElem_drop];exact(kG hp j).2.2 _ @A @A
theorem BY {xs:JZ Nat} (hp:xs.toList.Pairwise (· < ·)) {j:Nat} (hj:j∉xs.toList):(insertAt xs (below xs j) j).toList.Pairwise (· < ·):=by
 rw[toList_insertAt,MW];refine⟨hp.sublist (Nx ..),L9.mpr ⟨λy hy=>?_,hp.sublist (List.drop_sublist ..)⟩,λx O y hy=>?_⟩
 ·have h1:=AU hp j y hy;have h2:y≠j:=λh=>hj (h ▸ MX hy);omega
 ·rcases u5.mp hy with rfl | hy
  ·exact za hp _ x O
  ·have h1:=za hp j x O;have h2:=AU hp j y hy;omega
theorem yC {xs:JZ Nat} (hp:xs.toList.Pairwise (· < ·)) {i:Nat} (hi:i < xs.toList.length) {j:Nat} (h1:j<=xs.toList[i]) (h2:∀k (h:k < xs.toList.length),k < i->xs.toList[k] < j):below xs j=i:=by
 have s:=kG hp j;by_cases h:below xs j < i
 ·have:=s.2.2 (below xs j) @A (mu _);have:=h2 (below xs j) @A h;omega
 ·by_cases h':i < below xs j
  ·have:=s.2.1 i hi h';omega
  ·omega
structure Tb (t:SetTable) (hs:I8):Prop where
 dm:t.dummies=#[]
 pn:t.plain=true
 rs:t.place.toList.Pairwise (· < ·)
 sz:t.place.toList.length=hs.length
 nf:hs.length * 5 < t.mask * 3
 k:(t.mask=7/\∀j∈t.place.toList,j<=7)∨((t.mask=31∨t.mask=127)/\t.place.toList.map (λn:Nat=>(n:Int))=hs)
theorem xq (j:Nat):has #[] j=false:=by unfold has;simp
theorem zr {t:SetTable} (hd:t.dummies=#[]) {j:Nat} (hj:j∉t.place.toList):t.slot j= .empty:=by
 unfold slot;dsimp only;rw[ko,hd,xq,ko @C];intro h;have h:t.place[below t.place j]? =aS j:=by simpa using h
 exact hj (by rw[<-z1] at h;exact eO h)
noncomputable def t8 (p:D'):SetTable:={mask:=7,place:=p.toArray,dummies:=#[],finger:=0,led:=true,moves:=0,plain:=true}
noncomputable def p8 (b:Nat):D':=(hE 8).filter b.testBit
noncomputable def ok8 (b h:Nat):Bool:=if (p8 b).length<=4 then (match (t8 (p8 b)).freeSlot h with | some (j,false)=>decide (j<=7)&& !(p8 b).contains j | _=>false) else true
theorem all8:∀b:Fin 256,∀h:Fin 32,ok8 b.1 h.1=true:=by decide +kernel
theorem FA {t t':SetTable} (hm:t.mask=t'.mask) (hp:t.place=t'.place) (hd:t.dummies=t'.dummies) (f:Nat->Int) (h:Int):∀n p,probe.go t f h n p=probe.go t' f h n p:=by
 obtain⟨m,p0,d,η,ζ,α,Z⟩:=t;obtain⟨ε,δ,d',γ,β,Y,O⟩:=t';dsimp only at hm hp hd;subst hm hp hd;intro n
 induction n with
 | zero=>intro p;rfl
 | succ n ih=>
   intro p;unfold probe.go;simp only[ih];rfl
theorem AI {t t':SetTable} (hm:t.mask=t'.mask) (hp:t.place=t'.place) (hd:t.dummies=t'.dummies) (h:Int):t.freeSlot h=t'.freeSlot h:=by
 unfold P7 probe;rw[FA hm hp hd,hm];have:t.probeStart h=t'.probeStart h:=by unfold probeStart;rw[hm]
 rw[this]
noncomputable def bm:D'->Nat
 | []=>0
 | j::l=>2 ^ j||| bm l
theorem DW (k:Nat):∀l:D',(bm l).testBit k=decide (k∈l)
 | []=>by unfold bm;simp
 | j::l=>by
   unfold bm;rw[Ml,DW k l,sg,Lw,Bool.or_eq_true,Ki,Ki,Ki,u5];exact⟨λh=>h.imp Eq.symm id,λh=>h.imp Eq.symm id⟩
theorem HL:∀{l:D'},(∀j∈l,j<=7)->bm l < 2 ^ 8
 | [],_=>by decide
 | j::l,h=>NG (rn @C (by have:=h j oi;omega)) (HL λk hk=>h k (ov _ hk))
theorem zI:∀{l O:D'},l.Pairwise (· < ·)->O.Pairwise (· < ·)->(∀x,x∈l↔x∈O)->l=O
 | [],[],_,_,_=>rfl
 | [],y::O,_,_,h=>gd ((h y).mpr oi) @E
 | x::l,[],_,_,h=>gd ((h x).mp oi) @E
 | x::l,y::O,pa,pb,h=>by
   obtain⟨a,p⟩:=L9.mp pa;obtain⟨Y,Z⟩:=L9.mp pb;clear pa pb
   have e:x=y:=by
    rcases u5.mp ((h x).mp oi) with e | m
    ·exact e
    ·rcases u5.mp ((h y).mpr oi) with e | m'
     ·exact e.symm
     ·have:=Y x m;have:=a y m';omega
   subst e;refine y' (x::·) (zI p Z λz=>⟨λm=>?_,λm=>?_⟩)
   ·rcases u5.mp ((h z).mp (ov _ m)) with e | m'
    ·have:=a z m;omega
    ·exact m'
   ·rcases u5.mp ((h z).mpr (ov _ m)) with e | m'
    ·have:=Y z m;omega
    ·exact m'
theorem IR {l:D'} (hp:l.Pairwise (· < ·)) (h:∀j∈l,j<=7):p8 (bm l)=l:=by
 refine zI (O1 _ MI) hp λx=>?_;unfold p8;rw[Mm,DW,Ki,Ju];exact⟨λz=>z.2,λz=>⟨by have:=h x z;omega,z⟩⟩
theorem Jd {t:SetTable} (hm:t.mask=7) (hd:t.dummies=#[]) (hp:t.place.toList.Pairwise (· < ·)) (hl:∀j∈t.place.toList,j<=7) (Y:t.place.toList.length<=4) {h:Nat} (ζ:h < 32):
  ∃j,t.freeSlot (h:Int)=aS (j,false)/\j<=7/\j∉t.place.toList:=by
 have e:t.freeSlot (h:Int)=(t8 t.place.toList).freeSlot (h:Int):=AI hm (by unfold t8;simp) hd _;have a:=all8 ⟨bm t.place.toList,HL hl⟩ ⟨h,ζ⟩;dsimp only at a;unfold ok8 at a;rw[IR hp hl,px Y,<-e] at a;cases hf:t.freeSlot (h:Int) with
 | none=>rw[hf] at a;cases a
 | some q=>
   obtain⟨j,d⟩:=q;rw[hf] at a;cases d with
   | true=>cases a
   | false=>
     dsimp only at a;rw[xn,Ki] at a;exact⟨j,rfl,a.1,λO=>by simp[O] at a⟩
theorem xC {h:Nat} (ζ:h < 32):bits (h:Int)=h:=by
 unfold bits;rw[Int.emod_eq_of_lt @A (by norm_cast;exact eF ζ @C)];rfl
theorem Jc {t:SetTable} {h:Nat} (hm:31<=t.mask) (hd:t.dummies=#[]) (ζ:h < 32) (hj:h∉t.place.toList):t.freeSlot (h:Int)=aS (h,false):=by
 have hb:bits (h:Int) % (t.mask + 1)=h:=by rw[xC ζ];exact Qg @A
 unfold P7 probe probeStart;rw[hb];have:10 * turns t.mask=(10 * turns t.mask - 1) + 1:=by unfold turns;omega
 rw[this];unfold probe.go;rw[zr hd hj];rfl
structure Ow (M:Nat) (owner:JZ (nk Nat)) (pre:I8):Prop where
 sz:owner.size=M + 1
 at':∀j,j<=M->owner.getD j eC=pre.findIdx? (· == (j:Int))
def Sm (hs:I8):Prop:=∀h∈hs,∃n:Nat,h=(n:Int)/\n < 32
theorem FJ {M:Nat} {owner:JZ (nk Nat)} {i:Nat} (hs:owner.size=M + 1) (hi:i<=M) (h:owner.getD i eC=eC) (n p:Nat):layClean.free M owner (n + 1) i p=aS i:=by
 unfold layClean.free;obtain⟨m,hm⟩:∃m,runEnd M i + 1 - i=m + 1:=⟨runEnd M i - i,by unfold runEnd;split<;>omega⟩;rw[hm,OT,List.find?_cons_of_pos]
 ·rfl
 ·show(owner.getD (i + 0) (aS 0)).isNone=true;have e:owner.getD i (aS 0)=owner.getD i none:=by simp[N9,show i < owner.size by omega]
  rw[NM,e,h];rfl
theorem AK {M:Nat} (ζ:31<=M) {f:nk (JZ (nk Nat)×Nat)->Int->nk (JZ (nk Nat)×Nat)} (hf:∀owner k h j,layClean.free M owner (turns M) (bits h % (M + 1)) (bits h)=aS j->f (aS (owner,k)) h=aS (owner.setIfInBounds j (aS k),k + 1)):
  ∀(hs pre:I8) (owner:JZ (nk Nat)),Ow M owner pre->Sm hs->(pre++hs).Nodup->∃β,hs.foldl f (aS (owner,pre.length))=aS (β,pre.length + hs.length)/\Ow M β (pre++hs)
 | [],pre,owner,o,_,_=>⟨owner,rfl,by rw[LF];exact o⟩
 | h::hs,pre,owner,o,sm,nd=>by
   obtain⟨n,rfl,hn⟩:=sm h oi
   have α:(n:Int)∉pre:=by
    rw[Ln] at nd;exactλhp=>nd.2.2 _ hp _ oi rfl
   have hb:bits (n:Int) % (M + 1)=n:=by rw[xC hn];exact Qg @A
   have O:owner.getD n eC=none:=by
    rw[o.at' n @A,Oq]
    exactλx Z=>by
     rw[tz];exactλe=>α (e ▸ Z)
   have γ:layClean.free M owner (turns M) (bits (n:Int) % (M + 1)) (bits (n:Int))=aS n:=by
    rw[hb];exact FJ o.sz @A O _ _
   have o':Ow M (owner.setIfInBounds n (aS pre.length)) (pre++[(n:Int)]):=by
    refine⟨by rw[Array.size_setIfInBounds,o.sz],λj ε=>?_⟩;rw[List.findIdx?_append,<-o.at' j ε];have τ:j < owner.size:=by rw[o.sz];omega
    by_cases e:n=j
    ·subst e;rw[O];simp[N9,τ]
    ·have δ:¬((n:Int) == (j:Int))=true:=by rw[L8];omega
     simp[N9,τ,e,List.findIdx?_cons,Array.getElem_setIfInBounds];cases owner[j]<;>simp<;>omega
   obtain⟨Y,δ,o2⟩:=AK ζ hf hs (pre++[(n:Int)]) _ o' (λx Z=>sm x (ov _ Z)) (by rw[Lq];exact nd);refine⟨Y,?_,by rw[Lq] at o2;exact o2⟩;rw[Qn,hf _ _ _ _ γ,show pre.length + 1=(pre++[(n:Int)]).length by simp,δ];simp;omega
theorem CY {M:Nat} (Z:31<=M) {hs:JZ Int} (sm:Sm hs.toList) (nd:hs.toList.Nodup):∃owner,layClean M hs=aS owner/\Ow M owner hs.toList:=by
 unfold layClean;rw[<-Array.foldl_toList]
 obtain⟨o',e,o⟩:=AK Z (f:=λO h=>do
  let (owner,k) <-O
  let j <-layClean.free M owner (turns M) (bits h % (M + 1)) (bits h)
  pure (owner.setIfInBounds j (aS k),k + 1)) (λowner k h j e=>by
   show(layClean.free M owner (turns M) (bits h % (M + 1)) (bits h)).bind _=_;rw[e];rfl) hs.toList [] (Q8 (M + 1) eC) ⟨Array.size_replicate,λj Y=>by simp[N9,Nat.lt_succ_of_le Y]⟩ sm (by simpa using nd)
 refine⟨o',?_,by simpa using o⟩
 have θ:hs.toList.foldl (λO h=>do
  let (owner,k) <-O
  let j <-layClean.free M owner (turns M) (bits h % (M + 1)) (bits h)
  pure (owner.setIfInBounds j (aS k),k + 1)) (aS (Q8 (M + 1) eC,0))=aS (o',0 + hs.toList.length):=e
 rw[θ];rfl
noncomputable def liv (M:Nat) (hs:I8):A':=(hE (M + 1)).filterMap λ(j:Nat)=>(hs.findIdx? λx=>x == (j:Int)).map λk=>(j,k)
theorem xu {α β:Type} {f g:α->nk β}:∀{l:eA α},(∀x∈l,f x=g x)->l.filterMap f=l.filterMap g
 | [],_=>rfl
 | x::l,h=>by rw[Lj,Lj,h x oi,xu λy O=>h y (ov _ O)]
theorem pD {M:Nat} {hs:I8} {q:Nat×Nat}:q∈liv M hs↔q.1<=M/\hs.findIdx? (· == (q.1:Int))=aS q.2:=by
 unfold liv;rw[Ng];constructor
 ·rintro⟨j,O,e⟩;obtain⟨k,hk,rfl⟩:=K7.mp e;exact⟨by have:=Ju.mp O;show j<=M;omega,hk⟩
 ·rintro⟨h,e⟩;exact⟨q.1,Ju.mpr @A,by rw[e];rfl⟩
theorem CB {hs:I8} {j k:Nat} (h:hs.findIdx? (· == (j:Int))=aS k):hs[k]? =aS (j:Int):=by
 obtain⟨hk,e,_⟩:=Nr.mp h;rw[b' hk];exact y' aS (by simpa using e)
theorem Jg {hs:I8} (nd:hs.Nodup) {j k:Nat} (h:hs[k]? =aS (j:Int)):hs.findIdx? (· == (j:Int))=aS k:=by
 obtain⟨hk,e⟩:=dt.mp h;rw[Nr];refine⟨hk,by simp[e],λi hi=>?_⟩;have:=zt.mp nd i k @A hk hi;simp only[L8,Bool.not_eq_true];simpa[e] using this
theorem xj (M:Nat) (hs:I8):(liv M hs).Pairwise (λa b=>a.1 < b.1):=by
 unfold liv;rw[List.pairwise_filterMap];refine Of ?_ MI;intro a b O p hp q Y;obtain⟨_,_,rfl⟩:=K7.mp hp;obtain⟨_,_,rfl⟩:=K7.mp Y;exact O
theorem Cd {M:Nat} (Z:31<=M) {hs:I8} (sm:Sm hs) (nd:hs.Nodup):((liv M hs).map (·.2)).Perm (hE hs.length):=by
 rw[List.perm_ext_iff_of_nodup _ Q6]
 ·intro k;rw[w2,Ju];constructor
  ·rintro⟨q,O,rfl⟩;exact(dt.mp (CB (pD.mp O).2)).1
  ·intro hk;obtain⟨n,e,hn⟩:=sm _ (KZ hk);exact⟨(n,k),pD.mpr ⟨by show n<=M;omega,Jg nd (by rw[b' hk,e])⟩,rfl⟩
 ·rw[q3,Md];refine List.Pairwise.imp_of_mem ?_ (xj M hs);intro a b ha hb Y e;have h1:=CB (pD.mp ha).2;have h2:=CB (pD.mp hb).2;rw[e,h2] at h1;have:=iv h1;omega
theorem w9 {α:Type} {es:JZ (Int×α)}:∀{L:A'},(∀q∈L,(es.toList.map (·.1))[q.2]? =aS (q.1:Int))->((L.map (·.2)).filterMap (es[·]?)).map (·.1)=(L.map (·.1)).map (λn:Nat=>(n:Int))
 | [],_=>rfl
 | q::L,h=>by
   have O:=h q oi;rw[f',z1] at O;obtain⟨e,he,e1⟩:=K7.mp O;rw[z0,List.filterMap_cons_some he,z0,z0,z0,e1,w9 λq O=>h q (ov _ O)]
theorem wW {t:SetTable} {es:JZ (Int×fC)} {O M:Nat} (hw:sizeAbove O - 1=M) (ζ:M=31∨M=127) (pn:t.plain=true) (sm:Sm (es.toList.map (·.1))) (nd:(es.toList.map (·.1)).Nodup) (nf:es.toList.length * 5 < M * 3):
  Tb (relayAll t es O).2.1 ((relayAll t es O).1.toList.map (·.1))/\(relayAll t es O).2.1.led=t.led:=by
 have χ:31<=M:=by omega
 have α:(es.map (·.1)).toList=es.toList.map (·.1):=Array.toList_map;obtain⟨owner,ε,o⟩:=CY χ (hs:=es.map (·.1)) (by rw[α];exact sm) (by rw[α];exact nd);rw[α] at o;generalize φ:es.toList.map (·.1)=hs at *
 have lhs:hs.length=es.size:=by rw[<-φ,eB,eY]
 have hl:(hE (M + 1)).filterMap (λj=>(owner.getD j eC).map (j,·))=liv M hs:=by
  unfold liv;refine xu λj δ=>?_;rw[o.at' j (by have:=Ju.mp δ;omega)]
 have β:t.relaid (es.map (·.1)) O=aS ({mask:=M,place:=((liv M hs).map (·.1)).toArray,dummies:=#[],finger:=t.finger,led:=t.led,moves:=t.movedTo M,plain:=t.plain},((liv M hs).map (·.2)).toArray):=by
  unfold relaid laid;rw[hw,ε];show aS _=aS _;rw[hl]
 have hp:=Cd χ sm nd;have ll:(liv M hs).length=es.size:=by rw[<-eB (·.2),hp.length_eq,q7,lhs]
 have υ:=w9 (es:=es) (L:=liv M hs) λq γ=>by rw[φ];exact CB (pD.mp γ).2
 have Y:(((liv M hs).map (·.2)).filterMap (es[·]?)).length=es.size:=by
  have:=y' Mo υ;rw[eB,eB,eB,ll] at this;exact this
 have hsz:(((liv M hs).map (·.2)).toArray.filterMap (es[·]?)).size=es.size:=by
  rw[<-eY (xs:=((liv M hs).map (·.2)).toArray.filterMap (es[·]?)),LK];exact Y
 have Z:coversAll ((liv M hs).map (·.2)).toArray es.size=true:=by
  unfold coversAll;rw[<-lhs];exact List.isPerm_iff.mpr hp
 have hR:relayAll t es O=((((liv M hs).map (·.2)).toArray.filterMap (es[·]?)),{mask:=M,place:=((liv M hs).map (·.1)).toArray,dummies:=#[],finger:=t.finger,led:=t.led,moves:=t.movedTo M,plain:=t.plain},false):=by
  unfold relayAll;rw[β];dsimp only;rw[px];rw[Z,Kb,hsz];unfold PQ fill;simp only[q6,eB,ll,xn,L8,Ki];refine⟨trivial,?_⟩
  ·rw[eY] at nf;show es.size + 0<=M;omega
 rw[hR];refine⟨⟨rfl,pn,?_,?_,?_,.inr ⟨ζ,?_⟩⟩,rfl⟩
 ·show((liv M hs).map (·.1)).Pairwise (· < ·);rw[Md];exact xj M hs
 ·show((liv M hs).map (·.1)).length=_;rw[LK,eB,eB,Y,ll]
 ·show _ * 5 < M * 3;rw[LK,eB,Y];rw[eY] at nf;exact nf
 ·show((liv M hs).map (·.1)).map _=_;rw[LK,υ]
theorem few {hs:I8} (sm:Sm hs) (nd:hs.Nodup):hs.length<=32:=by
 have:hs ⊆ (hE 32).map (λn:Nat=>(n:Int)):=λh ζ=>by
  obtain⟨n,rfl,hn⟩:=sm h ζ;exact w2.mpr ⟨n,Ju.mpr hn,rfl⟩
 have:=List.Nodup.length_le_of_subset nd this;simpa using this
theorem HQ {t:SetTable} {es:JZ (Int×fC)} {h:Nat} {x:fC} (tb:Tb t (es.toList.map (·.1))) (sm:Sm (es.toList.map (·.1))) (nd:(es.toList.map (·.1)).Nodup) (hn:h < 32) (γ:(h:Int)∉es.toList.map (·.1)):
  (layNew t es h x).2.2.1=false/\
  ((layNew t es h x).2.1.tooFull=false->Tb (layNew t es h x).2.1 ((layNew t es h x).1.toList.map (·.1)))/\
  ((layNew t es h x).2.1.tooFull=true->Tb (relayAll (layNew t es h x).2.1 (layNew t es h x).1 (grown (layNew t es h x).1.size)).2.1 ((relayAll (layNew t es h x).2.1 (layNew t es h x).1 (grown (layNew t es h x).1.size)).1.toList.map (·.1))):=by
 obtain⟨dm,pn,rs,sz,nf,k⟩:=tb;have ξ:(es.toList.map (·.1)).length=es.size:=by rw[eB,eY]
 rw[ξ] at sz nf;have hp:=Qa t es h x
 obtain⟨j,hf,π,hk⟩:∃j,t.freeSlot (h:Int)=aS (j,false)/\j∉t.place.toList/\((t.mask=7/\j<=7/\∀j∈t.place.toList,j<=7)∨((t.mask=31∨t.mask=127)/\j=h/\t.place.toList.map (λn:Nat=>(n:Int))=es.toList.map (·.1))):=by
  rcases k with ⟨α,hl⟩ | ⟨mB,η⟩
  ·obtain⟨j,a,b,c⟩:=Jd α dm rs hl @A hn;exact⟨j,a,c,.inl ⟨α,b,hl⟩⟩
  ·have:h∉t.place.toList:=fun ζ=>γ (by rw[<-η];exact w2.mpr ⟨h,ζ,rfl⟩);exact⟨h,Jc @A dm hn this,this,.inr ⟨mB,rfl,η⟩⟩
 clear k
 have Z:(insertAt t.place (below t.place j) j).size=es.size + 1:=by
  rw[<-eY,(insertAt_perm _ _ _).length_eq,eY,M0,<-sz,eY]
 have O:(insertAt es (below t.place j) ((h:Int),x)).size=es.size + 1:=by
  rw[<-eY,(insertAt_perm _ _ _).length_eq,eY,M0]
 have ρ:layNew t es h x=(insertAt es (below t.place j) ((h:Int),x),{t with place:=insertAt t.place (below t.place j) j},false,false):=by
  unfold layNew;rw[hf];dsimp only[Q4];rw[dm,xq,ko @C]
  have δ:({t with place:=insertAt t.place (below t.place j) j,dummies:=#[]}:SetTable).fits (insertAt es (below t.place j) ((h:Int),x)).size=true:=by
   unfold PQ fill;simp only[Z,O,xn,L8,Ki];refine⟨trivial,?_⟩;show es.size + 1 + 0<=t.mask;omega
  unfold OR;rw[δ,px rfl];obtain⟨m,p0,d,φ,τ,ν,ι⟩:=t;dsimp only at dm;subst dm;rfl
 rw[ρ] at hp ⊢
 have ω:Sm ((insertAt es (below t.place j) ((h:Int),x)).toList.map (·.1))/\((insertAt es (below t.place j) ((h:Int),x)).toList.map (·.1)).Nodup:=by
  have Y:=hp.map (·.1);rw[LJ,hF] at Y;refine⟨λy hy=>?_,Y.nodup_iff.mpr ?_⟩
  ·rcases lh.mp (Y.mem_iff.mp hy) with hy | hy
   ·exact sm y hy
   ·rw[z0,Oh,fk] at hy;exact⟨h,hy,hn⟩
  ·rw[Ln];refine⟨nd,@E,λa ha b hb=>?_⟩;rw[z0,Oh,fk] at hb;rw[hb];intro e;have e:a=(h:Int):=e;rw[e] at ha;exact γ ha
 dsimp only
 have β:({t with place:=insertAt t.place (below t.place j) j}:SetTable).tooFull=decide ((es.size + 1) * 5≥t.mask * 3):=by
  unfold tooFull fill;rw[Z,dm];rfl
 refine⟨rfl,fun υ=>⟨dm,pn,BY rs π,?_,?_,?_⟩,fun ψ=>?_⟩
 ·rw[eB,eY,eY,O];exact Z
 ·rw[β,Pt] at υ;rw[eB,eY,O];show _ < t.mask * 3;omega
 ·rcases hk with ⟨α,ο,hl⟩ | ⟨mB,rfl,η⟩
  ·refine .inl ⟨α,λy hy=>?_⟩;rcases lh.mp ((LJ (xs:=t.place) (x:=j)) ▸ (insertAt_perm _ _ _).mem_iff.mp hy) with hy | hy
   ·exact hl y hy
   ·rw[fk.mp hy];exact ο
  ·refine .inr ⟨mB,?_⟩;show(insertAt t.place (below t.place j) j).toList.map _=_;rw[toList_insertAt,toList_insertAt,hF,hF,z0,z0,M4,M4,MD,MD,η]
 ·rw[β,Ki] at ψ;rw[O];have ε:=few ω.1 ω.2;rw[eB,eY,O] at ε;rcases hk with ⟨α,_⟩ | ⟨mB | mB,_⟩
  ·have θ:es.size=4:=by omega
   exact(wW (M:=31) (by rw[θ];decide +kernel) (.inl rfl) pn ω.1 ω.2 (by rw[eY,O];omega)).1
  ·have θ:es.size=18:=by omega
   exact(wW (M:=127) (by rw[θ];decide +kernel) (.inr rfl) pn ω.1 ω.2 (by rw[eY,O];omega)).1
  ·omega
theorem rq (t:SetTable) (es:JZ (Int×fC)) (h:Int) (x:fC):(layNew t es h x).2.1.led=t.led:=by
 unfold layNew;split
 ·dsimp only[Q4,OR];split<;>(split<;>rfl)
 ·rfl
theorem zK (t:SetTable) (es:JZ (Int×fC)) (O:Nat):(relayAll t es O).2.1.led=t.led:=by
 unfold relayAll;cases Y:t.relaid (es.map (·.1)) O with
 | none=>rfl
 | some q=>
   obtain⟨t',Z⟩:=q;dsimp only;split
   ·unfold relaid laid at Y;cases α:layClean (sizeAbove O - 1) (es.map (·.1)) with
    | none=>rw[α] at Y;cases Y
    | some ow=>
      rw[α] at Y;have Y:=iv Y;have:=y' Qp Y;rw[<-this]
   ·rfl
noncomputable def fin (t:SetTable) (es:JZ (Int×fC)) (h:Int) (x:fC):JZ (Int×fC)×SetTable:=
 if (!(layNew t es h x).2.2.1&&(layNew t es h x).2.1.tooFull)=true then ((relayAll (layNew t es h x).2.1 (layNew t es h x).1 (grown (layNew t es h x).1.size)).1,(relayAll (layNew t es h x).2.1 (layNew t es h x).1 (grown (layNew t es h x).1.size)).2.1) else ((layNew t es h x).1,(layNew t es h x).2.1)
theorem Cz (t:SetTable) (es:JZ (Int×fC)) (h:Int) (x:fC):(fin t es h x).1.toList.Perm (es.toList++[(h,x)]):=by
 have:=Qa t es h x;rw[LJ] at this;unfold fin;split
 ·exact(relayAll_perm _ _ _).trans this
 ·exact this
theorem CA (t:SetTable) (es:JZ (Int×fC)) (h:Int) (x:fC):(fin t es h x).2.fits (fin t es h x).1.size=true:=by
 unfold fin;split
 ·exact relayAll_fits _ _ _
 ·exact layNew_fits _ _ _ _
theorem FL (t:SetTable) (es:JZ (Int×fC)) (h:Int) (x:fC):(fin t es h x).2.led=t.led:=by
 unfold fin;split
 ·exact(zK _ _ _).trans (rq _ _ _ _)
 ·exact rq _ _ _ _
theorem Hx {t:SetTable} {es:JZ (Int×fC)} {h:Nat} {x:fC} (tb:Tb t (es.toList.map (·.1))) (sm:Sm (es.toList.map (·.1))) (nd:(es.toList.map (·.1)).Nodup) (hn:h < 32) (O:(h:Int)∉es.toList.map (·.1)):Tb (fin t es h x).2 ((fin t es h x).1.toList.map (·.1)):=by
 obtain⟨a,b,c⟩:=HQ (x:=x) tb sm nd hn O;unfold fin;rw[a,Bool.not_false,Kb];split
 ·exact c (by assumption)
 ·exact b (by cases h:(layNew t es (↑_) x).2.1.tooFull<;>simp_all)
open PyProof.Rows
noncomputable abbrev byT (w:sb):Bool:=w.params.followText "set-order"
theorem sD {k:Nat} (h:k < 32):hashInt (k:Int)=k:=by
 have:∀k:Fin 32,hashInt ((k.1:Nat):Int)=((k.1:Nat):Int):=by decide +kernel
 exact this ⟨k,h⟩
structure SI (w:sb) (o:NJ) (ns:I8) (es:JZ (Int×fC)) (ep:Nat) (t:SetTable):Prop where
 ex:o.ExactSet
 d:o.data= .set es ep t
 v:∀e∈es.toList,∃tk,e.2= .int e.1 tk
 p:(es.toList.map (·.1)).Perm ns
 f:t.fits es.size=true
 l:t.led= !byT w
 tb:byT w=false->Tb t (es.toList.map (·.1))
def SIs (w:sb) (h:u2) (a:eh) (ns:I8):Prop:=∃o es ep t,h.get? a=aS o/\SI w o ns es ep t
section
variable {prog:oe} {w:sb} {A:u7} {E:DB} {s:eL}
theorem SI.elems {o:NJ} {ns:I8} {es:JZ (Int×fC)} {ep:Nat} {t:SetTable} (S:SI w o ns es ep t) (sm:Sm ns):ElemsOf (intKind prog w) es.toList:=λe he=>by
 obtain⟨tk,O⟩:=S.v e he;obtain⟨n,e1,hn⟩:=sm e.1 (S.p.mem_iff.mp (w2.mpr ⟨e,he,rfl⟩));refine⟨⟨e.1,?_,?_⟩,?_⟩
 ·rw[O];exact P3 prog w _ _
 ·show e.1=hashInt e.1;rw[e1,sD hn]
 ·rw[O];rfl
theorem SI.few {o:NJ} {ns:I8} {es:JZ (Int×fC)} {ep:Nat} {t:SetTable} (S:SI w o ns es ep t) (sm:Sm ns) (nd:ns.Nodup):es.size<=32:=by
 have:=S.p.length_eq;rw[eB,eY] at this;have:=ST.few sm nd;omega
theorem F3 {a:eh} {ns:I8} {k:Nat} {tk:Tok} {Q:JC->eL->Prop} (hk:k < 32) (sm:Sm ns) (nd:ns.Nodup) (ρ:(k:Int)∉ns) (S:SIs w s.heap a ns)
  (h:∀h',KF a s.heap h'->SIs w h' a (ns++[(k:Int)])->Q true {s with heap:=h'}):gn (hL prog w) A (setAddHashed a (.int k tk) (k:Int)) Q E s:=by
 obtain⟨o,es,ep,t,ho,S⟩:=S;have φ:=S.elems (prog:=prog) sm;have b6:=S.few sm nd;have hb:es.size < scanBound:=by unfold scanBound;omega
 have τ:(intKind prog w).is (k:Int) (.int (k:Int) tk)=true:=P3 prog w _ _
 have η:es.toList.findIdx? (λe=>(intKind prog w).is (k:Int) e.2)=none:=by
  rw[Oq];intro e he;obtain⟨γ,e2⟩:=S.v e he;rw[Nz];intro hz;rw[e2] at hz;have:=(intKind prog w).inj _ _ _ hz (P3 prog w e.1 γ);exact ρ (by rw[this];exact S.p.mem_iff.mp (w2.mpr ⟨e,he,rfl⟩))
 have put:∀{s':eL} {ψ χ:JZ (Int×fC)} {t0 t':SetTable} {θ:Nat} {ι:F'},(∃o',s'.heap.get? a=aS o'/\o'.ExactSet/\o'.data= .set ψ θ t0)->χ.size<=64->
   (∀o',(s'.heap.update a (PL χ t')).get? a=aS o'->o'.ExactSet->o'.data= .set χ (θ + 1) t'->ι () {s' with heap:=s'.heap.update a (PL χ t')})->gn (hL prog w) A (storeSet a χ t') ι E s':=by
  intro s' ψ χ t0 t' θ ι ⟨o',α,hx,hd⟩ hz ω;refine wpAny_storeSet_of α hd ?_ (fits_of_scanBound (by unfold scanBound;omega));have:=Jv (PL χ t') α (by rw[putSet_of χ t' hd];rfl);rw[putSet_of χ t' hd] at this;exact ω _ this hx rfl
 have υ:=Cz t es (k:Int) (.int k tk);have b4:=CA t es (k:Int) (.int k tk);have b3:=FL t es (k:Int) (.int k tk);have a6:byT w=false->Tb (fin t es (k:Int) (.int k tk)).2 ((fin t es (k:Int) (.int k tk)).1.toList.map (·.1)):=λhw=>Hx (S.tb hw) (λy hy=>sm y (S.p.mem_iff.mp hy)) (S.p.nodup_iff.mpr nd) hk (λz=>ρ (S.p.mem_iff.mp z))
 have ζ:∀h' o' O,KF a s.heap h'->h'.get? a=aS o'->o'.ExactSet->o'.data= .set (fin t es (k:Int) (.int k tk)).1 O (fin t es (k:Int) (.int k tk)).2->Q true {s with heap:=h'}:=by
  intro h' o' O Z α hx hd;refine h h' Z ⟨o',_,O,_,α,hx,hd,λe he=>?_,?_,b4,b3.trans S.l,a6⟩
  ·rcases lh.mp (υ.mem_iff.mp he) with he | he
   ·exact S.v e he
   ·rw[fk.mp he];exact⟨tk,rfl⟩
  ·refine(υ.map (·.1)).trans ?_;rw[hF];exact S.p.append_right _
 unfold setAddHashed setAddHashedIn;refine K5 (aY (MG ho S.d S.f ?_));dsimp only;rw[byScan_of (x:= .int (k:Int) tk) rfl hb φ,px rfl];unfold setAddByScan;refine aY (aY (NU (aY ?_)));have ξ:=wpAny_setScan_of (A:=A) (E:=E) (adding:=true) (Q:=λr s'=>r= .absent/\s'=s) τ ho S.d S.f φ (by rw[η];exact⟨rfl,rfl⟩);rw[show(intKind prog w).hash (k:Int)=(k:Int) from sD hk] at ξ;refine JW ξ ?_ (λ_ _ e=>e);rintro r0 s0 ⟨rfl,ο⟩;rw[ο];clear ο s0;dsimp only;have gw:∀(b:JC) {ε:eL} {ι:F'},ι () ε->gn (hL prog w) A (match b with | true=>rule "set.scan.the-table-gave-way" | false=>pure ()) ι E ε:=λb _ _ ω=>by cases b;exact eD ω;exact NU ω
 have δ:∀{R:nk JC->eL->Prop},(∀h',KF a s.heap h'->(∃o' O,h'.get? a=aS o'/\o'.ExactSet/\o'.data= .set (fin t es (k:Int) (.int k tk)).1 O (fin t es (k:Int) (.int k tk)).2)->R (aS true) {s with heap:=h'})->
   gn (hL prog w) A (do
    storeSet a (layNew t es (k:Int) (.int k tk)).1 (layNew t es (k:Int) (.int k tk)).2.1
    if (!(layNew t es (k:Int) (.int k tk)).2.2.1&&(layNew t es (k:Int) (.int k tk)).2.1.tooFull)=true then do
     (match (relayAll (layNew t es (k:Int) (.int k tk)).2.1 (layNew t es (k:Int) (.int k tk)).1 (grown (layNew t es (k:Int) (.int k tk)).1.size)).2.2 with | true=>rule "set.scan.the-table-gave-way" | false=>pure ())
     storeSet a (relayAll (layNew t es (k:Int) (.int k tk)).2.1 (layNew t es (k:Int) (.int k tk)).1 (grown (layNew t es (k:Int) (.int k tk)).1.size)).1 (relayAll (layNew t es (k:Int) (.int k tk)).2.1 (layNew t es (k:Int) (.int k tk)).1 (grown (layNew t es (k:Int) (.int k tk)).1.size)).2.1
     pure (aS true)
    else pure (aS true)) R E s:=by
  intro R hR
  have a4:(layNew t es (k:Int) (.int k tk)).1.size<=64:=by
   have:=(Qa t es (k:Int) (.int k tk)).length_eq;rw[eY,eY,M0] at this;omega
  have a0:(relayAll (layNew t es (k:Int) (.int k tk)).2.1 (layNew t es (k:Int) (.int k tk)).1 (grown (layNew t es (k:Int) (.int k tk)).1.size)).1.size<=64:=by
   have:=(relayAll_perm (layNew t es (k:Int) (.int k tk)).2.1 (layNew t es (k:Int) (.int k tk)).1 (grown (layNew t es (k:Int) (.int k tk)).1.size)).length_eq;rw[eY,eY] at this;omega
  refine aY (put ⟨o,ho,S.ex,S.d⟩ a4 λo1 π ν β=>?_);unfold fin at hR;split
  ·rename_i hc;rw[px hc] at hR;refine aY (gw _ (aY (put ⟨o1,π,ν,β⟩ a0 λo2 a5 Y b5=>eD ?_)));exact hR _ ((t7 _ a _).trans (t7 _ a _)) ⟨o2,_,a5,Y,b5⟩
  ·rename_i hc;rw[ko hc] at hR;exact eD (hR _ (t7 _ a _) ⟨o1,_,π,ν,β⟩)
 refine aY (gw _ ?_);split
 ·refine aY ?_;rw[hashByValue_scannable 8 rfl];refine eD ?_;rw[px (show plainKind (.int (k:Int) tk)=true from rfl)];refine δ λh' Z ⟨o',O,a1,a2,a3⟩=>?_;exact eD (ζ h' o' O Z a1 a2 a3)
 ·refine aY (eD ?_);rw[px rfl];refine δ λh' Z ⟨o',O,a1,a2,a3⟩=>?_;exact eD (ζ h' o' O Z a1 a2 a3)
end
theorem SIs.at' {w:sb} {h h':u2} {a:eh} {ns:I8} (S:SIs w h a ns) (hk:∀o,h.get? a=aS o->h'.get? a=aS o):SIs w h' a ns:=by
 obtain⟨o,es,ep,t,ho,x⟩:=S;exact⟨o,es,ep,t,hk o ho,x⟩
theorem SIs.new (w:sb) (h:u2) {a:eh} (e:h.get? a=aS {cls:= .type "set",dict:=eC,data:= .set #[] 0 (.fresh 0 0 (!byT w))}):SIs w h a []:=
 ⟨_,#[],0,_,e,⟨⟨rfl,rfl,rfl⟩,rfl,λe he=>by simp at he,@E,rfl,rfl,λ_=>⟨rfl,rfl,by simp[MH],by simp[MH],by simp[MH],.inl ⟨rfl,λj O=>by simp[MH] at O⟩⟩⟩⟩
section
variable {prog:oe} {w:sb} {A:u7} {R:J2} {I:eh} {fp wr:G'} {G:JZ GenState->JZ GenState->Prop} {P:Nat->fC->Prop} {St:Nat->eL->Prop}
theorem Cc {ns:D'} (W:WalksS prog w A.in1 I fp wr G ns.length P St) (S:eh) (Z:S∉fp) (π:∀i v,P i v->∃n t,ns[i]? =aS n/\v= .int (n:Int) t) (sm:∀n∈ns,n < 32) (nd:ns.Nodup):
  ∀(k i:Nat) (s:eL),ns.length - i=k->i<=ns.length->St i s->SIs w s.heap S ((ns.take i).map (λn:Nat=>(n:Int)))->
    (∀s',Moved (S::wr) G s s'->SIs w s'.heap S (ns.map (λn:Nat=>(n:Int)))->R (.ok (.ret .none)) s')->
    codeAny (hL prog w) A (.builtin "set.update.loop" ⟨[.ref S,.ref I],[]⟩) R s:=by
 have Y:S∉wr:=λz=>Z (W.sub _ z);have up:∀b∈wr,b∈S::wr:=λ_ z=>ov _ z;intro k
 induction k with
 | zero=>
   intro i s e1 τ st β hR;obtain rfl:i=ns.length:=by omega
   rw[K6] at β;refine JH F.entry_set_update_loop ?_;rw[JP F.plain_set_update_loop _];exact aY (m:=pyNext (.ref I)) (W.done s _ _ st λs' mv=>eD (hR s' (mv.mono up) (β.at' λo e=>mv.heap S _ Y e)))
 | succ k ih=>
   intro i s e1 τ st β hR;have lt:i < ns.length:=by omega
   refine JH F.entry_set_update_loop ?_;rw[JP F.plain_set_update_loop _];refine aY (m:=pyNext (.ref I)) (W.item i s _ _ lt st λv s' ζ ω mv=>?_);obtain⟨n,tk,hn,rfl⟩:=π i v ζ;have O:=sm n (eO hn);have θ:=β.at' (h':=s'.heap) λo e=>mv.heap S _ Y e;refine aY (m:=holding [Mu (n:Int) tk] (setAdd S (.int (n:Int) tk))) (K5 ?_);unfold setAdd;refine K5 (aY ((intKind prog w).pyHash (k:=(n:Int)) (P3 _ _ _ _) ?_))
   have ε:(n:Int)∉(ns.take i).map (λn:Nat=>(n:Int)):=λz=>by
    obtain⟨m,hm,e⟩:=w2.mp z;have e:m=n:=MP e;subst e;obtain⟨j,ρ,e⟩:=JE.mp hm;rw[x4] at ρ;rw[LQ] at e;have:=zt.mp nd j i @A lt @A;rw[e,(dt.mp hn).2] at this;exact this rfl
   show gn _ _ (setAddHashed S (.int (n:Int) tk) (hashInt (n:Int))) _ _ _;rw[sD O];refine F3 (s:={s' with toks:=s'.toks + 1}) O (λy ο=>by obtain⟨m,hm,rfl⟩:=w2.mp ο;exact⟨m,rfl,sm m (LC hm)⟩) ?_ ε θ λh' ξ ι=>?_
   ·exact(nd.sublist (Nx ..)).map _ (λa b η e=>η (MP e))
   have ν:SIs w h' S ((ns.take (i + 1)).map (λn:Nat=>(n:Int))):=by
    rw[Lm,hn,hF];exact ι
   refine eD ⟨NR F.plain_set_update_loop _,ih (i + 1) _ @A lt (W.frame _ s' _ _ ω (KS _) λb hb o e=>?_) ν fun γ δ α=>?_⟩
   ·rw[ξ.2 b (λz=>Z (z ▸ hb))];exact e
   ·refine hR γ (Moved.trans W.gtrans ((mv.mono up).then_heap (KS _) λb o hb e=>?_) δ) α;rw[ξ.2 b (λz=>hb (by rw[z];exact oi))];exact e
end
section
variable {prog:oe} {w:sb} {A:u7} {E:DB} {s:eL}
noncomputable abbrev nso (w:sb):Obj:={cls:= .type "set",dict:=eC,data:= .set #[] 0 (.fresh 0 0 (!byT w))}
theorem CW (a:fC) {Q:DB} (h:Q (.ref s.heap.objs.size) {s with heap:=s.heap.push (nso w)}):
  codeAny (hL prog w) A (.call (.builtin "set.__new__") ⟨[.type "set",a],[]⟩) (wants Q E) s:=by
 refine codeAny_of_tree (show gn _ A.in1 (checkBuiltinCall "set.__new__" ⟨[.type "set",a],[]⟩ >>=λ_=>again (.builtin "set.__new__" ⟨[.type "set",a],[]⟩)) _ _ s from ?_);refine aY (Ni (F.newCall_set_1 a) (eD ⟨NR F.plain_set_new _,JH F.entry_set_new ?_⟩));rw[JP F.plain_set_new _];unfold Builtin.«set.__new__» Builtin.Frozenset.newClass;have O:=sub_set_self;obtain⟨hp,g,d,tk,os⟩:=s;dsimp only
 wp_walk
 refine Ol (eD ?_);dsimp only;simp only[newObj];exact aY (wpAny_alloc (eD (eD h)))
theorem call_set {l:eh} {O:Dz} {ns:D'} {Q:DB} (ζ:A.handled=eC) (hl:s.heap.IsList l O) (hi:IntsAre O.toList (ns.map (λn:Nat=>(n:Int)))) (sm:∀n∈ns,n < 32) (nd:ns.Nodup)
  (h:∀(h':u2) (tk:Nat),SIs w h' s.heap.objs.size (ns.map (λn:Nat=>(n:Int)))->s.heap.objs.size < h'.objs.size->(∀b o,s.heap.get? b=aS o->h'.get? b=aS o)->Q (.ref s.heap.objs.size) {s with heap:=h',toks:=tk}):
  gn (hL prog w) A (call (.type "set") [.ref l]) Q E s:=by
 obtain⟨c,tl,b4⟩:=F.called_set.mro;have ω:=F.called_set.made;have a5:=F.called_set.sub;have hsz:O.size=ns.length:=by have:=IntsAre.length hi;rw[eB,eY] at this;exact this
 refine NV (codeAny_of_tree (show gn _ _ (callAny (.type "set") _) _ _ _ from ?_));refine eD ⟨Mg _ @G,JH F.entry_type_call ?_⟩;rw[Around.under_plain (weight_type_call_type "set" [.ref l] []) rfl];have h1:=F.called_set.notType;have h2:=F.called_set.canCreate;have c0:=F.typeCall_set_1 (.ref l)
 repeat (any_goals (first | assumption | wp_step))
 refine LU (CW (.ref l) (E:=E) (Q:=λobj α=>obj= .ref s.heap.objs.size/\α={s with heap:=s.heap.push (nso w)}) ⟨rfl,rfl⟩) λr α χ=>?_;rcases r with e | fl
 ·exact χ
 cases fl with
 | ret obj=>
   obtain⟨rfl,rfl⟩:=χ;have hS:(s.heap.push (nso w)).get? s.heap.objs.size=aS (nso w):=hG _ rfl;have hT:Shared.TypeIs {s with heap:=s.heap.push (nso w)} (.ref s.heap.objs.size) "set":=⟨_,hS,rfl⟩;have b6:=F.called_set.init.lookup;have c1:=F.called_set.init.bind (.ref s.heap.objs.size)
   repeat (any_goals (first | assumption | wp_step))
   refine LU (codeAny_call_builtin (R:=wants (λr ξ=>r= .none/\∃h' tk,ξ={s with heap:=h',toks:=tk}/\SIs w h' s.heap.objs.size (ns.map (λn:Nat=>(n:Int)))/\s.heap.objs.size < h'.objs.size/\(∀b o,s.heap.get? b=aS o->h'.get? b=aS o)) E) F.called_set.init.plain F.entry_set_init (check_set_init_1 hT ?_)) fun β ξ Y=>?_
   ·obtain⟨ol,υ,ν,nl,φ⟩:=hl;obtain⟨a4,ρ,τ,ο⟩:=ol;dsimp only at ν φ;subst ν φ;have δ:=en (nso w) υ;have a6:=F.sub_list_set;have b3:=F.sub_list_frozenset;have b5:(JA "list" == JA "dict")=false:=by decide
    have hl1:(s.heap.push (nso w)).IsList l O:=⟨_,δ,rfl,nl,rfl⟩;unfold Builtin.«set.__init__» noKeywords Builtin.Frozenset.updateFrom;generalize a0:pyIter=PI
    wp_walk
    subst a0;refine O4 hl1 (aY (Nj ?_));have ι:l < s.heap.objs.size:=fy υ;have ε:l≠(s.heap.push (nso w)).objs.size:=by rw[z3];exact v7 (K1 ι)
    have W:=(Pl (prog:=prog) (w:=w) (A:=A.in1.in1.in1) (by simp[ζ]) (s.heap.push (nso w)).objs.size l ε O).toS;rw[hsz] at W
    have Z:s.heap.objs.size∉[(s.heap.push (nso w)).objs.size,l]:=by
     rw[z3];simp only[u5,M5,OZ,not_or];exact⟨v7 (Ke _),Jr ι⟩
    refine Cc W s.heap.objs.size Z (λi v hv=>?_) sm nd (ns.length - 0) 0 _ @A (Ka _) ⟨⟨_,hG _ rfl,rfl,rfl⟩,hl1.push _⟩ (SIs.new w _ (en _ hS)) λs' mv θ=>?_
    ·obtain⟨t,e⟩:=IntsAre.int_at hi i v (by rw[z1];exact hv);have η:i < ns.length:=by rw[<-hsz];exact(Kr.mp hv).1
     refine⟨ns[i],t,b' η,?_⟩;rw[e,ee,f',b' η];rfl
    ·obtain⟨h',g',d',γ,π⟩:=s';obtain rfl:g'=s.gens:=mv.gens;obtain rfl:d'=s.drawn:=mv.drawn;obtain rfl:π=s.os:=mv.os;obtain⟨oS,_,_,_,ψ,_⟩:=id θ;refine eD (eD ⟨rfl,h',γ,rfl,θ,fy ψ,λb o e=>?_⟩);have hb:=fy e;exact mv.heap b o (by rw[z3];simp only[u5,M5,OZ,not_or];exact⟨v7 hb,v7 (K1 hb)⟩) (en _ (en _ e))
   ·rcases β with e | fl₂
    ·exact Y
    cases fl₂ with
    | ret r=>
      obtain⟨rfl,h',tk,rfl,a1,a2,a3⟩:=Y
      repeat (any_goals (first | assumption | wp_step))
      exact h _ _ a1 a2 a3
    | _=>exact Y.elim
 | _=>exact χ.elim
end
theorem Bb {xs:JZ Nat} (hp:xs.toList.Pairwise (· < ·)) {j:Nat} (h2:∀k (h:k < xs.toList.length),xs.toList[k] < j):below xs j=xs.toList.length:=by
 have s:=kG hp j;by_cases h:below xs j < xs.toList.length
 ·have:=s.2.2 _ h (mu _);have:=h2 _ h;omega
 ·omega
noncomputable def ord (w:sb) (a:eh) (ep:Nat) (es:JZ (Int×fC)):JZ (Int×fC):=if byT w=true then pickOrder (w.params.setOrder a ep) es else es
noncomputable def slt (w:sb) (t:SetTable) (i:Nat):Nat:=if byT w=true then 0 else if i=0 then 0 else t.place.toList.getD (i - 1) 0 + 1
theorem AO {α:Type}:∀(l:eA α) (i:Nat) (h:i < l.length),(l[i]::l.eraseIdx i).Perm l
 | x::l,0,_=> .rfl
 | x::l,i + 1,h=>(List.Perm.swap x _ _).trans ((AO l i (by simpa using h)).cons x)
theorem zV {α:Type} (f:Nat->Nat):∀(n k:Nat) (l:eA α) (out:JZ α),l.length<=n->(O6 f n k l out).toList.Perm (out.toList++l)
 | 0,k,l,out,h=>by
   have:l=[]:=JM @A;subst this;unfold O6;simp
 | n + 1,k,l,out,h=>by
   unfold O6;cases O:l[f k % l.length]? with
   | none=>
     have:l.length=0:=by
      by_cases hz:l.length=0
      ·exact hz
      ·have:=List.getElem?_eq_none_iff.mp O;have:=PZ (f k) (show 0 < l.length by omega);omega
     have:l=[]:=JM this;subst this;simp
   | some x=>
     dsimp only;obtain⟨hl,e⟩:=dt.mp O;refine(zV f n (k + 1) _ _ (by rw[List.length_eraseIdx];split<;>omega)).trans ?_;rw[LJ,Lq];refine List.Perm.append_left _ ?_;rw[List.singleton_append,<-e];exact AO l _ hl
theorem ord_perm (w:sb) (a:eh) (ep:Nat) (es:JZ (Int×fC)):(ord w a ep es).toList.Perm es.toList:=by
 unfold ord;split
 ·have:=zV (w.params.setOrder a ep) es.size 0 es.toList #[] @E;simpa[pickOrder] using this
 ·exact .rfl
section
variable {prog:oe} {w:sb} {A:u7} {E:DB} {s:eL}
theorem y2 {Q:JC->eL->Prop} (h:Q (byT w) s):gn (hL prog w) A setsByText Q E s:=by
 unfold setsByText;exact aY (Ol (eD h))
theorem Ei {a:eh} {o:NJ} {ns:I8} {es:JZ (Int×fC)} {ep:Nat} {t:SetTable} {i:Nat} {Q:nk (fC×Nat)->eL->Prop} (ho:s.heap.get? a=aS o) (S:SI w o ns es ep t) (hi:i<=es.size)
  (h:Q ((ord w a ep es)[i]?.map λe=>(e.2,slt w t (i + 1))) s):gn (hL prog w) A (setNext a (slt w t i) i ep) Q E s:=by
 unfold setNext;refine aY (MG ho S.d S.f ?_);dsimp only;refine aY (y2 ?_);unfold ord slt at h;unfold slt;cases hb:byT w with
 | true=>
   rw[hb] at h;simp only[↓reduceIte] at h ⊢;rw[ko @E];refine aY ?_;unfold setWalk;refine aY (MG ho S.d S.f ?_);dsimp only;refine aY (y2 ?_);rw[hb,px rfl];refine aY (Ol (eD (eD h)))
 | false=>
   have tb:=S.tb hb;rw[hb] at h;have hl:=S.l;rw[hb] at hl;have hsz:t.place.toList.length=es.size:=by rw[tb.sz,eB,eY]
   simp only[JO,↓reduceIte] at h ⊢;show gn _ _ (if (!t.plain&&decide (es.size > 1))=true then _ else _) _ _ s;rw[tb.pn,ko @E];refine aY (show gn _ _ (if (!t.led&& !es.isEmpty)=true then unsupported _ else pure ()) _ _ s from ?_);rw[hl,ko @E];refine eD (eD ?_);have O:=zt.mp tb.rs;by_cases α:i < es.size
   ·have Z:below t.place (if i=0 then 0 else t.place.toList.getD (i - 1) 0 + 1)=i:=by
     refine yC tb.rs @A ?_ ?_
     ·by_cases δ:i=0
      ·rw[px δ];omega
      ·rw[ko δ,ee,b' @A];have:=O (i - 1) i @A @A @A;exact this
     ·intro k hk β;rw[ko @A,ee,b' @A];show _ < t.place.toList[i - 1] + 1;by_cases Y:k=i - 1
      ·subst Y;omega
      ·have:=O k (i - 1) hk @A @A;omega
    rw[Z,<-z1 (xs:=t.place),b' @A,KA α];rw[KA α] at h;rw[ko @A,Nat.add_sub_cancel,ee,b' @A] at h;exact h
   ·have γ:i=es.size:=by omega
    subst γ
    have Z:below t.place (if es.size=0 then 0 else t.place.toList.getD (es.size - 1) 0 + 1)=t.place.toList.length:=by
     refine Bb tb.rs ?_;intro k hk;rw[ko @A,ee,b' @A];show _ < t.place.toList[es.size - 1] + 1;by_cases Y:k=es.size - 1
     ·subst Y;omega
     ·have:=O k (es.size - 1) hk @A @A;omega
    rw[Z,hsz,MC (mu _)];rw[MC (mu _)] at h;exact h
end
theorem oC:Slot "set_iterator" "__next__" "set_iterator.__next__":= .of (owner:="set_iterator") (n:="__next__") (by rw[N5,M7];kernel_rfl) @G @G @G (by first | exact .inl (by decide +kernel) | exact .inr (by decide +kernel)) (by rw[P5];kernel_rfl)
theorem wU:Slot "set_iterator" "__iter__" "set_iterator.__iter__":= .of (owner:="set_iterator") (n:="__iter__") (by rw[N5,M7];kernel_rfl) @G @G @G (by first | exact .inl (by decide +kernel) | exact .inr (by decide +kernel)) (by rw[P5];kernel_rfl)
theorem AR:entryFor table "set_iterator.__next__"=aS Builtin.«set_iterator.__next__»:=entryFor_of_tree (by kernel_rfl)
theorem AS:entryFor table "set_iterator.__iter__"=aS Builtin.«dict_keyiterator.__iter__»:=entryFor_alias (id':="dict_keyiterator.__iter__") (by kernel_rfl) rfl @G (by kernel_rfl)
theorem CD:entryFor table "set.__iter__"=aS Builtin.«frozenset.__iter__»:=entryFor_alias (id':="frozenset.__iter__") (by kernel_rfl) rfl @G (by kernel_rfl)
theorem xa:Manifest.owners.lookup (String.ofList ['r','o','t','a','r','e','t','i','_','t','e','s'].reverse)=aS Manifest.sig_set_iterator:=by kernel_rfl
theorem C2 (a:fC):argsOk "set_iterator.__next__" ⟨[a],[]⟩:=by
 unfold argsOk;rw[signature?_of (id:="set_iterator.__next__") (n:=['_','_','t','x','e','n','_','_']) (o:=['r','o','t','a','r','e','t','i','_','t','e','s']) (by kernel_rfl) xa];kernel_rfl
theorem C3 (a:fC):argsOk "set_iterator.__iter__" ⟨[a],[]⟩:=by
 unfold argsOk;rw[signature?_of (id:="set_iterator.__iter__") (n:=['_','_','r','e','t','i','_','_']) (o:=['r','o','t','a','r','e','t','i','_','t','e','s']) (by kernel_rfl) xa];kernel_rfl
noncomputable abbrev sio (w:sb) (d:eh) (t:SetTable) (n ep i:Nat):Data:= .fields #[.int (slt w t i) 0,.int i 0,.ref d,.int n 0,.int ep 0]
def Sit (w:sb) (h:u2) (I d:eh) (t:SetTable) (n ep i:Nat):Prop:=∃o,h.get? I=aS o/\o.cls= .type "set_iterator"/\o.data=sio w d t n ep i
section
variable {prog:oe} {w:sb} {A:u7} {E:DB} {s:eL}
variable {I d:eh} {o:NJ} {ns:I8} {es:JZ (Int×fC)} {ep:Nat} {t:SetTable}
theorem Sit.ty {i n:Nat} (x:Sit w s.heap I d t n ep i):s.TypeIs (.ref I) "set_iterator":=let ⟨o,a,b,_⟩:=x;⟨o,a,b⟩
theorem Aw {i:Nat} {Q:J7->eL->Prop} (x:Sit w s.heap I d t es.size ep i) (ho:s.heap.get? d=aS o) (S:SI w o ns es ep t) (hi:i<=es.size)
  (h:gn (hL prog w) A.in1 (match (ord w d ep es)[i]?.map λe=>(e.2,slt w t (i + 1)) with
   | some (x,next)=>do
     setField (.ref I) 0 (rawInt next)
     setField (.ref I) 1 (rawInt ((i:Int) + 1))
     ret x
   | none=>do setField (.ref I) 2 .none;raiseNew (<-newExc (.type "StopIteration") []))
   (λfin s'=>∃v,fin=Fin.done (Pd v)/\gn (hL prog w) A (pure (aS v)) Q E s') (λe s'=>gn (hL prog w) A (do if <-isInstance e (.type "StopIteration") then pure eC else throw e) Q E s') s):
  gn (hL prog w) A (pyNext (.ref I)) Q E s:=by
 obtain⟨Y,O,Z,hd⟩:=id x;unfold pyNext;refine aY (NQ (Kn (name:=Lk "__next__") x.ty oC (K0 oC x.ty AR ?_ (C2 _))));unfold Builtin.«set_iterator.__next__»;refine aY (eD (aY (wpAny_fieldsOf O hd ?_)));dsimp only;refine aY (Qq ho S.d S.f ?_);rw[ko @E];exact aY (Ei ho S hi h)
theorem Ft {i:Nat} {e:Int×fC} {Q:J7->eL->Prop} (x:Sit w s.heap I d t es.size ep i) (ho:s.heap.get? d=aS o) (S:SI w o ns es ep t) (hi:i < es.size) (he:(ord w d ep es)[i]? =aS e)
  (h:∀h',Sit w h' I d t es.size ep (i + 1)->KF I s.heap h'->Q (aS e.2) {s with heap:=h'}):gn (hL prog w) A (pyNext (.ref I)) Q E s:=by
 refine Aw x ho S (Kw hi) ?_;obtain⟨Z,O,α,hd⟩:=id x;rw[he];show gn _ _ (setField (.ref I) 0 (rawInt (slt w t (i + 1):Nat)) >>=λ_=>setField (.ref I) 1 (rawInt ((i:Int) + 1)) >>=λ_=>ret e.2) _ _ s;have β:(KL (·.setIfInBounds 0 (rawInt (slt w t (i + 1):Nat))) Z).data= .fields #[.int (slt w t (i + 1)) 0,.int i 0,.ref d,.int es.size 0,.int ep 0]:=by rw[Kv hd];simp[rawInt]
 have Y:=Jv (KL (·.setIfInBounds 0 (rawInt (slt w t (i + 1):Nat)))) O (LS (Kv hd _));refine aY (K' O hd @E (aY (K' (s:={s with heap:=_}) Y β @E (eD ⟨_,rfl,eD (h _ ⟨_,Jv _ Y (LS (Kv β _)),?_,?_⟩ ?_)⟩))))
 ·rw[Mr,Mr];exact α
 ·rw[Kv β];simp[rawInt,sio]
 ·exact(t7 ..).trans (t7 ..)
theorem Fu {Q:J7->eL->Prop} (ζ:A.handled=eC) (x:Sit w s.heap I d t es.size ep es.size) (ho:s.heap.get? d=aS o) (S:SI w o ns es ep t)
  (h:∀h',Heap.ExtBut I s.heap h'->Q eC {s with heap:=h'}):gn (hL prog w) A (pyNext (.ref I)) Q E s:=by
 refine Aw x ho S (mu _) ?_;obtain⟨Z,Y,α,hd⟩:=id x;have O:(ord w d ep es).size=es.size:=by rw[<-eY,(ord_perm w d ep es).length_eq,eY]
 rw[MC (by rw[O];exact mu _)];show gn _ _ (setField (.ref I) 2 .none >>=λ_=>newExc (.type "StopIteration") [] >>=λe=>raiseNew e) _ _ s;refine aY (K' Y hd @E (aY ?_));simp only[newExc,newTuple];refine aY (z5 ?_ (by size_fits));refine aY (m:=firstArgMember _ _) (Ni (a:=JB) (by first | rfl | (simp only[firstArgMember];rfl)) (z5 ?_ (by size_fits)));simp only[raiseNew];refine aY (wpAny_handled ?_);rw[show A.in1.handled=eC from ζ];refine aY (eD (Q9 ?_));refine aY (Oi (T:="StopIteration") (b:=true) ⟨_,hG _ rfl,rfl⟩ isSubtype_stop ?_);exact eD (h _ (((t7 ..).extBut.push _).push _))
theorem Fs {i n:Nat} {Q:DB} (x:Sit w s.heap I d t n ep i) (h:Q (.ref I) s):gn (hL prog w) A (pyIter (.ref I)) Q E s:=by
 refine QK x.ty wU (K0 wU x.ty AS (show gn _ _ (ret (.ref I)) _ _ s from ?_) (C3 _));exact eD ⟨_,rfl,"set_iterator",_,x.ty,oC.lookup,h⟩
theorem Ii (ζ:A.handled=eC) (Y:d≠I) (S:SI w o ns es ep t):Walks prog w A I [I,d] [I] es.size (λi v=>∃e,(ord w d ep es)[i]? =aS e/\v=e.2) (λi h=>Sit w h I d t es.size ep i/\h.get? d=aS o) where
 sub:=λb hb=>by rw[fk] at hb;rw[hb];exact oi
 frame:=λi h h' st hk=>⟨by obtain⟨γ,a,b⟩:=st.1;exact⟨γ,hk I oi _ a,b⟩,hk d @E _ st.2⟩
 item:=λi s Q E hi st O=>by
  have α:(ord w d ep es).size=es.size:=by rw[<-eY,(ord_perm w d ep es).length_eq,eY]
  have he:(ord w d ep es)[i]? =aS ((ord w d ep es)[i]' @A):=KA @A;refine Ft st.1 st.2 S hi he λh' β Z=>?_;exact O _ h' s.toks ⟨_,he,rfl⟩ ⟨β,by rw[Z.2 d Y];exact st.2⟩ λb o hb e=>by rw[Z.2 b (λz=>hb (by rw[z];exact fk.mpr rfl))];exact e
 done:=λs Q E st O=>Fu ζ st.1 st.2 S λh' δ=>O h' s.toks λb o hb e=>δ b o (λz=>hb (by rw[z];exact fk.mpr rfl)) e
 self:=λi s Q E st O=>Fs st.1 O
theorem BE {Q:DB} (ho:s.heap.get? d=aS o) (S:SI w o ns es ep t) (h:Q (.ref s.heap.objs.size) {s with heap:=s.heap.push {cls:= .type "set_iterator",data:=sio w d t es.size ep 0}}):gn (hL prog w) A (pyIter (.ref d)) Q E s:=by
 have hT:s.TypeIs (.ref d) "set":=⟨o,ho,S.ex.1⟩;refine QK hT F.slot_set_iter (K0 F.slot_set_iter hT CD ?_ (F.args_set_iter_1 _));unfold Builtin.«frozenset.__iter__» Builtin.Frozenset.slot0;refine aY (aY (eD (eD ?_)));unfold Builtin.Frozenset.sizeOf;refine aY (aY (Qq ho S.d S.f (eD ?_)));refine aY ?_;unfold setDrawn;refine aY (MG ho S.d S.f ?_);dsimp only;refine aY (y2 (eD ?_))
 have O:(!byT w&&(!t.plain&&decide (es.size > 1)))=false:=by
  cases hb:byT w with
  | true=>rfl
  | false=>rw[(S.tb hb).pn];rfl
 show gn _ _ (if (!byT w&&(!t.plain&&decide (es.size > 1)))=true then _ else _) _ _ s;rw[O,ko @C];refine aY (eD ?_);refine aY (wpAny_setEpoch_of ho S.d S.f ?_);unfold newFields;refine aY (z5 (eD ⟨_,rfl,"set_iterator",_,⟨_,hG _ rfl,rfl⟩,oC.lookup,?_⟩));have Y:slt w t 0=0:=by unfold slt;split<;>rfl
 simpa[rawInt,sio,Y] using h
end
open PySem.W PySem.Spec L2
section
variable {prog:oe} {w:sb} {A:u7} {E:DB} {s:eL}
variable {d:eh} {o:NJ} {ns:I8} {es:JZ (Int×fC)} {ep:Nat} {t:SetTable}
theorem Cn {Q:JC->eL->Prop} (hT:s.TypeIs (.ref d) "set") (h:Q false s):gn (hL prog w) A (LR (.ref d)) Q E s:=by
 unfold LR;refine aY (N3 hT F.slot_set_len.lookup ?_);generalize Y:("set.__len__":Jy)=id0
 wp_delta
 rw[show splitId id0=aS ("set","__len__") from by subst Y;decide +kernel];subst Y;refine aY (Oi (T:="set") (b:=true) hT (by rw[P5];kernel_rfl) (wpAny_ite_split (λO=>gd O @C) (λ_=>?_)));exact wpAny_ite_split (λ_=>aY (PB hT (eD h))) (λO=>gd @G O)
theorem kdl_set (S:SI w o ns es ep t):KdlSrc prog w "set" d d es.size (λi v=>∃e,(ord w d ep es)[i]? =aS e/\v=e.2) (λh=>h.get? d=aS o) where
 type:=λ_ e=>⟨o,e,S.ex.1⟩
 there:=λ_ e=>⟨fy e,fy e⟩
 keep:=λ_ _ e hk=>hk d (.inl rfl) _ e
 notList:=by decide
 notTuple:=by decide
 hint:=λ_ _ _ _ e O=>Cn ⟨o,e,S.ex.1⟩ O
 iter:=λ_ _ ζ e=>⟨_,_,λ_ _ O=>BE e S O,Ii ζ (v7 (fy e)) S,⟨⟨_,hG _ rfl,rfl,rfl⟩,en _ e⟩⟩
theorem wj {T:Jy} {n:Nat} {P:Nat->fC->Prop} {β:u2->Prop} {Q:Dd->eL->Prop} (K:KdlSrc prog w T d d n P β) (γ:A.handled=eC) (hok:β s.heap) (hn:n<=hH)
  (h:∀h' tk (Z:Dz),(∀b o,s.heap.get? b=aS o->h'.get? b=aS o)->s.heap.objs.size < h'.objs.size->ItemsOf P Z n->Q Z.toList {s with heap:=h',toks:=tk}):
  gn (hL prog w) A (collect (.ref d)) Q E s:=by
 unfold collect;refine aY (Nj (JH Nk ?_));refine aY (m:=newList []) (LG (eD ⟨Mg _ @G,JH Om ?_⟩));rw[JP mW _];have O:=(K.there _ hok).1
 refine kdl_extend (R:=λr s'=>match r with
   | MS (Pd v)=>gn (hL prog w) A (match v with
     | sC a=>do
       let o <-load a
       match o.data with
       | .seq xs _=>pure xs.toList
       | _=>unsupported "internal:collect"
     | _=>unsupported "internal:collect") Q E s'
   | MS _=>False
   | OB e=>E e s') (s:={s with heap:=s.heap.push (seqObj "list" #[] 0)}) K γ (K.keep _ _ hok λb _ o e=>en _ e) s.heap.objs.size (Jr O) (Jr O) _ 0 (hG _ rfl) (λh' tk ζ δ hk α Y=>?_) hn
 refine aY (m:=load s.heap.objs.size) (P1 α ?_);exact eD (h h' tk ζ (λb o e=>hk b o (v7 (fy e)) (en _ e)) (fy α) Y)
theorem sorted_src {T:Jy} {n:Nat} {P:Nat->fC->Prop} {δ:u2->Prop} {ks:I8} {Q:DB} (K:KdlSrc prog w T d d n P δ) (ζ:A.handled=eC) (hok:δ s.heap) (γ:n < 64) (hI:∀O:Dz,ItemsOf P O n->IntsAre O.toList ks)
  (h:∀h' tk a (out:Dz) (e:Nat) (π:I8),(∀b o,s.heap.get? b=aS o->h'.get? b=aS o)->s.heap.objs.size<=a->h'.get? a=aS (seqObj "list" out e)->IntsAre out.toList π->π.Perm ks->π.Pairwise (·<=·)->Q (.ref a) {s with heap:=h',toks:=tk}):
  gn (hL prog w) A (call (.builtin "sorted") [.ref d]) Q E s:=by
 refine Og Qb PD PF (args_sorted1 _) ?_;unfold Builtin.«sorted»;refine aY (m:=checkCount "sorted" 1 1 _) (eD ?_);refine aY (wj K (by exact ζ) hok (by rw[kv];omega) λh' tk O β hsz Y=>?_);have τ:O.toList.length < 64:=by rw[eY,Y.1];exact γ
 have Z:(h'.push (seqObj "list" O.toList.toArray 0)).get? h'.objs.size=aS (seqObj "list" O.toList.toArray 0):=hG _ rfl;refine aY (LG (show gn _ _ _ _ _ {s with heap:=h'.push (seqObj "list" O.toList.toArray 0),toks:=tk} from ?_));refine aY (K5 (K0 P4 ⟨_,Z,rfl⟩ OH (list_sort_tree Z (hI O Y) τ λout π a1 a2 ε=>⟨_,rfl,?_⟩) (args_list_sort _)));obtain⟨e,he⟩:=sortedHeap_at (out:=out) Z;refine eD ⟨_,rfl,h _ tk h'.objs.size out e π (λb o hb=>?_) (Kw hsz) he a1 a2 ε⟩;have α:=fy (β b o hb);rw[sortedHeap_old (v7 α) (by rw[P2];exact K1 α)];exact en _ (β b o hb)
end
end ST
namespace L2
open PySem PySem.Spec PyProof.Rows
section
variable {X:Cx}
def Bk (Q:VK) (x:V) (H1:Hp):Prop:=∃(p:eh) (ns:D'),x= .ref p/\H1 p=aS (.lst (ns.map λn:Nat=>V.int (n:Int)))/\ns.Pairwise (· < ·)/\(∀n∈ns,n < 32)/\∀(D:eh) (O:Hp),H1 D=eC->Same H1 O->O D=aS (.lst (ns.map λn:Nat=>V.int (n:Int)))->Q (.ref D) O
noncomputable def F9 (t:TE):TE:=fun σ H Q=>t σ H (Bk Q)
theorem Gy {t:TE} {σ:St} {H:Hp} {Q:VK} (h:t σ H (Bk Q)):F9 t σ H Q:=h
theorem wR:∀{l O:I8},l.Pairwise (·<=·)->O.Pairwise (·<=·)->l.Perm O->l=O
 | [],O,_,_,p=>(List.nil_perm.mp p).symm ▸ rfl
 | x::l,[],_,_,p=>by have:=p.length_eq;simp at this
 | x::l,y::O,a,b,p=>by
   obtain⟨a1,a2⟩:=L9.mp a;obtain⟨b1,b2⟩:=L9.mp b
   have e:x=y:=by
    rcases u5.mp (p.mem_iff.mp oi) with e | m
    ·exact e
    ·rcases u5.mp (p.mem_iff.mpr (oi (a:=y) (l:=O))) with e | m'
     ·exact e.symm
     ·have:=b1 x m;have:=a1 y m';omega
   subst e;exact y' (x::·) (wR a2 b2 (List.Perm.cons_inv p))
theorem yc {e:x7} {t:TE} {p1 p2 η ε:Pos} (hc:X.calm=true) (g1:Gl X "sorted") (g2:Gl X "set") (n1:X.mg "sorted"=eC) (Y:X.mg "set"=eC) (he:PE X e t)
  (h1:lx [OF (.Name "set" p1) [e] [] p2] X.env=[(false,eval (.Call (.Name "set" p1) [e] [] p2) X.env)]:=by rfl) (h2:lx [e] X.env=[(false,eval e X.env)]:=by rfl):
  PE X (.Call (.Name "sorted" η) [.Call (.Name "set" p1) [e] [] p2] [] ε) (F9 t):=by
 intro pins s σ H Q I h;refine KD (iC I g1 n1 boot_sorted (callWith_builtin1 (Q:=EP X pins σ Q) ?_ h1 rfl));rw[h1];refine Lx ?_;refine OY (iC I g2 Y boot_set (callWith_type1 (thn (aa he af h2 p2 pins s σ H (λvs H1=>match vs with | [x]=>Bk Q x H1 | _=>False) I h) λus O ⟨vs,H1,I1,φ,η⟩=>?_) h2 rfl))
 match vs,φ,η with
 | [x],φ,η=>
 obtain⟨p,ns,rfl,hp,ι,ρ,q⟩:=η;cases φ with
 | cons r rr=>
 cases rr;cases r;obtain⟨z,its,nl,rv,hl,el⟩:=I1.lstM hp;have ο:ns.Nodup:=ι.imp (λh=>v7 h);have β:(ns.map λn:Nat=>V.int (n:Int))=(ns.map (λn:Nat=>(n:Int))).map V.int:=by rw[KR];rfl
 rw[β] at rv;have hi:IntsAre its.toArray.toList (ns.map (λn:Nat=>(n:Int))):=by simpa using km rv
 refine ST.call_set (ns:=ns) (I1.ok.hd hc) ⟨_,el,rfl,_,rfl⟩ hi ρ ο λh' tk hS hsz hk=>?_;refine LI ?_;obtain⟨oS,es,ep,tb,ψ,S⟩:=hS;have I2:Inv X pins σ H1 {O with heap:=h',toks:=tk}:=I1.kept (t':=tk) hk;have b3:es.size=ns.length:=by have:=S.p.length_eq;rw[eB,eY,eB] at this;exact this
 have a6:ns.length<=32:=ST.few (hs:=ns.map (λn:Nat=>(n:Int))) (λy hy=>by obtain⟨m,hm,rfl⟩:=w2.mp hy;exact⟨m,rfl,ρ m hm⟩) (ο.map _ (λa b a3 e=>a3 (MP e))) |> λz=>by rw[eB] at z;exact z
 refine ST.sorted_src (s:={O with heap:=h',toks:=tk}) (ks:=(ST.ord X.w O.heap.objs.size ep es).toList.map (·.1)) (ST.kdl_set S) (I1.ok.hd hc) ψ @A (λa5 α=>?_) λh2 τ a out e2 π a0 ha ζ a4 χ ω=>?_
 ·have ν:((ST.ord X.w O.heap.objs.size ep es).toList.map (·.1)).length=a5.toList.length:=by
   rw[eB,(ST.ord_perm X.w O.heap.objs.size ep es).length_eq,eY,eY,α.1]
  refine km (lY (by rw[eB];exact ν) λi a b ha hb=>?_);rw[f',f',z1] at ha;rw[z1] at hb;obtain⟨e,ξ,rfl⟩:=α.2 i b hb;rw[ξ] at ha;have ha:=iv ha;subst ha;have hm:e∈es.toList:=(ST.ord_perm X.w O.heap.objs.size ep es).mem_iff.mp (eO (by rw[z1];exact ξ));obtain⟨γ,e2⟩:=S.v e hm;exact⟨γ,e2⟩
 ·have υ:π=ns.map (λn:Nat=>(n:Int)):=wR ω (by rw[Md];exact ι.imp (λh=>by omega)) (χ.trans (((ST.ord_perm X.w O.heap.objs.size ep es).map (·.1)).trans S.p));subst υ;have δ:=uu a4;rw[<-β] at δ;have θ:∀b o,O.heap.get? b=aS o->h2.get? b=aS o:=λb o e=>a0 b o (hk b o e);have Z:O.heap.objs.size<=a:=Jx (Kw hsz) ha;have fD:H1 a=none:=I1.hok.fresh Z;refine⟨.ref a,_,I1.laid (t':=τ) θ Z (show fJ X.prog X.w _ h2 _ (.lst (ns.map λn:Nat=>V.int (n:Int))) from⟨by rw[eB,kv];omega,out.toList,e2,δ,by simpa using ζ⟩),rfl,q a _ fD (eX fD) aQ⟩
end
end L2
namespace Z3
open PySem PyProof.Rows
noncomputable abbrev Tr (h:u2) (T:eh) (a b c:fC):Prop:=h.get? T=aS {cls:= .type "tuple",data:= .seq #[a,b,c]}
structure St (h:u2) (n l1 l2 l3 k1 k2 k3:Nat) (f:fC):Prop where
 z:IsZip h (n + 5) (n + 3) (n + 4) f
 ti:Tr h (n + 3) (.ref n) (.ref (n + 1)) (.ref (n + 2))
 to:∃a b c,Tr h (n + 4) a b c
 i1:h.IsListIter n l1 k1
 i2:h.IsListIter (n + 1) l2 k2
 i3:h.IsListIter (n + 2) l3 k3
noncomputable abbrev it (l:eh):Obj:={cls:= .type "list_iterator",data:= .fields #[.ref l,.int 0 0]}
end Z3
namespace L2
open PySem PySem.Spec PyProof.Rows
end L2
namespace LM
open PySem PySem.Spec PyProof.Rows PySem.W L2
structure KP (fs:G') (h h':u2):Prop where
 keep:∀b o,h.get? b=aS o->b∉fs->h'.get? b=aS o
 slot:∀b o,h.get? b=aS o->b∈fs->∃sl,h'.get? b=aS {o with slots:=sl}
section
variable {fs:G'} {h h1 h2:u2}
theorem KP.of (k:∀b o,h.get? b=aS o->h1.get? b=aS o):KP fs h h1:=⟨λb o e _=>k b o e,λb o e _=>⟨o.slots,k b o e⟩⟩
theorem KP.trans (x:KP fs h h1) (y:KP fs h1 h2):KP fs h h2:=
 ⟨λb o e n=>y.keep b o (x.keep b o e n) n,λb o e n=>by
  obtain⟨Z,e1⟩:=x.slot b o e n;obtain⟨O,Y⟩:=y.slot b _ e1 n;exact⟨O,Y⟩⟩
theorem KP.but {a:eh} (x:KP fs h h1) (n:h.get? a=eC) (k:∀b,b≠a->h2.get? b=h1.get? b):KP fs h h2:=by
 have ne:∀b o,h.get? b=aS o->b≠a:=λb o e z=>by rw[z,n] at e;cases e
 exact⟨λb o e m=>(k b (ne b o e)).trans (x.keep b o e m),λb o e m=>by
  obtain⟨O,e1⟩:=x.slot b o e m;exact⟨O,(k b (ne b o e)).trans e1⟩⟩
end
structure Rl (fs:G') (s s':eL):Prop where
 os:s'.os=s.os
 bare:AllBare s'.gens
 kp:KP fs s.heap s'.heap
theorem Rl.trans {fs:G'} {s Y O:eL} (x:Rl fs s Y) (y:Rl fs Y O):Rl fs s O:=⟨y.os.trans x.os,y.bare,x.kp.trans y.kp⟩
section
variable {prog:oe} {w:sb} {A:u7} {E:DB} {s s0:eL} {fs:G'} {a kS:eh} {vs:Dd} {kz:I8} {keys:Dz} {e e1:Nat} {P:PySem.Fin->eL->Prop}
theorem xo {st:SortSt} (R:Rl fs s0 s) (hk:s.heap.get? kS=aS (seqObj "list" keys e)) (ha:s.heap.get? a=aS (seqObj "list" #[] e1)) (Z:kS≠a) (β:s0.heap.get? kS=eC) (na:s0.heap.get? a=eC)
  (hi:IntsAre keys.toList kz) (ε:kz.length=vs.length) (η:vs.length < 64) (hp:(arrOf st).Perm (keys.zip vs.toArray)) (hs:SortedTo (arrOf st) (arrOf st).size) (α:failedOf st=eC)
  (h:∀s' out c,Rl fs s0 s'->s'.heap.get? a=aS (seqObj "list" out c)->KskOut false kz vs out.toList->P (.done (.ret .none)) s'):
  gn (hL prog w) A (ksk_tail a false e1 (.ref kS) st) P E s:=by
 have hsz:keys.size=vs.length:=by
  have h1:=hi.length;rw[eY] at h1;omega
 have Y:(arrOf st).size=vs.length:=by rw[hp.size_eq,Qo,hsz,q6,Ou]
 have δ:=t7 s.heap kS (w1 λ_=>(#[]:Dz));have O:=(δ.2 a Z.symm).trans ha;unfold ksk_tail;dsimp only;refine aY (NS hk rfl ?_ (by rw[hsz,kv];omega) (Ka _));refine aY (wpAny_letGo ?_);refine aY (seqEpoch_at O rfl ?_)
 refine aY (NS O rfl ?_ (Ka _) (by
  simp only[JO,Mb,Array.size_map];rw[Y,kv];omega))
 rw[α];simp only[bne_self_eq_false,JO,Mb];obtain⟨ι,γ⟩:∃ι,((s.heap.update kS (w1 λ_=>(#[]:Dz))).update a (w1 λ_=>(arrOf st).map (·.2))).get? a=aS (seqObj "list" ((arrOf st).map (·.2)) ι):=⟨_,OG O λ_=>(arrOf st).map (·.2)⟩;have ζ:=t7 (s.heap.update kS (w1 λ_=>(#[]:Dz))) a (w1 λ_=>(arrOf st).map (·.2));exact eD (h _ _ ι ⟨R.os,R.bare,(R.kp.but β δ.2).but na ζ.2⟩ γ (ksk_out hi hp hs))
theorem Fo (R:Rl fs s0 s) (hk:s.heap.get? kS=aS (seqObj "list" keys e)) (ha:s.heap.get? a=aS (seqObj "list" #[] e1)) (α:kS≠a) (β:s0.heap.get? kS=eC) (na:s0.heap.get? a=eC)
  (hi:IntsAre keys.toList kz) (O:kz.length=vs.length) (Z:vs.length < 64)
  (h:∀s' out c,Rl fs s0 s'->s'.heap.get? a=aS (seqObj "list" out c)->KskOut false kz vs out.toList->P (.done (.ret .none)) s'):
  gn (hL prog w) A (ksk_end a false vs.toArray e1 (.ref kS) keys) P E s:=by
 have hsz:keys.size=vs.length:=by
  have h1:=hi.length;rw[eY] at h1;omega
 have Y:(keys.zip vs.toArray).size=vs.length:=by rw[Qo,hsz,q6,Ou]
 unfold ksk_end;simp only[JO,Mb];by_cases h2:vs.toArray.size < 2
 ·rw[px h2,px h2];refine aY (eD ?_);rw[StateT.run_pure];refine aY (eD ?_);dsimp only;refine xo (st:=QP general' (keys.zip vs.toArray) #[] 7 eC) R hk ha α β na hi O Z (Pa _) ?_ rfl h;intro i j ε δ;have γ:j < (keys.zip vs.toArray).size:=δ;rw[Y] at γ;rw[q6] at h2;have:i=j:=by omega
  subst this;exact Int.le_refl _
 ·rw[ko h2,ko h2];rw[q6] at h2;rw[ksk_kind hi (by rw[hsz];omega)];refine aY (eD ?_)
  refine aY (JW (wpS_sortRuns (a₀:=keys.zip vs.toArray) (st:=QP oneType' (keys.zip vs.toArray) #[] 7 eC)
   (Q:=λ_ ω=>(arrOf ω).Perm (keys.zip vs.toArray)/\failedOf ω=eC/\SortedTo (arrOf ω) (keys.zip vs.toArray).size)
   (ksk_intKeys hi) ⟨Pa _,rfl,rfl,rfl⟩ (by rw[Y];omega) (by rw[Y];exact Z) fun ω a1 a2 ζ=>⟨a1,a2,ζ⟩) ?_ λ_ _ z=>z)
  rintro⟨⟨⟩,ω⟩ s' ⟨rfl,hp,hf,hs⟩;dsimp only;exact xo R hk ha α β na hi O Z hp (by rw[hp.size_eq];exact hs) hf h
theorem Ci {f:fC} (R:Rl fs s0 s) (hk:s.heap.get? kS=aS (seqObj "list" #[] 0)) (ha:s.heap.get? a=aS (seqObj "list" #[] e1)) (ε:kS≠a) (β:s0.heap.get? kS=eC) (na:s0.heap.get? a=eC) (υ:kS∉fs) (ρ:a∉fs)
  (θ:vs.length < 64)
  (δ:∀(i:Nat) (v:fC),vs[i]? =aS v->∀s',Rl fs s0 s'->gn (hL prog w) A (call f [v]) (λu α=>(∃k t,u= .int k t)/\Rl fs s' α) (λ_ _=>False) s')
  (h:∀s' out c kz,Rl fs s0 s'->s'.heap.get? a=aS (seqObj "list" out c)->kz.length=vs.length->KskOut false kz vs out.toList->P (.done (.ret .none)) s'):
  gn (hL prog w) A (ksk_rest a f false vs.toArray e1 (.ref kS)) P E s:=by
 unfold ksk_rest;refine aY (NU ?_);rw[List.forIn_toArray]
 refine aY (ksk_fold (λi s'=>∃(γ:Dz) (e:Nat),Rl fs s0 s'/\s'.heap.get? kS=aS (seqObj "list" γ e)/\s'.heap.get? a=aS (seqObj "list" #[] e1)/\∃ks:I8,ks.length=i/\IntsAre γ.toList ks) vs 0 s
  ⟨#[],0,R,hk,ha,[],rfl,IntsAre.nil⟩ ?step ?done)
 case step=>
  rintro j x s' ο ⟨γ,e,R',ζ,ν,ks,Y,hi⟩;simp only[M'] at Y ⊢;have χ:j < vs.length:=(dt.mp ο).1
  have hz:γ.size<=vs.length:=by
   have h1:=hi.length;rw[eY] at h1;omega
  refine aY (NQ (JW (δ j x ο s' R') (λu α he=>?_) λ_ _ O=>O.elim));obtain⟨⟨k,Z,rfl⟩,R2⟩:=he;dsimp only;have k2:=R2.kp.keep _ _ ζ υ;have a2:=R2.kp.keep _ _ ν ρ;have ξ:=t7 α.heap kS (w1 (·.push (.int k Z)));obtain⟨ι,η⟩:∃ι,(α.heap.update kS (w1 (·.push (.int k Z)))).get? kS=aS (seqObj "list" (γ.push (.int k Z)) ι):=⟨_,OG k2 (·.push (.int k Z))⟩;have ea:(γ.push (Mu k Z)).toList=γ.toList++[Mu k Z]:=by simp
  refine aY (NS k2 rfl ?_ (by rw[kv];omega) (Jx (NL (M0 ..)) (by rw[kv];omega)));have RR:=R'.trans R2;exact eD ⟨rfl,γ.push (.int k Z),ι,⟨RR.os,RR.bare,RR.kp.but β ξ.2⟩,η,(ξ.2 a ε.symm).trans a2,ks++[k],by rw[eH,Y];rfl,by rw[ea];exact ksk_snoc hi⟩
 case done=>
  rintro s' ⟨γ,e,R',ζ,ν,ks,Y,hi⟩;simp only[M'] at Y;refine aY (listItems_at ζ rfl ?_);exact Fo R' ζ ν ε β na hi Y θ fun α out c π φ τ=>h α out c ks π φ Y τ
theorem Cg {f:fC} {n:Nat} (R:Rl fs s0 s) (ha:s.heap.get? a=aS (seqObj "list" vs.toArray n)) (na:s0.heap.get? a=eC) (δ:∀b∈fs,b < s0.heap.objs.size) (hsz:s0.heap.objs.size<=s.heap.objs.size)
  (ε:vs.length < 64)
  (Y:∀(i:Nat) (v:fC),vs[i]? =aS v->∀s',Rl fs s0 s'->gn (hL prog w) A (call f [v]) (λu ζ=>(∃k t,u= .int k t)/\Rl fs s' ζ) (λ_ _=>False) s')
  (γ:a∉fs)
  (h:∀s' out c kz,Rl fs s0 s'->s'.heap.get? a=aS (seqObj "list" out c)->kz.length=vs.length->KskOut false kz vs out.toList->P (.done (.ret .none)) s'):
  gn (hL prog w) A (ksk_tree a f false) P E s:=by
 have α:a < s.heap.objs.size:=fy ha;have η:=t7 s.heap a (w1 λ_=>(#[]:Dz));obtain⟨e1,Z⟩:∃e1,(s.heap.update a (w1 λ_=>(#[]:Dz))).get? a=aS (seqObj "list" #[] e1):=⟨_,OG ha λ_=>#[]⟩;have O:((s.heap.update a (w1 λ_=>(#[]:Dz))).push (seqObj "tuple" vs.toArray 0)).objs.size=s.heap.objs.size + 1:=by rw[P2,Heap.size_update]
 unfold ksk_tree;refine aY (listItems_at ha rfl ?_);refine aY (NS ha rfl ?_ (by rw[q6,kv];omega) (Ka _));refine aY (seqEpoch_at Z rfl ?_);refine aY (wpAny_newTuple ?_ (by show vs.length<=_;rw[kv];omega));refine aY (LG ?_ (Ka _));refine K5 ?_;have β:s0.heap.get? (s.heap.objs.size + 1)=none:=Kg @A
 refine Ci (kS:=((s.heap.update a (w1 λ_=>(#[]:Dz))).push (seqObj "tuple" vs.toArray 0)).objs.size) (e1:=e1) ⟨R.os,R.bare,(R.kp.but na η.2).trans (KP.of λb o e=>en _ (en _ e))⟩ (hG _ rfl) (en _ (en _ Z)) (by rw[O];exact Jr (K1 α)) (by rw[O];exact β) na
  (λz=>by rw[O] at z;exact gd (δ _ z) (M9.mpr (Jx hsz (KS _)))) γ ε Y h
end
section
variable {prog:oe} {w:sb} {A:u7} {E:DB} {s:eL}
theorem wk {r:eh} {a b:Int} {t u v:Tok} {n:Nat} {Q:Dd->eL->Prop} (γ:A.handled=eC) (β:IsRange s.heap r a b 1 t u v) (ε:O2 a b 1=true) (hn:M8 a b 1=n) (O:n<=2 ^ 24)
  (h:∀h' tk (Z:Dz),(∀b o,s.heap.get? b=aS o->h'.get? b=aS o)->s.heap.objs.size<=h'.objs.size->ItemsOf (λi v=>∃t,v= .int (a + i * 1) t) Z n->Q Z.toList {s with heap:=h',toks:=tk}):
  gn (hL prog w) A (collect (.ref r)) Q E s:=by
 unfold collect;refine aY (Nj (JH Nk ?_));refine aY (m:=newList []) (LG (eD ⟨Mg _ @G,JH Om ?_⟩));rw[JP mW _]
 refine wpAny_extend_range (R:=λr s'=>match r with
   | MS (Pd v)=>gn (hL prog w) A (match v with
     | sC a=>do
       let o <-load a
       match o.data with
       | .seq xs _=>pure xs.toList
       | _=>unsupported "internal:collect"
     | _=>unsupported "internal:collect") Q E s'
   | MS _=>False
   | OB e=>E e s') (s:={s with heap:=s.heap.push (seqObj "list" #[] 0)}) γ (en _ β) ε hn O s.heap.objs.size _ 0 (hG _ rfl) (λh' tk ζ δ hk α Y=>?_)
 refine aY (m:=load s.heap.objs.size) (P1 α ?_);exact eD (h h' tk ζ (λb o e=>hk b o (v7 (fy e)) (en _ e)) (Kw (fy α)) Y)
theorem BN (n:Nat):M8 0 n 1=n:=by rw[Pk];split<;>omega
theorem zH {n:Nat} (h:n < 64):O2 0 n 1=true:=small_one @A @A @A @A
theorem xT {r q:eh} {n:Nat} {t u v:Tok} {fs:G'} {Q:DB} (υ:A.handled=eC) (ρ:IsRange s.heap r 0 n 1 t u v) (ξ:n < 64) (bare:AllBare s.gens) (δ:∀b∈fs,b < s.heap.objs.size)
  (α:∀(i:Nat) (t:Tok),i < n->∀s',Rl fs s s'->gn (hL prog w) A.in1.in1 (call (.ref q) [.int i t]) (λu ο=>(∃k t,u= .int k t)/\Rl fs s' ο) (λ_ _=>False) s')
  (h:∀D s' (out:Dz) c (ns:D'),Rl fs s s'->s.heap.objs.size<=D->s'.heap.get? D=aS (seqObj "list" out c)->IntsAre out.toList (ns.map λn:Nat=>(n:Int))->ns.Perm (hE n)->Q (.ref D) s'):
  gn (hL prog w) A (call (.builtin "sorted") [.ref r] [(Lk "key",.ref q)]) Q E s:=by
 refine call_function_entry_kw Qb PD PF (ksk_s1 _ _) ?_;unfold Builtin.«sorted»;refine aY (m:=checkCount "sorted" 1 1 _) (eD ?_);refine aY (wk (by exact υ) ρ (zH ξ) (n:=n) (BN n) @A λh' tk O ι hsz Y=>?_);have τ:O.toList.length=n:=by rw[eY,Y.1]
 have ε:(h'.push (seqObj "list" O.toList.toArray 0)).get? h'.objs.size=aS (seqObj "list" O.toList.toArray 0):=hG _ rfl;refine aY (LG (show gn _ _ _ _ _ {s with heap:=h'.push (seqObj "list" O.toList.toArray 0),toks:=tk} from ?_));refine aY (K5 (wpAny_call_entry_kw P4 ⟨_,ε,rfl⟩ OH ?body (ksk_l1 _ _)))
 case body=>
  rw[ksk_t1];refine Cg (s0:=s) (fs:=fs) (vs:=O.toList) ⟨rfl,bare,KP.of λb o e=>en _ (ι b o e)⟩ ε (Kg hsz) δ (by rw[P2];exact Ms hsz) @A (λi v β s' R=>?_) (λz=>gd (δ _ z) (M9.mpr hsz)) λs' out c kz R he η π=>?_
  ·have hi:i < n:=by have:=(dt.mp β).1;rw[τ] at this;exact this
   rw[z1] at β;obtain⟨t,rfl⟩:=Y.2 i v β;rw[show(0:Int) + (i:Int) * 1=i by omega];exact α i t hi s' R
  ·refine⟨_,rfl,eD ⟨_,rfl,?_⟩⟩
   have hI:IntsAre O.toList ((hE n).map λi:Nat=>(i:Int)):=by
    refine km (lY (by rw[eB,eB,q7,τ]) λi x y Z θ=>?_);rw[f',f'] at Z;rw[z1] at θ;obtain⟨t,rfl⟩:=Y.2 i y θ;have hi:i < n:=by rw[<-Y.1];exact(Kr.mp θ).1
    rw[JN hi] at Z;have Z:V.int (i:Int)=x:=iv Z;subst Z;exact⟨t,by rw[show(0:Int) + (i:Int) * 1=i by omega]⟩
   obtain⟨ps,hp,ho,_⟩:=π
   have γ:out.toList.Perm O.toList:=by
    have h1:=hp.map Prod.snd;rw[List.map_snd_zip (by rw[η];exact mu _),<-ho] at h1;exact h1
   have ν:IntsAre out.toList (out.toList.map numOf):=intsAre_map _ λv β=>hI.all _ (γ.mem_iff.mp β)
   have ζ:(out.toList.map numOf).Perm ((hE n).map λi:Nat=>(i:Int)):=by
    have h1:=γ.map numOf;rw[hI.nums] at h1;exact h1
   have e1:((out.toList.map numOf).map LD).map (λn:Nat=>(n:Int))=out.toList.map numOf:=by
    rw[KR];refine(Li λx Z=>?_).trans (Ot _);obtain⟨i,_,e⟩:=w2.mp (ζ.mem_iff.mp Z);show((x.toNat:Nat):Int)=x;omega
   refine h _ s' out c ((out.toList.map numOf).map LD) R hsz he (by rw[e1];exact ν) ?_;have h2:=ζ.map LD
   have φ:((hE n).map λi:Nat=>(i:Int)).map LD=hE n:=by
    rw[KR];exact(Li (g:=id) λ(x:Nat) _=>pT x).trans (Ot _)
   rw[φ] at h2;exact h2
end
noncomputable abbrev H0:Hp:=λ_=>eC
noncomputable def CQ (P:oe) (w:sb) (K:Frag) (mg:Dk) (base:u2) (N:C') (qual:u3) (scope:Jq) (f:eh) (cd:fC) (O:J5) (A:u7) (outer:eA Env) (s:eL):Cx where
 prog:=P
 w:=w
 K:=K
 mg:=mg
 base:=base
 A:=A.deeper (envX qual scope s.heap.objs.size f cd O)
 N:=N
 s₀:=s
 H₀:=H0
 env:=envX qual scope s.heap.objs.size f cd O
 outer:=outer
 stack:=envX qual scope s.heap.objs.size f cd O::outer
 ex:=[]
 fn:=λ_=>false
 calm:=true
 pn:=[]
 xe:=λ_ _=>False
section
variable {X:Cx} {pins:DC} {σ:L2.St} {H:Hp} {s s':eL}
theorem Hr (I:Inv X pins σ H s) (R:Rl (frs X.stack) s s'):Inv X pins σ H s':=by
 obtain⟨ζ,g,d,t,O⟩:=s';obtain rfl:O=s.os:=R.os;refine I.call (h':=ζ) (g':=g) (d':=d) (t':=t) (ch:=[]) ⟨λb o e n hb _=>R.kp.keep b o e hb,λb o e n hb _=>R.kp.slot b o e hb,λ_ _ _ n _=>n,λb o e _=>?_,λ_ _ e=>e,λ_ _ _ e=>e,λb ps e=>⟨#[],by rw[e];simp⟩⟩ (λb u e=>?_) R.bare (λb z=>gd z @E)
 ·by_cases hb:b∈frs X.stack
  ·obtain⟨Y,q⟩:=R.kp.slot b o e hb;exact⟨_,q⟩
  ·exact⟨o,R.kp.keep b o e hb⟩
 ·refine(I.hok b u e).stay (λc v hc q=>R.kp.keep c v q λz=>?_) (λ_ q=>q) λ_ _ q=>q;have hn:=I.stkFree c z;rcases hc with rfl | hc
  ·rw[e] at hn;cases hn
  ·rw[hc] at hn;cases hn
theorem Fl {N:C'} {qual:u3} {scope:Jq} {f c:eh} {cd:fC} {A:u7} {p x:u3} {j:Nat} {v v1:V} {ε:fC} {h1:u2} {tk:Nat}
  (I:Inv X pins σ H s) (hA:A.frames=aS X.stack) (ζ:A.handled=eC) (hk:scope.kind= .function) (θ:N=[p,x]) (hp:scope.names.lookup p=aS .local) (π:scope.names.lookup x=aS .free)
  (η:∀y,(scope.names.lookup y=aS .cell∨scope.names.lookup y=aS .free)->y=x) (τ:p≠x)
  (φ:X.N[j]? =aS x) (ρ:σ[j]? =aS (aS v)) (γ:X.env.scope.names.lookup x=aS .cell) (χ:X.env.cells.lookup x=aS c) (ν:RelV v1 ε)
  (υ:h1.Ns s.heap.objs.size (λy=>[(p,ε)].reverse.lookup y)) (α:∀b o,s.heap.get? b=aS o->h1.get? b=aS o):
  Inv (CQ X.prog X.w X.K X.mg X.base N qual scope f cd [(x,c)] A X.stack s) [] [aS v1,aS v] H0 {s with heap:=h1,toks:=tk}:=by
 have O:∀{y:u3} {d:eh},([(x,c)]:J5).lookup y=aS d->y=x/\d=c:=λ{y d} e=>by
  rcases iB e with z | ⟨_,z⟩
  ·exact z
  ·cases z
 obtain⟨m,hm,hl⟩:=I.loc;obtain⟨u,ι,lk⟩:=hl j x v φ ρ (.inr (.inl γ))
 have Y:s.heap.IsCell c (aS u):=by
  rcases lk with ⟨z,_⟩ | ⟨_,d,e,ξ⟩
  ·have z:X.env.scope.names.lookup x=aS .local:=z;rw[γ] at z;cases z
  ·rw[χ] at e;cases e;exact ξ
 have β:∀b:eh,b∉(CQ X.prog X.w X.K X.mg X.base N qual scope f cd [(x,c)] A X.stack s).ex:=λb z=>gd (show b∈([]:G') from z) @E
 refine⟨⟨I.ok.mod,hk,rfl,rfl,mu _,λy z d e1 Z=>(O e1).1.trans (O Z).1.symm,λy ο=>⟨c,?_⟩,λy d z _=>gd (show false=true from z) @C,λ_=>ζ,OX hA,.inr ⟨rfl,rfl⟩,λb z=>gd z (β b),
   λb o e=>⟨I.bk b o e,rfl⟩,Jx I.ok.bsz I.sz,λb _ _=>β b,λb z=>gd z (β b),I.stack,λ_ _=>rfl⟩,
  rfl,I.bare,Un.kept α,⟨_,υ,λi y δ e1 Z ψ=>?_⟩,λy d e=>?_,rfl,λ_ _ _=>rfl,λp hp=>gd (show p∈([]:DC) from hp) @E,λb u e=>?_,by show 2=N.length;rw[θ];rfl⟩
 ·rw[η y ο];exact vO
 ·have e1:N[i]? =aS y:=e1;rw[θ] at e1
  match i,e1,Z with
  | 0,e1,Z=>
    cases e1;cases Z;exact⟨ε,ν,.inl ⟨hp,by show([(p,ε)]:J6).lookup p=_;rw[KI];simp⟩⟩
  | 1,e1,Z=>
    cases e1;cases Z;exact⟨u,ι,.inr ⟨.inr π,c,vO,Y.keeps α⟩⟩
  | i + 2,e1,Z=>simp at e1
 ·obtain⟨rfl,rfl⟩:=O e;exact⟨_,Y.keeps α⟩
 ·have e:(eC:nk HO)=aS u:=e;cases e
end
structure C6 (p x:u3) (scope:Jq):Prop where
 kind:scope.kind= .function
 co:scope.isCoroutine=false
 gen:scope.isGenerator=false
 noc:∀y∈scope.names,y.2≠.cell
 par:scope.names.lookup p=aS .local
 sh:scope.names.lookup x=aS .free
 one:∀y∈scope.names,y.2= .free->y.1=x
 ne:p≠x
noncomputable def Fn (p x:u3) (scope:Jq):Bool:=decide (scope.kind= .function)&& !scope.isCoroutine&& !scope.isGenerator&&decide (∀y∈scope.names,y.2≠.cell)&&decide (scope.names.lookup p=aS .local)&&decide (scope.names.lookup x=aS .free)&&decide (∀y∈scope.names,y.2= .free->y.1=x)&&decide (p≠x)
theorem C6.of {p x:u3} {scope:Jq} (h:Fn p x scope=true):C6 p x scope:=by
 simp only[Fn,xn,KQ,Ny] at h;obtain⟨⟨⟨⟨⟨⟨⟨h1,h2⟩,α⟩,Z⟩,θ⟩,δ⟩,Y⟩,O⟩:=h;exact⟨h1,h2,α,Z,θ,δ,Y,O⟩
section
variable {X:Cx} {pins:DC} {σ:L2.St} {H:Hp} {s s':eL}
theorem Fk {N:C'} {qual:u3} {Y:Arguments} {body:x7} {scope:Jq} {q c α:eh} {ο γ:fC} {A:u7} {p x:u3} {j:Nat} {v v1:V} {δ:fC} {te:TE}
  (I:Inv X pins σ H s) (hA:A.frames=aS X.stack) (ζ:A.handled=eC) (Z:A.depth < recursionLimit) (S:C6 p x scope) (ω:N=[p,x])
  (χ:X.N[j]? =aS x) (φ:σ[j]? =aS (aS v)) (θ:X.env.scope.names.lookup x=aS .cell) (ψ:X.env.cells.lookup x=aS c) (ρ:RelV v1 δ)
  (ho:s.heap.get? q=aS (QJ "<lambda>" qual Y body scope [(x,c)] ο α γ)) (ν:s.heap.CodeRec (.ref α) qual)
  (hb:∀u,bindArgs (kla_fn "<lambda>" qual Y body scope [(x,c)] ο (.ref α) γ) ⟨[u],[]⟩=pure [(p,u)])
  (τ:PE (CQ X.prog X.w X.K X.mg X.base N qual scope q (.ref α) [(x,c)] A X.stack s) body te) (ht:te [aS v1,aS v] H0 (fun ξ _=>∃k,ξ= .int k)):
  gn (hL X.prog X.w) A (call (.ref q) [δ]) (λu ε=>(∃k t,u= .int k t)/\Rl (frs X.stack) s ε) (λ_ _=>False) s:=by
 refine NV (kla_callFunE Z ho rfl S.co S.gen rfl ν ?_);rw[hb];refine eD (Qe S.noc (λy η=>by rw[fk.mp η];exact S.par) (λh1 υ ι=>?_) S.kind);have β:∀b o,s.heap.get? b=aS o->h1.get? b=aS o:=λb o e=>ι.extBut b o (v7 (fy e)) (en _ e);refine⟨I.nolimit.keeps β,?_⟩;show codeAny _ _ (.expr body (envX qual scope s.heap.objs.size q (.ref α) [(x,c)])) _ _
 have O:=Fl (N:=N) (qual:=qual) (f:=q) (cd:= .ref α) (tk:=s.toks + [(p,δ)].length) I hA ζ S.kind ω S.par S.sh (λy η=>by
  rcases η with z | z
  ·exact gd rfl (S.noc _ (u9 z))
  ·exact S.one _ (u9 z) rfl) S.ne χ φ θ ψ ρ υ β
 refine kla_codeExpr (JW (τ [] _ _ H0 _ O ht) (λu ε h=>?_) λe ε h=>z4 h);obtain⟨ξ,H',J,π,k,rfl⟩:=h;obtain⟨t,rfl⟩:=π;exact⟨⟨k,t,rfl⟩,J.os,J.bare,⟨λb o e hb=>J.base.keep b o e rfl hb (by intro z;exact gd (show b∈([]:G') from z) @E),λb o e hb=>J.base.slot b o e rfl hb (by intro z;exact gd (show b∈([]:G') from z) @E)⟩⟩
end
structure LamB (mg:Dk) (base:u2) (f P:eh):Prop where
 tab:∃(o:NJ) (fd:hP) (c:eh),base.get? f=aS o/\o.data= .func fd/\fd.code= .ref c/\CodeHd base c P
 bm:∃bm ob,mg "__builtins__"=aS (.ref bm)/\bm≠builtinsNs/\base.get? bm=aS ob/\ob.cls= .type "module"/\ob.dict=aS builtinsNs/\ob.data= .plain
noncomputable def FO (qual:u3) (c:eh):HO:= .ext λh=>h.CodeRec (.ref c) qual
def TabL (pos:Pos) (qual:u3) (P:eh) (H:Hp):Prop:=H P=aS (.tbl #[])∨∃c,c≠P/\H P=aS (.tbl #[rawInt pos.line,rawInt pos.col,.ref c])/\H c=aS (FO qual c)
theorem Dy {h1 h2:u2} {c:eh} {qual:u3} (x:h1.CodeRec (.ref c) qual) (k:∀o,h1.get? c=aS o->h2.get? c=aS o):h2.CodeRec (.ref c) qual:=by
 obtain⟨ι,o,vs,t,e,g,r⟩:=x;cases e;exact⟨c,o,vs,t,rfl,k _ g,r⟩
theorem GT {h1:u2} {c:eh} {qual:u3} (x:h1.CodeRec (.ref c) qual):∃o,h1.get? c=aS o:=by
 obtain⟨ι,o,vs,t,e,g,r⟩:=x;cases e;exact⟨o,g⟩
section
variable {X:Cx} {pins:DC} {σ:L2.St} {H:Hp} {s s':eL}
theorem fr_lt (I:Inv X pins σ H s):∀b∈frs X.stack,b < s.heap.objs.size:=λb hb=>by
 obtain⟨_,o,ho,_⟩:=I.stack.mem hb;exact fy ho
theorem Fv {P c:eh} {ps more:Dz} {qual:u3} {h1:u2} {tk:Nat} (I:Inv X pins σ H s) (ζ:H P=aS (.tbl ps)) (hx:∀b o,b≠P->s.heap.get? b=aS o->h1.get? b=aS o) (β:h1.get? P=aS (tabObj (ps++more))) (hc:s.heap.objs.size<=c) (Y:h1.CodeRec (.ref c) qual):
  Inv X pins σ (upd (upd H P (.tbl (ps++more))) c (FO qual c)) {s with heap:=h1,toks:=tk}:=by
 have ν:s.heap.get? P=aS (tabObj ps):=I.hok P _ ζ;have θ:P < s.heap.objs.size:=fy ν;have ξ:c≠P:=λz=>by rw[z] at hc;exact gd θ (M9.mpr hc)
 have hn:H c=none:=I.hok.fresh hc;have η:∀b,H b=eC->b≠P:=λb n z=>by rw[z,ζ] at n;cases n
 have O:∀b,b≠P->b≠c->upd (upd H P (.tbl (ps++more))) c (FO qual c) b=H b:=λb ε γ=>by rw[aH γ,aH ε]
 have Z:∀b u,H b=aS u->b≠c:=λb u e=>ar e hn;have α:∀b u,H b=aS u->(∀ps,u≠.tbl ps)->b≠P:=λb u e ε γ=>by rw[γ,ζ] at e;cases e;exact ε ps rfl
 refine I.un (t':=tk) ⟨λb o e n _ _=>hx b o (η b n) e,λb o e n _ _=>⟨o.slots,hx b o (η b n) e⟩,λb o e n _=>?_,λb o e _=>?_,λb xs e=>?_,λb o u e=>?_,λb ι e=>?_⟩ λb u e=>?_
 ·rw[O b (η b n) (λz=>by rw[z] at e;exact gd (fy e) (M9.mpr hc))];exact n
 ·by_cases z:b=P
  ·rw[z];exact⟨_,β⟩
  ·exact⟨o,hx b o z e⟩
 ·rw[O b (α b _ e λ_ z=>by cases z) (Z b _ e)];exact e
 ·rw[O b (α b _ e λ_ z=>by cases z) (Z b _ e)];exact e
 ·by_cases z:b=P
  ·subst z;rw[ζ] at e;cases e;exact⟨more,by rw[aH ξ.symm,aQ]⟩
  ·exact⟨#[],by rw[O b z (Z b _ e),e];simp⟩
 ·by_cases z:b=c
  ·subst z;rw[aQ] at e;cases e;exact⟨Y,GT Y,λh1 h2 x k=>Dy x k⟩
  ·rw[aH z] at e;by_cases δ:b=P
   ·subst δ;rw[aQ] at e;cases e;exact β
   ·rw[aH δ] at e;refine(I.hok b u e).stay (λd v hd q=>hx d v ?_ q) (λd q=>?_) λd xs q=>?_
    ·rcases hd with z | z
     ·rw[z];exact δ
     ·exact α d _ z λ_ z=>by cases z
    ·rw[O d (α d _ q λ_ z=>by cases z) (Z d _ q)];exact q
    ·rw[O d (α d _ q λ_ z=>by cases z) (Z d _ q)];exact q
theorem Hh {O:Arguments} {body:x7} {scope:Jq} {pos:Pos} {f c P:eh} {x:u3} {cd:eh} (I:Inv X pins σ H s) (δ:X.env.code= .ref cd) (C:CodeHd X.base cd P) (B:LamB X.mg X.base f P) (T:TabL pos (X.env.qual++"<lambda>") P H)
  (θ:defaultsOf O X.env=([],[])) (ι:closureFor scope X.env=pure [(x,c)]):
  gn (hL X.prog X.w) X.A (eval (.Lambda O body scope pos) X.env) (λu ζ=>∃(q Z:eh) (H2:Hp) (pm α:fC),u= .ref q/\Inv X pins σ H2 ζ/\TabL pos (X.env.qual++"<lambda>") P H2/\(∀b o,b≠P->H b=aS o->H2 b=aS o)/\
   ζ.heap.get? q=aS (QJ "<lambda>" (X.env.qual++"<lambda>") O body scope [(x,c)] pm Z α)/\ζ.heap.CodeRec (.ref Z) (X.env.qual++"<lambda>")/\q∉frs X.stack/\Z∉frs X.stack/\(∀b o,b≠P->s.heap.get? b=aS o->ζ.heap.get? b=aS o)/\s.heap.objs.size<=ζ.heap.objs.size) X.xe s:=by
 refine kla_eval θ ?_;obtain⟨bm,ob,b1,b2,ξ,b4,b5,ω⟩:=B.bm;have η:=I.mod.glob.keeps I.bk
 have χ:∃ps,H P=aS (.tbl ps):=by
  rcases T with e | ⟨_,_,e,_⟩
  ·exact⟨_,e⟩
  ·exact⟨_,e⟩
 obtain⟨a0,Y⟩:=χ
 have nP:∀b o,X.base.get? b=aS o->b≠P:=λb o e z=>by
  have:=(I.bs b o e).2;rw[z,Y] at this;cases this
 have υ:JG≠P:=by
  obtain⟨o,es,ep,e,_⟩:=I.mod.glob;exact nP _ _ e
 have φ:bm≠mainGlobals:=λz=>by
  obtain⟨o,es,ep,e,hd,_⟩:=I.mod.glob;rw[z,e] at ξ;cases ξ;rw[hd] at ω;cases ω
 have hB:s.heap.BuiltinsAt X.mg P:=⟨bm,ob,b1,b2,φ,nP _ _ ξ,I.bk _ _ ξ,b4,b5,ω⟩;have CC:=C.keeps I.bk;have ε:∀b,s.heap.objs.size<=b->b∉frs X.stack:=λb hb z=>gd (fr_lt I b z) (M9.mpr hb);rcases T with e | ⟨Z,ρ,e,ψ⟩
 ·have ν:s.heap.get? P=aS (tabObj #[]):=I.hok P _ e;refine kla_makeFunction (mg:=X.mg) ι I.ok.glob η δ CC ν trivial rfl υ hB λZ α h' tk hx γ τ β π=>?_;have ο:=fy ν;have cP:Z≠P:=λz=>by rw[z] at γ;exact gd ο (M9.mpr γ)
  have hsz:s.heap.objs.size<=h'.objs.size:=Jx γ (Kw τ);have kx:∀b o,b≠P->s.heap.get? b=aS o->(h'.push (QJ "<lambda>" (X.env.qual++"<lambda>") O body scope [(x,c)] ((X.mg "__name__").getD .none) Z α)).get? b=aS o:=λb o z q=>en _ (hx b o z q);refine⟨_,Z,_,_,α,rfl,Fv (c:=Z) (tk:=tk) I e kx (en _ π) γ (β.push _),.inr ⟨Z,cP,by rw[aH cP.symm,aQ];rfl,aQ⟩,λb o z q=>?_,hG _ rfl,β.push _,ε _ hsz,ε _ γ,kx,by rw[z3];exact Ms hsz⟩;rw[aH (ar q (I.hok.fresh γ)),aH z];exact q
 ·have ν:s.heap.get? P=aS (tabObj #[rawInt pos.line,rawInt pos.col,.ref Z]):=I.hok P _ e;refine kla_makeFunctionHit (mg:=X.mg) (cv:= .ref Z) ι I.ok.glob η δ CC ν trivial ?hf hB fun α h' tk hk hsz=>?_
  case hf=>
   show codeAmong pos [.int pos.line 0,.int pos.col 0,.ref Z]=_;unfold codeAmong;rw[px @E]
  obtain⟨β,_,_⟩:=I.hok Z _ ψ;have kx:∀b o,s.heap.get? b=aS o->(h'.push (QJ "<lambda>" (X.env.qual++"<lambda>") O body scope [(x,c)] ((X.mg "__name__").getD .none) Z α)).get? b=aS o:=λb o q=>en _ (hk b o q);refine⟨_,Z,H,_,α,rfl,I.kept (t':=tk) kx,.inr ⟨Z,ρ,e,ψ⟩,λb o _ q=>q,hG _ rfl,Heap.CodeRec.keeps β kx,ε _ hsz,λz=>?_,λb o _ q=>kx b o q,by rw[z3];exact Ms hsz⟩;have:=I.stkFree Z z;rw[ψ] at this;cases this
end
def FY (pos:Pos) (qual:u3) (P:eh) (j:Nat) (te:TE) (σ:L2.St) (Q:VK) (O:V) (H1:Hp):Prop:=∃(n:Nat) (v:V),O= .int (n:Int)/\n < 64/\TabL pos qual P H1/\σ[j]? =aS (aS v)/\
 (∀i:Nat,i < n->te [aS (.int (i:Int)),aS v] H0 λY _=>∃k,Y= .int k)/\
 ∀(D:eh) (H2:Hp) (ns:D'),H1 D=eC->D≠P->(∀b o,b≠P->H1 b=aS o->H2 b=aS o)->TabL pos qual P H2->H2 D=aS (.lst (ns.map λk:Nat=>V.int (k:Int)))->ns.Perm (hE n)->Q (.ref D) H2
noncomputable def wL (pos:Pos) (qual:u3) (P:eh) (j:Nat) (ε te:TE):TE:=fun σ H Q=>ε σ H λO H1=>FY pos qual P j te σ Q O H1
theorem uR:bootBuiltins "sorted"=aS (.builtin "sorted"):=by decide +kernel
theorem s_sortlam {pos:Pos} {qual:u3} {P:eh} {j:Nat} {ε te:TE} {σ:L2.St} {H:Hp} {Q:VK} (h:ε σ H λO H1=>FY pos qual P j te σ Q O H1):wL pos qual P j ε te σ H Q:=h
section
variable {X:Cx} {pins:DC} {σ:L2.St} {H:Hp} {s s':eL}
theorem Fw {D:eh} {ns:D'} {out:Dz} {c:Nat} (I:Inv X pins σ H s) (R:Rl (frs X.stack) s s') (Y:s.heap.objs.size<=D) (hn:ns.length<=hH) (e:s'.heap.get? D=aS (seqObj "list" out c)) (hi:IntsAre out.toList (ns.map λn:Nat=>(n:Int))):
  Inv X pins σ (upd H D (.lst (ns.map λk:Nat=>V.int (k:Int)))) s':=by
 have hf:=I.hok.fresh Y;obtain⟨ζ,g,d,t,O⟩:=s';obtain rfl:O=s.os:=R.os;refine I.call (h':=ζ) (g':=g) (d':=d) (t':=t) (ch:=[]) ⟨λb o e n hb _=>R.kp.keep b o e hb,λb o e n hb _=>R.kp.slot b o e hb,λb o e n _=>?_,λb o e _=>?_,λb xs e=>?_,λb o u e=>?_,λb ps e=>⟨#[],?_⟩⟩ (λb u θ=>?_) R.bare (λb z=>gd z @E)
 ·rw[aH λz=>by rw[z] at e;exact gd (fy e) (M9.mpr Y)];exact n
 ·by_cases hb:b∈frs X.stack
  ·obtain⟨Z,q⟩:=R.kp.slot b o e hb;exact⟨_,q⟩
  ·exact⟨o,R.kp.keep b o e hb⟩
 ·rw[aH (ar e hf)];exact e
 ·rw[aH (ar e hf)];exact e
 ·rw[aH (ar e hf),e];simp
 ·by_cases z:b=D
  ·subst z;rw[aQ] at θ;cases θ;refine⟨by rw[eB];exact hn,out.toList,c,?_,by simpa using e⟩;have:=lO hi;rw[KR] at this;exact this
  ·rw[aH z] at θ;refine(I.hok b u θ).stay (λc v hc q=>R.kp.keep c v q λz=>?_) (λc q=>by rw[aH (ar q hf)];exact q) λc xs q=>by rw[aH (ar q hf)];exact q
   have hn:=I.stkFree c z;rcases hc with rfl | hc
   ·rw[θ] at hn;cases hn
   ·rw[hc] at hn;cases hn
theorem pe_sortlam {e:x7} {tn te:TE} {N:C'} {p x:u3} {j m:Nat} {O:Arguments} {body:x7} {scope:Jq} {lp p1 p2 π ε kp:Pos} {f cd P:eh}
  (hc:X.calm=true) (g1:Gl X "sorted") (g2:Gl X "range") (n1:X.mg "sorted"=eC) (Y:X.mg "range"=eC) (he:PE X e tn) (hr:Room (m + 3) X.A) (θ:X.env.code= .ref cd) (C:CodeHd X.base cd P) (B:LamB X.mg X.base f P)
  (S:Fn p x scope=true) (hN:N=[p,x]) (hj:X.N[j]? =aS x) (a0:X.env.scope.names.lookup x=aS .cell) (ο:∃c,closureFor scope X.env=pure [(x,c)]/\X.env.cells.lookup x=aS c) (υ:defaultsOf O X.env=([],[]))
  (hb:∀qual ψ pm cd φ u,bindArgs (kla_fn "<lambda>" qual O body scope ψ pm cd φ) ⟨[u],[]⟩=pure [(p,u)])
  (pe:∀q χ ψ A s,Room m (A.deeper (envX (X.env.qual++"<lambda>") scope s.heap.objs.size q (.ref χ) ψ))->PE (CQ X.prog X.w X.K X.mg X.base N (X.env.qual++"<lambda>") scope q (.ref χ) ψ A X.stack s) body te)
  (h1:lx [OF (.Name "range" p1) [e] [] p2] X.env=[(false,eval (.Call (.Name "range" p1) [e] [] p2) X.env)]:=by rfl) (h2:lx [e] X.env=[(false,eval e X.env)]:=by rfl):
  PE X (.Call (.Name "sorted" π) [.Call (.Name "range" p1) [e] [] p2] [⟨aS "key",.Lambda O body scope lp,kp⟩] ε) (wL lp (X.env.qual++"<lambda>") P j tn te):=by
 intro pins s σ H Q I h;obtain⟨c,ο,ι⟩:=ο;have S:=C6.of S;refine KD (iC I g1 n1 uR (callWith_kw ?_));rw[h1];show gn _ _ (spliced ((false,eval (.Call (.Name "range" p1) [e] [] p2) X.env)::backTo ε [])) _ _ s;refine Lx ?_;refine OY (iC I g2 Y QB (wh (thn (aa he af h2 p2 pins s σ H (λvs H1=>match vs with | [x]=>FY lp (X.env.qual++"<lambda>") P j te σ Q x H1 | _=>False) I h) λus ω ⟨vs,H1,I1,r1,π⟩=>?_) h2 rfl))
 match vs,r1,π with
 | [x],r1,π=>
 obtain⟨n,v,rfl,hn,T,hv,ht,q⟩:=π;cases r1 with
 | cons r rr=>
 cases rr;obtain⟨t',rfl⟩:=r;refine PJ ?_;refine LI ?_;show gn _ _ (evalAll ((do let v <-eval (.Lambda O body scope lp) X.env;standAt ε;pure v)::[])) _ _ _
 have β:∃ps,H1 P=aS (.tbl ps):=by
  rcases T with e | ⟨_,_,e,_⟩
  ·exact⟨_,e⟩
  ·exact⟨_,e⟩
 obtain⟨a5,γ⟩:=β;have ρ:P < ω.heap.objs.size:=I1.hok.lt γ;refine wpAny_evalAll_cons (aY (thn (Hh (H:=H1) (pins:=pins) (σ:=σ) (I1.kept λb u e=>en _ e) θ C B T υ ο) λu s2 hu=>?_));obtain⟨q0,χ,H2,pm,φ,eu,I2,δ,k2,ho,τ,nq,nc,kh,hsz⟩:=hu;subst eu;refine aY (NO (eD (wpAny_evalAll_nil ?_)));have rP:ω.heap.objs.size≠P:=Jr ρ;refine xT (fs:=frs X.stack) (n:=n) (I2.ok.hd hc) (kh _ _ rP (OK ..)) hn I2.bare (fr_lt I2) (λi t hi s' R=>?_) λD s' out cc ns R hD a4 hI ζ=>?_
 ·have I':=Hr I2 R;have Z:Room m ((X.A.in1.in1).deeper (envX (X.env.qual++"<lambda>") scope s'.heap.objs.size q0 (.ref χ) [(x,c)])):=(Room.in1 (Room.in1 hr)).deeper _;exact Fk (v1:= .int (i:Int)) (A:=X.A.in1.in1) I' I'.ok.frames hr.hd (by have:=hr.dp;show X.A.depth < _;omega) S hN hj hv a0 ι ⟨t,rfl⟩ (R.kp.keep _ _ ho nq) (Dy τ λo z=>R.kp.keep _ _ z nc) (λu=>hb _ _ _ _ _ u) (pe q0 χ _ _ _ Z) (ht i hi)
 ·have hl:ns.length<=sizeLine:=by rw[ζ.length_eq,q7,kv];omega
  have ξ:=I2.hok.fresh hD;have ν:ω.heap.objs.size<=D:=Jx (Jx (by rw[z3];exact KS _) hsz) hD;have α:H1 D=none:=I1.hok.fresh ν;have η:D≠P:=λz=>by rw[z] at ν;exact gd ρ (M9.mpr ν)
  refine⟨.ref D,_,Fw I2 R hD hl a4 hI,rfl,q D _ ns α η (λb o z e=>?_) ?_ aQ ζ⟩
  ·have:=k2 b o z e;rw[aH (ar this ξ)];exact this
  ·rcases δ with e | ⟨c2,a3,e,ec⟩
   ·exact .inl (by rw[aH η.symm];exact e)
   ·exact .inr ⟨c2,a3,by rw[aH η.symm];exact e,by rw[aH (ar ec ξ)];exact ec⟩
end
def LamM (mg:Dk) (base:u2):Prop:=∃bm ob,mg "__builtins__"=aS (.ref bm)/\bm≠builtinsNs/\base.get? bm=aS ob/\ob.cls= .type "module"/\ob.dict=aS builtinsNs/\ob.data= .plain
theorem Ak {P:oe} {w:sb} {K:Frag} {mg mb:Dk} {CX:CXT} {k:Nat} {ρ a T:eh} {fd:hP} {x:u3} {sp:Sp} {O:eL} {vs:Dd} {ns:I8} {c0:eh}
  (KX:K.In O.heap) (π:noTabs K=true) (υ:O.heap.Ns JG mg) (hb:O.heap.Ns builtinsNs mb) (θ:∀x:u3,x≠"__name__"->mb x=bootBuiltins x) (ξ:O.heap.NoLimit) (hg:O.gens=#[])
  (ha:O.heap.get? a=aS {cls:= .type "list",data:= .seq vs.toArray}) (hi:IntsAre vs ns) (hl:ns.length<=hH) (hr:Room k callerA)
  (hT:O.heap.get? T=aS (tabObj #[])) (ω:CodeHd O.heap c0 T)
  (η:∃bm ob,mg "__builtins__"=aS (.ref bm)/\bm≠builtinsNs/\O.heap.get? bm=aS ob/\ob.cls= .type "module"/\ob.dict=aS builtinsNs/\ob.data= .plain)
  (F:∀base:u2,K.In base->base.Ns JG mg->LamM mg base->FnOk P w K mg base CX k ρ fd [x] sp) (α:∀(s:eL) (u:fC),BindsTo s fd ⟨[u],[]⟩ [(x,u)])
  (a0:∀H:Hp,SqL K H a (ns.map V.int)->H T=aS (.tbl #[])->sp [.ref a] H (λv _=>v= .bl true) λ_ _ _=>False)
  (a4:∀H e s',CX [] H O (λ_ _ _=>False) e s'->False):
  codeAny (hL P w) callerA (.call (.ref ρ) ⟨[.ref a],[]⟩) (λr s'=>r= .ok (.ret (.bool true))/\OldK O.heap s'.heap/\s'.os=O.os/\AllBare s'.gens) O:=by
 have rv:=lO hi;have ν:=hi.length;have ψ:a≠T:=λz=>by rw[z,hT] at ha;cases ha
 have Z:∀H:Hp,SqL K H a (ns.map V.int)->H T=aS (.tbl #[])->HOk P w H O.heap->(∀b,H b≠eC->b=a∨b=T)->(H a=eC∨∃o xs,H a=aS (.frz o (.lst xs)))->(H a≠eC->K.lookup a=eC)->
   codeAny (hL P w) callerA (.call (.ref ρ) ⟨[.ref a],[]⟩) (λr s'=>r= .ok (.ret (.bool true))/\OldK O.heap s'.heap/\s'.os=O.os/\AllBare s'.gens) O:=by
  intro H hS χ hok hA a3 hK;have φ:∀{b:eh} {o:NJ},O.heap.get? b=aS o->H b=eC->(hidT O.heap H).get? b=aS o:=λe n=>Cq e n
  have β:∀{b:eh} {o:NJ},O.heap.get? b=aS o->(∀xs n,o.data≠.seq xs n)->(∀ps,o.data≠.fields ps∨o.cls≠.none)->H b=none:=λ{b o} e d1 d2=>by
   cases q:H b with
   | none=>rfl
   | some u=>
     rcases hA b (by rw[q];simp) with e' | e'
     ·subst e';rw[ha] at e;cases e;exact gd rfl (d1 vs.toArray _)
     ·subst e';rw[hT] at e;cases e;rcases d2 #[] with z | z<;>exact gd rfl z
  have ζ:∀{b:eh} {m:Dk},O.heap.Ns b m->(hidT O.heap H).Ns b m:=λ{b m} ⟨o,es,ep,e,d,r⟩=>⟨o,es,ep,φ e (β e (λxs n z=>by rw[d] at z;cases z) λps=> .inl λz=>by rw[d] at z;cases z),d,r⟩
  have τ:K.In (hidT O.heap H):=λb o e=>φ (KX b o e) (by
   cases q:H b with
   | none=>rfl
   | some u=>
     rcases hA b (by rw[q];simp) with e' | e'
     ·subst e';rw[hK (by rw[q];simp)] at e;cases e
     ·subst e';have h1:=KX _ _ e;rw[hT] at h1;cases h1;have h2:=LH.mp π (b,tabObj #[]) (mem_of_lookupK e);exact gd (show false=true from h2) hC)
  have hM:Mod K mg (hidT O.heap H):=⟨τ,ζ υ,⟨mb,ζ hb,θ⟩,let ⟨mc,h1,h2⟩:=ξ;⟨mc,ζ h1,h2⟩⟩;have e0:Env0 P w K mg (hidT O.heap H) callerA [] O H:=⟨rfl,hM,λb o e=>Ff e,NL (Ay _ _),trivial,λb hb=>gd (show b∈([]:G') from hb) @E,hok,.of_eq hg⟩
  have hB:LamM mg (hidT O.heap H):=by
   obtain⟨bm,ob,h1,h2,h3,h4,h5,δ⟩:=η;exact⟨bm,ob,h1,h2,φ h3 (β h3 (λxs n z=>by rw[δ] at z;cases z) λps=> .inl λz=>by rw[δ] at z;cases z),h4,h5,δ⟩
  refine LU ((F _ τ (ζ υ) hB).run callerA [] O H ⟨[.ref a],[]⟩ [.ref a] [.ref a] _ _ hr e0 (α O (.ref a)) (.cons rfl .nil) (a0 H hS χ)) λr s' h=>?_;cases r with
  | error e=>exact(a4 H e s' h).elim
  | ok fl=>
    cases fl with
    | next=>exact z4 h
    | brk=>exact z4 h
    | cont=>exact z4 h
    | ret u=>
      obtain⟨v,H',os,bare,un,Y,r',q⟩:=h;have q':v= .bl true:=q;subst q';obtain rfl:u=Pm true:=r'
      have kept:∀b o,b≠T->O.heap.get? b=aS o->s'.heap.get? b=aS o:=λb o nb e=>by
       cases q:H b with
       | none=>exact un.keep b o e q (by intro z;exact gd (show b∈([]:G') from z) @E) @E
       | some u=>
         rcases hA b (by rw[q];simp) with e' | e'
         ·subst e';rcases a3 with z | ⟨ob,xs,z⟩
          ·rw[q] at z;cases z
          ·have γ:=un.frzs b ob _ z;obtain⟨e1,_⟩:=hok b _ z;obtain⟨e2,_⟩:=Y b _ γ;rw[e] at e1;cases e1;exact e2
         ·exact gd e' nb
      obtain⟨more,eT⟩:=un.tbls T _ χ;have oT:s'.heap.get? T=aS (tabObj (#[]++more)):=Y T _ eT;refine⟨rfl,⟨λb o e=>?_,λb o e=>?_⟩,os,bare⟩
      ·by_cases ο:b=T
       ·subst ο;rw[hT] at e;cases e;obtain⟨o,ε,a6,tf,ι,tg,b3,a5,tt,e1,e2,e3,e4,_⟩:=ω;exact .inr (.inl ⟨⟨c0,o,ε,e1,e2,e3,e4⟩,rfl,#[],more,rfl,oT⟩)
       ·exact .inl (kept b o ο e)
      ·by_cases ο:b=T
       ·subst ο;exact⟨_,oT⟩
       ·exact⟨o,kept b o ο e⟩
 cases hk:K.lookup a with
 | some o=>
   have e:=KX a o hk;rw[ha] at e;cases e;refine Z (λb=>if b=T then aS (.tbl #[]) else eC) (.inr ⟨_,vs.toArray,_,hk,rfl,rfl,rfl,by rw[q6,ν];exact hl,by simpa using rv⟩) (px rfl) (λb u z=>?_) (λb z=>?_) (.inl (ko ψ)) λz=>gd (ko ψ) z
   ·dsimp only at z;by_cases h1:b=T
    ·rw[px h1] at z;cases z;subst h1;exact hT
    ·rw[ko h1] at z;cases z
   ·by_cases h1:b=T
    ·exact .inr h1
    ·exact gd (ko h1) z
 | none=>
   refine Z (λb=>if b=T then aS (.tbl #[]) else if b=a then aS (.frz {cls:= .type "list",data:= .seq vs.toArray} (.lst (ns.map V.int))) else eC) (.inl (.inr ⟨{cls:= .type "list",data:= .seq vs.toArray},by(try dsimp only);rw[ko ψ,px rfl]⟩)) (px rfl) (λb u z=>?_) (λb z=>?_) (.inr ⟨_,_,by(try dsimp only);rw[ko ψ,px rfl]⟩) λ_=>hk
   ·dsimp only at z;by_cases h1:b=T
    ·rw[px h1] at z;cases z;subst h1;exact hT
    ·rw[ko h1] at z;by_cases h2:b=a
     ·rw[px h2] at z;cases z;subst h2;exact⟨ha,by rw[eB];exact hl,vs,_,rv,ha⟩
     ·rw[ko h2] at z;cases z
   ·by_cases h1:b=T
    ·exact .inr h1
    ·by_cases h2:b=a
     ·exact .inl h2
     ·exact gd (show(if b=T then aS (HO.tbl #[]) else if b=a then aS (.frz {cls:= .type "list",data:= .seq vs.toArray} (.lst (ns.map V.int))) else eC)=eC by rw[ko h1,ko h2]) z
theorem walk_ofT {l:OP} {n k:Nat} {q:oe} {γ:C'} {XP:Dk->u2->Prop} {ν:sb->u2->Prop} {d:DefRec} {K:Params->Frag} {CX:sb->CXT} {sp:sb->Sp} {x:u3} {PT:eh}
  (hn:l.most=aS n) (ξ:n<=hH) (Z:d.params.defaults=[]) (φ:Room k callerA)
  (hY:∀(w:sb) (h:u2),ν w h->(K w.params).In h) (hT:∀(w:sb) (h:u2),ν w h->h.get? PT=aS (tabObj #[])) (π:∀w:sb,noTabs (K w.params)=true)
  (F:∀(w:sb) (mg:Dk) (ρ:eh) (h:u2),(K w.params).In h->h.Ns JG mg->mg d.name=aS (.ref ρ)->
   ∃fd:hP,(∀(s:eL) (u:fC),BindsTo s fd ⟨[u],[]⟩ [(x,u)])/\(∃c,CodeHd h c PT)/\
     ∀base:u2,(K w.params).In base->base.Ns JG mg->LamM mg base->FnOk l.prog w (K w.params) mg base (CX w) k ρ fd [x] (sp w))
  (η:∀(w:sb) (H:Hp) (a:eh) (ns:I8),ns.length<=n->SqL (K w.params) H a (ns.map V.int)->H PT=aS (.tbl #[])->sp w [.ref a] H (λv _=>v= .bl true) λ_ _ _=>False)
  (ι:∀(w:sb) (H:Hp) (s:eL) (e:fC) (s':eL),CX w [] H s (λ_ _ _=>False) e s'->False):
  WalkO q γ XP ν l.row.toRowW d [] (λf vs=>Pn f vs):=by
 refine Att.attach_call hn Z λw s₀ ε mg mb ρ o pm cd β a vs ns G Y ho hd ψ θ ζ δ α χ=>?_;have ο:=hY w _ Y;obtain⟨fd,hb,⟨c,ω⟩,O⟩:=F w mg ρ _ ο G.T.g θ;exact Ak ο (π w) G.T.g G.T.b G.T.builtins G.T.nolimit χ ζ δ (Jx α ξ) φ (hT w _ Y) ω G.T.bmain (λbase υ τ B=>O base υ τ B) hb (λH hS hT=>η w H a ns α hS hT) λH e s'=>ι w H ε e s'
theorem LamB.mk2 {mg:Dk} {K:Frag} {base:u2} {f c PT:eh} {Z:fC} {od:J0} {fd:hP} {Y:E'} (O:K.In base) (l:K.lookup f=aS ⟨Z,od,.func fd,Y⟩) (hc:fd.code= .ref c) (h:codeHdIn K c PT=true) (m:LamM mg base):LamB mg base f PT:=
 ⟨⟨_,fd,c,O _ _ l,rfl,hc,codeHd_of_K O h⟩,m⟩
end LM
namespace L2
open PySem PySem.Spec PyProof.Rows
theorem Fun.okL {P:oe} {w:sb} {K:aT} {mg:Dk} {base:u2} {x qual:u3} {st:Lv} {f T:eh} {fd:hP} {N ps:C'} {k:Nat} {sp:Sp} (F:Fun K x qual st f fd) (δ:K.In base) (B:LM.LamB mg base f T) (S:aD N ps (ah st)) (len:∀vs H Q E,sp vs H Q E->vs.length=ps.length)
  (O:∀(c:eh) (A:u7) (outer:eA Env) (s:eL) (H:Hp) (vs:eA V) (Q:VK) (E:XK),PySem.W.CodeHd base c T->Room k (A.deeper (envOfC qual (ah st) s.heap.objs.size f (.ref c)))->sp vs H Q E->
   ∃t,PSs (cxOf CX0 P w K mg base N qual (ah st) f (.ref c) A outer s H E).nox (cL st) t/\t {nx:=λ_ H'=>Q .non H',rt:=Q} (lQ N vs) H):FnOk P w K mg base CX0 (k + 1) f fd ps sp:=by
 obtain⟨ι,od,kV,β,θ,an,γ,ct,ο,rfl,lk,Z⟩:=F.ex;obtain⟨o,η,c,h1,h2,α,ζ⟩:=B.tab;have:=δ _ _ lk;rw[h1] at this;cases this;cases h2;have α:γ= .ref c:=α;subst α;refine Cy lk Z S len λA outer s H vs Q E ε Y=>?_;obtain⟨t,h,q⟩:=O c A outer s H vs Q E ζ ε Y;exact⟨t,h.nox,q⟩
end L2
set_option autoImplicit false
namespace M
theorem Fz (a b:Nat):(a||| b) / 2=a / 2||| b / 2:=by
 apply kA;intro i;simp[Ma,Ml]
theorem Ct (a b:Nat):(a&&&b) / 2=a / 2&&&b / 2:=by
 apply kA;intro i;simp[Ma,JD]
theorem xr (a b:Nat):(a^^^b) / 2=a / 2^^^b / 2:=by
 apply kA;intro i;simp[Ma,u6]
theorem or_sum (a:Nat):∀b:Nat,a||| b=(a^^^b) + (a&&&b):=by
 induction a using Qv with
 | ind a ih=>
   intro b;by_cases ha:a=0
   ·subst ha;simp
   ·have h:=ih (a / 2) @A (b / 2);have e1:=O8 (a||| b) 2;have Y:=O8 (a^^^b) 2;have O:=O8 (a&&&b) 2;rw[Fz] at e1;rw[xr] at Y;rw[Ct] at O;have φ:(a||| b) % 2=(a % 2||| b % 2):=by have:=@Nat.or_mod_two_pow a b 1;simpa using this
    have α:(a^^^b) % 2=(a % 2^^^b % 2):=by have:=@Nat.xor_mod_two_pow a b 1;simpa using this
    have Z:(a&&&b) % 2=(a % 2&&&b % 2):=by have:=@Nat.and_mod_two_pow a b 1;simpa using this
    have c:(a % 2||| b % 2)=(a % 2^^^b % 2) + (a % 2&&&b % 2):=by
     rcases Lf a with h1 | h1<;>rcases Lf b with h2 | h2<;>rw[h1,h2]<;>decide
    omega
noncomputable def pb:Nat->Nat->JC
 | 0,_=>false
 | w + 1,m=>(m.testBit w)^^(pb w m)
theorem zX (w a b:Nat):pb w (a^^^b)=(pb w a^^pb w b):=by
 induction w with
 | zero=>rfl
 | succ w ih=>
   simp only[pb,u6,ih];cases a.testBit w<;>cases b.testBit w<;>cases pb w a<;>cases pb w b<;>rfl
theorem kj (h j m:Nat):pb (h + j) m=(pb h m^^pb j (m>>>h)):=by
 induction j with
 | zero=>simp[pb]
 | succ j ih=>
   rw[Nat.add_succ];simp only[pb,ih,JS];cases m.testBit (h + j)<;>cases pb h m<;>cases pb j (m>>>h)<;>rfl
theorem zY (h m:Nat):pb h (m % 2 ^ h)=pb h m:=by
 suffices ∀j,j<=h->pb j (m % 2 ^ h)=pb j m from this h (mu h)
 intro j
 induction j with
 | zero=>intro _;rfl
 | succ j ih=>
   intro O;simp only[pb];rw[ih @A,Nat.testBit_mod_two_pow];simp[show j < h by omega]
theorem E5 (w j m:Nat) (hm:m < 2 ^ w):pb (w + j) m=pb w m:=by
 rw[kj,wq,Qj hm]
 have:∀j,pb j 0=false:=by intro j;induction j with
  | zero=>rfl
  | succ j ih=>simp[pb,ih]
 rw[this];simp
theorem pb_up {w δ m:Nat} (hm:m < 2 ^ w) (h:w<=δ):pb δ m=pb w m:=by
 obtain⟨j,rfl⟩:=MB h;exact E5 w j m hm
theorem pb_fold (w h m:Nat) (hw:h<=w) (hm:m < 2 ^ w) (h2:w<=2 * h):pb h ((m>>>h)^^^(m&&&(2 ^ h - 1)))=pb w m:=by
 rw[LV,zX,zY];obtain⟨j,rfl⟩:=MB hw;rw[kj]
 have O:m>>>h < 2 ^ j:=by
  rw[wq];exact Pp (by rw[<-Pb];exact hm)
 rw[pb_up O (show j<=h by omega)];cases pb j (m>>>h)<;>cases pb h m<;>rfl
theorem fold_lt (w h m:Nat) (hm:m < 2 ^ w) (h2:w<=2 * h):(m>>>h)^^^(m&&&(2 ^ h - 1)) < 2 ^ h:=by
 apply KW
 ·rw[wq];refine Pp ?_;rw[<-Pb];exact eF hm (gs @C @A)
 ·rw[LV];exact PZ _ (lz h)
noncomputable def pl (w m:Nat):D':=(hE w).filter m.testBit
theorem pl_up {w δ m:Nat} (hm:m < 2 ^ w) (h:w<=δ):pl δ m=pl w m:=by
 obtain⟨j,rfl⟩:=MB h;unfold pl;rw[List.range_add,L']
 have:List.filter m.testBit (List.map (λx=>w + x) (hE j))=[]:=by
  rw[List.filter_eq_nil_iff];intro a ha;obtain⟨k,_,rfl⟩:=w2.mp ha;rw[lT (eF hm (gs @C (Lo w k)))];simp
 rw[this,LF]
noncomputable def xm (ps:D'):Nat:=ps.foldl (λa p=>a^^^2 ^ p) 0
noncomputable def Span:D'->Nat->Prop
 | [],x=>x=0
 | r::rs,x=>Span rs x∨Span rs (x^^^r)
theorem span_zero:∀rs:D',Span rs 0
 | []=>rfl
 | _::rs=> .inl (span_zero rs)
theorem bw (x r:Nat):x^^^r^^^r=x:=by rw[JU,L7,K3]
theorem eP (a b c:Nat):a^^^b^^^c=a^^^c^^^b:=by rw[JU,Mj b c,<-JU]
theorem eQ:∀(rs:D') (r x:Nat),Span (rs++[r]) x↔Span rs x∨Span rs (x^^^r)
 | [],r,x=>P'
 | q::rs,r,x=>by
   show Span (rs++[r]) x∨Span (rs++[r]) (x^^^q)↔(Span rs x∨Span rs (x^^^q))∨(Span rs (x^^^r)∨Span rs (x^^^r^^^q));rw[eQ rs r x,eQ rs r (x^^^q),eP x q r];constructor
   ·rintro((h | h) | (h | h))
    ·exact .inl (.inl h)
    ·exact .inr (.inl h)
    ·exact .inl (.inr h)
    ·exact .inr (.inr h)
   ·rintro((h | h) | (h | h))
    ·exact .inl (.inl h)
    ·exact .inr (.inl h)
    ·exact .inl (.inr h)
    ·exact .inr (.inr h)
theorem span_xor:∀{rs:D'} {x y:Nat},Span rs x->Span rs y->Span rs (x^^^y)
 | [],x,y,h,k=>by
   have h:x=0:=h;have k:y=0:=k;subst h;subst k;exact rfl
 | r::rs,x,y,h,k=>by
   rcases h with h | h<;>rcases k with k | k
   ·exact .inl (span_xor h k)
   ·refine .inr ?_;have:=span_xor h k;rwa [<-JU] at this
   ·refine .inr ?_;have:=span_xor h k;rwa [eP] at this
   ·refine .inl ?_;have:=span_xor h k;rwa [<-JU,eP x r y,bw] at this
noncomputable def sm:D'->Nat->Nat
 | [],_=>0
 | r::rs,p=>(if p.testBit 0 then r else 0)^^^sm rs (p / 2)
theorem sm_zero:∀rs:D',sm rs 0=0
 | []=>rfl
 | r::rs=>by show(if (0:Nat).testBit 0 then r else 0)^^^sm rs (0 / 2)=0;rw[show(0:Nat) / 2=0 from rfl,sm_zero rs];simp
theorem xor4 (a b c d:Nat):a^^^b^^^(c^^^d)=a^^^c^^^(b^^^d):=by
 rw[JU,<-JU b c d,Mj b c,JU c b d,<-JU a c]
theorem sm_xor:∀(rs:D') (p q:Nat),sm rs (p^^^q)=sm rs p^^^sm rs q
 | [],p,q=>by show(0:Nat)=0^^^0;simp
 | r::rs,p,q=>by
   show(if (p^^^q).testBit 0 then r else 0)^^^sm rs ((p^^^q) / 2)=((if p.testBit 0 then r else 0)^^^sm rs (p / 2))^^^((if q.testBit 0 then r else 0)^^^sm rs (q / 2));rw[xr,sm_xor rs,u6,xor4];congr 1;cases p.testBit 0<;>cases q.testBit 0<;>simp
theorem jM:∀(rs:D') (r p:Nat),sm (rs++[r]) p=sm rs p^^^(if p.testBit rs.length then r else 0)
 | [],r,p=>by show(if p.testBit 0 then r else 0)^^^0=0^^^_;rw[K3,Ly];rfl
 | q::rs,r,p=>by
   show(if p.testBit 0 then q else 0)^^^sm (rs++[r]) (p / 2)=((if p.testBit 0 then q else 0)^^^sm rs (p / 2))^^^_;rw[jM rs r (p / 2),Ma,JU];rfl
theorem gR {rs:D'} {r p:Nat} (h:p < 2 ^ rs.length):sm (rs++[r]) p=sm rs p:=by
 rw[jM,lT h];simp
theorem zo (rs:D') (r:Nat):sm (rs++[r]) (2 ^ rs.length)=r:=by
 rw[jM]
 have e:sm rs (2 ^ rs.length)=0:=by
  have:∀(rs:D') (k:Nat),rs.length<=k->sm rs (2 ^ k)=0:=by
   intro rs
   induction rs with
   | nil=>intro k _;rfl
   | cons q rs ih=>
     intro k hk;have hk:rs.length + 1<=k:=hk;obtain⟨j,rfl⟩:∃j,k=j + 1:=⟨k - 1,@A⟩;show(if (2 ^ (j + 1)).testBit 0 then q else 0)^^^sm rs (2 ^ (j + 1) / 2)=0;have e1:(2 ^ (j + 1)) / 2=2 ^ j:=by rw[Lz];omega
     have O:(2 ^ (j + 1)).testBit 0=false:=by rw[sg];simp
     rw[e1,O,ih j @A];simp
  exact this rs _ (mu _)
 rw[e,KN];simp
theorem sm_span:∀(rs:D') (p:Nat),Span rs (sm rs p)
 | [],p=>rfl
 | r::rs,p=>by
   show Span rs _∨Span rs _;have ih:=sm_span rs (p / 2);cases h:p.testBit 0 with
   | true=>refine .inr ?_;rw[show sm (r::rs) p=r^^^sm rs (p / 2) from by show(if p.testBit 0 then r else 0)^^^_=_;rw[h];rfl,Mj r,bw];exact ih
   | false=>refine .inl ?_;rw[show sm (r::rs) p=sm rs (p / 2) from by show(if p.testBit 0 then r else 0)^^^_=_;rw[h];simp];exact ih
theorem span_sm:∀{rs:D'} {x:Nat},Span rs x->∃p,p < 2 ^ rs.length/\sm rs p=x
 | [],x,h=>⟨0,Nat.one_pos,(show x=0 from h).symm⟩
 | r::rs,x,h=>by
   rcases h with h | h
   ·obtain⟨p,hp,e⟩:=span_sm h;refine⟨2 * p,by rw[JV,Lz];omega,?_⟩;show(if (2 * p).testBit 0 then r else 0)^^^sm rs (2 * p / 2)=x;rw[show 2 * p / 2=p by omega,show(2 * p).testBit 0=false by simp[NY],e];simp
   ·obtain⟨p,hp,e⟩:=span_sm h;refine⟨2 * p + 1,by rw[JV,Lz];omega,?_⟩;show(if (2 * p + 1).testBit 0 then r else 0)^^^sm rs ((2 * p + 1) / 2)=x;rw[show(2 * p + 1) / 2=p by omega,show(2 * p + 1).testBit 0=true by simp[NY],e];show r^^^(x^^^r)=x;rw[Mj,bw]
theorem Ah {x t:Nat} (h1:2 ^ t<=x) (h2:x < 2 ^ (t + 1)):x.log2=t:=by
 have O:x≠0:=by have:=lz t;omega
 have a:=(Pc O).mpr h2;have b:t<=x.log2:=(Nat.le_log2 O).mpr h1;omega
theorem kF {x:Nat} (h:x≠0):x.testBit x.log2=true:=by
 have:=Nat.testBit_log2 h;exact this
theorem xor_lt_pow {x y t:Nat} (h1:x < 2 ^ t) (h2:y < 2 ^ t):x^^^y < 2 ^ t:=KW h1 h2
theorem wF {x y:Nat} (hx:x≠0) (hy:y≠0) (h:x.log2=y.log2):x^^^y < 2 ^ x.log2:=by
 have h1:x^^^y < 2 ^ (x.log2 + 1):=xor_lt_pow L1 (by rw[h];exact L1)
 have hb:(x^^^y).testBit x.log2=false:=by
  rw[u6,kF hx,show y.testBit x.log2=true by rw[h];exact kF hy];rfl
 apply K9;intro i hi;rcases PV hi with hi | hi
 ·exact lT (eF h1 (gs @C hi))
 ·rw[<-hi];exact hb
theorem xor_less {x y:Nat} (hx:x≠0) (hy:y≠0) (h:x.log2=y.log2):x^^^y < x:=
 eF (wF hx hy h) (Qi hx)
theorem lL {x y:Nat} (hy:y≠0) (h:x < 2 ^ y.log2):(x^^^y).log2=y.log2:=by
 have h1:x^^^y < 2 ^ (y.log2 + 1):=xor_lt_pow (eF h (gs @C @A)) L1;have hb:(x^^^y).testBit y.log2=true:=by rw[u6,lT h,kF hy];rfl
 exact Ah (Nat.ge_two_pow_of_testBit hb) h1
theorem vP {x y:Nat} (hx:x≠0) (hy:y≠0) (h:x.log2≠y.log2):(x^^^y).log2=x.log2∨(x^^^y).log2=y.log2:=by
 rcases PU h with h | h
 ·exact .inr (lL hy (eF L1 (gs @C h)))
 ·refine .inl ?_;rw[Mj];exact lL hx (eF L1 (gs @C h))
def Fre (rows:D') (i:Nat):Prop:=i < rows.length/\¬Span (rows.take i) (rows.getD i 0)
theorem Fre.snoc {rows:D'} {i:Nat} (r:Nat) (h:Fre rows i):Fre (rows++[r]) i:=by
 obtain⟨hi,hn⟩:=h;refine⟨by rw[eH];omega,?_⟩;rw[O0 (Kw hi),ee,oP hi,<-ee];exact hn
theorem Fre.last {rows:D'} {r:Nat} (h:¬Span rows r):Fre (rows++[r]) rows.length:=by
 refine⟨by rw[eH];simp,?_⟩;rw[Qx,ee,rg (mu _),LP];exact h
def Frs (rows:D') (q:Nat):Prop:=∀i,q.testBit i=true->Fre rows i
theorem Frs.zero (rows:D'):Frs rows 0:=λi h=>by rw[Kp] at h;cases h
theorem Frs.xor {rows:D'} {p q:Nat} (hp:Frs rows p) (hq:Frs rows q):Frs rows (p^^^q):=λi h=>by
 rw[u6] at h;cases h1:p.testBit i with
 | true=>exact hp i h1
 | false=>rw[h1] at h;exact hq i (by simpa using h)
theorem Frs.snoc {rows:D'} {q:Nat} (r:Nat) (h:Frs rows q):Frs (rows++[r]) q:=λi hi=>(h i hi).snoc r
theorem Frs.more {rows:D'} {q r:Nat} (h:Frs rows q) (O:¬Span rows r):Frs (rows++[r]) (q^^^2 ^ rows.length):=(h.snoc r).xor λi hi=>by
 rw[sg] at hi;have e:rows.length=i:=by simpa using hi
 rw[<-e];exact Fre.last O
structure Ech (es:A') (rows:D'):Prop where
 nz:∀e∈es,e.1≠0
 lt:∀e∈es,e.2 < 2 ^ rows.length
 sm:∀e∈es,sm rows e.2=e.1
 nd:(es.map λe=>e.1.log2).Nodup
 all:∀y,Span rows y->y≠0->∃e∈es,e.1.log2=y.log2
 sub:∀e∈es,Frs rows e.2
theorem Ech.nil:Ech [] []:=⟨λ_ h=>gd h @E,λ_ h=>gd h @E,λ_ h=>gd h @E,.nil,λy h n=>gd h n,λ_ h=>gd h @E⟩
theorem Ech.span {es:A'} {rows:D'} (I:Ech es rows) {e:Nat×Nat} (h:e∈es):Span rows e.1:=by
 rw[<-I.sm e h];exact sm_span _ _
theorem vy {rows:D'} {r p:Nat} (h:p < 2 ^ rows.length):sm (rows++[r]) (p^^^2 ^ rows.length)=sm rows p^^^r:=by
 rw[sm_xor,gR h,zo]
theorem lt_more {n p:Nat} (h:p < 2 ^ n):p^^^2 ^ n < 2 ^ (n + 1):=
 xor_lt_pow (eF h (gs @C @A)) (rn @C @A)
theorem Ech.null {es:A'} {rows:D'} (I:Ech es rows) {r q:Nat} (hq:q < 2 ^ rows.length) (e:r^^^M.sm rows q=0):Span rows r/\Ech es (rows++[r]):=by
 have O:r=M.sm rows q:=by
  have:=y' (·^^^M.sm rows q) e;simpa[bw] using this
 have hs:Span rows r:=by rw[O];exact sm_span _ _
 refine⟨hs,I.nz,λe h=>?_,λe h=>?_,I.nd,λy hy n=>?_,λe h=>(I.sub e h).snoc r⟩
 ·rw[eH];exact eF (I.lt e h) (gs @C @E)
 ·rw[gR (I.lt e h)];exact I.sm e h
 ·rcases(eQ rows r y).mp hy with hy | hy
  ·exact I.all y hy n
  ·have:=span_xor hy hs;rw[bw] at this;exact I.all y this n
theorem Ech.more {es:A'} {rows:D'} (I:Ech es rows) {r q:Nat} (hq:q < 2 ^ rows.length) (e:r^^^M.sm rows q≠0) (hn:∀e∈es,e.1.log2≠(r^^^M.sm rows q).log2) (hf:Frs rows q):
  ¬Span rows r/\Ech (es++[(r^^^M.sm rows q,q^^^2 ^ rows.length)]) (rows++[r]):=by
 have υ:¬Span rows r:=λhs=>by
  obtain⟨x,O,ex⟩:=I.all _ (span_xor hs (sm_span rows q)) e;exact hn x O ex
 refine⟨υ,λx h=>?_,λx h=>?_,λx h=>?_,?_,λy hy n=>?_,λx h=>(lh.mp h).elim (λh=>(I.sub x h).snoc r) λh=>by rw[fk] at h;subst h;exact hf.more υ⟩
 ·rcases lh.mp h with h | h
  ·exact I.nz x h
  ·rw[fk] at h;subst h;exact e
 ·rw[eH];rcases lh.mp h with h | h
  ·exact eF (I.lt x h) (gs @C @E)
  ·rw[fk] at h;subst h;exact lt_more hq
 ·rcases lh.mp h with h | h
  ·rw[gR (I.lt x h)];exact I.sm x h
  ·rw[fk] at h;subst h;show M.sm _ (q^^^_)=r^^^M.sm rows q;rw[vy hq,Mj]
 ·rw[hF,Ln];refine⟨I.nd,@E,λa ha b hb=>?_⟩;obtain⟨x,O,rfl⟩:=w2.mp ha;rw[Py,fk] at hb;subst hb;exact hn x O
 ·rcases(eQ rows r y).mp hy with hy | hy
  ·obtain⟨x,O,ex⟩:=I.all y hy n;exact⟨x,oD _ O,ex⟩
  ·
   have hz:=span_xor hy (sm_span rows q)
   have ey:y=(y^^^r^^^M.sm rows q)^^^(r^^^M.sm rows q):=by
    rw[xor4,L7,K3,bw]
   generalize Z:y^^^r^^^M.sm rows q=z at hz ey;by_cases Y:z=0
   ·refine⟨_,j' _ (fk.mpr rfl),?_⟩;show(r^^^M.sm rows q).log2=y.log2;rw[ey,Y,Ly]
   ·obtain⟨x,O,ex⟩:=I.all z hz Y;have ne:z.log2≠(r^^^M.sm rows q).log2:=by rw[<-ex];exact hn x O
    rcases vP Y e ne with h | h
    ·exact⟨x,oD _ O,by rw[ex,ey,h]⟩
    ·refine⟨_,j' _ (fk.mpr rfl),?_⟩;show(r^^^M.sm rows q).log2=y.log2;rw[ey,h]
noncomputable def tt (p:Prop):Bool:=@decide p (KH p)
theorem F4 {p:Prop} (h:p):tt p=true:=@hJ _ (KH _) h
theorem F5 {p:Prop} (h:¬p):tt p=false:=@fA _ (KH _) h
noncomputable def fr (rows:D'):D':=(hE rows.length).filter λi=> !tt (Span (rows.take i) (rows.getD i 0))
theorem AJ (rows:D') (r:Nat):fr (rows++[r])=fr rows++(if tt (Span rows r)=true then [] else [rows.length]):=by
 unfold fr;rw[eH,Kc,Ky,L']
 have e1:(hE rows.length).filter (λi=> !tt (Span ((rows++[r]).take i) ((rows++[r]).getD i 0)))=(hE rows.length).filter (λi=> !tt (Span (rows.take i) (rows.getD i 0))):=by
  apply List.filter_congr;intro i hi;have hi:=Ju.mp hi;have a:(rows++[r]).take i=rows.take i:=O0 (Kw hi)
  have b:(rows++[r]).getD i 0=rows.getD i 0:=by
   rw[ee,ee,oP hi]
  rw[a,b]
 rw[e1];congr 1;have a:(rows++[r]).take rows.length=rows:=Qx
 have b:(rows++[r]).getD rows.length 0=r:=by
  rw[ee,rg (mu _),LP];rfl
 rw[List.filter_cons,a,b];cases tt (Span rows r)<;>rfl
theorem fr_len (rows:D'):(fr rows).length<=rows.length:=by
 have:=P8 (λi=> !tt (Span (rows.take i) (rows.getD i 0))) (hE rows.length);rw[q7] at this;exact this
theorem fr_in {rows:D'} {r:Nat} (h:Span rows r):fr (rows++[r])=fr rows:=by rw[AJ,F4 h];simp
theorem fr_out {rows:D'} {r:Nat} (h:¬Span rows r):fr (rows++[r])=fr rows++[rows.length]:=by rw[AJ,F5 h];rfl
structure Nul (nms rows:D'):Prop where
 lt:∀x∈nms,x < 2 ^ rows.length
 nz:∀x∈nms,x≠0
 sm:∀x∈nms,sm rows x=0
 pw:nms.Pairwise λa b=>a.log2 < b.log2
 len:nms.length + (fr rows).length=rows.length
theorem Nul.nil:Nul [] []:=⟨λ_ h=>gd h @E,λ_ h=>gd h @E,λ_ h=>gd h @E,.nil,rfl⟩
theorem Nul.keep {nms rows:D'} (I:Nul nms rows) {r:Nat} (h:¬Span rows r):Nul nms (rows++[r]) where
 lt:=λx O=>by rw[eH];exact eF (I.lt x O) (gs @C @E)
 nz:=I.nz
 sm:=λx O=>by rw[gR (I.lt x O)];exact I.sm x O
 pw:=I.pw
 len:=by rw[fr_out h,eH,eH,<-I.len];simp;omega
theorem log2_more {n q:Nat} (h:q < 2 ^ n):q^^^2 ^ n≠0/\(q^^^2 ^ n).log2=n:=by
 have e:(2 ^ n:Nat).log2=n:=Ah (mu _) (rn @C @A);have O:(2 ^ n:Nat)≠0:=by have:=lz n;omega
 have hl:=lL (x:=q) O (by rw[e];exact h);refine⟨λz=>?_,by rw[hl,e]⟩;have hb:(q^^^2 ^ n).testBit n=true:=by rw[u6,lT h,KN];rfl
 rw[z] at hb;simp at hb
theorem log2_under {n q:Nat} (h0:q≠0) (h:q < 2 ^ n):q.log2 < n:=(Pc h0).mpr h
theorem Nul.snoc {nms rows:D'} (I:Nul nms rows) {r q:Nat} (hq:q < 2 ^ rows.length) (e:r^^^M.sm rows q=0) (hs:Span rows r):Nul (nms++[q^^^2 ^ rows.length]) (rows++[r]) where
 lt:=λx hx=>by
  rw[eH];rcases lh.mp hx with hx | hx
  ·exact eF (I.lt x hx) (gs @C @E)
  ·rw[fk] at hx;subst hx;exact lt_more hq
 nz:=λx hx=>by
  rcases lh.mp hx with hx | hx
  ·exact I.nz x hx
  ·rw[fk] at hx;subst hx;exact(log2_more hq).1
 sm:=λx hx=>by
  rcases lh.mp hx with hx | hx
  ·rw[gR (I.lt x hx)];exact I.sm x hx
  ·rw[fk] at hx;subst hx;rw[vy hq,Mj];exact e
 pw:=by
  rw[MW];refine⟨I.pw,OL _ _,λa ha b hb=>?_⟩;rw[fk] at hb;subst hb;rw[(log2_more hq).2];exact log2_under (I.nz a ha) (I.lt a ha)
 len:=by rw[fr_in hs,eH,eH,<-I.len];simp;omega
def Inj (ws:D'):Prop:=∀p,p < 2 ^ ws.length->sm ws p=0->p=0
theorem Inj.nil:Inj []:=λp h _=>by
 have:p < 1:=h;omega
theorem xg:∀(n:Nat) (l:D'),l.Nodup->(∀x∈l,x < n)->l.length<=n
 | 0,l,_,h=>by
   cases l with
   | nil=>exact mu _
   | cons x r=>exact gd (h x (oi ..)) (M6 _)
 | n + 1,l,nd,h=>by
   have ih:=xg n (l.erase n) (nd.erase n) λx O=>by
    have hm:=(nd.mem_erase_iff).mp O;have:=h x hm.2;have:=hm.1;omega
   by_cases hm:n∈l
   ·rw[List.length_erase_of_mem hm] at ih;omega
   ·rw[List.erase_of_not_mem hm] at ih;omega
theorem span_lt {t:Nat}:∀{rs:D'} {x:Nat},(∀r∈rs,r < 2 ^ t)->Span rs x->x < 2 ^ t
 | [],x,_,h=>by have h:x=0:=h;rw[h];exact lz t
 | r::rs,x,b,h=>by
   have ih:=λx=>span_lt (rs:=rs) (x:=x) λy O=>b y (ov _ O);rcases h with h | h
   ·exact ih x h
   ·have:=xor_lt_pow (ih _ h) (b r (oi ..));rwa [bw] at this
structure Sums (ks rows:D'):Prop where
 nd:ks.Nodup
 all:∀x,x∈ks↔Span rows x
theorem Sums.zero:Sums [0] []:=⟨@E,λx=>by rw[fk];exact P'⟩
theorem Ee {a b r:Nat} (h:a^^^r=b^^^r):a=b:=by
 have:=y' (·^^^r) h;simpa[bw] using this
theorem Sums.step {ks rows:D'} (S:Sums ks rows) {r:Nat} (h:¬Span rows r):Sums (ks++ks.map (·^^^r)) (rows++[r]):=by
 refine⟨?_,λx=>?_⟩
 ·rw[Ln];refine⟨S.nd,?_,λa ha b hb e=>?_⟩
  ·exact List.Pairwise.map _ (λa b O e=>O (Ee e)) S.nd
  ·obtain⟨c,Z,rfl⟩:=w2.mp hb;subst e;have:=span_xor ((S.all _).mp ha) ((S.all _).mp Z);rw[eP,L7,Ly] at this;exact h this
 ·rw[lh,eQ,S.all,w2];constructor
  ·rintro(h | ⟨y,Y,rfl⟩)
   ·exact .inl h
   ·refine .inr ?_;rw[bw];exact(S.all _).mp Y
  ·rintro(h | h)
   ·exact .inl h
   ·exact .inr ⟨x^^^r,(S.all _).mpr h,bw x r⟩
theorem Sums.keep {ks rows:D'} (S:Sums ks rows) {r:Nat} (h:Span rows r):Sums ks (rows++[r]):=
 ⟨S.nd,λx=>by
  rw[S.all,eQ];refine⟨.inl,λq=>q.elim id λq=>?_⟩;have:=span_xor q h;rwa [bw] at this⟩
theorem Sums.few {ks rows:D'} (S:Sums ks rows) {t:Nat} (h:∀r∈rows,r < 2 ^ t):ks.length<=2 ^ t:=xg _ _ S.nd λx O=>span_lt h ((S.all x).mp O)
end M
namespace Sx
open PySem L2
noncomputable abbrev nat (k:Nat):V:= .int (k:Int)
theorem vD {k:Nat} {A:u7} (r:Room k A):A.units + 100 < cLine:=by have:=r.un;omega
theorem iteB {c:JC} {A B:Prop} (h1:c=true->A) (h2:c=false->B):if c=true then A else B:=by
 cases c
 ·rw[ko hC];exact h2 rfl
 ·rw[px rfl];exact h1 rfl
theorem rS (h:Nat):(2:Int) ^ h=((2 ^ h:Nat):Int):=by norm_cast
theorem shl1 (k:Nat):(1:Int) * 2 ^ ((k:Int).toNat)=((2 ^ k:Nat):Int):=by rw[pT,Int.one_mul];norm_cast
theorem p6 (a b:Nat):O9 (a:Int) (b:Int)=((a||| b:Nat):Int):=by
 have e1:Ko (a:Int)= -(a:Int) - 1:=by first | rfl | (unfold Ko;omega)
 have O:Ko (b:Int)= -(b:Int) - 1:=by first | rfl | (unfold Ko;omega)
 unfold O9 KM;rw[fA (show ¬(0:Int)<=Ko (a:Int) by rw[e1];omega),fA (show ¬(0:Int)<=Ko (b:Int) by rw[O];omega)];have n:∀x:Int,Ko (Ko x)=x:=λx=>by unfold Ko;omega
 simp only[n,pT]
theorem bX (a b:Nat):MM (a:Int) (b:Int)=((a^^^b:Nat):Int):=by
 unfold MM;rw[p6,a8];have:=M.or_sum a b;omega
theorem uS:u4 ((0:Nat):Int)=0:=by decide
theorem kE {m:Nat} (h:m≠0):u4 (m:Int)=m.log2 + 1:=by
 unfold u4;have e:((m:Int) == 0)=false:=by rw[tz];omega
 rw[e,ko hC,PY]
theorem C1 (m i:Nat):KM ((m:Int) / 2 ^ ((0 + (i:Int)).toNat)) 1=if m.testBit i then 1 else 0:=by
 have O:(0 + (i:Int)).toNat=i:=by omega
 rw[O,rS];have e1:(m:Int) / ((2 ^ i:Nat):Int)=((m>>>i:Nat):Int):=by rw[wq];norm_cast
 rw[e1,show(1:Int)=((1:Nat):Int) from rfl,a8,Np]
 have:m.testBit i=(m>>>i % 2 == 1):=by
  rw[Nat.testBit_eq_decide_div_mod_eq,wq];rcases Lf (m / 2 ^ i) with h | h<;>rw[h]<;>rfl
 rw[this];rcases Lf (m>>>i) with h | h<;>rw[h]<;>rfl
structure En where
 a:eh
 m:Nat
 p:Nat
noncomputable def mm (es:eA En):eA (Key×V):=es.map λe=>(JT ((e.m.log2:Nat):Int),V.ref e.a)
theorem oH:∀(es:eA En) (z:Int),(∃e∈es,((e.m.log2:Nat):Int)=z/\valV (mm es) (JT z)=aS (.ref e.a))∨((∀e∈es,((e.m.log2:Nat):Int)≠z)/\valV (mm es) (JT z)=eC)
 | [],z=> .inr ⟨λ_ h=>gd h @E,rfl⟩
 | e::es,z=>by
   by_cases h:((e.m.log2:Nat):Int)=z
   ·exact .inl ⟨e,oi ..,h,oy (by show(JT _:Key)=_;rw[h])⟩
   ·have O:valV (mm (e::es)) (JT z)=valV (mm es) (JT z):=oz (by show ¬(JT _:Key)=_;intro q;exact h (Qu q));rcases oH es z with ⟨x,hx,e1,Y⟩ | ⟨h1,h2⟩
    ·exact .inl ⟨x,ov _ hx,e1,by rw[O];exact Y⟩
    ·refine .inr ⟨λx hx=>?_,by rw[O];exact h2⟩;rcases u5.mp hx with rfl | hx
     ·exact h
     ·exact h1 x hx
theorem BZ {kvs:eA (Key×V)} {k:Key} {v:V} (h:valV kvs k=eC):putK kvs k v=kvs++[(k,v)]:=by
 unfold putK;rw[rH,h];rfl
structure StA (H:Hp) (C p d f n:eh) (rows:D'):Prop where
 ho:∃dx,H p=aS (.ins C dx [("by_top",.ref d),("free_places",.ref f),("null_masks",.ref n)])
 he:∃es:eA En,H d=aS (.dK (mm es))/\(∀e∈es,H e.a=aS (.tup [nat e.m,nat e.p]))/\M.Ech (es.map λe=>(e.m,e.p)) rows/\es.length=(M.fr rows).length
 hf:H f=aS (.lst ((M.fr rows).map nat))
 hn:∃nms,H n=aS (.lst (nms.map nat))/\M.Nul nms rows
 ne:f≠n
theorem StA.same {H H2:Hp} {C p d f n:eh} {rows:D'} (x:StA H C p d f n rows) (s:Same H H2):StA H2 C p d f n rows where
 ho:=let ⟨dx,h⟩:=x.ho;⟨dx,s _ _ h⟩
 he:=let ⟨es,h,t,g,l⟩:=x.he;⟨es,s _ _ h,λe he=>s _ _ (t e he),g,l⟩
 hf:=s _ _ x.hf
 hn:=let ⟨nms,h,g⟩:=x.hn;⟨nms,s _ _ h,g⟩
 ne:=x.ne
theorem StA.null {H H2:Hp} {C p d f n:eh} {rows:D'} (x:StA H C p d f n rows) {r q:Nat} (hq:q < 2 ^ rows.length) (e:r^^^M.sm rows q=0) {nms:D'} (hn:M.Nul nms rows) (hl:H n=aS (.lst (nms.map nat)))
  (u:Upd H H2 n (.lst (nms.map nat++[nat (q^^^2 ^ rows.length)]))):StA H2 C p d f n (rows++[r]):=by
 obtain⟨dx,ho⟩:=x.ho;obtain⟨es,hd,ht,g,l⟩:=x.he;obtain⟨hs,g2⟩:=g.null hq e;refine⟨⟨dx,u.oth _ _ (iY ho hl @E) ho⟩,⟨es,u.oth _ _ (iY hd hl @E) hd,λe he=>u.oth _ _ (iY (ht e he) hl @E) (ht e he),g2,by rw[M.fr_in hs];exact l⟩,?_,⟨nms++[q^^^2 ^ rows.length],?_,hn.snoc hq e hs⟩,x.ne⟩
 ·rw[M.fr_in hs];exact u.oth _ _ x.ne x.hf
 ·rw[hF];exact u.at'
theorem StA.more {H H2 δ Z:Hp} {C p d f n t:eh} {rows:D'} (x:StA H C p d f n rows) {r q:Nat} (hq:q < 2 ^ rows.length) (e:r^^^M.sm rows q≠0) (hn:∀y,M.Span rows y->y≠0->y.log2≠(r^^^M.sm rows q).log2) (hf:M.Frs rows q)
  (u:Upd H H2 f (.lst ((M.fr rows).map nat++[nat rows.length]))) (s:Same H2 δ) (ht:δ t=aS (.tup [nat (r^^^M.sm rows q),nat (q^^^2 ^ rows.length)])) {es:eA En} (hd:H d=aS (.dK (mm es))) (β:∀e∈es,H e.a=aS (.tup [nat e.m,nat e.p])) (g:M.Ech (es.map λe=>(e.m,e.p)) rows) (l:es.length=(M.fr rows).length)
  (α:Upd δ Z d (.dK (putK (mm es) (JT (((r^^^M.sm rows q).log2:Nat):Int)) (.ref t)))):StA Z C p d f n (rows++[r]):=by
 obtain⟨dx,ho⟩:=x.ho;obtain⟨nms,O,ζ⟩:=x.hn;have Y:∀e∈es.map (λe=>(e.m,e.p)),e.1.log2≠(r^^^M.sm rows q).log2:=λe he=>hn e.1 (g.span he) (g.nz e he);obtain⟨hs,g2⟩:=g.more hq e Y hf;have γ:=s _ _ (u.oth _ _ (iY hd x.hf @E) hd)
 have ε:valV (mm es) (JT (((r^^^M.sm rows q).log2:Nat):Int))=none:=by
  rcases oH es (((r^^^M.sm rows q).log2:Nat):Int) with ⟨z,hz,e1,_⟩ | ⟨_,h⟩
  ·exact gd (Int.ofNat_inj.mp e1) (Y (z.m,z.p) (w2.mpr ⟨z,hz,rfl⟩))
  ·exact h
 have go:∀(b:eh) (ob:HO),H b=aS ob->b≠f->b≠d->Z b=aS ob:=λb ob h h1 h2=>α.oth _ _ h2 (s _ _ (u.oth _ _ h1 h));refine⟨⟨dx,go _ _ ho (iY ho x.hf @E) (iY ho hd @E)⟩,⟨es++[⟨t,r^^^M.sm rows q,q^^^2 ^ rows.length⟩],?_,λe he=>?_,?_,?_⟩,?_,⟨nms,go _ _ O (vl x.ne) (iY O hd @E),ζ.keep hs⟩,x.ne⟩
 ·rw[α.at',BZ ε];unfold mm;rw[hF];rfl
 ·rcases lh.mp he with he | he
  ·exact go _ _ (β e he) (iY (β e he) x.hf @E) (iY (β e he) hd @E)
  ·rw[fk] at he;subst he;exact α.oth _ _ (iY ht γ @E) ht
 ·rw[hF];exact g2
 ·rw[M.fr_out hs,eH,eH,l];rfl
 ·rw[M.fr_out hs,hF];exact α.oth _ _ (λz=>by rw[z] at x;have:=x.hf;rw[hd] at this;cases this) (s _ _ u.at')
def Gj (C:eh):Sp:=λvs H Q _=>∃p d f n rows x,vs=[.ref p,nat x]/\StA H C p d f n rows/\
 ∀t H2 q,H t=eC->Same H H2->H2 t=aS (.tup [nat (x^^^M.sm rows q),nat q])->q < 2 ^ rows.length->(x^^^M.sm rows q≠0->∀y,M.Span rows y->y≠0->y.log2≠(x^^^M.sm rows q).log2)->M.Frs rows q->Q (.ref t) H2
def Gk (C:eh):Sp:=λvs H Q _=>∃p d f n rows r,vs=[.ref p,nat rows.length,nat r]/\StA H C p d f n rows/\rows.length<=1000/\
 ∀H2,(∀b o,b≠d->b≠f->b≠n->H b=aS o->H2 b=aS o)->StA H2 C p d f n (rows++[r])->Q .non H2
def Ep (C:eh):Sp:=λvs H Q _=>∃x dx r rows,vs=[.ref x,.ref r]/\H r=aS (.lst (rows.map nat))/\rows.length<=1000/\H x=aS (.ins C dx [])/\
 ∀H2 d f n,(∀b o,b≠x->H b=aS o->H2 b=aS o)->StA H2 C x d f n rows->Q .non H2
def Ez:Sp:=λvs H Q _=>∃r rows,vs=[.ref r]/\H r=aS (.lst (rows.map nat))/\rows.length<=1000/\∀D H2,H D=eC->Same H H2->H2 D=aS (.lst ((M.fr rows).map nat))->Q (.ref D) H2
theorem aX {α:Type} {f:α->V} {ws:eA α} {i:Nat} {x:V} (h:(ws.map f)[i]? =aS x):∃k,ws[i]? =aS k/\x=f k:=by
 rw[f'] at h;cases e:ws[i]? with
 | none=>rw[e] at h;cases h
 | some k=>rw[e] at h;exact⟨k,rfl,(iv h).symm⟩
theorem take_succ {α:Type} {ws:eA α} {i:Nat} {w:α} (h:ws[i]? =aS w):ws.take (i + 1)=ws.take i++[w]:=by rw[Qw,h];rfl
theorem wK {α:Type} {ws:eA α} {i:Nat} {w:α} (h:ws[i]? =aS w):(ws.take i).length=i:=by
 rw[x4];have:=(dt.mp h).1;omega
theorem j3 (ns:D'):(ns.map nat).all pP=true:=by simp[pP]
theorem tT {K:aT} {H:Hp} {Q:VK} {neg:JC} {p q:eh} {ns:D'} (e:SqL K H p (ns.map nat)) (e':SqL K H q (ns.map nat)) (h:Q (.bl (!neg)) H):rEqL K neg (.ref p) (.ref q) H Q:=by
 refine⟨p,q,_,_,rfl,rfl,e,e',j3 ns,j3 ns,?_⟩;rw[AQ (j3 ns)];cases neg<;>exact h
theorem rz {A:u7} {k:Nat} (O:Room k A):A.units < cLine:=by have:=O.un;omega
def Dx:Sp:=λvs H Q _=>∃c k,vs=[.int c,.int k]/\0<=k/\k < 100000/\∀r:Nat,r < 2147483587->Q (nat r) H
theorem sP {H:Hp} {Q:VK} {E:XK} {c k:Int} (h0:0<=k) (h1:k < 100000) (q:∀r:Nat,r < 2147483587->Q (nat r) H):Dx [.int c,.int k] H Q E:=⟨c,k,rfl,h0,h1,q⟩
structure Prs (H:Hp) (ws:D') (D:eh) (ps:eA (eh×Nat)):Prop where
 l:H D=aS (.lst (ps.map λq=>V.ref q.1))
 t:∀q∈ps,H q.1=aS (.tup [nat q.2,nat (M.sm ws q.2)])
 b:∀q∈ps,q.2 < 2 ^ ws.length
end Sx
namespace M
theorem sm_append:∀(a b:D') (p:Nat),sm (a++b) p=sm a p^^^sm b (p / 2 ^ a.length)
 | [],b,p=>by show sm b p=0^^^sm b (p / 1);rw[Ly,Nat.div_one]
 | r::a,b,p=>by
   show(if p.testBit 0 then r else 0)^^^sm (a++b) (p / 2)=((if p.testBit 0 then r else 0)^^^sm a (p / 2))^^^sm b (p / 2 ^ (a.length + 1));rw[sm_append a b (p / 2),JU,Nat.div_div_eq_div_mul,Lz,N0 2]
theorem sm_two_pow:∀(l:D') (j:Nat),sm l (2 ^ j)=l.getD j 0
 | [],j=>by simp[sm]
 | r::l,0=>by
   show(if (2 ^ 0).testBit 0 then r else 0)^^^sm l (2 ^ 0 / 2)=r;rw[show(2 ^ 0:Nat) / 2=0 from rfl,sm_zero];simp
 | r::l,j + 1=>by
   show(if (2 ^ (j + 1)).testBit 0 then r else 0)^^^sm l (2 ^ (j + 1) / 2)=l.getD j 0;have e1:(2 ^ (j + 1)) / 2=2 ^ j:=by rw[Lz];omega
   have O:(2 ^ (j + 1)).testBit 0=false:=by rw[sg];simp
   rw[e1,O,sm_two_pow l j];simp
theorem oB {P:D'->Prop} (h0:P []) (hs:∀l w,P l->P (l++[w])):∀l,P l:=by
 intro l;rw[<-Pg l];generalize l.reverse=k
 induction k with
 | nil=>exact h0
 | cons a k ih=>rw[PX];exact hs _ _ ih
theorem pl_next (i m:Nat):pl (i + 1) m=pl i m++(if m.testBit i then [i] else []):=by
 unfold pl;rw[Ky,L'];congr 1;by_cases h:m.testBit i=true
 ·rw[px h];simp[h]
 ·rw[ko h];simp[h]
theorem pl_le (i m:Nat):(pl i m).length<=i:=by
 have:=P8 m.testBit (hE i);rw[q7] at this;exact this
theorem pl_rise (w m:Nat):(pl w m).Pairwise (· < ·):=O1 _ MI
theorem pl_lt {w m n:Nat} (h:m < 2 ^ n):∀x∈pl w m,x < n:=by
 intro x O;have hb:=(Mm.mp O).2;refine Qh λhn=>?_;rw[lT (eF h (gs @C hn))] at hb;cases hb
noncomputable def xs (rows ps:D'):Nat:=ps.foldl (λa k=>a^^^rows.getD k 0) 0
end M
namespace Sx
open PySem L2
theorem Ac (l:D'):l.map nat=(l.map λ(k:Nat)=>(k:Int)).map V.int:=by rw[KR];rfl
section
variable {H:Hp} {Q:VK}
theorem wM:∀l:D',(l.map λ(k:Nat)=>(k:Int)).sum=((l.sum:Nat):Int)
 | []=>rfl
 | x::l=>by rw[z0,QF,QF,wM l];push_cast;rfl
theorem Gx {p:eh} {l:D'} (e:H p=aS (.lst (l.map nat))) (h:Q (nat l.sum) H):EV [.ref p] H Q:=by
 refine⟨p,l.map λ(k:Nat)=>(k:Int),rfl,by rw[e,Ac],?_⟩;rw[wM];exact h
end
theorem wt (m:Nat):m < 2 ^ u4 (m:Int):=by
 by_cases h:m=0
 ·subst h;decide
 ·rw[kE h];exact L1
theorem wu {m w:Nat} (hm:m < 2 ^ w):u4 (m:Int)<=w:=by
 by_cases h:m=0
 ·subst h;rw[uS];exact Ka _
 ·rw[kE h];exact(Pc h).mpr hm
def Ey:Sp:=λvs H Q _=>∃m:Nat,vs=[nat m]/\m < 2 ^ 1000/\∀D H2,H D=eC->Same H H2->H2 D=aS (.lst ((M.pl 1000 m).map nat))->Q (.ref D) H2
end Sx
namespace M
noncomputable abbrev od (m:Nat):Bool:=pb 1000 m
theorem md (a b:Nat):od (a^^^b)=(od a^^od b):=zX 1000 a b
theorem sT (m a b:Nat):m&&&(a^^^b)=(m&&&a)^^^(m&&&b):=by
 apply kA;intro i;simp only[JD,u6];cases m.testBit i<;>simp
theorem yW (m a b:Nat):(a^^^b)&&&m=(a&&&m)^^^(b&&&m):=by
 apply kA;intro i;simp only[JD,u6];cases m.testBit i<;>simp
theorem rX:∀w:Nat,pb w 0=false
 | 0=>rfl
 | w + 1=>by show((0:Nat).testBit w^^pb w 0)=false;rw[rX w];simp
theorem pb_pow {w t:Nat} (h:t < w):pb w (2 ^ t)=true:=by
 rw[pb_up (w:=t + 1) (rn @C @A) h];show((2 ^ t).testBit t^^pb t (2 ^ t))=true
 have e:pb t (2 ^ t)=false:=by
  rw[<-zY,Nat.mod_self,rX]
 rw[e,KN];rfl
theorem EZ (t y:Nat):2 ^ t&&&y=if y.testBit t then 2 ^ t else 0:=by
 apply kA;intro i;rw[JD,sg];by_cases h:t=i
 ·subst h;cases y.testBit t<;>simp
 ·cases y.testBit t<;>simp[h,sg]
theorem rl {t:Nat} (h:t < 1000) (y:Nat):od (2 ^ t&&&y)=y.testBit t:=by
 rw[EZ];cases y.testBit t with
 | true=>rw[px rfl];exact pb_pow h
 | false=>rw[ko hC];exact rX 1000
theorem od_zero:od 0=false:=rX 1000
theorem DJ {y k:Nat} (h:y < 2 ^ k):y.testBit k=false:=lT h
theorem y9 {y t k:Nat} (h:y≠0) (e:y.log2=t) (l:t < k):y < 2 ^ k:=eF (by rw[<-e];exact L1) (gs @C l)
structure Bar (rows:D') (b m:Nat):Prop where
 ev:∀y,Span rows y->od (m&&&y)=false
 bit:m.testBit b=true
 low:∀k,k < b->m.testBit k=false
 oth:∀k,k≠b->(∀y,Span rows y->y≠0->y.log2≠k)->m.testBit k=false
 lt:∀W,(∀r∈rows,r < 2 ^ W)->b < W->m < 2 ^ W
structure BarI (es:A') (ts:D') (b m:Nat):Prop where
 ev:∀e∈es,e.1.log2∈ts->od (m&&&e.1)=false
 bit:m.testBit b=true
 low:∀k,k < b->m.testBit k=false
 oth:∀k,k≠b->(∀e∈es,e.1.log2≠k)->m.testBit k=false
 lt:∀W,(∀e∈es,e.1 < 2 ^ W)->b < W->m < 2 ^ W
theorem BarI.zero (es:A') (b:Nat):BarI es [] b (2 ^ b) where
 ev:=λ_ _ h=>gd h @E
 bit:=KN
 low:=λk h=>by rw[sg];simp;omega
 oth:=λk h _=>by rw[sg];simp;omega
 lt:=λW _ h=>rn @C h
theorem Cb {m y b:Nat} (h:∀k,k < b->m.testBit k=false) (hy:y < 2 ^ b):m&&&y=0:=by
 apply kA;intro i;rw[JD,Kp];by_cases hi:i < b
 ·rw[h i hi];rfl
 ·rw[lT (eF hy (gs @C @A))];simp
theorem wI {es:A'} (nd:(es.map λe=>e.1.log2).Nodup) {e f:Nat×Nat} (he:e∈es) (hf:f∈es) (h:e.1.log2=f.1.log2):e=f:=by
 obtain⟨i,hi,rfl⟩:=JE.mp he;obtain⟨j,Y,rfl⟩:=JE.mp hf
 have O:∀i j (hi:i < es.length) (Y:j < es.length),i < j->es[i].1.log2≠es[j].1.log2:=λi j hi Y Z=>by
  have:=zt.mp nd i j (by rw[eB];exact hi) (by rw[eB];exact Y) Z;rw[N6,N6] at this;exact this
 rcases Kq i j with h1 | h1 | h1
 ·exact gd h (O i j hi Y h1)
 ·subst h1;rfl
 ·exact gd h.symm (O j i Y hi h1)
theorem BarI.keep {es:A'} {ts:D'} {b m:Nat} (I:BarI es ts b m) {e:Nat×Nat} (nd:(es.map λe=>e.1.log2).Nodup) (he:e∈es) (h:od (m&&&e.1)=false):BarI es (ts++[e.1.log2]) b m where
 ev:=λf hf hm=>by
  rcases lh.mp hm with hm | hm
  ·exact I.ev f hf hm
  ·rw[fk] at hm;rw[wI nd hf he hm];exact h
 bit:=I.bit
 low:=I.low
 oth:=I.oth
 lt:=I.lt
theorem BarI.flip {es:A'} {ts:D'} {b m:Nat} (I:BarI es ts b m) {e:Nat×Nat} (nd:(es.map λe=>e.1.log2).Nodup) (nz:∀e∈es,e.1≠0) (he:e∈es) (h:od (m&&&e.1)=true) (up:∀t∈ts,t < e.1.log2) (hb:e.1.log2≠b) (O:e.1.log2 < 1000):BarI es (ts++[e.1.log2]) b (m^^^2 ^ e.1.log2):=by
 have β:b < e.1.log2:=by
  refine Nat.lt_of_le_of_ne (NZ λY=>?_) (vl hb);rw[Cb I.low (y9 (nz e he) rfl Y),od_zero] at h;cases h
 have α:=nz e he;refine⟨λf hf hm=>?_,?_,λk hk=>?_,λk hk hn=>?_,λW Z ν=>?_⟩
 ·rw[yW,md,rl O];rcases lh.mp hm with hm | hm
  ·rw[I.ev f hf hm,DJ (y9 (nz f hf) rfl (up _ hm))];rfl
  ·rw[fk] at hm;rw[wI nd hf he hm,h,kF α];rfl
 ·rw[u6,I.bit,sg];simp;omega
 ·rw[u6,I.low k hk,sg];simp;omega
 ·rw[u6,I.oth k hk hn,sg];have:=hn e he;simp;omega
 ·exact xor_lt_pow (I.lt W Z ν) (v3 (Qi α) (Z e he))
theorem Ech.even_all {es:A'} {rows:D'} (g:Ech es rows) {m:Nat} (h:∀e∈es,od (m&&&e.1)=false):∀y,Span rows y->od (m&&&y)=false:=by
 intro y
 induction y using Qv with
 | ind y ih=>
   intro Y;by_cases O:y=0
   ·subst O;rw[Ox,od_zero]
   ·obtain⟨e,he,el⟩:=g.all y Y O;have α:=g.nz e he;have hl:=xor_less O α el.symm;have h1:=ih _ hl (span_xor Y (g.span he));have h2:=h e he;have Z:od (m&&&(y^^^e.1))=(od (m&&&y)^^od (m&&&e.1)):=by rw[sT,md]
    rw[h1,h2] at Z;simpa using Z.symm
theorem BarI.done {es:A'} {rows:D'} (g:Ech es rows) {ts:D'} {b m:Nat} (I:BarI es ts b m) (all:∀e∈es,e.1.log2∈ts):Bar rows b m where
 ev:=g.even_all λe he=>I.ev e he (all e he)
 bit:=I.bit
 low:=I.low
 oth:=λk hk h=>I.oth k hk λe he=>h e.1 (g.span he) (g.nz e he)
 lt:=λW O hb=>I.lt W (λe he=>span_lt O (g.span he)) hb
theorem Bar.odd {rows:D'} {b m x q:Nat} (B:Bar rows b m) (h0:x^^^sm rows q≠0) (hb:(x^^^sm rows q).log2=b) (O:b < 1000):od (m&&&x)=true:=by
 have e1:m&&&x=(m&&&(x^^^sm rows q))^^^(m&&&sm rows q):=by rw[<-sT,bw]
 rw[e1,md,B.ev _ (sm_span rows q)]
 have Y:m&&&(x^^^sm rows q)=2 ^ b:=by
  apply kA;intro i;rw[JD,sg];rcases Kq i b with h | h | h
  ·rw[B.low i h];simp;omega
  ·subst h;rw[B.bit,<-hb,kF h0];simp
  ·rw[DJ (y9 h0 hb h)];simp;omega
 rw[Y];show(pb 1000 (2 ^ b)^^false)=true;rw[pb_pow O];rfl
theorem xN:∀rows:D',∃ks,Sums ks rows/\ks.length=2 ^ (fr rows).length:=by
 refine oB ⟨[0],Sums.zero,rfl⟩ λrows r ih=>?_;obtain⟨ks,S,e⟩:=ih;by_cases h:Span rows r
 ·exact⟨ks,S.keep h,by rw[fr_in h];exact e⟩
 ·refine⟨_,S.step h,?_⟩;rw[fr_out h,eH,eH,eB,e,Kc,Lz];omega
theorem zO {rows:D'} {t:Nat} (h:∀r∈rows,r < 2 ^ t):(fr rows).length<=t:=by
 obtain⟨ks,S,e⟩:=xN rows;have:=S.few h;rw[e] at this;exact(Nat.pow_le_pow_iff_right @C).mp this
theorem E6 (w m:Nat):pb (w + 1) m=(m.testBit 0^^pb w (m / 2)):=by
 rw[Oy,kj 1 w m,wq];congr 1;show(m.testBit 0^^false)=_;simp
theorem sum_uniq {rows:D'} {p q:Nat} (hp:Frs rows p) (hq:Frs rows q) (e:sm rows p=sm rows q):p=q:=by
 refine Classical.byContradiction λZ=>?_;have hf:=hp.xor hq;have hz:sm rows (p^^^q)=0:=by rw[sm_xor,e,L7]
 have α:p^^^q≠0:=λz=>Z (by have:=y' (·^^^q) z;simpa[bw] using this);generalize p^^^q=z at hf hz α;obtain⟨hi,hn⟩:=hf z.log2 (kF α);apply hn;have β:z=(z^^^2 ^ z.log2)^^^2 ^ z.log2:=(bw _ _).symm
 have Y:z^^^2 ^ z.log2 < 2 ^ z.log2:=by
  have:=wF α (show 2 ^ z.log2≠0 from Jr (lz _)) (by rw[Nat.log2_two_pow]);exact this
 generalize ζ:z^^^2 ^ z.log2=y at β Y;generalize z.log2=t at β Y hi
 have γ:rows=rows.take t++(rows.getD t 0::rows.drop (t + 1)):=by
  rw[ee,b' hi];show rows=rows.take t++(rows[t]::rows.drop (t + 1));rw[<-List.drop_eq_getElem_cons hi,MR]
 have η:∀(O bs:D') (s:Nat),s < 2 ^ O.length->sm (O++bs) s=sm O s:=by
  intro O bs
  induction O with
  | nil=>
    intro s hs;have ε:s=0:=by have:s < 1:=hs;omega
    rw[ε,sm_zero,sm_zero]
  | cons a O ih=>
    intro s hs;show(if s.testBit 0 then a else 0)^^^sm (O++bs) (s / 2)=(if s.testBit 0 then a else 0)^^^sm O (s / 2);rw[ih (s / 2) (by rw[JV,Lz] at hs;omega)]
 have τ:(rows.take t).length=t:=by rw[x4];omega
 have h1:sm rows y=sm (rows.take t) y:=by
  conv=>lhs;rw[γ]
  exact η _ _ y (by rw[τ];exact Y)
 have h2:sm rows (2 ^ t)=rows.getD t 0:=by
  have δ:rows=(rows.take t++[rows.getD t 0])++rows.drop (t + 1):=by rw[Lq];exact γ
  conv=>lhs;rw[δ]
  rw[η _ _ (2 ^ t) (by rw[eH,τ,Kc];exact rn @C @A)];have:=zo (rows.take t) (rows.getD t 0);rw[τ] at this;exact this
 rw[β,sm_xor,h1,h2] at hz
 have:rows.getD t 0=sm (rows.take t) y:=by
  have:=y' (sm (rows.take t) y^^^·) hz;simp only[<-JU,L7,Ly,K3] at this;exact this
 rw[this];exact sm_span _ _
theorem wO {l:D'} {m:Nat} (h:m∈l):Span l m:=by
 obtain⟨j,O,rfl⟩:=JE.mp h;have:=sm_span l (2 ^ j);rw[sm_two_pow,ee,b' O] at this;exact this
end M
namespace Sx
open PySem L2
noncomputable def cell (ns:I8) (k:Int):Int:=if k < ns.length then ns.getD k.toNat 0 else 41 * k + 3
def wQ (K:aT):Sp:=λvs H Q _=>∃(p:eh) (ns:I8) (k:Int),vs=[.ref p,.int k]/\SqL K H p (ns.map V.int)/\0<=k/\Q (.int (cell ns k)) H
theorem ka {K:aT} {H:Hp} {Q:VK} {E:XK} {p:eh} {ns:I8} {k:Int} (e:SqL K H p (ns.map V.int)) (h0:0<=k) (q:Q (.int (cell ns k)) H):wQ K [.ref p,.int k] H Q E:=⟨p,ns,k,rfl,e,h0,q⟩
def Ew:Sp:=λvs H Q _=>∃m:Nat,vs=[nat m]/\m < 2 ^ 1000/\Q (.bl (!M.od m)) H
theorem AN (n h:Nat):MM ((n:Int) / 2 ^ ((h:Int).toNat)) (KM (n:Int) (1 * 2 ^ ((h:Int).toNat) - 1))=(((n>>>h)^^^(n&&&(2 ^ h - 1)):Nat):Int):=by
 rw[pT,Int.one_mul,rS];have e1:(n:Int) / ((2 ^ h:Nat):Int)=((n>>>h:Nat):Int):=by rw[wq];norm_cast
 have O:((2 ^ h:Nat):Int) - 1=((2 ^ h - 1:Nat):Int):=by have:=lz h;omega
 rw[e1,O,a8,bX]
theorem AB (O:Nat):((O:Int) + 1) / 2=(((O + 1) / 2:Nat):Int):=by omega
theorem B7 {n:Nat} (h:n < 2):decide (nat n=V.int 0)= !M.od n:=by
 have:n=0∨n=1:=by omega
 rcases this with rfl | rfl
 ·rw[M.od_zero];decide
 ·rw[show M.od 1=true from M.pb_pow (t:=0) @C];decide
def HV (rows:D') (b:Nat):Prop:=∀y,M.Span rows y->y≠0->y.log2≠b
def Gp (C:eh):Sp:=λvs H Q _=>∃(p d f n:eh) (rows:D') (b:Nat),vs=[.ref p,nat b]/\StA H C p d f n rows/\b < 1000/\(∀r∈rows,r < 2 ^ 1000)/\(M.fr rows).length < 64/\HV rows b/\
 ∀m H2,Same H H2->M.Bar rows b m->Q (nat m) H2
structure Acr (rows:D') (wd:Nat) (ms:D'):Prop where
 len:ms.length + (M.fr rows).length=wd
 inj:M.Inj ms
 lt:∀m∈ms,m < 2 ^ wd
 ev:∀m∈ms,∀y,M.Span rows y->M.od (m&&&y)=false
 all:∀z,z < 2 ^ wd->(∀y,M.Span rows y->M.od (z&&&y)=false)->M.Span ms z
theorem Cf (es:eA En):(mm es).map (·.1)=(es.map λe=>((e.m.log2:Nat):Int)).map Sum.inl:=by unfold mm;rw[KR,KR];rfl
theorem vk {es:eA En} {ns:I8} (hp:ns.Perm (es.map λe=>((e.m.log2:Nat):Int))) (hw:ns.Pairwise (·<=·)) (nd:(es.map λe=>e.m.log2).Nodup):
  ∃ts:D',ns=ts.map (λ(k:Nat)=>(k:Int))/\ts.Pairwise (· < ·)/\(∀t,t∈ts↔∃e∈es,e.m.log2=t):=by
 have hn:∀x∈ns,((x.toNat:Nat):Int)=x:=λx Y=>by
  obtain⟨e,_,rfl⟩:=w2.mp (hp.mem_iff.mp Y);omega
 have e1:ns=(ns.map LD).map (λ(k:Nat)=>(k:Int)):=by
  rw[KR];exact(Ot ns).symm.trans (Li λx Y=>(hn x Y).symm)
 have O:(ns.map LD).Perm (es.map λe=>e.m.log2):=by
  have:=hp.map LD;rw[KR] at this;exact this
 refine⟨ns.map LD,e1,?_,λt=>?_⟩
 ·have ξ:(ns.map LD).Nodup:=O.nodup_iff.mpr nd
  have Z:(ns.map LD).Pairwise (·<=·):=by
   rw[Md];exact hw.imp λh=>by omega
  exact Of (R:=λa b=>a<=b/\a≠b) (λh=>by omega) (List.Pairwise.and Z ξ)
 ·rw[O.mem_iff,w2]
end Sx
namespace M
noncomputable def cm (a b:Nat):Nat:=if b=0 then 0 else (if b % 2=1 then a else 0)^^^2 * cm a (b / 2)
termination_by b
decreasing_by omega
def Dv (d x:Nat):Prop:=∃q,cm q d=x
structure Rm (d x r:Nat):Prop where
 lt:r < 2 ^ d.log2
 dv:Dv d (x^^^r)
end M
namespace Sx
open PySem L2
noncomputable def dg (m:Nat):Int:=(u4 (m:Int):Int) - 1
theorem ED (a p:Nat):(a:Int) * 2 ^ ((p:Int).toNat)=((a * 2 ^ p:Nat):Int):=by rw[pT];push_cast;rfl
end Sx
namespace M
structure Ord (d e:Nat):Prop where
 pos:1<=e
 one:Rm d (2 ^ e) 1
 least:∀j,1<=j->j < e->¬Rm d (2 ^ j) 1
 le:e<=2 ^ d.log2
end M
namespace Sx
open PySem L2
noncomputable def y3 (k:Jy):Bool:=subB k "int"&& !subB k "bool"
noncomputable def lK (x:V) (w:Int):Bool:=match x with
 | .int i=>decide (0<=i)&&decide (((u4 i:Nat):Int)<=w)
 | _=>false
def oA (K:aT):Sp:=λvs H Q _=>∃x k,vs=[x]/\j0 K H x k/\Q (.bl (y3 k)) H
def vo (K:aT):Sp:=λvs H Q _=>∃x k w,vs=[x,.int w]/\j0 K H x k/\Q (.bl (lK x w)) H
theorem ip {K:aT} {H:Hp} {Q:VK} {E:XK} {x:V} {k:Jy} (hk:j0 K H x k) (q:Q (.bl (y3 k)) H):oA K [x] H Q E:=⟨x,k,rfl,hk,q⟩
theorem j9 {K:aT} {H:Hp} {Q:VK} {E:XK} {x:V} {k:Jy} {i:Int} (hk:j0 K H x k) (q:Q (.bl (lK x i)) H):vo K [x,.int i] H Q E:=⟨x,k,i,rfl,hk,q⟩
theorem ku {c m:Int} (h:0 < m):∃k:Nat,c % m=(k:Int)/\(k:Int) < m:=by
 obtain⟨k,hk⟩:=KU (LB c (Int.ne_of_gt h));exact⟨k,hk,by rw[<-hk];exact L0 c h⟩
theorem IB {H:Hp} {Q:VK} {l:eh} {k:Int} {xs:eA V} (e:H l=aS (.lst xs)) (h0: -(2 ^ 63)<=k) (h1:k < 2 ^ 63) (hz:xs.length * k.toNat<=hH) (h:∀p H2,H p=eC->Same H H2->H2 p=aS (.lst (ra k.toNat xs).flatten)->Q (.ref p) H2):rRep (.ref l) (.int k) H Q:=
 ⟨l,k,xs,rfl,rfl,e,h0,h1,hz,jb h⟩
end Sx
namespace M
noncomputable def bn (b:JC):Nat:=if b then 1 else 0
noncomputable def pk (s:Nat->JC) (t:Nat):Nat->Nat
 | 0=>0
 | L + 1=>pk s t L^^^(if s (t + L) then 2 ^ L else 0)
theorem G0 (s:Nat->JC) (t:Nat):∀L,pk s t L < 2 ^ L
 | 0=>Nat.one_pos
 | L + 1=>by
   have ih:=G0 s t L;refine xor_lt_pow (eF ih (gs @C @A)) ?_;split
   ·exact rn @C @A
   ·exact lz _
theorem DI (s:Nat->JC) (t:Nat):∀L p,(pk s t L).testBit p=(decide (p < L)&&s (t + p))
 | 0,p=>by simp[pk]
 | L + 1,p=>by
   rw[pk,u6,DI s t L p];rcases Kq p L with h | h | h
   ·have e:(if s (t + L)=true then 2 ^ L else 0:Nat).testBit p=false:=by
     cases s (t + L)<;>simp[sg];omega
    rw[e];simp[h,show p < L + 1 by omega]
   ·subst h;cases hs:s (t + p)<;>simp[KN]
   ·have e:(if s (t + L)=true then 2 ^ L else 0:Nat).testBit p=false:=by
     cases s (t + L)<;>simp[sg];omega
    rw[e];simp[show ¬p < L by omega,show ¬p < L + 1 by omega]
theorem w8 {s u:Nat->JC} {t v:Nat}:∀{L:Nat},(∀p,p < L->s (t + p)=u (v + p))->pk s t L=pk u v L
 | 0,_=>rfl
 | L + 1,h=>by rw[pk,pk,w8 λp hp=>h p @A,h L @A]
noncomputable def lf (G:Nat):Nat->(Nat->JC)->Nat->JC
 | 0,_,_=>false
 | L + 1,s,t=>lf G L s t^^(G.testBit L&&s (t + L))
noncomputable def tr (O:D') (x:Nat):Nat:=pk (λk=>od (O.getD k 0&&&x)) 0 O.length
noncomputable def stt (O:D') (x:Nat):Nat->Nat
 | 0=>x
 | t + 1=>tr O (stt O x t)
noncomputable def ans (O:D') (o x t:Nat):Bool:=od (o&&&stt O x t)
noncomputable def lm (L G:Nat):D':=(hE (L - 1)).map (λp=>2 ^ (p + 1))++(if 0 < L then [G] else [])
end M
namespace Sx
open PySem L2
noncomputable abbrev Pr3:=eh×Nat×Nat
noncomputable def refs (ps:eA Pr3):eA V:=ps.map λq=>V.ref q.1
def Prt (H:Hp) (ps:eA Pr3):Prop:=∀q∈ps,H q.1=aS (.tup [nat q.2.1,nat q.2.2])
theorem Prt.same {H H2:Hp} {ps:eA Pr3} (x:Prt H ps) (s:Same H H2):Prt H2 ps:=λq h=>s _ _ (x q h)
structure MaA (H:Hp) (C p:eh) (m:Nat) (nx os:eA Pr3):Prop where
 ho:∃dx tn to,H p=aS (.ins C dx [("inputs",nat m),("nexts",.ref tn),("outs",.ref to)])/\H tn=aS (.tup (refs nx))/\H to=aS (.tup (refs os))
 hn:Prt H nx
 hs:Prt H os
theorem MaA.same {H H2:Hp} {C p:eh} {m:Nat} {nx os:eA Pr3} (x:MaA H C p m nx os) (s:Same H H2):MaA H2 C p m nx os:=
 ⟨let ⟨dx,ε,to,a,b,c⟩:=x.ho;⟨dx,ε,to,s _ _ a,s _ _ b,s _ _ c⟩,x.hn.same s,x.hs.same s⟩
noncomputable def sq (bs:eA JC):Nat->Bool:=λi=>bs.getD i false
def zg:Sp:=λvs H Q _=>∃(r:eh) (ps:D'),vs=[.ref r]/\H r=aS (.lst (ps.map nat))/\(∀p∈ps,p < 1000)/\Q (nat (M.xm ps)) H
def Bx:Sp:=λvs H Q _=>∃(t:eh) (x y n m:Nat),vs=[.ref t,nat n,nat m]/\H t=aS (.tup [nat x,nat y])/\x < 2 ^ n/\y < 2 ^ m/\Q (.bl true) H
structure Tab (H:Hp) (n o:eh) (m:Nat) (nx os:eA Pr3):Prop where
 m6:m<=6
 n:H n=aS (.lst (refs nx))
 o:H o=aS (.lst (refs os))
 pn:Prt H nx
 po:Prt H os
 ln:nx.length<=120
 lo:os.length<=6
 bn:∀q∈nx++os,q.2.1 < 2 ^ nx.length/\q.2.2 < 2 ^ m
def Ex:Sp:=λvs H Q _=>∃(n o:eh) (m:Nat) (nx os:eA Pr3),vs=[nat m,.ref n,.ref o]/\Tab H n o m nx os/\∀H2,Same H H2->Q .non H2
def Es (C:eh):Sp:=λvs H Q _=>∃(x dx n o:eh) (m:Nat) (nx os:eA Pr3),vs=[.ref x,nat m,.ref n,.ref o]/\H x=aS (.ins C dx [])/\Tab H n o m nx os/\∀H2,(∀b ob,b≠x->H b=aS ob->H2 b=aS ob)->MaA H2 C x m nx os->Q .non H2
def ze (C:eh):Sp:=λvs H Q _=>∃(p:eh) (m:Nat) (nx os:eA Pr3),vs=[.ref p]/\MaA H C p m nx os/\Q (nat nx.length) H
structure Lfsr (nx os:eA Pr3) (L G:Nat):Prop where
 nx:nx.map (λq=>q.2.1)=M.lm L G
 os:∃t,os=[(t,(if 0 < L then 1 else 0),0)]
theorem fw {a n:Nat} (h:a < 2 ^ n):lK (nat a) (n:Int)=true:=by
 have:=wu h;show(decide ((0:Int)<=(a:Int))&&decide (((u4 (a:Int):Nat):Int)<=(n:Int)))=true;rw[hJ @A,hJ @A];rfl
theorem Ef {ps:D'} {i k:Nat} (h:ps[i]? =aS k):M.xm (ps.take (i + 1))=M.xm (ps.take i)^^^2 ^ k:=by rw[take_succ h];unfold M.xm;rw[Lp];rfl
noncomputable abbrev ms (nx:eA Pr3):D':=nx.map λq=>q.2.1
end Sx
namespace M
noncomputable def tr2 (ps:A') (x r:Nat):Nat:=pk (λk=>od ((ps.getD k (0,0)).1&&&x)^^od ((ps.getD k (0,0)).2&&&r)) 0 ps.length
theorem fN (ps:A') (x r k:Nat):(tr2 ps x r).testBit k=(decide (k < ps.length)&&(od ((ps.getD k (0,0)).1&&&x)^^od ((ps.getD k (0,0)).2&&&r))):=by unfold tr2;rw[DI,M']
theorem tr2_lt (ps:A') (x r:Nat):tr2 ps x r < 2 ^ ps.length:=G0 _ _ _
theorem tr2_snoc (ps:A') (p:Nat×Nat) (x r:Nat):tr2 (ps++[p]) x r=tr2 ps x r^^^(if (od (p.1&&&x)^^od (p.2&&&r)) then 2 ^ ps.length else 0):=by
 unfold tr2;rw[eH,Kc,pk,M'];have e1:(ps++[p]).getD ps.length (0,0)=p:=by rw[ee,rg (mu _),LP];rfl
 rw[e1]
 have O:pk (λk=>od (((ps++[p]).getD k (0,0)).1&&&x)^^od (((ps++[p]).getD k (0,0)).2&&&r)) 0 ps.length=pk (λk=>od ((ps.getD k (0,0)).1&&&x)^^od ((ps.getD k (0,0)).2&&&r)) 0 ps.length:=w8 λk hk=>by
  rw[M',ee,ee,oP hk]
 rw[O]
theorem k7 (ps:A') (x y r s:Nat):tr2 ps (x^^^y) (r^^^s)=tr2 ps x r^^^tr2 ps y s:=by
 apply kA;intro i;rw[u6,fN,fN,fN,sT,md,sT,md];cases decide (i < ps.length)<;>cases od ((ps.getD i (0,0)).1&&&x)<;>cases od ((ps.getD i (0,0)).1&&&y)<;>cases od ((ps.getD i (0,0)).2&&&r)<;>cases od ((ps.getD i (0,0)).2&&&s)<;>rfl
theorem lP (ps:A'):tr2 ps 0 0=0:=by
 apply kA;intro i;rw[fN,Ox,Ox,od_zero];simp
noncomputable def wst (ps:A'):Nat->D'->Nat
 | x,[]=>x
 | x,r::rs=>wst ps (tr2 ps x r) rs
noncomputable def wan (ps os:A'):Nat->D'->D'
 | _,[]=>[]
 | x,r::rs=>tr2 os x r::wan ps os (tr2 ps x r) rs
theorem wst_snoc (ps:A') (r:Nat):∀(rs:D') (x:Nat),wst ps x (rs++[r])=tr2 ps (wst ps x rs) r
 | [],_=>rfl
 | _::rs,_=>wst_snoc ps r rs _
theorem wan_snoc (ps os:A') (r:Nat):∀(rs:D') (x:Nat),wan ps os x (rs++[r])=wan ps os x rs++[tr2 os (wst ps x rs) r]
 | [],_=>rfl
 | _::rs,_=>y' (_::·) (wan_snoc ps os r rs _)
theorem wan_len (ps os:A'):∀(rs:D') (x:Nat),(wan ps os x rs).length=rs.length
 | [],_=>rfl
 | _::rs,_=>y' (· + 1) (wan_len ps os rs _)
theorem wst_lt {ps:A'}:∀{rs:D'} {x:Nat},x < 2 ^ ps.length->wst ps x rs < 2 ^ ps.length
 | [],_,h=>h
 | r::rs,x,_=>wst_lt (rs:=rs) (tr2_lt ps x r)
theorem xm_snoc (ι:D') (k:Nat):xm (ι++[k])=xm ι^^^2 ^ k:=by unfold xm;rw[Lp];rfl
theorem rev_ind {α:Type} {P:eA α->Prop} (h0:P []) (h1:∀l x,P l->P (l++[x])) (l:eA α):P l:=by
 have:∀l:eA α,P l.reverse:=λl=>by
  induction l with
  | nil=>exact h0
  | cons x l ih=>rw[PX];exact h1 _ _ ih
 have:=this l.reverse;rwa [Pg] at this
theorem pb_half2 (h m:Nat):pb h (m^^^(m>>>h))=pb (h + h) m:=by rw[zX,kj]
theorem pb_one (m:Nat):(m&&&1:Nat)=bn (pb 1 m):=by
 have e:pb 1 m=m.testBit 0:=by
  have:=kj 0 1 m;cases h:m.testBit 0<;>simp[pb,h]<;>simp_all
 rw[e,Np];unfold bn;rw[NY];by_cases h:m % 2=1
 ·simp[h]
 ·have O:m % 2=0:=by omega
  simp[O]
theorem Ed {f k:Nat} (h:f < 2 ^ k):f^^^2 ^ k=f + 2 ^ k:=by
 have h1:=or_sum f (2 ^ k)
 have h2:f&&&2 ^ k=0:=by
  apply kA;intro i;rw[JD,sg];by_cases hi:k=i
  ·subst hi;rw[lT h];simp
  ·simp[hi]
 have O:=Od h 1;rw[Nat.mul_one,Nat.or_comm] at O;omega
theorem tr2_step {ps:A'} {i:Nat} {q:Nat×Nat} (x r:Nat) (h:ps[i]? =aS q):tr2 (ps.take (i + 1)) x r=tr2 (ps.take i) x r + (if (od (q.1&&&x)^^od (q.2&&&r)) then 2 ^ i else 0):=by
 have hi:=(dt.mp h).1;have hl:(ps.take i).length=i:=by rw[x4];omega
 have e:ps.take (i + 1)=ps.take i++[q]:=by rw[Lm,h];rfl
 rw[e,tr2_snoc,hl];have ht:=tr2_lt (ps.take i) x r;rw[hl] at ht;split
 ·exact Ed ht
 ·rw[K3,NM]
noncomputable def pulse (i T:Nat):D':=(hE T).map λt=>if t=0 then 2 ^ i else 0
theorem pulse_len (i T:Nat):(pulse i T).length=T:=by unfold pulse;rw[eB,q7]
theorem pulse_snoc (i T:Nat):pulse i (T + 1)=pulse i T++[if T=0 then 2 ^ i else 0]:=by unfold pulse;rw[Ky,hF];rfl
theorem pulse_eq (i T:Nat):(2 ^ i::ra T 0).take T=pulse i T:=by
 unfold pulse;apply N7
 ·rw[x4,JV,Ku,eB,q7];omega
 ·intro j h1 h2;rw[N6,Pz,LQ];cases j with
  | zero=>rfl
  | succ j=>rw[List.getElem_cons_succ,List.getElem_replicate];rfl
theorem pulse_lt {i m:Nat} (h:i < m) (T:Nat):∀r∈pulse i T,r < 2 ^ m:=λr O=>by
 obtain⟨t,_,rfl⟩:=w2.mp O;show(if t=0 then 2 ^ i else 0) < 2 ^ m;split
 ·exact rn @C h
 ·exact lz _
theorem EA {rows:D'} {i r:Nat} (s:Nat) (h:rows[i]? =aS r):sm (rows.take (i + 1)) s=sm (rows.take i) s^^^(if s.testBit i then r else 0):=by
 have hi:=(dt.mp h).1;have e:rows.take (i + 1)=rows.take i++[r]:=by rw[Lm,h];rfl
 rw[e,jM,x4,O7 @A]
theorem sm_places (rows:D') (s:Nat) (h:s < 2 ^ rows.length) (w:Nat) (hw:rows.length<=w):(pl w s).foldl (λa p=>a^^^rows.getD p 0) 0=sm rows s:=by
 rw[pl_up h hw]
 have O:∀k,k<=rows.length->(pl k s).foldl (λa p=>a^^^rows.getD p 0) 0=sm (rows.take k) s:=by
  intro k
  induction k with
  | zero=>intro _;rfl
  | succ k ih=>
    intro hk;have Y:rows[k]? =aS (rows.getD k 0):=by rw[ee,b' @A];rfl
    have χ:pl (k + 1) s=pl k s++(if s.testBit k then [k] else []):=by
     unfold pl;rw[Ky,L'];congr 1;cases hb:s.testBit k<;>simp[hb]
    rw[χ,Lp,ih @A,EA s Y];cases s.testBit k<;>simp
 have:=O rows.length (mu _);rwa [K6] at this
end M
namespace Sx
open PySem L2
structure MaG (m:Nat) (nx os:eA Pr3):Prop where
 m6:m<=6
 ln:nx.length<=120
 lo:os.length<=6
 bn:∀q∈nx++os,q.2.1 < 2 ^ nx.length/\q.2.2 < 2 ^ m
theorem Tab.g {H:Hp} {n o:eh} {m:Nat} {nx os:eA Pr3} (t:Tab H n o m nx os):MaG m nx os:=⟨t.m6,t.ln,t.lo,t.bn⟩
theorem Tab.same {H H2:Hp} {n o:eh} {m:Nat} {nx os:eA Pr3} (t:Tab H n o m nx os) (s:Same H H2):Tab H2 n o m nx os:=⟨t.m6,s.get t.n,s.get t.o,t.pn.same s,t.po.same s,t.ln,t.lo,t.bn⟩
noncomputable abbrev prs (nx:eA Pr3):A':=nx.map (·.2)
theorem aw (nx:eA Pr3):(prs nx).length=nx.length:=eB ..
theorem EY {nx:eA Pr3} {i:Nat} {q:Pr3} (h:nx[i]? =aS q):(prs nx)[i]? =aS q.2:=by rw[f',h];rfl
theorem aJ (nx:eA Pr3):(refs nx).length=nx.length:=eB ..
theorem ki {x n:Nat} (h:x < 2 ^ n) (hn:n<=1000):x < 2 ^ 1000:=eF h (gs @C hn)
theorem MaG.b1 {m:Nat} {nx os:eA Pr3} (g:MaG m nx os):∀q∈nx,q.2.1 < 2 ^ 1000/\q.2.2 < 2 ^ 1000:=λq h=>have:=g.ln;have:=g.m6;have b:=g.bn q (oD _ h);⟨ki b.1 @A,ki b.2 @A⟩
theorem MaG.b2 {m:Nat} {nx os:eA Pr3} (g:MaG m nx os):∀q∈os,q.2.1 < 2 ^ 1000/\q.2.2 < 2 ^ 1000:=λq h=>have:=g.ln;have:=g.m6;have b:=g.bn q (j' _ h);⟨ki b.1 @A,ki b.2 @A⟩
theorem EU {H H2:Hp} {a:eh} {u:HO} (h:Rd H a u) (s:Same H H2):Rd H2 a u:=h.imp (s _ _) λ⟨o,e⟩=>⟨o,s _ _ e⟩
theorem Ar {K:aT} {H H2:Hp} {x:V} {k:Jy} (h:j0 K H x k) (s:Same H H2):j0 K H2 x k:=by
 cases x with
 | ref p=>exact Or.imp (λ⟨a,xs,e⟩=>⟨a,xs,Same.seq s e⟩) (Or.imp (λ⟨a,xs,e⟩=>⟨a,xs,Same.tup s e⟩) λ⟨a,xs,e⟩=>⟨a,xs,EU e s⟩) h
 | _=>exact h
def Bo (K:aT) (H:Hp) (xs:eA V):Prop:=∀x∈xs,∃k,j0 K H x k
theorem Bo.nats (K:aT) (H:Hp) (rs:D'):Bo K H (rs.map nat):=λx O=>by
 obtain⟨r,_,rfl⟩:=w2.mp O;exact⟨"int",rfl⟩
theorem si {x:V} {n:Nat} (h:lK x (n:Int)=true):∃a:Nat,x=nat a/\a < 2 ^ n:=by
 cases x with
 | int i=>
   have h:(decide ((0:Int)<=i)&&decide (((u4 i:Nat):Int)<=(n:Int)))=true:=h;simp only[xn,KQ] at h;obtain⟨a,rfl⟩:=KU h.1;exact⟨a,rfl,eF (wt a) (gs @C @A)⟩
 | _=>cases h
noncomputable def idxB (x:V) (m:Nat):Bool:=match x with
 | .int i=>decide (0<=i)&&decide (i < (m:Int))
 | _=>false
theorem yV (x y:JC):(!decide (V.bl (!x)=V.bl (!y)))=(x^^y):=by cases x<;>cases y<;>rfl
theorem Bu {ps:eA Pr3} {i:Nat} {q:Pr3} (x y:Nat) (h:ps[i]? =aS q):M.tr2 (prs (ps.take (i + 1))) x y=M.tr2 (prs (ps.take i)) x y^^^(if (M.od (q.2.1&&&x)^^M.od (q.2.2&&&y)) then 2 ^ i else 0):=by
 have hl:(prs (ps.take i)).length=i:=by rw[aw];exact wK h
 rw[take_succ h];unfold prs at hl ⊢;rw[hF,Py,M.tr2_snoc,hl]
theorem tK {ps:eA Pr3} {i:Nat} {q:Pr3} (x y:Nat) (h:ps[i]? =aS q):M.tr2 (prs (ps.take (i + 1))) x y=M.tr2 (prs (ps.take i)) x y + (if (M.od (q.2.1&&&x)^^M.od (q.2.2&&&y)) then 2 ^ i else 0):=by
 have:=M.tr2_step x y (EY h);rw[show(prs ps).take (i + 1)=prs (ps.take (i + 1)) from M4.symm,show(prs ps).take i=prs (ps.take i) from M4.symm] at this;exact this
theorem oE (xs:eA V) (y:Nat) (hy:y<=xs.length):cutV xs eC (aS (y:Int))=xs.take y:=by
 unfold cutV;rw[HT.sIx_nat,HT.sIx_none,O7 hy,Nat.sub_zero,List.drop_zero]
theorem fT {a b:Nat} (h:nat a=nat b):a=b:=by
 have h:(a:Int)=(b:Int):=V.int.inj h;omega
def BD:Sp:=λvs H Q _=>∃(t:eh) (a b x r:Nat),vs=[.ref t,nat x,nat r]/\H t=aS (.tup [nat a,nat b])/\a < 2 ^ 1000/\b < 2 ^ 1000/\Q (.bl (M.od (a&&&x)^^M.od (b&&&r))) H
def Er (K:aT):Sp:=λvs H Q _=>∃(r:eh) (ps:eA Pr3) (x y:Nat),vs=[.ref r,nat x,nat y]/\SqT K H r (refs ps)/\Prt H ps/\ps.length<=1000/\(∀q∈ps,q.2.1 < 2 ^ 1000/\q.2.2 < 2 ^ 1000)/\∀H2,Same H H2->Q (nat (M.tr2 (prs ps) x y)) H2
def Gm (K:aT) (C B:eh):Sp:=λvs H Q E=>∃(p:eh) (m:Nat) (nx os:eA Pr3) (x:V) (k:Jy),vs=[.ref p,x]/\MaA H C p m nx os/\j0 K H x k/\(lK x nx.length=true->Q .non H)/\(lK x nx.length=false->E (.ref B) eC H)
def Bz (K:aT) (C B:eh):Sp:=λvs H Q E=>∃(p:eh) (m:Nat) (nx os:eA Pr3) (x y:V) (kx O:Jy),vs=[.ref p,x,y]/\MaA H C p m nx os/\MaG m nx os/\j0 K H x kx/\j0 K H y O/\
 (∀a b:Nat,x=nat a->y=nat b->a < 2 ^ nx.length->b < 2 ^ m->∀(t:eh) (H2:Hp),Same H H2->H2 t=aS (.tup [nat (M.tr2 (prs os) a b),nat (M.tr2 (prs nx) a b)])->Q (.ref t) H2)/\
 (lK x nx.length=false∨lK y m=false->E (.ref B) eC H)
structure HY (K:aT) (H:Hp) (C p rr:eh) (m:Nat) (nx os:eA Pr3) (x:V) (xs:eA V):Prop where
 ma:MaA H C p m nx os
 g:MaG m nx os
 kx:∃k,j0 K H x k
 sq:SqL K H rr xs
 ks:Bo K H xs
 ln:xs.length<=1000
def Good (m:Nat) (nx:eA Pr3) (x:V) (xs:eA V) (a:Nat) (rs:D'):Prop:=x=nat a/\xs=rs.map nat/\a < 2 ^ nx.length/\∀r∈rs,r < 2 ^ m
def Bad (m:Nat) (nx:eA Pr3) (x:V) (xs:eA V):Prop:=lK x nx.length=false∨∃y∈xs,lK y m=false
def Bw (K:aT) (C B:eh):Sp:=λvs H Q E=>∃(p O:eh) (m:Nat) (nx os:eA Pr3) (x:V) (xs:eA V),vs=[.ref p,.ref O,x]/\HY K H C p O m nx os x xs/\
 (∀a rs,Good m nx x xs a rs->∀(t D:eh) (H2:Hp),H D=eC->Same H H2->H2 t=aS (.tup [.ref D,nat (M.wst (prs nx) a rs)])->H2 D=aS (.lst ((M.wan (prs nx) (prs os) a rs).map nat))->Q (.ref t) H2)/\
 (Bad m nx x xs->∀H2,Same H H2->E (.ref B) eC H2)
def Gh (K:aT) (C B:eh):Sp:=λvs H Q E=>∃(p O:eh) (m:Nat) (nx os:eA Pr3) (x:V) (xs:eA V),vs=[.ref p,.ref O,x]/\HY K H C p O m nx os x xs/\
 (∀a rs,Good m nx x xs a rs->∀(D:eh) (H2:Hp),H D=eC->Same H H2->H2 D=aS (.lst ((M.wan (prs nx) (prs os) a rs).map nat))->Q (.ref D) H2)/\
 (Bad m nx x xs->∀H2,Same H H2->E (.ref B) eC H2)
def zf (K:aT) (C B:eh):Sp:=λvs H Q E=>∃(p:eh) (m:Nat) (nx os:eA Pr3) (x:V) (k:Jy) (T:Nat),vs=[.ref p,x,nat T]/\MaA H C p m nx os/\MaG m nx os/\j0 K H x k/\T<=900/\
 (∀i,x=nat i->i < m->∀(D:eh) (H2:Hp),H D=eC->Same H H2->H2 D=aS (.lst ((M.wan (prs nx) (prs os) 0 (M.pulse i T)).map nat))->Q (.ref D) H2)/\
 (idxB x m=false->E (.ref B) eC H)
def xP (C:eh):Sp:=λvs H Q _=>∃(p:eh) (m:Nat) (nx os:eA Pr3),vs=[.ref p]/\MaA H C p m nx os/\Q (nat os.length) H
structure TabT (H:Hp) (t n o:eh) (m:Nat) (nx os:eA Pr3):Prop where
 t:H t=aS (.tup [nat m,.ref n,.ref o])
 tab:Tab H n o m nx os
theorem TabT.same {H H2:Hp} {t n o:eh} {m:Nat} {nx os:eA Pr3} (x:TabT H t n o m nx os) (s:Same H H2):TabT H2 t n o m nx os:=⟨s.get x.t,x.tab.same s⟩
def zi:Sp:=λvs H Q _=>∃(c:Int) (st n w:Nat) (dg:JC),vs=[.int c,nat st,nat n,nat w,.bl dg]/\st<=900/\n<=64/\w<=16/\
 ∀(D:eh) (H2:Hp) (ms:D'),H D=eC->Same H H2->H2 D=aS (.lst (ms.map nat))->ms.length=n->(∀x∈ms,x < 2 ^ w)->Q (.ref D) H2
def BB:Sp:=λvs H Q _=>∃(r:eh) (ms:D') (c:Int) (st Y w:Nat),vs=[.ref r,.int c,nat st,nat Y]/\H r=aS (.lst (ms.map nat))/\st<=900/\w<=16/\ms.length<=w/\(∀x∈ms,x < 2 ^ w)/\
 ∀(D:eh) (H2:Hp) (O:D'),H D=eC->Same H H2->H2 D=aS (.lst (O.map nat))->O.length=ms.length->(∀x∈O,x < 2 ^ w)->Q (.ref D) H2
def BC (K:aT):Sp:=λvs H Q _=>∃(p:eh) (ns:I8) (st mo:Nat),vs=[.ref p,nat st,nat mo]/\SqL K H p (ns.map V.int)/\st<=900/\mo<=16/\
 ∀(t n o:eh) (H2:Hp) (m:Nat) (nx os:eA Pr3),Same H H2->H n=eC->H o=eC->TabT H2 t n o m nx os->nx.length<=16->Q (.ref t) H2
def Et:Sp:=λvs H Q _=>∃n:Nat,vs=[nat n]/\n < 2 ^ 128/\∀H2,Same H H2->Q (nat (M.bn (M.od n))) H2
def BA:Sp:=λvs H Q _=>∃(t n o:eh) (m:Nat) (nx os:eA Pr3) (x r:Nat),vs=[.ref t,nat x,nat r]/\TabT H t n o m nx os/\x < 2 ^ 128/\r < 2 ^ 128/\
 ∀(O:eh) (H2:Hp),Same H H2->H2 O=aS (.tup [nat (M.tr2 (prs os) x r),nat (M.tr2 (prs nx) x r)])->Q (.ref O) H2
def xR:Sp:=λvs H Q _=>∃(t n o:eh) (m:Nat) (nx os:eA Pr3) (i T:Nat),vs=[.ref t,nat i,nat T]/\TabT H t n o m nx os/\i < 100/\T<=900/\
 ∀(D:eh) (H2:Hp),H D=eC->Same H H2->H2 D=aS (.lst ((M.wan (prs nx) (prs os) 0 (M.pulse i T)).map nat))->Q (.ref D) H2
theorem zu {i k:Nat} (h:([64,32,16,8,4,2,1]:D')[i]? =aS k):i < 7/\k=2 ^ (6 - i):=by
 have hi:=(dt.mp h).1;have hi:i < 7:=hi;refine⟨hi,?_⟩
 match i,hi with
 | 0,_ | 1,_ | 2,_ | 3,_ | 4,_ | 5,_ | 6,_=>exact(iv h).symm
theorem DV (x y:JC):(((M.bn x:Nat):Int) + ((M.bn y:Nat):Int)) % 2=((M.bn (x^^y):Nat):Int):=by cases x<;>cases y<;>rfl
theorem DU (b:JC) (i:Nat):((M.bn b:Nat):Int) * 2 ^ ((i:Int).toNat)=((if b=true then 2 ^ i else 0:Nat):Int):=by
 cases b
 ·rw[ko hC];exact Int.zero_mul _
 ·rw[px rfl];exact shl1 i
theorem sI {H H2:Hp} {D:eh} (s:Same H H2) (f:H2 D=eC):H D=none:=by
 cases O:H D with
 | none=>rfl
 | some v=>have:=s _ _ O;rw[f] at this;cases this
theorem yT {H:Hp} {ps:G'} {φ O:D'} (l:φ.length=O.length) (lp:ps.length=(φ.map nat).length) (h:∀(j:Nat) (p:eh) (x y:V),ps[j]? =aS p->(φ.map nat)[j]? =aS x->(O.map nat)[j]? =aS y->H p=aS (.tup [x,y])):
  ∃nx:eA Pr3,refs nx=ps.map V.ref/\Prt H nx/\nx.length=φ.length/\∀q∈nx,q.2.1∈φ/\q.2.2∈O:=by
 rw[eB] at lp;refine⟨ps.zip (φ.zip O),?_,λq Y=>?_,?_,λq Y=>?_⟩
 ·unfold refs;have:(ps.zip (φ.zip O)).map (λq=>V.ref q.1)=((ps.zip (φ.zip O)).map Qp).map V.ref:=by rw[KR];rfl
  rw[this,List.map_fst_zip (by rw[Nw];omega)]
 ·obtain⟨j,Z⟩:=Kt.mp Y;obtain⟨h1,h2⟩:=Ll.mp Z;obtain⟨β,α⟩:=Ll.mp h2;exact h j q.1 _ _ h1 (by rw[f',β];rfl) (by rw[f',α];rfl)
 ·rw[Nw,Nw];omega
 ·obtain⟨j,Z⟩:=Kt.mp Y;obtain⟨h1,h2⟩:=Ll.mp Z;obtain⟨β,α⟩:=Ll.mp h2;exact⟨eO β,eO α⟩
noncomputable def ye (q:Pr3):Dt:= .tup [.int q.2.1,.int q.2.2]
theorem rep2 {K:aT} {H:Hp} {p:eh} {i j:Int} (e:H p=aS (.tup [.int i,.int j])):Rep K H (.ref p) (.tup [.int i,.int j]):=by
 refine .tup (SqT.of e) rfl λk x d O hd=>?_
 match k,O,hd with
 | 0,O,hd=>cases O;cases hd;exact .int _
 | 1,O,hd=>cases O;cases hd;exact .int _
 | k + 2,O,_=>simp at O
theorem tU {K:aT} {H:Hp} {D:eh} {l:eA Pr3} (e:H D=aS (.lst (refs l))) (pt:Prt H l):Rep K H (.ref D) (.lst (l.map ye)):=by
 refine .lst (SqL.of e) (by unfold refs;rw[eB,eB]) λk x d Y hd=>?_;obtain⟨q,O,rfl⟩:=aX Y;rw[f',O] at hd;cases hd;exact rep2 (pt q (eO O))
theorem uF:∀l:eA Pr3,ik (l.map ye)<=1
 | []=>by simp[ik]
 | q::l=>by
   have:=uF l;rw[z0,ik];have e:depD (ye q)=1:=by simp[ye,depD,ik]
   omega
theorem vz (m k:Nat):(m:Int) / 2 ^ ((k:Int).toNat)=((m>>>k:Nat):Int):=by rw[pT,rS,wq];norm_cast
theorem zT {x n:Nat} (h:x < 2 ^ n) (hn:n<=128):x < 2 ^ 128:=eF h (gs @C hn)
theorem oF (xs:eA V) (k:Nat) (h:k<=xs.length):cutV xs (aS (k:Int)) eC=xs.drop k:=by
 unfold cutV;rw[HT.sIx_nat,HT.sIx_none,O7 h];exact LL (by rw[Kj];exact mu _)
end Sx
namespace M
noncomputable def pkw (w:Nat):D'->Nat
 | []=>0
 | p::ps=>p^^^(pkw w ps <<< w)
theorem uX {w p r P R:Nat} (hp:p < 2 ^ w) (O:r < 2 ^ w):(p^^^(P <<< w))&&&(r^^^(R <<< w))=(p&&&r)^^^((P&&&R) <<< w):=by
 apply kA;intro i;simp only[u6,JD,K4];by_cases hi:w<=i
 ·rw[lT (eF hp (gs @C hi)),lT (eF O (gs @C hi))];simp[hi]
 ·simp[hi]
theorem Hd {x w:Nat} (h:x < 2 ^ (1000 - w)) (hw:w<=1000):od (x <<< w)=od x:=by
 show pb 1000 (x <<< w)=pb 1000 x;have e:=kj w (1000 - w) (x <<< w);rw[show w + (1000 - w)=1000 by omega] at e;rw[e,pb_up h @A]
 have e1:pb w (x <<< w)=false:=by
  rw[<-zY,KJ,Nat.mul_mod_left]
  have:∀n,pb n 0=false:=λn=>by
   induction n with
   | zero=>rfl
   | succ n ih=>rw[E6,Nat.zero_div,ih];simp
  exact this w
 rw[e1,Nat.shiftLeft_shiftRight];simp
noncomputable def bkI (A:D') (s:Nat):Nat->Nat
 | 0=>s
 | i + 1=>sm A (bkI A s i)
noncomputable def prt (A B:D'):Nat->Nat->D'
 | _,0=>[]
 | s,T + 1=>sm B s::prt A B (sm A s) T
end M
namespace Sx
open PySem L2
noncomputable abbrev nA (nx:eA Pr3):D':=nx.map λq=>q.2.1
theorem zJ {K:aT} {H:Hp} {α:Type} (f:α->V) (g:α->Dt) (r:∀x,Rep K H (f x) (g x)) (xs:eA α):∀(i:Nat) x d,(xs.map f)[i]? =aS x->(xs.map g)[i]? =aS d->Rep K H x d:=by
 intro i x d h1 h2;rw[f'] at h1 h2;cases e:xs[i]? with
 | none=>rw[e] at h1;cases h1
 | some y=>rw[e] at h1 h2;cases h1;cases h2;exact r y
end Sx
namespace M
noncomputable def stj (ps:A'):D'->Nat->D'
 | S,0=>S
 | S,j + 1=>(stj ps S j).map λx=>tr2 ps x 0
noncomputable def sg0 (ps:A') (m:Nat):D':=(hE m).map λw=>tr2 ps 0 (2 ^ w)
noncomputable def rch (ps:A') (m:Nat):Nat->D'
 | 0=>[]
 | T + 1=>stj ps (sg0 ps m) T++rch ps m T
theorem stj_len (ps:A') (S:D'):∀j,(stj ps S j).length=S.length
 | 0=>rfl
 | j + 1=>by show((stj ps S j).map _).length=_;rw[eB,stj_len ps S j]
theorem sg0_len (ps:A') (m:Nat):(sg0 ps m).length=m:=by unfold sg0;rw[eB,q7]
theorem stj_lt (ps:A') (m:Nat):∀j,∀x∈stj ps (sg0 ps m) j,x < 2 ^ ps.length
 | 0,x,h=>by obtain⟨w,_,rfl⟩:=w2.mp h;exact tr2_lt _ _ _
 | j + 1,x,h=>by obtain⟨y,_,rfl⟩:=w2.mp h;exact tr2_lt _ _ _
theorem DD (ps:A') (m:Nat):∀T,∀x∈rch ps m T,x < 2 ^ ps.length
 | 0,x,h=>gd h (by simp[rch])
 | T + 1,x,h=>(lh.mp h).elim (stj_lt ps m T x) (DD ps m T x)
theorem y8 (ps:A'):∀(rows:D') (F:Nat),tr2 ps (sm rows F) 0=sm (rows.map λx=>tr2 ps x 0) F
 | [],F=>lP ps
 | r::rows,F=>by
   show tr2 ps ((if F.testBit 0 then r else 0)^^^sm rows (F / 2)) 0=(if F.testBit 0 then tr2 ps r 0 else 0)^^^sm (rows.map λx=>tr2 ps x 0) (F / 2);have e:=k7 ps (if F.testBit 0 then r else 0) (sm rows (F / 2)) 0 0;rw[L7] at e;rw[e,y8 ps rows];cases F.testBit 0<;>simp[lP]
theorem oI (ps:A') (r:Nat):∀m,r < 2 ^ m->tr2 ps 0 r=sm (sg0 ps m) r
 | 0,h=>by have:r=0:=by have:r < 1:=h;omega
           rw[this,lP];rfl
 | m + 1,h=>by
   have es:sg0 ps (m + 1)=sg0 ps m++[tr2 ps 0 (2 ^ m)]:=by unfold sg0;rw[Ky,hF];rfl
   rw[es,jM,sg0_len];by_cases hb:r.testBit m=true
   ·have O:r^^^2 ^ m < 2 ^ m:=by
     apply K9;intro i hi;rw[u6,sg];by_cases e:m=i
     ·subst e;rw[hb];simp
     ·rw[lT (eF h (gs @C @A))];simp[e]
    have ih:=oI ps (r^^^2 ^ m) m O
    have e1:sm (sg0 ps m) r=sm (sg0 ps m) (r^^^2 ^ m):=by
     have:sm (sg0 ps m) (2 ^ m)=0:=by
      have h1:=jM (sg0 ps m) 0 (2 ^ m);have h2:=zo (sg0 ps m) 0;rw[sg0_len] at h2;rw[h2] at h1;simpa using h1.symm
     rw[sm_xor,this,K3]
    rw[px hb,e1,<-ih];have Y:=k7 ps 0 0 (r^^^2 ^ m) (2 ^ m);rw[L7,bw] at Y;exact Y
   ·have O:r < 2 ^ m:=by
     apply K9;intro i hi;by_cases e:i=m
     ·subst e;simpa using hb
     ·exact lT (eF h (gs @C @A))
    rw[ko hb,K3,oI ps r m O]
theorem parts_high {w r P:Nat} (h:r < 2 ^ w):(r^^^(P <<< w))>>>w=P:=by
 apply kA;intro i;rw[JS,u6,K4,lT (eF h (gs @C @A))];simp
noncomputable def zs (ps:A') (x:Nat):Nat->Nat
 | 0=>x
 | n + 1=>tr2 ps (zs ps x n) 0
noncomputable def upk (w q T:Nat):D':=(hE T).map λt=>(q>>>(t * w))&&&(2 ^ w - 1)
theorem zd (ps:A') (m w:Nat) (hw:w < m):∀j,zs ps (tr2 ps 0 (2 ^ w)) j∈stj ps (sg0 ps m) j
 | 0=>w2.mpr ⟨w,Ju.mpr hw,rfl⟩
 | j + 1=>w2.mpr ⟨_,zd ps m w hw j,rfl⟩
theorem zM (ps:A') (m:Nat) {j:Nat} {x:Nat} (h:x∈stj ps (sg0 ps m) j):∀{T},j < T->x∈rch ps m T
 | T + 1,O=>by
   by_cases e:j=T
   ·subst e;exact oD _ h
   ·exact j' _ (zM ps m h @A)
end M
namespace Sx
open PySem L2
structure Sumd (rows:D') (x q:Nat):Prop where
 lt:q < 2 ^ rows.length
 sm:M.sm rows q=x
 fr:M.Frs rows q
theorem Sumd.uniq {rows:D'} {x p q:Nat} (a:Sumd rows x p) (b:Sumd rows x q):p=q:=M.sum_uniq a.fr b.fr (by rw[a.sm,b.sm])
structure Bard (rows:D') (x m:Nat):Prop where
 ns:¬M.Span rows x
 bar:∃y,M.Span rows y/\x^^^y≠0/\HV rows (x^^^y).log2/\M.Bar rows (x^^^y).log2 m
 ev:∀y,M.Span rows y->M.od (m&&&y)=false
 odd:M.od (m&&&x)=true
 lt:∀W,(∀r∈rows,r < 2 ^ W)->x < 2 ^ W->m < 2 ^ W
def xO:Sp:=λvs H Q _=>∃(r:eh) (rows:D') (x:Nat),vs=[.ref r,nat x]/\H r=aS (.lst (rows.map nat))/\rows.length<=1000/\(∀r∈rows,r < 2 ^ 1000)/\x < 2 ^ 1000/\(M.Span rows x∨(M.fr rows).length < 64)/\
 (∀(t D:eh) (H2:Hp) (q:Nat),H D=eC->Same H H2->H2 t=aS (.tup [.str "sum",.ref D])->H2 D=aS (.lst ((M.pl 1000 q).map nat))->Sumd rows x q->Q (.ref t) H2)/\
 (∀(t:eh) (H2:Hp) (m:Nat),Same H H2->H2 t=aS (.tup [.str "no",nat m])->Bard rows x m->Q (.ref t) H2)
end Sx
namespace L2
open PySem
end L2
namespace Sx
open PySem L2
noncomputable def natD (n:Nat):Dt:= .int n
theorem xv:∀ns:D',ik (ns.map natD)=0
 | []=>rfl
 | n::ns=>by rw[z0,ik,xv ns];rfl
theorem wV {K:aT} {H:Hp} {D:eh} {ns:D'} (e:H D=aS (.lst (ns.map nat))):Rep K H (.ref D) (.lst (ns.map natD)):= .lst (SqL.of e) (by rw[eB,eB]) (zJ nat natD (λn=> .int n) ns)
noncomputable def TupV (K:aT) (H:Hp) (y:V):nk (eA V)->Prop
 | some xs=>∃r,y= .ref r/\SqT K H r xs/\Bo K H xs
 | none=>∃k,j0 K H y k/\k≠"tuple"
noncomputable def IP (n m:Nat):nk (eA V)->JC
 | some [x,y]=>lK x n&&lK y m
 | _=>false
noncomputable abbrev It2:=V×nk (eA V)
noncomputable def LstV (K:aT) (H:Hp) (y:V):nk (eA It2)->Prop
 | some zs=>∃r,y= .ref r/\H r=aS (.lst (zs.map (·.1)))/\∀z∈zs,TupV K H z.1 z.2
 | none=>∃k,j0 K H y k/\k≠"list"
noncomputable def tabB (x:V) (Y O:nk (eA It2)):Bool:=match x,Y,O with
 | .int i,aS zs,aS ws=>decide (0<=i)&&decide (i<=6)&&decide (zs.length<=120)&&decide (ws.length<=6)&&(zs++ws).all λz=>IP zs.length i.toNat z.2
 | _,_,_=>false
end Sx
namespace L2
open PySem
end L2
namespace Sx
open PySem L2
structure BadT (K:aT) (H:Hp) (x y z:V):Prop where
 ex:∃k on oo,j0 K H x k/\LstV K H y on/\LstV K H z oo/\tabB x on oo=false
end Sx
namespace L2
open PySem
theorem EB {X:Cx} {K:aT} (h:X.K=K):SlR X (rSlT K):=by subst h;exact Gq
theorem Iw {K:aT} {H:Hp} {Q:VK} {a:eh} {xs:eA V} {lo hi:nk Int} (ha:SqT K H a xs) (hn:¬(HT.sIx xs.length 0 lo=0/\HT.sIx xs.length xs.length hi=xs.length)) (h:∀p H2,H p=eC->Same H H2->H2 p=aS (.tup (cutV xs lo hi))->Q (.ref p) H2):rSlT K (.ref a) lo hi H Q:=
 ⟨a,xs,rfl,ha,hn,λp f=>h p _ f (eX f) aQ⟩
end L2
namespace Sx
open PySem L2
end Sx
namespace M
structure Fst (ms:D') (p:Nat):Prop where
 lt:p < ms.length
 out:∀k,k < p->¬Span (ms.take k) (ms.getD k 0)
 in_:Span (ms.take p) (ms.getD p 0)
theorem DM {ms:D'}:∀j,j<=ms.length->(∀k,k < j->¬Span (ms.take k) (ms.getD k 0))->(fr (ms.take j)).length=j
 | 0,_,_=>by have:=fr_len (ms.take 0);simpa using this
 | j + 1,O,h=>by
   have e:ms.take (j + 1)=ms.take j++[ms.getD j 0]:=by
    rw[Qw,b' @A,ee,b' @A];rfl
   rw[e,fr_out (h j (Ke j)),eH,DM j @A (λk hk=>h k @A)];rfl
theorem wm {ms:D'} {n j:Nat} (hb:∀x∈ms,x < 2 ^ n) (hj:j<=ms.length) (h:∀k,k < j->¬Span (ms.take k) (ms.getD k 0)):j<=n:=by
 rw[<-DM j hj h];exact zO λr O=>hb r (LC O)
noncomputable def zl (ps:A') (d n:Nat):D':=(hE (n + 1)).map (zs ps d)
theorem yS (ps:A') (d n:Nat):(zl ps d n).length=n + 1:=by unfold zl;rw[eB,q7]
theorem wD {ps:A'} {d n k:Nat} (h:k<=n):(zl ps d n)[k]? =aS (zs ps d k):=by
 unfold zl;rw[f',JN @A];rfl
theorem Ea {ps:A'} {d n k:Nat} (h:k<=n):(zl ps d n).getD k 0=zs ps d k:=by rw[ee,wD h];rfl
theorem yR {ps:A'} {d:Nat} (h:d < 2 ^ ps.length):∀k,zs ps d k < 2 ^ ps.length
 | 0=>h
 | k + 1=>tr2_lt _ _ _
theorem HZ {ps:A'} {d n:Nat} (h:d < 2 ^ ps.length):∀x∈zl ps d n,x < 2 ^ ps.length:=λx O=>by
 obtain⟨k,_,rfl⟩:=w2.mp O;exact yR h k
theorem zq {rows:D'}:∀(rs:D'),(∀x∈rs,Span rows x)->∀F,Span rows (sm rs F)
 | [],_,_=>span_zero rows
 | r::rs,h,F=>by
   show Span rows ((if F.testBit 0 then r else 0)^^^sm rs (F / 2));refine span_xor ?_ (zq rs (λx O=>h x (ov _ O)) (F / 2));split
   ·exact h r oi
   ·exact span_zero rows
theorem D9 {ps:A'} {d n p:Nat} (F:Fst (zl ps d n) p):∀t,Span ((zl ps d n).take p) (zs ps d t):=by
 have hp:p<=n:=by have:=F.lt;rw[yS] at this;omega
 have γ:=F.in_;rw[Ea hp] at γ;have ψ:∀k,k < p->Span ((zl ps d n).take p) (zs ps d k):=λk hk=>wO (eO (i:=k) (by rw[Mt hk];exact wD @A));intro t
 induction t with
 | zero=>
   by_cases β:p=0
   ·subst β;exact γ
   ·exact ψ 0 @A
 | succ t ih=>
   obtain⟨G,_,α⟩:=span_sm ih;show Span _ (tr2 ps (zs ps d t) 0);rw[<-α,y8];refine zq _ (λx Z=>?_) G;obtain⟨y,Y,rfl⟩:=w2.mp Z;obtain⟨k,hk⟩:=K8 Y
   have O:k < p:=by
    have:=(dt.mp hk).1;rw[x4] at this;omega
   rw[Mt O,wD @A] at hk;cases hk;show Span _ (zs ps d (k + 1));by_cases h1:k + 1 < p
   ·exact ψ _ h1
   ·have:k + 1=p:=by omega
    rw[this];exact γ
theorem FZ (ps:A') (d:Nat):∀i,zs ps (tr2 ps d 0) i=zs ps d (i + 1)
 | 0=>rfl
 | i + 1=>by show tr2 ps (zs ps (tr2 ps d 0) i) 0=_;rw[FZ ps d i];rfl
theorem wH (ps os:A'):∀(rs:D') (a k:Nat),wan ps os a (rs.take k)=(wan ps os a rs).take k
 | [],_,k=>by simp[wan]
 | r::rs,a,0=>rfl
 | r::rs,a,k + 1=>by
   show tr2 os a r::wan ps os (tr2 ps a r) (rs.take k)=_;rw[wH ps os rs];rfl
end M
namespace Sx
open PySem L2
noncomputable def cps (p q k:Nat):D':=if k + 1 < p then [k + 1] else M.pl 1000 q
structure ChS (H:Hp) (S:eh) (p q:Nat) (rs:G'):Prop where
 at_:H S=aS (.lst (rs.map V.ref))
 len:rs.length=p
 get:∀(k:Nat) (r:eh),rs[k]? =aS r->H r=aS (.lst ((cps p q k).map nat))
structure ChT (H:Hp) (D S:eh) (ms:D') (p q:Nat):Prop where
 fs:M.Fst ms p
 sd:Sumd (ms.take p) (ms.getD p 0) q
 d:H D=aS (.lst ((ms.take p).map nat))
 s:∃rs,ChS H S p q rs
structure LA (K:aT) (H:Hp) (t n o rr:eh) (m:Nat) (nx os:eA Pr3) (rs:D') (a b:Nat):Prop where
 tt:TabT H t n o m nx os
 sq:SqL K H rr (rs.map nat)
 lr:rs.length=20
 br:∀r∈rs,r < 2 ^ m
 ln:nx.length<=16
 ha:a < 2 ^ nx.length
 hb:b < 2 ^ nx.length
structure ApA (H:Hp) (f:eh) (nx os:eA Pr3) (d k ans:Nat):Prop where
 f:H f=aS (.tup [.str "apart",nat k,nat ans.log2])
 hk:k < nx.length
 an:ans=M.tr2 (prs os) (M.zs (prs nx) d k) 0
 ne:ans≠0
 qu:∀j,j < k->M.tr2 (prs os) (M.zs (prs nx) d j) 0=0
structure ApL (H:Hp) (f D S:eh) (nx os:eA Pr3) (d p q:Nat):Prop where
 f:H f=aS (.tup [.str "alike",.ref D,.ref S])
 ct:ChT H D S (M.zl (prs nx) d nx.length) p q
 qu:∀j,j < p->M.tr2 (prs os) (M.zs (prs nx) d j) 0=0
end Sx
namespace M
noncomputable def bl (A:D') (s n:Nat):D':=(hE (n + 1)).map (bkI A s)
end M
namespace Sx
open PySem L2
structure CmA (H:Hp) (t D:eh) (m:Nat) (nx:eA Pr3) (st T q mk:Nat):Prop where
 f:H t=aS (.tup [.str "come",.ref D,nat mk])
 d:H D=aS (.lst ((M.upk m q T).map nat))
 hT:T<=nx.length
 no:∀j,j < T->¬M.Span (M.rch (prs nx) m j) st
 sd:Sumd (M.rch (prs nx) m T) st q
 br:(T=0/\mk=0)∨∃T',T=T' + 1/\Bard (M.rch (prs nx) m T') st mk
structure CmN (H:Hp) (t D S:eh) (m:Nat) (nx:eA Pr3) (st mk p q:Nat):Prop where
 f:H t=aS (.tup [.str "never",.ref D,.ref S])
 no:∀j,j<=nx.length->¬M.Span (M.rch (prs nx) m j) st
 bd:Bard (M.rch (prs nx) m nx.length) st mk
 ct:ChT H D S (M.bl (nA nx) mk nx.length) p q
structure LN (K:aT) (H:Hp) (n:eh) (m:Nat) (nx os:eA Pr3) (st:Nat):Prop where
 sq:SqL K H n (refs nx)
 pt:Prt H nx
 g:MaG m nx os
 ln:nx.length<=16
 hs:st < 2 ^ nx.length
end Sx
namespace M
noncomputable def fR (rows:D'):D':=(fr rows).map λi=>rows.getD i 0
theorem fr_lt {rows:D'}:∀i∈fr rows,i < rows.length:=by
 intro i hi;unfold fr at hi;exact Ju.mp (Mm.mp hi).1
theorem pS (rows:D') (r:Nat):(fr rows).map (λi=>(rows++[r]).getD i 0)=fR rows:=by
 unfold fR;refine Li λi hi=>?_;rw[ee,ee,oP (fr_lt i hi)]
theorem Hy {rows:D'} {r:Nat} (h:Span rows r):fR (rows++[r])=fR rows:=by
 rw[<-pS rows r];unfold fR;rw[fr_in h]
theorem DN {rows:D'} {r:Nat} (h:¬Span rows r):fR (rows++[r])=fR rows++[r]:=by
 rw[<-pS rows r];unfold fR;rw[fr_out h,hF];congr 1;simp
theorem AM:∀(rows:D') (x:Nat),Span (fR rows) x↔Span rows x:=by
 refine oB ?_ λl w ih=>?_
 ·intro x;exact P'
 ·intro x;by_cases h:Span l w
  ·rw[Hy h,ih,eQ];exact⟨.inl,λz=>z.elim id λz=>by have:=span_xor z h;rwa [bw] at this⟩
  ·rw[DN h,eQ,eQ,ih,ih]
theorem Inj.out {ws:D'} {w:Nat} (I:Inj ws) (h:¬Span ws w):Inj (ws++[w]):=by
 intro p hp e;rw[jM] at e;by_cases hb:p.testBit ws.length=true
 ·rw[px hb] at e;exfalso;apply h
  have:sm ws p=w:=by
   have:=y' (·^^^w) e;simpa[JU] using this
  rw[<-this];exact sm_span _ _
 ·rw[ko hb,K3] at e;refine I p ?_ e;rw[eH,Kc] at hp;refine K9 p λi hi=>?_;by_cases ο:i=ws.length
  ·rw[ο];simpa using hb
  ·exact lT (eF hp (gs @C @A))
theorem fR_inj:∀rows:D',Inj (fR rows):=by
 refine oB Inj.nil λl w ih=>?_;by_cases h:Span l w
 ·rw[Hy h];exact ih
 ·rw[DN h];exact ih.out λz=>h ((AM l w).mp z)
theorem Inj.out' {ws:D'} {w:Nat} (I:Inj (ws++[w])):Inj ws/\¬Span ws w:=by
 refine⟨λp hp e=>I p (by rw[eH,Kc,Lz];omega) (by rw[gR hp];exact e),λh=>?_⟩;obtain⟨p,hp,e⟩:=span_sm h;have:=I (p^^^2 ^ ws.length) (by rw[eH];exact lt_more hp) (by rw[vy hp,e,L7]);exact(log2_more hp).1 this
theorem Ck:∀ws:D',Inj ws->(fr ws).length=ws.length:=by
 refine oB (λ_=>rfl) λl w ih h=>?_;have:=h.out';rw[fr_out this.2,eH,eH,ih this.1];rfl
theorem Fx {ws:D'} {t:Nat} (I:Inj ws) (h:∀x∈ws,x < 2 ^ t):ws.length<=t:=by
 rw[<-Ck ws I];exact zO h
noncomputable def ow (x:Nat) (L:D'):Nat:=pk (λk=>od (x&&&L.getD k 0)) 0 L.length
theorem yt {ms:D'} {n:Nat} (hb:∀x∈ms,x < 2 ^ n) (hl:n < ms.length):∃p,p<=n/\Fst ms p:=by
 have Y:∀j,(∃p,p < j/\Fst ms p)∨∀k,k < j->k < ms.length->¬Span (ms.take k) (ms.getD k 0):=λj=>by
  induction j with
  | zero=>exact .inr λk hk=>gd hk (M6 k)
  | succ j ih=>
    rcases ih with ⟨p,hp,F⟩ | h
    ·exact .inl ⟨p,by omega,F⟩
    ·by_cases Z:j < ms.length
     ·by_cases hs:Span (ms.take j) (ms.getD j 0)
      ·exact .inl ⟨j,by omega,Z,λk hk=>h k hk @A,hs⟩
      ·exact .inr λk hk O=>by
        by_cases e:k=j
        ·rw[e];exact hs
        ·exact h k @A O
     ·exact .inr λk hk O=>h k @A O
 rcases Y (n + 1) with ⟨p,hp,F⟩ | h
 ·exact⟨p,@A,F⟩
 ·have:=wm hb (j:=n + 1) @A λk hk=>h k hk @A;omega
theorem oK:∀{O:D'} {bs:D'},(∀x∈O,Span bs x)->∀z,Span O z->Span bs z:=λ{O bs} h z hz=>by
 obtain⟨p,_,e⟩:=span_sm hz;rw[<-e];exact zq O h p
theorem F0 {ps:A'} {d:Nat} (hd:d < 2 ^ ps.length) {S:D'} (h:∀k,k < ps.length->Span S (zs ps d k)) (t:Nat):Span S (zs ps d t):=by
 obtain⟨p,hp,F⟩:=yt (HZ (n:=ps.length) hd) (by rw[yS];omega);refine oK (λx O=>?_) _ (D9 F t);obtain⟨k,hk,e⟩:=JE.mp O;rw[x4] at hk;have Y:k < p:=by omega
 rw[LQ] at e;have:=wD (ps:=ps) (d:=d) (n:=ps.length) (k:=k) @A;rw[b' (by rw[yS];omega)] at this;rw[<-e,iv this];exact h k @A
theorem Dw (ps:A') (m w:Nat) (hw:w < m):∀j,(stj ps (sg0 ps m) j)[w]? =aS (zs ps (tr2 ps 0 (2 ^ w)) j)
 | 0=>by
   show(sg0 ps m)[w]? =_;unfold sg0;rw[f',JN hw];rfl
 | j + 1=>by
   show((stj ps (sg0 ps m) j).map λx=>tr2 ps x 0)[w]? =_;rw[f',Dw ps m w hw j];rfl
theorem Gg (ps:A') (m j:Nat) {x:Nat} (h:x∈stj ps (sg0 ps m) j):∃w,w < m/\x=zs ps (tr2 ps 0 (2 ^ w)) j:=by
 obtain⟨w,hw,e⟩:=JE.mp h;have hm:w < m:=by rw[stj_len,sg0_len] at hw;exact hw
 have:=Dw ps m w hm j;rw[b' hw,e] at this;exact⟨w,hm,iv this⟩
theorem zL (ps:A') (m:Nat):∀{T x:Nat},x∈rch ps m T->∃w j,w < m/\j < T/\x=zs ps (tr2 ps 0 (2 ^ w)) j
 | 0,x,h=>gd h (by unfold rch;simp)
 | T + 1,x,h=>by
   unfold rch at h;rcases lh.mp h with h | h
   ·obtain⟨w,hw,e⟩:=Gg ps m T h;exact⟨w,T,hw,@A,e⟩
   ·obtain⟨w,j,hw,O,e⟩:=zL ps m h;exact⟨w,j,hw,@A,e⟩
theorem zN {ps:A'} {m w:Nat} (hw:w < m) (t:Nat):Span (rch ps m ps.length) (zs ps (tr2 ps 0 (2 ^ w)) t):=
 F0 (tr2_lt ps 0 (2 ^ w)) (λk hk=>wO (zM ps m (zd ps m w hw k) hk)) t
theorem BQ {ps:A'} {m x r:Nat} (hx:Span (rch ps m ps.length) x) (Y:r < 2 ^ m):Span (rch ps m ps.length) (tr2 ps x r):=by
 have e:=k7 ps x 0 0 r;rw[K3,Ly] at e;rw[e];refine span_xor ?_ ?_
 ·obtain⟨F,_,Z⟩:=span_sm hx;rw[<-Z,y8];refine zq _ (λy O=>?_) F;obtain⟨z,hz,rfl⟩:=w2.mp O;obtain⟨w,j,hw,α,rfl⟩:=zL ps m hz;exact zN hw (j + 1)
 ·rw[oI ps r m Y];refine zq _ (λy O=>?_) r;unfold sg0 at O;obtain⟨w,hw,rfl⟩:=w2.mp O;exact zN (Ju.mp hw) 0
noncomputable def lk1 (A os:D') (t:Nat):D':=os.map λs=>bkI A s t
noncomputable def lkm (A os:D'):Nat->D'
 | 0=>[]
 | T + 1=>lkm A os T++lk1 A os T
section
variable (ps os:A') (m:Nat)
noncomputable def msk:D':=lkm (ps.map (·.1)) (os.map (·.1)) ps.length
noncomputable def ldp:D':=fr ((rch ps m ps.length).map (ow · (msk ps os)))
noncomputable def lst_:D':=(ldp ps os m).map λi=>(rch ps m ps.length).getD i 0
noncomputable def lkp:D':=fr ((msk ps os).map (ow · (lst_ ps os m)))
noncomputable def lkL:D':=(lkp ps os m).map λi=>(msk ps os).getD i 0
noncomputable def sen:D':=(lkL ps os m).map (ow · (lst_ ps os m))
end
section
variable {ps os:A'} {m:Nat}
structure Lsr (ps os:A') (m:Nat) (nx' os':A'):Prop where
 ln:nx'.length=(lkp ps os m).length
 lo:os'.length=os.length
 n1:∀(j:Nat) (q:Nat×Nat),nx'[j]? =aS q->q.1 < 2 ^ (lkp ps os m).length/\sm (sen ps os m) q.1=ow (sm (ps.map (·.1)) ((lkL ps os m).getD j 0)) (lst_ ps os m)/\q.2=sm (ps.map (·.2)) ((lkL ps os m).getD j 0)
 o1:∀(j:Nat) (q:Nat×Nat),os'[j]? =aS q->q.1 < 2 ^ (lkp ps os m).length/\sm (sen ps os m) q.1=ow (os.getD j (0,0)).1 (lst_ ps os m)/\q.2=(os.getD j (0,0)).2
structure Fit (ps os:A') (m:Nat):Prop where
 ln:ps.length<=120
 bn:∀q∈ps++os,q.1 < 2 ^ ps.length
end
noncomputable def jn (p1 p2:A'):A':=p1++p2.map λq=>(q.1 <<< p1.length,q.2)
theorem jn_len (p1 p2:A'):(jn p1 p2).length=p1.length + p2.length:=by unfold jn;rw[eH,eB]
noncomputable def lo (n x:Nat):Nat:=x&&&(2 ^ n - 1)
theorem DK (n x k:Nat):(lo n x).testBit k=(decide (k < n)&&x.testBit k):=by
 unfold lo;rw[JD,Nat.testBit_two_pow_sub_one,Bool.and_comm]
theorem lo_lt (n x:Nat):lo n x < 2 ^ n:=by
 unfold lo;rw[LV];exact PZ _ (lz n)
theorem lo_xor (n x y:Nat):lo n (x^^^y)=lo n x^^^lo n y:=by unfold lo;rw[yW]
theorem hi_xor (n x y:Nat):(x^^^y)>>>n=x>>>n^^^y>>>n:=kA λk=>by
 rw[JS,u6,u6,JS,JS]
theorem spl (n x:Nat):lo n x^^^((x>>>n) <<< n)=x:=kA λk=>by
 rw[u6,DK,K4,JS];by_cases h:k < n
 ·rw[hJ h,fA @A];simp
 ·rw[fA h,hJ (by omega:k≥n),show n + (k - n)=k by omega];simp
theorem lo_of {n a b:Nat} (h:a < 2 ^ n):lo n (a^^^(b <<< n))=a:=kA λk=>by
 rw[DK,u6,K4];by_cases hk:k < n
 ·rw[hJ hk,fA (by omega:¬k≥n)];simp
 ·rw[fA hk,lT (eF h (gs @C @A))];rfl
theorem hi_lt {n m x:Nat} (h:x < 2 ^ (n + m)):x>>>n < 2 ^ m:=by
 rw[wq,Nat.div_lt_iff_lt_mul (lz n),N0,<-Pb];exact h
structure Jo (p1 p2:A'):Prop where
 a1:∀q∈p1,q.1 < 2 ^ p1.length
 a2:∀q∈p2,q.1 < 2 ^ p2.length
 l:p1.length + p2.length<=500
theorem Jo.tr {p1 p2:A'} (j:Jo p1 p2) {a b r:Nat} (ha:a < 2 ^ p1.length) (hb:b < 2 ^ p2.length):tr2 (jn p1 p2) (a^^^(b <<< p1.length)) r=tr2 p1 a r^^^(tr2 p2 b r <<< p1.length):=kA λk=>by
 have hl:=j.l;rw[fN,jn_len,u6,K4,fN,fN];by_cases h1:k < p1.length
 ·have e:(jn p1 p2).getD k (0,0)=p1.getD k (0,0):=by
   unfold jn;rw[ee,ee,oP h1]
  have hm:p1.getD k (0,0)∈p1:=by
   rw[ee,b' h1];exact KZ h1
  have Y:=j.a1 _ hm
  have ea:(p1.getD k (0,0)).1&&&(a^^^(b <<< p1.length))=(p1.getD k (0,0)).1&&&a:=by
   have:=uX (p:=(p1.getD k (0,0)).1) (r:=a) (P:=0) (R:=b) Y ha;rw[Nn,K3,M3,Nn,K3] at this;exact this
  rw[e,ea,hJ h1,hJ (show k < p1.length + p2.length by omega),fA (show ¬k≥p1.length by omega)];simp
 ·by_cases h2:k < p1.length + p2.length
  ·have O:k - p1.length < p2.length:=by omega
   have e:(jn p1 p2).getD k (0,0)=((p2.getD (k - p1.length) (0,0)).1 <<< p1.length,(p2.getD (k - p1.length) (0,0)).2):=by
    unfold jn;rw[ee,rg @A,f',ee,b' O];rfl
   have hm:p2.getD (k - p1.length) (0,0)∈p2:=by
    rw[ee,b' O];exact KZ O
   have Y:=j.a2 _ hm
   have ea:od (((p2.getD (k - p1.length) (0,0)).1 <<< p1.length)&&&(a^^^(b <<< p1.length)))=od ((p2.getD (k - p1.length) (0,0)).1&&&b):=by
    have:=uX (p:=0) (r:=a) (P:=(p2.getD (k - p1.length) (0,0)).1) (R:=b) (lz _) ha;rw[Ly,M3,Ly] at this;rw[this];refine Hd (v3 Lh (eF Y (gs @C @A))) @A
   rw[e];show(decide (k < p1.length + p2.length)&&(od (((p2.getD (k - p1.length) (0,0)).1 <<< p1.length)&&&(a^^^(b <<< p1.length)))^^od ((p2.getD (k - p1.length) (0,0)).2&&&r)))=_;rw[ea,hJ h2,fA h1,hJ (show k≥p1.length by omega),hJ O];simp
  ·rw[fA h2,fA h1,fA (show ¬k - p1.length < p2.length by omega)];simp
section
variable {p1 p2 o1 o2:A'} {m:Nat}
theorem Jo.tr' (j:Jo p1 p2) {x r:Nat} (hx:x < 2 ^ (p1.length + p2.length)):tr2 (jn p1 p2) x r=tr2 p1 (lo p1.length x) r^^^(tr2 p2 (x>>>p1.length) r <<< p1.length):=by
 have:=j.tr (r:=r) (lo_lt p1.length x) (hi_lt hx);rwa [spl] at this
theorem Jo.zs (j:Jo p1 p2) {a b:Nat} (ha:a < 2 ^ p1.length) (hb:b < 2 ^ p2.length):∀t,M.zs (jn p1 p2) (a^^^(b <<< p1.length)) t=M.zs p1 a t^^^(M.zs p2 b t <<< p1.length)
 | 0=>rfl
 | t + 1=>by
   show tr2 _ (M.zs _ _ t) 0=_;rw[j.zs ha hb t,j.tr (yR ha t) (yR hb t)];rfl
theorem yU (n:Nat):(0:Nat)^^^(0 <<< n)=0:=by rw[Nn];rfl
noncomputable def sgl (p o:A') (w:Nat):Nat->Nat
 | 0=>tr2 o 0 (2 ^ w)
 | t + 1=>tr2 o (zs p (tr2 p 0 (2 ^ w)) t) 0
theorem tH (p o:A'):∀(T x t:Nat),t < T->(wan p o x (ra T 0)).getD t 0=tr2 o (zs p x t) 0
 | 0,_,_,h=>gd h @A
 | T + 1,x,t,h=>by
   rw[KY];show(tr2 o x 0::wan p o (tr2 p x 0) (ra T 0)).getD t 0=_
   match t with
   | 0=>rfl
   | t + 1=>
     show(wan p o (tr2 p x 0) (ra T 0)).getD t 0=_;rw[tH p o T _ t @A,FZ]
theorem Ek (p o:A') (w T:Nat):∀t,t<=T->(wan p o 0 (2 ^ w::ra T 0)).getD t 0=sgl p o w t
 | 0,_=>rfl
 | t + 1,h=>by
   show(wan p o (tr2 p 0 (2 ^ w)) (ra T 0)).getD t 0=_;rw[tH p o T _ t @A];rfl
theorem pulse_sgl (p o:A') (w:Nat) {T t:Nat} (h:t < T):(wan p o 0 (pulse w T)).getD t 0=sgl p o w t:=by
 rw[<-pulse_eq,wH,ee,Nh,px h,<-ee,Ek p o w T t @A]
def Al (p1 o1 p2 o2:A') (m T:Nat):Prop:=∀t,t < T->∀w,w < m->sgl p1 o1 w t=sgl p2 o2 w t
theorem Al.step (j:Jo p1 p2) {T:Nat} (al:Al p1 o1 p2 o2 m T) {i x r:Nat} (hi:i < T) (hx:Span (rch (jn p1 p2) m i) x) (α:r < 2 ^ m):tr2 o1 (lo p1.length x) r=tr2 o2 (x>>>p1.length) r:=by
 have π:∀y,Span (rch (jn p1 p2) m i) y->tr2 o1 (lo p1.length y) 0=tr2 o2 (y>>>p1.length) 0:=λy O=>by
  obtain⟨F,_,rfl⟩:=span_sm O
  have gen:∀(L:D'),(∀z∈L,tr2 o1 (lo p1.length z) 0=tr2 o2 (z>>>p1.length) 0)->∀F,tr2 o1 (lo p1.length (sm L F)) 0=tr2 o2 (sm L F>>>p1.length) 0:=by
   intro L β F;refine rev_ind (P:=λL=>(∀z∈L,tr2 o1 (lo p1.length z) 0=tr2 o2 (z>>>p1.length) 0)->tr2 o1 (lo p1.length (sm L F)) 0=tr2 o2 (sm L F>>>p1.length) 0) ?_ ?_ L β
   ·intro _;show tr2 o1 (lo p1.length 0) 0=tr2 o2 (0>>>p1.length) 0;have e1:lo p1.length 0=0:=by unfold lo;rw[M3]
    rw[e1,Nd,lP,lP]
   ·intro L z ih h;have i1:=ih λy O=>h y (oD _ O);have i2:=h z (j' _ oi);rw[jM];split
    ·rw[lo_xor,hi_xor];have a1:=k7 o1 (lo p1.length (sm L F)) (lo p1.length z) 0 0;have a2:=k7 o2 (sm L F>>>p1.length) (z>>>p1.length) 0 0;rw[L7] at a1 a2;rw[a1,a2,i1,i2]
    ·rw[K3];exact i1
  refine gen _ (λz hz=>?_) F;obtain⟨w,k,hw,hk,rfl⟩:=zL _ _ hz
  have γ:tr2 (jn p1 p2) 0 (2 ^ w)=tr2 p1 0 (2 ^ w)^^^(tr2 p2 0 (2 ^ w) <<< p1.length):=by
   have:=j.tr (a:=0) (b:=0) (r:=2 ^ w) (lz _) (lz _);rwa [yU] at this
  rw[γ,j.zs (tr2_lt _ _ _) (tr2_lt _ _ _),lo_of (yR (tr2_lt _ _ _) _),parts_high (yR (tr2_lt _ _ _) _)];exact al (k + 1) @A w hw
 have Z:=k7 o1 (lo p1.length x) 0 0 r;have Y:=k7 o2 (x>>>p1.length) 0 0 r;rw[K3,Ly] at Z Y;rw[Z,Y,π x hx,oI o1 r m α,oI o2 r m α];congr 1
 have:sg0 o1 m=sg0 o2 m:=by
  unfold sg0;exact Li λw hw=>al 0 @A w (Ju.mp hw)
 rw[this]
theorem Al.all (j:Jo p1 p2) (al:Al p1 o1 p2 o2 m (p1.length + p2.length + 1)) {x r:Nat} (hx:Span (rch (jn p1 p2) m (p1.length + p2.length)) x) (O:r < 2 ^ m):tr2 o1 (lo p1.length x) r=tr2 o2 (x>>>p1.length) r:=al.step j (i:=p1.length + p2.length) @A hx O
end
noncomputable def rcf (ps:A') (m:Nat):Nat->D'
 | 0=>[]
 | T + 1=>rcf ps m T++stj ps (sg0 ps m) T
theorem rcf_len (ps:A') (m:Nat):∀T,(rcf ps m T).length=T * m
 | 0=>by show 0=0 * m;omega
 | T + 1=>by
   show(rcf ps m T++stj ps (sg0 ps m) T).length=_;rw[eH,rcf_len ps m T,stj_len,sg0_len,Nat.succ_mul]
theorem vE (ps:A') (m:Nat) (x:Nat):∀T,x∈rcf ps m T↔x∈rch ps m T
 | 0=>P'
 | T + 1=>by
   show x∈rcf ps m T++stj ps (sg0 ps m) T↔x∈stj ps (sg0 ps m) T++rch ps m T;rw[lh,lh,vE ps m x T,or_comm]
theorem mem_span:∀{L:D'} {x:Nat},x∈L->Span L x:=λ{L x} h=>by
 obtain⟨i,hi⟩:=Kt.mp h;have:=sm_span L (2 ^ i);rwa [sm_two_pow,ee,hi] at this
theorem BR (ps:A') (m T x:Nat):Span (rcf ps m T) x↔Span (rch ps m T) x:=
 ⟨oK (λy O=>mem_span ((vE ps m y T).mp O)) x,oK (λy O=>mem_span ((vE ps m y T).mpr O)) x⟩
noncomputable def prs2 (p1 p2:A') (m:Nat):D':=fR (rcf (jn p1 p2) m (p1.length + p2.length))
theorem prs2_span (p1 p2:A') (m x:Nat):Span (prs2 p1 p2 m) x↔Span (rch (jn p1 p2) m (p1.length + p2.length)) x:=by
 unfold prs2;rw[AM,BR]
theorem prs2_next {p1 p2:A'} {m x r:Nat} (hx:Span (prs2 p1 p2 m) x) (O:r < 2 ^ m):Span (prs2 p1 p2 m) (tr2 (jn p1 p2) x r):=by
 rw[prs2_span] at hx ⊢;have:=BQ (ps:=jn p1 p2) (m:=m) (x:=x) (r:=r) (by rw[jn_len];exact hx) O;rwa [jn_len] at this
theorem prs2_lt {p1 p2:A'} {m x:Nat} (hx:x∈prs2 p1 p2 m):x < 2 ^ (p1.length + p2.length):=by
 have h:=(prs2_span p1 p2 m x).mp (mem_span hx);rw[<-jn_len];exact span_lt (DD _ _ _) h
theorem prs2_few (p1 p2:A') (m:Nat):(prs2 p1 p2 m).length<=p1.length + p2.length:=Fx (fR_inj _) λx O=>prs2_lt O
end M
namespace Sx
open PySem L2
def Cp (O:eA Pr3->Prop) (H1:Hp) (D:eh) (i:Nat) (ys:eA V) (H:Hp):Prop:=∃ι:eA Pr3,ys=refs ι/\ι.length=i/\O ι/\Prt H ι/\Same H1 H/\H D=aS (.lst ys)
theorem DS {α:eA Pr3->Prop} {H1 H O:Hp} {D t:eh} {i x y:Nat} {ι:eA Pr3} (γ:H1 D=eC) (Z:ι.length=i) (pt:Prt H ι) (s:Same H1 H) (υ:H D=aS (.lst (refs ι))) (Y:Same H O) (et:O t=aS (.tup [nat x,nat y])) (hi:i < 1000) (pv:α (ι++[(t,x,y)])):O D=aS (.lst (refs ι))/\(refs ι).length < hH/\Cp α H1 D (i + 1) (refs ι++[.ref t]) (upd O D (.lst (refs ι++[.ref t]))):=by
 refine⟨Y.get υ,by rw[aJ,Z];exact gm @A,ι++[(t,x,y)],by unfold refs;rw[hF];rfl,by rw[eH,Z];rfl,pv,λq β=>?_,λb ob e=>?_,aQ⟩
 ·have δ:O q.1=aS (.tup [nat q.2.1,nat q.2.2]):=by
   rcases lh.mp β with h | h
   ·exact Y.get (pt q h)
   ·rw[fk.mp h];exact et
  have n:q.1≠D:=λz=>by rw[z,Y.get υ] at δ;cases δ
  rw[aH n];exact δ
 ·rw[aH (ar e γ)];exact Y.get (s.get e)
def Co (ob:Nat->HO) (H1:Hp) (D:eh) (i:Nat) (ys:eA V) (H:Hp):Prop:=∃ds:G',ys=ds.map V.ref/\ds.length=i/\(∀(j:Nat) (d:eh),ds[j]? =aS d->H d=aS (ob j))/\(∀d∈ds,H1 d=eC/\d≠D)/\Same H1 H/\H D=aS (.lst ys)
theorem p4 {ob:Nat->HO} {H1:Hp} {D:eh} (O:H1 D=eC):Co ob H1 D 0 [] (upd H1 D (.lst [])):=⟨[],rfl,rfl,λj d h=>(by simp at h),λ_ h=>(by cases h),eX O,aQ⟩
theorem A4 {O:eA Pr3->Prop} {H1:Hp} {D:eh} (Y:H1 D=eC) (h:O []):Cp O H1 D 0 [] (upd H1 D (.lst [])):=⟨[],rfl,rfl,h,λ_ h=>(by cases h),eX Y,aQ⟩
theorem rF {ob:Nat->HO} {H1 H O:Hp} {D t:eh} {i:Nat} {ys:eA V} (α:H1 D=eC) (c:Co ob H1 D i ys H) (Y:Same H O) (ft:H t=eC) (et:O t=aS (ob i)) (hi:i < 1000):O D=aS (.lst ys)/\ys.length < hH/\Co ob H1 D (i + 1) (ys++[.ref t]) (upd O D (.lst (ys++[.ref t]))):=by
 obtain⟨ds,rfl,ld,ha,hf,s,υ⟩:=c;have φ:t≠D:=λz=>by rw[z,υ] at ft;cases ft
 refine⟨Y.get υ,by rw[eB,ld];exact gm @A,ds++[t],by rw[hF];rfl,by rw[eH,ld];rfl,λj d h=>?_,λd hd=>?_,λb o e=>?_,aQ⟩
 ·by_cases Z:j < ds.length
  ·rw[oP Z] at h;rw[aH (hf d (eO h)).2];exact Y.get (ha j d h)
  ·rw[rg @A] at h
   have hz:j - ds.length=0:=by
    cases e:j - ds.length with
    | zero=>rfl
    | succ m=>rw[e] at h;simp at h
   rw[hz] at h;have h:d=t:=(iv h).symm;have Z:j=i:=by omega
   rw[h,aH φ,Z];exact et
 ·rcases lh.mp hd with h | h
  ·exact hf d h
  ·rw[fk.mp h];exact⟨s.free ft,φ⟩
 ·rw[aH (ar e α)];exact Y.get (s.get e)
structure Lrl (H:Hp) (Dr Dl:eh) (ds es:G') (m:Nat) (nx os:eA Pr3):Prop where
 r:H Dr=aS (.lst (ds.map V.ref))
 l:H Dl=aS (.lst (es.map V.ref))
 dl:ds.length=(M.ldp (prs nx) (prs os) m).length
 el:es.length=(M.lkp (prs nx) (prs os) m).length
 da:∀(j:Nat) (d k:Nat),ds[j]? =aS d->(M.ldp (prs nx) (prs os) m)[j]? =aS k->H d=aS (.lst ((M.upk m (2 ^ k) nx.length).map nat))
 ea:∀(j:Nat) (e k:Nat),es[j]? =aS e->(M.lkp (prs nx) (prs os) m)[j]? =aS k->H e=aS (.tup [nat (k / os.length),nat (k % os.length)])
theorem rO {K:aT} {H:Hp} {D:eh} {ds:G'} {ks:D'} {f:Nat->Dt} (e:H D=aS (.lst (ds.map V.ref))) (l:ds.length=ks.length) (h:∀(j:Nat) (d k:Nat),ds[j]? =aS d->ks[j]? =aS k->Rep K H (.ref d) (f k)):Rep K H (.ref D) (.lst (ks.map f)):= .lst (SqL.of e) (by rw[eB,eB,l]) λi x d hx hd=>by
 rw[f'] at hx hd;cases e1:ds[i]? with
 | none=>rw[e1] at hx;cases hx
 | some a=>
   cases O:ks[i]? with
   | none=>rw[O] at hd;cases hd
   | some k=>
     rw[e1] at hx;rw[O] at hd;rw[<-iv hx,<-iv hd];exact h i a k e1 O
theorem AW:∀{ds:eA Dt} {n:Nat},(∀d∈ds,depD d<=n)->ik ds<=n
 | [],n,_=>by rw[ik];omega
 | d::ds,n,h=>by
   rw[ik];have:=h d oi;have:=AW λx O=>h x (ov _ O);omega
noncomputable def less (H:Hp) (R:eh->Prop):Hp:=λb=>@ite _ (R b) (KH _) eC (H b)
theorem pE {H:Hp} {R:eh->Prop} {b:eh} (h:R b):less H R b=none:=by unfold less;rw[px h]
theorem dn {H:Hp} {R:eh->Prop} {b:eh} (h:¬R b):less H R b=H b:=by unfold less;rw[ko h]
theorem ue {H:Hp} {R:eh->Prop}:Same (less H R) H:=λb o e=>by
 by_cases h:R b
 ·rw[pE h] at e;cases e
 ·rw[dn h] at e;exact e
theorem zz {H0 H:Hp} {R:eh->Prop} (s:Same H0 H) (h:∀b,R b->H0 b=eC):Same H0 (less H R):=λb o e=>by
 rw[dn λz=>by rw[h b z] at e;cases e];exact s.get e
theorem xk {H:Hp} {R:eh->Prop} (h:∀b,R b->∃xs,H b=aS (.lst xs)) {b:eh} {xs:eA V} (e:H b=aS (.tup xs)):less H R b=aS (.tup xs):=by
 rw[dn λz=>by obtain⟨ys,O⟩:=h b z;rw[O] at e;cases e];exact e
structure TwoA (H:Hp) (C p1 p2:eh) (m:Nat) (nx1 os1 nx2 os2:eA Pr3):Prop where
 a1:MaA H C p1 m nx1 os1
 g1:MaG m nx1 os1
 a2:MaA H C p2 m nx2 os2
 g2:MaG m nx2 os2
 lo:os1.length=os2.length
 l:nx1.length + nx2.length<=60
theorem TwoA.same {H H2:Hp} {C p1 p2:eh} {m:Nat} {α Y Z O:eA Pr3} (x:TwoA H C p1 p2 m α Y Z O) (s:Same H H2):TwoA H2 C p1 p2 m α Y Z O:=⟨x.a1.same s,x.g1,x.a2.same s,x.g2,x.lo,x.l⟩
theorem TwoA.jo {H:Hp} {C p1 p2:eh} {m:Nat} {Y α O Z:eA Pr3} (x:TwoA H C p1 p2 m Y α O Z):M.Jo (prs Y) (prs O) where
 a1:=λq γ=>by
  obtain⟨r,β,rfl⟩:=w2.mp γ;rw[aw];exact(x.g1.bn r (oD _ β)).1
 a2:=λq γ=>by
  obtain⟨r,β,rfl⟩:=w2.mp γ;rw[aw];exact(x.g2.bn r (oD _ β)).1
 l:=by rw[aw,aw];have:=x.l;omega
noncomputable abbrev jnp (Y O:eA Pr3):A':=M.jn (prs Y) (prs O)
theorem Av (Y O:eA Pr3):(jnp Y O).length=Y.length + O.length:=by rw[M.jn_len,aw,aw]
def By (C:eh):Sp:=λvs H Q _=>∃(p1 p2:eh) (m:Nat) (Y α O Z:eA Pr3) (x r:Nat),vs=[.ref p1,.ref p2,nat x,nat r]/\TwoA H C p1 p2 m Y α O Z/\x < 2 ^ (Y.length + O.length)/\r < 2 ^ m/\∀H2,Same H H2->Q (nat (M.tr2 (jnp Y O) x r)) H2
structure Fun2 (p1 o1 p2 o2:A') (m w t:Nat):Prop where
 hw:w < m
 ht:t<=p1.length + p2.length
 al:M.Al p1 o1 p2 o2 m t
 al':∀w',w' < w->M.sgl p1 o1 w' t=M.sgl p2 o2 w' t
 un:M.sgl p1 o1 w t≠M.sgl p2 o2 w t
theorem Fun2.uniq {p1 o1 p2 o2:A'} {m w t δ t':Nat} (a:Fun2 p1 o1 p2 o2 m w t) (b:Fun2 p1 o1 p2 o2 m δ t'):w=δ/\t=t':=by
 have ht:t=t':=by
  rcases Kq t t' with h | h | h
  ·exact gd (b.al t h w a.hw) a.un
  ·exact h
  ·exact gd (a.al t' h δ b.hw) b.un
 subst ht;refine⟨?_,rfl⟩;rcases Kq w δ with h | h | h
 ·exact gd (b.al' w h) a.un
 ·exact h
 ·exact gd (a.al' δ h) b.un
theorem Fun2.not {p1 o1 p2 o2:A'} {m w t:Nat} (a:Fun2 p1 o1 p2 o2 m w t) (b:M.Al p1 o1 p2 o2 m (p1.length + p2.length + 1)):False:=a.un (b t (by have:=a.ht;omega) w a.hw)
def Eu (C:eh):Sp:=λvs H Q _=>∃(p1 p2:eh) (m:Nat) (Y α O Z:eA Pr3),vs=[.ref p1,.ref p2]/\TwoA H C p1 p2 m Y α O Z/\
 (M.Al (prs Y) (prs α) (prs O) (prs Z) m (Y.length + O.length + 1)->∀H2,Same H H2->Q .non H2)/\
 (∀w t,Fun2 (prs Y) (prs α) (prs O) (prs Z) m w t->∀(tt:eh) (H2:Hp),Same H H2->H2 tt=aS (.tup [.str "apart",nat w,nat t])->Q (.ref tt) H2)
def Gi (C:eh):Sp:=λvs H Q _=>∃(p1 p2:eh) (m:Nat) (Y α O Z:eA Pr3),vs=[.ref p1,.ref p2]/\TwoA H C p1 p2 m Y α O Z/\∀(D:eh) (H2:Hp),H D=eC->Same H H2->H2 D=aS (.lst ((M.prs2 (prs Y) (prs O) m).map nat))->Q (.ref D) H2
noncomputable def sfq (rows:D') (x:Nat):Nat:=@dite _ (∃q,Sumd rows x q) (KH _) (λh=>h.choose) λ_=>0
theorem zv {rows:D'} {x q:Nat} (h:Sumd rows x q):q=sfq rows x:=by
 unfold sfq;rw[dif_pos ⟨q,h⟩];exact h.uniq (Classical.choose_spec (⟨q,h⟩:∃q,Sumd rows x q))
structure AlkA (H:Hp) (t Ds Db Du:eh) (ts bs us:G') (m:Nat) (p1 p2:A'):Prop where
 t:H t=aS (.tup [.str "alike",.ref Ds,.ref Db,.ref Du])
 s:H Ds=aS (.lst (ts.map V.ref))
 ls:ts.length=(M.prs2 p1 p2 m).length
 sa:∀(j:Nat) a,ts[j]? =aS a->H a=aS (.tup [nat (M.lo p1.length ((M.prs2 p1 p2 m).getD j 0)),nat ((M.prs2 p1 p2 m).getD j 0>>>p1.length)])
 b:H Db=aS (.lst (bs.map V.ref))
 lb:bs.length=m
 ba:∀(j:Nat) a,bs[j]? =aS a->H a=aS (.lst ((M.pl 1000 (sfq (M.prs2 p1 p2 m) (M.tr2 (M.jn p1 p2) 0 (2 ^ j)))).map nat))
 u:H Du=aS (.lst (us.map V.ref))
 lu:us.length=(M.prs2 p1 p2 m).length
 ua:∀(j:Nat) a,us[j]? =aS a->H a=aS (.lst ((M.pl 1000 (sfq (M.prs2 p1 p2 m) (M.tr2 (M.jn p1 p2) ((M.prs2 p1 p2 m).getD j 0) 0))).map nat))
theorem AlkA.same {H H2:Hp} {t η χ φ:eh} {ts bs us:G'} {m:Nat} {p1 p2:A'} (x:AlkA H t η χ φ ts bs us m p1 p2) (s:Same H H2):AlkA H2 t η χ φ ts bs us m p1 p2:=⟨s.get x.t,s.get x.s,x.ls,λj a h=>s.get (x.sa j a h),s.get x.b,x.lb,λj a h=>s.get (x.ba j a h),s.get x.u,x.lu,λj a h=>s.get (x.ua j a h)⟩
theorem oZ {p1 p2:A'} {m x r q:Nat} (hx:x=0∨x∈M.prs2 p1 p2 m) (O:r < 2 ^ m):M.Span (M.prs2 p1 p2 m) (M.tr2 (M.jn p1 p2) x r):=by
 refine M.prs2_next ?_ O;rcases hx with rfl | h
 ·exact M.span_zero _
 ·exact M.mem_span h
end Sx
namespace M
structure Kern (R ms:D'):Prop where
 inj:Inj ms
 lt:∀m∈ms,m < 2 ^ R.length
 ev:∀m∈ms,sm R m=0
 all:∀z,z < 2 ^ R.length->sm R z=0->Span ms z
structure Lft (left rows:D'):Prop where
 nz:∀x∈left,x≠0
 pw:left.Pairwise λa b=>b.testBit a.log2=false
 sp:∀x,Span left x↔Span rows x
 len:left.length=(fr rows).length
noncomputable def bm (rows:D') (b:Nat):Nat:=OW (Bar rows b)
noncomputable def acr (rows:D') (n:Nat):D':=((hE n).filter λb=>tt (∀y,Span rows y->y≠0->y.log2≠b)).map (bm rows)
section
variable (ps os:A') (m:Nat)
noncomputable def Sil:Nat->Nat->Prop
 | 0,x=>x < 2 ^ ps.length
 | j + 1,x=>x < 2 ^ ps.length/\∃u,u < 2 ^ m/\tr2 os x u=0/\Sil j (tr2 ps x u)
end
section
noncomputable def jd (n:Nat) (q:Nat×Nat):Nat:=q.1^^^(q.2 <<< n)
structure Ji (ps os:A') (m:Nat) (bars ways:D'):Prop where
 lt:∀w∈ways,w < 2 ^ (ps.length + m)
 ev:∀w∈ways,tr2 os (w % 2 ^ ps.length) (w>>>ps.length)=0/\∀b∈bars,od (b&&&tr2 ps (w % 2 ^ ps.length) (w>>>ps.length))=false
 inj:Inj (ways.map (· % 2 ^ ps.length))
 span:∀x,Span (ways.map (· % 2 ^ ps.length)) x↔x < 2 ^ ps.length/\∃u,u < 2 ^ m/\tr2 os x u=0/\∀b∈bars,od (b&&&tr2 ps x u)=false
end
section
variable {ps os:A'} {m:Nat}
noncomputable def rowsJ (ps os:A') (O:D'):D':=os.map (jd ps.length)++O.map λb=>jd ps.length (sm (ps.map (·.1)) b,sm (ps.map (·.2)) b)
def Jk (ps os:A') (m j:Nat) (O:D'):Prop:=∀y,y < 2 ^ ps.length->((∀b∈O,od (b&&&y)=false)↔Sil ps os m j y)
end
noncomputable def act (ps:A') (x Q:Nat):Nat:=if Q=0 then 0 else (if Q % 2=1 then x else 0)^^^act ps (tr2 ps x 0) (Q / 2)
termination_by Q
decreasing_by omega
structure Lst (ps:A') (x P:Nat):Prop where
 nz:P≠0
 dv:∀Q,act ps x Q=0↔Dv P Q
structure Rng (ps:A') (x l n:Nat):Prop where
 pos:1<=n
 back:zs ps x (l + n)=zs ps x l
 least:∀e,1<=e->e < n->zs ps x (l + e)≠zs ps x l
 early:1<=l->zs ps x (l - 1 + n)≠zs ps x (l - 1)
section
variable (ps os:A') (m T:Nat)
noncomputable def tol:D':=(hE (T * m)).map λk=>pkw os.length (wan ps os 0 (upk m (2 ^ k) T))
end
section
variable (ps os:A') (d:Nat)
noncomputable def fol (to:A') (q:Nat×Nat):Nat×Nat:=(q.1^^^sm (to.map (·.1)) q.2,sm (to.map (·.2)) q.2)
end
section
variable {ps os:A'} {d:Nat}
structure Mks (ps os:A') (m d:Nat) (μs:D'):Prop where
 len:μs.length=m
 lt:∀(i μ:Nat),μs[i]? =aS μ->μ < 2 ^ ((d + 1) * os.length)
 ev:∀(i μ:Nat),μs[i]? =aS μ->∀z,Span ((tol ps os m (d + 1)).set i 0) z->od (μ&&&z)=false
 odd:∀(i μ:Nat),μs[i]? =aS μ->od (μ&&&(tol ps os m (d + 1)).getD i 0)=true
end
section
variable {ps os:A'} {m:Nat}
structure Slp (ps os:A') (m j:Nat) (bars ways:D'):Prop where
 w:Ji ps os m bars ways
 b:Jk ps os m j bars
 lt:∀b∈bars,b < 2 ^ ps.length
 cnt:∃prev:D',(∀x,Span prev x↔Sil ps os m j x)/\Inj prev/\prev.length + bars.length=ps.length/\prev.length + j<=ps.length
end
structure Chn (ps po:A') (m:Nat) (sz rw:Nat->Nat) (pos:Nat->Nat->Nat):Prop where
 len:po.length=m
 lt:∀w k,w < m->k < sz w->pos w k < ps.length/\pos w k < 1000
 p0:∀w,w < m->0 < sz w->∃b,ps[pos w 0]? =aS (b,rw w)/\∀j,b.testBit j=true->∃k,k < sz w/\j=pos w k
 pk:∀w k,w < m->k + 1 < sz w->ps[pos w (k + 1)]? =aS (2 ^ pos w k,0)
 o0:∀w,w < m->sz w=0->po[w]? =aS (0,rw w)
 ok:∀w,w < m->0 < sz w->po[w]? =aS (2 ^ pos w (sz w - 1),0)
variable {ps po:A'} {m:Nat} {sz rw:Nat->Nat} {pos:Nat->Nat->Nat}
theorem kc {ι:A'} {i:Nat} {q:Nat×Nat} (h:ι[i]? =aS q) (x r:Nat):(tr2 ι x r).testBit i=(od (q.1&&&x)^^od (q.2&&&r)):=by
 have hl:=(dt.mp h).1;rw[fN,hJ hl,Kb,ee,h];rfl
theorem bis {ps os Y Z:A'} (R:Nat->Nat->Prop) (h:∀x O r,R x O->tr2 os x r=tr2 Z O r/\R (tr2 ps x r) (tr2 Y O r)):∀(rs:D') (x O:Nat),R x O->wan ps os x rs=wan Y Z O rs
 | [],_,_,_=>rfl
 | r::rs,x,O,hR=>by
   obtain⟨h1,h2⟩:=h x O r hR;show tr2 os x r::wan ps os (tr2 ps x r) rs=tr2 Z O r::wan Y Z (tr2 Y O r) rs;rw[h1,bis R h rs _ _ h2]
def AlkM (ps os O Y:A'):Prop:=∀rs,wan ps os 0 rs=wan O Y 0 rs
theorem AlkM.refl (ps os:A'):AlkM ps os ps os:=λ_=>rfl
noncomputable def pmx (ns:D') (x:Nat):Nat->Nat
 | 0=>0
 | k + 1=>pmx ns x k + ((x>>>ns.getD k 0)&&&1) <<< k
theorem pmx_lt (ns:D') (x:Nat):∀n,pmx ns x n < 2 ^ n
 | 0=>by show 0 < 1;decide
 | k + 1=>by
   have h:=pmx_lt ns x k;have h2:(x>>>ns.getD k 0)&&&1<=1:=by rw[Np];omega
   have O:((x>>>ns.getD k 0)&&&1) <<< k<=2 ^ k:=by rw[KJ];exact Jx (Po _ h2) @A
   show pmx ns x k + _ < 2 ^ (k + 1);rw[Lz];omega
theorem jU (ns:D') (x j:Nat):∀n,(pmx ns x n).testBit j=(decide (j < n)&&x.testBit (ns.getD j 0))
 | 0=>by show(0:Nat).testBit j=_;rw[Kp,fA (M6 j)];rfl
 | k + 1=>by
   show(pmx ns x k + ((x>>>ns.getD k 0)&&&1) <<< k).testBit j=_;have hl:=pmx_lt ns x k
   have e:pmx ns x k + ((x>>>ns.getD k 0)&&&1) <<< k=(2 ^ k * ((x>>>ns.getD k 0)&&&1))||| pmx ns x k:=by
    rw[<-Od hl,KJ,N0,Oy]
   rw[e,Ml,jU ns x j k,N0,<-KJ,K4];rcases Kq j k with h | h | h
   ·have h1:¬k<=j:=by omega
    rw[hJ h,hJ (show j < k + 1 by omega),fA h1,J9,QG]
   ·subst h;rw[fA (Kk j),hJ (Ke j),hJ (mu j),LP,J9,Mq,Kb,Kb,JD,JS,NM];show(x.testBit _&&true)=_;rw[QH]
   ·rw[fA (show ¬j < k by omega),fA (show ¬j < k + 1 by omega),hJ (show k<=j by omega),JD,J9,Mq,Kb]
    have:(1:Nat).testBit (j - k)=false:=by
     obtain⟨d,hd⟩:∃d,j - k=d + 1:=⟨j - k - 1,@A⟩;rw[hd,Nat.testBit_succ];exact Kp _
    rw[this,Ks]
theorem E1 (ns:D') (a b n:Nat):pmx ns (a^^^b) n=pmx ns a n^^^pmx ns b n:=by
 apply kA;intro j;rw[u6,jU,jU,jU,u6];cases decide (j < n)<;>simp
theorem w6 (ns:D') (n:Nat):pmx ns 0 n=0:=by
 apply kA;intro j;rw[jU,Kp,Kp,Ks]
theorem ord_at {ns:D'} {n k:Nat} (hp:ns.Perm (hE n)) (hk:k < n):ns.getD k 0 < n:=by
 have hl:ns.length=n:=by rw[hp.length_eq,q7]
 rw[ee,b' @A];exact Ju.mp (hp.mem_iff.mp (KZ ..))
theorem E8 {ns:D'} {n i:Nat} (hp:ns.Perm (hE n)) (hi:i < n):∃k,k < n/\ns.getD k 0=i:=by
 have hl:ns.length=n:=by rw[hp.length_eq,q7]
 obtain⟨k,hk⟩:=K8 (hp.mem_iff.mpr (Ju.mpr hi));have:=(dt.mp hk).1;exact⟨k,@A,by rw[ee,hk];rfl⟩
theorem E9 {ns:D'} {n k j:Nat} (hp:ns.Perm (hE n)) (hk:k < n) (hj:j < n) (e:ns.getD k 0=ns.getD j 0):k=j:=by
 have hl:ns.length=n:=by rw[hp.length_eq,q7]
 have nd:ns.Nodup:=hp.nodup_iff.mpr (Q6 ..);rw[ee,ee,b' @A,b' @A] at e;exact(Q7 nd).mp e
theorem E2 {ns:D'} {n k:Nat} (hp:ns.Perm (hE n)) (hk:k < n):pmx ns (2 ^ ns.getD k 0) n=2 ^ k:=by
 apply kA;intro j;rw[jU,sg,sg];by_cases O:j < n
 ·rw[hJ O,Kb];by_cases e:k=j
  ·subst e;rw[hJ rfl,hJ rfl]
  ·rw[fA e,fA λz=>e (E9 hp hk O z)]
 ·rw[fA O,fA (show ¬k=j by omega)];rfl
theorem z9 {ns:D'} {n:Nat} (hn:n<=1000) (hp:ns.Perm (hE n)) (x:Nat):∀i,i<=n->∀a,a < 2 ^ i->od (pmx ns a n&&&pmx ns x n)=od (a&&&x)
 | 0,_,a,ha=>by
   have:a=0:=by have:(2:Nat) ^ 0=1:=rfl;omega
   rw[this,w6,M3,M3]
 | i + 1,hi,a,ha=>by
   by_cases hb:a.testBit i=true
   ·have O:a^^^2 ^ i < 2 ^ i:=by
     apply K9;intro j Z;rw[u6,sg];by_cases e:i=j
     ·subst e;rw[hb,hJ rfl];rfl
     ·rw[fA e,Oc];exact lT (eF ha (gs @C @A))
    have e:a=(a^^^2 ^ i)^^^2 ^ i:=by rw[JU,L7,K3]
    obtain⟨k,hk,Y⟩:=E8 hp (show i < n by omega);have ih:=z9 hn hp x i @A _ O;generalize a^^^2 ^ i=b at e ih;rw[e,E1,Ls,md,ih,Ls,md,<-Y,E2 hp hk,rl @A,rl (by rw[Y];omega),jU,hJ hk,Kb]
   ·have O:a < 2 ^ i:=by
     apply K9;intro j Z;by_cases e:i=j
     ·subst e;simpa using hb
     ·exact lT (eF ha (gs @C @A))
    exact z9 hn hp x i @A a O
theorem IS {ns:D'} {n:Nat} (hn:n<=1000) (hp:ns.Perm (hE n)) {a:Nat} (ha:a < 2 ^ n) (x:Nat):od (pmx ns a n&&&pmx ns x n)=od (a&&&x):=z9 hn hp x n (mu n) a ha
theorem turned62 {ps os O Y:A'} {ns:D'} (hn:ps.length<=1000) (hp:ns.Perm (hE ps.length)) (hA:∀q∈ps++os,q.1 < 2 ^ ps.length) (hl:O.length=ps.length)
  (h1:∀k q,ps[ns.getD k 0]? =aS q->k < ps.length->O[k]? =aS (pmx ns q.1 ps.length,q.2)) (h2:Y=os.map λq=>(pmx ns q.1 ps.length,q.2)):AlkM ps os O Y:=by
 have ob:∀(q:Nat×Nat),q∈ps++os->∀x r:Nat,(od (pmx ns q.1 ps.length&&&pmx ns x ps.length)^^od (q.2&&&r))=(od (q.1&&&x)^^od (q.2&&&r)):=λq γ x r=>by rw[IS hn hp (hA q γ)]
 refine λrs=>bis (λx β=>β=pmx ns x ps.length) (λx β r e=>?_) rs 0 0 (w6 ..).symm;subst e;constructor
 ·apply kA;intro j;by_cases α:j < os.length
  ·have e:=b' α;rw[kc e,kc (show Y[j]? =aS _ by rw[h2,f',e];rfl),ob _ (j' _ (KZ α))]
  ·rw[fN,fN,fA α,fA (by rw[h2,eB];exact α),J9,J9]
 ·apply kA;intro k;rw[jU];by_cases hk:k < ps.length
  ·have Z:=ord_at hp hk;have e:=b' Z;rw[kc (h1 k _ e hk),kc e,hJ hk,Kb,ob _ (oD _ (KZ Z))]
  ·rw[fN,fA (by rw[hl];exact hk),fA hk,J9,J9]
theorem vZ {ps os Y α:A'} {d:Nat×Nat} (E:Nat->Nat->Prop) (ρ:E 0 0) (hl:Y.length=ps.length + 1) (ho:α.length=os.length) (hd:Y[ps.length]? =aS d)
  (h1:∀(k:Nat) (q:Nat×Nat),ps[k]? =aS q->∃Z,Y[k]? =aS Z/\∀x O r,(∀j,j < ps.length->O.testBit j=x.testBit j)->E x O->(od (Z.1&&&O)^^od (Z.2&&&r))=(od (q.1&&&x)^^od (q.2&&&r)))
  (h2:∀(k:Nat) (q:Nat×Nat),os[k]? =aS q->∃Z,α[k]? =aS Z/\∀x O r,(∀j,j < ps.length->O.testBit j=x.testBit j)->E x O->(od (Z.1&&&O)^^od (Z.2&&&r))=(od (q.1&&&x)^^od (q.2&&&r)))
  (γ:∀x O r,(∀j,j < ps.length->O.testBit j=x.testBit j)->E x O->E (tr2 ps x r) (tr2 Y O r)):AlkM ps os Y α:=by
 refine λrs=>bis (λx O=>(∀j,j < ps.length->O.testBit j=x.testBit j)/\E x O) (λx O r e=>?_) rs 0 0 ⟨λ_ _=>rfl,ρ⟩;obtain⟨e1,δ⟩:=e;refine⟨?_,λj β=>?_,γ x O r e1 δ⟩
 ·apply kA;intro j;by_cases β:j < os.length
  ·have e:=b' β;obtain⟨Z,g1,g2⟩:=h2 j _ e;rw[kc e,kc g1,g2 x O r e1 δ]
  ·rw[fN,fN,fA β,fA (by rw[ho];exact β),J9,J9]
 ·have e:=b' β;obtain⟨Z,g1,g2⟩:=h1 j _ e;rw[kc e,kc g1,g2 x O r e1 δ]
theorem kl {a x O n:Nat} (ha:a < 2 ^ n) (h:∀j,j < n->O.testBit j=x.testBit j):od (a&&&O)=od (a&&&x):=by
 congr 1;apply kA;intro j;rw[JD,JD];by_cases Y:j < n
 ·rw[h j Y]
 ·rw[lT (eF ha (gs @C @A)),J9,J9]
theorem grownA {ps os:A'} (d:Nat×Nat) (hA:∀q∈ps++os,q.1 < 2 ^ ps.length):AlkM ps os (ps++[d]) os:=by
 refine vZ (d:=d) (λ_ _=>True) trivial (by rw[eH];rfl) rfl (by rw[rg (mu _),LP];rfl) (λk q h=>?_) (λk q h=>?_) λ_ _ _ _ _=>trivial
 ·have hk:=(dt.mp h).1;exact⟨q,by rw[oP hk];exact h,λx O r e _=>by rw[kl (hA q (oD _ (eO h))) e]⟩
 ·exact⟨q,h,λx O r e _=>by rw[kl (hA q (j' _ (eO h))) e]⟩
theorem grownB {ps os Y:A'} (hn:ps.length < 1000) (hA:∀q∈ps++os,q.1 < 2 ^ ps.length) (ho:Y.length=os.length) (h:∀(k:Nat) (q:Nat×Nat),os[k]? =aS q->∃b,Y[k]? =aS (q.1||| b <<< ps.length,q.2)/\b<=1):AlkM ps os (ps++[(2 ^ ps.length,0)]) Y:=by
 have φ:(ps++[((2:Nat) ^ ps.length,0)])[ps.length]? =aS (2 ^ ps.length,0):=by rw[rg (mu _),LP];rfl
 refine vZ (d:=(2 ^ ps.length,0)) (λ_ O=>O.testBit ps.length=false) (Kp _) (by rw[eH];rfl) ho φ (λk q h=>?_) (λk q Z=>?_) λx O r _ e=>?_
 ·have hk:=(dt.mp h).1;exact⟨q,by rw[oP hk];exact h,λx O r e _=>by rw[kl (hA q (oD _ (eO h))) e]⟩
 ·obtain⟨b,hb,θ⟩:=h k q Z;refine⟨_,hb,λx O r e α=>?_⟩;have ha:=hA q (j' _ (eO Z));show(od ((q.1||| b <<< ps.length)&&&O)^^_)=_
  have:(q.1||| b <<< ps.length)&&&O=q.1&&&O:=by
   apply kA;intro j;rw[JD,JD,Ml,K4];rcases Kq j ps.length with z | z | z
   ·rw[fA (show ¬ps.length<=j by omega),J9,Mq]
   ·rw[z,α,Ks,Ks]
   ·have:b.testBit (j - ps.length)=false:=lT (v3 θ (Nat.one_lt_two_pow @A));rw[this,Ks,Mq]
  rw[this,kl ha e]
 ·show(tr2 _ O r).testBit _=false;rw[kc φ];show(od (2 ^ ps.length&&&O)^^od (0&&&r))=false;rw[M3,od_zero,Oc,rl hn];exact e
theorem grownC {ps os Y Z:A'} {i:Nat} (hn:ps.length < 1000) (hi:i < ps.length) (hA:∀q∈ps++os,q.1 < 2 ^ ps.length) (hl:Y.length=ps.length + 1) (ho:Z.length=os.length) (ht:Y[ps.length]? =Y[i]?)
  (h1:∀(k:Nat) (q:Nat×Nat),ps[k]? =aS q->∃a,Y[k]? =aS (a,q.2)/\(a=q.1∨a=q.1^^^2 ^ i^^^2 ^ ps.length))
  (h2:∀(k:Nat) (q:Nat×Nat),os[k]? =aS q->∃a,Z[k]? =aS (a,q.2)/\(a=q.1∨a=q.1^^^2 ^ i^^^2 ^ ps.length)):AlkM ps os Y Z:=by
 have α:∀(q:Nat×Nat) (a:Nat),q∈ps++os->(a=q.1∨a=q.1^^^2 ^ i^^^2 ^ ps.length)->∀x O r:Nat,(∀j,j < ps.length->O.testBit j=x.testBit j)->O.testBit ps.length=x.testBit i->(od (a&&&O)^^od (q.2&&&r))=(od (q.1&&&x)^^od (q.2&&&r)):=λq a ε ha x O r e β=>by
  rcases ha with rfl | rfl
  ·rw[kl (hA q ε) e]
  ·rw[Ls,Ls,md,md,rl @A,rl hn,kl (hA q ε) e,e i hi,β];cases od (q.1&&&x)<;>cases x.testBit i<;>cases od (q.2&&&r)<;>rfl
 have γ:=b' hi;obtain⟨a,g1,g2⟩:=h1 i _ γ;refine vZ (d:=_) (λx O=>O.testBit ps.length=x.testBit i) (by rw[Kp,Kp]) hl ho (ht.trans g1) (λk q h=>?_) (λk q h=>?_) λx O r e β=>?_
 ·obtain⟨b,e1,β⟩:=h1 k q h;exact⟨_,e1,λx O r e δ=>α q b (oD _ (eO h)) β x O r e δ⟩
 ·obtain⟨b,e1,β⟩:=h2 k q h;exact⟨_,e1,λx O r e δ=>α q b (j' _ (eO h)) β x O r e δ⟩
 ·show(tr2 Y O r).testBit _=(tr2 ps x r).testBit _;rw[kc (ht.trans g1),kc γ];exact α _ a (oD _ (eO γ)) g2 x O r e β
theorem pmx_sum (ns:D') (x:Nat):∀n,((hE n).map λk=>((x>>>ns.getD k 0)&&&1) <<< k).sum=pmx ns x n
 | 0=>rfl
 | n + 1=>by
   rw[Ky,hF,List.sum_append,pmx_sum ns x n];show _ + (_ + 0)=_;rw[NM];rfl
end M
namespace Sx
open PySem L2
noncomputable def lamQ:Str:=(("_law_turned":u3)++".<locals>.")++"<lambda>"
def But (P:eh) (H H2:Hp):Prop:=∀b o,b≠P->H b=aS o->H2 b=aS o
theorem But.of {P:eh} {H H2:Hp} (s:Same H H2):But P H H2:=λb o _ e=>s.get e
theorem But.trans {P:eh} {H H1 H2:Hp} (x:But P H H1) (y:But P H1 H2):But P H H2:=λb o n e=>y b o n (x b o n e)
theorem But.lst {P:eh} {H H2:Hp} {pos:Pos} {q:u3} (x:But P H H2) (T:LM.TabL pos q P H) {b:eh} {xs:eA V} (e:H b=aS (.lst xs)):H2 b=aS (.lst xs):=x b _ (λz=>by rcases T with t | ⟨_,_,t,_⟩<;>(rw[z,t] at e;cases e)) e
theorem But.tup {P:eh} {H H2:Hp} {pos:Pos} {q:u3} (x:But P H H2) (T:LM.TabL pos q P H) {b:eh} {xs:eA V} (e:H b=aS (.tup xs)):H2 b=aS (.tup xs):=x b _ (λz=>by rcases T with t | ⟨_,_,t,_⟩<;>(rw[z,t] at e;cases e)) e
theorem But.prt {P:eh} {H H2:Hp} {pos:Pos} {q:u3} (x:But P H H2) (T:LM.TabL pos q P H) {ps:eA Pr3} (e:Prt H ps):Prt H2 ps:=λr O=>x.tup T (e r O)
theorem But.tab {P:eh} {H H2:Hp} {pos:Pos} {q:u3} (x:But P H H2) (T:LM.TabL pos q P H) {t n o:eh} {m:Nat} {nx os:eA Pr3} (e:TabT H t n o m nx os):TabT H2 t n o m nx os:=
 ⟨x.tup T e.t,⟨e.tab.m6,x.lst T e.tab.n,x.lst T e.tab.o,x.prt T e.tab.pn,x.prt T e.tab.po,e.tab.ln,e.tab.lo,e.tab.bn⟩⟩
theorem But.seq {P:eh} {H H2:Hp} {pos:Pos} {q:u3} {K:aT} (x:But P H H2) (T:LM.TabL pos q P H) {b:eh} {xs:eA V} (e:SqL K H b xs):SqL K H2 b xs:=by
 rcases e with (e | ⟨o,e⟩) | e
 ·exact .inl (.inl (x.lst T e))
 ·exact .inl (.inr ⟨o,x b _ (λz=>by rcases T with t | ⟨_,_,t,_⟩<;>(rw[z,t] at e;cases e)) e⟩)
 ·exact .inr e
theorem jL {P:eh} {H H2:Hp} {pos:Pos} {q:u3} (T:LM.TabL pos q P H) (s:Same H H2):LM.TabL pos q P H2:=by
 rcases T with t | ⟨c,n,t,e⟩
 ·exact .inl (s.get t)
 ·exact .inr ⟨c,n,s.get t,s.get e⟩
def xQ:Sp:=λvs H Q _=>∃(a i n w:Nat),vs=[nat a,nat i,nat n,nat w]/\i < 100/\n < 100/\∀b:Nat,(b=a∨b=(a^^^2 ^ i)||| 2 ^ n)->Q (nat b) H
def vt:Sp:=λvs H Q _=>∃(t n o:eh) (m:Nat) (nx os:eA Pr3) (c:Nat),vs=[.ref t,nat c]/\TabT H t n o m nx os/\nx.length<=16/\
 ∀(α Y o2:eh) (H2:Hp) (Z O:eA Pr3),Same H H2->TabT H2 α Y o2 m Z O->Z.length<=16->O.length=os.length->M.AlkM (prs nx) (prs os) (prs Z) (prs O)->Q (.ref α) H2
def tL (pos:Pos) (P:eh):Sp:=λvs H Q _=>∃(t n o:eh) (m:Nat) (nx os:eA Pr3) (c:Nat),vs=[.ref t,nat c]/\TabT H t n o m nx os/\nx.length<=16/\LM.TabL pos lamQ P H/\
 ∀(α Y o2:eh) (H2:Hp) (Z O:eA Pr3),But P H H2->LM.TabL pos lamQ P H2->TabT H2 α Y o2 m Z O->Z.length=nx.length->O.length=os.length->M.AlkM (prs nx) (prs os) (prs Z) (prs O)->Q (.ref α) H2
theorem CM {α:Type} {l:eA α} {n k:Nat} {d:α} (h:l.length=n + k):l.drop n=(hE k).map λj=>l.getD (n + j) d:=by
 refine Mf λj=>?_;rw[La,f'];by_cases O:j < k
 ·rw[JN O,b' @A,NK,ee,b' @A];rfl
 ·rw[JI @A,JI (by rw[q7];omega)];rfl
theorem MaG.hA {m:Nat} {nx os:eA Pr3} (g:MaG m nx os):∀q∈prs nx++prs os,q.1 < 2 ^ (prs nx).length:=λq O=>by
 rw[show prs nx++prs os=prs (nx++os) from(hF ..).symm] at O;obtain⟨r,Y,rfl⟩:=w2.mp O;rw[aw];exact(g.bn r Y).1
theorem Ik {H:Hp} {ps:G'} {ns:D'} {nx os:eA Pr3} {η ζ ε:eh} {m:Nat} (g:MaG m nx os) (θ:nx.length<=16) (hp:ns.Perm (hE nx.length)) (δ:ps.length=nx.length + os.length)
  (ν:H η=aS (.tup [nat m,.ref ζ,.ref ε])) (ο:H ζ=aS (.lst ((hE nx.length).map λk=>V.ref (ps.getD (ns.getD k 0) 0)))) (ξ:H ε=aS (.lst ((ps.drop nx.length).map V.ref)))
  (ι:∀(j:Nat) (p:eh) (r:Pr3),ps[j]? =aS p->(nx++os)[j]? =aS r->H p=aS (.tup [nat (M.pmx ns r.2.1 nx.length),nat r.2.2])):
  ∃Z Y:eA Pr3,TabT H η ζ ε m Z Y/\Z.length=nx.length/\Y.length=os.length/\M.AlkM (prs nx) (prs os) (prs Z) (prs Y):=by
 obtain⟨D,π⟩:∃D:Pr3,D=(0,0,0):=⟨_,rfl⟩;have γ:∀j,j < nx.length + os.length->ps[j]? =aS (ps.getD j 0):=λj α=>by rw[ee,b' @A];rfl
 have hn:∀j,j < nx.length->nx[j]? =aS (nx.getD j D):=λj α=>by rw[ee,b' α];rfl
 have ho:∀j,j < os.length->os[j]? =aS (os.getD j D):=λj α=>by rw[ee,b' α];rfl
 refine⟨(hE nx.length).map λk=>(ps.getD (ns.getD k 0) 0,M.pmx ns (nx.getD (ns.getD k 0) D).2.1 nx.length,(nx.getD (ns.getD k 0) D).2.2),(hE os.length).map λj=>(ps.getD (nx.length + j) 0,M.pmx ns (os.getD j D).2.1 nx.length,(os.getD j D).2.2),⟨ν,g.m6,?_,?_,?_,?_,by rw[eB,q7];omega,by rw[eB,q7];exact g.lo,?_⟩,by rw[eB,q7],by rw[eB,q7],?_⟩
 ·rw[ο];unfold refs;rw[KR];rfl
 ·rw[ξ,CM (d:=0) δ];unfold refs;rw[KR,KR];rfl
 ·intro q O;obtain⟨k,hk,rfl⟩:=w2.mp O;have hk:=Ju.mp hk;have β:=M.ord_at hp hk;exact ι _ _ _ (γ _ @A) (by rw[oP β];exact hn _ β)
 ·intro q O;obtain⟨k,hk,rfl⟩:=w2.mp O;have hk:=Ju.mp hk;exact ι _ _ _ (γ _ @A) (by rw[rg @A,show nx.length + k - nx.length=k by omega];exact ho _ hk)
 ·intro q O;rw[eB,q7];rcases lh.mp O with h | h
  ·obtain⟨k,hk,rfl⟩:=w2.mp h;have β:=M.ord_at hp (Ju.mp hk);exact⟨M.pmx_lt ..,(g.bn _ (oD _ (eO (hn _ β)))).2⟩
  ·obtain⟨k,hk,rfl⟩:=w2.mp h;exact⟨M.pmx_lt ..,(g.bn _ (j' _ (eO (ho _ (Ju.mp hk))))).2⟩
 ·refine M.turned62 (ns:=ns) (by rw[aw];omega) (by rw[aw];exact hp) g.hA (by rw[aw,aw,eB,q7]) (λk q O hk=>?_) ?_
  ·rw[aw] at hk ⊢;have β:=M.ord_at hp hk;rw[f',hn _ β] at O;cases iv O;rw[f',f',JN hk];rfl
  ·rw[aw];refine Mf λj=>?_;rw[f',f',f',f'];by_cases α:j < os.length
   ·rw[JN α,ho j α];rfl
   ·rw[JI (by rw[q7];omega),JI @A];rfl
theorem DH {F:Nat->Pr3->Prop} {zs:eA Pr3} {x:Pr3} (pv:∀j q,zs[j]? =aS q->F j q) (h:F zs.length x):∀j q,(zs++[x])[j]? =aS q->F j q:=λj q O=>by
 rcases Kq j zs.length with hj | hj | hj
 ·rw[oP hj] at O;exact pv j q O
 ·rw[hj,rg (mu _),LP] at O;cases iv O;rw[hj];exact h
 ·rw[JI (by rw[eH];exact hj)] at O;cases O
theorem rR {H:Hp} {a b:eA Pr3} (x:Prt H a) (y:Prt H b):Prt H (a++b):=λq O=>by
 rcases lh.mp O with h | h
 ·exact x q h
 ·exact y q h
theorem zS {H:Hp} {D:eh} {x y:Nat} (e:H D=aS (.tup [nat x,nat y])):Prt H [(D,x,y)]:=λq O=>by
 rw[fk.mp O];exact e
theorem Jb {H:Hp} {Z ι Y δ:eh} {m O ρ:Nat} {nx os:eA Pr3} (g:MaG m nx os) (α:nx.length<=12) (e:H Z=aS (.tup [nat m,.ref ι,.ref Y])) (χ:H ι=aS (.lst (refs nx++[V.ref δ]))) (γ:H δ=aS (.tup [nat O,nat ρ])) (ω:H Y=aS (.lst (refs os))) (pn:Prt H nx) (po:Prt H os) (h1:O < 2 ^ (nx.length + 1)) (h2:ρ < 2 ^ m):
  TabT H Z ι Y m (nx++[(δ,O,ρ)]) os/\M.AlkM (prs nx) (prs os) (prs (nx++[(δ,O,ρ)])) (prs os):=by
 have hl:(nx++[(δ,O,ρ)]).length=nx.length + 1:=by rw[eH];rfl
 have up:2 ^ nx.length<=2 ^ (nx.length + 1):=gs @C @A;refine⟨⟨e,g.m6,by rw[χ];unfold refs;rw[hF];rfl,ω,rR pn (zS γ),po,by rw[hl];omega,g.lo,λq β=>?_⟩,?_⟩
 ·rw[hl];rcases lh.mp β with h | h
  ·rcases lh.mp h with h | h
   ·exact⟨eF (g.bn q (oD _ h)).1 up,(g.bn q (oD _ h)).2⟩
   ·rw[fk.mp h];exact⟨h1,h2⟩
  ·exact⟨eF (g.bn q (j' _ h)).1 up,(g.bn q (j' _ h)).2⟩
 ·rw[show prs (nx++[(δ,O,ρ)])=prs nx++[(O,ρ)] from hF ..];exact M.grownA (O,ρ) g.hA
theorem Ja {H:Hp} {α ι Z δ:eh} {m:Nat} {nx os zs:eA Pr3} (g:MaG m nx os) (ε:nx.length<=12) (e:H α=aS (.tup [nat m,.ref ι,.ref Z])) (χ:H ι=aS (.lst (refs nx++[V.ref δ]))) (θ:H δ=aS (.tup [nat (2 ^ nx.length),nat 0])) (ω:H Z=aS (.lst (refs zs))) (pn:Prt H nx) (γ:Prt H zs) (ζ:zs.length=os.length)
  (hz:∀(j:Nat) (q:Pr3),zs[j]? =aS q->∃(b:Nat) (r:Pr3),os[j]? =aS r/\b<=1/\q.2=(r.2.1||| b <<< nx.length,r.2.2)):
  TabT H α ι Z m (nx++[(δ,2 ^ nx.length,0)]) zs/\M.AlkM (prs nx) (prs os) (prs (nx++[(δ,2 ^ nx.length,0)])) (prs zs):=by
 have hl:(nx++[(δ,2 ^ nx.length,0)]).length=nx.length + 1:=by rw[eH];rfl
 have up:2 ^ nx.length < 2 ^ (nx.length + 1):=rn @C @A;refine⟨⟨e,g.m6,by rw[χ];unfold refs;rw[hF];rfl,ω,rR pn (zS θ),γ,by rw[hl];omega,by rw[ζ];exact g.lo,λq O=>?_⟩,?_⟩
 ·rw[hl];rcases lh.mp O with h | h
  ·rcases lh.mp h with h | h
   ·exact⟨ME (g.bn q (oD _ h)).1 up,(g.bn q (oD _ h)).2⟩
   ·rw[fk.mp h];exact⟨up,lz _⟩
  ·obtain⟨j,η⟩:=K8 h;obtain⟨b,r,h1,h2,Y⟩:=hz j q η;have β:=g.bn r (j' _ (eO h1));rw[Y];refine⟨NG (ME β.1 up) ?_,β.2⟩;rw[KJ];exact v3 (Po _ h2) @A
 ·rw[show prs (nx++[(δ,2 ^ nx.length,0)])=prs nx++[(2 ^ nx.length,0)] from hF ..,show 2 ^ nx.length=2 ^ (prs nx).length by rw[aw]];refine M.grownB (by rw[aw];omega) g.hA (by rw[aw,aw];exact ζ) λk q O=>?_;rw[f'] at O;have hk:k < zs.length:=by rw[ζ];cases h:os[k]? with | none=>rw[h] at O;cases O | some r=>exact(dt.mp h).1
  obtain⟨b,r,h1,h2,Y⟩:=hz k _ (b' hk);rw[h1] at O;cases iv O;exact⟨b,by rw[f',b' hk,NK,Y,aw],h2⟩
theorem B6 {x i n:Nat} (hx:x < 2 ^ n) (hi:i < n):(x^^^2 ^ i)||| 2 ^ n=x^^^2 ^ i^^^2 ^ n:=by
 have h:x^^^2 ^ i < 2 ^ n:=KW hx (rn @C hi);apply kA;intro j;rw[Ml,u6 (x^^^2 ^ i),sg];by_cases O:n=j
 ·subst O;rw[lT h,hJ rfl];rfl
 ·rw[fA O,Mq,Oc]
theorem IZ {H:Hp} {γ ι β:eh} {m i:Nat} {nx os zs:eA Pr3} (g:MaG m nx os) (ε:nx.length<=12) (hi:i < nx.length) (e:H γ=aS (.tup [nat m,.ref ι,.ref β])) (ο:H ι=aS (.lst ((refs zs).take nx.length++[V.ref (zs.getD i (0,0,0)).1]))) (ω:H β=aS (.lst ((refs zs).drop nx.length))) (δ:Prt H zs) (ζ:zs.length=nx.length + os.length)
  (hz:∀(j:Nat) (q:Pr3),zs[j]? =aS q->∃(b:Nat) (r:Pr3),(nx++os)[j]? =aS r/\q.2=(b,r.2.2)/\(b=r.2.1∨b=(r.2.1^^^2 ^ i)||| 2 ^ nx.length)):
  TabT H γ ι β m (zs.take nx.length++[zs.getD i (0,0,0)]) (zs.drop nx.length)/\M.AlkM (prs nx) (prs os) (prs (zs.take nx.length++[zs.getD i (0,0,0)])) (prs (zs.drop nx.length)):=by
 have lt:(zs.take nx.length).length=nx.length:=by rw[x4];omega
 have hl:(zs.take nx.length++[zs.getD i (0,0,0)]).length=nx.length + 1:=by rw[eH,lt];rfl
 have ld:(zs.drop nx.length).length=os.length:=by rw[Kj];omega
 have ν:zs[i]? =aS (zs.getD i (0,0,0)):=by rw[ee,b' @A];rfl
 have up:2 ^ nx.length < 2 ^ (nx.length + 1):=rn @C @A
 have sub:∀q∈zs.take nx.length++[zs.getD i (0,0,0)]++zs.drop nx.length,q∈zs:=λq O=>by
  rcases lh.mp O with h | h
  ·rcases lh.mp h with h | h
   ·exact LC h
   ·rw[fk.mp h];exact eO ν
  ·exact MX h
 have Z:∀(j:Nat) (q r:Pr3),zs[j]? =aS q->(nx++os)[j]? =aS r->∃b,q.2=(b,r.2.2)/\(b=r.2.1∨b=r.2.1^^^2 ^ i^^^2 ^ nx.length):=λj q r h1 h2=>by
  obtain⟨b,r',α,ξ,θ⟩:=hz j q h1;rw[h2] at α;cases iv α;rw[B6 (g.bn r (eO h2)).1 hi] at θ;exact⟨b,ξ,θ⟩
 refine⟨⟨e,g.m6,by rw[ο];unfold refs;rw[hF,M4];rfl,by rw[ω];unfold refs;rw[MD],λq O=>δ q (sub q (oD _ O)),λq O=>δ q (sub q (j' _ O)),by rw[hl];omega,by rw[ld];exact g.lo,λq O=>?_⟩,?_⟩
 ·rw[hl];obtain⟨j,η⟩:=K8 (sub q O);obtain⟨b,r,h1,h2,α⟩:=hz j q η;have Y:=g.bn r (eO h1);rw[h2];refine⟨?_,Y.2⟩;rcases α with rfl | rfl
  ·exact ME Y.1 up
  ·exact NG (KW (ME Y.1 up) (rn @C @A)) up
 ·refine M.grownC (i:=i) (by rw[aw];omega) (by rw[aw];exact hi) g.hA (by rw[aw,aw];exact hl) (by rw[aw,aw];exact ld) ?_ (λk q O=>?_) λk q O=>?_
  ·rw[aw,f',f',rg @A,lt,LP,oP @A,Nh,px hi,ν];rfl
  ·rw[aw];rw[f'] at O;obtain⟨r,Y,rfl⟩:=K7.mp O;have hk:=(dt.mp Y).1;have χ:zs[k]? =aS (zs[k]' @A):=b' @A;obtain⟨b,h1,h2⟩:=Z k _ r χ (by rw[oP hk];exact Y);exact⟨b,by rw[f',oP @A,Nh,px hk,χ,NK,h1],h2⟩
  ·rw[aw];rw[f'] at O;obtain⟨r,Y,rfl⟩:=K7.mp O;have hk:=(dt.mp Y).1;have χ:zs[nx.length + k]? =aS (zs[nx.length + k]' @A):=b' @A;obtain⟨b,h1,h2⟩:=Z (nx.length + k) _ r χ (by rw[rg @A,show nx.length + k - nx.length=k by omega];exact Y);exact⟨b,by rw[f',La,χ,NK,h1],h2⟩
def rK (pos:Pos) (PT:eh) (K:aT):Sp:=λvs H Q _=>∃(p:eh) (ns:I8),vs=[.ref p]/\SqL K H p (ns.map V.int)/\ns.length<=63/\LM.TabL pos lamQ PT H/\∀H',Q (.bl true) H'
structure Ok62 (H:Hp) (C x:eh) (m:Nat) (nx os:eA Pr3):Prop where
 ex:∃nxk osk:eA Pr3,MaA H C x m nxk osk/\MaG m nxk osk/\nxk.length<=16/\osk.length=os.length/\∀rs,(∀r∈rs,r < 2 ^ m)->M.wan (prs nx) (prs os) 0 rs=M.wan (prs nxk) (prs osk) 0 rs
theorem uE (l:eA Pr3):eqD (.lst (l.map ye)) (.lst [])=l.isEmpty:=by
 cases l with
 | nil=>rfl
 | cons q l=>simp[eqD,eqDs]
theorem HH (l:eA Pr3):depD (.lst (l.map ye))<=100:=by
 have:=uF l;simp only[depD];omega
theorem BG {K:aT} {H:Hp} {Q:VK} {D E:eh} {l:eA Pr3} (e:H D=aS (.lst (refs l))) (pt:Prt H l) (e':H E=aS (.lst [])) (h:Q (.bl (!l.isEmpty)) H):rEqD K true (.ref D) (.ref E) H Q:=by
 refine BK (e:= .lst []) (tU e pt) (.lst (SqL.of e') rfl λi x d h=>by simp at h) (HH l) ?_;rw[uE];exact h
def CoN (ob:Nat->HO) (H1:Hp) (D:eh) (i:Nat) (ys:eA V) (H:Hp):Prop:=∃ds:G',ys=ds.map V.ref/\ds.length=i/\(∀(j:Nat) (d:eh),ds[j]? =aS d->H d=aS (ob j))/\(∀d∈ds,H1 d=eC/\d≠D)/\Same H1 H/\H D=aS (.lst ys)/\ds.Nodup
theorem CoN.co {ob:Nat->HO} {H1:Hp} {D:eh} {i:Nat} {ys:eA V} {H:Hp} (c:CoN ob H1 D i ys H):Co ob H1 D i ys H:=by
 obtain⟨ds,h1,h2,Y,O,θ,δ,_⟩:=c;exact⟨ds,h1,h2,Y,O,θ,δ⟩
theorem xy {ob:Nat->HO} {H1:Hp} {D:eh} (O:H1 D=eC):CoN ob H1 D 0 [] (upd H1 D (.lst [])):=⟨[],rfl,rfl,λj d h=>(by simp at h),λ_ h=>(by cases h),eX O,aQ,List.nodup_nil⟩
theorem BP {O bs:G'} (h:O.map V.ref=bs.map V.ref):O=bs:=by
 induction O generalizing bs with
 | nil=>cases bs with
   | nil=>rfl
   | cons b bs=>simp at h
 | cons a O ih=>cases bs with
   | nil=>simp at h
   | cons b bs=>
     rw[z0,z0] at h;injection h with h1 h2
     injection h1 with h1
     rw[h1,ih h2]
theorem A6 {ob:Nat->HO} {H1 H O:Hp} {D t:eh} {i:Nat} {ys:eA V} (β:H1 D=eC) (c:CoN ob H1 D i ys H) (Z:Same H O) (ft:H t=eC) (et:O t=aS (ob i)) (hi:i < 1000):O D=aS (.lst ys)/\ys.length < hH/\CoN ob H1 D (i + 1) (ys++[.ref t]) (upd O D (.lst (ys++[.ref t]))):=by
 obtain⟨x1,x2,Y⟩:=rF β c.co Z ft et hi;obtain⟨ds,rfl,h2,ε,ξ,θ,δ,γ⟩:=c;refine⟨x1,x2,?_⟩;obtain⟨es,g1,g2,ν,ι,η,ζ⟩:=Y;have e:es=ds++[t]:=BP (by rw[hF];exact g1.symm);refine⟨es,g1,g2,ν,ι,η,ζ,?_⟩;rw[e,Ln];refine⟨γ,@E,λa ha b hb=>?_⟩;rw[fk.mp hb];obtain⟨j,α⟩:=K8 ha;exactλz=>by have:=ε j a α;rw[z,ft] at this;cases this
structure AlkN (H0 H:Hp) (t Ds Db Du:eh) (ts bs us:G') (m:Nat) (p1 p2:A'):Prop extends AlkA H t Ds Db Du ts bs us m p1 p2 where
 fs:H0 Ds=eC
 fb:H0 Db=eC
 fu:H0 Du=eC
 ne:[Ds,Db,Du].Nodup
 nd:(bs++us).Nodup
 fr:∀a∈bs++us,H0 a=eC/\a≠Ds/\a≠Db/\a≠Du
def zm (C B:eh):Sp:=λvs H Q E=>∃(p1 p2:eh) (φ β:Nat) (α Y Z O:eA Pr3),vs=[.ref p1,.ref p2]/\MaA H C p1 φ α Y/\MaG φ α Y/\MaA H C p2 β Z O/\MaG β Z O/\α.length + Z.length<=60/\
 ((φ≠β∨Y.length≠O.length)->∀H2,Same H H2->E (.ref B) eC H2)/\
 (φ=β->Y.length=O.length->M.Al (prs α) (prs Y) (prs Z) (prs O) φ (α.length + Z.length + 1)->∀(t η χ γ:eh) (ts bs us:G') (H2:Hp),Same H H2->AlkN H H2 t η χ γ ts bs us φ (prs α) (prs Z)->Q (.ref t) H2)/\
 (φ=β->Y.length=O.length->∀w t,Fun2 (prs α) (prs Y) (prs Z) (prs O) φ w t->∀(tt:eh) (H2:Hp),Same H H2->H2 tt=aS (.tup [.str "apart",nat w,nat t])->Q (.ref tt) H2)
def xS:Sp:=λvs H Q _=>∃(t n o:eh) (m:Nat) (nx os:eA Pr3) (c:Int),vs=[.ref t,.int c]/\TabT H t n o m nx os/\
 ∀(α Y o2:eh) (H2:Hp) (Z O:eA Pr3),Same H H2->TabT H2 α Y o2 m Z O->Z.length=nx.length->O.length=os.length->Q (.ref α) H2
def vq (pos:Pos) (P:eh) (K:aT):Sp:=λvs H Q _=>∃(p t n o:eh) (ns:I8) (m:Nat) (nx os:eA Pr3),vs=[.ref p,.ref t]/\SqL K H p (ns.map V.int)/\TabT H t n o m nx os/\nx.length<=16/\LM.TabL pos lamQ P H/\
 ∀(α Y o2:eh) (H2:Hp) (β:Nat) (O Z:eA Pr3),But P H H2->LM.TabL pos lamQ P H2->TabT H2 α Y o2 β O Z->O.length<=16->Q (.ref α) H2
theorem BJ {K:aT} {H:Hp} {Q:VK} {D E:eh} {l:eA Pr3} (e:H D=aS (.lst (refs l))) (pt:Prt H l) (e':H E=aS (.lst [])) (h:Q (.bl l.isEmpty) H):rEqD K false (.ref D) (.ref E) H Q:=by
 refine BK (e:= .lst []) (tU e pt) (.lst (SqL.of e') rfl λi x d h=>by simp at h) (HH l) ?_;rw[uE];exact h
theorem HM {H:Hp} {δ ι γ Y:eh} {m i x y:Nat} {nx os:eA Pr3} (g:MaG m nx os) (hi:i < nx.length + os.length) (hx:x < 2 ^ nx.length) (hy:y < 2 ^ m) (e:H δ=aS (.tup [nat m,.ref ι,.ref γ])) (χ:H ι=aS (.lst ((((refs (nx++os)).take i++[V.ref Y])++(refs (nx++os)).drop (i + 1)).take nx.length))) (ω:H γ=aS (.lst ((((refs (nx++os)).take i++[V.ref Y])++(refs (nx++os)).drop (i + 1)).drop nx.length))) (θ:H Y=aS (.tup [nat x,nat y])) (pt:Prt H (nx++os)):
  ∃α Z:eA Pr3,TabT H δ ι γ m α Z/\α.length=nx.length/\Z.length=os.length:=by
 have hl:i < (nx++os).length:=by rw[eH];exact hi
 have es:∀L:eA Pr3,i < L.length->((refs L).take i++[V.ref Y])++(refs L).drop (i + 1)=refs (L.set i (Y,x,y)):=λL η=>by
  rw[List.set_eq_take_append_cons_drop,px η];unfold refs;rw[hF,z0,M4,MD,Lq];rfl
 rw[es _ hl] at χ ω;generalize β:(nx++os).set i (Y,x,y)=zs at χ ω;have ζ:zs.length=nx.length + os.length:=by rw[<-β,Ql,eH]
 have hm:∀q∈zs,q∈nx++os∨q=(Y,x,y):=λq O=>by rw[<-β] at O;exact List.mem_or_eq_of_mem_set O
 have ε:Prt H zs:=λq O=>by
  rcases hm q O with h | h
  ·exact pt q h
  ·rw[h];exact θ
 have lt:(zs.take nx.length).length=nx.length:=by rw[x4];omega
 have ld:(zs.drop nx.length).length=os.length:=by rw[Kj];omega
 refine⟨zs.take nx.length,zs.drop nx.length,⟨e,g.m6,by rw[χ];unfold refs;rw[M4],by rw[ω];unfold refs;rw[MD],λq O=>ε q (LC O),λq O=>ε q (MX O),by rw[lt];exact g.ln,by rw[ld];exact g.lo,λq O=>?_⟩,lt,ld⟩;rw[lt];rw[MR] at O;rcases hm q O with h | h
 ·exact g.bn q h
 ·rw[h];exact⟨hx,hy⟩
noncomputable def low (c:Nat):Bool:=decide (97<=c)&&decide (c<=122)
noncomputable def fig (c:Nat):Bool:=decide (48<=c)&&decide (c<=57)
noncomputable def nm (l:D'):Bool:=match l with
 | []=>false
 | c::r=>decide ((c::r).length<=6)&&low c&&(c::r).all λc=>low c||fig c
def Nm (z:u3):Prop:=nm z.cps.toList=true
structure Nt where
 ins:C'
 sums:eA (u3×eA u3)
 sts:eA (u3×u3)
 outs:C'
noncomputable def Nt.names (N:Nt):C':=N.ins++N.sums.map (·.1)++N.sts.map (·.1)
structure Gn (N:Nt):Prop where
 li:N.ins.length<=6
 ls:N.sums.length<=40
 lt:N.sts.length<=16
 lo:N.outs.length<=6
 lw:∀r∈N.sums,r.2.length<=24
 nm:∀z∈N.names,Nm z
 nd:N.names.Nodup
 ws:∀r∈N.sums,∀z∈r.2,z∈N.names
 ts:∀r∈N.sts,r.2∈N.names
 os:∀z∈N.outs,z∈N.names
 rk:∃rank:u3->Nat,∀r∈N.sums,∀z∈r.2,z∈N.sums.map (·.1)->rank z < rank r.1
structure Topo (sums:eA (u3×eA u3)) (od:C'):Prop where
 perm:od.Perm (sums.map (·.1))
 need:∀(i:Nat) z,od[i]? =aS z->∀ws,(z,ws)∈sums->∀y∈ws,y∈sums.map (·.1)->y∈od.take i
noncomputable abbrev Rw:=eh×eh×u3×eA u3
noncomputable abbrev Qs:=eh×u3×u3
structure Hnd (H:Hp) (i s t o:eh) (rs:eA Rw) (qs:eA Qs) (N:Nt):Prop where
 i:H i=aS (.lst (N.ins.map V.str))
 s:H s=aS (.lst (rs.map λr=>V.ref r.1))
 sr:∀r∈rs,H r.1=aS (.tup [.str r.2.2.1,.ref r.2.1])/\H r.2.1=aS (.lst (r.2.2.2.map V.str))
 es:rs.map (·.2.2)=N.sums
 t:H t=aS (.lst (qs.map λq=>V.ref q.1))
 tr:∀q∈qs,H q.1=aS (.tup [.str q.2.1,.str q.2.2])
 et:qs.map (·.2)=N.sts
 o:H o=aS (.lst (N.outs.map V.str))
structure Kpt (H:Hp) (i s t o:eh) (rs:eA Rw) (qs:eA Qs) (N:Nt):Prop where
 i:H i=aS (.tup (N.ins.map V.str))
 s:H s=aS (.tup (rs.map λr=>V.ref r.1))
 sr:∀r∈rs,H r.1=aS (.tup [.str r.2.2.1,.ref r.2.1])/\H r.2.1=aS (.tup (r.2.2.2.map V.str))
 es:rs.map (·.2.2)=N.sums
 t:H t=aS (.tup (qs.map λq=>V.ref q.1))
 tr:∀q∈qs,H q.1=aS (.tup [.str q.2.1,.str q.2.2])
 et:qs.map (·.2)=N.sts
 o:H o=aS (.tup (N.outs.map V.str))
inductive Wob (H:Hp) (CI CS CT:eh) (N:Nt) (z:u3) (w:eh):Prop where
 | i (k:Nat) (dx:eh) (hk:N.ins[k]? =aS z) (e:H w=aS (.ins CI dx [("name",.str z),("number",nat k)])):Wob H CI CS CT N z w
 | s (ws:C') (dx tw:eh) (hk:(z,ws)∈N.sums) (e:H w=aS (.ins CS dx [("name",.str z),("wires",.ref tw)])) (et:H tw=aS (.tup (ws.map V.str))):Wob H CI CS CT N z w
 | t (k:Nat) (y:u3) (dx:eh) (hk:N.sts[k]? =aS (z,y)) (e:H w=aS (.ins CT dx [("name",.str z),("wire",.str y),("number",nat k)])):Wob H CI CS CT N z w
structure WiA (H:Hp) (CI CS CT d:eh) (N:Nt) (ws:J5):Prop where
 d:H d=aS (.dK (ws.map λq=>(MK q.1,V.ref q.2)))
 nm:ws.map (·.1)=N.names
 ob:∀q∈ws,Wob H CI CS CT N q.1 q.2
structure WL (H0 H:Hp) (CI CS CT:eh) (N:Nt) (D:eh) (ys:eA V) (zs:C') (ws:J5):Prop where
 ey:ys=ws.map λq=>V.ref q.2
 nm:ws.map (·.1)=zs
 ob:∀q∈ws,Wob H CI CS CT N q.1 q.2
 same:Same H0 H
 d:H D=aS (.lst ys)
structure Otp (sums:eA (u3×eA u3)) (od:C') (lf:eA (u3×eA u3)):Prop where
 perm:(od++lf.map (·.1)).Perm (sums.map (·.1))
 sub:∀r∈lf,r∈sums
 need:∀(i:Nat) z,od[i]? =aS z->∀ws,(z,ws)∈sums->∀y∈ws,y∈sums.map (·.1)->y∈od.take i
structure NetA (H:Hp) (C CI CS CT p:eh) (N:Nt) (od:C'):Prop where
 ho:∃(dx i s t o d tq:eh) (rs:eA Rw) (qs:eA Qs) (ws:J5),H p=aS (.ins C dx [("ins",.ref i),("sums",.ref s),("kept_stores",.ref t),("outs",.ref o),("by_name",.ref d),("sum_order",.ref tq)])/\Kpt H i s t o rs qs N/\WiA H CI CS CT d N ws/\H tq=aS (.tup (od.map V.str))
 g:Gn N
 tp:Topo N.sums od
def RwK (H:Hp) (rs:eA Rw):Prop:=∀r∈rs,H r.1=aS (.tup [.str r.2.2.1,.ref r.2.1])/\H r.2.1=aS (.tup (r.2.2.2.map V.str))
def QsK (H:Hp) (ι:eA Qs):Prop:=∀q∈ι,H q.1=aS (.tup [.str q.2.1,.str q.2.2])
noncomputable def xb (f:J1) (ws:C'):Bool:=ws.foldl (λa w=>a^^f w) false
structure Val (N:Nt) (row st:Nat) (f:J1):Prop where
 i:∀(k:Nat) z,N.ins[k]? =aS z->f z=row.testBit k
 t:∀(k:Nat) z y,N.sts[k]? =aS (z,y)->f z=st.testBit k
 s:∀z ws,(z,ws)∈N.sums->f z=xb f ws
noncomputable def mat (f:J1) (ws:C'):Nat:=M.pk (λk=>f (ws.getD k "")) 0 ws.length
noncomputable def fv (N:Nt) (O st:Nat):J1:=OW (Val N O st)
noncomputable def nst (N:Nt) (O st:Nat):Nat:=mat (fv N O st) (N.sts.map (·.2))
noncomputable def rst (N:Nt):Nat->D'->Nat
 | st,[]=>st
 | st,r::rs=>rst N (nst N r st) rs
noncomputable def need (N:Nt) (od:C'):C':=N.ins++N.sts.map (·.1)++od
structure Pre (N:Nt) (row st:Nat) (pre:C') (f:J1):Prop where
 i:∀(k:Nat) z,N.ins[k]? =aS z->z∈pre->f z=row.testBit k
 t:∀(k:Nat) z y,N.sts[k]? =aS (z,y)->z∈pre->f z=st.testBit k
 s:∀z ws,(z,ws)∈N.sums->z∈pre->f z=xb f ws/\∀w∈ws,w∈pre
structure Bt (N:Nt) (row st:Nat) (pre:C') (f:J1) (z:u3) (v:JC):Prop where
 i:∀k:Nat,N.ins[k]? =aS z->v=row.testBit k
 t:∀(k:Nat) y,N.sts[k]? =aS (z,y)->v=st.testBit k
 s:∀ws,(z,ws)∈N.sums->v=xb f ws/\∀w∈ws,w∈pre
section
variable {N:Nt} (g:Gn N)
include g
variable {od:C'} (tp:Topo N.sums od)
include tp
end
noncomputable abbrev NP:=Hp->eh->Nt->C'->Prop
structure RunA (NA:NP) (H:Hp) (C p l n:eh) (N:Nt) (od:C') (st:Nat) (as:D'):Prop where
 ho:∃(dx d:eh),H p=aS (.ins C dx [("net",.ref n),("held",nat st),("bits",.ref d),("given",.ref l)])
 hl:H l=aS (.lst (as.map nat))
 na:NA H n N od
noncomputable def mixV (c k:Int):Int:=((c % 2147483647 * 48271 + 7919 * k + 11) % 2147483647 * ((c % 2147483647 * 48271 + 7919 * k + 11) % 2147483647) % 2147483629) * ((c % 2147483647 * 48271 + 7919 * k + 11) % 2147483647 * ((c % 2147483647 * 48271 + 7919 * k + 11) % 2147483647) % 2147483629 + 48271 * k + 7) % 2147483587
noncomputable def Ej:Str:=("cut x x0 x1 fresh new zero none nil tmp c c0 cut0 cut1 gnd off in out sum store":u3)++(" i0 i1 s0 s1 n0 n1 o0 o1 net wire a b z y0 t0 w w0 k dead open":u3)
noncomputable def W40:C':=Txt.split Ej " "
noncomputable def tx (n:Nat):Str:=(toString (n:Int):Jy)
noncomputable def nmf (c k:Int):Str:=if mixV c 402 % 2=0 then W40.getD ((k + mixV c 403) % 40).toNat "" else (⟨#[97 + (mixV c 400 % 26).toNat]⟩:u3)++tx ((mixV c 401 % 1000).toNat + 37 * k.toNat)
noncomputable def nms (c:Int) (a n:Nat):C':=(hE n).map λk=>nmf c ((a + k:Nat):Int)
structure Mk (c:Int) (ni nt:Nat) (rows:eA (u3×eA u3)):Prop where
 nm:rows.map (·.1)=nms c 22 rows.length
 ws:∀(k:Nat) r,rows[k]? =aS r->r.2.length<=4/\∀w∈r.2,w∈nms c 0 ni++nms c 6 nt++nms c 22 k
noncomputable def xf (f:u3->Nat) (ws:C'):Nat:=ws.foldl (λa w=>a^^^f w) 0
structure Hng (N:Nt) (p:u3->Nat×Nat):Prop where
 i:∀(k:Nat) z,N.ins[k]? =aS z->p z=(0,2 ^ k)
 t:∀(k:Nat) z y,N.sts[k]? =aS (z,y)->p z=(2 ^ k,0)
 s:∀z ws,(z,ws)∈N.sums->p z=(xf (λw=>(p w).1) ws,xf (λw=>(p w).2) ws)
noncomputable def hgp (N:Nt) (z:u3):Nat×Nat:=(M.pk (λk=>fv N 0 (2 ^ k) z) 0 N.sts.length,M.pk (λk=>fv N (2 ^ k) 0 z) 0 N.ins.length)
section
variable {N:Nt} (g:Gn N) {od:C'} (tp:Topo N.sums od) {p:u3->Nat×Nat} (h:Hng N p)
include g tp h
end
structure Hgd (H:Hp) (d:eh) (N:Nt) (zs:C') (hs:J5):Prop where
 d:H d=aS (.dK (hs.map λq=>(MK q.1,V.ref q.2)))
 nm:hs.map (·.1)=zs
 ob:∀q∈hs,H q.2=aS (.tup [nat (hgp N q.1).1,nat (hgp N q.1).2])
structure Sml (m:Nat) (ps os:A'):Prop where
 m6:m<=6
 lp:ps.length<=16
 lo:os.length<=6
 bn:∀q∈ps++os,q.1 < 2 ^ ps.length/\q.2 < 2 ^ m
section
variable {m:Nat} {ps os:A'} (b:Sml m ps os)
include b
end
section
variable {m:Nat} {ps os:A'} (b:Sml m ps os)
include b
end
structure Sgl (H:Hp) (D:eh) (ds:G') (ps os:A') (n m:Nat):Prop where
 d:H D=aS (.lst (ds.map V.ref))
 len:ds.length=m
 at':∀(w:Nat) (d:eh),ds[w]? =aS d->H d=aS (.lst ((M.wan ps os 0 (M.pulse w n)).map nat))
structure TldA (H:Hp) (t D1 D2 D3 D4:eh) (rs:eA Rw) (qs:eA Qs) (N:Nt):Prop where
 t:H t=aS (.tup [.ref D1,.ref D2,.ref D3,.ref D4])
 i:H D1=aS (.lst (N.ins.map V.str))
 s:H D2=aS (.lst (rs.map λr=>V.ref r.1))
 sr:RwK H rs
 es:rs.map (·.2.2)=N.sums
 st:H D3=aS (.lst (qs.map λr=>V.ref r.1))
 tr:QsK H qs
 et:qs.map (·.2)=N.sts
 o:H D4=aS (.lst (N.outs.map V.str))
noncomputable def J (c:Nat):eA D'->D'
 | []=>[]
 | [x]=>x
 | x::y::r=>x++c::J c (y::r)
inductive Fm:C'->Prop where
 | i (z:u3) (h:Nm z):Fm ["in",z]
 | o (z:u3) (h:Nm z):Fm ["out",z]
 | s (z:u3) (ws:C') (h:Nm z) (hw:∀w∈ws,Nm w) (l:ws.length<=24):Fm ("sum"::z::"="::ws)
 | t (z y:u3) (h:Nm z) (hy:Nm y):Fm ["store",z,"=",y]
inductive Scl:V->Jy->Prop where
 | str (z:u3) (l:z.length<=1000):Scl (.str z) "str"
 | int (i:Int):Scl (.int i) "int"
 | bl (b:JC):Scl (.bl b) "bool"
 | non:Scl .non "NoneType"
structure Hnd2 (H:Hp) (i s t o:eh) (rs:eA Rw) (qs:eA Qs) (N:Nt):Prop where
 i:H i=aS (.lst (N.ins.map V.str))
 s:H s=aS (.lst (rs.map λr=>V.ref r.1))
 sr:∀r∈rs,H r.1=aS (.tup [.str r.2.2.1,.ref r.2.1])/\(H r.2.1=aS (.lst (r.2.2.2.map V.str))∨H r.2.1=aS (.tup (r.2.2.2.map V.str)))
 es:rs.map (·.2.2)=N.sums
 t:H t=aS (.lst (qs.map λq=>V.ref q.1))
 tr:∀q∈qs,H q.1=aS (.tup [.str q.2.1,.str q.2.2])
 et:qs.map (·.2)=N.sts
 o:H o=aS (.lst (N.outs.map V.str))
inductive Thg (H:Hp):V->Jy->Prop where
 | sc {v:V} {k:Jy} (s:Scl v k):Thg H v k
 | nil {p:eh} (e:H p=aS (.lst [])):Thg H (.ref p) "list"
inductive Cpy (H H2:Hp):V->V->Prop where
 | sc {v:V} {k:Jy} (s:Scl v k):Cpy H H2 v v
 | nil {p p2:eh} (e:H p=aS (.lst [])) (e2:H2 p2=aS (.lst [])):Cpy H H2 (.ref p) (.ref p2)
inductive Thg2 (H:Hp):V->Jy->Prop where
 | sc {v:V} {k:Jy} (s:Scl v k):Thg2 H v k
 | nil {p:eh} (e:H p=aS (.lst [])):Thg2 H (.ref p) "list"
 | one {p:eh} {z:u3} (l:z.length<=1000) (e:H p=aS (.tup [.str z])):Thg2 H (.ref p) "tuple"
inductive Cpy2 (H H2:Hp):V->V->Prop where
 | sc {v:V} {k:Jy} (s:Scl v k):Cpy2 H H2 v v
 | nil {p p2:eh} (e:H p=aS (.lst [])) (e2:H2 p2=aS (.lst [])):Cpy2 H H2 (.ref p) (.ref p2)
 | one {p p2:eh} {z:u3} (e:H p=aS (.tup [.str z])) (e2:H2 p2=aS (.tup [.str z])):Cpy2 H H2 (.ref p) (.ref p2)
noncomputable def cz (w:u3) (q:u3->Nat×Nat) (x:u3):Nat×Nat:=if x=w then (0,0) else q x
structure CutP (N:Nt) (w:u3) (q:u3->Nat×Nat):Prop where
 i:∀(k:Nat) z,N.ins[k]? =aS z->q z=(0,2 ^ k)
 t:∀(k:Nat) z y,N.sts[k]? =aS (z,y)->q z=(2 ^ k,0)
 s:∀z ws,(z,ws)∈N.sums->q z=(xf (λx=>(cz w q x).1) ws,xf (λx=>(cz w q x).2) ws)
noncomputable def ext (f:u3) (q:u3->Nat×Nat) (z:u3):Nat×Nat:=if z=f then (0,0) else q z
noncomputable def frn (k:Nat):Str:=("c":u3)++tx k
noncomputable def x1 (O:eA Pr3):Nat:=O.foldl (λa g=>a^^^g.2.1) 0
noncomputable def x2 (O:eA Pr3):Nat:=O.foldl (λa g=>a^^^g.2.2) 0
theorem y1 (O:eA Pr3) (g:Pr3):x1 (O++[g])=x1 O^^^g.2.1:=by unfold x1;rw[Lp];rfl
theorem yZ (O:eA Pr3) (g:Pr3):x2 (O++[g])=x2 O^^^g.2.2:=by unfold x2;rw[Lp];rfl
theorem FH {rows:D'} (I:M.Inj rows) {q:Nat} (hq:q < 2 ^ rows.length):M.Frs rows q:=λi hi=>by
 have ξ:i < rows.length:=by
  refine Qh λh=>?_;rw[lT (eF hq (gs @C h))] at hi;cases hi
 refine⟨ξ,λsp=>?_⟩;have lt:(rows.take i).length=i:=by rw[x4];omega
 obtain⟨p,hp,e⟩:=M.span_sm sp;rw[lt] at hp
 have e1:M.sm rows p=M.sm (rows.take i) p:=by
  have:=M.sm_append (rows.take i) (rows.drop i) p;rw[MR,lt,Qj hp,M.sm_zero,K3] at this;exact this
 have Y:M.sm rows (p^^^2 ^ i)=0:=by
  rw[M.sm_xor,M.sm_two_pow,e1,e,L7]
 have O:=I (p^^^2 ^ i) (eF (M.lt_more hp) (gs @C ξ)) Y;exact(M.log2_more hp).1 O
theorem zc {rows:D'} (I:M.Inj rows) {x:Nat} (h:M.Span rows x):Sumd rows x (sfq rows x):=by
 obtain⟨q,O,e⟩:=M.span_sm h;have sd:Sumd rows x q:=⟨O,e,FH I O⟩;rw[<-zv sd];exact sd
noncomputable def gat (n:Nat) (ts:G') (rows:D') (ks:D'):eA Pr3:=ks.map λk=>(ts.getD k 0,M.lo n (rows.getD k 0),rows.getD k 0>>>n)
theorem FD (n:Nat) (ts:G') (rows:D'):∀ks:D',x1 (gat n ts rows ks)=M.lo n (ks.foldl (λa k=>a^^^rows.getD k 0) 0)/\x2 (gat n ts rows ks)=(ks.foldl (λa k=>a^^^rows.getD k 0) 0)>>>n:=by
 intro ks
 induction ks using M.rev_ind with
 | h0=>
   refine⟨?_,?_⟩
   ·show 0=M.lo n 0;unfold M.lo;rw[M3]
   ·show 0=0>>>n;rw[Nd]
 | h1 l k ih=>
   have e:gat n ts rows (l++[k])=gat n ts rows l++[(ts.getD k 0,M.lo n (rows.getD k 0),rows.getD k 0>>>n)]:=by unfold gat;rw[hF];rfl
   rw[e,y1,yZ,ih.1,ih.2,Lp];exact⟨(M.lo_xor _ _ _).symm,(M.hi_xor _ _ _).symm⟩
theorem FE {n:Nat} {ts:G'} {rows:D'} {x q:Nat} (hl:rows.length<=1000) (sd:Sumd rows x q):x1 (gat n ts rows (M.pl 1000 q))=M.lo n x/\x2 (gat n ts rows (M.pl 1000 q))=x>>>n:=by
 have h:=FD n ts rows (M.pl 1000 q);rw[M.sm_places rows q sd.lt 1000 hl,sd.sm] at h;exact h
theorem Hw {O β Y α:eA Pr3} {m x r:Nat} (ts:G') (j:M.Jo (prs O) (prs Y)) (hl:O.length + Y.length<=60) (al:M.Al (prs O) (prs β) (prs Y) (prs α) m (O.length + Y.length + 1)) (hx:x=0∨x∈M.prs2 (prs O) (prs Y) m) (δ:r < 2 ^ m):
  M.tr2 (prs β) (M.lo O.length x) r=M.tr2 (prs α) (x>>>O.length) r/\
  x1 (gat O.length ts (M.prs2 (prs O) (prs Y) m) (M.pl 1000 (sfq (M.prs2 (prs O) (prs Y) m) (M.tr2 (M.jn (prs O) (prs Y)) x r))))=M.tr2 (prs O) (M.lo O.length x) r/\
  x2 (gat O.length ts (M.prs2 (prs O) (prs Y) m) (M.pl 1000 (sfq (M.prs2 (prs O) (prs Y) m) (M.tr2 (M.jn (prs O) (prs Y)) x r))))=M.tr2 (prs Y) (x>>>O.length) r:=by
 have τ:M.Span (M.prs2 (prs O) (prs Y) m) x:=by
  rcases hx with rfl | h
  ·exact M.span_zero _
  ·exact M.mem_span h
 have γ:x < 2 ^ ((prs O).length + (prs Y).length):=by
  rcases hx with rfl | h
  ·exact lz _
  ·exact M.prs2_lt h
 have few:=M.prs2_few (prs O) (prs Y) m;rw[aw,aw] at few;have sd:=zc (M.fR_inj _) (oZ (q:=0) hx δ:M.Span (M.prs2 (prs O) (prs Y) m) _);have ga:=FE (n:=O.length) (ts:=ts) (rows:=M.prs2 (prs O) (prs Y) m) @A sd;have Z:=j.tr' (r:=r) γ;rw[aw] at Z;refine⟨?_,?_,?_⟩
 ·have h:=(M.prs2_span _ _ _ _).mp τ;have:=M.Al.all j (by rw[aw,aw];exact al) h δ;rw[aw] at this;exact this
 ·refine ga.1.trans ?_;rw[Z];exact M.lo_of (by have:=M.tr2_lt (prs O) (M.lo O.length x) r;rwa [aw] at this)
 ·refine ga.2.trans ?_;rw[Z];exact M.parts_high (by have:=M.tr2_lt (prs O) (M.lo O.length x) r;rwa [aw] at this)
structure Nts (NA:NP) (H:Hp) (p1 p2:eh) (N N2:Nt) (od od2:C'):Prop where
 a1:NA H p1 N od
 a2:NA H p2 N2 od2
 li:N2.ins.length=N.ins.length
 lt:N2.sts.length=N.sts.length
structure Tldm (H:Hp) (D:eh) (ps:eA (eh×Nat)) (m T:Nat):Prop where
 d:H D=aS (.lst (ps.map λq=>V.ref q.1))
 at':∀q∈ps,H q.1=aS (.lst ((M.upk m q.2 T).map nat))
 ne:∀q∈ps,q.1≠D
noncomputable def swy (ps os:A') (m:Nat) (O:D'):D':=(M.fr ((M.acr (M.rowsJ ps os O) (ps.length + m)).map (· % 2 ^ ps.length))).map λi=>(M.acr (M.rowsJ ps os O) (ps.length + m)).getD i 0
noncomputable def evj (ps os:A') (m:Nat):Nat->D'×eA Nat
 | 0=>([],swy ps os m [])
 | j + 1=>(M.acr ((evj ps os m j).2.map (· % 2 ^ ps.length)) ps.length,swy ps os m (M.acr ((evj ps os m j).2.map (· % 2 ^ ps.length)) ps.length))
structure Fev (ps os:A') (m:Nat) (bars ways:D'):Prop where
 ex:∃j,M.Slp ps os m j bars ways/\ps.length<=ways.length + bars.length
 un:∃j,(bars,ways)=evj ps os m j/\ps.length<=ways.length + bars.length/\∀i,i < j->(evj ps os m i).2.length + (evj ps os m i).1.length < ps.length
noncomputable def fsts (ps os:A') (m:Nat) (O:D'):D':=M.acr (os.map (·.2)++O.map (M.sm (ps.map (·.2)))) m
structure Nev (H H2:Hp) (t B S I L:eh) (ps os:A') (m u:Nat) (bars ways:D') (bq:Nat) (ls:eA (eh×Nat)):Prop where
 ht:H2 t=aS (.tup [.str "never",nat u,.ref B,.ref S,.ref I,.ref L])
 hb:H2 B=aS (.lst ((M.pl 1000 bq).map nat))
 hs:H2 S=aS (.lst ((ways.map (· % 2 ^ ps.length)).map nat))
 hi:H2 I=aS (.lst ((ways.map (·>>>ps.length)).map nat))
 hl:H2 L=aS (.lst (ls.map λq=>V.ref q.1))
 el:∀q∈ls,H2 q.1=aS (.lst ((M.pl 1000 q.2).map nat))
 fB:H B=eC
 fS:H S=eC
 fI:H I=eC
 fL:H L=eC
 ne:[B,S,I,L].Nodup
 nl:∀q∈ls,q.1∉[B,S,I,L]
 fev:Fev ps os m bars ways
 hu:(fsts ps os m bars)[0]? =aS u
 u0:u≠0
 ul:u < 2 ^ m
 ev:M.tr2 os 0 u=0/\∀b∈bars,M.od (b&&&M.tr2 ps 0 u)=false
 bs:Sumd (ways.map (· % 2 ^ ps.length)) (M.tr2 ps 0 u) bq
 ll:ls.length=ways.length
 ss:∀(k w:Nat) (q:eh×Nat),ways[k]? =aS w->ls[k]? =aS q->Sumd (ways.map (· % 2 ^ ps.length)) (M.tr2 ps (w % 2 ^ ps.length) (w>>>ps.length)) q.2
end Sx
namespace M
end M
namespace Sx
open PySem L2
def Osm (ps os:A') (m d i:Nat):Prop:=M.Span ((M.tol ps os m (d + 1)).set i 0) ((M.tol ps os m (d + 1)).getD i 0)
def Slt (ps os:A') (m d:Nat) (rs:D'):Prop:=∃i q,i < m/\(∀k,k < i->¬Osm ps os m d k)/\Sumd ((M.tol ps os m (d + 1)).set i 0) ((M.tol ps os m (d + 1)).getD i 0) q/\rs=M.upk m (q^^^2 ^ i) (d + 1)
end Sx
namespace M
end M
namespace Sx
open PySem L2
structure Bck (ps os:A') (m d:Nat) (μs rs:D'):Prop where
 mks:M.Mks ps os m d μs
 le:d<=ps.length
 no:∀i,i < m->¬Osm ps os m d i
 yes:∀k,k < d->∃i,i < m/\Osm ps os m k i
 rows:(d=0/\rs=[])∨∃k,d=k + 1/\Slt ps os m k rs
theorem wc {l O:D'} (h:eqVs (l.map nat) (O.map nat)=true):l=O:=by
 unfold eqVs at h;rw[xn,L8,eB,eB,LH] at h;refine N7 h.1 λi h1 h2=>?_;have:=h.2 i (Ju.mpr h1);rw[ee,ee,f',f',b' h1,b' h2] at this;have hi:((l[i]:Nat):Int)=O[i]:=by simpa[eqV] using this
 exact MP hi
def zh:Sp:=λvs H Q _=>∃(η Y:eh) (n:Nat) (ts:G') (rows ks:D'),vs=[.ref η,.ref Y]/\H η=aS (.lst (ts.map V.ref))/\ts.length=rows.length/\(∀(j:Nat) a,ts[j]? =aS a->H a=aS (.tup [nat (M.lo n (rows.getD j 0)),nat (rows.getD j 0>>>n)]))/\H Y=aS (.lst (ks.map nat))/\(∀k∈ks,k < rows.length)/\
 ∀(O:eh) (H2:Hp),Same H H2->H2 O=aS (.tup [nat (x1 (gat n ts rows ks)),nat (x2 (gat n ts rows ks))])->Q (.ref O) H2
def tM:Sp:=λvs H Q _=>∃(L:eh) (Y:Nat) (bs:G') (O:Nat->D'),vs=[.ref L,nat bs.length,nat Y]/\H L=aS (.lst (bs.map V.ref))/\Y<=32/\(∀(j:Nat) a,bs[j]? =aS a->H a=aS (.lst ((O j).map nat))/\(O j).Pairwise (· < ·)/\∀k∈O j,k < Y)/\∀H2,Same H H2->Q (.bl true) H2
def vw:Sp:=λvs H Q _=>∃(t η χ φ Z n1 o1 δ Y o2:eh) (ts bs us:G') (m:Nat) (α γ O β:eA Pr3),vs=[.ref Z,.ref δ,.ref t]/\AlkA H t η χ φ ts bs us m (prs α) (prs O)/\TabT H Z n1 o1 m α γ/\TabT H δ Y o2 m O β/\α.length + O.length<=32/\M.Al (prs α) (prs γ) (prs O) (prs β) m (α.length + O.length + 1)/\∀H2,Same H H2->Q (.bl true) H2
def vv:Sp:=λvs H Q _=>∃(t Z n1 o1 δ Y o2:eh) (m i T:Nat) (α γ O β:eA Pr3),vs=[.ref Z,.ref δ,.ref t]/\H t=aS (.tup [.str "apart",nat i,nat T])/\TabT H Z n1 o1 m α γ/\TabT H δ Y o2 m O β/\α.length + O.length<=32/\Fun2 (prs α) (prs γ) (prs O) (prs β) m i T/\∀H2,Same H H2->Q (.bl true) H2
theorem Cv {n:Nat} {ts:G'} {rows ks:D'} {i k:Nat} (h:ks[i]? =aS k):gat n ts rows (ks.take (i + 1))=gat n ts rows (ks.take i)++[(ts.getD k 0,M.lo n (rows.getD k 0),rows.getD k 0>>>n)]:=by
 rw[take_succ h];unfold gat;rw[hF];rfl
theorem vB {K:aT} {H:Hp} {Q:VK} {p q:eh} {ns ms:D'} (e:SqL K H p (ns.map nat)) (e':SqL K H q (ms.map nat)) (h:Q (.bl (decide (ns≠ms))) H):rEqL K true (.ref p) (.ref q) H Q:=by
 by_cases n:ns=ms
 ·subst n;rw[fA @E] at h;exact tT e e' h
 ·refine⟨p,q,_,_,rfl,rfl,e,e',j3 ns,j3 ms,?_⟩;rw[Nz.mpr λh=>n (wc h)];rw[hJ n] at h;exact h
theorem mU {K:aT} {H:Hp} {d x y:Nat} (e:H d=aS (.tup [nat x,nat y])):Rep K H (.ref d) (.tup [natD x,natD y]):= .tup (SqT.of e) rfl λi x y h1 h2=>by
 match i,h1,h2 with
 | 0,h1,h2=>cases h1;cases h2;exact .int _
 | 1,h1,h2=>cases h1;cases h2;exact .int _
 | i + 2,h1,_=>simp at h1
theorem tR {K:aT} {H:Hp} {Q:VK} {d e x y:Nat} (e1:H d=aS (.tup [nat x,nat y])) (O:H e=aS (.tup [nat x,nat y])) (h:Q (.bl false) H):rEqD K true (.ref d) (.ref e) H Q:=by
 refine BK (mU e1) (mU O) (by simp[depD,ik,natD]) ?_;rw[sM];exact h
theorem lN {p1 o1 p2 o2:A'} {i T:Nat}:M.wan p1 o1 0 (M.pulse i T)=M.wan p2 o2 0 (M.pulse i T)↔∀t,t < T->M.sgl p1 o1 i t=M.sgl p2 o2 i t:=by
 constructor
 ·intro h t ht;rw[<-M.pulse_sgl p1 o1 i ht,<-M.pulse_sgl p2 o2 i ht,h]
 ·intro h;refine N7 (by rw[M.wan_len,M.wan_len]) λt h1 h2=>?_;have ht:t < T:=by rw[M.wan_len,M.pulse_len] at h1;exact h1
  have:=h t ht;rw[<-M.pulse_sgl p1 o1 i ht,<-M.pulse_sgl p2 o2 i ht,ee,ee,b' h1,b' h2] at this;exact this
def FndT (H:Hp) (t:eh) (m:Nat) (p1 o1 p2 o2:A'):Prop:=(∃(η χ φ:eh) (ts bs us:G'),M.Al p1 o1 p2 o2 m (p1.length + p2.length + 1)/\AlkA H t η χ φ ts bs us m p1 p2)∨∃δ t':Nat,Fun2 p1 o1 p2 o2 m δ t'/\H t=aS (.tup [.str "apart",nat δ,nat t'])
theorem FndT.same {H H2:Hp} {t:eh} {m:Nat} {p1 o1 p2 o2:A'} (f:FndT H t m p1 o1 p2 o2) (s:Same H H2):FndT H2 t m p1 o1 p2 o2:=by
 rcases f with ⟨η,χ,φ,ts,bs,us,al,O⟩ | ⟨δ,t',fu,e⟩
 ·exact .inl ⟨η,χ,φ,ts,bs,us,al,O.same s⟩
 ·exact .inr ⟨δ,t',fu,s.get e⟩
def vp:Sp:=λvs H Q _=>∃(t Z n1 o1 δ Y o2:eh) (m:Nat) (α γ O β:eA Pr3),vs=[.ref Z,.ref δ,.ref t]/\FndT H t m (prs α) (prs γ) (prs O) (prs β)/\TabT H Z n1 o1 m α γ/\TabT H δ Y o2 m O β/\α.length + O.length<=32/\∀H2,Same H H2->Q (.bl true) H2
theorem yD {f:Nat->Prop} {j:Nat} (h:∀i,i < j->f i) (h2:f j):∀i,i < j + 1->f i:=λi hi=>by
 rcases PV (Nat.le_of_lt_succ hi) with h3 | h3
 ·exact h i h3
 ·rw[h3];exact h2
theorem C4 {p1 o1 p2 o2:A'} {m T:Nat}:(∀i,i < m->M.wan p1 o1 0 (M.pulse i T)=M.wan p2 o2 0 (M.pulse i T))↔M.Al p1 o1 p2 o2 m T:=by
 constructor
 ·exactλh t ht i hi=>lN.mp (h i hi) t ht
 ·exactλh i hi=>lN.mpr λt ht=>h t ht i hi
theorem vQ {H H2:Hp} {R:eh->Prop} (s:Same H H2):Same (less H R) (less H2 R):=λb o e=>by
 by_cases h:R b
 ·rw[pE h] at e;cases e
 ·rw[dn h] at e ⊢;exact s.get e
theorem AlkN.cc {H0 H:Hp} {t η χ φ:eh} {ts bs us:G'} {m:Nat} {p1 p2:A'} (k:AlkN H0 H t η χ φ ts bs us m p1 p2):∃cc:Nat->D',∀(j:Nat) a,(bs++us)[j]? =aS a->H a=aS (.lst ((cc j).map nat))/\(cc j).length<=1000:=by
 refine⟨λj=>if j < bs.length then M.pl 1000 (sfq (M.prs2 p1 p2 m) (M.tr2 (M.jn p1 p2) 0 (2 ^ j))) else M.pl 1000 (sfq (M.prs2 p1 p2 m) (M.tr2 (M.jn p1 p2) ((M.prs2 p1 p2 m).getD (j - bs.length) 0) 0)),λj a h=>?_⟩;by_cases O:j < bs.length
 ·rw[oP O] at h;dsimp only;rw[px O];exact⟨k.ba j a h,M.pl_le _ _⟩
 ·rw[rg @A] at h;dsimp only;rw[ko O];exact⟨k.ua _ a h,M.pl_le _ _⟩
def tN:Sp:=λvs H Q _=>∃t:eh,vs=[.ref t]/\((∃w u,H t=aS (.tup [.str "apart",nat w,nat u])/\∀H2,Same H H2->Q (.bl true) H2)∨
 ∃(H0:Hp) (η χ φ:eh) (ts bs us:G') (m:Nat) (p1 p2:A'),AlkN H0 H t η χ φ ts bs us m p1 p2/\(bs++us).length<=100/\∀H2,Same (less H (·∈bs++us)) H2->Q (.bl true) H2)
noncomputable def Az (m:Nat) (p1 p2:A'):Dt:= .lst [.lst ((M.prs2 p1 p2 m).map λx=> .tup [natD (M.lo p1.length x),natD (x>>>p1.length)]),
 .lst ((hE m).map λj=> .lst ((M.pl 1000 (sfq (M.prs2 p1 p2 m) (M.tr2 (M.jn p1 p2) 0 (2 ^ j)))).map natD)),
 .lst ((hE (M.prs2 p1 p2 m).length).map λj=> .lst ((M.pl 1000 (sfq (M.prs2 p1 p2 m) (M.tr2 (M.jn p1 p2) ((M.prs2 p1 p2 m).getD j 0) 0))).map natD))]
theorem CP (m:Nat) (p1 p2:A'):depD (Az m p1 p2)<=100:=by
 have h1:ik ((M.prs2 p1 p2 m).map λx=>Dt.tup [natD (M.lo p1.length x),natD (x>>>p1.length)])<=1:=AW λd hd=>by
  obtain⟨k,_,rfl⟩:=w2.mp hd;simp[depD,ik,natD]
 have h2:∀(f:Nat->D') (l:D'),ik (l.map λj=>Dt.lst ((f j).map natD))<=1:=λf l=>AW λd hd=>by
  obtain⟨k,_,rfl⟩:=w2.mp hd;rw[depD,xv];omega
 have Y:=h2 (λj=>M.pl 1000 (sfq (M.prs2 p1 p2 m) (M.tr2 (M.jn p1 p2) 0 (2 ^ j)))) (hE m);have O:=h2 (λj=>M.pl 1000 (sfq (M.prs2 p1 p2 m) (M.tr2 (M.jn p1 p2) ((M.prs2 p1 p2 m).getD j 0) 0))) (hE (M.prs2 p1 p2 m).length);unfold Az;rw[depD,ik,ik,ik,ik,depD,depD,depD];omega
def TldD (H:Hp) (t:eh) (d:Dt):Prop:=(∃w u,H t=aS (.tup [.str "apart",nat w,nat u])/\d= .lst [.str "apart",natD w,natD u])∨
 ∃(η χ φ:eh) (ts bs us:G') (m:Nat) (p1 p2:A'),AlkA H t η χ φ ts bs us m p1 p2/\m<=6/\(M.prs2 p1 p2 m).length<=100/\d=Az m p1 p2
def zj (K:aT):Sp:=λvs H Q _=>∃(t:eh) (d:Dt),vs=[.ref t]/\TldD H t d/\∀(D:eh) (H2:Hp),Same H H2->(∀R:eh->Prop,(∀b,R b->∃xs,H b=aS (.lst xs))->Rep K (less H2 R) (.ref D) d)->Q (.ref D) H2
theorem oW {K:aT} {H:Hp} {D:eh} {x y z:V} {d e f:Dt} (h:H D=aS (.lst [x,y,z])) (Z:Rep K H x d) (Y:Rep K H y e) (O:Rep K H z f):Rep K H (.ref D) (.lst [d,e,f]):= .lst (SqL.of h) rfl λi x y h1 h2=>by
 match i,h1,h2 with
 | 0,h1,h2=>cases h1;cases h2;exact Z
 | 1,h1,h2=>cases h1;cases h2;exact Y
 | 2,h1,h2=>cases h1;cases h2;exact O
 | i + 3,h1,_=>simp at h1
theorem Cr {K:aT} {H H2:Hp} {t η χ φ D A B C:eh} {ts bs us ω ψ:G'} {m:Nat} {p1 p2:A'} {R:eh->Prop} (Z:AlkA H t η χ φ ts bs us m p1 p2) (s:Same H H2) (hR:∀b,R b->∃xs,H b=aS (.lst xs))
  (α:H D=eC) (γ:H A=eC) (fB:H B=eC) (β:H C=eC) (fb:∀d∈ω,H d=eC) (fu:∀d∈ψ,H d=eC) (υ:H2 D=aS (.lst [.ref A,.ref B,.ref C])) (ζ:H2 A=aS (.lst (ts.map V.ref))) (ε:H2 B=aS (.lst (ω.map V.ref))) (δ:H2 C=aS (.lst (ψ.map V.ref))) (lb:ω.length=m) (lu:ψ.length=(M.prs2 p1 p2 m).length)
  (hb:∀(j:Nat) a,ω[j]? =aS a->H2 a=aS (.lst ((M.pl 1000 (sfq (M.prs2 p1 p2 m) (M.tr2 (M.jn p1 p2) 0 (2 ^ j)))).map nat)))
  (hu:∀(j:Nat) a,ψ[j]? =aS a->H2 a=aS (.lst ((M.pl 1000 (sfq (M.prs2 p1 p2 m) (M.tr2 (M.jn p1 p2) ((M.prs2 p1 p2 m).getD j 0) 0))).map nat))):Rep K (less H2 R) (.ref D) (Az m p1 p2):=by
 have out:∀{b:eh} {o:HO},H b=eC->H2 b=aS o->less H2 R b=aS o:=λ{b o} e1 θ=>by
  rw[dn λz=>by obtain⟨xs,h⟩:=hR b z;rw[e1] at h;cases h];exact θ
 have tup:∀{b:eh} {xs:eA V},H2 b=aS (.tup xs)->less H2 R b=aS (.tup xs):=λ{b xs} e=>xk (λb z=>by obtain⟨ys,h⟩:=hR b z;exact⟨ys,s.get h⟩) e
 have Y:∀{n j k:Nat},(hE n)[j]? =aS k->j=k:=λ{n j k} h=>by
  obtain⟨h1,h2⟩:=dt.mp h;rw[Pz] at h2;exact h2
 refine oW (out α υ) (rO (out γ ζ) Z.ls λj d k h1 h2=>?_) (rO (out fB ε) (by rw[q7];exact lb) λj d k h1 h2=>?_) (rO (out β δ) (by rw[q7];exact lu) λj d k h1 h2=>?_)
 ·have O:=Z.sa j d h1;rw[ee,h2] at O;exact mU (tup (s.get O))
 ·have O:=hb j d h1;rw[Y h2] at O;exact wV (out (fb d (eO h1)) O)
 ·have O:=hu j d h1;rw[Y h2] at O;exact wV (out (fu d (eO h1)) O)
theorem Fy {K:aT} {H H2:Hp} {D:eh} {w u:Nat} {R:eh->Prop} (hR:∀b,R b->∃xs,H b=aS (.lst xs)) (O:H D=eC) (e:H2 D=aS (.lst [.str "apart",nat w,nat u])):Rep K (less H2 R) (.ref D) (.lst [.str "apart",natD w,natD u]):=by
 have h:less H2 R D=aS (.lst [.str "apart",nat w,nat u]):=by
  rw[dn λz=>by obtain⟨xs,h⟩:=hR D z;rw[O] at h;cases h];exact e
 exact oW h (.str _) (.int _) (.int _)
theorem AlkN.same {H0 H H2:Hp} {t η χ φ:eh} {ts bs us:G'} {m:Nat} {p1 p2:A'} (x:AlkN H0 H t η χ φ ts bs us m p1 p2) (s:Same H H2):AlkN H0 H2 t η χ φ ts bs us m p1 p2:=⟨x.toAlkA.same s,x.fs,x.fb,x.fu,x.ne,x.nd,x.fr⟩
def FndX (H0 H:Hp) (t:eh) (m:Nat) (p1 o1 p2 o2:A'):Prop:=(∃(η χ φ:eh) (ts bs us:G'),M.Al p1 o1 p2 o2 m (p1.length + p2.length + 1)/\AlkN H0 H t η χ φ ts bs us m p1 p2)∨∃δ t':Nat,Fun2 p1 o1 p2 o2 m δ t'/\H t=aS (.tup [.str "apart",nat δ,nat t'])
section
variable {H0 H H2:Hp} {t:eh} {m:Nat} {p1 o1 p2 o2:A'}
theorem FndX.fnd (f:FndX H0 H t m p1 o1 p2 o2):FndT H t m p1 o1 p2 o2:=by
 rcases f with ⟨η,χ,φ,ts,bs,us,al,O⟩ | ⟨δ,t',fu,e⟩
 ·exact .inl ⟨η,χ,φ,ts,bs,us,al,O.toAlkA⟩
 ·exact .inr ⟨δ,t',fu,e⟩
theorem FndX.same (f:FndX H0 H t m p1 o1 p2 o2) (s:Same H H2):FndX H0 H2 t m p1 o1 p2 o2:=by
 rcases f with ⟨η,χ,φ,ts,bs,us,al,O⟩ | ⟨δ,t',fu,e⟩
 ·exact .inl ⟨η,χ,φ,ts,bs,us,al,O.same s⟩
 ·exact .inr ⟨δ,t',fu,s.get e⟩
theorem FndX.tld (f:FndX H0 H t m p1 o1 p2 o2) (m6:m<=6) (hl:p1.length + p2.length<=60):∃d,depD d<=100/\∀{O H':Hp} {t':eh},FndX O H' t' m p1 o1 p2 o2->TldD H' t' d:=by
 have few:=M.prs2_few p1 p2 m;rcases f with ⟨η,χ,φ,ts,bs,us,al,α⟩ | ⟨δ,Y,fu,e⟩
 ·refine⟨Az m p1 p2,CP _ _ _,λ{O H' t'} Z=>?_⟩;rcases Z with ⟨η,χ,φ,ts,bs,us,al,α⟩ | ⟨δ,Y,fu,e⟩
  ·exact .inr ⟨η,χ,φ,ts,bs,us,m,p1,p2,α.toAlkA,m6,by omega,rfl⟩
  ·exact(fu.not al).elim
 ·refine⟨.lst [.str "apart",natD δ,natD Y],by simp[depD,ik,natD],λ{O H' t'} Z=>?_⟩;rcases Z with ⟨η,χ,φ,ts,bs,us,al,α⟩ | ⟨ψ,γ,υ,β⟩
  ·exact(fu.not al).elim
  ·obtain⟨h1,h2⟩:=fu.uniq υ;subst h1 h2;exact .inl ⟨δ,Y,β,rfl⟩
end
def Rst (H0 H:Hp) (t:eh) (R:eh->Prop) (w:u3) (xs:eA V):Prop:=(w="apart"/\(R=λ_=>False)/\∃i u:Nat,H t=aS (.tup [.str "apart",nat i,nat u])/\xs=[nat i,nat u])∨
 ∃(η χ φ:eh) (ts bs us:G') (m:Nat) (p1 p2:A'),AlkN H0 H t η χ φ ts bs us m p1 p2/\(bs++us).length<=100/\(R=λb=>b∈bs++us∨b=η∨b=χ∨b=φ)/\xs=[.ref η,.ref χ,.ref φ]/\w="alike"
def Clr (H:Hp) (R:eh->Prop) (xs:eA V):Prop:=∀v∈xs,(∃n:Nat,v=nat n)∨∃(a:eh) (ys:eA V),v= .ref a/\R a/\H a=aS (.lst ys)
theorem FndX.rst {H0 H:Hp} {t:eh} {m:Nat} {p1 o1 p2 o2:A'} (f:FndX H0 H t m p1 o1 p2 o2) (m6:m<=6) (hl:p1.length + p2.length<=60):∃R w xs,Rst H0 H t R w xs:=by
 have few:=M.prs2_few p1 p2 m;rcases f with ⟨η,χ,φ,ts,bs,us,al,O⟩ | ⟨δ,Y,fu,e⟩
 ·exact⟨_,_,_,.inr ⟨η,χ,φ,ts,bs,us,m,p1,p2,O,by rw[eH,O.lb,O.lu];omega,rfl,rfl,rfl⟩⟩
 ·exact⟨_,_,_,.inl ⟨rfl,rfl,δ,Y,e,rfl⟩⟩
section
variable {H0 H H2:Hp} {t:eh} {R:eh->Prop} {w:u3} {xs:eA V}
theorem Rst.same (x:Rst H0 H t R w xs) (s:Same H H2):Rst H0 H2 t R w xs:=by
 rcases x with ⟨h1,h2,i,u,e,O⟩ | ⟨η,χ,φ,ts,bs,us,m,p1,p2,Y,h⟩
 ·exact .inl ⟨h1,h2,i,u,s.get e,O⟩
 ·exact .inr ⟨η,χ,φ,ts,bs,us,m,p1,p2,Y.same s,h⟩
theorem Rst.tp (x:Rst H0 H t R w xs):H t=aS (.tup (.str w::xs)):=by
 rcases x with ⟨rfl,h2,i,u,e,rfl⟩ | ⟨η,χ,φ,ts,bs,us,m,p1,p2,O,_,_,rfl,rfl⟩
 ·exact e
 ·exact O.t
theorem Rst.hR (x:Rst H0 H t R w xs):∀b,R b->H0 b=eC/\∃ys,H b=aS (.lst ys):=λb hb=>by
 rcases x with ⟨rfl,rfl,_⟩ | ⟨η,χ,φ,ts,bs,us,m,p1,p2,O,_,rfl,rfl,rfl⟩
 ·exact hb.elim
 ·rcases hb with h | rfl | rfl | rfl
  ·obtain⟨cc,ι⟩:=O.cc;obtain⟨j,Y⟩:=Kt.mp h;exact⟨(O.fr b h).1,_,(ι j b Y).1⟩
  ·exact⟨O.fs,_,O.s⟩
  ·exact⟨O.fb,_,O.b⟩
  ·exact⟨O.fu,_,O.u⟩
theorem yk {H:Hp} {R O:eh->Prop} (h:∀b,O b->R b):Same (less H R) (less H O):=λb o e=>by
 by_cases h1:R b
 ·rw[pE h1] at e;cases e
 ·rw[dn h1] at e;rw[dn λz=>h1 (h b z)];exact e
theorem E7 {Q:VK} {E:XK} (x:Rst H0 H t R w xs) (q:∀H2,Same (less H R) H2->Clr H2 R xs->Q (.bl true) H2):tN [.ref t] H Q E:=by
 refine⟨t,rfl,?_⟩;rcases x with ⟨rfl,rfl,i,u,e,rfl⟩ | ⟨η,χ,φ,ts,bs,us,m,p1,p2,Y,hl,rfl,rfl,rfl⟩
 ·refine .inl ⟨i,u,e,λH2 s=>q H2 (λb o h=>s.get (by rw[dn (λz=>z)] at h;exact h)) λv O=>?_⟩;simp only[u5,M5,OZ] at O;rcases O with rfl | rfl
  ·exact .inl ⟨_,rfl⟩
  ·exact .inl ⟨_,rfl⟩
 ·refine .inr ⟨H0,η,χ,φ,ts,bs,us,m,p1,p2,Y,hl,λH2 s=>q H2 ((yk λb h=> .inl h).trans s) λv O=> .inr ?_⟩
  have n:∀{a:eh},(a=η∨a=χ∨a=φ)->a∉bs++us:=λ{a} h z=>by
   obtain⟨_,h1,h2,Z⟩:=Y.fr a z;rcases h with h | h | h
   ·exact h1 h
   ·exact h2 h
   ·exact Z h
  simp only[u5,M5,OZ] at O;rcases O with rfl | rfl | rfl
  ·exact⟨η,_,rfl,.inr (.inl rfl),s.get (by rw[dn (n (.inl rfl))];exact Y.s)⟩
  ·exact⟨χ,_,rfl,.inr (.inr (.inl rfl)),s.get (by rw[dn (n (.inr (.inl rfl)))];exact Y.b)⟩
  ·exact⟨φ,_,rfl,.inr (.inr (.inr rfl)),s.get (by rw[dn (n (.inr (.inr rfl)))];exact Y.u)⟩
end
theorem Iz {K:aT} {H:Hp} {Q:VK} {a:eh} {x:V} {xs:eA V} (ha:H a=aS (.tup (x::xs))) (h:∀p H2,H p=eC->Same H H2->H2 p=aS (.tup xs)->Q (.ref p) H2):rSlT K (.ref a) (aS 1) eC H Q:=by
 have e1:HT.sIx (x::xs).length 0 (aS 1)=1:=by
  rw[show(aS (1:Int))=aS ((1:Nat):Int) from rfl,HT.sIx_nat];simp
 refine Iw (SqT.of ha) (λz=>by rw[e1] at z;exact gd z.1 @C) λp H2 f s e=>h p H2 f s ?_;rw[e];unfold cutV;rw[e1,HT.sIx_none];simp
def zk (C:eh):Sp:=λvs H Q _=>∃(p1 p2:eh) (φ β:Nat) (α Y Z O:eA Pr3),vs=[.ref p1,.ref p2]/\MaA H C p1 φ α Y/\MaG φ α Y/\MaA H C p2 β Z O/\MaG β Z O/\α.length + Z.length<=60/\
 ((φ≠β∨Y.length≠O.length)->∀H2,Same H H2->Q .non H2)/\
 (φ=β->Y.length=O.length->∀(t:eh) (H2:Hp),Same H H2->FndX H H2 t φ (prs α) (prs Y) (prs Z) (prs O)->Q (.ref t) H2)
theorem A7 {C B:eh} {H:Hp} {Q:VK} {E:XK} {p1 p2:eh} {m:Nat} {α Y Z O:eA Pr3} (a1:MaA H C p1 m α Y) (g1:MaG m α Y) (a2:MaA H C p2 m Z O) (g2:MaG m Z O) (l:α.length + Z.length<=60) (lo:Y.length=O.length) (q:∀(t:eh) (H2:Hp),Same H H2->FndX H H2 t m (prs α) (prs Y) (prs Z) (prs O)->Q (.ref t) H2):zm C B [.ref p1,.ref p2] H Q E:=
 ⟨p1,p2,m,m,α,Y,Z,O,rfl,a1,g1,a2,g2,l,λh=>by rcases h with h | h;exact gd rfl h;exact gd lo h,
  λ_ _ al t η χ φ ts bs us H2 s β=>q t H2 s (.inl ⟨η,χ,φ,ts,bs,us,by rw[aw,aw];exact al,β⟩),λ_ _ w u fu t H2 s e=>q t H2 s (.inr ⟨w,u,fu,e⟩)⟩
end Sx
namespace My
open PySem L2 Sx
local macro_rules | `(tactic| walk_at "o") =>`(tactic| first | exact MZ rfl | exact MY rfl)
local macro_rules | `(tactic| walk_at "s") =>`(tactic| exact ⟨rfl,rfl,rfl,by decide +kernel,rfl,by decide +kernel,by decide +kernel⟩)
local macro_rules | `(tactic| walk_at "n") =>`(tactic| (intro vs H Q E h;repeat (first | (obtain ⟨e,_⟩:=h;subst e;rfl) | (obtain ⟨_,h⟩:=h))))
local macro_rules | `(tactic| walk_at "l2side") =>`(tactic| first | assumption | rfl | omega | decide | ((try dsimp only [CDiv,Jj,CPow,CMul]);first | omega | decide | (refine (⟨?_,?_⟩)<;>first | omega | decide) | (refine (⟨?_,?_,?_⟩)<;>first | omega | decide) | (left;refine (⟨?_,?_⟩)<;>first | omega | decide) | (right;refine (⟨?_,?_⟩)<;>first | omega | decide)))
local macro_rules | `(tactic| walk_at "l2len") =>`(tactic| ((with_reducible show _ + _≤hH);first | assumption | (rw [kv];omega) | omega))
local macro_rules | `(tactic| walk_at "l2at") =>`(tactic| first | assumption | exact aQ | (refine' Same.get (by assumption) ?h;(case h=>walk_at "l2at")))
local macro_rules | `(tactic| walk_at "l2hp") =>`(tactic| first | walk_at "l2at")
local macro_rules | `(tactic| walk_at "l2hp") =>`(tactic| first | (refine' Same.tup (by assumption) ?h;(case h=>walk_at "l2hp")) | (refine' Rep.same (by assumption) ?h;(case h=>walk_at "l2hp")))
local macro_rules | `(tactic| walk_at "l2hp") =>`(tactic| first | assumption | (refine' SqL.of ?h;(case h=>walk_at "l2at")) | (refine' SqT.of ?h;(case h=>walk_at "l2at")) | (refine' Same.seq (by assumption) ?h;(case h=>walk_at "l2hp")))
local macro_rules | `(tactic| walk_at "l2kind") =>`(tactic| first | assumption | exact rfl | (refine' MZ ⟨rfl,_,?e⟩;(case e=>walk_at "l2hp")) | (refine' MY (MZ ⟨rfl,_,?e⟩);(case e=>walk_at "l2hp")) | (refine' MY (MY ⟨rfl,_,MZ ?e⟩);(case e=>walk_at "l2hp")))
local macro_rules | `(tactic| walk_at "l2step") =>`(tactic| first | ((with_reducible refine' s_go ?e ?_);(case e=>assumption)))
local macro_rules | `(tactic| walk_at "l2step") =>`(tactic| first | (with_reducible refine(⟨_,rfl,?_⟩)) | (with_reducible refine(⟨rfl,?_⟩)) | ((with_reducible refine' (⟨⟨_,?e⟩,?_⟩));(case e=>walk_at "l2hp")))
local macro_rules | `(tactic| walk_at "l2step") =>`(tactic| first | (with_reducible refine(⟨_,_,rfl,rfl,?_⟩);(with_reducible refine(⟨?l,?_⟩));(case l=>walk_at "l2len")) | (with_reducible refine(⟨_,_,rfl,rfl,?_⟩)) | (with_reducible refine MZ ⟨_,rfl,?_⟩) | (with_reducible refine MY ⟨_,rfl,?_⟩))
local macro_rules | `(tactic| walk_at "l2step") =>`(tactic| first | (with_reducible refine GO ?_) | ((with_reducible refine' zA ?e ?_);(case e=>first | rfl | decide | assumption)) | ((with_reducible refine' tS ?e ?_);(case e=>first | rfl | decide | assumption)) | ((with_reducible refine' BL ?a ?b ?_);(case a=>omega);(case b=>omega)))
local macro_rules | `(tactic| walk_at "l2step") =>`(tactic| first | (with_reducible refine EM ?_) | (with_reducible refine s_intB ?_) | (with_reducible refine s_inS ?_) | ((with_reducible refine' s_addS ?e ?_);(case e=>walk_at "l2side")))
local macro_rules | `(tactic| walk_at "l2step") =>`(tactic| first | (with_reducible refine GL ?_) | (with_reducible refine IJ ?_) | (with_reducible refine Ir ?_) | (with_reducible refine Gw ?_))
local macro_rules | `(tactic| walk_at "l2step") =>`(tactic| first | ((with_reducible refine' GH ?e ?_);(case e=>walk_at "l2hp")) | ((with_reducible refine' GG ?e ?_);(case e=>walk_at "l2hp")) | ((with_reducible refine' s_lenS ?e ?_);(case e=>walk_at "l2side")) | ((with_reducible refine' II ?e ?m ?_);(case e=>walk_at "l2kind");(case m=>decide)))
local macro_rules | `(tactic| walk_at "l2step") =>`(tactic| first | ((with_reducible refine' IH ?e ?a ?_);(case e=>walk_at "l2hp");(case a=>first | assumption | rfl)) | ((with_reducible refine' IG ?e ?a ?_);(case e=>walk_at "l2hp");(case a=>first | assumption | rfl)) | ((with_reducible refine' s_ty ?e ?_);(case e=>first | exact rfl | (refine' MZ ⟨rfl,_,?f⟩;(case f=>walk_at "l2hp")) | (refine' MY (MY (MZ ⟨rfl,MZ ⟨_,?f⟩⟩));(case f=>walk_at "l2hp")))) | (with_reducible refine GP ?_))
local macro_rules | `(tactic| walk_at "l2step") =>`(tactic| first | ((with_reducible refine' GC ?l ?_);(case l=>exact Aj (Pf rfl))) | ((with_reducible refine' GB ?l ?_);(case l=>exact Aj (Pf rfl))) | ((with_reducible refine' Iy ?e ?_);(case e=>walk_at "l2hp")) | ((with_reducible refine' s_slS ?e ?_);(case e=>walk_at "l2side")))
local macro_rules | `(tactic| walk_at "l2step") =>`(tactic| first | (with_reducible refine GJ ?_) | ((with_reducible refine' GI ?e ?l ?_);(case e=>walk_at "l2hp");(case l=>rfl)) | (with_reducible refine Iv ?_) | (with_reducible refine IF ?_))
local macro_rules | `(tactic| walk_at "l2step") =>`(tactic| first | ((with_reducible refine' IC ?e ?_);(case e=>rfl)) | (with_reducible refine s_leS ?_) | ((with_reducible refine' EK ?e ?_);(case e=>repeat constructor)) | (with_reducible refine EL ?_))
local macro_rules | `(tactic| walk_at "l2step") =>`(tactic| first | (with_reducible refine ID ?_) | ((with_reducible refine' s_rI ?e ?_);(case e=>walk_at "l2side")) | (with_reducible refine s_rU ?_) | ((with_reducible refine' IE ?e ?_);(case e=>rfl)))
local macro_rules | `(tactic| walk_at "l2step") =>`(tactic| first | ((with_reducible refine Gz ?_);intro _ _) | (with_reducible refine GA ?_) | ((with_reducible refine' Iu ?e ?_);(case e=>repeat constructor)) | (with_reducible refine ES ?_))
local macro_rules | `(tactic| walk_at "l2") =>`(tactic| repeat walk_at "l2step")
local macro_rules | `(tactic| walk_at "l2step") =>`(tactic| first | ((with_reducible refine' s_tupT ?e ?_);(case e=>walk_at "l2hp")))
local macro_rules | `(tactic| walk_at "l2step") =>`(tactic| first | ((with_reducible refine' EJ ?e ?_);(case e=>walk_at "l2hp")) | ((with_reducible refine' EI ?e ?_);(case e=>walk_at "l2hp")) | ((with_reducible refine' Gu ?e ?_);(case e=>walk_at "l2hp")))
local macro_rules | `(tactic| walk_at "l2step") =>`(tactic| first | (with_reducible refine GD ?_) | (with_reducible refine GK ?_) | (with_reducible refine GN ?_) | (with_reducible refine vC ?_))
local macro_rules | `(tactic| walk_at "l2step") =>`(tactic| first | (with_reducible refine BF ?_) | (with_reducible refine IK ?_) | (with_reducible refine GE ?_) | (with_reducible refine BH ?_))
local macro_rules | `(tactic| walk_at "l2step") =>`(tactic| first | (with_reducible refine IL ?_) | (with_reducible refine s_dnot ?_) | (with_reducible refine s_disp1I ?_) | ((with_reducible refine' s_listD ?e ?_);(case e=>walk_at "l2at")))
local macro_rules | `(tactic| walk_at "l2step") =>`(tactic| first | (with_reducible refine EH ?_) | (with_reducible refine Gv ?_) | (with_reducible refine ER ?_))
noncomputable def top (i:Nat):Stmt:=PySem.Challenge.pw_sumwires_k63_compared_and_why.main.body.getD i (.Pass ⟨0,0,0,0⟩)
noncomputable abbrev mR:Stmt:=top 7
theorem vA:aD ["thing"] ["thing"] (ah mR):=by walk_at "s"
noncomputable abbrev oV:Stmt:=top 8
theorem xW:aD ["thing","width"] ["thing","width"] (ah oV):=by walk_at "s"
noncomputable abbrev zB:Stmt:=top 9
theorem oM:aD ["number","width","half"] ["number"] (ah zB):=by walk_at "s"
noncomputable abbrev lV:Stmt:=top 10
theorem xX:aD ["mask"] ["mask"] (ah lV):=by walk_at "s"
noncomputable abbrev oR:Stmt:=top 11
theorem kg:aD ["places","mask","place"] ["places"] (ah oR):=by walk_at "s"
noncomputable abbrev gB:Stmt:=gH (top 13) 0
theorem fO:aD ["self","rows","place","row"] ["self","rows"] (ah gB):=by walk_at "s"
noncomputable abbrev gZ:Stmt:=gH (top 13) 1
theorem c3:aD ["self","mask","places","found"] ["self","mask"] (ah gZ):=by walk_at "s"
noncomputable abbrev lD:Stmt:=gH (top 13) 2
theorem jO:aD ["self","place","row","found","places"] ["self","place","row"] (ah lD):=by walk_at "s"
noncomputable abbrev g0:Stmt:=gH (top 13) 3
theorem d5:aD ["self","bit","mask","top"] ["self","bit"] (ah g0):=by walk_at "s"
noncomputable abbrev zE:Stmt:=top 14
theorem EF:aD ["rows"] ["rows"] (ah zE):=by walk_at "s"
noncomputable abbrev oQ:Stmt:=top 15
theorem mO:aD ["rows","wish","steps","found"] ["rows","wish"] (ah oQ):=by walk_at "s"
noncomputable abbrev lA:Stmt:=top 17
theorem jN:aD ["one","other","pair","row","width","low"] ["one","other","pair","row"] (ah lA):=by walk_at "s"
noncomputable abbrev dW:Stmt:=top 18
theorem bY:aD ["one","other","turns","inputs","ones","others","turn","which"] ["one","other"] (ah dW):=by walk_at "s"
noncomputable abbrev cJ:Stmt:=top 19
theorem cZ:aD ["one","other","pairs","told","turn"] ["one","other"] (ah cJ):=by walk_at "s"
noncomputable abbrev ck:Stmt:=top 20
theorem aR:aD ["one","other","apart","pairs","begins","sums","width","states"] ["one","other"] (ah ck):=by walk_at "s"
noncomputable abbrev oU:Stmt:=top 25
theorem xV:aD ["thing","stores","inputs"] ["thing","stores","inputs"] (ah oU):=by walk_at "s"
noncomputable abbrev gJ:Stmt:=top 26
theorem qg:aD ["inputs","nexts","outs"] ["inputs","nexts","outs"] (ah gJ):=by walk_at "s"
noncomputable abbrev rN:Stmt:=top 27
theorem zy:aD ["pair","state","row"] ["pair","state","row"] (ah rN):=by walk_at "s"
noncomputable abbrev ix:Stmt:=top 28
theorem rM:aD ["pairs","state","row"] ["pairs","state","row"] (ah ix):=by walk_at "s"
noncomputable abbrev ff:Stmt:=gH (top 29) 0
theorem lj:aD ["self","inputs","nexts","outs"] ["self","inputs","nexts","outs"] (ah ff):=by walk_at "s"
noncomputable abbrev gD:Stmt:=gH (top 29) 1
theorem mP:aD ["self"] ["self"] (ah gD):=by walk_at "s"
noncomputable abbrev fQ:Stmt:=gH (top 29) 2
theorem lU:aD ["self"] ["self"] (ah fQ):=by walk_at "s"
noncomputable abbrev dq:Stmt:=gH (top 29) 4
theorem jI:aD ["self","state"] ["self","state"] (ah dq):=by walk_at "s"
noncomputable abbrev iN:Stmt:=gH (top 29) 5
theorem oO:aD ["self","state","row"] ["self","state","row"] (ah iN):=by walk_at "s"
noncomputable abbrev gC:Stmt:=gH (top 29) 6
theorem cI:aD ["self","rows","state","answers","row","done"] ["self","rows","state"] (ah gC):=by walk_at "s"
noncomputable abbrev dO:Stmt:=gH (top 29) 7
theorem qi:aD ["self","rows","state"] ["self","rows","state"] (ah dO):=by walk_at "s"
noncomputable abbrev gE:Stmt:=gH (top 29) 9
theorem iT:aD ["self","which","turns","rows"] ["self","which","turns"] (ah gE):=by walk_at "s"
noncomputable abbrev lB:Stmt:=top 31
theorem tQ:aD ["_law_script","_law_k"] ["_law_script","_law_k"] (ah lB):=by walk_at "s"
noncomputable abbrev mT:Stmt:=top 32
theorem lg:aD ["_law_cell_here","_law_k","_law_number"] ["_law_cell_here","_law_k"] (ah mT):=by walk_at "s"
noncomputable abbrev jR:Stmt:=top 33
theorem eV:aD ["_law_cell_here","_law_start","_law_many","_law_width","_law_digits","_law_found","_law_left","_law_k"] ["_law_cell_here","_law_start","_law_many","_law_width","_law_digits"] (ah jR):=by walk_at "s"
noncomputable abbrev iL:Stmt:=top 34
theorem bZ:aD ["_law_masks_here","_law_cell_here","_law_start","_law_way","_law_found","_law_k","_law_mask"] ["_law_masks_here","_law_cell_here","_law_start","_law_way"] (ah iL):=by walk_at "s"
noncomputable abbrev dc:Stmt:=top 35
theorem aC:aD ["_law_script","_law_start","_law_most","_law_cell_here","_law_stores","_law_inputs","_law_outputs","_law_digits","_law_way","_law_one","_law_other_here","_law_shown","_law_straight"] ["_law_script","_law_start","_law_most"] (ah dc):=by walk_at "s"
noncomputable abbrev mS:Stmt:=top 36
theorem k9:aD ["_law_number","_law_shift"] ["_law_number"] (ah mS):=by walk_at "s"
noncomputable abbrev fP:Stmt:=top 37
theorem bJ:aD ["_law_tables","_law_state","_law_row","_law_answer","_law_state_next","_law_k","_law_stores","_law_inputs"] ["_law_tables","_law_state","_law_row"] (ah fP):=by walk_at "s"
noncomputable abbrev bG:Stmt:=top 38
theorem bF:aD ["_law_tables","_law_cell_here","_law_inputs","_law_nexts","_law_outs","_law_many","_law_order","_law_moved","_law_rows","_law_pairs"] ["_law_tables","_law_cell_here"] (ah bG):=by walk_at "s"
noncomputable abbrev gq:Stmt:=top 39
theorem bR:aD ["_law_tables","_law_cell_here","_law_inputs","_law_nexts","_law_outs","_law_many","_law_at","_law_dead","_law_shown","_law_twin"] ["_law_tables","_law_cell_here"] (ah gq):=by walk_at "s"
noncomputable abbrev iM:Stmt:=top 40
theorem oN:aD ["_law_mask","_law_at","_law_many","_law_way"] ["_law_mask","_law_at","_law_many","_law_way"] (ah iM):=by walk_at "s"
noncomputable abbrev je:Stmt:=top 41
theorem c9:aD ["_law_tables","_law_which","_law_turns","_law_answers","_law_state","_law_turn_here","_law_answer"] ["_law_tables","_law_which","_law_turns"] (ah je):=by walk_at "s"
noncomputable abbrev lC:Stmt:=top 42
theorem bK:aD ["_law_tables","_law_cell_here","_law_inputs","_law_nexts","_law_outs","_law_pairs","_law_at","_law_mask","_law_row"] ["_law_tables","_law_cell_here"] (ah lC):=by walk_at "s"
noncomputable abbrev jQ:Stmt:=top 43
theorem dN:aD ["_law_script","_law_tables","_law_cell_here","_law_k"] ["_law_script","_law_tables"] (ah jQ):=by walk_at "s"
noncomputable abbrev jc:Stmt:=top 44
theorem c8:aD ["_law_pairs","_law_places_here","_law_one","_law_other_here","_law_place"] ["_law_pairs","_law_places_here"] (ah jc):=by walk_at "s"
noncomputable abbrev gK:Stmt:=top 45
theorem kK:aD ["_law_lists","_law_many","_law_most","_law_places_here"] ["_law_lists","_law_many","_law_most"] (ah gK):=by walk_at "s"
noncomputable abbrev iz:Stmt:=top 46
theorem bc:aD ["_law_tables","_law_others","_law_told","_law_word","_law_pairs","_law_begins","_law_sums","_law_which","_law_one","_law_other_here","_law_k","_law_pair"] ["_law_tables","_law_others","_law_told"] (ah iz):=by walk_at "s"
noncomputable abbrev jS:Stmt:=top 47
theorem eW:aD ["_law_tables","_law_others","_law_told","_law_word","_law_which","_law_turns","_law_one"] ["_law_tables","_law_others","_law_told"] (ah jS):=by walk_at "s"
noncomputable abbrev jP:Stmt:=top 48
theorem eU:aD ["_law_tables","_law_others","_law_told","_law_turns","_law_alike_here","_law_which"] ["_law_tables","_law_others","_law_told"] (ah jP):=by walk_at "s"
noncomputable abbrev fc:Stmt:=top 49
theorem qh:aD ["_law_told"] ["_law_told"] (ah fc):=by walk_at "s"
noncomputable abbrev c5:Stmt:=top 50
theorem dM:aD ["_law_told","_law_lists","_law_sizes","_law_places_here"] ["_law_told"] (ah c5):=by walk_at "s"
noncomputable abbrev gY:Stmt:=top 51
theorem d4:aD ["_law_one","_law_other_here","_law_told"] ["_law_one","_law_other_here"] (ah gY):=by walk_at "s"
noncomputable abbrev xZ:Stmt:=top 52
theorem lR:aD ["_law_script","_law_tables","_law_others","_law_one","_law_other_here","_law_told","_law_held","_law_thing","_law_again"] ["_law_script"] (ah xZ):=by walk_at "s"
noncomputable abbrev FR (K:aT) (x q:u3) (st:Lv) (f:eh):Prop:=∃(Z:fC) (od:J0) (kV β Y:fC) (an:J0) (O ct:fC) (ο:E'),K.lookup f=aS ⟨Z,od,.func (JX x q (eG st) (cL st) (ah st) .none kV β Y an O ct),ο⟩/\Lb K O q=true/\JK K (.ref f)=true
theorem FR.mk {K:aT} {x q:u3} {st:Lv} {f:eh} {Z:fC} {od:J0} {kV β Y:fC} {an:J0} {O ct:fC} {ο:E'} (h1:K.lookup f=aS ⟨Z,od,.func (JX x q (eG st) (cL st) (ah st) .none kV β Y an O ct),ο⟩) (h2:Lb K O q=true) (h3:JK K (.ref f)=true):FR K x q st f:=⟨_,_,_,_,_,_,_,_,_,h1,h2,h3⟩
structure FT (K:aT) (x q:u3) (st:Lv) (f:eh) (d:hP) (ps:C'):Prop where
 F:Fun K x q st f d
 b:ke K d ps []
theorem FR.ok {K:aT} {x q:u3} {st:Lv} {f:eh} {ps:C'} (h:FR K x q st f) (g:∀(kV β Y:fC) (an:J0) (O ct:fC) (us:Dd),us.length=ps.length->bindArgs (JX x q (eG st) (cL st) (ah st) .none kV β Y an O ct) ⟨us,[]⟩=pure (ps.zip us)):∃d,FT K x q st f d ps:=by
 obtain⟨_,_,_,_,_,_,_,_,_,h1,h2,Z⟩:=h;have F:=xt (st:=st) h1 h2 Z;exact⟨_,F,F.binds g⟩
theorem aj {X:Cx} {CX:CXT} {k j:Nat} {f:eh} {fd:hP} {ps:C'} {sp:Sp} {E:XK} {x n q:u3} {st:Lv} {p pos:Pos} {e:x7} {es:eA x7} {t:TA} (F:FnOk X.prog X.w X.K X.mg X.base CX k f fd ps sp) (Z:Room j X.A) (hm:X.mg x=aS (.ref f)) (U:FT X.K n q st f fd ps)
  (ha:PA X (e::es) t) (hp:nV CX X E:=by exact fj) (α:k<=j:=by decide) (β:Gl X x:=by rfl) (Y:(x == ("__debug__":u3))=false:=by decide) (he:lx (e::es) X.env=(false,eval e X.env)::lx es X.env:=by rfl) (O:(backTo pos (lx es X.env)).any (·.1)=false:=by rfl):
  PE X (.Call (.Name x p) (e::es) [] pos) (Bv sp [] E t):=lE F (Z.mono α) β hm U.1.2 U.2 .nil hp ha Y he O
noncomputable abbrev NI (K:aT) (x:u3) (f:eh):Prop:=Qf K JG x=aS (aS (.ref f))
noncomputable abbrev NN (K:aT) (x:u3):Prop:=Qf K JG x=aS eC
noncomputable abbrev FI (K:aT) (c:eh) (x:u3) (f:eh):Prop:=vr K (.ref c) x=aS (aS (.ref f))
noncomputable abbrev FN (K:aT) (c:eh) (x:u3):Prop:=vr K (.ref c) x=aS eC
theorem bln0 {l:eA JR} (h:l.length=0):l=[]:=JM h
theorem bln1 {l:eA JR} (h:l.length=1):∃a,l=[a]:=List.length_eq_one_iff.mp h
theorem bln2 {l:eA JR} (h:l.length=2):∃a b,l=[a,b]:=by cases l with | nil=>cases h | cons a l=>obtain ⟨b,z⟩:=bln1 (LZ h);exact ⟨a,b,z ▸ rfl⟩
theorem bln3 {l:eA JR} (h:l.length=3):∃a b c,l=[a,b,c]:=by cases l with | nil=>cases h | cons a l=>obtain ⟨b,c,z⟩:=bln2 (LZ h);exact ⟨a,b,c,z ▸ rfl⟩
theorem bln4 {l:eA JR} (h:l.length=4):∃a b c d,l=[a,b,c,d]:=by cases l with | nil=>cases h | cons a l=>obtain ⟨b,c,d,z⟩:=bln3 (LZ h);exact ⟨a,b,c,d,z ▸ rfl⟩
theorem bln5 {l:eA JR} (h:l.length=5):∃a b c d e,l=[a,b,c,d,e]:=by cases l with | nil=>cases h | cons a l=>obtain ⟨b,c,d,e,z⟩:=bln4 (LZ h);exact ⟨a,b,c,d,e,z ▸ rfl⟩
theorem bln6 {l:eA JR} (h:l.length=6):∃a b c d e f,l=[a,b,c,d,e,f]:=by cases l with | nil=>cases h | cons a l=>obtain ⟨b,c,d,e,f,z⟩:=bln5 (LZ h);exact ⟨a,b,c,d,e,f,z ▸ rfl⟩
theorem bln7 {l:eA JR} (h:l.length=7):∃a b c d e f g,l=[a,b,c,d,e,f,g]:=by cases l with | nil=>cases h | cons a l=>obtain ⟨b,c,d,e,f,g,z⟩:=bln6 (LZ h);exact ⟨a,b,c,d,e,f,g,z ▸ rfl⟩
local macro_rules | `(tactic| walk_at "b") =>`(tactic| first | (refine fun _ _ _ _ _ _ us hl=>?_;obtain ⟨_,hz⟩:=bln1 hl;subst hz;rfl) | (refine fun _ _ _ _ _ _ us hl=>?_;obtain ⟨_,_,hz⟩:=bln2 hl;subst hz;rfl) | (refine fun _ _ _ _ _ _ us hl=>?_;obtain ⟨_,_,_,hz⟩:=bln3 hl;subst hz;rfl) | (refine fun _ _ _ _ _ _ us hl=>?_;obtain ⟨_,_,_,_,hz⟩:=bln4 hl;subst hz;rfl) | (refine fun _ _ _ _ _ _ us hl=>?_;obtain ⟨_,_,_,_,_,hz⟩:=bln5 hl;subst hz;rfl) | (refine fun _ _ _ _ _ _ us hl=>?_;obtain ⟨_,_,_,_,_,_,hz⟩:=bln6 hl;subst hz;rfl) | (refine fun _ _ _ _ _ _ us hl=>?_;obtain ⟨_,_,_,_,_,_,_,hz⟩:=bln7 hl;subst hz;rfl))
abbrev n4:C':=["one","other","apart","pairs","begins","sums","width","states"]
abbrev n5:C':=["_law_places_here"]
abbrev n7:C':=["_law_k","_law_mask","_law_script","_law_start"]
abbrev n10:C':=["which","pairs","one","other"]
abbrev n11:C':=["pair","pairs","one","other"]
abbrev n12:C':=["pair","width"]
abbrev n13:C':=["_law_mask","_law_row","_law_order","_law_many"]
abbrev n14:C':=["_law_k","_law_mask","_law_row","_law_cell_here","_law_many"]
abbrev n15:C':=["_law_k","_law_mask","_law_row","_law_at","_law_many","_law_cell_here"]
abbrev n16:C':=["_law_script","_law_start","_law_most","_law_cell_here","_law_stores","_law_inputs","_law_outputs","_law_digits","_law_way","_law_one","_law_other_here","_law_shown","_law_straight"]
abbrev n17:C':=["_law_tables","_law_cell_here","_law_inputs","_law_nexts","_law_outs","_law_many","_law_order","_law_moved","_law_rows","_law_pairs"]
abbrev n18:C':=["_law_mask","_law_row"]
abbrev n19:C':=["place","pair","state","row"]
abbrev n20:C':=["one","other","pairs","told","turn"]
abbrev n21:C':=["_law_told","_law_lists","_law_sizes","_law_places_here"]
abbrev n22:C':=["_law_tables","_law_cell_here","_law_inputs","_law_nexts","_law_outs","_law_many","_law_at","_law_dead","_law_shown","_law_twin"]
abbrev n23:C':=["one","other","turns","inputs","ones","others","turn","which"]
set_option genInjectivity false in
set_option genSizeOf false in
structure Ad where
 dQ:eh
 kB:hP
 gy:eh
 pV:hP
 pQ:eh
 DQ:hP
 ij:eh
 uK:hP
 ie:eh
 uI:hP
 bf:eh
 jE:hP
 bt:eh
 j6:hP
 cX:eh
 pZ:hP
 bu:eh
 j8:hP
 pR:eh
 DR:hP
 ib:eh
 uH:hP
 d9:eh
 pU:hP
 cC:eh
 kR:hP
 b8:eh
 j4:hP
 fV:eh
 rA:hP
 ig:eh
 uJ:hP
 cR:eh
 mC:hP
 jq:eh
 xw:hP
 dy:eh
 nL:hP
 aV:eh
 iF:hP
 bh:eh
 jG:hP
 aZ:eh
 i4:hP
 aK:eh
 gz:hP
 bH:eh
 kX:hP
 bg:eh
 jF:hP
 bI:eh
 ju:hP
 jr:fC
 bj:eh
 jH:hP
 eg:eh
 pW:hP
 fX:eh
 rC:hP
 dB:eh
 nO:hP
 cD:eh
 kT:hP
 cF:eh
 kW:hP
 fW:eh
 rB:hP
 cS:eh
 lM:hP
 be:eh
 jt:hP
 dC:eh
 nQ:hP
 cE:eh
 kU:hP
 cU:eh
 mE:hP
 eE:eh
 pX:hP
 dA:eh
 nN:hP
 cT:eh
 mD:hP
 cV:eh
 mF:hP
 dE:eh
 nT:hP
 dD:eh
 nS:hP
 dz:eh
 nM:hP
 cW:eh
 mG:hP
 bO:eh
 jD:hP
 b9:eh
 j5:hP
 yu:eh
 HJ:hP
 a7:eh
 au:eh
 bD:eh
 dF:eh
 gU:eh
 ja:Tok
 k8:Tok
 i9:Tok
open PySem.W in
structure Tx (K:Frag) (mg:Dk) (a:Ad):Prop where
 gW:FT K "is_whole" "is_whole" mR a.dQ a.kB ["thing"]
 nG:mg "is_whole"=aS (.ref a.dQ)
 iq:FT K "is_mask" "is_mask" oV a.gy a.pV ["thing","width"]
 mr:mg "is_mask"=aS (.ref a.gy)
 rG:FT K "even" "even" zB a.pQ a.DQ ["number"]
 AE:mg "even"=aS (.ref a.pQ)
 mK:FT K "bits_of" "bits_of" lV a.ij a.uK ["mask"]
 AF:mg "bits_of"=aS (.ref a.ij)
 mI:FT K "mask_of" "mask_of" oR a.ie a.uI ["places"]
 AC:mg "mask_of"=aS (.ref a.ie)
 c6:FT K "__init__" "Steps.__init__" gB a.bf a.jE ["self","rows"]
 cN:FT K "lowered" "Steps.lowered" gZ a.bt a.j6 ["self","mask"]
 ir:FT K "lay" "Steps.lay" lD a.cX a.pZ ["self","place","row"]
 dJ:FT K "barring" "Steps.barring" g0 a.bu a.j8 ["self","bit"]
 xE:FT K "base" "base" zE a.pR a.DR ["rows"]
 Hu:mg "base"=aS (.ref a.pR)
 fz:FT K "sum_for" "sum_for" oQ a.ib a.uH ["rows","wish"]
 i0:mg "sum_for"=aS (.ref a.ib)
 cb:FT K "next_pair" "next_pair" lA a.d9 a.pU ["one","other","pair","row"]
 dw:mg "next_pair"=aS (.ref a.d9)
 dh:FT K "first_unlike" "first_unlike" dW a.cC a.kR ["one","other"]
 iR:mg "first_unlike"=aS (.ref a.cC)
 cM:FT K "pairs_come_to" "pairs_come_to" cJ a.b8 a.j4 ["one","other"]
 h9:mg "pairs_come_to"=aS (.ref a.b8)
 dR:FT K "compared" "compared" ck a.fV a.rA ["one","other"]
 nH:mg "compared"=aS (.ref a.fV)
 mJ:FT K "is_pair" "is_pair" oU a.ig a.uJ ["thing","stores","inputs"]
 AD:mg "is_pair"=aS (.ref a.ig)
 gP:FT K "check_table" "check_table" gJ a.cR a.mC ["inputs","nexts","outs"]
 sE:mg "check_table"=aS (.ref a.cR)
 oG:FT K "is_odd" "is_odd" rN a.jq a.xw ["pair","state","row"]
 Cw:mg "is_odd"=aS (.ref a.jq)
 gA:FT K "odd_places" "odd_places" ix a.dy a.nL ["pairs","state","row"]
 nK:mg "odd_places"=aS (.ref a.dy)
 cw:FT K "__init__" "Machine.__init__" ff a.aV a.iF ["self","inputs","nexts","outs"]
 aM:FT K "stores" "Machine.stores" gD a.bh a.jG ["self"]
 aU:FT K "outputs" "Machine.outputs" fQ a.aZ a.i4 ["self"]
 bp:FT K "check_state" "Machine.check_state" dq a.aK a.gz ["self","state"]
 cG:FT K "step" "Machine.step" iN a.bH a.kX ["self","state","row"]
 c7:FT K "walked" "Machine.walked" gC a.bg a.jF ["self","rows","state"]
 fH:FunD K "run" "Machine.run" dO a.bI a.ju a.jr
 jy:ke K a.ju ["self","rows","state"] [a.jr]
 rJ:RelV (.int 0) a.jr
 cn:FT K "single" "Machine.single" gE a.bj a.jH ["self","which","turns"]
 bE:FT K "_law_cell" "_law_cell" lB a.eg a.pW ["_law_script","_law_k"]
 cB:mg "_law_cell"=aS (.ref a.eg)
 a9:FT K "_law_mix" "_law_mix" mT a.fX a.rC ["_law_cell_here","_law_k"]
 bx:mg "_law_mix"=aS (.ref a.fX)
 dH:FT K "_law_masks" "_law_masks" jR a.dB a.nO ["_law_cell_here","_law_start","_law_many","_law_width","_law_digits"]
 iD:mg "_law_masks"=aS (.ref a.dB)
 gi:FT K "_law_thinned" "_law_thinned" iL a.cD a.kT ["_law_masks_here","_law_cell_here","_law_start","_law_way"]
 qM:mg "_law_thinned"=aS (.ref a.cD)
 d0:FT K "_law_machine" "_law_machine" dc a.cF a.kW ["_law_script","_law_start","_law_most"]
 kP:mg "_law_machine"=aS (.ref a.cF)
 gb:FT K "_law_odd" "_law_odd" mS a.fW a.rB ["_law_number"]
 kn:mg "_law_odd"=aS (.ref a.fW)
 jw:Fun K "_law_turn" "_law_turn" fP a.cS a.lM
 hZ:keepIn K (.ref a.cS)=true
 eI:ke K a.lM ["_law_tables","_law_state","_law_row"] []
 ia:mg "_law_turn"=aS (.ref a.cS)
 gQ:Fun K "_law_turned" "_law_turned" bG a.be a.jt
 sA:keepIn K (.ref a.be)=true
 jv:ke K a.jt ["_law_tables","_law_cell_here"] []
 sF:mg "_law_turned"=aS (.ref a.be)
 iH:FT K "_law_grown" "_law_grown" gq a.dC a.nQ ["_law_tables","_law_cell_here"]
 uw:mg "_law_grown"=aS (.ref a.dC)
 gj:FT K "_law_swapped" "_law_swapped" iM a.cE a.kU ["_law_mask","_law_at","_law_many","_law_way"]
 qN:mg "_law_swapped"=aS (.ref a.cE)
 bT:FT K "_law_single" "_law_single" je a.cU a.mE ["_law_tables","_law_which","_law_turns"]
 dP:mg "_law_single"=aS (.ref a.cU)
 jx:FT K "_law_bent" "_law_bent" lC a.eE a.pX ["_law_tables","_law_cell_here"]
 v5:mg "_law_bent"=aS (.ref a.eE)
 iG:FT K "_law_other" "_law_other" jQ a.dA a.nN ["_law_script","_law_tables"]
 uv:mg "_law_other"=aS (.ref a.dA)
 fE:FT K "_law_summed" "_law_summed" jc a.cT a.mD ["_law_pairs","_law_places_here"]
 mw:mg "_law_summed"=aS (.ref a.cT)
 fF:FT K "_law_places" "_law_places" gK a.cV a.mF ["_law_lists","_law_many","_law_most"]
 mx:mg "_law_places"=aS (.ref a.cV)
 iJ:FT K "_law_alike" "_law_alike" iz a.dE a.nT ["_law_tables","_law_others","_law_told"]
 uy:mg "_law_alike"=aS (.ref a.dE)
 iI:FT K "_law_apart" "_law_apart" jS a.dD a.nS ["_law_tables","_law_others","_law_told"]
 ux:mg "_law_apart"=aS (.ref a.dD)
 eN:FT K "_law_right" "_law_right" jP a.dz a.nM ["_law_tables","_law_others","_law_told"]
 j1:mg "_law_right"=aS (.ref a.dz)
 fG:FT K "_law_copied" "_law_copied" fc a.cW a.mG ["_law_told"]
 my:mg "_law_copied"=aS (.ref a.cW)
 d6:FT K "_law_own_lists" "_law_own_lists" c5 a.bO a.jD ["_law_told"]
 ou:mg "_law_own_lists"=aS (.ref a.bO)
 dI:FT K "_law_compared" "_law_compared" gY a.b9 a.j5 ["_law_one","_law_other_here"]
 j2:mg "_law_compared"=aS (.ref a.b9)
 C7:Fun K "law" "law" xZ a.yu a.HJ
 AG:mg "Steps"=aS (.ref a.a7)
 eJ:Cls K a.a7
 Bm:Mk K a.a7 a.bf
 jY:Meth K a.a7 "lowered" a.bt
 vN:Meth K a.a7 "lay" a.cX
 pq:Meth K a.a7 "barring" a.bu
 df:gI K a.a7 "by_top"
 d8:gI K a.a7 "free_places"
 iA:gI K a.a7 "null_masks"
 uz:mg "Machine"=aS (.ref a.au)
 az:Cls K a.au
 vg:Mk K a.au a.aV
 bA:Meth K a.au "stores" a.bh
 bW:Meth K a.au "outputs" a.aZ
 gv:Meth K a.au "check_state" a.aK
 iQ:Meth K a.au "step" a.bH
 n6:Meth K a.au "walked" a.bg
 sj:Meth K a.au "run" a.bI
 jC:Meth K a.au "single" a.bj
 aL:gI K a.au "inputs"
 fq:gI K a.au "nexts"
 iP:gI K a.au "outs"
 kr:mg "BadSizes"=aS (.ref a.bD)
 fM:excIn K a.bD [.type "ValueError",.type "Exception",.type "BaseException",.type "object"] "ValueError.__new__"=true
 d7:mroIn K a.bD (.ref a.bD)=aS true
 yp:tE K a.bD
 pN:mg "BadMask"=aS (.ref a.dF)
 gX:excIn K a.dF [.type "ValueError",.type "Exception",.type "BaseException",.type "object"] "ValueError.__new__"=true
 kq:mg "BadTable"=aS (.ref a.gU)
 eK:excIn K a.gU [.type "ValueError",.type "Exception",.type "BaseException",.type "object"] "ValueError.__new__"=true
 sH:mg "MOST_INPUTS"=aS (.int 6 a.ja)
 wa:mg "MOST_OUTS"=aS (.int 6 a.k8)
 sG:mg "MOST_STORES"=aS (.int 120 a.i9)
 IW:mg "all"=eC
 xi:mg "bool"=eC
 cy:mg "enumerate"=eC
 Fh:mg "int"=eC
 bb:mg "isinstance"=eC
 fU:mg "len"=eC
 hX:mg "list"=eC
 dr:mg "range"=eC
 IV:mg "set"=eC
 sf:mg "sorted"=eC
 IU:mg "sum"=eC
 pj:mg "tuple"=eC
 Fg:mg "zip"=eC
section
variable {P:oe} {w:sb} {K:aT} {mg:Dk} {base:u2} {a:Ad}
section
theorem lF (T:Tx K mg a):FnOk P w K mg base CX0 1 a.dQ a.kB ["thing"] (oA K):=by
 refine T.gW.1.okA vA λY A outer s H vs Q E Z h=>?_;obtain⟨x,k,rfl,hk,q⟩:=h;refine⟨_,((ai (aB (o4 (aE (cu (K:=K) rfl) (by rfl) T.bb oL (!j 0 (aa (fi (v:= .ty "int") (by rfl) T.Fh Mn rfl) af))) (rj (G3 (aE (cu (K:=K) rfl) (by rfl) T.bb oL (!j 0 (aa (fi (v:= .ty "bool") (by rfl) T.xi Lr rfl) af))))))))),aI (σ':=[aS _]) rfl ?_⟩;lia;unfold y3 at q;cases O:subB k "int"
 ·rw[O] at q;lia;exact q
 ·rw[O] at q;lia;exact q
local macro_rules | `(tactic| walk_at "l2step") =>`(tactic| ((with_reducible refine' ip ?e ?_);(case e=>walk_at "l2kind")))
theorem mZ (T:Tx K mg a):FnOk P w K mg base CX0 2 a.gy a.pV ["thing","width"] (vo K):=by
 have ρ:FnOk P w K mg base CX0 1 a.dQ a.kB ["thing"] (oA K):=lF T;refine T.iq.1.okA xW fun α A outer s H vs Q E Z h=>?_;obtain⟨x,k,Y,rfl,hk,q⟩:=h;refine⟨_,((ai (aB (o4 (aj ρ Z T.nG T.gW (!j 0 af)) (o4 (gF Ha (pv 0) ag (aG _)) (rj (gF Fb (jV (K:=K) rfl JY Jt Js lI (pv 0)) (pv 1) (aG _)))))))),aI (σ':=[aS _,aS _]) rfl ?_⟩;lia;cases x with
 | int i=>
   have hk:k="int":=hk;subst hk;lia;have q:Q (.bl (decide (0<=i)&&decide (((u4 i:Nat):Int)<=Y))) H:=q;cases O:decide (0<=i)
   ·rw[O] at q;lia;exact q
   ·rw[O] at q;lia;exact q
 | bl b=>have hk:k="bool":=hk;subst hk;lia;exact q
 | non=>have hk:k="NoneType":=hk;subst hk;lia;exact q
 | str z=>have hk:k="str":=hk;subst hk;lia;exact q
 | ref p=>
   rcases hk with ⟨rfl,_⟩ | ⟨rfl,_⟩ | ⟨rfl,_⟩<;>lia<;>exact q
 | _=>exact z4 hk
local macro_rules | `(tactic| walk_at "l2step") =>`(tactic| ((with_reducible refine' j9 ?e ?_);(case e=>walk_at "l2kind")))
theorem vJ (T:Tx K mg a):FnOk P w K mg base CX0 1 a.pQ a.DQ ["number"] Ew:=by
 refine T.rG.1.okA oM fun ε A outer s H vs Q E ζ h=>?_;obtain⟨m,rfl,hm,q⟩:=h
 refine⟨_,((ae (av (i:=1) oM.nd rfl @D (jV (K:=K) rfl JY Jt Js lI (pv 0)))
  (ae (w4 ry (aA o7 (pv 1) ag (aG _)) (ae (av (i:=2) oM.nd rfl @D (ao fm (ao bC (pv 1) ag) ag))
  (ae (av (i:=0) oM.nd rfl @D (ao iV (ao l8 (pv 0) (pv 2)) (ao dY (pv 0) (ao kL (ao bM ag (pv 2)) ag))))
  (ai (av (i:=1) oM.nd rfl @D (pv 2))))))
  (ai (aB (gF iu (pv 0) ag (aG _))))))),aI (σ':=[aS _,eC,eC]) rfl ?_⟩
 lia;refine⟨fun μ σ' H'=>∃n hf,σ'=[aS (nat n),aS (nat μ),hf]/\H'=H/\n < 2 ^ μ/\μ<=1000/\M.od n=M.od m,⟨u4 (m:Int),m,eC,rfl,rfl,wt m,wu hm,rfl⟩,?_⟩;rintro μ σ' H' ⟨n,hf,rfl,rfl,hn,hw,hp⟩;lia;refine iteB (λO=>?_) (λO=>?_)
 ·have O:=Km O;have Z:(μ + 1) / 2 < μ:=by omega
  refine⟨fun ω H2=>∃Y hf,ω=[aS (nat Y),aS (nat ((μ + 1) / 2)),hf]/\H2=H'/\Y < 2 ^ ((μ + 1) / 2)/\M.od Y=M.od m,fun ω H2 ⟨Y,α,e1,δ,γ,β⟩=>⟨(μ + 1) / 2,Z,Y,α,e1,δ,γ,@A,β⟩,?_⟩;lia;refine⟨(n>>>((μ + 1) / 2))^^^(n&&&(2 ^ ((μ + 1) / 2) - 1)),aS (nat ((μ + 1) / 2)),?_,rfl,M.fold_lt μ _ n hn @A,?_⟩
  ·rw[AB,AN]
  ·rw[<-hp];have f:=M.pb_fold μ ((μ + 1) / 2) n @A hn @A;show M.pb 1000 _=M.pb 1000 _;rw[M.pb_up (M.fold_lt μ _ n hn @A) @A,f,<-M.pb_up hn hw]
 ·have O:=of_decide_eq_false O;have ξ:n < 2:=eF hn (gs @C (show μ<=1 by omega));lia;rw[show decide (V.int (n:Int)=V.int 0)= !M.od n from B7 ξ,hp];exact q
theorem nY (T:Tx K mg a):FnOk P w K mg base CX0 2 a.bu a.j8 ["self","bit"] (Gp a.a7):=by
 refine T.dJ.1.okA d5 fun υ A outer s H vs Q E η h=>?_;obtain⟨p,d,f,n,rows,b,rfl,st,hb,δ,τ,π,q⟩:=h;have hu:=Cm η;obtain⟨dx,ho⟩:=st.ho;obtain⟨es,hd,ht,g,l⟩:=st.he;have nd:(es.map λe=>e.m.log2).Nodup:=by have:=g.nd;rw[KR] at this;exact this
 refine⟨_,((ae (av (i:=2) d5.nd rfl @D (ao bM ag (pv 1)))
  (ae (dS ry rfl (aW (K:=K) rfl (aE (yB rfl) (by rfl) T.sf PyProof.Rows.boot_sorted (aa (bL (K:=K) rfl (pv 0) rfl) af))) (aq (i:=3) d5.nd rfl @D) (ai (bz (dj (cq (aj (vJ T) η T.AE T.rG (aa (ao dY (pv 2) (!A @F (zW hu (bL (K:=K) rfl (pv 0) rfl) (pv 3) (λ_ _=>rfl)) ag)) af)))) (ai (av (i:=2) d5.nd rfl @D (ao iV (pv 2) (ao bM ag (pv 3))))) aF)))
  (ai (aB (pv 2)))))),aI (σ':=[aS _,aS _,eC,eC]) rfl ?_⟩
 lia;refine bS ho T.eJ T.df rfl ?_;lia;refine EG hd (Cf es) (by unfold mm;rw[eB];omega) λL ns H1 f1 β e1 hp hw=>?_;obtain⟨ts,rfl,up,mem⟩:=vk hp hw nd;rw[<-Ac] at e1;lia;rw[shl1];refine iE (xs:=ts.map nat) (λi σ H'=>∃(m:Nat) (v:nk V),σ=[aS (.ref p),aS (nat b),aS (nat m),v]/\H'=H1/\M.BarI (es.map λe=>(e.m,e.p)) (ts.take i) b m) ⟨2 ^ b,eC,rfl,rfl,M.BarI.zero _ b⟩ (λi σ H' _ ⟨_,_,_,e,_⟩=>by rw[e];exact SqL.of e1) ?_ ?_
 ·rintro i y σ H' ν ⟨m,v,rfl,rfl,I⟩;obtain⟨t,ξ,rfl⟩:=aX ν;obtain⟨hi,ω⟩:=dt.mp ξ;rcases oH es (t:Int) with ⟨e,he,γ,ev⟩ | ⟨ε,_⟩
  ·have γ:e.m.log2=t:=by omega
   subst γ;have Y:(e.m,e.p)∈es.map (λe=>(e.m,e.p)):=w2.mpr ⟨e,he,rfl⟩;have α:e.m < 2 ^ 1000:=M.span_lt δ (g.span Y);have ψ:e.m.log2 < 1000:=M.log2_under (g.nz _ Y) α;have ο:=β.get (ht e he)
   have χ:∀t∈ts.take i,t < e.m.log2:=λt hm=>by
    obtain⟨j,ρ,ι⟩:=JE.mp hm;rw[x4] at ρ;rw[LQ] at ι;have:=zt.mp up j i @A hi @A;rw[ι,ω] at this;exact this
   have φ:e.m.log2≠b:=π e.m (g.span Y) (g.nz _ Y);have O:=g.nd;lia;refine bS (β.get ho) T.eJ T.df rfl ?_;lia;refine zC (β.get hd) ev ?_;lia;rw[a8];refine⟨m&&&e.m,rfl,v3 L3 α,?_⟩;cases Z:M.od (m&&&e.m) with
   | true=>
     lia;refine⟨m^^^2 ^ e.m.log2,aS (nat e.m.log2),by rw[shl1,bX],rfl,?_⟩;rw[take_succ ξ];exact I.flip (e:=(e.m,e.p)) O g.nz Y Z χ φ ψ
   | false=>
     lia;rw[take_succ ξ];exact I.keep (e:=(e.m,e.p)) O Y Z
  ·obtain⟨e,he,γ⟩:=(mem t).mp (eO ξ);exact gd (by rw[γ]) (ε e he)
 ·rintro σ H' ⟨m,v,rfl,rfl,I⟩;rw[eB,K6] at I;lia;refine q m H' β (I.done g λe he=>?_);obtain⟨θ,ζ,rfl⟩:=w2.mp he;exact(mem _).mpr ⟨θ,ζ,rfl⟩
theorem yh (T:Tx K mg a):FnOk P w K mg base CX0 1 a.ij a.uK ["mask"] Ey:=by
 refine T.mK.1.okA xX λY A outer s H vs Q E Z h=>?_;obtain⟨m,rfl,hm,q⟩:=h;have hb:=wu hm;refine⟨_,((ai (aB (g8 (osc:=ah lV) (ON:=["mask"]) (N:=["place","mask"]) (n:=1) (fx:=[0]) rfl rfl rfl @G (b0 (by rfl) T.dr (aa (jV (K:=K) rfl JY Jt Js lI (pv 0)) af)) (aN @C) (λ_ _ _ _ _=>⟨(aq (i:=0) (show q3 (["place","mask"]:C') from by decide +kernel) rfl @D),(rQ (aA iu (ao dY (ao l8 (pv 1) (pv 0)) ag) ag (aG _))),(pv 0)⟩))))),aI (σ':=[aS _]) rfl ?_⟩;lia;intro D O;refine i6 (λi ys H'=>Cs (λi ys=>ys=(M.pl i m).map nat) H D i ys H') (Cs.zero O rfl) (λi ys H' hi c=>?_) (λys H' c=>?_)
 ·lia;rw[C1];by_cases ht:m.testBit i=true
  ·rw[px ht];lia;refine Cs.put O c.same c.at' c.len @A ?_;rw[c.pv,M.pl_next,px ht,hF,LO];rfl
  ·rw[ko ht];lia;refine Cs.skip c.same c.at' c.len ?_;rw[c.pv,M.pl_next,ko ht,LF]
 ·have e:=c.pv;rw[pT] at e;refine q D H' O c.same ?_;rw[c.at',e,M.pl_up (wt m) hb]
theorem yf (T:Tx K mg a):FnOk P w K mg base CX0 1 a.ie a.uI ["places"] zg:=by
 refine T.mI.1.okA kg λY A outer s H vs Q E Z h=>?_;obtain⟨r,ps,rfl,hp,hl,q⟩:=h
 refine⟨_,((ae (av (i:=1) kg.nd rfl @D ag)
  (ae (dS ry rfl (aW (K:=K) rfl (pv 0)) (aq (i:=2) kg.nd rfl @D) (ai (av (i:=1) kg.nd rfl @D (ao iV (pv 1) (ao bM ag (pv 2))))))
  (ai (aB (pv 1)))))),aI (σ':=[aS _,eC,eC]) rfl ?_⟩
 lia;refine iE (xs:=ps.map nat) (λi σ H'=>∃v,σ=[aS (.ref r),aS (nat (M.xm (ps.take i))),v]/\H'=H) ⟨eC,rfl,rfl⟩ (λi σ H' _ ⟨_,_,e⟩=>by rw[e];exact SqL.of hp) ?_ ?_
 ·rintro i y σ H' O ⟨v,rfl,rfl⟩;obtain⟨k,hk,rfl⟩:=aX O;have:=hl k (eO hk);lia;refine⟨aS (nat k),?_,rfl⟩;rw[shl1,bX,Ef hk]
 ·rintro σ H' ⟨v,rfl,rfl⟩;rw[eB,K6];lia;exact q
end
theorem jl (T:Tx K mg a):FnOk P w K mg base CX0 1 a.fW a.rB ["_law_number"] Et:=by
 refine T.gb.1.okA k9 fun α A outer s H vs Q E β h=>?_;obtain⟨n,rfl,hn,q⟩:=h
 refine⟨_,((ae (dS ry rfl (aW (K:=K) rfl (dU (aa ag (aa ag (aa ag (aa ag (aa ag (aa ag (aa ag af))))))))) (aq (i:=1) k9.nd rfl @D) (ai (av (i:=0) k9.nd rfl @D (ao iV (pv 0) (ao l8 (pv 0) (pv 1))))))
  (ai (aB (ao dY (pv 0) ag))))),aI (σ':=[aS _,eC]) rfl ?_⟩
 lia;intro D H1 γ Y e1;lia;refine iE (xs:=([64,32,16,8,4,2,1]:D').map nat) (λi σ H'=>∃(m:Nat) (v:nk V),σ=[aS (nat m),v]/\H'=H1/\M.pb (2 ^ (7 - i)) m=M.od n) ⟨n,eC,rfl,rfl,?_⟩ (λi σ H' _ ⟨_,_,_,e,_⟩=>by rw[e];exact SqL.of e1) ?_ ?_
 ·exact(M.pb_up hn (show 128<=1000 by decide)).symm
 ·rintro i y σ H' Z ⟨m,v,rfl,rfl,hm⟩;obtain⟨k,hk,rfl⟩:=aX Z;obtain⟨hi,O⟩:=zu hk;have ο:2 ^ (7 - i)=k + k:=by rw[O,show 7 - i=(6 - i) + 1 by omega,Lz];omega
  rw[ο,<-M.pb_half2] at hm;have θ:2 ^ (7 - (i + 1))=k:=by rw[O,show 7 - (i + 1)=6 - i by omega]
  rw[<-θ] at hm;clear ο O hk;lia;rw[vz,bX];rw[θ] at hm;exact⟨_,_,rfl,rfl,by rw[θ];exact hm⟩
 ·rintro σ H' ⟨m,v,rfl,rfl,hm⟩;have hm:M.pb 1 m=M.od n:=hm;lia;rw[show(1:Int)=((1:Nat):Int) from rfl,a8,M.pb_one,hm];exact q _ Y
theorem gu (T:Tx K mg a):FnOk P w K mg base CX0 2 a.cS a.lM ["_law_tables","_law_state","_law_row"] BA:=by
 refine T.jw.okA bJ fun φ A outer s H vs Q E ζ h=>?_;obtain⟨t,n,o,m,nx,os,x,r,rfl,tt,ν,ε,q⟩:=h;have υ:=tt.t;have χ:=tt.tab.n;have ω:=tt.tab.o;have ln:=tt.tab.ln;have lo:=tt.tab.lo
 refine⟨_,((ae (av (i:=3) bJ.nd rfl @D ag)
  (ae (av (i:=4) bJ.nd rfl @D ag)
  (ae (dS ry rfl (ji (K:=K) rfl (by rfl) T.cy (!A @F (pv 0) ag)) (g7 rfl (ax (aq (i:=5) bJ.nd rfl @D) (ax (g7 rfl (ax (aq (i:=6) bJ.nd rfl @D) (ax (aq (i:=7) bJ.nd rfl @D) b7))) b7))) (ai (av (i:=3) bJ.nd rfl @D (ao bC (pv 3) (ao bM (ao bP (ao bC (aj (jl T) ζ T.kn T.gb (aa (ao dY (pv 6) (pv 1)) af)) (aj (jl T) ζ T.kn T.gb (aa (ao dY (pv 7) (pv 2)) af))) ag) (pv 5))))))
  (ae (dS ry rfl (ji (K:=K) rfl (by rfl) T.cy (!A @F (pv 0) ag)) (g7 rfl (ax (aq (i:=5) bJ.nd rfl @D) (ax (g7 rfl (ax (aq (i:=6) bJ.nd rfl @D) (ax (aq (i:=7) bJ.nd rfl @D) b7))) b7))) (ai (av (i:=4) bJ.nd rfl @D (ao bC (pv 4) (ao bM (ao bP (ao bC (aj (jl T) ζ T.kn T.gb (aa (ao dY (pv 6) (pv 1)) af)) (aj (jl T) ζ T.kn T.gb (aa (ao dY (pv 7) (pv 2)) af))) ag) (pv 5))))))
  (ai (aB (cH (!j 3 (!j 4 af)))))))))),aI (σ':=[aS _,aS _,aS _,eC,eC,eC,eC,eC]) rfl ?_⟩
 lia;refine mz (xs:=refs os) (λi σ H'=>∃v1 β α,σ=[aS (.ref t),aS (nat x),aS (nat r),aS (nat (M.tr2 (prs (os.take i)) x r)),aS (.int 0),v1,β,α]/\Same H H') ⟨eC,eC,eC,rfl,Same.refl _⟩ (λi σ H' _ ⟨_,_,_,_,e⟩=>SqL.of (e.get ω)) ?_ ?_
 ·rintro i y σ H' p ι θ ⟨v1,β,α,rfl,Z⟩ fp γ O;obtain⟨δ,Y,rfl⟩:=aX θ;have hi:=(dt.mp Y).1;have ht:=γ.get (Z.get (tt.tab.po δ (eO Y)));lia;rw[a8];refine⟨δ.2.1&&&x,rfl,v3 L3 ν,λH8 τ=>?_⟩;lia;rw[a8];refine⟨δ.2.2&&&r,rfl,v3 L3 ε,fun ψ η=>?_⟩;lia;rw[DV,DU,<-Qy,<-tK x r Y];exact⟨_,_,_,rfl,Z.trans (γ.trans (τ.trans η))⟩
 ·rintro σ H' ⟨v1,β,α,rfl,Z⟩;rw[aJ,K6];have ρ:=Z.get υ;have π:=Z.get χ;lia;refine mz (xs:=refs nx) (λi σ H'=>∃v1 β α,σ=[aS (.ref t),aS (nat x),aS (nat r),aS (nat (M.tr2 (prs os) x r)),aS (nat (M.tr2 (prs (nx.take i)) x r)),v1,β,α]/\Same H H') ⟨_,_,_,rfl,Z⟩ (λi σ H' _ ⟨_,_,_,_,e⟩=>SqL.of (e.get χ)) ?_ ?_
  ·rintro i y σ H' p ι θ ⟨v1,β,α,rfl,Z⟩ fp γ O;obtain⟨δ,Y,rfl⟩:=aX θ;have hi:=(dt.mp Y).1;have ht:=γ.get (Z.get (tt.tab.pn δ (eO Y)));lia;rw[a8];refine⟨δ.2.1&&&x,rfl,v3 L3 ν,λH8 τ=>?_⟩;lia;rw[a8];refine⟨δ.2.2&&&r,rfl,v3 L3 ε,fun ψ η=>?_⟩;lia;rw[DV,DU,<-Qy,<-tK x r Y];exact⟨_,_,_,rfl,Z.trans (γ.trans (τ.trans η))⟩
  ·rintro σ H' ⟨v1,β,α,rfl,Z⟩;rw[aJ,K6];lia;intro ξ ι ο γ O;exact q ξ ι (Z.trans γ) O
theorem de (T:Tx K mg a):FnOk P w K mg base CX0 3 a.cU a.mE ["_law_tables","_law_which","_law_turns"] xR:=by
 refine T.bT.1.okA c9 fun ι A outer s H vs Q E η h=>?_;obtain⟨t,n,o,m,nx,os,j,π,rfl,tt,ξ,hT,q⟩:=h;have ln:=tt.tab.ln
 refine⟨_,((ae (av (i:=3) c9.nd rfl @D (dU af))
  (ae (av (i:=4) c9.nd rfl @D ag)
  (ae (dS ry rfl (b0 (by rfl) T.dr (!j 2 af)) (aq (i:=5) c9.nd rfl @D) (ae (oY (lE (gu T) (η.mono @C) (by rfl) T.ia T.hZ T.eI .nil fj (!j 0 (!j 4 (aa (!A (cf (K:=K) rfl) (dU (aa ag (aa (ao bM ag (pv 1)) af))) (fh uQ (by rfl) T.Fh Mn (aa (gF iu (pv 5) ag (aG _)) af))) af)))) (g7 rfl (ax (aq (i:=6) c9.nd rfl @D) (ax (aq (i:=4) c9.nd rfl @D) b7))))
  (ai (fg (lX (K:=K) rfl y5 J8 zP dZ (pv 3) (!j 6 af))))))
  (ai (aB (pv 3))))))),aI (σ':=[aS _,aS _,aS _,eC,eC,eC,eC]) rfl ?_⟩
 lia;intro D H1 δ ζ e1;lia;refine gx (λi σ H'=>∃v α,σ=[aS (.ref t),aS (nat j),aS (nat π),aS (.ref D),aS (nat (M.wst (prs nx) 0 (M.pulse j i))),v,α]/\Same H H'/\H' D=aS (.lst ((M.wan (prs nx) (prs os) 0 (M.pulse j i)).map nat))) ⟨eC,eC,rfl,ζ,e1⟩ ?_ ?_
 ·rintro i σ H' hi ⟨v,α,rfl,O,Y⟩;have hw:M.wst (prs nx) 0 (M.pulse j i) < 2 ^ nx.length:=by have:=M.wst_lt (ps:=prs nx) (rs:=M.pulse j i) (x:=0) (lz _);rwa [aw] at this
  lia;rw[shl1];intro φ H2 ο β τ
  have θ:atI [V.int 0,nat (2 ^ j)] (if decide (V.int (0 + (i:Int))=V.int 0)=true then 1 else 0)=aS (nat (if i=0 then 2 ^ j else 0)):=by
   cases i with
   | zero=>rfl
   | succ i=>
     rw[fA (λz=>by have:=V.int.inj z;omega),ko hC,ko @A];rfl
  lia;refine⟨t,n,o,m,nx,os,_,_,rfl,(tt.same O).same β,zT hw @A,?_,fun ν υ γ ρ=>?_⟩
  ·split
   ·exact rn @C @A
   ·exact lz _
  ·lia;refine iy (γ.get (β.get Y)) (by rw[eB,M.wan_len,M.pulse_len,kv];omega) λZ ε=>?_;lia;rw[M.pulse_snoc,M.wst_snoc,M.wan_snoc,hF];exact⟨_,_,rfl,λb ob e=>ε.oth _ _ (ar e δ) (γ.get (β.get (O.get e))),ε.at'⟩
 ·rintro σ H' ⟨v,α,rfl,O,Y⟩;rw[pT] at Y;lia;exact q D H' δ O Y
end
local macro_rules | `(tactic| walk_at "l2step") =>`(tactic| first | ((with_reducible refine' ka ?e ?a ?_);(case e=>walk_at "l2hp");(case a=>walk_at "l2side")) | ((with_reducible refine' sP ?a ?b ?_);(case a=>walk_at "l2side");(case b=>walk_at "l2side");(with_reducible intro _ _)))
section
variable {P:oe} {w:sb} {K:aT} {mg:Dk} {base:u2} {a:Ad}
local macro_rules | `(tactic| walk_at "l2step") =>`(tactic| first | ((with_reducible refine' ip ?e ?_);(case e=>walk_at "l2kind")) | ((with_reducible refine' j9 ?e ?_);(case e=>walk_at "l2kind")) | (with_reducible refine gf ?_) | (with_reducible refine iK ?_))
theorem kM (T:Tx K mg a):FnOk P w K mg base CX0 1 a.cT a.mD ["_law_pairs","_law_places_here"] zh:=by
 refine T.fE.1.okA c8 fun θ A outer s H vs Q E ξ h=>?_;obtain⟨η,ν,n,ts,rows,ks,rfl,es,α,sa,ε,π,q⟩:=h
 refine⟨_,((ae (av (i:=2) c8.nd rfl @D ag)
  (ae (av (i:=3) c8.nd rfl @D ag)
  (ae (dS ry rfl (aW (K:=K) rfl (pv 1)) (aq (i:=4) c8.nd rfl @D) (ae (av (i:=2) c8.nd rfl @D (ao iV (pv 2) (!A @F (!A (cf (K:=K) rfl) (pv 0) (pv 4)) ag)))
  (ai (av (i:=3) c8.nd rfl @D (ao iV (pv 3) (!A @F (!A (cf (K:=K) rfl) (pv 0) (pv 4)) ag))))))
  (ai (aB (cH (!j 2 (!j 3 af))))))))),aI (σ':=[aS _,aS _,eC,eC,eC]) rfl ?_⟩
 lia;refine iE (xs:=ks.map nat) (λi σ H'=>∃v,σ=[aS (.ref η),aS (.ref ν),aS (nat (x1 (gat n ts rows (ks.take i)))),aS (nat (x2 (gat n ts rows (ks.take i)))),v]/\H'=H) ⟨eC,rfl,rfl⟩ (λi σ H' _ ⟨_,_,e⟩=>by rw[e];exact SqL.of ε) ?_ ?_
 ·rintro i y σ H2 β ⟨v,rfl,rfl⟩;obtain⟨k,hk,rfl⟩:=aX β;have γ:=π k (eO hk);have O:ts[k]? =aS (ts.getD k 0):=by rw[ee,b' @A];rfl
  have ea:=sa k _ O;have δ:atI (ts.map V.ref) (k:Int)=aS (.ref (ts.getD k 0)):=fY (by rw[f',O];rfl);lia;rw[bX,bX,Cv hk,y1,yZ];exact⟨_,rfl,rfl⟩
 ·rintro σ H2 ⟨v,rfl,rfl⟩;rw[eB,K6];lia;intro Y ι ο Z ζ;exact q Y ι Z ζ
theorem kN (T:Tx K mg a):FnOk P w K mg base CX0 1 a.cV a.mF ["_law_lists","_law_many","_law_most"] tM:=by
 refine T.fF.1.okA kK λa0 A outer s H vs Q E π h=>?_;obtain⟨L,Y,bs,O,rfl,χ,ζ,hb,q⟩:=h;have Z:=rz π
 refine⟨_,((ae (bz (PW.pt (gL (dj (cq (aE (cu (K:=K) rfl) (by rfl) T.bb oL (!j 0 (aa (fi (v:= .ty "list") (by rfl) T.hX u1 rfl) af))))) (dX (aA kH (aE (aO (K:=K) rfl) (by rfl) T.fU q8 (!j 0 af)) (pv 1) (aG _))))) (ai (aB iU)) aF)
  (ae (dS ry rfl (aW (K:=K) rfl (pv 0)) (aq (i:=3) kK.nd rfl @D) (ae (bz (PW.pt (gL (dj (cq (aE (cu (K:=K) rfl) (by rfl) T.bb oL (!j 3 (aa (fi (v:= .ty "list") (by rfl) T.hX u1 rfl) af))))) (dX (aA (mY (K:=K) rfl Z) (pv 3) (yc rfl (by rfl) (by rfl) T.sf T.IV (pv 3)) (aG _))))) (ai (aB iU)) aF)
  (ai (bz (aA (mY (K:=K) rfl Z) (g8 (osc:=ah gK) (ON:=["_law_lists","_law_many","_law_most","_law_places_here"]) (N:=["_law_place","_law_most"]) (n:=1) (fx:=[2]) rfl rfl rfl @G (aW (K:=K) rfl (pv 3)) (aN @C) (λ_ _ _ _ _=>⟨(aq (i:=0) (show q3 (["_law_place","_law_most"]:C') from by decide +kernel) rfl @D),(rQ (PW.pt (gL (cq (aE (cu (K:=K) rfl) (by rfl) T.bb oL (!j 0 (aa (fi (v:= .ty "bool") (by rfl) T.xi Lr rfl) af)))) (dX (dj (wZ Fb zZ ag (pv 0) (pv 1))))))),(pv 0)⟩)) (dU af) (aG _)) (ai (aB iU)) aF))))
  (ai (aB iU))))),aI (σ':=[aS _,aS _,aS _,eC]) rfl ?_⟩
 lia;dsimp only;rw[ko (by rw[eB];simp)];lia;refine iE (xs:=bs.map V.ref) (λi σ H'=>∃v,σ=[aS (.ref L),aS (nat bs.length),aS (nat Y),v]/\Same H H') ⟨eC,rfl,λ_ _ e=>e⟩ (λi σ H' _ ⟨_,_,s'⟩=>SqL.of (s'.get χ)) ?_ ?_
 ·rintro j y σ H' ξ ⟨v,rfl,s'⟩;obtain⟨d,hd,rfl⟩:=aX ξ;obtain⟨φ,ε,γ⟩:=hb j d hd;have β:=s'.get φ;lia;refine Gy ?_;lia;refine⟨d,O j,rfl,β,ε,λk hk=>eF (γ k hk) ζ,fun ρ H3 f3 δ ω=>?_⟩;refine tT (ns:=O j) (SqL.of (δ.get β)) (SqL.of ω) ?_;have η:=δ.get β;lia;intro D υ;refine bQ (xs:=(O j).map nat) (λi ys H'=>Cs (λi ys=>ys=[]) H3 D i ys H') (Cs.zero υ rfl) (λi ys H' _ c=>SqL.of (c.same.get η)) (λi x ys H' ο c=>?_) (λys H4 c=>?_)
  ·obtain⟨k,hk,rfl⟩:=aX ο;have τ:=γ k (eO hk);lia;dsimp only;rw[hJ (show(k:Int) < (Y:Int) by omega)];exact Cs.skip c.same c.at' c.len c.pv
  have θ:=c.at';rw[c.pv] at θ;have ι:=c.same;clear c;lia;intro L2 α f5 ν ψ;refine tT (ns:=[]) (SqL.of (ν.get θ)) (SqL.of ψ) ?_;lia;exact s'.trans (δ.trans (ι.trans ν))
 ·rintro σ H' ⟨v,rfl,s'⟩;lia;exact q H' s'
theorem r9 (T:Tx K mg a):FnOk P w K mg base CX0 4 a.dD a.nS ["_law_tables","_law_others","_law_told"] vv:=by
 refine T.iI.1.okA eW fun χ A outer s H vs Q E ζ h=>?_;obtain⟨t,θ,n1,o1,η,Y,o2,m,i,u,γ,α,β,O,rfl,et,T1,T2,hl,fu,q⟩:=h;have Z:=rz ζ;have hi:=fu.hw;have ht:=fu.ht;rw[aw,aw] at ht;have m6:=T1.tab.m6;have ι:=T1.t
 refine⟨_,((ae (oY (pv 2) (g7 rfl (ax (aq (i:=3) eW.nd rfl @D) (ax (aq (i:=4) eW.nd rfl @D) (ax (aq (i:=5) eW.nd rfl @D) b7)))))
  (ae (dS ry rfl (b0 (by rfl) T.dr (aa (!A @F (pv 0) ag) af)) (aq (i:=6) eW.nd rfl @D) (ai (bz (aA (mY (K:=K) rfl Z) (aj (de T) ζ T.dP T.bT (!j 0 (!j 6 (!j 5 af)))) (aj (de T) ζ T.dP T.bT (!j 1 (!j 6 (!j 5 af)))) (aG _)) (ai (aB iU)) aF)))
  (ae (bz (PW.pt (gL (cq (aE (cu (K:=K) rfl) (by rfl) T.bb oL (!j 5 (aa (fi (v:= .ty "bool") (by rfl) T.xi Lr rfl) af)))) (gL (cq (aE (cu (K:=K) rfl) (by rfl) T.bb oL (!j 4 (aa (fi (v:= .ty "bool") (by rfl) T.xi Lr rfl) af)))) (dX (dj (wZ Fb zZ ag (pv 4) (!A @F (pv 0) ag))))))) (ai (aB iU)) aF)
  (ai (aB (gF (mY (K:=K) rfl Z) (aj (de T) ζ T.dP T.bT (!j 0 (!j 4 (aa (ao bC (pv 5) ag) af)))) (aj (de T) ζ T.dP T.bT (!j 1 (!j 4 (aa (ao bC (pv 5) ag) af)))) (aG _)))))))),aI (σ':=[aS _,aS _,aS _,eC,eC,eC,eC]) rfl ?_⟩
 lia;refine gx (λj σ H'=>∃v,σ=[aS (.ref θ),aS (.ref η),aS (.ref t),aS (.str "apart"),aS (nat i),aS (nat u),v]/\Same H H') ⟨eC,rfl,λ_ _ e=>e⟩ ?_ ?_
 ·rintro j σ H' π ⟨v,rfl,s'⟩;have π:j < m:=by omega
  lia;rw[show(0:Int) + (j:Int)=(j:Int) by omega];refine⟨θ,n1,o1,m,γ,α,j,u,rfl,T1.same s',@A,@A,fun ψ H2 ο ε ξ=>?_⟩;lia;refine⟨η,Y,o2,m,β,O,j,u,rfl,T2.same (s'.trans ε),@A,@A,fun ρ υ φ δ ν=>?_⟩;refine vB (SqL.of (δ.get ξ)) (SqL.of ν) ?_;rw[fA (λz=>z (lN.mpr λt ht=>fu.al t ht j π))];lia;exact s'.trans (ε.trans δ)
 ·rintro σ H' ⟨v,rfl,s'⟩;have τ:=s'.get ι;lia;dsimp only;rw[hJ (show(i:Int) < (m:Int) by omega)];lia;rw[show((u:Int) + 1)=((u + 1:Nat):Int) by omega];refine⟨θ,n1,o1,m,γ,α,i,u + 1,rfl,T1.same s',@A,@A,fun ψ H2 ο ε ξ=>?_⟩;lia;rw[show((u:Int) + 1)=((u + 1:Nat):Int) by omega];refine⟨η,Y,o2,m,β,O,i,u + 1,rfl,T2.same (s'.trans ε),@A,@A,fun ρ υ φ δ ν=>?_⟩;refine vB (SqL.of (δ.get ξ)) (SqL.of ν) ?_;have ne:M.wan (prs γ) (prs α) 0 (M.pulse i (u + 1))≠M.wan (prs β) (prs O) 0 (M.pulse i (u + 1)):=λz=>fu.un (lN.mp z u @A);rw[hJ ne];lia;exact q υ (s'.trans (ε.trans δ))
end
section
variable {P:oe} {w:sb} {K:aT} {mg:Dk} {base:u2} {a:Ad}
local macro_rules | `(tactic| walk_at "l2step") =>`(tactic| (with_reducible refine IA ?_))
theorem jX (T:Tx K mg a):FnOk P w K mg base CX0 1 a.eg a.pW ["_law_script","_law_k"] (wQ K):=by
 refine T.bE.1.okA tQ fun α A outer s H vs Q E β h=>?_;obtain⟨p,ns,k,rfl,γ,Z,q⟩:=h
 refine⟨_,((ae (bz (aA zZ (pv 1) (aE (aO (K:=K) rfl) (by rfl) T.fU q8 (!j 0 af)) (aG _)) (ai (aB (!A (cf (K:=K) rfl) (pv 0) (pv 1)))) aF)
  (ai (aB (ao bC (ao o6 ag (pv 1)) ag))))),aI (σ':=[aS _,aS _]) rfl ?_⟩
 lia;rw[eB];unfold cell at q;refine ite2 (λO=>?_) (λO=>?_)
 ·have O:=Km O
  have ha:atI (ns.map V.int) k=aS (.int (ns.getD k.toNat 0)):=by
   obtain⟨j,rfl⟩:=KU Z;have Y:j < ns.length:=by omega
   exact fY (by rw[f',b' Y,ee,pT,b' Y];rfl)
  rw[px O] at q;lia;exact q
 ·have O:¬k < ns.length:=λz=>O (hJ z);rw[ko O] at q;lia;exact q
theorem cx (T:Tx K mg a):FnOk P w K mg base CX0 1 a.fX a.rC ["_law_cell_here","_law_k"] Dx:=by
 refine T.a9.1.okA lg fun α A outer s H vs Q E γ h=>?_;obtain⟨c,k,rfl,δ,h1,q⟩:=h
 refine⟨_,((ae (av (i:=2) lg.nd rfl @D (ao bP (ao bC (ao bC (ao o6 (ao bP (pv 0) ag) ag) (ao o6 ag (pv 1))) ag) ag))
  (ae (av (i:=2) lg.nd rfl @D (ao bP (ao o6 (pv 2) (pv 2)) ag))
  (ai (aB (ao bP (ao o6 (pv 2) (ao bC (ao bC (pv 2) (ao o6 ag (pv 1))) ag)) ag)))))),aI (σ':=[aS _,aS _,eC]) rfl ?_⟩
 lia;show Q (.int _) H;generalize β:(_:Int) * (_ + 48271 * k + 7)=x;have Y:0<=x % 2147483587:=LB _ @C;have O:x % 2147483587 < 2147483587:=L0 _ @C;obtain⟨j,Z⟩:=KU Y;rw[Z] at O ⊢;exact q j @A
local macro_rules | `(tactic| walk_at "l2step") =>`(tactic| first | ((with_reducible refine' ka ?e ?a ?_);(case e=>walk_at "l2hp");(case a=>walk_at "l2side")) | ((with_reducible refine' sP ?a ?b ?_);(case a=>walk_at "l2side");(case b=>walk_at "l2side");(with_reducible intro _ _)))
local macro_rules | `(tactic| walk_at "l2step") =>`(tactic| first | (with_reducible refine Gs ?_))
theorem gO (T:Tx K mg a):FnOk P w K mg base CX0 2 a.dB a.nO ["_law_cell_here","_law_start","_law_many","_law_width","_law_digits"] zi:=by
 refine T.dH.1.okA eV fun φ A outer s H vs Q E ο h=>?_;obtain⟨c,st,n,O,dg,rfl,ν,hn,hw,q⟩:=h;have τ:n * O<=1024:=Jx (On hn hw) @C;have Z:(1:Int) * 2 ^ ((O:Int).toNat)=((2 ^ O:Nat):Int):=shl1 O;have ρ:=lz O;have η:2 ^ O<=2 ^ 16:=gs @C hw;have θ:(n:Int) * (O:Int) + 1=((n * O + 1:Nat):Int):=by push_cast;rfl
 have Y:(1:Int) * 2 ^ (((n * O + 1:Nat):Int).toNat)=((2 ^ (n * O + 1):Nat):Int):=shl1 _;have ε:=lz (n * O + 1)
 refine⟨_,((ae (av (i:=5) eV.nd rfl @D (dU af))
  (ae (av (i:=6) eV.nd rfl @D (ao fm (ao bP (pv 0) (ao bM ag (ao bC (ao o6 (pv 2) (pv 3)) ag))) ag))
  (ae (dS ry rfl (b0 (by rfl) T.dr (!j 2 af)) (aq (i:=7) eV.nd rfl @D) (ai (bz (cq (pv 4)) (ae (fg (lX (K:=K) rfl y5 J8 zP dZ (pv 5) (aa (ao bP (pv 6) (ao bM ag (pv 3))) af)))
  (ai (av (i:=6) eV.nd rfl @D (ao fm (pv 6) (ao bM ag (pv 3)))))) (ai (fg (lX (K:=K) rfl y5 J8 zP dZ (pv 5) (aa (ao bP (aj (cx T) ο T.bx T.a9 (!j 0 (aa (ao bC (pv 1) (pv 7)) af))) (ao bM ag (pv 3))) af)))))))
  (ai (aB (pv 5))))))),aI (σ':=[aS _,aS _,aS _,aS _,aS _,eC,eC,eC]) rfl ?_⟩
 lia;intro D H1 ζ ι e1;lia;rw[θ];lia;rw[Y];lia;refine gx (λi σ H'=>∃(l:Int) (v:nk V) (ms:D'),σ=[aS (.int c),aS (nat st),aS (nat n),aS (nat O),aS (.bl dg),aS (.ref D),aS (.int l),v]/\Same H H'/\H' D=aS (.lst (ms.map nat))/\ms.length=i/\∀x∈ms,x < 2 ^ O) ⟨_,eC,[],rfl,ι,e1,rfl,λ_ h=>gd h @E⟩ ?_ ?_
 ·rintro i σ H' hi ⟨l,v,ms,rfl,β,γ,el,hb⟩;have υ:i < n:=by omega
  clear Y ε θ;cases dg with
  | true=>
    lia;rw[Z];obtain⟨k,hk,π⟩:=ku (c:=l) (m:=((2 ^ O:Nat):Int)) @A;lia;rw[hk];refine iy γ (by rw[eB,kv];omega) fun χ α=>?_;lia;rw[Z];lia;refine⟨_,_,ms++[k],rfl,λb o e=>α.oth _ _ (ar e ζ) (β.get e),?_,by rw[eH,el];rfl,λx δ=>?_⟩
    ·rw[α.at',hF];rfl
    ·rcases lh.mp δ with h | h
     ·exact hb x h
     ·rw[fk.mp h];omega
  | false=>
    lia;rename_i r ξ;rw[Z];obtain⟨k,hk,π⟩:=ku (c:=(r:Int)) (m:=((2 ^ O:Nat):Int)) @A;lia;rw[hk];refine iy γ (by rw[eB,kv];omega) fun χ α=>?_;lia;refine⟨_,_,ms++[k],rfl,λb o e=>α.oth _ _ (ar e ζ) (β.get e),?_,by rw[eH,el];rfl,λx δ=>?_⟩
    ·rw[α.at',hF];rfl
    ·rcases lh.mp δ with h | h
     ·exact hb x h
     ·rw[fk.mp h];omega
 ·rintro σ H' ⟨l,v,ms,rfl,β,γ,el,hb⟩;lia;exact q D H' ms ζ β γ @A hb
theorem o9 (T:Tx K mg a):FnOk P w K mg base CX0 2 a.cD a.kT ["_law_masks_here","_law_cell_here","_law_start","_law_way"] BB:=by
 refine T.gi.1.okA bZ λa4 A outer s H vs Q E hr h=>?_;obtain⟨r,ms,c,st,η,β,rfl,hp,a0,hw,hl,hb,q⟩:=h
 refine⟨_,((ae (av (i:=4) bZ.nd rfl @D (dU af))
  (ae (dS ry rfl (ji (K:=K) rfl (by rfl) T.cy (pv 0)) (g7 rfl (ax (aq (i:=5) bZ.nd rfl @D) (ax (aq (i:=6) bZ.nd rfl @D) b7))) (iO (bz (aA iu (pv 3) ag (aG _)) (ai (av (i:=6) bZ.nd rfl @D (ao dY (pv 6) (aj (cx T) hr T.bx T.a9 (!j 1 (aa (ao bC (pv 2) (pv 5)) af)))))) aF)
  (iO (bz (PW.pt (tV (aA iu (pv 3) ag (aG _)) (oX (aA o7 (pv 5) ag (aG _))))) (ai (av (i:=6) bZ.nd rfl @D (ao bM ag (ao kL (pv 5) ag)))) aF)
  (iO (bz (aA iu (pv 3) ag (aG _)) (ai (av (i:=6) bZ.nd rfl @D (ao dY (pv 6) (!A (cf (K:=K) rfl) (dU (aa ag (aa ag af))) (ao bP (pv 5) ag))))) aF)
  (ai (fg (lX (K:=K) rfl y5 J8 zP dZ (pv 4) (!j 6 af))))))))
  (ai (aB (pv 4)))))),aI (σ':=[aS _,aS _,aS _,aS _,eC,eC,eC]) rfl ?_⟩
 lia;intro D H1 ψ s1 e1;lia;refine mz (xs:=ms.map nat) (λi σ H'=>∃(v θ:nk V) (Z:D'),σ=[aS (.ref r),aS (.int c),aS (nat st),aS (nat η),aS (.ref D),v,θ]/\Same H H'/\H' D=aS (.lst (Z.map nat))/\Z.length=i/\∀x∈Z,x < 2 ^ β) ⟨eC,eC,[],rfl,s1,e1,rfl,λ_ h=>gd h @E⟩ (λi σ H' _ ⟨_,_,_,_,e,_⟩=>SqL.of (e.get hp)) ?_ ?_
 ·rintro i y σ H' p ρ hy ⟨v,θ,Z,rfl,ι,π,el,α⟩ fp φ O;obtain⟨x,χ,rfl⟩:=aX hy;have hi:=(dt.mp χ).1;have γ:=hb x (eO χ);have ο:=φ.get π;lia;refine qj (fun σ H2=>ρ=H2/\∃x:Nat,x < 2 ^ β/\σ=[aS (.ref r),aS (.int c),aS (nat st),aS (nat η),aS (.ref D),aS (nat i),aS (nat x)]) ?_ ?_
  ·lia;refine iteB (fun ζ=>?_) (fun ζ=>?_)
   ·lia;rw[a8];exact⟨_,v3 Lh γ,rfl⟩
   ·lia;exact⟨_,γ,rfl⟩
  ·rintro σ H2 ⟨rfl,x2,Y,rfl⟩;lia;refine qj (fun σ H2=>ρ=H2/\∃x:Nat,x < 2 ^ β/\σ=[aS (.ref r),aS (.int c),aS (nat st),aS (nat η),aS (.ref D),aS (nat i),aS (nat x)]) ?_ ?_
   ·lia;refine iteB (fun ζ=>?_) (fun ζ=>?_)
    ·lia;refine iteB (fun ε=>?_) (fun ε=>?_)
     ·have a3:0 < i:=by have:=Km ε;omega
      have e1:(i:Int) - 1=((i - 1:Nat):Int):=by omega
      lia;rw[e1];lia;rw[shl1];exact⟨_,rn @C (show i - 1 < β by omega),rfl⟩
     ·lia;exact⟨_,Y,rfl⟩
    ·lia;exact⟨_,Y,rfl⟩
   ·rintro σ H2 ⟨rfl,x3,δ,rfl⟩;lia;refine qj (fun σ H2=>Same ρ H2/\∃x:Nat,x < 2 ^ β/\σ=[aS (.ref r),aS (.int c),aS (nat st),aS (nat η),aS (.ref D),aS (nat i),aS (nat x)]) ?_ ?_
    ·lia;refine iteB (fun ζ=>?_) (fun ζ=>?_)
     ·lia;intro D8 H8 f8 τ e8
      have ν:∃k:Nat,atI [V.int 43690,.int 21845] ((i:Int) % 2)=aS (nat k):=by
       rcases Int.emod_two_eq (i:Int) with h | h<;>rw[h]
       ·exact⟨43690,rfl⟩
       ·exact⟨21845,rfl⟩
      obtain⟨k,hk⟩:=ν;lia;rw[a8];exact⟨τ,_,v3 Lh δ,rfl⟩
     ·lia;exact⟨Same.refl _,_,δ,rfl⟩
    ·rintro σ H2 ⟨τ,ω,ξ,rfl⟩;lia;refine iy (τ.get ο) (by rw[eB,kv];omega) λH9 υ=>?_;lia;refine⟨_,_,Z++[ω],rfl,λb o e=>υ.oth _ _ (ar e ψ) (τ.get (φ.get (ι.get e))),?_,by rw[eH,el];rfl,λz hz=>?_⟩
     ·rw[υ.at',hF];rfl
     ·rcases lh.mp hz with h | h
      ·exact α z h
      ·rw[fk.mp h];exact ξ
 ·rintro σ H' ⟨v,θ,Z,rfl,ι,π,el,α⟩;rw[eB] at el;lia;exact q D H' Z ψ ι π el α
theorem jW (T:Tx K mg a):FnOk P w K mg base CX0 3 a.cF a.kW ["_law_script","_law_start","_law_most"] (BC K):=by
 have dG:=@jX P w K mg base a T;have fZ:=@cx P w K mg base a T;refine T.d0.1.okA aC λm0 A outer s H vs Q E η h=>?_;obtain⟨p,ns,st,mo,rfl,hS,l0,l6,q⟩:=h
 refine⟨_,((ae (av (i:=3) aC.nd rfl @D (aj dG η T.cB T.bE (!j 0 (!j 1 af))))
  (ae (av (i:=4) aC.nd rfl @D (ao bP (ao fm (pv 3) ag) (ao bC (pv 2) ag)))
  (iO (bz (aA iu (ao bP (ao fm (pv 3) ag) ag) ag (aG _)) (ai (av (i:=4) aC.nd rfl @D (ao bP (ao fm (pv 3) ag) ag))) aF)
  (ae (av (i:=5) aC.nd rfl @D (ao bP (aj fZ η T.bx T.a9 (!j 3 (aa ag af))) ag))
  (ae (av (i:=6) aC.nd rfl @D (ao bP (aj fZ η T.bx T.a9 (!j 3 (aa ag af))) ag))
  (iO (bz (aA iu (ao bP (ao fm (pv 3) ag) ag) ag (aG _)) (ae (av (i:=5) aC.nd rfl @D (ao bP (aj fZ η T.bx T.a9 (!j 3 (aa ag af))) ag))
  (ai (av (i:=6) aC.nd rfl @D (ao bP (aj fZ η T.bx T.a9 (!j 3 (aa ag af))) ag)))) aF)
  (ae (av (i:=7) aC.nd rfl @D (gF iu (ao bP (pv 3) ag) ag (aG _)))
  (ae (av (i:=8) aC.nd rfl @D (ao bP (aj fZ η T.bx T.a9 (!j 3 (aa ag af))) ag))
  (ae (av (i:=9) aC.nd rfl @D (aj (gO T) η T.iD T.dH (aa (aj dG η T.cB T.bE (!j 0 (aa (ao bC (pv 1) ag) af))) (aa ag (!j 4 (!j 4 (!j 7 af)))))))
  (ae (av (i:=10) aC.nd rfl @D (aj (gO T) η T.iD T.dH (aa (aj dG η T.cB T.bE (!j 0 (aa (ao bC (pv 1) ag) af))) (aa ag (!j 4 (!j 5 (!j 7 af)))))))
  (iO (bz (dj (cq (pv 7))) (ae (av (i:=9) aC.nd rfl @D (aj (o9 T) η T.qM T.gi (!j 9 (aa (aj dG η T.cB T.bE (!j 0 (aa (ao bC (pv 1) ag) af))) (aa ag (!j 8 af))))))
  (ai (bz (aA o7 (pv 8) ag (aG _)) (ai (cK (osc:=ah dc) (ON:=n16) (N:=n7) (n:=2) (fx:=[0,1]) (i:=10) aC.nd rfl rfl rfl rfl rfl rfl @G (ji (K:=K) rfl (by rfl) T.cy (pv 10)) (mq (cj (aN @C) (cj (aN @C) jm))) (λ_ _ _ _ _=>⟨(jj (K:=K) (n:=2) rfl rfl (ax (aq (i:=0) (show q3 (n7:C') from by decide +kernel) rfl @D) (ax (aq (i:=1) (show q3 (n7:C') from by decide +kernel) rfl @D) b7))),bB,(ao dY (pv 1) (aj fZ η T.bx T.a9 (aa (aj dG η T.cB T.bE (!j 2 (aa (ao bC (pv 3) ag) af))) (aa (ao bC ag (pv 0)) af))))⟩))) aF))) aF)
  (ae (av (i:=11) aC.nd rfl @D (aj (gO T) η T.iD T.dH (aa (aj dG η T.cB T.bE (!j 0 (aa (ao bC (pv 1) ag) af))) (aa ag (!j 6 (!j 4 (!j 7 af)))))))
  (ae (av (i:=12) aC.nd rfl @D (aj (gO T) η T.iD T.dH (aa (aj dG η T.cB T.bE (!j 0 (aa (ao bC (pv 1) ag) af))) (aa ag (!j 6 (!j 5 (!j 7 af)))))))
  (iO (bz (PW.pt (tV (dj (cq (pv 7))) (oX (aA o7 (pv 8) ag (aG _))))) (ai (cK (osc:=ah dc) (ON:=n16) (N:=n7) (n:=2) (fx:=[0,1]) (i:=11) aC.nd rfl rfl rfl rfl rfl rfl @G (ji (K:=K) rfl (by rfl) T.cy (pv 11)) (mq (cj (aN @C) (cj (aN @C) jm))) (λ_ _ _ _ _=>⟨(jj (K:=K) (n:=2) rfl rfl (ax (aq (i:=0) (show q3 (n7:C') from by decide +kernel) rfl @D) (ax (aq (i:=1) (show q3 (n7:C') from by decide +kernel) rfl @D) b7))),bB,(ao dY (pv 1) (aj fZ η T.bx T.a9 (aa (aj dG η T.cB T.bE (!j 2 (aa (ao bC (pv 3) ag) af))) (aa (ao bC ag (pv 0)) af))))⟩))) aF)
  (iO (bz (PW.pt (tV (dj (cq (pv 7))) (oX (aA o7 (pv 8) ag (aG _))))) (ai (cK (osc:=ah dc) (ON:=n16) (N:=["_law_mask"]) (n:=1) (fx:=[]) (i:=12) aC.nd rfl rfl rfl rfl rfl rfl @G (aW (K:=K) rfl (pv 12)) (aN @C) (λ_ _ _ _ _=>⟨(aq (i:=0) (show q3 (["_law_mask"]:C') from by decide +kernel) rfl @D),bB,ag⟩))) aF)
  (ai (aB (cH (!j 5 (aa (mX (K:=K) rfl rfl (by rfl) (by rfl) T.hX T.Fg (pv 9) (pv 10)) (aa (mX (K:=K) rfl rfl (by rfl) (by rfl) T.hX T.Fg (pv 11) (pv 12)) af)))))))))))))))))))))),aI (σ':=[aS _,aS _,aS _,eC,eC,eC,eC,eC,eC,eC,eC,eC,eC]) rfl ?_⟩
 lia;obtain⟨S0,eS,lS⟩:=ku (c:=cell ns (st:Int) / 2) (m:=(mo:Int) + 1) @A;rw[eS];generalize cell ns (st:Int)=c;refine qj (fun σ H2=>H=H2/\∃S:Nat,S<=16/\σ=[aS (.ref p),aS (nat st),aS (nat mo),aS (.int c),aS (nat S),eC,eC,eC,eC,eC,eC,eC,eC]) ?_ ?_
 ·lia;refine iteB (λhc=>?_) (λhc=>?_)
  ·lia;obtain⟨k,hk,π⟩:=ku (c:=c / 512) (m:=17) @C;rw[hk];exact⟨_,@A,rfl⟩
  ·lia;exact⟨_,@A,rfl⟩
 ·rintro σ H2 ⟨rfl,S,a4,rfl⟩;clear eS lS;lia;rename_i r1 h1 r2 h2;have ei:(r1:Int) % 4=((r1 % 4:Nat):Int):=by omega
  have ω:(r2:Int) % 4=((r2 % 4:Nat):Int):=by omega
  rw[ei,ω];refine qj (fun σ H2=>H=H2/\∃I O:Nat,(I<=6/\O<=6)/\σ=[aS (.ref p),aS (nat st),aS (nat mo),aS (.int c),aS (nat S),aS (nat I),aS (nat O),eC,eC,eC,eC,eC,eC]) ?_ ?_
  ·lia;refine iteB (λhc=>?_) (λhc=>?_)
   ·lia;rename_i r3 h3 r4 h4;have ei:(r3:Int) % 7=((r3 % 7:Nat):Int):=by omega
    have ω:(r4:Int) % 7=((r4 % 7:Nat):Int):=by omega
    rw[ei,ω];exact⟨_,_,⟨@A,@A⟩,rfl⟩
   ·lia;exact⟨_,_,⟨@A,@A⟩,rfl⟩
  ·rintro σ H2 ⟨rfl,I,O,⟨hI,hO⟩,rfl⟩;clear ei ω h1 h2;lia;rename_i r5 θ;have ew:(r5:Int) % 5=((r5 % 5:Nat):Int):=by omega
   rw[ew];generalize g5:r5 % 5=wy;have k6:wy < 5:=by omega
   generalize h0:decide (V.int (c % 2)=V.int 0)=dg;clear ew g5 h0 θ;refine⟨_,100,S,S,dg,rfl,@C,@A,a4,fun υ H1 τ f1 s1 e1 l1 b1=>?_⟩;have d1:=Same.seq s1 hS;lia;refine⟨_,140,S,I,dg,rfl,@C,@A,@A,λD2 H2 χ ο s2 e2 l2 b2=>?_⟩;have c4:=Same.seq s2 d1;have e0:=s2.get e1;lia;refine qj (fun σ H3=>∃(υ D2:eh) (τ χ:D'),σ=[aS (.ref p),aS (nat st),aS (nat mo),aS (.int c),aS (nat S),aS (nat I),aS (nat O),aS (.bl dg),aS (nat wy),aS (.ref υ),aS (.ref D2),eC,eC]/\Same H H3/\H3 υ=aS (.lst (τ.map nat))/\H3 D2=aS (.lst (χ.map nat))/\τ.length=S/\χ.length=S/\(∀x∈τ,x < 2 ^ S)/\∀x∈χ,x < 2 ^ I) ?_ ?_
   ·lia;cases dg with
    | true=>
      lia;exact⟨υ,D2,τ,χ,rfl,s1.trans s2,e0,e2,l1,l2,b1,b2⟩
    | false=>
      lia;refine⟨υ,τ,_,180,wy,S,rfl,e0,@C,a4,@A,b1,λD3 H3 c0 f3 s3 e3 l3 b3=>?_⟩;have d2:=s3.get e2;have a5:=Same.seq s3 c4;lia;refine iteB (λhc=>?_) (λhc=>?_)
      ·lia;intro D hD;refine kC (xs:=χ.map nat) (λi ys H'=>Cs (λi ys=>∃ι:D',ys=ι.map nat/\ι.length=i/\∀x∈ι,x < 2 ^ I) H3 D i ys H') (Cs.zero hD ⟨[],rfl,rfl,λ_ h=>gd h @E⟩) (λi ys H' _ c=>SqL.of (c.same.get d2)) (λi v ys H' p' H7 hv β fp s7 e7=>?_) (λys H' β=>?_)
       ·obtain⟨x,hx,rfl⟩:=aX hv;obtain⟨ι,a0,ψ,a3⟩:=β.pv;have hi:=(dt.mp hx).1;have h6:=Same.seq s7 (Same.seq β.same a5);lia;rw[a8];refine Cs.put hD (β.same.trans s7) (s7.get β.at') β.len @A ⟨ι++[_],by rw[a0,hF];rfl,by rw[eH,ψ];rfl,λz hz=>?_⟩;rcases lh.mp hz with h | h
        ·exact a3 z h
        ·rw[fk.mp h];exact v3 Lh (b2 x (eO hx))
       ·obtain⟨ι,a0,ψ,a3⟩:=β.pv;rw[eB] at ψ;have ec:=β.at';rw[a0] at ec;exact⟨D3,D,c0,ι,rfl,s1.trans (s2.trans (s3.trans β.same)),β.same.get e3,ec,@A,@A,b3,a3⟩
      ·lia;exact⟨D3,D2,c0,χ,rfl,s1.trans (s2.trans s3),e3,d2,@A,l2,b3,b2⟩
   ·rintro σ H3 ⟨υ,D2,τ,χ,rfl,s3,e1,e2,l1,l2,b1,b2⟩;have a5:=Same.seq s3 hS;lia;refine⟨_,260,O,S,dg,rfl,@C,@A,a4,fun φ H4 ξ f4 s4 e4 l4 b4=>?_⟩;have α:=Same.seq s4 a5;lia;refine⟨_,280,O,I,dg,rfl,@C,@A,@A,λD5 H5 ε f5 ν e5 l5 b5=>?_⟩;have c2:=Same.seq ν α;have ρ:=ν.get e4;lia;refine qj (fun σ H6=>∃(φ:eh) (ξ:D'),σ=[aS (.ref p),aS (nat st),aS (nat mo),aS (.int c),aS (nat S),aS (nat I),aS (nat O),aS (.bl dg),aS (nat wy),aS (.ref υ),aS (.ref D2),aS (.ref φ),aS (.ref D5)]/\Same H5 H6/\H6 φ=aS (.lst (ξ.map nat))/\ξ.length=O/\∀x∈ξ,x < 2 ^ S) ?_ ?_
    ·lia;refine iteB (λhc=>?_) (λhc=>?_)
     ·lia;refine iteB (λhc=>?_) (λhc=>?_)
      ·lia;intro D hD;refine kC (xs:=ξ.map nat) (λi ys H'=>Cs (λi ys=>∃ι:D',ys=ι.map nat/\ι.length=i/\∀x∈ι,x < 2 ^ S) H5 D i ys H') (Cs.zero hD ⟨[],rfl,rfl,λ_ h=>gd h @E⟩) (λi ys H' _ c=>SqL.of (c.same.get ρ)) (λi v ys H' p' H7 hv β fp s7 e7=>?_) (λys H' β=>?_)
       ·obtain⟨x,hx,rfl⟩:=aX hv;obtain⟨ι,a0,ψ,a3⟩:=β.pv;have hi:=(dt.mp hx).1;have h6:=Same.seq s7 (Same.seq β.same c2);lia;rw[a8];refine Cs.put hD (β.same.trans s7) (s7.get β.at') β.len @A ⟨ι++[_],by rw[a0,hF];rfl,by rw[eH,ψ];rfl,λz hz=>?_⟩;rcases lh.mp hz with h | h
        ·exact a3 z h
        ·rw[fk.mp h];exact v3 Lh (b4 x (eO hx))
       ·obtain⟨ι,a0,ψ,a3⟩:=β.pv;rw[eB] at ψ;have ec:=β.at';rw[a0] at ec;exact⟨D,ι,rfl,β.same,ec,@A,a3⟩
      ·lia;exact⟨φ,ξ,rfl,Same.refl _,ρ,l4,b4⟩
     ·lia;exact⟨φ,ξ,rfl,Same.refl _,ρ,l4,b4⟩
    ·rintro σ H6 ⟨φ,ξ,rfl,s6,e4,l4,b4⟩;have b6:=s6.get e5;have h8:=s6.get (ν.get (s4.get e1));have h7:=s6.get (ν.get (s4.get e2));have e6:=s3.trans (s4.trans (ν.trans s6));clear d1 c4 a5 α c2 ρ;lia;refine qj (fun σ H7=>∃(D5:eh) (ε:D'),σ=[aS (.ref p),aS (nat st),aS (nat mo),aS (.int c),aS (nat S),aS (nat I),aS (nat O),aS (.bl dg),aS (nat wy),aS (.ref υ),aS (.ref D2),aS (.ref φ),aS (.ref D5)]/\Same H6 H7/\H7 D5=aS (.lst (ε.map nat))/\ε.length=O/\∀x∈ε,x < 2 ^ I) ?_ ?_
     ·lia;refine iteB (λhc=>?_) (λhc=>?_)
      ·lia;refine iteB (λhc=>?_) (λhc=>?_)
       ·lia;intro D hD;refine bQ (xs:=ε.map nat) (λi ys H'=>Cs (λi ys=>ys=(ra i 0).map nat) H6 D i ys H') (Cs.zero hD rfl) (λi ys H' _ c=>SqL.of (c.same.get b6)) (λi v ys H' hv β=>?_) (λys H' β=>?_)
        ·have hi:=(dt.mp hv).1;rw[eB] at hi;lia;refine Cs.put hD β.same β.at' β.len @A ?_;rw[β.pv,Ph,hF];rfl
        ·have ec:=β.at';rw[β.pv,eB] at ec;refine⟨D,ra ε.length 0,rfl,β.same,ec,by rw[Ku];exact l5,λx hx=>?_⟩;rw[List.eq_of_mem_replicate hx];exact lz _
       ·lia;exact⟨D5,ε,rfl,Same.refl _,b6,l5,b5⟩
      ·lia;exact⟨D5,ε,rfl,Same.refl _,b6,l5,b5⟩
     ·rintro σ H7 ⟨D5,ε,rfl,s7,e5,l5,b5⟩;lia;refine⟨υ,D2,τ.map nat,χ.map nat,rfl,rfl,SqL.of (s7.get h8),SqL.of (s7.get h7),by rw[eB,eB];omega,λDn pn H8 f8 s8 e8 g3 t8=>?_⟩;obtain⟨nx,Y,f6,g4,mn⟩:=yT @A g3 t8;rw[<-Y] at e8;lia;refine⟨φ,D5,ξ.map nat,ε.map nat,rfl,rfl,SqL.of (s8.get (s7.get e4)),SqL.of (s8.get e5),by rw[eB,eB];omega,λDo po H9 ζ s9 e9 f7 t9=>?_⟩;obtain⟨os,ro,f0,Z,c1⟩:=yT @A f7 t9;rw[<-ro] at e9;lia;intro t k4 l7 γ j7;have a6:=e6.trans s7;refine q t Dn Do k4 I nx os (a6.trans (s8.trans (s9.trans γ))) (sI a6 f8) (sI (a6.trans s8) ζ) ⟨j7,hI,γ.get (s9.get e8),γ.get e9,(f6.same s9).same γ,f0.same γ,by omega,by omega,fun δ g6=>?_⟩ @A;rw[g4,l1];rcases lh.mp g6 with h | h
      ·exact⟨b1 _ (mn δ h).1,b2 _ (mn δ h).2⟩
      ·exact⟨b4 _ (c1 δ h).1,b5 _ (c1 δ h).2⟩
end
local macro_rules | `(tactic| walk_at "l2step") =>`(tactic| first | ((with_reducible refine' ka ?e ?a ?_);(case e=>walk_at "l2hp");(case a=>walk_at "l2side")) | ((with_reducible refine' sP ?a ?b ?_);(case a=>walk_at "l2side");(case b=>walk_at "l2side");(with_reducible intro _ _)))
section
variable {P:oe} {w:sb} {K:aT} {mg:Dk} {base:u2} {a:Ad}
local macro_rules | `(tactic| walk_at "l2step") =>`(tactic| first | ((with_reducible refine' ip ?e ?_);(case e=>walk_at "l2kind")) | ((with_reducible refine' j9 ?e ?_);(case e=>walk_at "l2kind")) | (with_reducible refine gf ?_) | (with_reducible refine iK ?_))
local macro_rules | `(tactic| walk_at "l2step") =>`(tactic| first | (with_reducible refine s_iZip ?_) | (with_reducible refine vC ?_))
theorem se (T:Tx K mg a):FnOk P w K mg base CX0 4 a.dE a.nT ["_law_tables","_law_others","_law_told"] vw:=by
 refine T.iJ.1.okA bc λg3 A outer s H vs Q E ξ h=>?_;obtain⟨t,η,Db,Du,Z,n1,o1,t2,Y,o2,ts,bs,us,m,ζ,b3,ι,a6,rfl,ak,T1,T2,hl,al,q⟩:=h;have d1:=rz ξ;have b4:=vD ξ;have m6:=T1.tab.m6
 have jo:M.Jo (prs ζ) (prs ι):=⟨λq hq=>by
   obtain⟨r,ξ,rfl⟩:=w2.mp hq;rw[aw];exact(T1.tab.bn r (oD _ ξ)).1,λq hq=>by
   obtain⟨r,ξ,rfl⟩:=w2.mp hq;rw[aw];exact(T2.tab.bn r (oD _ ξ)).1,by rw[aw,aw];omega⟩
 have few:=M.prs2_few (prs ζ) (prs ι) m;rw[aw,aw] at few;obtain⟨rows,τ⟩:∃rows,rows=M.prs2 (prs ζ) (prs ι) m:=⟨_,rfl⟩;have ls:=ak.ls;have lu:=ak.lu;have lb:=ak.lb;rw[<-τ] at few ls lu;have ef:=ak.t;have b6:=T1.t;have es:=ak.s;have eb:=ak.b;have eu:=ak.u;have sa:=ak.sa;rw[aw,<-τ] at sa
 have a0:∀{x:Nat},(x=0∨x∈rows)->∀{r:Nat},r < 2 ^ m->∀k∈M.pl 1000 (sfq rows (M.tr2 (M.jn (prs ζ) (prs ι)) x r)),k < rows.length:=λ{x} hx {r} a5=>by
  have sp:M.Span rows (M.tr2 (M.jn (prs ζ) (prs ι)) x r):=by
   rw[τ] at hx ⊢;exact oZ (q:=0) hx a5
  exact M.pl_lt (zc (by rw[τ];exact M.fR_inj _) sp).lt
 have fol:∀{x:Nat},(x=0∨x∈rows)->∀{r:Nat},r < 2 ^ m->_:=λ{x} hx {r} a5=>Hw (m:=m) ts jo @A al (by rw[<-τ];exact hx) a5;rw[<-τ] at fol;have φ:∀{x n:Nat},n<=60->x < 2 ^ n->x < 2 ^ 128:=λ{x n} hn hx=>eF hx (gs @C @A)
 have ψ:∀{j:Nat},j < rows.length->rows.getD j 0∈rows:=λ{j} hj=>by
  rw[ee,b' hj];exact KZ hj
 refine⟨_,((ae (oY (pv 2) (g7 rfl (ax (aq (i:=3) bc.nd rfl @D) (ax (aq (i:=4) bc.nd rfl @D) (ax (aq (i:=5) bc.nd rfl @D) (ax (aq (i:=6) bc.nd rfl @D) b7))))))
  (ae (bz (dj (cq (aE (cu (K:=K) rfl) (by rfl) T.bb oL (!j 4 (aa (fi (v:= .ty "list") (by rfl) T.hX u1 rfl) af))))) (ai (aB iU)) aF)
  (ae (bz (aA (mY (K:=K) rfl d1) (g8 (osc:=ah iz) (ON:=["_law_tables","_law_others","_law_told","_law_word","_law_pairs","_law_begins","_law_sums","_law_which","_law_one","_law_other_here","_law_k","_law_pair"]) (N:=["_law_pair"]) (n:=1) (fx:=[]) rfl rfl rfl @G (aW (K:=K) rfl (pv 4)) (aN @C) (λ_ _ _ _ _=>⟨(aq (i:=0) (show q3 (["_law_pair"]:C') from by decide +kernel) rfl @D),(rQ (PW.pt (gL (dj (cq (aE (cu (K:=K) rfl) (by rfl) T.bb oL (!j 0 (aa (fi (v:= .ty "tuple") (by rfl) T.pj KB rfl) af))))) (dX (aA kH (aE (aO (K:=K) rfl) (by rfl) T.fU q8 (!j 0 af)) ag (aG _)))))),(pv 0)⟩)) (dU af) (aG _)) (ai (aB iU)) aF)
  (ae (bz (PW.pt (gL (dj (cq (aj (kN T) ξ T.mx T.fF (!j 5 (aa (!A @F (pv 0) ag) (aa (aE (aO (K:=K) rfl) (by rfl) T.fU q8 (!j 4 af)) af)))))) (dX (dj (cq (aj (kN T) ξ T.mx T.fF (!j 6 (aa (aE (aO (K:=K) rfl) (by rfl) T.fU q8 (!j 4 af)) (aa (aE (aO (K:=K) rfl) (by rfl) T.fU q8 (!j 4 af)) af))))))))) (ai (aB iU)) aF)
  (ae (dS ry rfl (b0 (by rfl) T.dr (aa (!A @F (pv 0) ag) af)) (aq (i:=7) bc.nd rfl @D) (ae (av (i:=8) bc.nd rfl @D (lE (gu T) (ξ.mono @C) (by rfl) T.ia T.hZ T.eI .nil fj (!j 0 (aa ag (aa (ao bM ag (pv 7)) af)))))
  (ae (av (i:=9) bc.nd rfl @D (lE (gu T) (ξ.mono @C) (by rfl) T.ia T.hZ T.eI .nil fj (!j 1 (aa ag (aa (ao bM ag (pv 7)) af)))))
  (ai (bz (PW.pt (gL (aA kH (!A @F (pv 8) ag) (!A @F (pv 9) ag) (aG _)) (dX (aA (rY (K:=K) rfl b4) (cH (aa (!A @F (pv 8) ag) (aa (!A @F (pv 9) ag) af))) (aj (kM T) ξ T.mw T.fE (!j 4 (aa (!A (cf (K:=K) rfl) (pv 5) (pv 7)) af))) (aG _))))) (ai (aB iU)) aF)))))
  (ae (dS ry rfl (ji (K:=K) rfl (by rfl) T.cy (pv 4)) (g7 rfl (ax (aq (i:=10) bc.nd rfl @D) (ax (aq (i:=11) bc.nd rfl @D) b7))) (ae (av (i:=8) bc.nd rfl @D (lE (gu T) (ξ.mono @C) (by rfl) T.ia T.hZ T.eI .nil fj (!j 0 (aa (!A @F (pv 11) ag) (aa ag af)))))
  (ae (av (i:=9) bc.nd rfl @D (lE (gu T) (ξ.mono @C) (by rfl) T.ia T.hZ T.eI .nil fj (!j 1 (aa (!A @F (pv 11) ag) (aa ag af)))))
  (ai (bz (PW.pt (gL (aA kH (!A @F (pv 8) ag) (!A @F (pv 9) ag) (aG _)) (dX (aA (rY (K:=K) rfl b4) (cH (aa (!A @F (pv 8) ag) (aa (!A @F (pv 9) ag) af))) (aj (kM T) ξ T.mw T.fE (!j 4 (aa (!A (cf (K:=K) rfl) (pv 6) (pv 10)) af))) (aG _))))) (ai (aB iU)) aF)))))
  (ai (aB iU))))))))),aI (σ':=[aS _,aS _,aS _,eC,eC,eC,eC,eC,eC,eC,eC,eC]) rfl ?_⟩
 lia;intro D hD;refine bQ (xs:=ts.map V.ref) (λi ys H'=>Cs (λi ys=>ys=[]) H D i ys H') (Cs.zero hD rfl) (λi ys H' _ c=>SqL.of (c.same.get es)) (λi x ys H' hx c=>?_) (λys H1 c=>?_)
 ·obtain⟨d,hd,rfl⟩:=aX hx;have ed:=c.same.get (sa i d hd);lia;exact Cs.skip c.same c.at' c.len c.pv
 have e1:=c.at';rw[c.pv] at e1;have s1:=c.same;clear c;lia;intro L2 H2 ο s2 e2;refine tT (ns:=[]) (SqL.of (s2.get e1)) (SqL.of e2) ?_;have θ:=s1.trans s2;have f1:=θ.get es;have f4:=θ.get eb;have e8:=θ.get eu;have f8:=θ.get b6;lia;rw[eB,ls];refine⟨Db,rows.length,bs,λj=>M.pl 1000 (sfq rows (M.tr2 (M.jn (prs ζ) (prs ι)) 0 (2 ^ j))),by rw[lb],f4,@A,λj d hd=>?_,λH3 s3=>?_⟩
 ·have hj:j < m:=by have:=(dt.mp hd).1;omega
  have h1:=θ.get (ak.ba j d hd);rw[<-τ] at h1;exact⟨h1,M.pl_rise _ _,a0 (.inl rfl) (rn @C hj)⟩
 have c0:=s3.get f1;lia;dsimp only;lia;rw[eB,ls];refine⟨Du,rows.length,us,λj=>M.pl 1000 (sfq rows (M.tr2 (M.jn (prs ζ) (prs ι)) (rows.getD j 0) 0)),by rw[lu],s3.get e8,@A,λj d hd=>?_,λH4 s4=>?_⟩
 ·have hj:j < rows.length:=by have:=(dt.mp hd).1;omega
  have h1:=(θ.trans s3).get (ak.ua j d hd);rw[<-τ] at h1;exact⟨h1,M.pl_rise _ _,a0 (.inr (ψ hj)) (lz _)⟩
 have ρ:=θ.trans (s3.trans s4);have γ:=ρ.get b6;lia;refine gx (λj σ H'=>∃(χ v8 v9:nk V),σ=[aS (.ref Z),aS (.ref t2),aS (.ref t),aS (.str "alike"),aS (.ref η),aS (.ref Db),aS (.ref Du),χ,v8,v9,eC,eC]/\Same H H') ⟨eC,eC,eC,rfl,ρ⟩ ?_ ?_
 ·rintro j σ H' hj ⟨χ,v8,v9,rfl,s'⟩;have hj:j < m:=by omega
  have υ:2 ^ j < 2 ^ m:=rn @C hj;have hf:=fol (.inl rfl) υ;have π:=a0 (.inl rfl) υ;have ε:M.lo ζ.length 0=0:=by unfold M.lo;rw[M3]
  rw[ε,Nd] at hf;have e0:atI (bs.map V.ref) (j:Int)=aS (.ref (bs.getD j 0)):=fY (by rw[f',ee,b' @A];rfl);have d2:bs[j]? =aS (bs.getD j 0):=by rw[ee,b' @A];rfl
  rw[show(0:Int) + (j:Int)=(j:Int) by omega];lia;rw[shl1];refine⟨Z,n1,o1,m,ζ,b3,0,2 ^ j,rfl,T1.same s',lz _,φ @A υ,λta H1 s1 e1=>?_⟩;lia;rw[shl1];refine⟨t2,Y,o2,m,ι,a6,0,2 ^ j,rfl,T2.same (s'.trans s1),lz _,φ @A υ,λtb H2 s2 e2=>?_⟩;have ω:=s2.get e1;rw[hf.1] at ω;have θ:=s'.trans (s1.trans s2);have f6:=θ.get eb;have c1:=θ.get es;lia;dsimp only;rw[ko @E];lia;intro tc H3 f3 s3 e3;have α:=θ.trans s3;have δ:=s3.get f6;have c0:=s3.get c1;lia;have hk:=α.get (ak.ba j _ d2);rw[<-τ] at hk;refine⟨η,bs.getD j 0,ζ.length,ts,rows,_,rfl,c0,ls,λj a h=>α.get (sa j a h),hk,π,λtd H4 s4 e4=>?_⟩;rw[hf.2.1,hf.2.2] at e4;refine tR (s4.get e3) e4 ?_;lia;exact⟨_,_,_,rfl,α.trans s4⟩
 ·rintro σ H' ⟨χ,v8,v9,rfl,s'⟩;have c1:=s'.get es;lia;refine mz (xs:=ts.map V.ref) (λj σ H'=>∃(χ v8 v9 a3 O:nk V),σ=[aS (.ref Z),aS (.ref t2),aS (.ref t),aS (.str "alike"),aS (.ref η),aS (.ref Db),aS (.ref Du),χ,v8,v9,a3,O]/\Same H H') ⟨χ,v8,v9,eC,eC,rfl,s'⟩ (λj σ H' _ ⟨_,_,_,_,_,_,s'⟩=>SqL.of (s'.get es)) ?_ ?_
  ·rintro j y σ H' pt H2 hy ⟨χ,v8,v9,a3,O,rfl,s'⟩ ft st et;obtain⟨d,hd,rfl⟩:=aX hy;have hj:j < rows.length:=by have:=(dt.mp hd).1;omega
   have b5:(0:Nat) < 2 ^ m:=lz _;have hf:=fol (.inr (ψ hj)) b5;have π:=a0 (.inr (ψ hj)) b5
   have c2:rows.getD j 0 < 2 ^ (ζ.length + ι.length):=by
    have:=M.prs2_lt (show rows.getD j 0∈M.prs2 (prs ζ) (prs ι) m by rw[<-τ];exact ψ hj);rwa [aw,aw] at this
   have s0:=s'.trans st;have ed:=s0.get (sa j d hd);have e0:atI (us.map V.ref) (j:Int)=aS (.ref (us.getD j 0)):=fY (by rw[f',ee,b' @A];rfl);have c4:us[j]? =aS (us.getD j 0):=by rw[ee,b' @A];rfl
   lia;refine⟨Z,n1,o1,m,ζ,b3,_,0,rfl,T1.same s0,φ @A (M.lo_lt _ _),lz _,λta H3 s3 e3=>?_⟩;have f9:=s3.get ed;lia;refine⟨t2,Y,o2,m,ι,a6,_,0,rfl,T2.same (s0.trans s3),φ @A (M.hi_lt c2),lz _,λtb H4 s4 e4=>?_⟩;have f7:=s4.get e3;rw[hf.1] at f7;have ρ:=s0.trans (s3.trans s4);have e7:=ρ.get eu;have f0:=ρ.get es;lia;dsimp only;rw[ko @E];lia;intro tc H5 f5 ν e5;have a4:=ρ.trans ν;have β:=ν.get e7;have e9:=ν.get f0;lia;have hk:=a4.get (ak.ua j _ c4);rw[<-τ] at hk;refine⟨η,us.getD j 0,ζ.length,ts,rows,_,rfl,e9,ls,λj a h=>a4.get (sa j a h),hk,π,λtd H6 s6 e6=>?_⟩;rw[hf.2.1,hf.2.2] at e6;refine tR (s6.get e5) e6 ?_;lia;exact⟨_,_,_,_,_,rfl,a4.trans s6⟩
  ·rintro σ H' ⟨χ,v8,v9,a3,O,rfl,s'⟩;lia;exact q H' s'
end
local macro_rules | `(tactic| walk_at "l2step") =>`(tactic| first | ((with_reducible refine' ka ?e ?a ?_);(case e=>walk_at "l2hp");(case a=>walk_at "l2side")) | ((with_reducible refine' sP ?a ?b ?_);(case a=>walk_at "l2side");(case b=>walk_at "l2side");(with_reducible intro _ _)))
section
variable {P:oe} {w:sb} {K:aT} {mg:Dk} {base:u2} {a:Ad}
local macro_rules | `(tactic| walk_at "l2step") =>`(tactic| first | ((with_reducible refine' ip ?e ?_);(case e=>walk_at "l2kind")) | ((with_reducible refine' j9 ?e ?_);(case e=>walk_at "l2kind")) | (with_reducible refine gf ?_) | (with_reducible refine iK ?_))
theorem jk (T:Tx K mg a):FnOk P w K mg base CX0 6 a.dz a.nM ["_law_tables","_law_others","_law_told"] vp:=by
 refine T.eN.1.okA eU λa5 A outer s H vs Q E ν h=>?_;obtain⟨t,Z,n1,o1,ξ,Y,o2,m,β,θ,α,ζ,rfl,fd,T1,T2,hl,q⟩:=h;have τ:=rz ν;have m6:=T1.tab.m6;have a3:=T1.t;have a0:=T2.t;have a4:=T1.tab.n;have O:=T2.tab.n
 refine⟨_,((ae (av (i:=3) eU.nd rfl @D (ao bC (ao bC (aE (aO (K:=K) rfl) (by rfl) T.fU q8 (aa (!A @F (pv 0) ag) af)) (aE (aO (K:=K) rfl) (by rfl) T.fU q8 (aa (!A @F (pv 1) ag) af))) ag))
  (ae (av (i:=4) eU.nd rfl @D iU)
  (ae (dS ry rfl (b0 (by rfl) T.dr (aa (!A @F (pv 0) ag) af)) (aq (i:=5) eU.nd rfl @D) (ai (bz (aA (mY (K:=K) rfl τ) (aj (de T) ν T.dP T.bT (!j 0 (!j 5 (!j 3 af)))) (aj (de T) ν T.dP T.bT (!j 1 (!j 5 (!j 3 af)))) (aG _)) (ai (av (i:=4) eU.nd rfl @D iU)) aF)))
  (ae (bz (PW.pt (gL (dj (cq (aE (cu (K:=K) rfl) (by rfl) T.bb oL (!j 2 (aa (fi (v:= .ty "tuple") (by rfl) T.pj KB rfl) af))))) (dX (aA kH (!A @F (pv 2) ag) (!A (cf (K:=K) rfl) (dU (aa eM (aa eM af))) (fh uQ (by rfl) T.Fh Mn (!j 4 af))) (aG _))))) (ai (aB iU)) aF)
  (ae (bz (cq (pv 4)) (ai (aB (o4 (gF iu (aE (aO (K:=K) rfl) (by rfl) T.fU q8 (!j 2 af)) ag (aG _)) (rj (aj (se T) ν T.uy T.iJ (!j 0 (!j 1 (!j 2 af)))))))) aF)
  (ai (aB (o4 (gF iu (aE (aO (K:=K) rfl) (by rfl) T.fU q8 (!j 2 af)) ag (aG _)) (rj (aj (r9 T) ν T.ux T.iI (!j 0 (!j 1 (!j 2 af)))))))))))))),aI (σ':=[aS _,aS _,aS _,eC,eC,eC]) rfl ?_⟩
 lia;rw[aJ,aJ,show((β.length:Int) + (α.length:Int) + 1)=((β.length + α.length + 1:Nat):Int) by omega];refine gx (λj σ H'=>∃(b:JC) (v:nk V),σ=[aS (.ref Z),aS (.ref ξ),aS (.ref t),aS (nat (β.length + α.length + 1)),aS (.bl b),v]/\Same H H'/\(b=true↔∀i,i < j->M.wan (prs β) (prs θ) 0 (M.pulse i (β.length + α.length + 1))=M.wan (prs α) (prs ζ) 0 (M.pulse i (β.length + α.length + 1)))) ⟨true,eC,rfl,λ_ _ e=>e,by simp⟩ ?_ ?_
 ·rintro j σ H' hj ⟨b,v,rfl,s',hb⟩;have hj:j < m:=by omega
  rw[show(0:Int) + (j:Int)=(j:Int) by omega];lia;refine⟨Z,n1,o1,m,β,θ,j,_,rfl,T1.same s',@A,@A,λD2 H2 ο γ ω=>?_⟩;lia;refine⟨ξ,Y,o2,m,α,ζ,j,_,rfl,T2.same (s'.trans γ),@A,@A,fun ρ π f3 ι e3=>?_⟩;refine vB (SqL.of (ι.get ω)) (SqL.of e3) ?_;refine⟨_,rfl,?_⟩;dsimp only;refine ite2 (λh1=>?_) (λh1=>?_)
  ·have h1:=Km h1;lia;exact⟨false,_,rfl,s'.trans (γ.trans ι),by simp only[JO,false_iff];exactλz=>h1 (z j @A)⟩
  ·have h1:=OV.mp λz=>h1 (hJ z);lia;exact⟨b,_,rfl,s'.trans (γ.trans ι),hb.trans ⟨λh=>yD h h1,λh i hi=>h i @A⟩⟩
 ·rintro σ H' ⟨b,v,rfl,s',hb⟩;rw[pT,C4] at hb;rcases fd.same s' with ⟨η,χ,φ,ts,bs,us,al,ak⟩ | ⟨δ,t',fu,e⟩
  ·rw[aw,aw] at al;rw[hb.mpr al];have ef:=ak.t;lia;intro p H2 ο γ ω;have υ:atI [V.str "apart",V.str "alike"] (if true=true then 1 else 0)=aS (V.str "alike"):=rfl;have ε:=γ.get ef;lia;refine⟨t,η,χ,φ,Z,n1,o1,ξ,Y,o2,ts,bs,us,m,β,θ,α,ζ,rfl,ak.same γ,T1.same (s'.trans γ),T2.same (s'.trans γ),hl,al,fun π ι=>?_⟩;lia;exact q π (s'.trans (γ.trans ι))
  ·have eb:b=false:=Nz.mpr λz=>fu.not (by rw[aw,aw];exact hb.mp z);rw[eb];lia;intro p H2 ο γ ω;have υ:atI [V.str "apart",V.str "alike"] (if false=true then 1 else 0)=aS (V.str "apart"):=rfl;have ψ:=γ.get e;lia;refine⟨t,Z,n1,o1,ξ,Y,o2,m,δ,t',β,θ,α,ζ,rfl,ψ,T1.same (s'.trans γ),T2.same (s'.trans γ),hl,fu,fun π ι=>?_⟩;lia;exact q π (s'.trans (γ.trans ι))
theorem m8 (T:Tx K mg a):FnOk P w K mg base CX0 1 a.bO a.jD ["_law_told"] tN:=by
 refine T.d6.1.okA dM λb6 A outer s H vs Q E hr h=>?_;obtain⟨t,rfl,h⟩:=h;have Z:=rz hr
 refine⟨_,((ae (bz (aA iu (!A @F (pv 0) ag) eM (aG _)) (ai (aB iU)) aF)
  (ae (av (i:=1) dM.nd rfl @D (ao jz (!A @F (pv 0) ag) (!A @F (pv 0) ag)))
  (ae (cK (osc:=ah c5) (ON:=n21) (N:=n5) (n:=1) (fx:=[]) (i:=2) dM.nd rfl rfl rfl rfl rfl rfl @G (aW (K:=K) rfl (pv 1)) (aN @C) (λ_ _ _ _ _=>⟨(aq (i:=0) (show q3 (n5:C') from by decide +kernel) rfl @D),bB,(ao bC (aE (aO (K:=K) rfl) (by rfl) T.fU q8 (!j 0 af)) ag)⟩))
  (ae (dS ry rfl (aW (K:=K) rfl (pv 1)) (aq (i:=3) dM.nd rfl @D) (ai (fg (lX (K:=K) rfl y5 J8 zP dZ (pv 3) (aa ag af)))))
  (ai (aB (gF (Fc (K:=K) rfl Z) (g8 (osc:=ah c5) (ON:=n21) (N:=n5) (n:=1) (fx:=[]) rfl rfl rfl @G (aW (K:=K) rfl (pv 1)) (aN @C) (λ_ _ _ _ _=>⟨(aq (i:=0) (show q3 (n5:C') from by decide +kernel) rfl @D),bB,(aE (aO (K:=K) rfl) (by rfl) T.fU q8 (!j 0 af))⟩)) (pv 2) (aG _))))))))),aI (σ':=[aS _,eC,eC,eC]) rfl ?_⟩
 rcases h with ⟨δ,u',et,q⟩ | ⟨H0,Ds,χ,φ,ts,bs,us,m,p1,p2,γ,hl,q⟩
 ·lia;exact q H λ_ _ e=>e
 have et:=γ.t;have eb:=γ.b;have eu:=γ.u;obtain⟨cc,ι⟩:=γ.cc;have b5:(bs.map V.ref).length + (us.map V.ref).length<=100:=by rw[eB,eB,<-eH];exact hl
 lia;refine nX eb eu (by rw[kv];omega) fun υ H1 f1 ω e1=>?_;rw[<-hF] at e1;lia;intro D2 α;refine bQ (xs:=(bs++us).map V.ref) (λi ys H'=>Cs (λi ys=>ys=((hE i).map λk=>(cc k).length + 1).map nat) H1 D2 i ys H') (Cs.zero α rfl) (λi ys H' _ c=>SqL.of (c.same.get e1)) (λi x ys H' hx c=>?_) (λys H2 c=>?_)
 ·obtain⟨d,hd,rfl⟩:=aX hx;have hi:=(dt.mp hd).1;obtain⟨ξ,_⟩:=ι i d hd;have a5:=c.same.get (ω.get ξ);lia;refine Cs.put α c.same c.at' c.len @A ?_;rw[c.pv,Ky,hF,hF,eB];rfl
 have e2:=c.at';rw[c.pv,eB] at e2;have s2:=c.same;clear c;obtain⟨R,eR⟩:∃R:eh->Prop,R=(·∈bs++us):=⟨_,rfl⟩;rw[<-eR] at q;have ε:=ω.trans s2
 have hR:∀b,R b->∃xs,H b=aS (.lst xs):=λb hb=>by
  rw[eR] at hb;obtain⟨j,hj⟩:=Kt.mp hb;exact⟨_,(ι j b hj).1⟩
 have nR:∀b,H b=eC->¬R b:=λb e hb=>by obtain⟨ys,h⟩:=hR b hb;rw[e] at h;cases h
 obtain⟨Y,O⟩:∃Y,Y=less H2 R:=⟨_,rfl⟩;have ψ:Same Y H2:=by rw[O];exact ue
 have a0:Same (less H R) Y:=by rw[O];exact vQ ε
 have vR:∀b,R b->Y b=none:=λb hb=>by rw[O];exact pE hb
 have ο:Y υ=aS (.lst ((bs++us).map V.ref)):=by rw[O,dn (nR _ f1)];exact s2.get e1
 have a6:Y D2=aS (.lst (((hE (bs++us).length).map λk=>(cc k).length + 1).map nat)):=by rw[O,dn (nR _ (ω.free α))];exact e2
 lia;refine iE (xs:=(bs++us).map V.ref) (λi σ H'=>∃v,σ=[aS (.ref t),aS (.ref υ),aS (.ref D2),v]/\Same Y H'/\∀(k:Nat) a,(bs++us)[k]? =aS a->∃ys:eA V,H' a=aS (.lst ys)/\ys.length=(cc k).length + if k < i then 1 else 0) ⟨eC,rfl,ψ,λk a h=>⟨_,ε.get (ι k a h).1,by rw[eB,ko @A];rfl⟩⟩ (λi σ H' _ ⟨_,_,s',_⟩=>SqL.of (s'.get ο)) ?_ ?_
 ·rintro i y σ H' hy ⟨v,rfl,s',η⟩;obtain⟨d,hd,rfl⟩:=aX hy;have hi:=(dt.mp hd).1;have a4:R d:=by rw[eR];exact eO hd
  obtain⟨ys,ξ,ly⟩:=η i d hd;rw[ko @A] at ly;have lc:=(ι i d hd).2;lia;refine iy ξ (gm @A) fun θ τ=>?_;lia;refine⟨τ.same (vR d a4) s',λk a h=>?_⟩;by_cases hz:k=i
  ·subst hz;rw[hd] at h;rw[<-iv h];exact⟨_,τ.at',by rw[eH,px @A];simp only[JV,Qm];omega⟩
  ·obtain⟨π,b3,a3⟩:=η k a h
   have ne:a≠d:=λz=>by
    obtain⟨h1,h2⟩:=dt.mp h;obtain⟨h3,h4⟩:=dt.mp hd;have eq:=h2.trans (z.trans h4.symm);rcases PU hz with h5 | h5
    ·exact zt.mp γ.nd k i h1 h3 h5 eq
    ·exact zt.mp γ.nd i k h3 h1 h5 eq.symm
   exact⟨π,τ.oth _ _ ne b3,by rw[a3];split<;>split<;>omega⟩
 ·rintro σ H' ⟨v,rfl,s',η⟩;have b4:=s'.get ο;lia;intro ρ ν;refine bQ (xs:=(bs++us).map V.ref) (λi ys β=>Cs (λi ys=>ys=((hE i).map λk=>(cc k).length + 1).map nat) H' ρ i ys β) (Cs.zero ν rfl) (λi ys β _ c=>SqL.of (c.same.get b4)) (λi x ys β hx c=>?_) (λys H3 c=>?_)
  ·obtain⟨d,hd,rfl⟩:=aX hx;have hi:=(dt.mp hd).1;obtain⟨zs,ξ,ζ⟩:=η i d hd;rw[eB,px hi] at ζ;have a5:=c.same.get ξ;lia;refine Cs.put ν c.same c.at' c.len @A ?_;rw[c.pv,Ky,hF,hF,ζ];rfl
  have e3:=c.at';rw[c.pv,eB] at e3;have s3:=c.same;clear c;lia;refine tT (SqL.of e3) (SqL.of (s3.get (s'.get a6))) ?_;exact q H3 (a0.trans (s'.trans s3))
theorem kO (T:Tx K mg a):FnOk P w K mg base CX0 1 a.cW a.mG ["_law_told"] (zj K):=by
 refine T.fG.1.okA qh λb6 A outer s H vs Q E hr h=>?_;obtain⟨t,d,rfl,h,q⟩:=h
 refine⟨_,((ae (bz (aA iu (!A @F (pv 0) ag) eM (aG _)) (ai (aB (fh (i7 (K:=K) rfl) (by rfl) T.hX u1 (!j 0 af)))) aF)
  (ai (aB (dU (aa (fh (i7 (K:=K) rfl) (by rfl) T.hX u1 (aa (!A @F (pv 0) ag) af)) (aa (g8 (osc:=ah fc) (ON:=["_law_told"]) (N:=n5) (n:=1) (fx:=[]) rfl rfl rfl @G (aW (K:=K) rfl (!A @F (pv 0) ag)) (aN @C) (λ_ _ _ _ _=>⟨(aq (i:=0) (show q3 (n5:C') from by decide +kernel) rfl @D),bB,(fh (i7 (K:=K) rfl) (by rfl) T.hX u1 (!j 0 af))⟩)) (aa (g8 (osc:=ah fc) (ON:=["_law_told"]) (N:=n5) (n:=1) (fx:=[]) rfl rfl rfl @G (aW (K:=K) rfl (!A @F (pv 0) ag)) (aN @C) (λ_ _ _ _ _=>⟨(aq (i:=0) (show q3 (n5:C') from by decide +kernel) rfl @D),bB,(fh (i7 (K:=K) rfl) (by rfl) T.hX u1 (!j 0 af))⟩)) af)))))))),aI (σ':=[aS _]) rfl ?_⟩
 rcases h with ⟨δ,u',et,rfl⟩ | ⟨η,Db,φ,ts,bs,us,m,p1,p2,Y,m6,lr,rfl⟩
 ·lia;intro D H2 ο τ e2;exact q D H2 τ λR hR=>Fy hR ο e2
 have et:=Y.t;have es:=Y.s;have eb:=Y.b;have eu:=Y.u;have lb:=Y.lb;have lu:=Y.lu;lia;intro DA H1 f1 α e1;have b5:=α.get et;have a5:=α.get eb;lia;intro ξ θ;refine bQ (xs:=bs.map V.ref) (λj ys H'=>Co (λj=> .lst ((M.pl 1000 (sfq (M.prs2 p1 p2 m) (M.tr2 (M.jn p1 p2) 0 (2 ^ j)))).map nat)) H1 ξ j ys H') (p4 θ) (λj ys H' _ ⟨_,_,_,_,_,s',_⟩=>SqL.of (s'.get a5)) (λj v ys HC hv c=>?_) (λys H2 c=>?_)
 ·obtain⟨d,hd,rfl⟩:=aX hv;have c':=c;obtain⟨ι,a4,lq,Z,pf,υ,a6⟩:=c';have hj:=(dt.mp hd).1;have ed:=υ.get (α.get (Y.ba j d hd));lia;intro Dn H9 ζ s9 e9;exact rF θ c s9 ζ e9 @A
 obtain⟨c0,rfl,χ,ρ,ψ,τ,e2⟩:=c;have O:=α.trans τ;have b4:=O.get et;have a3:=O.get eu;lia;intro ν ε;refine bQ (xs:=us.map V.ref) (λj ys H'=>Co (λj=> .lst ((M.pl 1000 (sfq (M.prs2 p1 p2 m) (M.tr2 (M.jn p1 p2) ((M.prs2 p1 p2 m).getD j 0) 0))).map nat)) H2 ν j ys H') (p4 ε) (λj ys H' _ ⟨_,_,_,_,_,s',_⟩=>SqL.of (s'.get a3)) (λj v ys HC hv c=>?_) (λys H3 c=>?_)
 ·obtain⟨d,hd,rfl⟩:=aX hv;have c':=c;obtain⟨ι,a4,lq,Z,pf,υ,a6⟩:=c';have hj:=(dt.mp hd).1;have ed:=υ.get (O.get (Y.ua j d hd));lia;intro Dn H9 ζ s9 e9;exact rF ε c s9 ζ e9 @A
 obtain⟨b3,rfl,π,ω,a0,s3,e3⟩:=c;rw[eB] at χ π;lia;intro D H4 f4 s4 e4;have β:=s3.trans s4;have γ:=τ.trans β;refine q D H4 (α.trans γ) λR hR=>Cr Y (α.trans γ) hR ((O.trans s3).free f4) f1 (α.free θ) (O.free ε) (λd hd=>α.free (ψ d hd).1) (λd hd=>O.free (a0 d hd).1) e4 (γ.get e1) (β.get e2) (s4.get e3) (χ.trans lb) (π.trans lu) (λj a h=>β.get (ρ j a h)) (λj a h=>s4.get (ω j a h))
end
local macro_rules | `(tactic| walk_at "l2step") =>`(tactic| first | ((with_reducible refine' ka ?e ?a ?_);(case e=>walk_at "l2hp");(case a=>walk_at "l2side")) | ((with_reducible refine' sP ?a ?b ?_);(case a=>walk_at "l2side");(case b=>walk_at "l2side");(with_reducible intro _ _)))
section
variable {P:oe} {w:sb} {K:aT} {mg:Dk} {base:u2} {a:Ad}
noncomputable abbrev lpos:Pos:=⟨248,46,248,98⟩
local macro_rules | `(tactic| walk_at "l2step") =>`(tactic| first | ((with_reducible refine' ip ?e ?_);(case e=>walk_at "l2kind")) | ((with_reducible refine' j9 ?e ?_);(case e=>walk_at "l2kind")) | (with_reducible refine gf ?_) | (with_reducible refine iK ?_))
local macro_rules | `(tactic| walk_at "l2step") =>`(tactic| first | (with_reducible refine LM.s_sortlam ?_) | (with_reducible refine Gs ?_))
theorem qo (T:Tx K mg a) (PT:eh) (kb:K.In base) (hB:LM.LamB mg base a.be PT):FnOk P w K mg base CX0 6 a.be a.jt ["_law_tables","_law_cell_here"] (tL lpos PT):=by
 refine L2.Fun.okL T.gQ kb hB bF (λvs H Q E h=>?_) (λcc A outer s H vs Q E ω hr h=>?_)
 ·obtain⟨t,n,o,m,nx,os,c,rfl,_⟩:=h;rfl
 ·obtain⟨t,n,o,m,nx,os,c,rfl,tt,g4,TL,q⟩:=h;have et:=tt.t;have χ:=tt.tab.n;have eo:=tt.tab.o
  refine⟨_,((ae (oY (pv 0) (g7 rfl (ax (aq (i:=2) bF.nd rfl @D) (ax (aq (i:=3) bF.nd rfl @D) (ax (aq (i:=4) bF.nd rfl @D) b7)))))
   (ae (av (i:=5) bF.nd rfl @D (aE (aO (K:=K) rfl) (by rfl) T.fU q8 (!j 3 af)))
   (ae (av (i:=6) bF.nd rfl @D (LM.pe_sortlam (N:=["_law_k","_law_cell_here"]) (p:="_law_k") (x:="_law_cell_here") (j:=1) (m:=1) rfl (by rfl) (by rfl) T.sf T.dr (pv 5) (hr.mono @C) rfl ω hB @G rfl rfl rfl ⟨_,rfl,rfl⟩ rfl (λ_ _ _ _ _ _=>rfl) (λ_ _ _ _ _ hr=>(aj (cx T) hr T.bx T.a9 (!j 1 (aa (ao bC ag (pv 0)) af))))))
   (ae (B0 (x0:="_law_mask") (osc:=ah bG) (ON:=n17) (N:=n13) (n:=2) (fx:=[6,5]) (i:=7) bF.nd rfl rfl rfl rfl rfl rfl @G (aW (K:=K) rfl (ao jz (pv 3) (pv 4))) (mq (cj (aN @C) (cj (aN @C) jm))) (λ_ _ _ _ _=>⟨(jj (K:=K) (n:=2) rfl rfl (ax (aq (i:=0) (show q3 (n13:C') from by decide +kernel) rfl @D) (ax (aq (i:=1) (show q3 (n13:C') from by decide +kernel) rfl @D) b7))),bB,(aE (A9 rfl) (by rfl) T.IU PyProof.Rows.boot_sum (aa (g8 (osc:=_) (ON:=n13) (N:=["_law_k","_law_mask","_law_order"]) (n:=1) (fx:=[0,2]) rfl (CU (osc:=ah bG) rfl) rfl @G (b0 (by rfl) T.dr (!j 3 af)) (aN @C) (λ_ _ _ _ _=>⟨(aq (i:=0) (show q3 (["_law_k","_law_mask","_law_order"]:C') from by decide +kernel) rfl @D),bB,(ao bM (ao dY (ao l8 (pv 1) (!A (cf (K:=K) rfl) (pv 2) (pv 0))) ag) (pv 0))⟩)) af))⟩))
   (ae (cK (osc:=ah bG) (ON:=n17) (N:=n18) (n:=2) (fx:=[]) (i:=8) bF.nd rfl rfl rfl rfl rfl rfl @G (aW (K:=K) rfl (ao jz (pv 3) (pv 4))) (mq (cj (aN @C) (cj (aN @C) jm))) (λ_ _ _ _ _=>⟨(jj (K:=K) (n:=2) rfl rfl (ax (aq (i:=0) (show q3 (n18:C') from by decide +kernel) rfl @D) (ax (aq (i:=1) (show q3 (n18:C') from by decide +kernel) rfl @D) b7))),bB,(pv 1)⟩))
   (ae (av (i:=9) bF.nd rfl @D (mX (K:=K) rfl rfl (by rfl) (by rfl) T.hX T.Fg (pv 7) (pv 8)))
   (ai (aB (cH (!j 2 (aa (g8 (osc:=ah bG) (ON:=n17) (N:=["_law_k","_law_pairs","_law_order"]) (n:=1) (fx:=[9,6]) rfl rfl rfl @G (b0 (by rfl) T.dr (!j 5 af)) (aN @C) (λ_ _ _ _ _=>⟨(aq (i:=0) (show q3 (["_law_k","_law_pairs","_law_order"]:C') from by decide +kernel) rfl @D),bB,(!A (cf (K:=K) rfl) (pv 1) (!A (cf (K:=K) rfl) (pv 2) (pv 0)))⟩)) (aa (gM (iw (K:=K) rfl) (pv 9) (jg (pv 5)) jh) af))))))))))))),aI (σ':=[aS _,aS _,eC,eC,eC,eC,eC,eC,eC,eC]) rfl ?_⟩
  lia;refine⟨nx.length,nat c,by rw[aJ],@A,TL,rfl,λi hi=>?_,λD H2 ns f nD k2 T2 e2 hp=>?_⟩
  ·lia;exact⟨_,rfl⟩
  have B2:But PT H H2:=k2;have η:=B2.tab TL tt;have O:=η.tab.n;have α:=η.tab.o;have f2:=η.tab.pn;have f1:=η.tab.po;have h6:=η.tab.lo;have ο:ns.length=nx.length:=by rw[hp.length_eq,q7]
  clear k2 TL et χ eo tt;lia;refine nX O α (by rw[aJ,aJ,kv];have:=η.tab.lo;omega) λDc H3 f3 s3 e3=>?_;have c2:=s3.get e2;rw[show refs nx++refs os=refs (nx++os) from(hF ..).symm] at e3
  have b5:Prt H3 (nx++os):=λr hr=>by
   rcases lh.mp hr with h | h
   ·exact s3.get (f2 r h)
   ·exact s3.get (f1 r h)
  lia;intro Dm Y;refine bQ (xs:=refs (nx++os)) (λi ys H'=>Cs (λi ys=>∃zs:D',ys=zs.map nat/\zs=((nx++os).take i).map λr=>M.pmx ns r.2.1 nx.length) H3 Dm i ys H') (Cs.zero Y ⟨[],rfl,rfl⟩) (λi ys H' _ c=>SqL.of (c.same.get e3)) ?_ ?_
  ·rintro i y ys H' hy c;obtain⟨zs,a6,ρ⟩:=c.pv;obtain⟨r,θ,rfl⟩:=aX hy;have er:=c.same.get (b5 r (eO θ));have ξ:=(dt.mp θ).1;rw[eH] at ξ;lia;rw[aJ];refine⟨@A,@A,?_⟩;intro Di Z;refine i6 (λk ws H4=>Cs (λk ws=>ws=((hE k).map λk=>((r.2.1>>>ns.getD k 0)&&&1) <<< k).map nat) H' Di k ws H4) (Cs.zero Z rfl) (λk ws H4 hk φ=>?_) (λws H4 φ=>?_)
   ·have hk:k < nx.length:=by omega
    have ζ:=φ.same.get (c.same.get c2);have υ:ns[k]? =aS (ns.getD k 0):=by rw[ee,b' @A];rfl
    have a5:atI (ns.map λk:Nat=>V.int (k:Int)) (0 + (k:Int))=aS (nat (ns.getD k 0)):=by rw[LO];exact fY (by rw[f',υ];rfl)
    have hv:=M.ord_at hp hk;generalize a4:ns.getD k 0=v at a5 hv υ;lia;rw[LO]
    have eb:KM ((r.2.1:Int) / 2 ^ ((v:Int).toNat)) 1=(((r.2.1>>>v)&&&1:Nat):Int):=by
     rw[pT,show((r.2.1:Int) / 2 ^ v)=((r.2.1>>>v:Nat):Int) by rw[wq];push_cast;rfl];exact a8 _ 1
    have h7:(r.2.1>>>v)&&&1<=1:=L3;rw[eb];have h8:CPow (((r.2.1>>>v)&&&1:Nat):Int) ((k:Nat):Int):=⟨@A,@A,@A⟩;lia
    have e8:(((r.2.1>>>v)&&&1:Nat):Int) * 2 ^ ((k:Int).toNat)=((((r.2.1>>>v)&&&1) <<< k:Nat):Int):=by
     rw[pT,KJ];push_cast;rfl
    rw[e8];refine Cs.put Z φ.same φ.at' φ.len @A ?_;rw[φ.pv,Ky,hF,hF,<-a4];rfl
   ·have e4:=φ.at';rw[φ.pv] at e4;have s4:=φ.same;clear φ;lia;show EV [.ref Di] H4 _;refine Gx e4 ?_;rw[M.pmx_sum];refine Cs.put Y (c.same.trans s4) (s4.get c.at') c.len @A ⟨zs++[M.pmx ns r.2.1 nx.length],by rw[a6,hF];rfl,?_⟩;rw[ρ,Lm,θ,hF];rfl
  ·rintro ys H4 c;obtain⟨zs,a6,ρ⟩:=c.pv;have e4:=c.at';rw[a6] at e4;have s4:=c.same;rw[LL (by rw[aJ];exact mu _)] at ρ;clear c;have a3:=s3.trans s4;have b6:zs.length=nx.length + os.length:=by rw[ρ,eB,eH]
   lia;refine nX (a3.get O) (a3.get α) (by rw[aJ,aJ,kv];omega) λDe H5 f5 ν e5=>?_;rw[show refs nx++refs os=refs (nx++os) from(hF ..).symm] at e5;have e0:=s4.trans ν;have f0:Prt H5 (nx++os):=b5.same e0;lia;intro Dr c0;refine bQ (xs:=refs (nx++os)) (λi ys H'=>Cs (λi ys=>ys=(((nx++os).take i).map λr=>r.2.2).map nat) H5 Dr i ys H') (Cs.zero c0 rfl) (λi ys H' _ c=>SqL.of (c.same.get e5)) ?_ ?_
   ·rintro i y ys H' hy c;obtain⟨r,θ,rfl⟩:=aX hy;have er:=c.same.get (f0 r (eO θ));have ξ:=(dt.mp θ).1;rw[eH] at ξ;lia;refine Cs.put c0 c.same c.at' c.len @A ?_;rw[c.pv,Lm,θ,hF,hF];rfl
   ·rintro ys H6 c;have e6:=c.at';rw[c.pv,LL (by rw[aJ];exact mu _)] at e6;have s6:=c.same;clear c;have h0:=s6.get (ν.get e4);lia;refine⟨Dm,Dr,_,_,rfl,rfl,SqL.of h0,SqL.of e6,by rw[eB,eB,eB,b6,eH],λDp ps H7 f7 s7 e7 l7 ε=>?_⟩;rw[eB,b6] at l7;have b4:=ν.trans (s6.trans s7);have h3:=b4.get (s4.get c2);lia;rw[aJ];refine⟨@A,@A,?_⟩;intro Dn ψ;refine i6 (λk ws H'=>Cs (λk ws=>ws=(hE k).map λk=>V.ref (ps.getD (ns.getD k 0) 0)) H7 Dn k ws H') (Cs.zero ψ rfl) (λk ws H' hk c=>?_) (λws H8 c=>?_)
    ·have hk:k < nx.length:=by omega
     have π:=c.same.get h3;have g6:=c.same.get e7;have υ:ns[k]? =aS (ns.getD k 0):=by rw[ee,b' @A];rfl
     have a5:atI (ns.map λk:Nat=>V.int (k:Int)) (0 + (k:Int))=aS (nat (ns.getD k 0)):=by rw[LO];exact fY (by rw[f',υ];rfl)
     have hv:=M.ord_at hp hk;generalize a4:ns.getD k 0=v at a5 hv υ;have g5:ps[v]? =aS (ps.getD v 0):=by rw[ee,b' @A];rfl
     have h5:atI (ps.map V.ref) ((v:Nat):Int)=aS (V.ref (ps.getD v 0)):=fY (by rw[f',g5];rfl);lia;refine Cs.put ψ c.same c.at' c.len @A ?_;rw[c.pv,Ky,hF,<-a4];rfl
    ·have e8:=c.at';rw[c.pv] at e8;have τ:=c.same;clear c;have g6:=τ.get e7;lia;intro Do H9 f9 s9 e9;rw[oF _ _ (by rw[eB];omega),<-MD] at e9;lia;intro t2 d1 j7 γ h4;have b3:=τ.trans (s9.trans γ);have β:=γ.get (s9.get e8);have c1:=γ.get e9;have ι:∀(j:Nat) (p:eh) (r:Pr3),ps[j]? =aS p->(nx++os)[j]? =aS r->d1 p=aS (.tup [nat (M.pmx ns r.2.1 nx.length),nat r.2.2]):=λj p r h1 h2=>b3.get (ε j p _ _ h1 (by rw[f',ρ,f',h2];rfl) (by rw[f',f',h2];rfl));obtain⟨f6,f4,d2,g3,f8,δ⟩:=Ik η.tab.g g4 hp l7 h4 β c1 ι;have a0:=a3.trans (b4.trans (τ.trans (s9.trans γ)));exact q t2 Dn Do d1 f6 f4 (B2.trans (But.of a0)) (jL T2 a0) d2 g3 f8 δ
end
section
variable {P:oe} {w:sb} {K:aT} {mg:Dk} {base:u2} {a:Ad}
local macro_rules | `(tactic| walk_at "l2step") =>`(tactic| first | ((with_reducible refine' ip ?e ?_);(case e=>walk_at "l2kind")) | ((with_reducible refine' j9 ?e ?_);(case e=>walk_at "l2kind")) | (with_reducible refine gf ?_) | (with_reducible refine iK ?_))
theorem pd (T:Tx K mg a):FnOk P w K mg base CX0 1 a.cE a.kU ["_law_mask","_law_at","_law_many","_law_way"] xQ:=by
 refine T.gj.1.okA oN λY A outer s H vs Q E α h=>?_;obtain⟨x,i,n,Z,rfl,hi,hn,q⟩:=h
 refine⟨_,((ae (bz (PW.pt (tV (aA iu (ao dY (ao l8 (pv 0) (pv 1)) ag) ag (aG _)) (oX (aA iu (ao bP (pv 3) ag) ag (aG _))))) (ai (aB (ao G8 (ao iV (pv 0) (ao bM ag (pv 1))) (ao bM ag (pv 2))))) aF)
  (ai (aB (pv 0))))),aI (σ':=[aS _,aS _,aS _,aS _]) rfl ?_⟩
 lia;dsimp only;refine ite2 (λh1=>?_) (λh1=>?_)
 ·lia;dsimp only;refine ite2 (λh2=>?_) (λh2=>?_)
  ·lia;have e1:(1:Int) * 2 ^ ((i:Int).toNat)=((2 ^ i:Nat):Int):=shl1 i;have O:(1:Int) * 2 ^ ((n:Int).toNat)=((2 ^ n:Nat):Int):=shl1 n;rw[e1,O,bX,p6];exact q _ (.inr rfl)
  ·lia;exact q _ (.inl rfl)
 ·rw[ko @C];lia;exact q _ (.inl rfl)
end
local macro_rules | `(tactic| walk_at "l2step") =>`(tactic| first | ((with_reducible refine' ka ?e ?a ?_);(case e=>walk_at "l2hp");(case a=>walk_at "l2side")) | ((with_reducible refine' sP ?a ?b ?_);(case a=>walk_at "l2side");(case b=>walk_at "l2side");(with_reducible intro _ _)))
section
variable {P:oe} {w:sb} {K:aT} {mg:Dk} {base:u2} {a:Ad}
local macro_rules | `(tactic| walk_at "l2step") =>`(tactic| first | ((with_reducible refine' ip ?e ?_);(case e=>walk_at "l2kind")) | ((with_reducible refine' j9 ?e ?_);(case e=>walk_at "l2kind")) | (with_reducible refine gf ?_) | (with_reducible refine iK ?_))
local macro_rules | `(tactic| walk_at "l2step") =>`(tactic| first | ((with_reducible refine' sP ?a ?b ?_);(case a=>omega);(case b=>omega);(with_reducible intro _ _)) | (with_reducible refine vC ?_))
theorem r8 (T:Tx K mg a):FnOk P w K mg base CX0 3 a.dC a.nQ ["_law_tables","_law_cell_here"] vt:=by
 refine T.iH.1.okA bR λg5 A outer s H vs Q E hr h=>?_;obtain⟨t,n,o,m,nx,os,c,rfl,tt,b4,q⟩:=h;have et:=tt.t;have χ:=tt.tab.n;have ω:=tt.tab.o
 refine⟨_,((ae (oY (pv 0) (g7 rfl (ax (aq (i:=2) bR.nd rfl @D) (ax (aq (i:=3) bR.nd rfl @D) (ax (aq (i:=4) bR.nd rfl @D) b7)))))
  (ae (av (i:=5) bR.nd rfl @D (aE (aO (K:=K) rfl) (by rfl) T.fU q8 (!j 3 af)))
  (ae (bz (PW.pt (gL (aA iu (pv 5) ag (aG _)) (dX (aA o7 (pv 5) ag (aG _))))) (ai (aB (pv 0))) aF)
  (ae (av (i:=6) bR.nd rfl @D (ao bP (pv 1) (pv 5)))
  (ae (av (i:=7) bR.nd rfl @D (cH (aa (ao bP (aj (cx T) hr T.bx T.a9 (!j 1 (aa ag af))) (ao bM ag (ao bC (pv 5) ag))) (aa (ao bP (aj (cx T) hr T.bx T.a9 (!j 1 (aa ag af))) (ao bM ag (pv 2))) af))))
  (ae (bz (aA iu (ao bP (ao fm (pv 1) ag) ag) ag (aG _)) (ai (aB (cH (!j 2 (aa (ao jz (pv 3) (dU (!j 7 af))) (!j 4 af)))))) aF)
  (ae (bz (aA iu (ao bP (ao fm (pv 1) ag) ag) ag (aG _)) (ae (cK (osc:=ah gq) (ON:=n22) (N:=n14) (n:=3) (fx:=[1,5]) (i:=8) bR.nd rfl rfl rfl rfl rfl rfl @G (ji (K:=K) rfl (by rfl) T.cy (pv 4)) (mq (cj (aN @C) (cj (mq (cj (aN @C) (cj (aN @C) jm))) jm))) (λ_ _ _ _ _=>⟨(jj (K:=K) (n:=2) rfl rfl (ax (aq (i:=0) (show q3 (n14:C') from by decide +kernel) rfl @D) (ax (jj (K:=K) (n:=2) rfl rfl (ax (aq (i:=1) (show q3 (n14:C') from by decide +kernel) rfl @D) (ax (aq (i:=2) (show q3 (n14:C') from by decide +kernel) rfl @D) b7))) b7))),bB,(cH (aa (ao G8 (pv 1) (ao bM (ao dY (aj (cx T) hr T.bx T.a9 (!j 3 (aa (ao bC ag (pv 0)) af))) ag) (pv 4))) (!j 2 af)))⟩))
  (ai (aB (cH (!j 2 (aa (ao jz (pv 3) (dU (aa (cH (aa (ao bM ag (pv 5)) (aa ag af))) af))) (!j 8 af))))))) aF)
  (ae (cK (osc:=ah gq) (ON:=n22) (N:=n15) (n:=3) (fx:=[6,5,1]) (i:=9) bR.nd rfl rfl rfl rfl rfl rfl @G (ji (K:=K) rfl (by rfl) T.cy (ao jz (pv 3) (pv 4))) (mq (cj (aN @C) (cj (mq (cj (aN @C) (cj (aN @C) jm))) jm))) (λ_ _ _ _ _=>⟨(jj (K:=K) (n:=2) rfl rfl (ax (aq (i:=0) (show q3 (n15:C') from by decide +kernel) rfl @D) (ax (jj (K:=K) (n:=2) rfl rfl (ax (aq (i:=1) (show q3 (n15:C') from by decide +kernel) rfl @D) (ax (aq (i:=2) (show q3 (n15:C') from by decide +kernel) rfl @D) b7))) b7))),bB,(cH (aa (aj (pd T) hr T.qN T.gj (!j 1 (!j 3 (!j 4 (aa (aj (cx T) hr T.bx T.a9 (!j 5 (aa (ao bC ag (pv 0)) af))) af))))) (!j 2 af)))⟩))
  (ai (aB (cH (!j 2 (aa (ao jz (gM (iw (K:=K) rfl) (pv 9) jh (jg (pv 5))) (dU (aa (!A (cf (K:=K) rfl) (pv 9) (pv 6)) af))) (aa (gM (iw (K:=K) rfl) (pv 9) (jg (pv 5)) jh) af))))))))))))))),aI (σ':=[aS _,aS _,eC,eC,eC,eC,eC,eC,eC,eC]) rfl ?_⟩
 lia;rw[aJ];dsimp only;refine ite2 (λh1=>?_) (λh1=>?_)
 ·rw[px rfl];lia;exact q t n o H nx os (Same.refl _) tt b4 rfl (M.AlkM.refl _ _)
 have h1:nx.length≠0:=λz=>h1 (hJ (by rw[z];rfl));lia;refine ite2 (λh2=>?_) (λh2=>?_)
 ·lia;exact q t n o H nx os (Same.refl _) tt b4 rfl (M.AlkM.refl _ _)
 have h2:nx.length<=12:=NZ λz=>h2 (hJ (show(12:Int) < nx.length by omega))
 obtain⟨i,ei,hi⟩:∃i:Nat,(c:Int) % (nx.length:Int)=(i:Int)/\i < nx.length/\True:=by
  have h3:=LB (c:Int) (show(nx.length:Int)≠0 by omega);have h4:=L0 (c:Int) (show(0:Int) < nx.length by omega);exact⟨((c:Int) % (nx.length:Int)).toNat,@A,@A,trivial⟩
 lia;rename_i r1 c4;have ew:(1:Int) * 2 ^ (((nx.length:Int) + 1).toNat)=((2 ^ (nx.length + 1):Nat):Int):=by rw[show((nx.length:Int) + 1)=((nx.length + 1:Nat):Int) by omega];exact shl1 _
 rw[ew,ei];obtain⟨d1,ο,β⟩:=ku (c:=(r1:Int)) (m:=((2 ^ (nx.length + 1):Nat):Int)) (MQ.mpr (lz _));have β:=Int.ofNat_lt.mp β;refine⟨_,_,rfl,rfl,MQ.mpr (lz _),?_⟩;dsimp only;rw[ο];have m6:=tt.tab.m6;lia;rename_i r2 ψ;have b6:(1:Int) * 2 ^ ((m:Int).toNat)=((2 ^ m:Nat):Int):=shl1 m;rw[b6];obtain⟨d2,ξ,a3⟩:=ku (c:=(r2:Int)) (m:=((2 ^ m:Nat):Int)) (MQ.mpr (lz _));have a3:=Int.ofNat_lt.mp a3;refine⟨_,_,rfl,rfl,MQ.mpr (lz _),?_⟩;dsimp only;rw[ξ];have b5:=Qd β a3;clear ο ξ c4 ψ ew b6 β a3;lia;intro δ H1 f1 s1 e1;have a6:=s1.get χ;have a5:=s1.get ω;have α:=tt.tab.pn.same s1;have Z:=tt.tab.po.same s1;have g:=tt.tab.g;lia;refine ite2 (λh3=>?_) (λh3=>?_)
 ·lia;intro Dl H2 f2 s2 e2;refine nX (s2.get a6) e2 (by rw[aJ,kv];show nx.length + 1<=_;omega) λDn H3 f3 s3 e3=>?_;lia;intro t2 H4 f4 s4 e4;have ε:=s2.trans (s3.trans s4);obtain⟨x1,x2⟩:=Jb g h2 e4 (s4.get e3) (ε.get e1) (ε.get a5) (α.same ε) (Z.same ε) b5.1 b5.2;exact q t2 Dn o H4 _ os (s1.trans ε) x1 (by rw[eH];show nx.length + 1<=16;omega) rfl x2
 ·lia;dsimp only;refine ite2 (λh4=>?_) (λh4=>?_)
  ·lia;intro π a0;refine kC (xs:=refs os) (λj ys H'=>Cp (λzs=>∀(j:Nat) (q:Pr3),zs[j]? =aS q->∃(b:Nat) (r:Pr3),os[j]? =aS r/\b<=1/\q.2=(r.2.1||| b <<< nx.length,r.2.2)) H1 π j ys H') (A4 a0 λj q h=>by simp at h) (λj ys H' _ ⟨_,_,_,_,_,s',_⟩=>SqL.of (s'.get a5)) (λj x ys H' pz H2 hx c fp s2 e2=>?_) (λys H2 c=>?_)
   ·obtain⟨zs,rfl,ζ,pv,υ,sz,ez⟩:=c;obtain⟨r,φ,rfl⟩:=aX hx;have er:=s2.get (sz.get (Z r (eO φ)));have hj:=Qd (dt.mp φ).1 trivial;have Y:=g.lo;have e9:j<=6:=by omega
    lia;rename_i rm c2;have eb:KM (rm:Int) 1=((rm&&&1:Nat):Int):=a8 _ 1;have e0:rm&&&1<=1:=L3;rw[eb];have f9:CPow ((rm&&&1:Nat):Int) ((nx.length:Nat):Int):=⟨@A,@A,@A⟩;lia
    have e8:((rm&&&1:Nat):Int) * 2 ^ ((nx.length:Int).toNat)=(((rm&&&1) <<< nx.length:Nat):Int):=by
     rw[pT,KJ];push_cast;rfl
    rw[e8,p6];intro ρ H3 f3 s3 e3;exact DS a0 ζ υ sz ez (s2.trans s3) e3 @A (DH pv ⟨_,r,by rw[ζ];exact φ,e0,rfl⟩)
   ·obtain⟨zs,rfl,ζ,pv,υ,sz,ez⟩:=c;rw[aJ] at ζ;lia;intro De H3 f3 s3 e3;rw[show(1:Int) * 2 ^ ((nx.length:Int).toNat)=((2 ^ nx.length:Nat):Int) from shl1 _] at e3;lia;intro Dl H4 f4 s4 e4;have b3:=s3.trans s4;have ε:=sz.trans b3;refine nX (ε.get a6) e4 (by rw[aJ,kv];show nx.length + 1<=_;omega) λDn H5 f5 ν e5=>?_;lia;intro t2 H6 f6 s6 e6;have a4:=ν.trans s6;have γ:=ε.trans a4;have ι:=b3.trans a4;obtain⟨x1,x2⟩:=Ja g h2 e6 (s6.get e5) (a4.get (s4.get e3)) (ι.get ez) (α.same γ) (υ.same ι) ζ pv;exact q t2 Dn π H6 _ zs (s1.trans γ) x1 (by rw[eH];show nx.length + 1<=16;omega) ζ x2
  ·lia;refine nX a6 a5 (by rw[aJ,aJ,kv];have:=g.lo;omega) λDc H2 f2 s2 e2=>?_;rw[show refs nx++refs os=refs (nx++os) from(hF ..).symm] at e2;have c0:Prt H2 (nx++os):=(rR α Z).same s2;lia;intro π a0;refine kC (xs:=refs (nx++os)) (λj ys H'=>Cp (λzs=>∀(j:Nat) (q:Pr3),zs[j]? =aS q->∃(b:Nat) (r:Pr3),(nx++os)[j]? =aS r/\q.2=(b,r.2.2)/\(b=r.2.1∨b=(r.2.1^^^2 ^ i)||| 2 ^ nx.length)) H2 π j ys H') (A4 a0 λj q h=>by simp at h) (λj ys H' _ ⟨_,_,_,_,_,s',_⟩=>SqL.of (s'.get e2)) (λj x ys H' pz H3 hx c fp s3 e3=>?_) (λys H3 c=>?_)
   ·obtain⟨zs,rfl,ζ,pv,υ,sz,ez⟩:=c;obtain⟨r,φ,rfl⟩:=aX hx;have er:=s3.get (sz.get (c0 r (eO φ)));have hj:=Qd (dt.mp φ).1 trivial;rw[eH] at hj;have Y:=g.lo;have e9:j<=22:=by omega
    lia;rename_i rm c2;refine⟨r.2.1,i,nx.length,rm,rfl,@A,@A,λb hb=>?_⟩;lia;intro ρ H4 f4 s4 e4;exact DS a0 ζ υ sz ez (s3.trans s4) e4 @A (DH pv ⟨b,r,by rw[ζ];exact φ,rfl,hb⟩)
   ·obtain⟨zs,rfl,ζ,pv,υ,sz,ez⟩:=c;rw[aJ,eH] at ζ;have c1:zs[i]? =aS (zs.getD i (0,0,0)):=by rw[ee,b' @A];rfl
    have g3:atI (refs zs) (i:Int)=aS (V.ref (zs.getD i (0,0,0)).1):=fY (by unfold refs;rw[f',c1];rfl);lia;intro Dt H4 f4 s4 e4;rw[oE _ _ (by rw[aJ];omega)] at e4;have f0:=s4.get ez;lia;intro Dl H5 f5 ν e5;refine nX (ν.get e4) e5 (by rw[x4,kv];show _ + 1<=_;omega) λDn H6 f6 s6 e6=>?_;have g4:=s6.get (ν.get f0);lia;intro Do H7 f7 s7 O;rw[oF _ _ (by rw[aJ];omega)] at O;lia;intro t2 H8 f8 τ e8;have η:=s7.trans τ;have θ:=s4.trans (ν.trans (s6.trans η));obtain⟨x1,x2⟩:=IZ g h2 hi.1 e8 (η.get e6) (τ.get O) (υ.same θ) ζ pv;exact q t2 Dn Do H8 _ _ (s1.trans (s2.trans (sz.trans θ))) x1 (by rw[eH,x4];show _ + 1<=16;omega) (by rw[Kj];omega) x2
end
section
variable {P:oe} {w:sb} {K:aT} {mg:Dk} {base:u2} {a:Ad}
local macro_rules | `(tactic| walk_at "l2step") =>`(tactic| first | ((with_reducible refine' ip ?e ?_);(case e=>walk_at "l2kind")) | ((with_reducible refine' j9 ?e ?_);(case e=>walk_at "l2kind")) | (with_reducible refine gf ?_) | (with_reducible refine iK ?_))
theorem yg (T:Tx K mg a):FnOk P w K mg base CX0 3 a.ig a.uJ ["thing","stores","inputs"] Bx:=by
 have O:FnOk P w K mg base CX0 2 a.gy a.pV ["thing","width"] (vo K):=mZ T;refine T.mJ.1.okA xV fun β A outer s H vs Q E Y h=>?_;obtain⟨t,x,y,n,m,rfl,ht,α,Z,q⟩:=h
 refine⟨_,((ae (bz (PW.pt (gL (dj (cq (aE (cu (K:=K) rfl) (by rfl) T.bb oL (!j 0 (aa (fi (v:= .ty "tuple") (by rfl) T.pj KB rfl) af))))) (dX (aA kH (aE (aO (K:=K) rfl) (by rfl) T.fU q8 (!j 0 af)) ag (aG _))))) (ai (aB iU)) aF)
  (ai (aB (o4 (aj O Y T.mr T.iq (aa (!A @F (pv 0) ag) (!j 1 af))) (rj (aj O Y T.mr T.iq (aa (!A @F (pv 0) ag) (!j 2 af))))))))),aI (σ':=[aS _,aS _,aS _]) rfl ?_⟩
 lia;refine zA (fw α) ?_;lia;rw[fw Z];exact q
theorem qm (T:Tx K mg a):FnOk P w K mg base CX0 4 a.cR a.mC ["inputs","nexts","outs"] Ex:=by
 have ρ:FnOk P w K mg base CX0 1 a.dQ a.kB ["thing"] (oA K):=lF T;refine T.gP.1.okA qg fun η A outer s H vs Q E α h=>?_;obtain⟨n,o,m,nx,os,rfl,t,q⟩:=h
 refine⟨_,((ae (bz (PW.pt (gL (dj (cq (aj ρ α T.nG T.gW (!j 0 af)))) (gL (aA zZ (pv 0) ag (aG _)) (dX (aA o7 (pv 0) (vG (v:= .int 6) (by rfl) T.sH ⟨_,rfl⟩) (aG _)))))) (ai (gh vu T.eK thr0 rfl (by rfl) T.kq (aa eM af))) aF)
  (ae (bz (PW.pt (gL (dj (cq (aE (cu (K:=K) rfl) (by rfl) T.bb oL (!j 1 (aa (fi (v:= .ty "list") (by rfl) T.hX u1 rfl) af))))) (dX (aA o7 (aE (aO (K:=K) rfl) (by rfl) T.fU q8 (!j 1 af)) (vG (v:= .int 120) (by rfl) T.sG ⟨_,rfl⟩) (aG _))))) (ai (gh vu T.eK thr0 rfl (by rfl) T.kq (aa eM af))) aF)
  (ae (bz (PW.pt (gL (dj (cq (aE (cu (K:=K) rfl) (by rfl) T.bb oL (!j 2 (aa (fi (v:= .ty "list") (by rfl) T.hX u1 rfl) af))))) (dX (aA o7 (aE (aO (K:=K) rfl) (by rfl) T.fU q8 (!j 2 af)) (vG (v:= .int 6) (by rfl) T.wa ⟨_,rfl⟩) (aG _))))) (ai (gh vu T.eK thr0 rfl (by rfl) T.kq (aa eM af))) aF)
  (ai (bz (dj (cq (aE (Ba (K:=K) rfl rfl) (by rfl) T.IW PyProof.Rows.boot_all (aa (g8 (osc:=ah gJ) (ON:=["inputs","nexts","outs"]) (N:=["pair","nexts","inputs"]) (n:=1) (fx:=[1,0]) rfl rfl rfl @G (aW (K:=K) rfl (ao jz (pv 1) (pv 2))) (aN @C) (λ_ _ _ _ _=>⟨(aq (i:=0) (show q3 (["pair","nexts","inputs"]:C') from by decide +kernel) rfl @D),bB,(aj (yg T) α T.AD T.mJ (!j 0 (aa (aE (aO (K:=K) rfl) (by rfl) T.fU q8 (!j 1 af)) (!j 2 af))))⟩)) af)))) (ai (gh vu T.eK thr0 rfl (by rfl) T.kq (aa eM af))) aF)))))),aI (σ':=[aS _,aS _,aS _]) rfl ?_⟩
 lia;have m6:=t.m6;have ln:=t.ln;have lo:=t.lo;have hn:=t.n;have ho:=t.o;have χ:(refs nx).length=nx.length:=eB ..
 have ω:(refs os).length=os.length:=eB ..
 refine tS (fA @A) ?_;lia;refine tS (fA @A) ?_;lia;refine tS (fA @A) ?_;lia;refine nX hn ho (by rw[kv];omega) λp H2 ο Z ζ=>?_;lia;intro D β;refine bQ (xs:=refs nx++refs os) (λi ys H'=>Cs (λi ys=>ys=(ra i true).map V.bl) H2 D i ys H') (Cs.zero β rfl) (λi ys H' _ c=>SqL.of (c.same.get ζ)) (λi x ys H' Y c=>?_) (λys H' c=>?_)
 ·have Y:(refs (nx++os))[i]? =aS x:=by unfold refs at Y ⊢;rw[hF];exact Y
  obtain⟨δ,O,rfl⟩:=aX Y;have hm:=eO O;have hi:=(dt.mp O).1;rw[eH] at hi;have hb:=t.bn δ hm;have ht:H δ.1=aS (.tup [nat δ.2.1,nat δ.2.2]):=(lh.mp hm).elim (t.pn δ) (t.po δ);have ε:=c.same.get (Z.get hn);lia;rw[χ];refine⟨δ.1,δ.2.1,δ.2.2,nx.length,m,rfl,c.same.get (Z.get ht),hb.1,hb.2,?_⟩;refine Cs.put β c.same c.at' c.len @A ?_;rw[c.pv,Ph,hF];rfl
 ·have γ:=c.at';rw[c.pv] at γ;lia;refine GQ (SqL.of γ) ?_;lia;refine tS (by rw[List.all_replicate];simp) ?_;lia;exact q H' (Z.trans c.same)
theorem hV (T:Tx K mg a):FnOk P w K mg base CX0 5 a.aV a.iF ["self","inputs","nexts","outs"] (Es a.au):=by
 refine T.cw.1.okA lj λa0 A outer s H vs Q E ψ h=>?_;obtain⟨x,dx,n,o,m,nx,os,rfl,β,t,q⟩:=h
 refine⟨_,((ae (fg (aj (qm T) ψ T.sE T.gP (!j 1 (!j 2 (!j 3 af)))))
  (ae (mV (K:=K) rfl (pv 0) (pv 1) rfl)
  (ae (mV (K:=K) rfl (pv 0) (fh (p5 (K:=K) rfl) (by rfl) T.pj KB (!j 2 af)) rfl)
  (ai (mV (K:=K) rfl (pv 0) (fh (p5 (K:=K) rfl) (by rfl) T.pj KB (!j 3 af)) rfl)))))),aI (σ':=[aS _,aS _,aS _,aS _]) rfl ?_⟩
 lia;refine⟨n,o,m,nx,os,rfl,t,λH1 ζ=>?_⟩;have ι:=iY t.n β @E;have τ:=iY t.o β @E;lia;refine mQ (ζ.get β) T.az T.aL @C rfl λH2 O=>?_;have ξ:=O.oth _ _ ι (ζ.get t.n);have π:=O.oth _ _ τ (ζ.get t.o);lia;intro ρ H3 φ θ e3;have Y:ρ≠x:=λz=>by rw[z,O.at'] at φ;cases φ
 lia;refine mQ (θ.get O.at') T.az T.fq (by show 1 < 1000;decide) rfl λZ ε=>?_;have ω:=ε.oth _ _ τ (θ.get π);have e4:=ε.oth _ _ Y e3;lia;intro to α υ ν e5;have η:to≠x:=λz=>by rw[z,ε.at'] at υ;cases υ
 lia;refine mQ (ν.get ε.at') T.az T.iP (by show 2 < 1000;decide) rfl fun χ γ=>?_;have k:∀b ob,b≠x->H b=aS ob->χ b=aS ob:=λb ob ο e=>γ.oth _ _ ο (ν.get (ε.oth _ _ ο (θ.get (O.oth _ _ ο (ζ.get e)))));lia;refine q χ k ⟨⟨dx,ρ,to,γ.at',γ.oth _ _ Y (ν.get e4),γ.oth _ _ η e5⟩,fun δ h=>k _ _ ?_ (t.pn δ h),fun δ h=>k _ _ ?_ (t.po δ h)⟩
 ·exact iY (t.pn δ h) β @E
 ·exact iY (t.po δ h) β @E
theorem bo (T:Tx K mg a):FnOk P w K mg base CX0 1 a.bh a.jG ["self"] (ze a.au):=by
 refine T.aM.1.okA mP λY A outer s H vs Q E Z h=>?_;obtain⟨p,m,nx,os,rfl,ma,q⟩:=h;obtain⟨dx,ε,to,ho,hn,O⟩:=ma.ho;refine⟨_,((ai (aB (aE (aO (K:=K) rfl) (by rfl) T.fU q8 (aa (bL (K:=K) rfl (pv 0) rfl) af))))),aI (σ':=[aS _]) rfl ?_⟩;lia;refine bS ho T.az T.fq rfl ?_;lia;unfold refs;rw[eB];exact q
theorem z7 (T:Tx K mg a):FnOk P w K mg base CX0 2 a.jq a.xw ["pair","state","row"] BD:=by
 refine T.oG.1.okA zy λY A outer s H vs Q E O h=>?_;obtain⟨t,a1,b1,x,r,rfl,ht,ha,hb,q⟩:=h;refine⟨_,((ai (aB (gF kH (aj (vJ T) O T.AE T.rG (aa (ao dY (!A @F (pv 0) ag) (pv 1)) af)) (aj (vJ T) O T.AE T.rG (aa (ao dY (!A @F (pv 0) ag) (pv 2)) af)) (aG _))))),aI (σ':=[aS _,aS _,aS _]) rfl ?_⟩;lia;rw[a8];refine⟨a1&&&x,rfl,v3 Lh ha,?_⟩;lia;rw[a8];refine⟨b1&&&r,rfl,v3 Lh hb,?_⟩;lia;rw[yV];exact q
theorem l9 (T:Tx K mg a):FnOk P w K mg base CX0 3 a.dy a.nL ["pairs","state","row"] (Er K):=by
 refine T.gA.1.okA rM fun ξ A outer s H vs Q E ζ h=>?_;obtain⟨r,ps,x,y,rfl,hp,pt,hl,hb,q⟩:=h;refine⟨_,((ai (aB (aj (yf T) ζ T.AC T.mI (aa (g8 (osc:=ah ix) (ON:=["pairs","state","row"]) (N:=n19) (n:=2) (fx:=[1,2]) rfl rfl rfl @G (B4 (K:=K) rfl (by rfl) T.cy (pv 0)) (mq (cj (aN @C) (cj (aN @C) jm))) (λ_ _ _ _ _=>⟨(jj (K:=K) (n:=2) rfl rfl (ax (aq (i:=0) (show q3 (n19:C') from by decide +kernel) rfl @D) (ax (aq (i:=1) (show q3 (n19:C') from by decide +kernel) rfl @D) b7))),(rQ (cq (aj (z7 T) ζ T.Cw T.oG (!j 1 (!j 2 (!j 3 af)))))),(pv 0)⟩)) af))))),aI (σ':=[aS _,aS _,aS _]) rfl ?_⟩;lia;refine .inr ⟨⟨_,hp⟩,?_⟩;intro D η;refine yz (xs:=refs ps) (λi ys H'=>Cs (λi ys=>∃ι:D',ys=ι.map nat/\(∀p∈ι,p < i)/\M.xm ι=M.tr2 (prs (ps.take i)) x y) H D i ys H') (Cs.zero η ⟨[],rfl,λ_ h=>gd h @E,rfl⟩) (λi ys H' _ c=>Same.tup c.same hp) (λi v ys H' p ο ν c fp β O=>?_) (λys H' c=>?_)
 ·obtain⟨δ,α,rfl⟩:=aX ν;obtain⟨ι,Z,γ,Y⟩:=c.pv;have hm:=eO α;have hi:=(dt.mp α).1;have ht:=β.get (c.same.get (pt δ hm));have ts:=Bu x y α;lia;refine⟨δ.1,δ.2.1,δ.2.2,x,y,rfl,ht,(hb δ hm).1,(hb δ hm).2,?_⟩;cases ε:(M.od (δ.2.1&&&x)^^M.od (δ.2.2&&&y)) with
  | true=>
    rw[ε,px rfl] at ts;lia;refine Cs.put η (c.same.trans β) (β.get c.at') c.len @A ⟨ι++[i],?_,λk hk=>?_,?_⟩
    ·rw[Z,hF];rfl
    ·rcases lh.mp hk with h | h
     ·have:=γ k h;omega
     ·rw[fk.mp h];omega
    ·rw[M.xm_snoc,Y,ts]
  | false=>
    rw[ε,ko hC,K3] at ts;lia;refine Cs.skip (c.same.trans β) (β.get c.at') c.len ⟨ι,Z,λk hk=>?_,?_⟩
    ·have:=γ k hk;omega
    ·rw[Y,ts]
 ·obtain⟨ι,Z,γ,Y⟩:=c.pv;rw[aJ] at γ Y;have θ:=c.at';rw[Z] at θ;lia;refine⟨D,ι,rfl,θ,λk hk=>by have:=γ k hk;omega,?_⟩;rw[Y,K6];exact q _ c.same
theorem fK (T:Tx K mg a):FnOk P w K mg base (CX1 P w) 3 a.aK a.gz ["self","state"] (Gm K a.au a.dF):=by
 refine T.bp.1.okX jI (λvs H Q E h=>?_) (fun β A outer s H vs Q E Z h=>?_)
 ·obtain⟨p,m,nx,os,x,k,rfl,_⟩:=h;rfl
 ·obtain⟨p,m,nx,os,x,k,rfl,ma,hk,O,Y⟩:=h;obtain⟨dx,ε,to,ho,hn,α⟩:=ma.ho;refine⟨_,((ai (bz (dj (cq (aj (mZ T) Z T.mr T.iq (!j 1 (aa (aE (aO (K:=K) rfl) (by rfl) T.fU q8 (aa (bL (K:=K) rfl (pv 0) rfl) af)) af))))) (ai (gh vu T.gX d3 rfl (by rfl) T.pN (aa eM af))) aF))),aI (σ':=[aS _,aS _]) rfl ?_⟩;lia;refine bS ho T.az T.fq rfl ?_;lia;rw[aJ];cases hm:lK x (nx.length:Int) with
  | false=>
    lia;exact⟨by rw[kv];decide,Y hm⟩
  | true=>
    lia;exact O hm
theorem hU (T:Tx K mg a):FnOk P w K mg base (CX1 P w) 4 a.bH a.kX ["self","state","row"] (Bz K a.au a.dF):=by
 refine T.cG.1.okX oO (λvs H Q E h=>?_) (fun ν A outer s H vs Q E Y h=>?_)
 ·obtain⟨p,m,nx,os,x,y,kx,θ,rfl,_⟩:=h;rfl
 ·obtain⟨p,m,nx,os,x,y,kx,θ,rfl,ma,g,δ,φ,η,β⟩:=h;obtain⟨dx,ε,to,ho,hn,α⟩:=ma.ho;have ln:=g.ln;have lo:=g.lo
  refine⟨_,((ae (fg (gN (pv 0) T.az T.gv (fK T) (Y.mono @C) T.bp.2 .nil d3 (!j 1 af)))
   (ae (bz (dj (cq (aj (mZ T) Y T.mr T.iq (!j 2 (aa (bL (K:=K) rfl (pv 0) rfl) af))))) (ai (gh vu T.gX d3 rfl (by rfl) T.pN (aa eM af))) aF)
   (ai (aB (cH (aa (aj (l9 T) Y T.nK T.gA (aa (bL (K:=K) rfl (pv 0) rfl) (!j 1 (!j 2 af)))) (aa (aj (l9 T) Y T.nK T.gA (aa (bL (K:=K) rfl (pv 0) rfl) (!j 1 (!j 2 af)))) af)))))))),aI (σ':=[aS _,aS _,aS _]) rfl ?_⟩
  lia;refine eZ ho rfl ?_;lia;refine⟨p,m,nx,os,x,kx,rfl,ma,δ,λhm=>?_,λhm=>β (.inl hm)⟩;lia;refine bS ho T.az T.aL rfl ?_;lia;cases υ:lK y (m:Int) with
  | false=>
    lia;exact⟨by rw[kv];decide,β (.inr υ)⟩
  | true=>
    obtain⟨a1,rfl,ha⟩:=si hm;obtain⟨b1,rfl,hb⟩:=si υ;lia;refine bS ho T.az T.iP rfl ?_;lia;refine⟨to,os,a1,b1,rfl,SqT.of α,ma.hs,@A,g.b2,λH2 O=>?_⟩;lia;refine bS (O.get ho) T.az T.fq rfl ?_;lia;refine⟨ε,nx,a1,b1,rfl,SqT.of (O.get hn),ma.hn.same O,@A,g.b1,fun ο ζ=>?_⟩;lia;intro t Z ξ γ ι;exact η a1 b1 rfl rfl ha hb t Z (O.trans (ζ.trans γ)) ι
theorem m9 (T:Tx K mg a):FnOk P w K mg base (CX1 P w) 5 a.bg a.jF ["self","rows","state"] (Bw K a.au a.dF):=by
 refine T.c7.1.okX cI (λvs H Q E h=>?_) (λa5 A outer s H vs Q E π h=>?_)
 ·obtain⟨p,ν,m,nx,os,x,xs,rfl,_⟩:=h;rfl
 ·obtain⟨p,ν,m,nx,os,x,xs,rfl,Z,qQ,ξ⟩:=h;obtain⟨dx,tn,to,ho,hn,a4⟩:=Z.ma.ho;obtain⟨kx,δ⟩:=Z.kx;have ln:=Z.ln;have a3:=Z.sq
  refine⟨_,((ae (fg (gN (pv 0) T.az T.gv (fK T) (π.mono @C) T.bp.2 .nil d3 (!j 2 af)))
   (ae (av (i:=3) cI.nd rfl @D (dU af))
   (ae (dS (vH ⟨rfl,rfl⟩) rfl (aW (K:=K) rfl (pv 1)) (aq (i:=4) cI.nd rfl @D) (ae (av (i:=5) cI.nd rfl @D (gN (pv 0) T.az T.iQ (hU T) (π.mono @C) T.cG.2 .nil d3 (!j 2 (!j 4 af))))
   (ae (fg (lX (K:=K) rfl y5 J8 zP dZ (pv 3) (aa (!A @F (pv 5) ag) af)))
   (ai (av (i:=2) cI.nd rfl @D (!A @F (pv 5) ag))))))
   (ai (aB (cH (!j 3 (!j 2 af))))))))),aI (σ':=[aS _,aS _,aS _,eC,eC,eC]) rfl ?_⟩
  lia;refine eZ ho rfl ?_;lia;refine⟨p,m,nx,os,x,kx,rfl,Z.ma,δ,λhm=>?_,λhm=>ξ (.inl hm) H (Same.refl _)⟩;obtain⟨γ,rfl,ω⟩:=si hm;lia;intro D H1 ρ s1 e1;lia;refine iE (xs:=xs) (λi σ H'=>∃(rs:D') (v θ:nk V),σ=[aS (.ref p),aS (.ref ν),aS (nat (M.wst (prs nx) γ rs)),aS (.ref D),v,θ]/\Same H H'/\H' D=aS (.lst ((M.wan (prs nx) (prs os) γ rs).map nat))/\xs.take i=rs.map nat/\∀r∈rs,r < 2 ^ m) ⟨[],eC,eC,rfl,s1,e1,rfl,λ_ h=>gd h @E⟩ (λi σ H' _ ⟨_,_,_,_,e,_⟩=>Same.seq e Z.sq) ?_ ?_
  ·rintro i y σ H' ζ ⟨rs,v,θ,rfl,α,η,et,ε⟩;obtain⟨ky,φ⟩:=Z.ks y (eO ζ);have hi:=(dt.mp ζ).1;have υ:rs.length=i:=by have:=y' Mo et;rw[x4,eB] at this;omega
   have χ:M.wst (prs nx) γ rs < 2 ^ nx.length:=by have:=M.wst_lt (ps:=prs nx) (rs:=rs) (x:=γ) (by rw[aw];exact ω);rwa [aw] at this
   lia;refine eZ (α.get ho) rfl ?_;lia;refine⟨p,m,nx,os,nat (M.wst (prs nx) γ rs),y,"int",ky,rfl,Z.ma.same α,Z.g,rfl,Ar φ α,λa1 b1 ea eb ha hb t τ β O=>?_,fun ψ=>?_⟩
   ·have ea:=fT ea;subst ea;subst eb;lia;refine iy (β.get η) (by rw[eB,M.wan_len,kv];omega) λH8 Y=>?_;have e8:=Y.oth _ _ (iY O (β.get η) @E) O;lia;refine⟨rs++[b1],?_⟩;rw[M.wst_snoc,M.wan_snoc,hF];refine⟨_,_,rfl,λb o e=>Y.oth _ _ (ar e ρ) (β.get (α.get e)),Y.at',?_,λr ι=>?_⟩
    ·rw[Lm,et,ζ,hF];rfl
    ·rcases lh.mp ι with h | h
     ·exact ε r h
     ·rw[fk.mp h];exact hb
   ·rcases ψ with h | h
    ·rw[fw χ] at h;cases h
    ·exact ξ (.inr ⟨y,eO ζ,h⟩) H' α
  ·rintro σ H' ⟨rs,v,θ,rfl,α,η,et,ε⟩;rw[K6] at et;lia;intro t τ ο β O;exact qQ γ rs ⟨rfl,et,ω,ε⟩ t D τ ρ (α.trans β) O (β.get η)
theorem qp (T:Tx K mg a):FnOk P w K mg base (CX1 P w) 6 a.bI a.ju ["self","rows","state"] (Gh K a.au a.dF):=by
 refine T.fH.okX qi (λvs H Q E h=>?_) (fun η A outer s H vs Q E γ h=>?_)
 ·obtain⟨p,O,m,nx,os,x,xs,rfl,_⟩:=h;rfl
 ·obtain⟨p,O,m,nx,os,x,xs,rfl,Y,α,β⟩:=h;obtain⟨dx,ε,to,ho,hn,δ⟩:=Y.ma.ho;refine⟨_,((ai (aB (!A @F (gN (pv 0) T.az T.n6 (m9 T) (γ.mono @C) T.c7.2 .nil d3 (!j 1 (!j 2 af))) ag)))),aI (σ':=[aS _,aS _,aS _]) rfl ?_⟩;lia;refine eZ ho rfl ?_;lia;refine⟨p,O,m,nx,os,x,xs,rfl,Y,λa1 rs g t D H2 ζ Z et υ=>?_,β⟩;lia;exact α a1 rs g D H2 ζ Z υ
theorem iX (T:Tx K mg a):FnOk P w K mg base (CX1 P w) 7 a.bj a.jH ["self","which","turns"] (zf K a.au a.dF):=by
 refine T.cn.1.okX iT (λvs H Q E h=>?_) (λa3 A outer s H vs Q E ξ h=>?_)
 ·obtain⟨p,m,nx,os,x,k,π,rfl,_⟩:=h;rfl
 ·obtain⟨p,m,nx,os,x,k,π,rfl,ma,g,hk,hT,qQ,Y⟩:=h;obtain⟨dx,ε,to,ho,hn,a0⟩:=ma.ho;have m6:=g.m6
  refine⟨_,((ae (bz (PW.pt (gL (dj (cq (aj (lF T) ξ T.nG T.gW (!j 1 af)))) (gL (aA zZ (pv 1) ag (aG _)) (dX (aA Ha (pv 1) (bL (K:=K) rfl (pv 0) rfl) (aG _)))))) (ai (gh vu T.gX d3 rfl (by rfl) T.pN (aa eM af))) aF)
   (ae (av (i:=3) iT.nd rfl @D (ao jz (dU (aa (ao bM ag (pv 1)) af)) (ao G7 (dU (aa ag af)) (pv 2))))
   (ai (aB (gN (dvs:=[.int 0]) (pv 0) T.az T.sj (qp T) (ξ.mono @C) T.jy (.cons T.rJ .nil) d3 (aa (gM (iw (K:=K) rfl) (pv 3) jh (jg (pv 2))) af))))))),aI (σ':=[aS _,aS _,aS _,eC]) rfl ?_⟩
  lia;cases x with
  | int i=>
    have hk:k="int":=hk;subst hk;lia;by_cases τ:i < 0
    ·refine zA (hJ τ) ?_;lia;exact⟨by rw[kv];decide,Y (by show(decide ((0:Int)<=i)&&decide (i < (m:Int)))=false;rw[fA @A];rfl)⟩
    ·refine tS (fA τ) ?_;lia;refine bS ho T.az T.aL rfl ?_;lia;by_cases h1:(m:Int)<=i
     ·refine zA (hJ h1) ?_;lia;exact⟨by rw[kv];decide,Y (by show(decide ((0:Int)<=i)&&decide (i < (m:Int)))=false;rw[fA (show ¬i < (m:Int) by omega),Ks])⟩
     ·refine tS (fA h1) ?_;obtain⟨j,rfl⟩:=KU (show 0<=i by omega);lia;rw[shl1];intro D1 H1 f1 ι e1;lia;intro D2 H2 ο γ e2;lia;refine IB e2 @A @A (by rw[kv,pT];simp;omega) fun ρ H3 f3 β ω=>?_;rw[pT,List.flatten_replicate_singleton] at ω;refine nX (β.get (γ.get e1)) ω (by rw[Ku,kv];simp;omega) fun φ H4 f4 θ e4=>?_;have er:[nat (2 ^ j)]++ra π (V.int 0)=(2 ^ j::ra π 0).map nat:=by rw[z0,List.map_replicate];rfl
      rw[er] at e4;lia;refine eZ (θ.get (β.get (γ.get (ι.get ho)))) rfl ?_;lia;intro D5 α f5 ν ψ;rw[oE _ π (by rw[eB,JV,Ku];omega),<-M4,M.pulse_eq] at ψ;have O:=ι.trans (γ.trans (β.trans (θ.trans ν)));lia;refine⟨p,D5,m,nx,os,nat 0,(M.pulse j π).map nat,rfl,⟨ma.same O,g,⟨"int",rfl⟩,SqL.of ψ,Bo.nats _ _ _,by rw[eB,M.pulse_len];omega⟩,λa1 rs χ D H6 fD s6 υ=>?_,fun η=>?_⟩
      ·obtain⟨ea,ζ,_,_⟩:=χ;have ea:=fT ea;subst ea
       have ζ:rs=M.pulse j π:=by
        have:=y' (List.map λv:V=>match v with | .int i=>i.toNat | _=>0) ζ;rw[KR,KR] at this;exact(this.symm.trans (Ot _)) ▸ (Ot _).symm ▸ rfl
       subst ζ
       have Z:H D=none:=by
        cases hx:H D with
        | none=>rfl
        | some v=>have:=O.get hx;rw[fD] at this;cases this
       exact qQ j rfl @A D H6 Z (O.trans s6) υ
      ·rcases η with h | ⟨y,hy,h⟩
       ·rw[show lK (nat 0) (nx.length:Int)=true from fw (lz _)] at h;cases h
       ·obtain⟨r,δ,rfl⟩:=w2.mp hy;rw[fw (M.pulse_lt (show j < m by omega) π r δ)] at h;cases h
  | bl b=>have hk:k="bool":=hk;subst hk;lia;exact⟨by rw[kv];decide,Y rfl⟩
  | non=>have hk:k="NoneType":=hk;subst hk;lia;exact⟨by rw[kv];decide,Y rfl⟩
  | str z=>have hk:k="str":=hk;subst hk;lia;exact⟨by rw[kv];decide,Y rfl⟩
  | ref p2=>
    rcases hk with ⟨rfl,_⟩ | ⟨rfl,_⟩ | ⟨rfl,_⟩<;>lia<;>exact⟨by rw[kv];decide,Y rfl⟩
  | _=>exact z4 hk
theorem bN (T:Tx K mg a):FnOk P w K mg base CX0 1 a.aZ a.i4 ["self"] (xP a.au):=by
 refine T.aU.1.okA lU λY A outer s H vs Q E Z h=>?_;obtain⟨p,m,nx,os,rfl,ma,q⟩:=h;obtain⟨dx,ε,to,ho,hn,O⟩:=ma.ho;refine⟨_,((ai (aB (aE (aO (K:=K) rfl) (by rfl) T.fU q8 (aa (bL (K:=K) rfl (pv 0) rfl) af))))),aI (σ':=[aS _]) rfl ?_⟩;lia;refine bS ho T.az T.iP rfl ?_;lia;unfold refs;rw[eB];exact q
end
local macro_rules | `(tactic| walk_at "l2step") =>`(tactic| first | ((with_reducible refine' ka ?e ?a ?_);(case e=>walk_at "l2hp");(case a=>walk_at "l2side")) | ((with_reducible refine' sP ?a ?b ?_);(case a=>walk_at "l2side");(case b=>walk_at "l2side");(with_reducible intro _ _)))
section
variable {P:oe} {w:sb} {K:aT} {mg:Dk} {base:u2} {a:Ad}
local macro_rules | `(tactic| walk_at "l2step") =>`(tactic| first | ((with_reducible refine' ip ?e ?_);(case e=>walk_at "l2kind")) | ((with_reducible refine' j9 ?e ?_);(case e=>walk_at "l2kind")) | (with_reducible refine gf ?_) | (with_reducible refine iK ?_))
theorem tY (T:Tx K mg a):FnOk P w K mg base CX0 1 a.eE a.pX ["_law_tables","_law_cell_here"] xS:=by
 refine T.jx.1.okA bK λh0 A outer s H vs Q E hr h=>?_;obtain⟨t,n,o,m,nx,os,c,rfl,tt,q⟩:=h;have b4:=vD hr;have et:=tt.t;have χ:=tt.tab.n;have eo:=tt.tab.o;have pn:=tt.tab.pn;have po:=tt.tab.po;have g:=tt.tab.g;have Y:=g.lo;have ln:=g.ln;have m6:=g.m6
 refine⟨_,((ae (oY (pv 0) (g7 rfl (ax (aq (i:=2) bK.nd rfl @D) (ax (aq (i:=3) bK.nd rfl @D) (ax (aq (i:=4) bK.nd rfl @D) b7)))))
  (ae (av (i:=5) bK.nd rfl @D (ao jz (pv 3) (pv 4)))
  (ae (bz (aA (Fd (K:=K) rfl b4) (pv 5) (dU af) (aG _)) (ai (aB (pv 0))) aF)
  (ae (av (i:=6) bK.nd rfl @D (ao bP (pv 1) (aE (aO (K:=K) rfl) (by rfl) T.fU q8 (!j 5 af))))
  (ae (oY (!A (cf (K:=K) rfl) (pv 5) (pv 6)) (g7 rfl (ax (aq (i:=7) bK.nd rfl @D) (ax (aq (i:=8) bK.nd rfl @D) b7))))
  (iO (bz (PW.pt (tV (aA iu (ao bP (ao fm (pv 1) ag) ag) ag (aG _)) (oX (aA o7 (pv 2) ag (aG _))))) (ai (av (i:=8) bK.nd rfl @D (ao iV (pv 8) (ao bM ag (ao bP (ao fm (pv 1) ag) (pv 2)))))) (ai (bz (aA (rY (K:=K) rfl b4) (pv 3) (dU af) (aG _)) (ai (av (i:=7) bK.nd rfl @D (ao iV (pv 7) (ao bM ag (ao bP (ao fm (pv 1) ag) (aE (aO (K:=K) rfl) (by rfl) T.fU q8 (!j 3 af))))))) aF)))
  (ae (av (i:=5) bK.nd rfl @D (ao jz (ao jz (gM (iw (K:=K) rfl) (pv 5) jh (jg (pv 6))) (dU (aa (cH (!j 7 (!j 8 af))) af))) (gM (iw (K:=K) rfl) (pv 5) (jg (ao bC (pv 6) ag)) jh)))
  (ai (aB (cH (!j 2 (aa (gM (iw (K:=K) rfl) (pv 5) jh (jg (aE (aO (K:=K) rfl) (by rfl) T.fU q8 (!j 3 af)))) (aa (gM (iw (K:=K) rfl) (pv 5) (jg (aE (aO (K:=K) rfl) (by rfl) T.fU q8 (!j 3 af))) jh) af)))))))))))))),aI (σ':=[aS _,aS _,eC,eC,eC,eC,eC,eC,eC]) rfl ?_⟩
 lia;refine nX χ eo (by rw[aJ,aJ,kv];omega) λDp H1 f1 s1 e1=>?_;rw[show refs nx++refs os=refs (nx++os) from(hF ..).symm] at e1;have α:Prt H1 (nx++os):=(rR pn po).same s1;have d1:=s1.get χ;lia;intro De H2 f2 υ e2;have ω:=υ.get e1;have a0:=α.same υ;refine BJ ω a0 e2 ?_;refine⟨_,rfl,?_⟩;dsimp only;refine ite2 (λh1=>?_) (λh1=>?_)
 ·lia;exact q t n o H2 nx os (s1.trans υ) (tt.same (s1.trans υ)) rfl rfl
 have ψ:0 < nx.length + os.length:=by
  rcases Nat.eq_zero_or_pos (nx.length + os.length) with z | z
  ·exfalso;apply h1;rw[List.isEmpty_iff,List.append_eq_nil_iff];exact⟨JM @A,JM @A⟩
  ·exact z
 obtain⟨i,ei,hi⟩:∃i:Nat,c % ((nx.length + os.length:Nat):Int)=(i:Int)/\i < nx.length + os.length:=by
  have h3:=LB c (show((nx.length + os.length:Nat):Int)≠0 by omega);have h4:=L0 c (show(0:Int) < ((nx.length + os.length:Nat):Int) by omega);exact⟨(c % ((nx.length + os.length:Nat):Int)).toNat,@A,@A⟩
 have ξ:i < (nx++os).length:=by rw[eH];exact hi
 obtain⟨r,a3⟩:∃r,(nx++os)[i]? =aS r:=⟨_,b' ξ⟩;have er:=a0 r (eO a3);have hb:=g.bn r (eO a3);have f0:atI (refs (nx++os)) (i:Int)=aS (.ref r.1):=fY (by unfold refs;rw[f',a3];rfl);have a4:=υ.get d1;lia;rw[aJ,eH];refine⟨_,_,rfl,rfl,@A,?_⟩;dsimp only;rw[ei];lia;refine qj (fun σ H'=>∃x y:Nat,(x < 2 ^ nx.length/\y < 2 ^ m)/\σ=[aS (V.ref t),aS (V.int c),aS (nat m),aS (V.ref n),aS (V.ref o),aS (V.ref Dp),aS (V.int (i:Int)),aS (nat x),aS (nat y)]/\Same H2 H') ?_ ?_
 ·lia;dsimp only;refine ite2 (λh2=>?_) (λh2=>?_);lia;dsimp only;refine ite2 (λh3=>?_) (λh3=>?_)
  ·have hm:0 < m:=by have h4:=Km h3;omega
   obtain⟨k,ek,hk⟩:∃k:Nat,c / 192 % (m:Int)=(k:Int)/\k < m:=by
    have θ:=LB (c / 192) (show(m:Int)≠0 by omega);have h4:=L0 (c / 192) (show(0:Int) < m by omega);exact⟨(c / 192 % (m:Int)).toNat,@A,@A⟩
   lia;refine⟨r.2.1,r.2.2^^^2 ^ k,⟨hb.1,KW hb.2 (rn @C hk)⟩,?_,λ_ _ e=>e⟩;rw[ek,show(1:Int) * 2 ^ ((k:Int).toNat)=((2 ^ k:Nat):Int) from shl1 k,bX]
  all_goals
   lia;intro π Z f4 ε e4;refine BG (ε.get a4) ((pn.same (s1.trans υ)).same ε) e4 ?_;refine⟨_,rfl,?_⟩;dsimp only;refine ite2 (λh3=>?_) (λh3=>?_)
   ·have hn:0 < nx.length:=by
     cases nx with
     | nil=>cases h3
     | cons _ _=>exact Nat.succ_pos _
    obtain⟨k,ek,hk⟩:∃k:Nat,c / 192 % (nx.length:Int)=(k:Int)/\k < nx.length:=by
     have θ:=LB (c / 192) (show(nx.length:Int)≠0 by omega);have h4:=L0 (c / 192) (show(0:Int) < nx.length by omega);exact⟨(c / 192 % (nx.length:Int)).toNat,@A,@A⟩
    have g5:=ε.get a4;lia;rw[aJ];lia;refine⟨r.2.1^^^2 ^ k,r.2.2,⟨KW hb.1 (rn @C hk),hb.2⟩,?_,ε⟩;rw[ek,show(1:Int) * 2 ^ ((k:Int).toNat)=((2 ^ k:Nat):Int) from shl1 k,bX]
   ·lia;exact⟨r.2.1,r.2.2,hb,rfl,ε⟩
 ·rintro σ H3 ⟨x,y,⟨hx,hy⟩,rfl,s3⟩;have η:=s3.get ω;lia;intro Da Z f4 ε e4;rw[oE _ _ (by rw[aJ];omega)] at e4;lia;intro De H5 f5 s5 e5;lia;intro Dl H6 f6 s6 e6;have b3:(refs (nx++os)).length=nx.length + os.length:=by rw[aJ,eH]
  refine nX (s6.get (s5.get e4)) e6 (by rw[x4,kv];show _ + 1<=_;omega) λDm H7 ο s7 e7=>?_;have a6:=ε.trans (s5.trans (s6.trans s7));have g6:=a6.get η;lia;intro Dr H8 f8 τ e8;rw[show((i:Int) + 1)=((i + 1:Nat):Int) by omega,oF _ _ (by rw[aJ];omega)] at e8;refine nX (τ.get e7) e8 (by rw[eH,x4,Kj,b3,kv];show _ + 1 + _<=_;omega) λDq H9 ζ s9 e9=>?_;have c4:=(a6.trans (τ.trans s9)).get (s3.get a4);lia;intro ι h6 g4 γ ν
  have lq:(List.take i (refs (nx++os))++[V.ref De]++List.drop (i + 1) (refs (nx++os))).length=nx.length + os.length:=by
   rw[eH,eH,x4,Kj,b3];show min i _ + 1 + _=_;omega
  rw[aJ,oE _ _ (by rw[lq];omega)] at ν;have e3:=γ.get e9;have e0:=γ.get c4;lia;intro Do ρ g3 β b6;rw[aJ,oF _ _ (by rw[lq];omega)] at b6;lia;intro t2 d2 f3 φ b5;have a5:=s6.trans (s7.trans (τ.trans s9));have δ:=γ.trans (β.trans φ);have O:=s3.trans (ε.trans (s5.trans (a5.trans δ)));obtain⟨c2,c1,c0,h4,θ⟩:=HM g hi hx hy b5 (φ.get (β.get ν)) (φ.get b6) ((a5.trans δ).get e5) (a0.same O);exact q t2 ι Do d2 c2 c1 (s1.trans (υ.trans O)) c0 h4 θ
theorem r6 (T:Tx K mg a) (PT:eh) (kb:K.In base) (hB:LM.LamB mg base a.be PT):FnOk P w K mg base CX0 7 a.dA a.nN ["_law_script","_law_tables"] (vq lpos PT K):=by
 have tD:=@qo P w K mg base a T PT kb hB;refine T.iG.1.okA dN λb5 A outer s H vs Q E η h=>?_;obtain⟨p,t,n,o,ns,m,nx,os,rfl,hS,tt,a0,TL,q⟩:=h
 refine⟨_,((ae (av (i:=2) dN.nd rfl @D (aj (jX T) η T.cB T.bE (!j 0 (aa ag af))))
  (ae (bz (aA iu (ao bP (pv 2) ag) ag (aG _)) (ai (aB (aj (jW T) η T.kP T.d0 (!j 0 (aa ag (aa ag af)))))) aF)
  (ae (dS ry rfl (b0 (by rfl) T.dr (aa (ao bP (ao fm (pv 2) ag) ag) af)) (aq (i:=3) dN.nd rfl @D) (ae (av (i:=1) dN.nd rfl @D (aj (r8 T) η T.uw T.iH (!j 1 (aa (aj (cx T) η T.bx T.a9 (!j 2 (!j 3 af))) af))))
  (ai (av (i:=1) dN.nd rfl @D (lE tD (η.mono @C) (by rfl) T.sF T.sA T.jv .nil fj (!j 1 (aa (aj (cx T) η T.bx T.a9 (!j 2 (aa (ao bC ag (pv 3)) af))) af)))))))
  (iO (bz (aA o7 (ao bP (ao fm (pv 2) ag) ag) ag (aG _)) (ai (av (i:=1) dN.nd rfl @D (aj (tY T) η T.v5 T.jx (!j 1 (aa (aj (jX T) η T.cB T.bE (!j 0 (aa ag af))) af))))) aF)
  (ai (aB (pv 1)))))))),aI (σ':=[aS _,aS _,eC,eC]) rfl ?_⟩
 lia;dsimp only;refine ite2 (λh1=>?_) (λh1=>?_)
 ·lia;refine⟨p,ns,8,6,rfl,hS,@C,@C,fun ω Y o2 H1 m2 ο ν s1 fn fo ι υ=>?_⟩;lia;exact q ω Y o2 H1 m2 ο ν (But.of s1) (jL TL s1) ι υ
 generalize b4:cell ns 6=c;lia;obtain⟨k4,γ,a6⟩:∃k4:Nat,c / 5 % 3=(k4:Int)/\k4 < 3:=⟨(c / 5 % 3).toNat,@A,@A⟩;rw[γ];refine gx (λi σ H'=>∃(t' ρ o':eh) (Z β:eA Pr3) (φ:nk V),σ=[aS (.ref p),aS (.ref t'),aS (.int c),φ]/\But PT H H'/\LM.TabL lpos lamQ PT H'/\TabT H' t' ρ o' m Z β/\Z.length<=16) ⟨t,n,o,nx,os,eC,rfl,λb ob _ e=>e,TL,tt,a0⟩ ?_ ?_
 ·rintro i σ H' hi ⟨t',ρ,o',Z,β,φ,rfl,B',θ,tt',l'⟩;have hi:i < 3:=by omega
  lia;rename_i r1 a5;refine⟨t',ρ,o',m,Z,β,r1,rfl,tt',l',fun ω Y o2 H2 ο ν s2 ι l2 a4 c0=>?_⟩;lia;rename_i r2 ψ;refine⟨ω,Y,o2,m,ο,ν,r2,rfl,ι,l2,jL θ s2,fun ζ π ξ τ O α B3 δ ε l3 a3 b6=>?_⟩;lia;exact⟨ζ,π,ξ,O,α,_,rfl,B'.trans ((But.of s2).trans B3),δ,ε,@A⟩
 ·rintro σ H' ⟨t',ρ,o',Z,β,φ,rfl,B',θ,tt',l'⟩;have b3:=B'.seq TL hS;lia;refine qj (fun σ τ=>∃(ζ π ξ:eh) (O α:eA Pr3),σ=[aS (V.ref p),aS (.ref ζ),aS (.int c),φ]/\Same H' τ/\TabT τ ζ π ξ m O α/\O.length=Z.length) ?_ ?_
  ·lia;dsimp only;refine ite2 (λh2=>?_) (λh2=>?_)
   ·lia;refine⟨t',ρ,o',m,Z,β,_,rfl,tt',fun ζ π ξ τ O α χ ε l3 _=>?_⟩;lia;exact⟨ζ,π,ξ,O,α,rfl,χ,ε,l3⟩
   ·lia;exact⟨t',ρ,o',Z,β,rfl,λ_ _ e=>e,tt',rfl⟩
  ·rintro σ τ ⟨ζ,π,ξ,O,α,rfl,χ,ε,l3⟩;lia;exact q ζ π ξ τ m O α (B'.trans (But.of χ)) (jL θ χ) ε @A
end
section
variable {P:oe} {w:sb} {K:aT} {mg:Dk} {base:u2} {a:Ad}
theorem jB (T:Tx K mg a):FnOk P w K mg base CX0 1 a.bt a.j6 ["self","mask"] (Gj a.a7):=by
 refine T.cN.1.okA c3 λa0 A outer s H vs Q E υ h=>?_;obtain⟨p,d,f,n,rows,x,rfl,st,q⟩:=h;have hu:=Cm υ;obtain⟨dx,ho⟩:=st.ho;obtain⟨es,hd,ht,g,l⟩:=st.he
 refine⟨_,((ae (av (i:=2) c3.nd rfl @D ag)
  (ae (w4 ry (GX (G6 hu (ao kL (jV (K:=K) rfl JY Jt Js lI (pv 1)) ag) (bL (K:=K) rfl (pv 0) rfl))) (ae (av (i:=3) c3.nd rfl @D (zW hu (bL (K:=K) rfl (pv 0) rfl) (ao kL (jV (K:=K) rfl JY Jt Js lI (pv 1)) ag) (λ_ _=>rfl)))
  (ae (av (i:=1) c3.nd rfl @D (ao iV (pv 1) (!A @F (pv 3) ag)))
  (ai (av (i:=2) c3.nd rfl @D (ao iV (pv 2) (!A @F (pv 3) ag)))))))
  (ai (aB (cH (!j 1 (!j 2 af)))))))),aI (σ':=[aS _,aS _,eC,eC]) rfl ?_⟩
 lia;refine⟨fun μ σ' H'=>∃O v,σ'=[aS (.ref p),aS (nat (x^^^M.sm rows O)),aS (nat O),v]/\H'=H/\O < 2 ^ rows.length/\μ=x^^^M.sm rows O/\M.Frs rows O,⟨x,0,eC,?_,rfl,lz _,?_,M.Frs.zero _⟩,?_⟩
 ·rw[M.sm_zero,K3];rfl
 ·rw[M.sm_zero,K3]
 rintro μ σ' H' ⟨O,v,rfl,rfl,ι,rfl,α⟩;lia;refine bS ho T.eJ T.df rfl ?_;refine GM hd ?_;lia;generalize hm:x^^^M.sm rows O=m;refine iteB (fun β=>?_) (fun β=>?_)
 ·rcases oH es ((u4 (m:Int):Nat) - 1:Int) with ⟨e,he,δ,ev⟩ | ⟨_,η⟩
  ·have Z:m≠0:=λz=>by rw[z,uS] at δ;omega
   have hl2:m.log2=e.m.log2:=by rw[kE Z] at δ;omega
   have Y:(e.m,e.p)∈es.map (λe=>(e.m,e.p)):=w2.mpr ⟨e,he,rfl⟩;have e0:=g.nz _ Y;refine⟨fun ω H2=>∃ε v,ω=[aS (.ref p),aS (nat (x^^^M.sm rows ε)),aS (nat ε),v]/\H2=H'/\ε < 2 ^ rows.length/\x^^^M.sm rows ε < m/\M.Frs rows ε,fun ω H2 ⟨ε,v,h1,h2,ψ,χ,φ⟩=>⟨_,χ,ε,v,h1,h2,ψ,rfl,φ⟩,?_⟩;lia;refine bS ho T.eJ T.df rfl ?_;lia;refine zC hd ev ?_;have τ:=ht e he;lia;refine⟨O^^^e.p,aS (.ref e.a),?_,rfl,M.xor_lt_pow ι (g.lt _ Y),?_,α.xor (g.sub _ Y)⟩
   ·rw[M.sm_xor,g.sm _ Y,<-JU,hm,bX,bX]
   ·rw[M.sm_xor,g.sm _ Y,<-JU,hm];exact M.xor_less Z e0 hl2
  ·rw[η] at β;cases β
 ·lia;intro t H2 ο ξ e2;subst hm;refine q t H2 O ο ξ e2 ι (fun π y ρ ν hl2=>?_) α;rcases oH es ((u4 ((x^^^M.sm rows O:Nat):Int):Nat) - 1:Int) with ⟨e,he,δ,ev⟩ | ⟨h1,η⟩
  ·rw[ev] at β;cases β
  ·obtain⟨e,he,ζ⟩:=g.all y ρ ν;obtain⟨θ,γ,rfl⟩:=w2.mp he;refine h1 θ γ ?_;have ζ:θ.m.log2=y.log2:=ζ;rw[kE π,ζ,hl2];omega
theorem tZ (T:Tx K mg a):FnOk P w K mg base CX0 2 a.cX a.pZ ["self","place","row"] (Gk a.a7):=by
 refine T.ir.1.okA jO λa0 A outer s H vs Q E π h=>?_;obtain⟨p,d,f,n,rows,r,rfl,st,hl,q⟩:=h;have hu:=Cm π;obtain⟨dx,ho⟩:=st.ho
 refine⟨_,((ae (av (i:=3) jO.nd rfl @D (rT (pv 0) T.eJ T.jY (jB T) (π.mono @C) T.cN.2 .nil fj (!j 2 af)))
  (ae (av (i:=4) jO.nd rfl @D (ao iV (!A @F (pv 3) ag) (ao bM ag (pv 1))))
  (ai (bz (aA iu (!A @F (pv 3) ag) ag (aG _)) (ai (fg (lX (K:=K) rfl y5 J8 zP dZ (bL (K:=K) rfl (pv 0) rfl) (!j 4 af)))) (ae (fg (lX (K:=K) rfl y5 J8 zP dZ (bL (K:=K) rfl (pv 0) rfl) (!j 1 af)))
  (ai (EX hu (bL (K:=K) rfl (pv 0) rfl) (ao kL (jV (K:=K) rfl JY Jt Js lI (!A @F (pv 3) ag)) ag) (cH (aa (!A @F (pv 3) ag) (!j 4 af))) rfl)))))))),aI (σ':=[aS _,aS _,aS _,eC,eC]) rfl ?_⟩
 lia;refine di ho rfl ?_;lia;refine⟨p,d,f,n,rows,r,rfl,st,λt H2 ε ο δ φ ρ hn ν=>?_⟩;lia;rw[shl1,bX];have O:=δ.get ho;have ξ:=st.same δ;have lf:=M.fr_len rows;refine iteB (fun θ=>?_) (fun θ=>?_)
 ·have hz:r^^^M.sm rows ε=0:=by have:=V.int.inj (Km θ);omega
  obtain⟨nms,β,υ⟩:=ξ.hn;have ln:=υ.len;lia;refine bS O T.eJ T.iA rfl ?_;lia;refine iy β (by rw[eB];exact gm @A) fun χ Y=>?_;lia;exact q χ (λb o h1 h2 τ e=>Y.oth _ _ τ (δ.get e)) (ξ.null ρ hz υ β Y)
 ·have hz:r^^^M.sm rows ε≠0:=λz=>by rw[z] at θ;exact gd θ @C
  obtain⟨es,hd,ht,g,le⟩:=ξ.he;have ψ:=ξ.hf;lia;refine bS O T.eJ T.d8 rfl ?_;lia;refine iy ξ.hf (by rw[eB];exact gm @A) fun χ Y=>?_;have e3:=Y.oth _ _ (iY φ ξ.hf @E) φ;have ζ:=Y.oth _ _ (iY O ξ.hf @E) O;have η:=Y.oth _ _ (iY hd ξ.hf @E) hd;lia;intro t' Z f4 γ e4;lia;refine bS (γ.get ζ) T.eJ T.df rfl ?_;lia;refine EN (γ.get η) (by unfold mm;rw[eB];exact gm @A) fun α ι=>?_;lia;refine q α (λb o h1 h2 τ e=>ι.oth _ _ h1 (γ.get (Y.oth _ _ h2 (δ.get e)))) (ξ.more ρ hz (hn hz) ν Y γ e4 hd ht g le ?_);have ω:(((r^^^M.sm rows ε).log2 + 1:Nat):Int) - 1=(((r^^^M.sm rows ε).log2:Nat):Int):=by omega
  rw[kE hz,ω] at ι;exact ι
theorem iW (T:Tx K mg a):FnOk P w K mg base CX0 3 a.bf a.jE ["self","rows"] (Ep a.a7):=by
 refine T.c6.1.okA fO λa4 A outer s H vs Q E hr h=>?_;obtain⟨x,dx,r,rows,rfl,hw,hl,φ,q⟩:=h;have hu:=Cm hr;have rx:r≠x:=iY hw φ @E
 refine⟨_,((ae (mV (K:=K) rfl (pv 0) B5 rfl)
  (ae (mV (K:=K) rfl (pv 0) (dU af) rfl)
  (ae (mV (K:=K) rfl (pv 0) (dU af) rfl)
  (ai (dS ry rfl (ji (K:=K) rfl (by rfl) T.cy (pv 1)) (g7 rfl (ax (aq (i:=2) fO.nd rfl @D) (ax (aq (i:=3) fO.nd rfl @D) b7))) (ai (fg (rT (pv 0) T.eJ T.vN (tZ T) (hr.mono @C) T.ir.2 .nil fj (!j 2 (!j 3 af))))))))))),aI (σ':=[aS _,aS _,eC,eC]) rfl ?_⟩
 lia;intro d H1 f1 s1 e1;lia;have γ:d≠x:=λz=>by rw[z,φ] at f1;cases f1
 refine mQ (s1.get φ) T.eJ T.df @C rfl λH2 ο=>?_;lia;intro f H3 ω τ e3;lia;have ζ:f≠x:=λz=>by rw[z,ο.at'] at ω;cases ω
 refine mQ (τ.get ο.at') T.eJ T.d8 (by show 1 < 1000;decide) rfl λZ ε=>?_;lia;intro n α π ν e5;lia;have υ:n≠x:=λz=>by rw[z,ε.at'] at π;cases π
 refine mQ (ν.get ε.at') T.eJ T.iA (by show 2 < 1000;decide) rfl λH6 δ=>?_;have k1:∀b o,b≠x->H b=aS o->H2 b=aS o:=λb o Y e=>ο.oth _ _ Y (s1.get e);have k2:∀b o,b≠x->H b=aS o->Z b=aS o:=λb o Y e=>ε.oth _ _ Y (τ.get (k1 b o Y e));have k3:∀b o,b≠x->H b=aS o->H6 b=aS o:=λb o Y e=>δ.oth _ _ Y (ν.get (k2 b o Y e));have nd:∀b o,H b=aS o->b≠d:=λb o e=>ar e f1;have nf:∀b o,b≠x->H b=aS o->b≠f:=λb o Y e=>ar (k1 b o Y e) ω;have nn:∀b o,b≠x->H b=aS o->b≠n:=λb o Y e=>ar (k2 b o Y e) π;have η:=ε.oth _ _ ζ e3;have fn:f≠n:=ar η π;have χ:H6 d=aS (.dK (mm [])):=δ.oth _ _ γ (ν.get (ε.oth _ _ γ (τ.get (ο.oth _ _ γ e1))));have a0:=k3 _ _ rx hw;lia;refine mz (xs:=rows.map nat) (λi σ H'=>∃v ξ,σ=[aS (.ref x),aS (.ref r),v,ξ]/\StA H' a.a7 x d f n (rows.take i)/\∀b o,b≠x->H b=aS o->H' b=aS o) ?_ ?_ ?_ ?_
 ·refine⟨eC,eC,rfl,⟨⟨dx,δ.at'⟩,⟨[],χ,λ_ h=>gd h @E,M.Ech.nil,rfl⟩,δ.oth _ _ ζ (ν.get η),⟨[],δ.oth _ _ υ e5,M.Nul.nil⟩,fn⟩,k3⟩
 ·rintro i σ H' _ ⟨v,ξ,_,_,k⟩;exact SqL.of (k _ _ rx hw)
 ·rintro i y σ H' p H7 hy ⟨v,ξ,rfl,st,k⟩ fp ρ O;obtain⟨ri,β,rfl⟩:=aX hy;obtain⟨a3,ι⟩:=(st.same ρ).ho;lia;refine di ι rfl ?_;lia;have tl:=wK β;refine⟨x,d,f,n,rows.take i,ri,by rw[tl],st.same ρ,by rw[tl];have:=(dt.mp β).1;omega,λH8 ψ θ=>?_⟩;lia;refine⟨_,_,rfl,by rw[take_succ β];exact θ,λb o Y e=>ψ b o (nd b o e) (nf b o Y e) (nn b o Y e) (ρ.get (k b o Y e))⟩
 ·rintro σ H' ⟨v,ξ,rfl,st,k⟩;rw[eB,K6] at st;lia;exact q H' d f n k st
theorem Fe (T:Tx K mg a):FnOk P w K mg base CX0 5 a.pR a.DR ["rows"] Ez:=by
 refine T.xE.1.okA EF fun ε A outer s H vs Q E α h=>?_;obtain⟨r,rows,rfl,hw,hl,q⟩:=h;refine⟨_,((ai (aB (fh (i7 (K:=K) rfl) (by rfl) T.hX u1 (aa (bL (K:=K) rfl (rV T.Bm (iW T) (α.mono @C) (by rfl) T.AG T.c6.2 .nil fj (!j 0 af)) rfl) af))))),aI (σ':=[aS _]) rfl ?_⟩;lia;intro x dx H2 ο O δ;refine⟨x,dx,r,rows,rfl,O.get hw,hl,δ,fun ζ d f n k st=>⟨rfl,?_⟩⟩;obtain⟨ξ,ho⟩:=st.ho;refine bS ho T.eJ T.d8 rfl ?_;have hf:=st.hf;lia;intro D Z β Y γ;have hs:Same H ζ:=λb o e=>k b o (ar e ο) (O.get e);exact q D Z (hs.free β) (hs.trans Y) γ
theorem gS (T:Tx K mg a):FnOk P w K mg base CX0 5 a.ib a.uH ["rows","wish"] xO:=by
 refine T.fz.1.okA mO λa0 A outer s H vs Q E ζ h=>?_;obtain⟨r,rows,x,rfl,hw,hl,γ,π,χ,qA,qB⟩:=h
 refine⟨_,((ae (av (i:=2) mO.nd rfl @D (rV T.Bm (iW T) (ζ.mono @C) (by rfl) T.AG T.c6.2 .nil fj (!j 0 af)))
  (ae (av (i:=3) mO.nd rfl @D (rT (pv 2) T.eJ T.jY (jB T) (ζ.mono @C) T.cN.2 .nil fj (!j 1 af)))
  (ae (bz (aA iu (!A @F (pv 3) ag) ag (aG _)) (ai (aB (cH (aa eM (aa (aj (yh T) ζ T.AF T.mK (aa (!A @F (pv 3) ag) af)) af))))) aF)
  (ai (aB (cH (aa eM (aa (rT (pv 2) T.eJ T.pq (nY T) (ζ.mono @C) T.dJ.2 .nil fj (aa (ao kL (jV (K:=K) rfl JY Jt Js lI (!A @F (pv 3) ag)) ag) af)) af))))))))),aI (σ':=[aS _,aS _,eC,eC]) rfl ?_⟩
 lia;intro p dx H2 f2 s2 e2;refine⟨p,dx,r,rows,rfl,s2.get hw,hl,e2,λH3 d f n k st=>⟨rfl,?_⟩⟩;obtain⟨ξ,ho⟩:=st.ho;have hs:Same H H3:=λb o e=>k b o (ar e f2) (s2.get e);lia;refine di ho rfl ?_;lia;refine⟨p,d,f,n,rows,x,rfl,st,λt Z O f4 Y e4 hq hn φ=>?_⟩;lia;refine iteB (fun ι=>?_) (fun ι=>?_)
 ·have hz:x^^^M.sm rows O=0:=by have:=V.int.inj (Km ι);omega
  have η:M.sm rows O=x:=by
   have:=y' (x^^^·) hz;simp only[<-JU,L7,Ly,K3] at this;exact this
  lia;refine⟨O,rfl,eF hq (gs @C hl),λD α f5 ν e5=>?_⟩;lia;intro t' ω ρ ε ψ;exact qA t' D ω O (sI (hs.trans Y) f5) (hs.trans (Y.trans (ν.trans ε))) ψ (ε.get e5) ⟨hq,η,φ⟩
 ·have hz:x^^^M.sm rows O≠0:=λz=>by rw[z] at ι;exact gd ι @C
  have β:x^^^M.sm rows O < 2 ^ 1000:=M.xor_lt_pow π (M.span_lt γ (M.sm_span rows O));have θ:=M.log2_under hz β;have υ:¬M.Span rows x:=fun τ=>hn hz _ (M.span_xor τ (M.sm_span rows O)) hz rfl;have δ:(M.fr rows).length < 64:=χ.resolve_left υ;have ez:(((x^^^M.sm rows O).log2 + 1:Nat):Int) - 1=(((x^^^M.sm rows O).log2:Nat):Int):=by omega
  lia;refine di (Y.get ho) rfl ?_;lia;rw[kE hz,ez];refine⟨p,d,f,n,rows,(x^^^M.sm rows O).log2,rfl,st.same Y,θ,γ,δ,hn hz,λm α ν B=>?_⟩;lia;intro t' ω ρ ε ψ;refine qB t' ω m (hs.trans (Y.trans (ν.trans ε))) ψ ⟨υ,⟨M.sm rows O,M.sm_span _ _,hz,hn hz,B⟩,B.ev,B.odd hz rfl θ,λW hW ο=>B.lt W hW ?_⟩;exact M.log2_under hz (M.xor_lt_pow ο (M.span_lt hW (M.sm_span rows O)))
end
section
variable {P:oe} {w:sb} {K:aT} {mg:Dk} {base:u2} {a:Ad}
local macro_rules | `(tactic| walk_at "l2step") =>`(tactic| first | ((with_reducible refine' ip ?e ?_);(case e=>walk_at "l2kind")) | ((with_reducible refine' j9 ?e ?_);(case e=>walk_at "l2kind")) | (with_reducible refine gf ?_) | (with_reducible refine iK ?_))
local macro_rules | `(tactic| walk_at "l2step") =>`(tactic| first | (with_reducible refine GF ?_))
theorem cO (T:Tx K mg a):FnOk P w K mg base CX0 6 a.d9 a.pU ["one","other","pair","row"] (By a.au):=by
 refine T.cb.1.okA jN λa4 A outer s H vs Q E η h=>?_;obtain⟨p1,p2,m,O,β,Z,ζ,x,r,rfl,Y,τ,γ,q⟩:=h;obtain⟨a3,υ,ξ,δ,ρ,ψ⟩:=Y.a1.ho;obtain⟨a0,ο,ν,θ,ω,χ⟩:=Y.a2.ho;have ι:=M.lo_lt O.length x;have π:=M.hi_lt τ;have ll:=Y.l;have e6:(1:Int) * 2 ^ ((O.length:Int).toNat) - 1=((2 ^ O.length - 1:Nat):Int):=by rw[shl1];have:=lz O.length;omega
 have ek:M.tr2 (jnp O Z) x r=M.tr2 (prs O) (M.lo O.length x) r^^^(M.tr2 (prs Z) (x>>>O.length) r * 2 ^ O.length):=by
  have:=Y.jo.tr' (x:=x) (r:=r) (by rw[aw,aw];exact τ);rw[aw,KJ] at this;exact this
 have cp:CPow ((M.tr2 (prs Z) (x>>>O.length) r:Nat):Int) (O.length:Int):=⟨@A,@A,by
  rw[PY];refine eF (M.tr2_lt _ _ _) (gs @C ?_);rw[aw];omega⟩
 refine⟨_,((ae (av (i:=4) jN.nd rfl @D (dk (pv 0) T.az T.bA (bo T) (η.mono @C) T.aM.2 .nil fj))
  (ae (av (i:=5) jN.nd rfl @D (ao dY (pv 2) (ao kL (ao bM ag (pv 4)) ag)))
  (ai (aB (ao iV (!A @F (gN (pv 0) T.az T.iQ (hU T) (η.mono @C) T.cG.2 .nil thr0 (!j 5 (!j 3 af))) ag) (ao bM (!A @F (gN (pv 1) T.az T.iQ (hU T) (η.mono @C) T.cG.2 .nil thr0 (aa (ao l8 (pv 2) (pv 4)) (!j 3 af))) ag) (pv 4)))))))),aI (σ':=[aS _,aS _,aS _,aS _,eC,eC]) rfl ?_⟩
 lia;refine di δ rfl ?_;lia;refine⟨p1,m,O,β,rfl,Y.a1,?_⟩;lia;rw[e6,a8];lia;refine eZ δ rfl ?_;lia;refine⟨p1,m,O,β,nat (M.lo O.length x),nat r,"int","int",rfl,Y.a1,Y.g1,rfl,rfl,λa1 b1 ea α ha hb t2 H2 ε e2=>?_,λbad=>?_⟩
 ·have ea:=fT ea;have α:=fT α;subst ea;subst α;lia;refine eZ (ε.get θ) rfl ?_;lia;rw[vz];refine⟨p2,m,Z,ζ,nat (x>>>O.length),nat r,"int","int",rfl,Y.a2.same ε,Y.g2,rfl,rfl,λa1 b1 ea α ha hb t3 H3 φ e3=>?_,λbad=>?_⟩
  ·have ea:=fT ea;have α:=fT α;subst ea;subst α;lia;rw[ED,bX,<-ek];exact q H3 (ε.trans φ)
  ·rw[fw π,fw γ] at bad;rcases bad with bad | bad<;>cases bad
 ·rw[fw ι,fw γ] at bad;rcases bad with bad | bad<;>cases bad
theorem g9 (T:Tx K mg a):FnOk P w K mg base CX0 8 a.cC a.kR ["one","other"] (Eu a.au):=by
 refine T.dh.1.okA bY λg5 A outer s H vs Q E hr h=>?_;obtain⟨p1,p2,m,γ,a0,θ,a3,rfl,tw,q1,ε⟩:=h;obtain⟨g4,π,ξ,c2,f4,f2⟩:=tw.a1.ho;obtain⟨g3,ο,ν,e3,f3,f0⟩:=tw.a2.ho;have ll:=tw.l;have m6:=tw.g1.m6;obtain⟨Tn,e6⟩:∃Tn,Tn=γ.length + θ.length + 1:=⟨_,rfl⟩;have eT:(γ.length:Int) + (θ.length:Int) + 1=(Tn:Int):=by omega
 refine⟨_,((ae (av (i:=2) bY.nd rfl @D (ao bC (ao bC (dk (pv 0) T.az T.bA (bo T) (hr.mono @C) T.aM.2 .nil fj) (dk (pv 1) T.az T.bA (bo T) (hr.mono @C) T.aM.2 .nil fj)) ag))
  (ae (av (i:=3) bY.nd rfl @D (tX rfl (by rfl) (by rfl) T.hX T.dr (bL (K:=K) rfl (pv 0) rfl)))
  (ae (cK (osc:=ah dW) (ON:=n23) (N:=["which","one","turns"]) (n:=1) (fx:=[0,2]) (i:=4) bY.nd rfl rfl rfl rfl rfl rfl @G (aW (K:=K) rfl (pv 3)) (aN @C) (λ_ _ _ _ _=>⟨(aq (i:=0) (show q3 (["which","one","turns"]:C') from by decide +kernel) rfl @D),bB,(gN (pv 1) T.az T.jC (iX T) (hr.mono @C) T.cn.2 .nil thr0 (!j 0 (!j 2 af)))⟩))
  (ae (cK (osc:=ah dW) (ON:=n23) (N:=["which","other","turns"]) (n:=1) (fx:=[1,2]) (i:=5) bY.nd rfl rfl rfl rfl rfl rfl @G (aW (K:=K) rfl (pv 3)) (aN @C) (λ_ _ _ _ _=>⟨(aq (i:=0) (show q3 (["which","other","turns"]:C') from by decide +kernel) rfl @D),bB,(gN (pv 1) T.az T.jC (iX T) (hr.mono @C) T.cn.2 .nil thr0 (!j 0 (!j 2 af)))⟩))
  (ae (dS ry rfl (b0 (by rfl) T.dr (!j 2 af)) (aq (i:=6) bY.nd rfl @D) (ai (dS ry rfl (aW (K:=K) rfl (pv 3)) (aq (i:=7) bY.nd rfl @D) (ai (bz (aA kH (!A (cf (K:=K) rfl) (!A (cf (K:=K) rfl) (pv 4) (pv 7)) (pv 6)) (!A (cf (K:=K) rfl) (!A (cf (K:=K) rfl) (pv 5) (pv 7)) (pv 6)) (aG _)) (ai (aB (cH (aa eM (!j 7 (!j 6 af)))))) aF)))))
  (ai (aB lW)))))))),aI (σ':=[aS _,aS _,eC,eC,eC,eC,eC,eC]) rfl ?_⟩
 lia;refine di c2 rfl ?_;lia;refine⟨p1,m,γ,a0,rfl,tw.a1,?_⟩;lia;refine di e3 rfl ?_;lia;refine⟨p2,m,θ,a3,rfl,tw.a2,?_⟩;lia;rw[eT];refine bS c2 T.az T.aL rfl ?_;lia;refine⟨m,rfl,@A,λD H1 f1 s1 e1=>?_⟩;have e1:H1 D=aS (.lst ((hE m).map nat)):=e1;lia;intro D1 e2;refine bQ (xs:=(hE m).map nat) (λj ys H'=>Co (λj=> .lst ((M.wan (prs γ) (prs a0) 0 (M.pulse j Tn)).map nat)) H1 D1 j ys H') (p4 e2) (λj ys H' _ ⟨_,_,_,_,_,s',_⟩=>SqL.of (s'.get e1)) (λj v ys HB hv c=>?_) (λys H2 c=>?_)
 ·obtain⟨δ,O,rfl⟩:=aX hv;have hj:=(dt.mp O).1;rw[q7] at hj;rw[JN hj] at O;cases O;have c':=c;obtain⟨_,_,_,_,_,sB,_⟩:=c';have a4:=s1.trans sB;lia;refine eZ (a4.get c2) rfl ?_;lia;refine⟨p1,m,γ,a0,nat j,"int",Tn,rfl,tw.a1.same a4,tw.g1,rfl,@A,λi ei hi ι H9 ζ s9 e9=>?_,λa5=>?_⟩
  ·have ei:=fT ei;subst ei;exact rF e2 c s9 ζ e9 @A
  ·unfold idxB at a5;simp at a5;omega
 obtain⟨b5,rfl,e5,a1,φ,c0,τ⟩:=c;rw[eB,q7] at e5;have c1:=s1.trans c0;have ω:=c0.get e1;lia;intro D2 e0;refine bQ (xs:=(hE m).map nat) (λj ys H'=>Co (λj=> .lst ((M.wan (prs θ) (prs a3) 0 (M.pulse j Tn)).map nat)) H2 D2 j ys H') (p4 e0) (λj ys H' _ ⟨_,_,_,_,_,s',_⟩=>SqL.of (s'.get ω)) (λj v ys HB hv c=>?_) (λys H3 c=>?_)
 ·obtain⟨δ,O,rfl⟩:=aX hv;have hj:=(dt.mp O).1;rw[q7] at hj;rw[JN hj] at O;cases O;have c':=c;obtain⟨_,_,_,_,_,sB,_⟩:=c';have a4:=c1.trans sB;lia;refine eZ (a4.get e3) rfl ?_;lia;refine⟨p2,m,θ,a3,nat j,"int",Tn,rfl,tw.a2.same a4,tw.g2,rfl,@A,λi ei hi ι H9 ζ s9 e9=>?_,λa5=>?_⟩
  ·have ei:=fT ei;subst ei;exact rF e0 c s9 ζ e9 @A
  ·unfold idxB at a5;simp at a5;omega
 obtain⟨υ,rfl,e4,a2,e7,b3,e8⟩:=c;rw[eB,q7] at e4;have α:=c1.trans b3;have η:=b3.get ω;have τ:=b3.get τ;have a1:∀(j:Nat) d,b5[j]? =aS d->H3 d=aS (.lst ((M.wan (prs γ) (prs a0) 0 (M.pulse j Tn)).map nat)):=λj d h=>b3.get (a1 j d h);clear ω e1 s1 c0 c1 φ e7 e2 e0 f1;lia;refine gx (λi σ H'=>∃ρ χ,σ=[aS (.ref p1),aS (.ref p2),aS (nat Tn),aS (.ref D),aS (.ref D1),aS (.ref D2),ρ,χ]/\Same H3 H'/\M.Al (prs γ) (prs a0) (prs θ) (prs a3) m i) ⟨eC,eC,rfl,Same.refl _,λt h=>gd h @A⟩ ?_ ?_
 ·rintro i σ H' hi ⟨ρ,χ,rfl,s',al⟩;have hi:i < Tn:=by omega
  have ei:(0:Int) + (i:Int)=(i:Int):=LO _;lia;rw[ei];refine iE (xs:=(hE m).map nat) (λj σ b6=>∃χ,σ=[aS (.ref p1),aS (.ref p2),aS (nat Tn),aS (.ref D),aS (.ref D1),aS (.ref D2),aS (nat i),χ]/\Same H3 b6/\∀δ,δ < j->M.sgl (prs γ) (prs a0) δ i=M.sgl (prs θ) (prs a3) δ i) ⟨χ,rfl,s',fun δ h=>gd h @A⟩ (λj σ b6 _ ⟨_,_,Y,_⟩=>SqL.of (Y.get η)) ?_ ?_
  ·rintro j y σ b6 hy ⟨χ,rfl,Y,a6⟩;obtain⟨δ,O,rfl⟩:=aX hy;have hj:=(dt.mp O).1;rw[q7] at hj;rw[JN hj] at O;cases O;have β:=b' (l:=b5) (i:=j) @A;have c4:=b' (l:=υ) (i:=j) @A;generalize b5[j]=d1 at β;generalize υ[j]=d2 at c4;have f8:=Y.get τ;have f7:=Y.get e8;have f6:=Y.get (a1 j d1 β);have f5:=Y.get (a2 j d2 c4);have t1:atI (b5.map V.ref) (j:Int)=aS (.ref d1):=fY (by rw[f',β];rfl);have t2:atI (υ.map V.ref) (j:Int)=aS (.ref d2):=fY (by rw[f',c4];rfl)
   have Z:∀(p o:A'),atI ((M.wan p o 0 (M.pulse j Tn)).map nat) (i:Int)=aS (nat (M.sgl p o j i)):=λp o=>fY (by
    have hl:i < (M.wan p o 0 (M.pulse j Tn)).length:=by rw[M.wan_len,M.pulse_len];exact hi
    rw[f',b' hl,<-M.pulse_sgl p o j hi,ee,b' hl];rfl)
   have t3:=Z (prs γ) (prs a0);have t4:=Z (prs θ) (prs a3);lia;by_cases hs:M.sgl (prs γ) (prs a0) j i=M.sgl (prs θ) (prs a3) j i
   ·refine tS (by rw[hs];simp) ?_;lia;refine⟨Y,fun ψ h2=>?_⟩;by_cases b4:ψ=j
    ·rw[b4];exact hs
    ·exact a6 ψ @A
   ·refine zA (by rw[Ny,Pt];intro e;exact hs (fT e)) ?_;lia;intro tt H9 ζ s9 e9;exact ε j i ⟨hj,by rw[aw,aw];omega,al,a6,hs⟩ tt H9 (α.trans (Y.trans s9)) e9
  ·rintro σ b6 ⟨χ,rfl,Y,a6⟩;rw[eB,q7] at a6;lia;refine⟨_,_,rfl,Y,λt ht ψ b4=>?_⟩;by_cases h:t=i
   ·rw[h];exact a6 ψ b4
   ·exact al t @A ψ b4
 ·rintro σ H' ⟨ρ,χ,rfl,s',al⟩;rw[pT,e6] at al;lia;exact q1 al H' (α.trans s')
theorem gG (T:Tx K mg a):FnOk P w K mg base CX0 8 a.b8 a.j4 ["one","other"] (Gi a.au):=by
 refine T.cM.1.okA cZ λe4 A outer s H vs Q E hr h=>?_;obtain⟨p1,p2,m,Z,υ,Y,θ,rfl,ε,q⟩:=h;obtain⟨e3,π,ξ,a5,ρ,c2⟩:=ε.a1.ho;obtain⟨e0,b5,b4,a6,c4,c1⟩:=ε.a2.ho;have ll:=ε.l;have m6:=ε.g1.m6;obtain⟨ζ,a0⟩:∃ζ,ζ=Z.length + Y.length:=⟨_,rfl⟩;have eT:(Z.length:Int) + (Y.length:Int)=(ζ:Int):=by omega
 have lJ:(jnp Z Y).length=ζ:=by rw[Av,a0]
 have l0:=M.sg0_len (jnp Z Y) m
 refine⟨_,((ae (cK (osc:=ah cJ) (ON:=n20) (N:=["which","one","other"]) (n:=1) (fx:=[0,1]) (i:=2) cZ.nd rfl rfl rfl rfl rfl rfl @G (b0 (by rfl) T.dr (aa (bL (K:=K) rfl (pv 0) rfl) af)) (aN @C) (λ_ _ _ _ _=>⟨(aq (i:=0) (show q3 (["which","one","other"]:C') from by decide +kernel) rfl @D),bB,(aj (cO T) hr T.dw T.cb (!j 1 (!j 2 (aa ag (aa (ao bM ag (pv 0)) af)))))⟩))
  (ae (av (i:=3) cZ.nd rfl @D (dU af))
  (ae (dS ry rfl (b0 (by rfl) T.dr (aa (ao bC (dk (pv 0) T.az T.bA (bo T) (hr.mono @C) T.aM.2 .nil fj) (dk (pv 1) T.az T.bA (bo T) (hr.mono @C) T.aM.2 .nil fj)) af)) (aq (i:=4) cZ.nd rfl @D) (ae (fg (lX (K:=K) rfl y5 PySem.F.slot_list_extend PySem.F.type_list_extend Ae (pv 3) (!j 2 af)))
  (ai (cK (osc:=ah cJ) (ON:=n20) (N:=["pair","one","other"]) (n:=1) (fx:=[0,1]) (i:=2) cZ.nd rfl rfl rfl rfl rfl rfl @G (aW (K:=K) rfl (pv 2)) (aN @C) (λ_ _ _ _ _=>⟨(aq (i:=0) (show q3 (["pair","one","other"]:C') from by decide +kernel) rfl @D),bB,(aj (cO T) hr T.dw T.cb (!j 1 (!j 2 (!j 0 (aa ag af)))))⟩)))))
  (ai (aB (g8 (osc:=ah cJ) (ON:=n20) (N:=["place","told"]) (n:=1) (fx:=[3]) rfl rfl rfl @G (aW (K:=K) rfl (aj (Fe T) hr T.Hu T.xE (!j 3 af))) (aN @C) (λ_ _ _ _ _=>⟨(aq (i:=0) (show q3 (["place","told"]:C') from by decide +kernel) rfl @D),bB,(!A (cf (K:=K) rfl) (pv 1) (pv 0))⟩)))))))),aI (σ':=[aS _,aS _,eC,eC,eC]) rfl ?_⟩
 lia;refine bS a5 T.az T.aL rfl ?_;lia;rw[pT];intro D hD;refine i6 (λi ys H'=>Cs (λi ys=>ys=((hE i).map λw=>M.tr2 (jnp Z Y) 0 (2 ^ w)).map nat) H D i ys H') (Cs.zero hD rfl) (λi ys H' hi c=>?_) (λys H1 c=>?_)
 ·lia;rw[LO,shl1];refine⟨p1,p2,m,Z,υ,Y,θ,0,2 ^ i,rfl,ε.same c.same,lz _,rn @C hi,λH6 s6=>?_⟩;refine Cs.put hD (c.same.trans s6) (s6.get c.at') c.len @A ?_;rw[c.pv,Ky,hF,hF];rfl
 have e1:=c.at';rw[c.pv] at e1;have e1:H1 D=aS (.lst ((M.stj (jnp Z Y) (M.sg0 (jnp Z Y) m) 0).map nat)):=e1;have s1:=c.same;clear c;lia;intro D0 H2 ο s2 e2;have γ:=s1.trans s2;lia;refine di (γ.get a5) rfl ?_;lia;refine⟨p1,m,Z,υ,rfl,ε.a1.same γ,?_⟩;lia;refine di (γ.get a6) rfl ?_;lia;refine⟨p2,m,Y,θ,rfl,ε.a2.same γ,?_⟩;lia;rw[eT];have η:H D0=none:=s1.free ο;refine gx (λi σ H'=>∃(v:nk V) (Dm:eh),σ=[aS (.ref p1),aS (.ref p2),aS (.ref Dm),aS (.ref D0),v]/\Same H H'/\H' Dm=aS (.lst ((M.stj (jnp Z Y) (M.sg0 (jnp Z Y) m) i).map nat))/\H' D0=aS (.lst ((M.rcf (jnp Z Y) m i).map nat))/\Dm≠D0) ⟨eC,D,rfl,γ,s2.get e1,e2,λz=>by rw[<-z,e1] at ο;cases ο⟩ ?_ ?_
 ·rintro i σ H' hi ⟨v,Dm,rfl,s',em,et,φ⟩;have hi:i < ζ:=by omega
  have lr:=M.rcf_len (jnp Z Y) m i;have a3:(M.stj (jnp Z Y) (M.sg0 (jnp Z Y) m) i).length=m:=by rw[M.stj_len,l0]
  have b6:i * m<=60 * 6:=On @A m6;lia;refine BI et em (by rw[eB,eB,lr,a3];exact Kw (gm @A)) φ.symm fun α ι=>?_;have ν:=ι.same η s';have b3:=ι.oth _ _ φ em;have δ:=ι.at';rw[<-hF] at δ;have δ:α D0=aS (.lst ((M.rcf (jnp Z Y) m (i + 1)).map nat)):=δ;lia;intro D5 β;refine bQ (xs:=(M.stj (jnp Z Y) (M.sg0 (jnp Z Y) m) i).map nat) (λj ys H'=>Cs (λj ys=>ys=(((M.stj (jnp Z Y) (M.sg0 (jnp Z Y) m) i).take j).map λx=>M.tr2 (jnp Z Y) x 0).map nat) α D5 j ys H') (Cs.zero β rfl) (λj ys H' _ c=>SqL.of (c.same.get b3)) (λj v ys H6 hv c=>?_) (λys H6 c=>?_)
  ·obtain⟨y,hy,rfl⟩:=aX hv;have hj:=(dt.mp hy).1;have a4:=M.stj_lt (jnp Z Y) m i y (eO hy);rw[lJ,a0] at a4;lia;refine⟨p1,p2,m,Z,υ,Y,θ,y,0,rfl,ε.same (ν.trans c.same),a4,lz _,λH7 s7=>?_⟩;refine Cs.put β (c.same.trans s7) (s7.get c.at') c.len @A ?_;rw[c.pv,take_succ hy,hF,hF];rfl
  have e6:=c.at';rw[c.pv,eB,K6] at e6;have s6:=c.same;clear c;lia;exact⟨_,D5,rfl,ν.trans s6,e6,s6.get δ,λz=>by rw[z,δ] at β;cases β⟩
 ·rintro σ H' ⟨v,Dm,rfl,s',em,et,φ⟩;rw[pT] at et;have lr:=M.rcf_len (jnp Z Y) m ζ;have b6:ζ * m<=60 * 6:=On @A m6;obtain⟨rows,τ⟩:∃rows,rows=M.rcf (jnp Z Y) m ζ:=⟨_,rfl⟩;rw[<-τ] at et lr;lia;refine⟨D0,rows,rfl,et,@A,λB H7 f7 s7 O=>?_⟩;have ω:=s7.get et;lia;intro D8 χ;refine bQ (xs:=(M.fr rows).map nat) (λj ys H'=>Cs (λj ys=>ys=(((M.fr rows).take j).map λi=>rows.getD i 0).map nat) H7 D8 j ys H') (Cs.zero χ rfl) (λj ys H' _ c=>SqL.of (c.same.get O)) (λj v ys H8 hv c=>?_) (λys H8 c=>?_)
  ·obtain⟨y,hy,rfl⟩:=aX hv;have hj:=(dt.mp hy).1;have ψ:=M.fr_lt y (eO hy);have d2:=c.same.get ω;have d1:atI (rows.map nat) (y:Int)=aS (nat (rows.getD y 0)):=fY (by rw[f',ee,b' ψ];rfl);have c0:=M.fr_len rows;lia;refine Cs.put χ c.same c.at' c.len @A ?_;rw[c.pv,take_succ hy,hF,hF];rfl
  have e8:=c.at';rw[c.pv,eB,K6] at e8;refine q D8 H8 ((s'.trans s7).free χ) ((s'.trans s7).trans c.same) ?_;unfold M.prs2 M.fR;rw[aw,aw,<-a0,<-τ];exact e8
theorem lG (T:Tx K mg a):FnOk P w K mg base (CX1 P w) 10 a.fV a.rA ["one","other"] (zm a.au a.bD):=by
 refine T.dR.1.okX aR (λvs H Q E h=>?_) (λn3 A outer s H vs Q E η h=>?_)
 ·obtain⟨p1,p2,m1,m2,Y,θ,γ,ι,rfl,_⟩:=h;rfl
 ·obtain⟨p1,p2,m,m2,Y,θ,γ,ι,rfl,a1,g1,a2,g2,k4,qE,q1,q2⟩:=h;obtain⟨n2,π,ξ,υ,m4,m0⟩:=a1.ho;obtain⟨m7,l5,ν,a4,m3,l7⟩:=a2.ho;by_cases hm:m=m2
  rotate_left
  ·refine⟨_,((ae (bz (PW.pt (gL (aA kH (bL (K:=K) rfl (pv 0) rfl) (bL (K:=K) rfl (pv 1) rfl) (aG _)) (dX (aA kH (dk (pv 0) T.az T.bW (bN T) (η.mono @C) T.aU.2 .nil fj) (dk (pv 1) T.az T.bW (bN T) (η.mono @C) T.aU.2 .nil fj) (aG _))))) (ai (gh vu T.fM d3 rfl (by rfl) T.kr (aa eM af))) aF)
   (ae (av (i:=2) aR.nd rfl @D (aj (g9 T) η T.iR T.dh (!j 0 (!j 1 af))))
   (ae (bz (aA vI (pv 2) lW (aG _)) (ai (aB (pv 2))) aF)
   (ae (av (i:=3) aR.nd rfl @D (aj (gG T) η T.h9 T.cM (!j 0 (!j 1 af))))
   (ae (cK (osc:=ah ck) (ON:=n4) (N:=n10) (n:=1) (fx:=[3,0,1]) (i:=4) aR.nd rfl rfl rfl rfl rfl rfl @G (b0 (by rfl) T.dr (aa (bL (K:=K) rfl (pv 0) rfl) af)) (aN @C) (λ_ _ _ _ _=>⟨(aq (i:=0) (show q3 (n10:C') from by decide +kernel) rfl @D),bB,(!A @F (aj (gS T) η T.i0 T.fz (!j 1 (aa (aj (cO T) η T.dw T.cb (!j 2 (!j 3 (aa ag (aa (ao bM ag (pv 0)) af))))) af))) ag)⟩))
   (ae (cK (osc:=ah ck) (ON:=n4) (N:=n11) (n:=1) (fx:=[3,0,1]) (i:=5) aR.nd rfl rfl rfl rfl rfl rfl @G (aW (K:=K) rfl (pv 3)) (aN @C) (λ_ _ _ _ _=>⟨(aq (i:=0) (show q3 (n11:C') from by decide +kernel) rfl @D),bB,(!A @F (aj (gS T) η T.i0 T.fz (!j 1 (aa (aj (cO T) η T.dw T.cb (!j 2 (!j 3 (!j 0 (aa ag af))))) af))) ag)⟩))
   (ae (av (i:=6) aR.nd rfl @D (dk (pv 0) T.az T.bA (bo T) (η.mono @C) T.aM.2 .nil fj))
   (ae (cK (osc:=ah ck) (ON:=n4) (N:=n12) (n:=1) (fx:=[6]) (i:=7) aR.nd rfl rfl rfl rfl rfl rfl @G (aW (K:=K) rfl (pv 3)) (aN @C) (λ_ _ _ _ _=>⟨(aq (i:=0) (show q3 (n12:C') from by decide +kernel) rfl @D),bB,(cH (aa (ao dY (pv 0) (ao kL (ao bM ag (pv 1)) ag)) (aa (ao l8 (pv 0) (pv 1)) af)))⟩))
   (ai (aB (cH (aa eM (!j 7 (!j 4 (!j 5 af)))))))))))))))),aI (σ':=[aS _,aS _,eC,eC,eC,eC,eC,eC]) rfl ?_⟩
   lia;refine bS υ T.az T.aL rfl ?_;lia;refine bS a4 T.az T.aL rfl ?_;lia;rw[fA (show ¬nat m=nat m2 from λz=>hm (fT z))];dsimp only;rw[px @C];lia;exact⟨by rw[kv];decide,qE (.inl hm) H (Same.refl _)⟩
  subst hm;by_cases a5:θ.length=ι.length
  rotate_left
  ·refine⟨_,((ae (bz (PW.pt (gL (aA kH (bL (K:=K) rfl (pv 0) rfl) (bL (K:=K) rfl (pv 1) rfl) (aG _)) (dX (aA kH (dk (pv 0) T.az T.bW (bN T) (η.mono @C) T.aU.2 .nil fj) (dk (pv 1) T.az T.bW (bN T) (η.mono @C) T.aU.2 .nil fj) (aG _))))) (ai (gh vu T.fM d3 rfl (by rfl) T.kr (aa eM af))) aF)
   (ae (av (i:=2) aR.nd rfl @D (aj (g9 T) η T.iR T.dh (!j 0 (!j 1 af))))
   (ae (bz (aA vI (pv 2) lW (aG _)) (ai (aB (pv 2))) aF)
   (ae (av (i:=3) aR.nd rfl @D (aj (gG T) η T.h9 T.cM (!j 0 (!j 1 af))))
   (ae (cK (osc:=ah ck) (ON:=n4) (N:=n10) (n:=1) (fx:=[3,0,1]) (i:=4) aR.nd rfl rfl rfl rfl rfl rfl @G (b0 (by rfl) T.dr (aa (bL (K:=K) rfl (pv 0) rfl) af)) (aN @C) (λ_ _ _ _ _=>⟨(aq (i:=0) (show q3 (n10:C') from by decide +kernel) rfl @D),bB,(!A @F (aj (gS T) η T.i0 T.fz (!j 1 (aa (aj (cO T) η T.dw T.cb (!j 2 (!j 3 (aa ag (aa (ao bM ag (pv 0)) af))))) af))) ag)⟩))
   (ae (cK (osc:=ah ck) (ON:=n4) (N:=n11) (n:=1) (fx:=[3,0,1]) (i:=5) aR.nd rfl rfl rfl rfl rfl rfl @G (aW (K:=K) rfl (pv 3)) (aN @C) (λ_ _ _ _ _=>⟨(aq (i:=0) (show q3 (n11:C') from by decide +kernel) rfl @D),bB,(!A @F (aj (gS T) η T.i0 T.fz (!j 1 (aa (aj (cO T) η T.dw T.cb (!j 2 (!j 3 (!j 0 (aa ag af))))) af))) ag)⟩))
   (ae (av (i:=6) aR.nd rfl @D (dk (pv 0) T.az T.bA (bo T) (η.mono @C) T.aM.2 .nil fj))
   (ae (cK (osc:=ah ck) (ON:=n4) (N:=n12) (n:=1) (fx:=[6]) (i:=7) aR.nd rfl rfl rfl rfl rfl rfl @G (aW (K:=K) rfl (pv 3)) (aN @C) (λ_ _ _ _ _=>⟨(aq (i:=0) (show q3 (n12:C') from by decide +kernel) rfl @D),bB,(cH (aa (ao dY (pv 0) (ao kL (ao bM ag (pv 1)) ag)) (aa (ao l8 (pv 0) (pv 1)) af)))⟩))
   (ai (aB (cH (aa eM (!j 7 (!j 4 (!j 5 af)))))))))))))))),aI (σ':=[aS _,aS _,eC,eC,eC,eC,eC,eC]) rfl ?_⟩
   lia;refine bS υ T.az T.aL rfl ?_;lia;refine bS a4 T.az T.aL rfl ?_;lia;dsimp only;rw[ko @E];lia;refine di υ rfl ?_;lia;refine⟨p1,m,Y,θ,rfl,a1,?_⟩;lia;refine di a4 rfl ?_;lia;refine⟨p2,m,γ,ι,rfl,a2,?_⟩;lia;rw[fA (show ¬nat θ.length=nat ι.length from λz=>a5 (fT z))];dsimp only;rw[px @C];lia;exact⟨by rw[kv];decide,qE (.inr a5) H (Same.refl _)⟩
  have tw:TwoA H a.au p1 p2 m Y θ γ ι:=⟨a1,g1,a2,g2,a5,k4⟩;replace q1:=q1 rfl a5;replace q2:=q2 rfl a5;have ll:=tw.l;have j7:=tw.lo;have m6:=tw.g1.m6;obtain⟨ψ,τ⟩:∃ψ,ψ=M.prs2 (prs Y) (prs γ) m:=⟨_,rfl⟩;have l6:ψ.length<=60:=by rw[τ];have:=M.prs2_few (prs Y) (prs γ) m;rw[aw,aw] at this;omega
  have g4:∀x∈ψ,x < 2 ^ (Y.length + γ.length):=λx hx=>by
   rw[τ] at hx;have:=M.prs2_lt hx;rwa [aw,aw] at this
  have b3:∀x∈ψ,x < 2 ^ 1000:=λx hx=>eF (g4 x hx) (gs @C @A);have e5:∀x r,M.tr2 (jnp Y γ) x r < 2 ^ 1000:=λx r=>eF (M.tr2_lt _ _ _) (gs @C (by rw[Av];omega))
  have b5:∀{x r:Nat},(x=0∨x∈ψ)->r < 2 ^ m->M.Span ψ (M.tr2 (jnp Y γ) x r):=λhx k6=>by
   rw[τ] at hx ⊢;exact oZ (q:=0) hx k6
  have e6:(1:Int) * 2 ^ ((Y.length:Int).toNat) - 1=((2 ^ Y.length - 1:Nat):Int):=by rw[shl1];have:=lz Y.length;omega
  refine⟨_,((ae (bz (PW.pt (gL (aA kH (bL (K:=K) rfl (pv 0) rfl) (bL (K:=K) rfl (pv 1) rfl) (aG _)) (dX (aA kH (dk (pv 0) T.az T.bW (bN T) (η.mono @C) T.aU.2 .nil fj) (dk (pv 1) T.az T.bW (bN T) (η.mono @C) T.aU.2 .nil fj) (aG _))))) (ai (gh vu T.fM d3 rfl (by rfl) T.kr (aa eM af))) aF)
   (ae (av (i:=2) aR.nd rfl @D (aj (g9 T) η T.iR T.dh (!j 0 (!j 1 af))))
   (ae (bz (aA vI (pv 2) lW (aG _)) (ai (aB (pv 2))) aF)
   (ae (av (i:=3) aR.nd rfl @D (aj (gG T) η T.h9 T.cM (!j 0 (!j 1 af))))
   (ae (cK (osc:=ah ck) (ON:=n4) (N:=n10) (n:=1) (fx:=[3,0,1]) (i:=4) aR.nd rfl rfl rfl rfl rfl rfl @G (b0 (by rfl) T.dr (aa (bL (K:=K) rfl (pv 0) rfl) af)) (aN @C) (λ_ _ _ _ _=>⟨(aq (i:=0) (show q3 (n10:C') from by decide +kernel) rfl @D),bB,(!A @F (aj (gS T) η T.i0 T.fz (!j 1 (aa (aj (cO T) η T.dw T.cb (!j 2 (!j 3 (aa ag (aa (ao bM ag (pv 0)) af))))) af))) ag)⟩))
   (ae (cK (osc:=ah ck) (ON:=n4) (N:=n11) (n:=1) (fx:=[3,0,1]) (i:=5) aR.nd rfl rfl rfl rfl rfl rfl @G (aW (K:=K) rfl (pv 3)) (aN @C) (λ_ _ _ _ _=>⟨(aq (i:=0) (show q3 (n11:C') from by decide +kernel) rfl @D),bB,(!A @F (aj (gS T) η T.i0 T.fz (!j 1 (aa (aj (cO T) η T.dw T.cb (!j 2 (!j 3 (!j 0 (aa ag af))))) af))) ag)⟩))
   (ae (av (i:=6) aR.nd rfl @D (dk (pv 0) T.az T.bA (bo T) (η.mono @C) T.aM.2 .nil fj))
   (ae (cK (osc:=ah ck) (ON:=n4) (N:=n12) (n:=1) (fx:=[6]) (i:=7) aR.nd rfl rfl rfl rfl rfl rfl @G (aW (K:=K) rfl (pv 3)) (aN @C) (λ_ _ _ _ _=>⟨(aq (i:=0) (show q3 (n12:C') from by decide +kernel) rfl @D),bB,(cH (aa (ao dY (pv 0) (ao kL (ao bM ag (pv 1)) ag)) (aa (ao l8 (pv 0) (pv 1)) af)))⟩))
   (ai (aB (cH (aa eM (!j 7 (!j 4 (!j 5 af)))))))))))))))),aI (σ':=[aS _,aS _,eC,eC,eC,eC,eC,eC]) rfl ?_⟩
  lia;refine bS υ T.az T.aL rfl ?_;lia;refine bS a4 T.az T.aL rfl ?_;lia;dsimp only;rw[ko @E];lia;refine di υ rfl ?_;lia;refine⟨p1,m,Y,θ,rfl,tw.a1,?_⟩;lia;refine di a4 rfl ?_;lia;refine⟨p2,m,γ,ι,rfl,tw.a2,?_⟩;lia;dsimp only;rw[ko (by rw[j7];simp)];lia;refine⟨p1,p2,m,Y,θ,γ,ι,rfl,tw,λal H1 s1=>?_,fun δ t' fu tt H1 s1 e1=>?_⟩
  ·lia;refine⟨p1,p2,m,Y,θ,γ,ι,rfl,tw.same s1,λD H2 f2 s2 e2=>?_⟩;rw[<-τ] at e2;have a3:=s1.trans s2;lia;refine bS (a3.get υ) T.az T.aL rfl ?_;lia;rw[pT];intro ρ e0;refine i6 (λj ys H'=>CoN (λj=> .lst ((M.pl 1000 (sfq ψ (M.tr2 (jnp Y γ) 0 (2 ^ j)))).map nat)) H2 ρ j ys H') (xy e0) (λi ys H' hi c=>?_) (λys H3 c=>?_)
   ·have c':=c;obtain⟨_,_,_,_,_,sB,_⟩:=c';have c4:=a3.trans sB;have e3:2 ^ i < 2 ^ m:=rn @C hi;lia;rw[LO,shl1];refine⟨p1,p2,m,Y,θ,γ,ι,0,2 ^ i,rfl,tw.same c4,lz _,e3,λH6 s6=>?_⟩;lia;refine⟨D,ψ,_,rfl,s6.get (sB.get e2),@A,b3,e5 _ _,.inl (b5 (.inl rfl) e3),fun ε D7 H7 qq ο s7 e7 e4 sd=>?_,fun ε H7 mk s7 e7 bd=>gd (b5 (.inl rfl) e3) bd.ns⟩;lia;exact A6 e0 c (s6.trans s7) (s6.free ο) (by rw[e4,zv sd]) @A
   obtain⟨bs,rfl,χ,b4,f8,e8,c0,h5⟩:=c;have α:=a3.trans e8;have O:=e8.get e2;lia;intro φ a6;refine bQ (xs:=ψ.map nat) (λj ys H'=>CoN (λj=> .lst ((M.pl 1000 (sfq ψ (M.tr2 (jnp Y γ) (ψ.getD j 0) 0))).map nat)) H3 φ j ys H') (xy a6) (λj ys H' _ ⟨_,_,_,_,_,s',_⟩=>SqL.of (s'.get O)) (λj v ys H' hv c=>?_) (λys Z c=>?_)
   ·obtain⟨y,hy,rfl⟩:=aX hv;have hj:=(dt.mp hy).1;have ω:=eO hy;have d2:ψ.getD j 0=y:=by rw[ee,hy];rfl
    have c':=c;obtain⟨_,_,_,_,_,sB,_⟩:=c';have c4:=α.trans sB;lia;refine⟨p1,p2,m,Y,θ,γ,ι,y,0,rfl,tw.same c4,g4 y ω,lz _,λH6 s6=>?_⟩;lia;refine⟨D,ψ,_,rfl,s6.get (sB.get O),@A,b3,e5 _ _,.inl (b5 (.inr ω) (lz _)),fun ε D7 H7 qq ο s7 e7 e4 sd=>?_,fun ε H7 mk s7 e7 bd=>gd (b5 (.inr ω) (lz _)) bd.ns⟩;lia;exact A6 a6 c (s6.trans s7) (s6.free ο) (by rw[e4,zv sd,d2]) @A
   obtain⟨us,rfl,f0,g5,b6,a0,g3,h0⟩:=c;rw[eB] at f0;have d1:=α.trans a0;have ζ:=a0.get O;lia;refine di (d1.get υ) rfl ?_;lia;refine⟨p1,m,Y,θ,rfl,tw.a1.same d1,?_⟩;lia;intro D5 β;refine bQ (xs:=ψ.map nat) (λj ys H'=>Co (λj=> .tup [nat (M.lo Y.length (ψ.getD j 0)),nat (ψ.getD j 0>>>Y.length)]) Z D5 j ys H') (p4 β) (λj ys H' _ ⟨_,_,_,_,_,s',_⟩=>SqL.of (s'.get ζ)) (λj v ys H' hv c=>?_) (λys H5 c=>?_)
   ·obtain⟨y,hy,rfl⟩:=aX hv;have hj:=(dt.mp hy).1;have d2:ψ.getD j 0=y:=by rw[ee,hy];rfl
    lia;rw[e6,a8,vz];intro t9 H9 f9 s9 e9;exact rF β c s9 f9 (by rw[e9,d2];rfl) @A
   obtain⟨ts,rfl,f1,l4,m5,g6,l2⟩:=c;rw[eB] at f1;lia;intro tt H6 f6 s6 l3;have c1:=g6.trans s6;have c2:=a0.trans c1;subst τ;have f5:H ρ=none:=a3.free e0;have f4:H φ=none:=α.free a6;have f3:H D5=none:=d1.free β;have h8:ρ≠φ:=ar c0 a6;have h7:ρ≠D5:=ar (a0.get c0) β;have h6:φ≠D5:=ar g3 β
   have l1:∀d∈bs,H d=eC/\d≠D5/\d≠ρ/\d≠φ:=λd hd=>by
    obtain⟨j,hj⟩:=K8 hd;have h3:=b4 j d hj;exact⟨a3.free (f8 d hd).1,ar (a0.get h3) β,(f8 d hd).2,ar h3 a6⟩
   have l0:∀d∈us,H d=eC/\d≠D5/\d≠ρ/\d≠φ:=λd hd=>by
    obtain⟨j,hj⟩:=K8 hd;have h3:=g5 j d hj;exact⟨α.free (b6 d hd).1,ar h3 β,λz=>(by have:=(b6 d hd).1;rw[z,c0] at this;cases this),(b6 d hd).2⟩
   have h4:(bs++us).Nodup:=by
    rw[Ln];refine⟨h5,h0,λx hx y hy z=>?_⟩;obtain⟨j,hj⟩:=K8 hx;have h3:=b4 j x hj;rw[z,(b6 y hy).1] at h3;cases h3
   exact q1 al tt D5 ρ φ ts bs us H6 (α.trans c2) ⟨⟨l3,s6.get l2,f1,λj d h=>by rw[aw];exact s6.get (l4 j d h),c2.get c0,χ,λj d h=>c2.get (b4 j d h),c1.get g3,f0,λj d h=>c1.get (g5 j d h)⟩,f3,f5,f4,by simp[h7.symm,h6.symm,h8],h4,λd hd=>by
    rcases lh.mp hd with h | h
    ·exact l1 d h
    ·exact l0 d h⟩
  ·lia;exact q2 δ t' fu tt H1 s1 e1
end
local macro_rules | `(tactic| walk_at "l2step") =>`(tactic| first | ((with_reducible refine' ka ?e ?a ?_);(case e=>walk_at "l2hp");(case a=>walk_at "l2side")) | ((with_reducible refine' sP ?a ?b ?_);(case a=>walk_at "l2side");(case b=>walk_at "l2side");(with_reducible intro _ _)))
section
variable {P:oe} {w:sb} {K:aT} {mg:Dk} {base:u2} {a:Ad}
local macro_rules | `(tactic| walk_at "l2step") =>`(tactic| first | ((with_reducible refine' ip ?e ?_);(case e=>walk_at "l2kind")) | ((with_reducible refine' j9 ?e ?_);(case e=>walk_at "l2kind")) | (with_reducible refine gf ?_) | (with_reducible refine iK ?_))
theorem jA (T:Tx K mg a):FnOk P w K mg base CX0 11 a.b9 a.j5 ["_law_one","_law_other_here"] (zk a.au):=by
 refine T.dI.1.okA d4 fun ν A outer s H vs Q E θ h=>?_;obtain⟨p1,p2,φ,ζ,β,Z,α,Y,rfl,a1,g1,a2,g2,l,ε,q⟩:=h
 refine⟨_,((ae (av (i:=2) d4.nd rfl @D lW)
  (ae (EW ⟨rfl,rfl⟩ thr0 T.yp (by rfl) T.kr (λ_ _=>(ai (av (i:=2) d4.nd rfl @D (rW (lG T) (θ.mono @C) (by rfl) T.nH T.dR.1.2 T.dR.2 .nil d3 (!j 0 (!j 1 af)))))) (λ_ _=>(ai (av (i:=2) d4.nd rfl @D lW))))
  (ai (aB (pv 2)))))),aI (σ':=[aS _,aS _,eC]) rfl ?_⟩
 lia;refine⟨p1,p2,φ,ζ,β,Z,α,Y,rfl,a1,g1,a2,g2,l,λh H2 O=>?_,λhm ho al t η χ ο ts bs us H2 O ξ=>?_,λhm ho δ γ fu t H2 O ι=>?_⟩
 ·refine zD T.d7 ?_;lia;exact ε h H2 O
 ·lia;exact q hm ho t H2 O (.inl ⟨η,χ,ο,ts,bs,us,by rw[aw,aw];exact al,ξ⟩)
 ·lia;exact q hm ho t H2 O (.inr ⟨δ,γ,fu,ι⟩)
theorem Hc (T:Tx K mg a) (PT:eh) (kb:K.In base) (hB:LM.LamB mg base a.be PT):FnOk P w K mg base CX0 14 a.yu a.HJ ["_law_script"] (rK lpos PT K):=by
 have vh:=@r6 P w K mg base a T PT kb hB;refine T.C7.okA lR λh8 A outer s H vs Q E δ h=>?_;obtain⟨p0,ns,rfl,hS,h5,TL,q⟩:=h;have h7:=rz δ;have f9:=vD δ
 refine⟨_,((ae (av (i:=1) lR.nd rfl @D (aj (jW T) δ T.kP T.d0 (!j 0 (aa ag (aa ag af)))))
  (ae (av (i:=2) lR.nd rfl @D (aj vh δ T.uv T.iG (!j 0 (!j 1 af))))
  (ae (av (i:=3) lR.nd rfl @D (rV T.vg (hV T) (δ.mono @C) (by rfl) T.uz T.cw.2 .nil fj (aa (!A @F (pv 1) ag) (aa (!A @F (pv 1) ag) (aa (!A @F (pv 1) ag) af)))))
  (ae (av (i:=4) lR.nd rfl @D (rV T.vg (hV T) (δ.mono @C) (by rfl) T.uz T.cw.2 .nil fj (aa (!A @F (pv 2) ag) (aa (!A @F (pv 2) ag) (aa (!A @F (pv 2) ag) af)))))
  (ae (av (i:=5) lR.nd rfl @D (aj (jA T) δ T.j2 T.dI (!j 3 (!j 4 af))))
  (ae (bz (PW.pt (gL (aA kH (!A @F (pv 1) ag) (!A @F (pv 2) ag) (aG _)) (dX (aA kH (aE (aO (K:=K) rfl) (by rfl) T.fU q8 (aa (!A @F (pv 1) ag) af)) (aE (aO (K:=K) rfl) (by rfl) T.fU q8 (aa (!A @F (pv 2) ag) af)) (aG _))))) (ai (aB (o4 (gF z6 (pv 5) lW (aG _)) (rj (gF z6 (aj (jA T) δ T.j2 T.dI (!j 4 (!j 3 af))) lW (aG _)))))) aF)
  (ae (bz (PW.pt (gL (aA z6 (pv 5) lW (aG _)) (dX (dj (cq (aj (jk T) δ T.j1 T.eN (!j 1 (!j 2 (!j 5 af))))))))) (ai (aB iU)) aF)
  (ae (av (i:=6) lR.nd rfl @D (aj (kO T) δ T.my T.fG (!j 5 af)))
  (ae (bz (dj (cq (aj (m8 T) δ T.ou T.d6 (!j 5 af)))) (ai (aB iU)) aF)
  (ae (dS ry rfl (E3 (K:=K) rfl (gM (EB (K:=K) rfl) (pv 5) (jg ag) jh)) (aq (i:=7) lR.nd rfl @D) (ai (bz (cq (aE (cu (K:=K) rfl) (by rfl) T.bb oL (!j 7 (aa (fi (v:= .ty "list") (by rfl) T.hX u1 rfl) af)))) (ai (fg (jV (K:=K) rfl y5 PySem.F.slot_list_clear PySem.F.type_list_clear B9 (pv 7)))) aF)))
  (ae (av (i:=8) lR.nd rfl @D (rW (lG T) (δ.mono @C) (by rfl) T.nH T.dR.1.2 T.dR.2 .nil thr0 (!j 3 (!j 4 af))))
  (ae (bz (PW.pt (gL (aA (rY (K:=K) rfl f9) (aj (kO T) δ T.my T.fG (!j 8 af)) (pv 6) (aG _)) (dX (dj (cq (aj (jk T) δ T.j1 T.eN (!j 1 (!j 2 (!j 8 af))))))))) (ai (aB iU)) aF)
  (ai (aB (aj (jk T) δ T.j1 T.eN (!j 2 (!j 1 (aa (rW (lG T) (δ.mono @C) (by rfl) T.nH T.dR.1.2 T.dR.2 .nil thr0 (!j 4 (!j 3 af))) af))))))))))))))))))),aI (σ':=[aS _,eC,eC,eC,eC,eC,eC,eC,eC]) rfl ?_⟩
 lia;refine⟨p0,ns,1,6,rfl,hS,@C,@C,λt n o H1 m nx os s1 fn fo tt f8=>?_⟩;have e2:=Same.seq s1 hS;have a6:=jL TL s1;lia;refine⟨p0,t,n,o,ns,m,nx,os,rfl,e2,tt,f8,a6,λt2 Y o2 H2 m2 ξ O B2 h4 π l2=>?_⟩;have υ:=B2.tab a6 tt;clear TL a6 hS e2 tt B2 s1 fn fo;have g1:=υ.tab.g;have g2:=π.tab.g;have g6:=υ.t;have e7:=π.t;lia;intro x dx H3 f3 s3 e3;refine⟨x,dx,n,o,m,nx,os,rfl,e3,υ.tab.same s3,λZ k4 d1=>⟨rfl,?_⟩⟩;have s4:Same H2 Z:=λb ob e=>k4 b ob (ar e f3) (s3.get e);have e6:=s4.get e7;lia;intro x2 h0 H5 f5 ν e5;refine⟨x2,h0,Y,o2,m2,ξ,O,rfl,e5,(π.same s4).tab.same ν,λH6 α ψ=>⟨rfl,?_⟩⟩;have s6:Same Z H6:=λb ob e=>α b ob (ar e f5) (ν.get e);have θ:=d1.same s6;have ζ:=υ.same (s4.trans s6);have ε:=π.same (s4.trans s6);clear d1 υ π g6 e7 e6 s3 s4 ν s6 k4 α e3 e5 h4;lia;refine⟨x,x2,m,m2,nx,os,ξ,O,rfl,θ,g1,ψ,g2,@A,λhd H7 ι=>?_,λhm ho td H7 ι fd=>?_⟩
 ·have c2:=θ.same ι;have c0:=ψ.same ι;have e8:=ι.get ζ.t;have e4:=ι.get ε.t;have f0:=ι.get ζ.tab.o;have e9:=ι.get ε.tab.o;lia;dsimp only;refine ite2 (λh1=>?_) (λh1=>?_);rw[px rfl]
  rotate_left
  have g4:m=m2:=OV.mp λz=>h1 (by rw[fA (λy=>z (fT y))];rfl)
  have g3:os.length≠O.length:=by
   rcases hd with hd | hd
   ·exact gd g4 hd
   ·exact hd
  lia;rw[aJ,aJ,fA (λy=>g3 (fT y))];dsimp only;rw[px @C]
  all_goals
   lia;refine⟨x2,x,m2,m,ξ,O,nx,os,rfl,c0,g2,c2,g1,@A,λ_ H8 τ=>?_,λh1 h2=>?_⟩
   ·lia;exact q _
   ·rcases hd with hd | hd
    ·exact gd h1.symm hd
    ·exact gd h2.symm hd
 subst hm;have m6:=g1.m6;have d2:(prs nx).length + (prs ξ).length<=60:=by rw[aw,aw];omega
 have e8:=ι.get ζ.t;have e4:=ι.get ε.t;have f0:=ι.get ζ.tab.o;have e9:=ι.get ε.tab.o;lia;dsimp only;rw[ko @E];lia;rw[aJ,aJ,hJ (show V.int (os.length:Int)=V.int (O.length:Int) by rw[ho])];dsimp only;rw[ko @C];lia;refine⟨td,t,n,o,t2,Y,o2,m,nx,os,ξ,O,rfl,fd.fnd,ζ.same ι,ε.same ι,@A,λH8 τ=>?_⟩;obtain⟨d,dd,e0⟩:=fd.tld m6 d2;obtain⟨R,wd,xs,rs⟩:=fd.rst m6 d2;lia;refine⟨td,d,rfl,e0 (fd.same τ),λDh H9 s9 ω=>?_⟩;lia;have χ:=τ.trans s9;refine E7 (rs.same χ) λl6 γ f2=>?_;have a3:=rs.same χ;have hR:=a3.hR;have rep:=ω R λb hb=>(rs.same τ).hR b hb |>.2;have a5:=xk (λb hb=>(hR b hb).2) a3.tp;have a0:Same H6 (less H9 R):=zz (ι.trans χ) λb hb=>(hR b hb).1;have vR:∀b,R b->less H9 R b=none:=λb hb=>pE hb;generalize less H9 R=Hv at γ rep a5 a0 vR;clear ω rs a3 hR τ s9 χ ι;lia;refine Iz (γ.get a5) λtp l5 g5 β f1=>?_;lia;refine FK (xs:=xs) (λi σ H'=>∃v,σ=[aS (.ref p0),aS (.ref t),aS (.ref t2),aS (.ref x),aS (.ref x2),aS (.ref td),aS (.ref Dh),v,eC]/\Same Hv H'/\H' tp=aS (.tup xs)/\Clr H' R xs) ⟨eC,rfl,γ.trans β,f1,λv hv=>?_⟩ (λi σ H' _ ⟨_,_,_,e,_⟩=>SqT.of e) ?_ ?_
 ·rcases f2 v hv with h | ⟨b,ys,h1,h2,h3⟩
  ·exact .inl h
  ·exact .inr ⟨b,ys,h1,h2,β.get h3⟩
 ·rintro i y σ H' hy ⟨v,rfl,s',ο,cl⟩;rcases cl y (eO hy) with ⟨k,rfl⟩ | ⟨b,ys,rfl,hb,eb⟩
  ·lia;exact⟨s',ο,cl⟩
  ·lia;refine EO eb λHA uA=>?_;lia;refine⟨uA.same (vR b hb) s',uA.oth _ _ (λz=>by rw[z,eb] at ο;cases ο) ο,λv hv=>?_⟩;rcases cl v hv with h | ⟨b2,f4,h1,h2,h3⟩
   ·exact .inl h
   ·by_cases hz:b2=b
    ·exact .inr ⟨b2,_,h1,h2,by rw[hz];exact uA.at'⟩
    ·exact .inr ⟨b2,f4,h1,h2,uA.oth _ _ hz h3⟩
 ·rintro σ H' ⟨v,rfl,s',ο,cl⟩;clear cl ο f1 β g5 f2 γ vR a5;have b4:=a0.trans s';have c4:=θ.same b4;have c1:=ψ.same b4;lia;refine A7 c4 g1 c1 g2 @A ho λta l4 f7 ρ=>?_;lia;refine⟨ta,d,rfl,e0 ρ,λDc l3 b6 a4=>?_⟩;have rep2:=(a4 (λ_=>False) (λb h=>h.elim)).same ue;have b3:=s'.trans (f7.trans b6);lia;refine BK rep2 (rep.same b3) dd ?_;rw[sM];refine⟨_,rfl,?_⟩;dsimp only;rw[ko @C];have φ:=a0.trans b3;lia;refine⟨ta,t,n,o,t2,Y,o2,m,nx,os,ξ,O,rfl,(ρ.same b6).fnd,ζ.same φ,ε.same φ,@A,λl1 f6=>?_⟩;have η:=φ.trans f6;lia;refine A7 (ψ.same η) g2 (θ.same η) g1 @A ho.symm λtb l0 b5 fb=>?_;lia;refine⟨tb,t2,Y,o2,t,n,o,m,ξ,O,nx,os,rfl,fb.fnd,ε.same (η.trans b5),ζ.same (η.trans b5),@A,λj7 h6=>?_⟩;lia;exact q _
end
open PySem.W in
theorem all_mk {l:OP} {w:sb} {K:Frag} {h:u2} {mg:Dk} {fa:eh} (X:K.In h) (G:h.Ns JG mg) (hfa:mg "law"=aS (.ref fa)){dQ gy pQ ij ie bf bt cX bu pR ib d9 cC b8 fV ig cR jq dy aV bh aZ aK bH bg mH:eh}{qd:fC}{qc:J0}{qb:Nat}{qa:E'}{kQ:Tok}{qt qU:J0}{qf:E'}{qw qL qP ql kZ qS:fC}{bI bj eg fX dB cD cF fW:eh}{t5 uY:J0}{tP:E'}{t6 uo uG tW nU uL:fC}{cS:eh}{qr qT:J0}{qe:E'}{qv qK qO qk qR:fC}{il PT be dC cE cU eE dA cT cV dE dD dz cW bO b9:eh}{He HN:J0}{Gr:E'}{Hf Hk HI GZ DT HK:fC}{yu a7:eh}(FU:NI K "Steps" a7){au:eh}(Bi:NI K "Machine" au)(yF:NI K "is_whole" dQ)(yl:FR K "is_whole" "is_whole" mR dQ)(Bg:NI K "is_mask" gy)(Ap:FR K "is_mask" "is_mask" oV gy)(HR:NI K "even" pQ)(Hi:FR K "even" "even" zB pQ)(Bh:NI K "bits_of" ij)(Aq:FR K "bits_of" "bits_of" lV ij)(Be:NI K "mask_of" ie)(An:FR K "mask_of" "mask_of" oR ie)(yN:FI K a7 "__init__" bf)(oj:FR K "__init__" "Steps.__init__" gB bf)(yX:FI K a7 "lowered" bt)(pJ:FR K "lowered" "Steps.lowered" gZ bt)(Eh:FI K a7 "lay" cX)(vW:FR K "lay" "Steps.lay" lD cX)(yY:FI K a7 "barring" bu)(pK:FR K "barring" "Steps.barring" g0 bu)(HS:NI K "base" pR)(Hj:FR K "base" "base" zE pR)(Bd:NI K "sum_for" ib)(Am:FR K "sum_for" "sum_for" oQ ib)(wx:NI K "next_pair" d9)(vS:FR K "next_pair" "next_pair" lA d9)(qV:NI K "first_unlike" cC)(qF:FR K "first_unlike" "first_unlike" dW cC)(p7:NI K "pairs_come_to" b8)(pH:FR K "pairs_come_to" "pairs_come_to" cJ b8)(yG:NI K "compared" fV)(ym:FR K "compared" "compared" ck fV)(Bf:NI K "is_pair" ig)(Ao:FR K "is_pair" "is_pair" oU ig)(sU:NI K "check_table" cR)(sk:FR K "check_table" "check_table" gJ cR)(C5:NI K "is_odd" jq)(Ce:FR K "is_odd" "is_odd" rN jq)(uZ:NI K "odd_places" dy)(uf:FR K "odd_places" "odd_places" ix dy)(wG:FI K au "__init__" aV)(ml:FR K "__init__" "Machine.__init__" ff aV)(yP:FI K au "stores" bh)(oq:FR K "stores" "Machine.stores" gD bh)(xF:FI K au "outputs" aZ)(nE:FR K "outputs" "Machine.outputs" fQ aZ)(tG:FI K au "check_state" aK)(jZ:FR K "check_state" "Machine.check_state" dq aK)(Bq:FI K au "step" bH)(qJ:FR K "step" "Machine.step" iN bH)(yO:FI K au "walked" bg)(om:FR K "walked" "Machine.walked" gC bg)(Bs:FI K au "run" bI)(sy:K.lookup bI=aS ⟨qw,qt,.func (fnOf "run" "Machine.run" (eG dO) (cL dO) (ah dO) (.ref mH) qL qP ql qU kZ qS),qf⟩)(qD:K.lookup mH=aS ⟨qd,qc,.seq #[.int 0 kQ] qb,qa⟩)(sR:codeIn K kZ "Machine.run"=true)(l6:keepIn K (.ref bI)=true)(yQ:FI K au "single" bj)(ot:FR K "single" "Machine.single" gE bj)(wA:NI K "_law_cell" eg)(vU:FR K "_law_cell" "_law_cell" lB eg)(yI:NI K "_law_mix" fX)(yo:FR K "_law_mix" "_law_mix" mT fX)(vc:NI K "_law_masks" dB)(ui:FR K "_law_masks" "_law_masks" jR dB)(qW:NI K "_law_thinned" cD)(qG:FR K "_law_thinned" "_law_thinned" iL cD)(qY:NI K "_law_machine" cF)(qI:FR K "_law_machine" "_law_machine" dc cF)(yH:NI K "_law_odd" fW)(yn:FR K "_law_odd" "_law_odd" mS fW)(wz:NI K "_law_turn" cS)(vT:K.lookup cS=aS ⟨t6,t5,.func (fnOf "_law_turn" "_law_turn" (eG fP) (cL fP) (ah fP) .none uo uG tW uY nU uL),tP⟩)(wo:codeIn K nU "_law_turn"=true)(o5:keepIn K (.ref cS)=true)(sV:NI K "_law_turned" be)(mj:K.lookup be=aS ⟨qv,qr,.func (fnOf "_law_turned" "_law_turned" (eG bG) (cL bG) (ah bG) .none qK qO qk qT (.ref il) qR),qe⟩)(sQ:codeIn K (.ref il) "_law_turned"=true)(lZ:keepIn K (.ref be)=true)(vd:NI K "_law_grown" dC)(uj:FR K "_law_grown" "_law_grown" gq dC)(qX:NI K "_law_swapped" cE)(qH:FR K "_law_swapped" "_law_swapped" iM cE)(sX:NI K "_law_single" cU)(su:FR K "_law_single" "_law_single" je cU)(wB:NI K "_law_bent" eE)(vV:FR K "_law_bent" "_law_bent" lC eE)(vb:NI K "_law_other" dA)(uh:FR K "_law_other" "_law_other" jQ dA)(sW:NI K "_law_summed" cT)(so:FR K "_law_summed" "_law_summed" jc cT)(sY:NI K "_law_places" cV)(sv:FR K "_law_places" "_law_places" gK cV)(vf:NI K "_law_alike" dE)(um:FR K "_law_alike" "_law_alike" iz dE)(ve:NI K "_law_apart" dD)(uk:FR K "_law_apart" "_law_apart" jS dD)(va:NI K "_law_right" dz)(ug:FR K "_law_right" "_law_right" jP dz)(sZ:NI K "_law_copied" cW)(sx:FR K "_law_copied" "_law_copied" fc cW)(ox:NI K "_law_own_lists" bO)(oh:FR K "_law_own_lists" "_law_own_lists" c5 bO)(p9:NI K "_law_compared" b9)(pI:FR K "_law_compared" "_law_compared" gY b9)(Jh:NI K "law" yu)(IX:K.lookup yu=aS ⟨Hf,He,.func (fnOf "law" "law" (eG xZ) (cL xZ) (ah xZ) .none Hk HI GZ HN DT HK),Gr⟩)(Jf:codeIn K DT "law"=true)(IQ:keepIn K (.ref yu)=true)(BX:plainGet K a7 Qc=true)(BW:hasDictIn K a7=true)(BV:plainOver K a7=true)(BU:findIn K (.ref a7) "__setattr__"=aS (aS (.builtin "object.__setattr__")))(CK:makesIn K a7=true)(CJ:FI K a7 "__init__" bf)(CH:isFn K (.ref bf)=true)(CG:keepIn K (.ref a7)=true)(oa:FI K a7 "lowered" bt)(n8:isFn K (.ref bt)=true)(uc:FI K a7 "lay" cX)(ub:isFn K (.ref cX)=true)(og:FI K a7 "barring" bu)(n9:isFn K (.ref bu)=true)(qx:FN K a7 "by_top")(lH:FN K a7 "free_places")(me:FN K a7 "null_masks")(x9:plainGet K au Qc=true)(x8:hasDictIn K au=true)(x6:plainOver K au=true)(x5:findIn K (.ref au) "__setattr__"=aS (aS (.builtin "object.__setattr__")))(yy:makesIn K au=true)(yx:FI K au "__init__" aV)(yw:isFn K (.ref aV)=true)(yv:keepIn K (.ref au)=true)(nv:FI K au "stores" bh)(nj:isFn K (.ref bh)=true)(mi:FI K au "outputs" aZ)(mh:isFn K (.ref aZ)=true)(jK:FI K au "check_state" aK)(jJ:isFn K (.ref aK)=true)(pB:FI K au "step" bH)(pA:isFn K (.ref bH)=true)(nu:FI K au "walked" bg)(nh:isFn K (.ref bg)=true)(qC:FI K au "run" bI)(qz:isFn K (.ref bI)=true)(ny:FI K au "single" bj)(nr:isFn K (.ref bj)=true)(nZ:FN K au "inputs")(ph:FN K au "nexts")(qy:FN K au "outs"){bD:eh}(yK:NI K "BadSizes" bD){dF:eh}(Bj:NI K "BadMask" dF){gU:eh}(yJ:NI K "BadTable" gU)(vn:isClsIn K bD=true)(vm:typeIn K (.ref bD)=aS (.type "type"))(fM:excIn K bD [.type "ValueError",.type "Exception",.type "BaseException",.type "object"] "ValueError.__new__"=true)(d7:mroIn K bD (.ref bD)=aS true)(vY:mroIn K bD (.type "BaseException")=aS true)(gX:excIn K dF [.type "ValueError",.type "Exception",.type "BaseException",.type "object"] "ValueError.__new__"=true)(eK:excIn K gU [.type "ValueError",.type "Exception",.type "BaseException",.type "object"] "ValueError.__new__"=true){ja:Tok}(tu:nsIn K JG "MOST_INPUTS"=aS (aS (.int 6 ja))){k8:Tok}(wC:nsIn K JG "MOST_OUTS"=aS (aS (.int 6 k8))){i9:Tok}(tj:nsIn K JG "MOST_STORES"=aS (aS (.int 120 i9)))(Ih:NN K "all")(F2:NN K "bool")(vj:NN K "enumerate")(Ig:NN K "int")(tF:NN K "isinstance")(Ie:NN K "len")(F1:NN K "list")(Ec:NN K "range")(Ic:NN K "set")(Br:NN K "sorted")(Ib:NN K "sum")(Eb:NN K "tuple")(Ia:NN K "zip")(hdc:codeHdIn K il PT=true):∃fd:hP,(∀(s:eL) (v:fC),BindsTo s fd ⟨[v],[]⟩ [("_law_script",v)])/\(∃c,CodeHd h c PT)/\∀base:u2,K.In base->base.Ns JG mg->LM.LamM mg base->FnOk l.prog w K mg base CX0 14 fa fd ["_law_script"] (rK lpos PT K):=by
 have e:=hfa.symm.trans (JQ X G Jh);cases e;obtain⟨_,gW⟩:=yl.ok (ps:=["thing"]) (by walk_at "b");obtain⟨_,iq⟩:=Ap.ok (ps:=["thing","width"]) (by walk_at "b");obtain⟨_,rG⟩:=Hi.ok (ps:=["number"]) (by walk_at "b");obtain⟨_,mK⟩:=Aq.ok (ps:=["mask"]) (by walk_at "b");obtain⟨_,mI⟩:=An.ok (ps:=["places"]) (by walk_at "b");obtain⟨_,c6⟩:=oj.ok (ps:=["self","rows"]) (by walk_at "b");obtain⟨_,cN⟩:=pJ.ok (ps:=["self","mask"]) (by walk_at "b");obtain⟨_,ir⟩:=vW.ok (ps:=["self","place","row"]) (by walk_at "b");obtain⟨_,dJ⟩:=pK.ok (ps:=["self","bit"]) (by walk_at "b");obtain⟨_,xE⟩:=Hj.ok (ps:=["rows"]) (by walk_at "b");obtain⟨_,fz⟩:=Am.ok (ps:=["rows","wish"]) (by walk_at "b");obtain⟨_,cb⟩:=vS.ok (ps:=["one","other","pair","row"]) (by walk_at "b");obtain⟨_,dh⟩:=qF.ok (ps:=["one","other"]) (by walk_at "b");obtain⟨_,cM⟩:=pH.ok (ps:=["one","other"]) (by walk_at "b");obtain⟨_,dR⟩:=ym.ok (ps:=["one","other"]) (by walk_at "b");obtain⟨_,mJ⟩:=Ao.ok (ps:=["thing","stores","inputs"]) (by walk_at "b");obtain⟨_,gP⟩:=sk.ok (ps:=["inputs","nexts","outs"]) (by walk_at "b");obtain⟨_,oG⟩:=Ce.ok (ps:=["pair","state","row"]) (by walk_at "b");obtain⟨_,gA⟩:=uf.ok (ps:=["pairs","state","row"]) (by walk_at "b");obtain⟨_,cw⟩:=ml.ok (ps:=["self","inputs","nexts","outs"]) (by walk_at "b");obtain⟨_,aM⟩:=oq.ok (ps:=["self"]) (by walk_at "b");obtain⟨_,aU⟩:=nE.ok (ps:=["self"]) (by walk_at "b");obtain⟨_,bp⟩:=jZ.ok (ps:=["self","state"]) (by walk_at "b");obtain⟨_,cG⟩:=qJ.ok (ps:=["self","state","row"]) (by walk_at "b");obtain⟨_,c7⟩:=om.ok (ps:=["self","rows","state"]) (by walk_at "b");have fH:=FG (st:=dO) sy qD sR l6;have b_Machine_run:=fH.binds (ps:=["self","rows","state"]) (ds:=[]) λ_ _ _ _ _ _ _ us hl=>match us,hl with | [_,_,_],_=>⟨_,rfl,rfl⟩
 have jy:=fH.binds (ps:=["self","rows","state"]) (ds:=[.int 0 kQ]) λ_ _ _ _ _ _ _ us hl=>match us,(show us.length=2 by simpa using hl) with | [_,_],_=>⟨_,rfl,rfl⟩
 obtain⟨_,cn⟩:=ot.ok (ps:=["self","which","turns"]) (by walk_at "b");obtain⟨_,bE⟩:=vU.ok (ps:=["_law_script","_law_k"]) (by walk_at "b");obtain⟨_,a9⟩:=yo.ok (ps:=["_law_cell_here","_law_k"]) (by walk_at "b");obtain⟨_,dH⟩:=ui.ok (ps:=["_law_cell_here","_law_start","_law_many","_law_width","_law_digits"]) (by walk_at "b");obtain⟨_,gi⟩:=qG.ok (ps:=["_law_masks_here","_law_cell_here","_law_start","_law_way"]) (by walk_at "b");obtain⟨_,d0⟩:=qI.ok (ps:=["_law_script","_law_start","_law_most"]) (by walk_at "b");obtain⟨_,gb⟩:=yn.ok (ps:=["_law_number"]) (by walk_at "b");have jw:=xt (st:=fP) vT wo o5;have eI:=jw.binds (ps:=["_law_tables","_law_state","_law_row"]) λ_ _ _ _ _ _ us hl=>match us,hl with | [_,_,_],_=>rfl
 have gQ:=xt (st:=bG) mj sQ lZ;have jv:=gQ.binds (ps:=["_law_tables","_law_cell_here"]) λ_ _ _ _ _ _ us hl=>match us,hl with | [_,_],_=>rfl
 obtain⟨_,iH⟩:=uj.ok (ps:=["_law_tables","_law_cell_here"]) (by walk_at "b");obtain⟨_,gj⟩:=qH.ok (ps:=["_law_mask","_law_at","_law_many","_law_way"]) (by walk_at "b");obtain⟨_,bT⟩:=su.ok (ps:=["_law_tables","_law_which","_law_turns"]) (by walk_at "b");obtain⟨_,jx⟩:=vV.ok (ps:=["_law_tables","_law_cell_here"]) (by walk_at "b");obtain⟨_,iG⟩:=uh.ok (ps:=["_law_script","_law_tables"]) (by walk_at "b");obtain⟨_,fE⟩:=so.ok (ps:=["_law_pairs","_law_places_here"]) (by walk_at "b");obtain⟨_,fF⟩:=sv.ok (ps:=["_law_lists","_law_many","_law_most"]) (by walk_at "b");obtain⟨_,iJ⟩:=um.ok (ps:=["_law_tables","_law_others","_law_told"]) (by walk_at "b");obtain⟨_,iI⟩:=uk.ok (ps:=["_law_tables","_law_others","_law_told"]) (by walk_at "b");obtain⟨_,eN⟩:=ug.ok (ps:=["_law_tables","_law_others","_law_told"]) (by walk_at "b");obtain⟨_,fG⟩:=sx.ok (ps:=["_law_told"]) (by walk_at "b");obtain⟨_,d6⟩:=oh.ok (ps:=["_law_told"]) (by walk_at "b");obtain⟨_,dI⟩:=pI.ok (ps:=["_law_one","_law_other_here"]) (by walk_at "b");have C7:=xt (st:=xZ) IX Jf IQ;have b_law:=C7.binds (ps:=["_law_script"]) λ_ _ _ _ _ _ us hl=>match us,hl with | [_],_=>rfl
 have T:Tx K mg ⟨dQ,_,gy,_,pQ,_,ij,_,ie,_,bf,_,bt,_,cX,_,bu,_,pR,_,ib,_,d9,_,cC,_,b8,_,fV,_,ig,_,cR,_,jq,_,dy,_,aV,_,bh,_,aZ,_,aK,_,bH,_,bg,_,bI,_,_,bj,_,eg,_,fX,_,dB,_,cD,_,cF,_,fW,_,cS,_,be,_,dC,_,cE,_,cU,_,eE,_,dA,_,cT,_,cV,_,dE,_,dD,_,dz,_,cW,_,bO,_,b9,_,fa,_,a7,au,bD,dF,gU,_,_,_⟩:=⟨gW,JQ X G yF,iq,JQ X G Bg,rG,JQ X G HR,mK,JQ X G Bh,mI,JQ X G Be,c6,cN,ir,dJ,xE,JQ X G HS,fz,JQ X G Bd,cb,JQ X G wx,dh,JQ X G qV,cM,JQ X G p7,dR,JQ X G yG,mJ,JQ X G Bf,gP,JQ X G sU,oG,JQ X G C5,gA,JQ X G uZ,cw,aM,aU,bp,cG,c7,fH,jy,⟨_,rfl⟩,cn,bE,JQ X G wA,a9,JQ X G yI,dH,JQ X G vc,gi,JQ X G qW,d0,JQ X G qY,gb,JQ X G yH,jw,o5,eI,JQ X G wz,gQ,lZ,jv,JQ X G sV,iH,JQ X G vd,gj,JQ X G qX,bT,JQ X G sX,jx,JQ X G wB,iG,JQ X G vb,fE,JQ X G sW,fF,JQ X G sY,iJ,JQ X G vf,iI,JQ X G ve,eN,JQ X G va,fG,JQ X G sZ,d6,JQ X G ox,dI,JQ X G p9,C7,JQ X G FU,⟨BX,BW,BV,BU⟩,⟨CK,CJ,CH,CG⟩,⟨oa,n8,cN.1.2⟩,⟨uc,ub,ir.1.2⟩,⟨og,n9,dJ.1.2⟩,qx,lH,me,JQ X G Bi,⟨x9,x8,x6,x5⟩,⟨yy,yx,yw,yv⟩,⟨nv,nj,aM.1.2⟩,⟨mi,mh,aU.1.2⟩,⟨jK,jJ,bp.1.2⟩,⟨pB,pA,cG.1.2⟩,⟨nu,nh,c7.1.2⟩,⟨qC,qz,l6⟩,⟨ny,nr,cn.1.2⟩,nZ,ph,qy,JQ X G yK,fM,d7,⟨vm,vn,vY⟩,JQ X G Bj,gX,JQ X G yJ,eK,JQ X G tu,JQ X G wC,JQ X G tj,KC X G Ih,KC X G F2,KC X G vj,KC X G Ig,KC X G tF,KC X G Ie,KC X G F1,KC X G Ec,KC X G Ic,KC X G Br,KC X G Ib,KC X G Eb,KC X G Ia⟩;exact⟨_,λs v=> .of_eq rfl,⟨_,codeHd_of_K X hdc⟩,λbase kb _ hM=>Hc T _ kb (LM.LamB.mk2 kb mj rfl hdc hM)⟩
open PySem.W in
theorem walk {l:OP} {q:oe} {loose:C'} {XP:Dk->u2->Prop} {YP:sb->u2->Prop} {d:DefRec} {K:Params->Frag} {PT:eh} (hn:l.most=aS 63) (hdf:d.params.defaults=[])
  (hY:∀(w:sb) (h:u2),YP w h->(K w.params).In h) (hT:∀(w:sb) (h:u2),YP w h->h.get? PT=aS (tabObj #[])) (hnt:∀w:sb,noTabs (K w.params)=true)
  (F:∀(w:sb) (mg:Dk) (fa:eh) (h:u2),(K w.params).In h->h.Ns JG mg->mg d.name=aS (.ref fa)->
   ∃fd:hP,(∀(s:eL) (u:fC),BindsTo s fd ⟨[u],[]⟩ [("_law_script",u)])/\(∃c,CodeHd h c PT)/\∀base:u2,(K w.params).In base->base.Ns JG mg->LM.LamM mg base->FnOk l.prog w (K w.params) mg base CX0 14 fa fd ["_law_script"] (rK lpos PT (K w.params))):
  WalkO q loose XP YP l.row.toRowW d [] (λf vs=>Pn f vs):=
 LM.walk_ofT (n:=63) (k:=14) (x:="_law_script") (CX:=λ_=>CX0) (sp:=λw=>rK lpos PT (K w.params)) hn @C hdf ⟨rfl,@C,@C⟩ hY hT hnt F (λ_ _ a ns hl hS hT=>⟨a,ns,rfl,hS,hl,.inl hT,λ_=>rfl⟩) λ_ _ _ _ _ z=>z
end My
structure PySem.W.Fast:Prop where(tw10004800841953373975 tw1032966826236424046 tw10365374240376987183 tw10420342958819705385 tw10446005116283278007 tw10489217835897054475 tw10595980775467634113 tw10633142427808085857 tw10654363443129818935 tw10756078846925827147 tw10897744275215385986 tw11027107944927434432 tw11059252113905429813 tw11131080935553656725 tw11146603988044750913 tw1120335384424129252 tw11317434079169476191 tw11332930663301317022 tw1149564364893150812 tw1149900640643381378 tw11541704517029666378 tw11608873538907480637 tw11680237749068932098 tw11727753414028872447 tw11738873023463230086 tw11819519256981365058 tw11885717871574231355 tw11893226244789603868 tw11902810994930652839 tw11970484321417404172 tw11994204349185582597 tw12002172795698935774 tw12215992048118176195 tw12219366088177535520 tw12254327026818923979 tw12276335930398218420 tw12371337548681115747 tw12540949084969743477 tw12590376415642742360 tw12641443256433657156 tw12643785570508588459 tw1268528335996430747 tw12767279392623865350 tw12780340658850994175 tw12826737299338778345 tw12830756053450164605 tw12847050935532848439 tw12958640032212245260 tw1296031016223232813 tw13002329300539123363 tw13089257552757812893 tw13196986244402818759 tw13201164105784915016 tw13227448105996043695 tw13270075080020975895 tw13270659719630714514 tw13272985245971315029 tw13300310735764109835 tw13371547195951406884 tw13424731274012235523 tw13531508761978674851 tw13617273569502041019 tw13638814979309839374 tw13689610346633939402 tw13736782266533770210 tw13850697520171644630 tw13922117029266852453 tw13952756962283134535 tw13970656982877417186 tw14035054465620146274 tw14049196550069257907 tw14085299889553881288 tw14167254818133600887 tw14245249283554540495 tw14298024008544685722 tw14424688524247865494 tw14489417541146553053 tw14506479190361546371 tw14586922174610136147 tw14628025807871102322 tw14767999777422250900 tw14858884967993808851 tw14932330643498606566 tw15055370831764866967 tw15095268324743039617 tw15138988319735403666 tw15189886147176989726 tw1520873575166728498 tw1520946017935083099 tw15412459530749835306 tw15514863904921826975 tw15531277582879694516 tw15574067974643383757 tw15615682596726080584 tw15643240053333230421 tw15686688832939564117 tw15701468983091034037 tw15736602995479134041 tw15784279728720565795 tw15801354608836324440 tw15801638091555901451 tw15966676480888376953 tw16022239052360858269 tw16043121486975601858 tw16148354062875808381 tw16189106688472527754 tw16203927218782937399 tw16289563166274664834 tw16379138582575452839 tw16383637028231859738 tw1640831974397356636 tw16433731646781418355 tw16490820487348711396 tw1684190699187472899 tw16860047006071959215 tw16870864238107236292 tw16970554580991640925 tw16999587009251907368 tw16999954887267680817 tw17008761637193366617 tw17280850238477222308 tw17487674420490977654 tw17509463726671079849 tw17518339674240470428 tw1768427820120165794 tw17702593293712199574 tw17798629574447537010 tw17879341925263558218 tw17973222316294893644 tw18056274105109968027 tw18071375402651731593 tw18135878463255703531 tw18231149573973323996 tw18352924121024954577 tw18387620777020762635 tw18488933500974931 tw1866044088507595098 tw1909383744240363417 tw1972625833646195679 tw1979472723026594763 tw2153107040443329779 tw2190288046607143123 tw2259151660717660995 tw2276214968358909332 tw2292286546871083827 tw2336219180457712788 tw236466341462888145 tw2381457764905099142 tw2431869148555417407 tw2446039926272807965 tw2531087852982907526 tw2572997622259080598 tw2639169790801839061 tw2768978192509213974 tw2854226939082400327 tw2873229313337345258 tw2943547183821236974 tw294649149887251176 tw2993737106025474528 tw3103007213064648095 tw3186427491159786706 tw3241967479366942364 tw3247053545357143445 tw327550293443441558 tw3318291128317511569 tw3319599626415002327 tw3325175469437470381 tw3400724434631968275 tw346185937302125903 tw3494547520146893451 tw3500167149083383366 tw3546593601840165461 tw3595238192322306140 tw3622291344618120856 tw3648480882532286210 tw3656917875193641088 tw369938718915169174 tw3710124171620333754 tw372843984867794458 tw3734899720408795048 tw4029092845034376225 tw4045291896713686235 tw4136005103020333243 tw4273252851299694347 tw4288569998286147298 tw4298208245316272064 tw4302950537916761021 tw4346679034536002906 tw4368103737425172947 tw4390752862240222821 tw4458232345362700266 tw4497120567211409616 tw4682581044356051225 tw4720076904547437093 tw4741105491038611546 tw4769101026268731794 tw4802168598735927772 tw4812551478729365151 tw493032283984146567 tw4933069312389748531 tw4964545297001535692 tw5113582985414513407 tw5128694236048796532 tw5154792458086934789 tw5183039232918374557 tw530671240869399252 tw5420953537917823333 tw550186310184160433 tw5503145151595835225 tw5511555717784185994 tw5512505963397340130 tw5566912568264533571 tw561842484353664320 tw5634233833824739255 tw5634864140004814943 tw5647546597978464758 tw5661743207907174846 tw569464847855437474 tw5729643979588496518 tw581622748897374053 tw5824903249306119584 tw5842728844178752217 tw5869522079340804112 tw5879759041425530767 tw594559575107148032 tw6002518906113484118 tw6029941651685470369 tw6085862134945207408 tw6127261090443180616 tw6260328128707321615 tw6313266488353471307 tw6396058154931424243 tw6417560209362743574 tw6444048643418347073 tw6521744256062534107 tw6531105746452957536 tw6621557755772896776 tw6710846967678154091 tw6915493100797383814 tw7022531614961618478 tw7034568263532762858 tw7060142804311261580 tw7109308129133184463 tw717581325808061607 tw718514520874238300 tw7355664533015888192 tw7422736162206473472 tw7423492525481277228 tw7609007739415686273 tw7643221065424635287 tw7758087733077880370 tw7897143764540921037 tw7958468644054699267 tw7978517647552728415 tw802167814760012320 tw8029645968861698097 tw8038147568861534759 tw8103489858754317698 tw8196520457211464858 tw8214956588058255280 tw8226628096354338701 tw8245849051874440822 tw8267594694835520129 tw8277345092097588630 tw8291826163206733505 tw8318814972291600357 tw8376426710114848876 tw8406243840562742316 tw8564429820534072060 tw8714999179334425588 tw8899597734283657346 tw8904689156525512011 tw9007136251256437327 tw9052501043793598510 tw9074177010759137652 tw90992188176435872 tw9302200112113039596 tw9379744767650930401 tw9388239765283673081 tw9408215107305539945 tw9507760838498493121 tw9521292968102755375 tw9635002220097453537 tw9684090360254173360 tw974133709202156607 tw9758428486897748602 tw9800869385778757334 tw9804061944093302044 tw9869338310957422153:True)
open PySem PySem.W PyProof.Rows
set_option maxRecDepth 100000 in
set_option maxHeartbeats 0 in
theorem PySem.Challenge.cw_sumwires_k63_compared_and_why_holds : PySem.Challenge.rw_sumwires_k63_compared_and_why.Holds := by
 w_on;o_law;k_head;(case hw=>w_witness2)
 k_fill
 refine My.walk (l:=PySem.Challenge.rw_sumwires_k63_compared_and_why) rfl rfl (λw h Y=>PySem.W.km_in_of Y) (λw h Y=>PySem.W.km_tabs_of Y _ (fk.mpr rfl)) ?nt ?F
 case nt=>exactλw=>by kernel_rfl
 case F=>
  intro w mg fa h KX G hmg;refine' My.all_mk KX G hmg _ _ _ _ _ _ _ _ _ _ _ _ _ _ _ _ _ _ _ _ _ _ _ _ _ _ _ _ _ _ _ _ _ _ _ _ _ _ _ _ _ _ _ _ _ _ _ _ _ _ _ _ _ _ _ _ _ _ _ _ _ _ _ _ _ _ _ _ _ _ _ _ _ _ _ _ _ _ _ _ _ _ _ _ _ _ _ _ _ _ _ _ _ _ _ _ _ _ _ _ _ _ _ _ _ _ _ _ _ _ _ _ _ _ _ _ _ _ _ _ _ _ _ _ _ _ _ _ _ _ _ _ _ _ _ _ _ _ _ _ _ _ _ _ _ _ _ _ _ _ _ _ _ _ _ _ ?fM _ _ ?gX ?eK _ _ _ _ _ _ _ _ _ _ _ _ _ _ _ _ ?hdc
  any_goals ((with_reducible show _=_);k_is)
  any_goals (refine' My.FR.mk ?u ?v ?w;(case u=>k_is);(case v=>k_is);(case w=>k_is))
  (case hdc=>kernel_rfl)
  (case fM=>k_exc)
  (case gX=>k_exc)
  (case eK=>k_exc)
