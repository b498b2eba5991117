import PyProof.Rows.All
import Wide.FinOn
import Lean
import KE.KDictOf
import KE.KFromBytes
import KE.KIsAll
import KE.KItem
import KE.KItemsList
import KE.KRevIter
import KE.KSortKey
import KE.KLam
import KE.KNestM
import PySem.Challenge.RW_sumwires_k62_whole_alike_ones_have_one_l
section
variable {α β γ δ ε ζ η θ ι : Sort _}{G:Prop}
theorem exx2{P:α→β→Prop}(h:∃a b,P a b)(k:∀a b,P a b→G):G:=h.elim fun a h=>Exists.elim h (k a)
theorem eyy2{P:α→β→Prop}(a:α)(b:β)(h:P a b):∃a b,P a b:=⟨a,b,h⟩
theorem exx3{P:α→β→γ→Prop}(h:∃a b c,P a b c)(k:∀a b c,P a b c→G):G:=h.elim fun a h=>exx2 h (k a)
theorem eyy3{P:α→β→γ→Prop}(a:α)(b:β)(c:γ)(h:P a b c):∃a b c,P a b c:=⟨a,b,c,h⟩
theorem exx4{P:α→β→γ→δ→Prop}(h:∃a b c d,P a b c d)(k:∀a b c d,P a b c d→G):G:=h.elim fun a h=>exx3 h (k a)
theorem eyy4{P:α→β→γ→δ→Prop}(a:α)(b:β)(c:γ)(d:δ)(h:P a b c d):∃a b c d,P a b c d:=⟨a,b,c,d,h⟩
theorem exx5{P:α→β→γ→δ→ε→Prop}(h:∃a b c d e,P a b c d e)(k:∀a b c d e,P a b c d e→G):G:=h.elim fun a h=>exx4 h (k a)
theorem eyy5{P:α→β→γ→δ→ε→Prop}(a:α)(b:β)(c:γ)(d:δ)(e:ε)(h:P a b c d e):∃a b c d e,P a b c d e:=⟨a,b,c,d,e,h⟩
theorem exx6{P:α→β→γ→δ→ε→ζ→Prop}(h:∃a b c d e f,P a b c d e f)(k:∀a b c d e f,P a b c d e f→G):G:=h.elim fun a h=>exx5 h (k a)
theorem eyy6{P:α→β→γ→δ→ε→ζ→Prop}(a:α)(b:β)(c:γ)(d:δ)(e:ε)(f:ζ)(h:P a b c d e f):∃a b c d e f,P a b c d e f:=⟨a,b,c,d,e,f,h⟩
theorem exx7{P:α→β→γ→δ→ε→ζ→η→Prop}(h:∃a b c d e f g,P a b c d e f g)(k:∀a b c d e f g,P a b c d e f g→G):G:=h.elim fun a h=>exx6 h (k a)
theorem eyy7{P:α→β→γ→δ→ε→ζ→η→Prop}(a:α)(b:β)(c:γ)(d:δ)(e:ε)(f:ζ)(g:η)(h:P a b c d e f g):∃a b c d e f g,P a b c d e f g:=⟨a,b,c,d,e,f,g,h⟩
theorem exx8{P:α→β→γ→δ→ε→ζ→η→θ→Prop}(h:∃a b c d e f g i,P a b c d e f g i)(k:∀a b c d e f g i,P a b c d e f g i→G):G:=h.elim fun a h=>exx7 h (k a)
theorem eyy8{P:α→β→γ→δ→ε→ζ→η→θ→Prop}(a:α)(b:β)(c:γ)(d:δ)(e:ε)(f:ζ)(g:η)(i:θ)(h:P a b c d e f g i):∃a b c d e f g i,P a b c d e f g i:=⟨a,b,c,d,e,f,g,i,h⟩
theorem exx9{P:α→β→γ→δ→ε→ζ→η→θ→ι→Prop}(h:∃a b c d e f g i j,P a b c d e f g i j)(k:∀a b c d e f g i j,P a b c d e f g i j→G):G:=h.elim fun a h=>exx8 h (k a)
theorem eyy9{P:α→β→γ→δ→ε→ζ→η→θ→ι→Prop}(a:α)(b:β)(c:γ)(d:δ)(e:ε)(f:ζ)(g:η)(i:θ)(j:ι)(h:P a b c d e f g i j):∃a b c d e f g i j,P a b c d e f g i j:=⟨a,b,c,d,e,f,g,i,j,h⟩
end
section
variable {G A B C D E F H I J K L M:Prop}
theorem axx3(h:A∧B∧C)(k:A→B→C→G):G:=k h.1 h.2.1 h.2.2
theorem ayy3(a:A)(b:B)(c:C):A∧B∧C:=⟨a,b,c⟩
theorem axx4(h:A∧B∧C∧D)(k:A→B→C→D→G):G:=axx3 h.2 (k h.1)
theorem ayy4(a:A)(b:B)(c:C)(d:D):A∧B∧C∧D:=⟨a,b,c,d⟩
theorem axx5(h:A∧B∧C∧D∧E)(k:A→B→C→D→E→G):G:=axx4 h.2 (k h.1)
theorem ayy5(a:A)(b:B)(c:C)(d:D)(e:E):A∧B∧C∧D∧E:=⟨a,b,c,d,e⟩
theorem axx6(h:A∧B∧C∧D∧E∧F)(k:A→B→C→D→E→F→G):G:=axx5 h.2 (k h.1)
theorem ayy6(a:A)(b:B)(c:C)(d:D)(e:E)(f:F):A∧B∧C∧D∧E∧F:=⟨a,b,c,d,e,f⟩
theorem axx7(h:A∧B∧C∧D∧E∧F∧H)(k:A→B→C→D→E→F→H→G):G:=axx6 h.2 (k h.1)
theorem ayy7(a:A)(b:B)(c:C)(d:D)(e:E)(f:F)(g:H):A∧B∧C∧D∧E∧F∧H:=⟨a,b,c,d,e,f,g⟩
theorem axx8(h:A∧B∧C∧D∧E∧F∧H∧I)(k:A→B→C→D→E→F→H→I→G):G:=axx7 h.2 (k h.1)
theorem ayy8(a:A)(b:B)(c:C)(d:D)(e:E)(f:F)(g:H)(i:I):A∧B∧C∧D∧E∧F∧H∧I:=⟨a,b,c,d,e,f,g,i⟩
theorem axx9(h:A∧B∧C∧D∧E∧F∧H∧I∧J)(k:A→B→C→D→E→F→H→I→J→G):G:=axx8 h.2 (k h.1)
theorem ayy9(a:A)(b:B)(c:C)(d:D)(e:E)(f:F)(g:H)(i:I)(j:J):A∧B∧C∧D∧E∧F∧H∧I∧J:=⟨a,b,c,d,e,f,g,i,j⟩
theorem axx10(h:A∧B∧C∧D∧E∧F∧H∧I∧J∧K)(k:A→B→C→D→E→F→H→I→J→K→G):G:=axx9 h.2 (k h.1)
theorem ayy10(a:A)(b:B)(c:C)(d:D)(e:E)(f:F)(g:H)(i:I)(j:J)(l:K):A∧B∧C∧D∧E∧F∧H∧I∧J∧K:=⟨a,b,c,d,e,f,g,i,j,l⟩
theorem axx11(h:A∧B∧C∧D∧E∧F∧H∧I∧J∧K∧L)(k:A→B→C→D→E→F→H→I→J→K→L→G):G:=axx10 h.2 (k h.1)
theorem ayy11(a:A)(b:B)(c:C)(d:D)(e:E)(f:F)(g:H)(i:I)(j:J)(l:K)(m:L):A∧B∧C∧D∧E∧F∧H∧I∧J∧K∧L:=⟨a,b,c,d,e,f,g,i,j,l,m⟩
theorem axx12(h:A∧B∧C∧D∧E∧F∧H∧I∧J∧K∧L∧M)(k:A→B→C→D→E→F→H→I→J→K→L→M→G):G:=axx11 h.2 (k h.1)
theorem ayy12(a:A)(b:B)(c:C)(d:D)(e:E)(f:F)(g:H)(i:I)(j:J)(l:K)(m:L)(n:M):A∧B∧C∧D∧E∧F∧H∧I∧J∧K∧L∧M:=⟨a,b,c,d,e,f,g,i,j,l,m,n⟩
end
open Lean in
local macro_rules
  | `(tactic| obtain ⟨$ps,*⟩ := $t:term) => do
    let ps := ps.getElems
    let n := ps.size
    if n < 3 then Macro.throwUnsupported
    -- what a pattern is bound to, and what is done behind
    let one (i : Nat) (p : TSyntax `Lean.Parser.Tactic.rcasesPatLo) : MacroM (TSyntax `term × Option (TSyntax `tactic)) := do
      let z := mkIdent (Name.mkSimple s!"zz{i}")
      match p with
      | `(Lean.Parser.Tactic.rcasesPatLo| $x:ident) => if x.getId == `rfl then return (z, some (← `(tactic| subst $z:term))) else return (x, none)
      | `(Lean.Parser.Tactic.rcasesPatLo| _) => return (← `(_), none)
      | `(Lean.Parser.Tactic.rcasesPatLo| $q:rcasesPatMed) => return (z, some (← `(tactic| obtain $q:rcasesPatMed := $z:term)))
      | _ => Macro.throwUnsupported
    let mut alts : Array (TSyntax ``Lean.Parser.Tactic.tacticSeq) := #[]
    let clr : TSyntax `tactic ← if t.raw.isIdent then `(tactic| try clear $(⟨t.raw⟩):ident) else `(tactic| skip)
    let w := mkIdent `ww
    for ex in [true, false] do
      for k in [0:n] do
        let i := if ex then n - 1 - k else n - k
        if i < 1 || i > (if ex then 9 else 12) || (!ex && i < 3) then continue
        let f := mkIdent (if ex then if i == 1 then `Exists.elim else Name.mkSimple s!"exx{i}" else Name.mkSimple s!"axx{i}")
        let m := if ex then i else if i == n then i else i - 1
        let mut bs : Array (TSyntax `term) := #[]
        let mut post : Array (TSyntax `tactic) := #[]
        for j in [0:m] do
          let (b, q) ← one j ps[j]!
          bs := bs.push b
          if let some q := q then post := post.push q
        if m < n then
          if m + 1 == n then
            let (b, q) ← one m ps[m]!
            bs := bs.push b
            if let some q := q then post := post.push q
          else
            bs := bs.push w
            let rest := ps.extract m n
            post := post.push (← `(tactic| obtain ⟨$rest,*⟩ := $w:term))
        alts := alts.push (← `(Lean.Parser.Tactic.tacticSeq| refine $f $t ?_; $clr:tactic; intro $bs*; $post;*))
    alts := alts.push (← `(Lean.Parser.Tactic.tacticSeq| rcases $t:term with ⟨$ps,*⟩))
    `(tactic| first $[| $alts]*)
open Lean in
local macro_rules
  | `(tactic| rintro $rs:rintroPat*) => do
    let mut out : Array (TSyntax `tactic) := #[]
    let mut any := false
    for r in rs do
      match r with
      | `(rintroPat| $x:ident) => if x.getId == `rfl then out := out.push (← `(tactic| (intro zz; subst zz))) else out := out.push (← `(tactic| intro $x:ident))
      | `(rintroPat| _) => out := out.push (← `(tactic| intro _))
      | `(rintroPat| ⟨$ps,*⟩) =>
        if ps.getElems.size ≥ 3 then any := true
        out := out.push (← `(tactic| (intro zz; obtain ⟨$ps,*⟩ := zz)))
      | _ => Macro.throwUnsupported
    if !any then Macro.throwUnsupported
    `(tactic| ($[$out:tactic];*))
open Lean in
local macro_rules
  | `(tactic| refine ⟨$xs,*⟩) => do
    let xs := xs.getElems
    let n := xs.size
    if n < 4 then Macro.throwUnsupported
    let mut alts : Array (TSyntax ``Lean.Parser.Tactic.tacticSeq) := #[]
    for k in [0:n] do
      let i := n - 1 - k
      if i > 9 then continue
      let ws := xs.extract 0 i
      let rs := xs.extract i n
      let m := n - i
      let cs : List (TSyntax `term) ← if m == 1 then pure [rs[0]!] else if m == 2 || m > 12 then pure [← `(⟨$rs,*⟩)] else pure [← `($(mkIdent (Name.mkSimple s!"ayy{m}")) $rs*), ← `(⟨$rs,*⟩)]
      for c in cs do
        if i == 0 then
          if m > 2 then alts := alts.push (← `(Lean.Parser.Tactic.tacticSeq| refine ($c)))
        else if i == 1 then alts := alts.push (← `(Lean.Parser.Tactic.tacticSeq| refine Exists.intro $(ws[0]!) $c))
        else alts := alts.push (← `(Lean.Parser.Tactic.tacticSeq| refine $(mkIdent (Name.mkSimple s!"eyy{i}")) $ws* $c))
    alts := alts.push (← `(Lean.Parser.Tactic.tacticSeq| refine (⟨$xs,*⟩)))
    `(tactic| first $[| $alts]*)
  | `(tactic| exact ⟨$xs,*⟩) => do
    let xs := xs.getElems
    if xs.size < 4 then Macro.throwUnsupported
    `(tactic| (refine ⟨$xs,*⟩))
open Option renaming some→aT,none→eH,map_eq_some_iff→JR,map_some→LJ,isSome_map→Mr,getD_some→MP,getD_none→MQ
open PySem.W renaming Frag→a',findIn→zP,fnOf→Iw,keepIn→Iy,mg_of→IF,emptyDict→IR,mg_none_of→IZ,instObj→J6,mroIn→J7,specialIn→Jw,codeIn→JC,callWith_K→Kh,plainGet→KD,methodCall_KW→KM,lookIn→KW,plainGet_of→L4,excIn→L6,isFn→Lm,methodObj→Ln,hasDictIn→Lo,handedIn→Lq,takesIn→LC,takerIn→LD,cellsFrom_some→Mh,OpenLaw→MG,plainOver→MX,readsIn→Nc,makesIn→Nd,isClsIn→Nf,findCls→Ng,typeIn→Nq,nsIn→NW,kla_obj→Oo
open List renaming getD_eq_getElem?_getD→bx,getElem?_eq_some_iff→b',getElem?_eq_getElem→cP,length_map→cY,mem_of_getElem?→eO,length_append→eZ,getElem?_map→fk,mem_singleton→fy,map_append→hu,mem_append_right→hH,range→ko,getElem?_append_left→kA,mem_append→lx,replicate→lA,getElem?_append_right→lB,Nodup→mu,mem_append_left→n',length_range→pT,mem_cons_of_mem→p',mem_map→qE,size_toArray→qQ,mem_cons_self→Ha,mem_cons→Hn,length_take→Ho,mem_iff_getElem→Ht,length_singleton→Hu,take_length→Hw,getElem?_range→HZ,getElem?_eq_none→Ib,mem_range→Iq,length_cons→Ir,length_replicate→Iu,map_map→Iv,map_cons→IE,take_of_length_le→IW,getElem?_take_of_lt→IX,replicate_succ→J4,map_congr_left→J5,lookup_cons→Jb,range_succ→Jf,length_drop→Jq,getElem_mem→Jr,getElem?_of_mem→Jz,getElem?_drop→JB,getElem?_zip_eq_some→JK,mem_iff_getElem?→JM,map_singleton→JP,mem_filter→JV,forIn_cons→JW,foldl_append→K0,find?_cons→K7,append_nil→K8,lookup→K9,filter_append→Kb,all_eq_true→Kd,take_add_one→Kp,getElem_take→Kq,flatten_cons→Kr,ext_getElem?→Ks,length→KC,eq_of_mem_replicate→KH,getElem?_set_self→KR,nodup_cons→L1,replicate_succ'→L7,mem_of_mem_take→L8,getElem_map→Lk,filterMap_cons→Ll,getElem?_take→Lp,of_mem_zip→Lu,length_zip→Lv,length_set→Lw,append_assoc→Lx,map_take→LI,map_drop→LK,take_append_of_le_length→LU,eq_nil_of_length_eq_zero→LV,map_id→LW,forIn_nil→LX,pairwise_iff_getElem→Mj,any_cons→Mo,pairwise_singleton→MC,getElem?_replicate→MD,zipWith→MH,range_succ_eq_map→MJ,getElem_replicate→MK,filter_eq_nil_iff→ML,map_nil→MU,reverse_reverse→N0,pairwise_append→N1,getElem?_set_ne→N3,foldl→Na,count→Nb,mem_filterMap→Ni,reverse_cons→Nw,nodup_append→Nx,nodup_range→NL,getElem_inj→NM,ext_getElem→NO,nil_append→NZ,length_nil→N',foldl_cons→O0,map→O2,take_succ→O7,take_left→O8,sum_cons→Oj
open PySem renaming wpAny_bind→dt,Addr→ee,Shared→f',Value→hG,wpAny_pure→hP,wpAny→hQ,sizeLine→i',FuncData→kv,model→lT,sizeLine_eq→mc,starEach→oD,Program→px,mem_of_lookup→wh,World→wq,Heap→zx,Around→Hg,Expr→Hi,Str→Hk,Scope→Hy,mainGlobals→Ia,Value→Im,wpAny_field→IB,boot_len→IC,wpAny_mono→IY,Spec→J9,wpAny_pyIter_enum→Jh,wpAny_passesOwn→JF,wpAny_truthy_bool→JJ,Stmt→JQ,wpAny_holding→JX,codeAny_builtin→JY,wpAny_Call_Name_kw→JZ,wpAny_callSpecial?_slot→K1,wpAny_newObj_type→K4,wpAny_call_entry→Kf,wpAny_loadPart'→Kw,wpAny_setField→KI,wpAny_seqItems→KJ,wpAny_pyIter_tuple→KL,wpAny_newList→KU,wpAny_comprehension_free→KZ,codeAny_mono→La,wpAny_updateSeq→Li,wpAny_execs_nil→Lj,wpAny_standAt→LO,tupleKind_room_in1→LR,Addr→M0,wpAny_assign_Name→M3,wpAny_execs_cons→Mg,Obj→Mm,Str→Mq,wpAny_specialOf→Mw,Within→Mz,Shared→MA,wpAny_call→MN,call_meets→MO,wpAny_attempt→N4,rangeSize_one→N5,call→N7,call_range_1→Nk,wpAny_nextOf_list_item→Nl,codeAny_compStart_list→Np,wpAny_isTrue_Compare1→NF,exec_Assign_Name_used→NG,builtinLookup_eq_fast→NH,wpAny_of_eq→NR,wpAny_newFunctionEnv→NU,call_enumerate_list→O3,wpAny_rule→Oa,wpAny_load→Ob,wpAny_Name→Oc,typeIs_int→Od,wpAny_pyIter_list→Oq
open _root_ renaming List→ef,decide_eq_false→eP,decide_eq_true→gB,absurd→hE,if_neg→nk,if_pos→pe,Option→ry,beq_eq_false_iff_ne→vr,congrArg→Hm,beq_self_eq_true→HV,Bool→IA,String→IU,of_decide_eq_true→Ji,decide_eq_true_eq→Jj,beq_iff_eq→L9,Array→LZ,if_false→L',if_true→MF
open PySem.Heap renaming get?_push_of_some→ek,lt_size→gA,get?_push_size→la,get?_update_other→I9,size_push→Ij,get?_none_of_le→IS,get?_update_self→J2,SameBut→Kj
open Nat renaming lt_of_lt_of_le→eu,pow_le_pow_right→hD,eq_of_testBit_eq→hJ,two_pow_pos→lz,testBit_two_pow→nq,le_refl→ov,testBit_lt_two_pow→oP,pow_lt_pow_right→ra,testBit_xor→vl,shiftRight_eq_div_pow→zt,zero_testBit→z',lt_of_le_of_lt→Hf,ne_of_lt→Hl,testBit_two_pow_self→Hx,testBit_and→HY,ne_of_gt→Ig,le_trans→Ih,testBit_shiftLeft→Ii,lt_succ_self→Il,xor_assoc→Ip,lt_pow_two_of_testBit→IG,xor_zero→IJ,and_comm→IM,lt_irrefl→IV,zero_le→J1,mod_two_eq_zero_or_one→J3,and_xor_distrib_right→J8,shiftLeft_eq→Jc,lt_succ_of_lt→Jg,zero_and→Jl,xor_self→Jm,le_of_lt→Jn,not_lt_zero→Jp,and_le_left→Js,testBit_shiftRight→Ju,lt_log2_self→Jv,and_zero→Jy,lt_trichotomy→JA,le_succ→JE,sub_self→JH,xor_lt_two_pow→JI,le_add_right→JL,zero_xor→JO,mul_le_mul→JU,and_two_pow_sub_one_eq_mod→K5,not_lt→K6,pow_succ→Kc,testBit_div_two→Kk,and_le_right→Kt,xor_comm→KA,le_succ_of_le→KG,exists_eq_add_of_le→KN,zero_add→KO,testBit_or→L0,mul_le_mul_right→Lb,div_lt_of_lt_mul→Lc,mul_comm→Lf,lt_trans→Lg,add_comm→Lh,succ_mul→LG,min_self→LH,le_of_eq→LL,le_of_not_lt→LS,min_eq_left→M4,div_add_mod→M5,testBit_two_pow_sub_one→Mb,pow_add→Me,zero_mul→Mn,one_mul→MT,log2_lt→MV,add_mul→MW,le_of_ble_eq_true→MZ,div_lt_iff_lt_mul→M',shiftRight_zero→Nh,zero_shiftLeft→Nr,pos_of_ne_zero→Nu,and_one_is_mod→Nv,mod_lt→Nz,or_lt_two_pow→NK,testBit_zero→NX,log2_self_le→NY,strongRecOn→O6
open Bool renaming false_ne_true→gn,false_and→oT,true_and→Hj,and_false→ID,and_eq_true→IK,xor_false→IQ,eq_iff_iff→Ke,false_xor→Ku,false_eq_true→Kv,or_false→KF,not_eq_true'→Ly,false_or→Ol,and_true→Om
open Option.some renaming inj→iv
open Int renaming toNat_natCast→oe,eq_ofNat_of_zero_le→Jk,zero_add→Jt,emod_lt_of_pos→JS,toNat→JT,emod_nonneg→Kg,fdiv_eq_ediv_of_nonneg→Ky,natCast_pos→L3,natCast_nonneg→Ls,fmod_eq_emod_of_nonneg→Ml,natAbs_natCast→Ny
open PySem.Value renaming ref→sb,none→Ic,type→Ik,int→L5,str→Mp,bool→N6,isStrOf→O4,isInt→Ot,float→Ou,bytes→Ov
open PySem.Builtin.Int renaming intBits→vu
open Ne renaming symm→xn
open PySem.Obj renaming mapSeq→He,mapFields→JN,data_mapFields→Lr,isFreed_of_fields→MY,cls_mapFields→NJ
open PyProof.Rows renaming callWith_type1→Hh,boot_isinstance→IL,boot_list→Jd,boot_tuple→Kl,listUpdate_at→LP,get?_update_seq→Mx,Call_→N9,subscriptTail_builtinR→Nn,entry_proto_collect'→NV,size_push'→Oe,boot_range→Of,Subscript_→Og
open PySem.PassesOwn renaming never→Hq
open False renaming elim→Hr
open PySem.NameKind renaming free→Hs,cell→HW
open PySem.Heap.SameBut renaming update→Hv
open PySem.F renaming type_int_bit_length→Hz,slot_int_bit_length→HR,plainAttrs_list→HU,excBase_ValueError→HX,plainAttrs_int→Iz,type_list_append→IH,slot_list_append→II,type_list_extend→M7,slot_list_extend→M8
open PySem.Builtin.SmallTypes renaming nextOf→HS,ownedTupleIsFree→Kz
open Array renaming length_toList→Ie,getElem?_eq_some_iff→JG,getElem?_toList→K',getElem?_eq_getElem→Md,forIn_toList→N8,size_push→NQ,size_zip→O1,toList→On
open Sum renaming inl→Io,inr→LB
open ForInStep renaming yield→IP
open PySem.Builtin.List renaming listExtendWith→IT,listTooLong→JD,listSameRef→Lz,listUpdate→LF,listItems→LQ
open PySem.Builtin renaming bitNot→J0,bitAnd→Je,bitXor→KY,bitOr→M6
open Classical renaming propDecidable→Ja
open PySem.WalksT renaming enumerateD→Jx,zip2→Oh
open PySem.Around renaming under_plainId→K3,under→Ms,frames_deeper→MM
open Nat.succ renaming inj→Ka
open PySem.Builtin.Range renaming rangeSize→Ki,small→LY
open PySem.Data renaming cell→Km,dict→ND
open PySem.Str renaming ofString→Kn,empty→NS
open PySem.Calls renaming spliced_cons→Ko,spliced_nil→KB,Name_function_global→M9,callWith_builtin→ME,evalArgs_plain→MR
open True renaming intro→KQ
open PySem.EntryCells renaming newEntry→KS
open Or renaming inr→Ld,inl→Le
open PySem.Paired renaming length→Ma,snoc→Oi
open List.Pairwise renaming nil→Mc
open Except renaming ok→Mf,error→O9
open PyProof renaming noPylong_small→Mi
open PySem.SeqAt.EqAt renaming str_int→Mt,int_str→Mu,same→NC,of_refs→Oy
open PySem.IsRange renaming new→MB
open PySem.Code renaming isFrame→MI,quiet_builtin→Nj,builtin→Oz
open Array.Perm renaming refl→MS
open Iff renaming rfl→NA
open PySem.Expr renaming Call→NB
open And renaming intro→NT
open Sum.inl renaming inj→O5
open PySem.W.WShape renaming has→Os
open PyProof.Rows.SortSt renaming mk'→Ox
abbrev A':=ef (Nat×Nat)
abbrev C':=ef Mq
abbrev D7:=ef Nat
abbrev D':=Im->MA->Prop
abbrev E':=ef (M0×PySem.Obj)
abbrev F':=ef Im
abbrev G':=Mq->ry Im
abbrev HG:=LZ Im
abbrev HH:=LZ (ry Im)
abbrev HI:=Unit->MA->Prop
abbrev HJ:=ef M0
abbrev HK:=ef Int
abbrev HL:=ry M0
abbrev HM:=PySem.Result->MA->Prop
abbrev HN:=ef (Mq×M0)
abbrev HP:=ef (Mq×Im)
abbrev HQ:=ry Im
set_option Elab.async false
set_option hygiene false in
local macro_rules
|`(@A)=>`((by omega))
|`(@D)=>`((by walk_at "o"))
|`(@C)=>`((by decide))
|`(@E)=>`((by simp))
set_option hygiene false in
local macro_rules
|`(!j $a $b)=>`((aa (pv $a) $b))
local macro_rules | `(tactic| lia) => `(tactic| walk_at "l2")
set_option linter.all false
set_option maxRecDepth 100000
namespace L2
open PySem PySem.Spec PyProof.Rows
noncomputable abbrev Key:=Sum Int Hk
noncomputable def sH:Key->hG->IA
 | .inl k,v=>Ot k v
 | .inr x,v=>O4 x v
noncomputable def keyH (w:wq):Key->Int
 | .inl k=>hashInt k
 | .inr x=>hashStr w x
theorem cb:∀{k:Key} {v:hG},sH k v=true->(∃i t,k=Io i/\v=L5 i t)∨(∃x t,k=LB x/\v=Mp x t)
 | .inl i,v,h=>by
   obtain⟨t,e⟩:=Value.isInt_shape (k:=i) (v:=v) h;exact .inl ⟨i,t,rfl,e⟩
 | .inr x,v,h=>by
   obtain⟨t,e⟩:=Value.isStrOf_shape (x:=x) (v:=v) h;exact .inr ⟨x,t,rfl,e⟩
theorem yQ (i:Int) (t:Tok):sH (.inl i) (.int i t)=true:=by simp[sH,Ot]
theorem yP (x:Hk) (t:Tok):sH (.inr x) (.str x t)=true:=by simp[sH,O4]
theorem FF (a b:Int):decide ((Io a:Key)=Io b)=(a == b):=by
 by_cases e:a=b
 ·subst e;simp
 ·have h:¬(Io a:Key)=Io b:=λq=>e (O5 q);rw[eP h];exact(vr.mpr e).symm
theorem FC (a b:Hk):decide ((LB a:Key)=LB b)=decide (a=b):=by
 by_cases e:a=b
 ·subst e;simp
 ·have h:¬(LB a:Key)=LB b:=λq=>e (Sum.inr.inj q);rw[eP h,eP e]
theorem FE (a:Int) (b:Hk):decide ((Io a:Key)=LB b)=false:=eP (λq=>nomatch q)
theorem FD (a:Hk) (b:Int):decide ((LB a:Key)=Io b)=false:=eP (λq=>nomatch q)
noncomputable def c8 (prog:px) (w:wq):PySem.KeyKind prog w Key where
 is:=sH
 hash:=keyH w
 inj:=λv a b ha hb=>by
  rcases cb ha with ⟨i,t,rfl,rfl⟩ | ⟨x,t,rfl,rfl⟩
  ·rcases cb hb with ⟨j,u,rfl,e⟩ | ⟨y,u,rfl,e⟩
   ·injection e with e1 _;rw[e1]
   ·exact nomatch e
  ·rcases cb hb with ⟨j,u,rfl,e⟩ | ⟨y,u,rfl,e⟩
   ·exact nomatch e
   ·injection e with e1 _;rw[e1]
 byValue:=λk v h=>by
  rcases cb h with ⟨i,t,rfl,rfl⟩ | ⟨x,t,rfl,rfl⟩<;>rfl
 pyHash:=λG h=>by
  rcases cb G with ⟨i,t,rfl,rfl⟩ | ⟨x,t,rfl,rfl⟩
  ·exact wpAny_pyHash_int h
  ·exact wpAny_pyHash_str h
 eqBool:=fun β G h=>by
  rcases cb β with ⟨i,t,rfl,rfl⟩ | ⟨x,t,rfl,rfl⟩
  ·rcases cb G with ⟨j,u,rfl,rfl⟩ | ⟨y,u,rfl,rfl⟩
   ·rw[FF] at h;exact wpAny_eqBool_int h
   ·rw[FE] at h;exact Mu i t y u _ _ _ _ h
  ·rcases cb G with ⟨j,u,rfl,rfl⟩ | ⟨y,u,rfl,rfl⟩
   ·rw[FD] at h;exact Mt x t j u _ _ _ _ h
   ·rw[FC] at h;exact wpAny_eqBool_str h
 «strs»:=λk x t v h=>by
  rcases cb h with ⟨i,u,rfl,e⟩ | ⟨y,u,rfl,e⟩
  ·exact nomatch e
  ·injection e with e1 _
   subst e1
   cases v<;>rfl
theorem uy (prog:px) (w:wq) (i:Int) (t:Tok):(c8 prog w).is (.inl i) (.int i t)=true:=yQ i t
theorem ux (prog:px) (w:wq) (x:Hk) (t:Tok):(c8 prog w).is (.inr x) (.str x t)=true:=yP x t
inductive V where
 | non | bl (b:IA) | int (i:Int) | str (x:Hk) | byt (b:LZ UInt8) | flt (b:UInt64) | ref (a:ee) | ty (n:IU)
 deriving DecidableEq
noncomputable def RelV:V->hG->Prop
 | .non,u=>u=Ic
 | .bl b,u=>u=N6 b
 | .int i,u=>∃t,u=L5 i t
 | .str x,u=>∃t,u=Mp x t
 | .byt b,u=>∃t,u=Ov b t
 | .flt b,u=>∃t,u=Ou b t
 | .ref a,u=>u=sb a
 | .ty n,u=>u=Ik n
noncomputable abbrev Vals:ef V->F'->Prop:=Paired RelV
theorem Vals.length {xs:ef V} {us:F'} (r:Vals xs us):xs.length=us.length:=Ma r
theorem Vals.get:∀{xs:ef V} {us:F'} {i:Nat} {x:V},Vals xs us->xs[i]? =aT x->∃u,us[i]? =aT u/\RelV x u
 | _,_,_,_,.nil,e=>by simp at e
 | _,_,0,_,.cons r _,e=>by simp at e;subst e;exact⟨_,rfl,r⟩
 | _,_,i + 1,x,.cons _ t,e=>by
   obtain⟨u,h1,h2⟩:=Vals.get (i:=i) (x:=x) t (by simpa using e);exact⟨u,by simpa using h1,h2⟩
theorem Vals.append:∀{xs ys:ef V} {us ws:F'},Vals xs us->Vals ys ws->Vals (xs++ys) (us++ws)
 | _,_,_,_,.nil,s=>s
 | _,_,_,_,.cons r t,s=> .cons r (Vals.append t s)
theorem Vals.take:∀{xs:ef V} {us:F'} (n:Nat),Vals xs us->Vals (xs.take n) (us.take n)
 | _,_,0,_=> .nil
 | _,_,_ + 1,.nil=> .nil
 | _,_,n + 1,.cons r t=> .cons r (Vals.take n t)
theorem Vals.drop:∀{xs:ef V} {us:F'} (n:Nat),Vals xs us->Vals (xs.drop n) (us.drop n)
 | _,_,0,r=>r
 | _,_,_ + 1,.nil=> .nil
 | _,_,n + 1,.cons _ t=>Vals.drop n t
noncomputable def RelO:ry V->HQ->Prop
 | some v,aT u=>RelV v u
 | none,eH=>True
 | _,_=>False
noncomputable def KV {κ:Type}:ef (κ×V)->ef (κ×hG)->Prop:=Paired λ(p:κ×V) (q:κ×hG)=>p.1=q.1/\RelV p.2 q.2
noncomputable def kV:Key->V
 | .inl i=> .int i
 | .inr x=> .str x
inductive HO where
 | lst (xs:ef V)
 | tup (xs:ef V)
 | dK (kvs:ef (Key×V)) | dT (kvs:ef (ef Key×V))
 | set (S:Int->IA) (n:Nat)
 | ins (C dx:ee) (fs:ef (Hk×V))
 | own (x:ee)
 | xd (fs:ef (Hk×V))
 | met (f x:ee)
 | rng (lo hi:Int)
 | frz (o:Mm) (u:HO)
 | tbl (ps:HG)
 | ext (φ:zx->Prop)
noncomputable abbrev Hp:=ee->ry HO
noncomputable def upd (H:Hp) (a:ee) (o:HO):Hp:=λb=>if b=a then aT o else H b
theorem aJ {H:Hp} {a:ee} {o:HO}:upd H a o a=aT o:=by unfold upd;rw[pe rfl]
theorem aC {H:Hp} {a b:ee} {o:HO} (h:b≠a):upd H a o b=H b:=by unfold upd;rw[nk h]
theorem ie {H:Hp} {a b:ee} {o u:HO} (h:H a=aT o) (h':H b=aT u) (d:o≠u):a≠b:=by
 intro e;subst e;rw[h] at h';exact d (iv h')
theorem au {H:Hp} {a b:ee} {o:HO} (h:H a=aT o) (h':H b=eH):a≠b:=by
 intro e;subst e;rw[h] at h';cases h'
section
variable (P:px) (w:wq)
noncomputable def eR (H:Hp) (h:zx) (a:ee):HO->Prop
 | .lst xs=>xs.length<=i'/\∃(its:F') (n:Nat),Vals xs its/\h.get? a=aT {cls:= .type "list",data:= .seq its.toArray n}
 | .tup xs=>xs.length<=i'/\∃its:F',Vals xs its/\IsTup h a its.toArray
 | .dK kvs=>kvs.length<=i'/\(a == sysModules)=false/\∃vs,KV kvs vs/\h.DictOf (c8 P w) a vs
 | .dT kvs=>kvs.length<=i'/\(a == sysModules)=false/\∃xs:ef (ef Key×ee×hG),
   Paired (λ(p:ef Key×V) (q:ef Key×ee×hG)=>p.1=q.1/\H q.2.1=aT (.tup (p.1.map kV))/\RelV p.2 q.2.2) kvs xs/\
   ∃o es ep,h.get? a=aT o/\o.ExactDict/\o.data= .dict es ep/\es.toList=xs.map (entryOfKey (tupleKind (c8 P w)))/\(xs.map (·.1)).Nodup
 | .set S n=>h.SetOf (intKind P w) a S n
 | .ins C dx fs=>H dx=aT (.own a)/\fs.length<=1000/\dx≠a/\h.get? a=aT (J6 C dx)/\
   ∃mA,h.Ns1 dx mA/\(∀f,RelO (fs.lookup f) (mA f))/\Mz mA (fs.map (·.1))
 | .own _=>∃o,h.get? a=aT o
 | .xd fs=>∃mA,h.Ns1 a mA/\∀f,RelO (fs.lookup f) (mA f)
 | .rng lo hi=>∃t u v,h.get? a=aT {cls:= .type "range",data:= .fields #[.int lo t,.int hi u,.int 1 v]}
 | .frz o u=>h.get? a=aT o/\eR H h a u
 | .tbl ps=>h.get? a=aT {cls:= .none,data:= .fields ps}
 | .met f x=>h.get? a=aT (Ln (.ref f) (.ref x))
 | .ext φ=>φ h/\(∃o,h.get? a=aT o)/\∀h1 h2:zx,φ h1->(∀o,h1.get? a=aT o->h2.get? a=aT o)->φ h2
def HOk (H:Hp) (h:zx):Prop:=∀a o,H a=aT o->eR P w H h a o
end
section
variable {P:px} {w:wq} {H H':Hp} {h h':zx} {a:ee} {o:HO}
theorem eR.lt (x:eR P w H h a o):a < h.objs.size:=by
 cases o with
 | lst xs=>obtain⟨_,_,_,_,e⟩:=x;exact gA e
 | tup xs=>obtain⟨_,_,_,p⟩:=x;exact p.lt
 | dK kvs=>obtain⟨_,_,_,_,o,_,_,e,_⟩:=x;exact gA e
 | dT kvs=>obtain⟨_,_,_,_,o,_,_,e,_⟩:=x;exact gA e
 | set S n=>obtain⟨o,_,_,_,e,_⟩:=x;exact gA e
 | ins C dx fs=>obtain⟨_,_,_,e,_⟩:=x;exact gA e
 | own y=>obtain⟨_,e⟩:=x;exact gA e
 | xd fs=>obtain⟨_,⟨_,_,_,e,_⟩,_⟩:=x;exact gA e
 | rng lo hi=>obtain⟨_,_,_,e⟩:=x;exact gA e
 | frz G u=>obtain⟨e,_⟩:=x;exact gA e
 | tbl ps=>exact gA (show h.get? a=aT _ from x)
 | met f y=>exact gA (show h.get? a=aT _ from x)
 | ext φ=>obtain⟨_,⟨_,e⟩,_⟩:=x;exact gA e
theorem Paired.mapP {α β:Type} {F G:α->β->Prop}:∀{J:ef α} {I:ef β},Paired F J I->(∀a b,F a b->G a b)->Paired G J I
 | _,_,.nil,_=> .nil
 | _,_,.cons r t,f=> .cons (f _ _ r) (Paired.mapP t f)
theorem eR.stay (x:eR P w H h a o) (k:∀b u,(b=a∨H b=aT (.own a))->h.get? b=aT u->h'.get? b=aT u)
  (ho:∀b,H b=aT (.own a)->H' b=aT (.own a)) (ht:∀b xs,H b=aT (.tup xs)->H' b=aT (.tup xs)):eR P w H' h' a o:=by
 induction o with
 | lst xs=>obtain⟨z,its,n,r,e⟩:=x;exact⟨z,its,n,r,k _ _ (.inl rfl) e⟩
 | tup xs=>obtain⟨z,its,r,G,e,c⟩:=x;exact⟨z,its,r,G,k _ _ (.inl rfl) e,c⟩
 | dK kvs=>obtain⟨z,y,vs,r,G,es,ep,e,c⟩:=x;exact⟨z,y,vs,r,G,es,ep,k _ _ (.inl rfl) e,c⟩
 | dT kvs=>
   obtain⟨z,y,xs,r,G,es,ep,e,c⟩:=x;exact⟨z,y,xs,Paired.mapP r λp q z=>⟨z.1,ht _ _ z.2.1,z.2.2⟩,G,es,ep,k _ _ (.inl rfl) e,c⟩
 | set S n=>obtain⟨G,es,ep,t,e,c⟩:=x;exact⟨G,es,ep,t,k _ _ (.inl rfl) e,c⟩
 | ins C dx fs=>
   obtain⟨d,z,ne,e,mA,⟨od,es,ep,I,c⟩,r⟩:=x;exact⟨ho _ d,z,ne,k _ _ (.inl rfl) e,mA,⟨od,es,ep,k _ _ (.inr d) I,c⟩,r⟩
 | own y=>obtain⟨G,e⟩:=x;exact⟨G,k _ _ (.inl rfl) e⟩
 | xd fs=>obtain⟨mA,⟨od,es,ep,e,c⟩,r⟩:=x;exact⟨mA,⟨od,es,ep,k _ _ (.inl rfl) e,c⟩,r⟩
 | rng lo hi=>obtain⟨t,u,v,e⟩:=x;exact⟨t,u,v,k _ _ (.inl rfl) e⟩
 | frz G u ih=>obtain⟨e,q⟩:=x;exact⟨k _ _ (.inl rfl) e,ih q⟩
 | tbl ps=>
   have e:h.get? a=aT {cls:= .none,data:= .fields ps}:=x;show h'.get? a=aT {cls:= .none,data:= .fields ps};exact k a _ (.inl rfl) e
 | met f y=>
   have e:h.get? a=aT (Ln (.ref f) (.ref y)):=x;show h'.get? a=aT (Ln (.ref f) (.ref y));exact k a _ (.inl rfl) e
 | ext φ=>obtain⟨p,⟨o,e⟩,st⟩:=x;exact⟨st _ _ p λo q=>k _ _ (.inl rfl) q,⟨o,k _ _ (.inl rfl) e⟩,st⟩
theorem HOk.lt (x:HOk P w H h) (e:H a=aT o):a < h.objs.size:=(x a o e).lt
theorem HOk.fresh (x:HOk P w H h) (e:h.objs.size<=a):H a=none:=by
 cases q:H a with
 | none=>rfl
 | some u=>exact hE (eu (x.lt q) e) (IV _)
theorem HOk.kept (x:HOk P w H h) (k:∀b u,h.get? b=aT u->h'.get? b=aT u):HOk P w H h':=λa o e=>
 (x a o e).stay (λb u _ q=>k b u q) (λ_ q=>q) λ_ _ q=>q
theorem HOk.laid (x:HOk P w H h) (k:∀b u,h.get? b=aT u->h'.get? b=aT u) (I:h.objs.size<=a) (G:eR P w (upd H a o) h' a o):HOk P w (upd H a o) h':=λb u e=>by
 have hn:=x.fresh I;by_cases hb:b=a
 ·subst hb;rw[aJ] at e;cases e;exact G
 ·rw[aC hb] at e;exact(x b u e).stay (λc v _ q=>k c v q) (λc q=>by rw[aC (au q hn)];exact q) λc xs q=>by rw[aC (au q hn)];exact q
end
def Rd (H:Hp) (a:ee) (u:HO):Prop:=H a=aT u∨∃o,H a=aT (.frz o u)
theorem Rd.ok {P:px} {w:wq} {H:Hp} {h:zx} {a:ee} {u:HO} (r:Rd H a u) (x:HOk P w H h):eR P w H h a u:=by
 rcases r with r | ⟨o,r⟩
 ·exact x a u r
 ·obtain⟨_,q⟩:=x a _ r;exact q
noncomputable def Mut:ry HO->Prop
 | some (.lst _)=>True
 | some (.dK _)=>True
 | some (.dT _)=>True
 | some (.set _ _)=>True
 | some (.ins _ _ _)=>True
 | some (.ext _)=>True
 | _=>False
section
variable {P:px} {w:wq} {H:Hp} {h h':zx} {x e:ee} {o':HO}
theorem HOk.write (ok:HOk P w H h) (L:Mut (H x)) (he:e=x∨H e=aT (.own x)) (k:∀b u,b≠e->h.get? b=aT u->h'.get? b=aT u) (Y:∃u,h'.get? e=aT u)
  (J:eR P w (upd H x o') h' x o'):HOk P w (upd H x o') h':=λb u q=>by
 have G:∀c y,H c=aT (.own y)->c≠x:=λc y r z=>by subst z;rw[r] at L;exact L
 have I:∀c xs,H c=aT (.tup xs)->c≠x:=λc xs r z=>by subst z;rw[r] at L;exact L
 by_cases hb:b=x
 ·subst hb;rw[aJ] at q;cases q;exact J
 ·rw[aC hb] at q;by_cases υ:b=e
  ·have Z:H b=aT (.own x):=by
    rcases he with z | z
    ·exact hE (υ.trans z) hb
    ·rw[υ];exact z
   rw[q] at Z;cases Z;obtain⟨v,α⟩:=Y;exact⟨v,by rw[υ];exact α⟩
  ·refine(ok b u q).stay (λc v hc r=>k c v ?_ r) (λc r=>by rw[aC (G c b r)];exact r) λc xs r=>by rw[aC (I c xs r)];exact r
   rcases hc with rfl | hc
   ·exact υ
   ·rintro rfl;rcases he with z | z
    ·exact G c b hc z
    ·rw[hc] at z;cases z;exact hb rfl
end
structure Un (fs ex:HJ) (H H':Hp) (h h':zx):Prop where
 keep:∀b o,h.get? b=aT o->H b=eH->b∉fs->b∉ex->h'.get? b=aT o
 slot:∀b o,h.get? b=aT o->H b=eH->b∈fs->b∉ex->∃sl,h'.get? b=aT {o with slots:=sl}
 free:∀b o,h.get? b=aT o->H b=eH->b∉ex->H' b=eH
 there:∀b o,h.get? b=aT o->b∉ex->∃o',h'.get? b=aT o'
 tups:∀b xs,H b=aT (.tup xs)->H' b=aT (.tup xs)
 frzs:∀b o u,H b=aT (.frz o u)->H' b=aT (.frz o u)
 tbls:∀b ps,H b=aT (.tbl ps)->∃more,H' b=aT (.tbl (ps++more))
section
variable {fs fs' ex ex':HJ} {H H1 H2:Hp} {h h1 h2 h':zx} {a x e:ee} {o:HO}
theorem Un.any (u:Un fs ex H H1 h h1) {b:ee} {G:Mm} (q:h.get? b=aT G) (n:H b=eH) (hx:b∉ex):∃I,h1.get? b=aT {G with slots:=I}:=by
 by_cases hb:b∈fs
 ·exact u.slot b G q n hb hx
 ·exact⟨G.slots,u.keep b G q n hb hx⟩
theorem Un.kept (k:∀b u,h.get? b=aT u->h'.get? b=aT u):Un fs ex H H h h':=
 ⟨λb G q _ _ _=>k b G q,λb G q _ _ _=>⟨G.slots,k b G q⟩,λ_ _ _ n _=>n,λb G q _=>⟨G,k b G q⟩,λ_ _ q=>q,λ_ _ _ q=>q,λ_ ps q=>⟨#[],by rw[q];simp⟩⟩
theorem Un.refl:Un fs ex H H h h:=Un.kept λ_ _ q=>q
theorem Un.laid (k:∀b u,h.get? b=aT u->h'.get? b=aT u) (G:h.objs.size<=a) (hn:H a=eH):Un fs ex H (upd H a o) h h' where
 keep:=λb u q _ _ _=>k b u q
 slot:=λb u q _ _ _=>⟨u.slots,k b u q⟩
 free:=λb u q n _=>by rw[aC (Hl (eu (gA q) G))];exact n
 there:=λb u q _=>⟨u,k b u q⟩
 tups:=λb xs q=>by rw[aC (au q hn)];exact q
 frzs:=λb u xs q=>by rw[aC (au q hn)];exact q
 tbls:=λb ps q=>⟨#[],by rw[aC (au q hn),q];simp⟩
theorem Un.write (L:Mut (H x)) (he:e=x∨H e=aT (.own x)) (k:∀b u,b≠e->h.get? b=aT u->h'.get? b=aT u) (G:∃u,h'.get? e=aT u):Un fs ex H (upd H x o) h h':=by
 have I:∀b,H b=eH->b≠x:=λb n z=>by subst z;rw[n] at L;exact L
 have hb:∀b,H b=eH->b≠e:=λb n z=>by
  subst z;rcases he with r | r
  ·exact I b n r
  ·rw[n] at r;cases r
 have hm:∀b u,H b=aT u->¬Mut (aT u)->b≠x:=λb u q nm z=>by subst z;rw[q] at L;exact nm L
 refine⟨λb u q n _ _=>k b u (hb b n) q,λb u q n _ _=>⟨u.slots,k b u (hb b n) q⟩,λb u q n _=>by rw[aC (I b n)];exact n,λb u q _=>?_,
  λb xs q=>by rw[aC (hm b _ q λz=>z)];exact q,λb u xs q=>by rw[aC (hm b _ q λz=>z)];exact q,λb ps q=>⟨#[],by rw[aC (hm b _ q λz=>z),q];simp⟩⟩
 by_cases υ:b=e
 ·subst υ;exact G
 ·exact⟨u,k b u υ q⟩
end
noncomputable def trk (h:zx) (H:Hp):HJ:=(ko h.objs.size).filter λa=>(H a).isSome
noncomputable def hidT (h:zx) (H:Hp):Heap:=PySem.W.hideAll h (trk h H)
theorem yU (h:zx) (H:Hp):(hidT h H).objs.size=h.objs.size:=PySem.W.hideAll_size _ _
theorem AN {h:zx} {H:Hp} {b:ee} {o:Mm} (e:h.get? b=aT o) (n:H b=eH):(hidT h H).get? b=aT o:=
 PySem.W.hideAll_get _ e λhm=>by
  have q:(H b).isSome=true:=(JV.mp hm).2;rw[n] at q;simp at q
theorem C4 {h:zx} {H:Hp} {b:ee} {o:Mm} (e:(hidT h H).get? b=aT o):h.get? b=aT o/\H b=none:=by
 have τ:h.get? b=aT o:=PySem.W.of_hideAll (trk h H) e;refine⟨τ,?_⟩;cases q:H b with
 | none=>rfl
 | some x=>
   have hm:b∈trk h H:=JV.mpr ⟨Iq.mpr (gA τ),by simp[q]⟩;have z:(hidT h H).get? b=none:=PySem.W.hideAll_none (trk h H) hm;rw[z] at e;cases e
noncomputable def DS (g h:zx) (L:ee):E':=(ko h.objs.size).filterMap λa=>if a=L∨(g.get? a).isSome=true then eH else (h.get? a).map λo=>(a,o)
noncomputable def rest (g h:zx) (L d:ee):E':=(DS g h L).filter λp=>decide (p.1≠d)
structure Mod (K:a') (mg:G') (base:zx):Prop where
 kin:K.In base
 glob:base.Ns Ia mg
 blt:∃mb,base.Ns builtinsNs mb/\∀x:Hk,x≠"__name__"->mb x=bootBuiltins x
 nolimit:base.NoLimit
structure Cx where
 prog:px
 w:wq
 K:a'
 mg:G'
 base:zx
 A:Hg
 N:C'
 s₀:f'
 H₀:Hp
 env:Env
 outer:ef Env
 stack:ef Env
 ex:HJ
 fn:Hk->IA
 calm:IA
 pn:E'
 xe:D'
noncomputable def frs (l:ef Env):HJ:=l.filterMap (·.frame)
noncomputable abbrev Cx.fs (X:Cx):HJ:=frs X.outer
def Vis (G:Hy) (x:Hk):Prop:=G.names.lookup x=aT .local∨G.names.lookup x=aT .cell∨G.names.lookup x=aT .free
def Loc (G:Hy) (x:Hk):Prop:=G.names.lookup x=aT .local∨G.names.lookup x=aT .cell
def Look (env:Env) (h:zx) (m:G') (x:Hk) (u:hG):Prop:=
 (env.kindOf x=aT .local/\m x=aT u)∨((env.kindOf x=aT .cell∨env.kindOf x=aT .free)/\∃c,env.cells.lookup x=aT c/\h.IsCell c (aT u))
structure Cx.Ok (X:Cx):Prop where
 mod:Mod X.K X.mg X.base
 kind:X.env.scope.kind= .function
 glob:X.env.globals=Ia
 blt:X.env.builtins=builtinsNs
 above:X.s₀.heap.objs.size<=X.env.locals
 inj:∀x y c,X.env.cells.lookup x=aT c->X.env.cells.lookup y=aT c->x=y
 has:∀x,(X.env.kindOf x=aT .cell∨X.env.kindOf x=aT .free)->∃c,X.env.cells.lookup x=aT c
 cab:∀x c,X.fn x=true->X.env.cells.lookup x=aT c->X.s₀.heap.objs.size<=c
 hd:X.calm=true->X.A.handled=eH
 frames:X.A.frames=aT X.stack
 stk:X.stack=X.outer∨(X.stack=X.env::X.outer/\X.env.frame=aT X.env.locals)
 exf:∀b∈X.ex,b≠X.env.locals/\∀x c,X.env.cells.lookup x=aT c->c≠b
 bs:∀b o,X.base.get? b=aT o->X.s₀.heap.get? b=aT o/\X.H₀ b=eH
 bsz:X.base.objs.size<=X.s₀.heap.objs.size
 noex:∀b o,X.base.get? b=aT o->b∉X.ex
 exfs:∀b∈X.ex,b∉X.fs
 funs:X.s₀.heap.FunFrames X.base X.outer
 frf:∀b∈X.fs,X.H₀ b=eH
structure Inv (X:Cx) (pins:E') (σ:ef (ry V)) (H:Hp) (s:f'):Prop where
 ok:X.Ok
 os:s.os=X.s₀.os
 bare:AllBare s.gens
 base:Un X.fs X.ex X.H₀ H X.s₀.heap s.heap
 loc:∃m,s.heap.Ns X.env.locals m/\∀(i:Nat) (x:Hk) (v:V),X.N[i]? =aT x->σ[i]? =aT (aT v)->Vis X.env.scope x->∃u,RelV v u/\Look X.env s.heap m x u
 cell:∀x c,X.env.cells.lookup x=aT c->∃v,s.heap.IsCell c v
 free:H X.env.locals=eH
 freeC:∀x c,X.env.cells.lookup x=aT c->H c=eH
 pin:∀p∈X.pn++pins,s.heap.get? p.1=aT p.2/\H p.1=eH/\p.1≠X.env.locals/\p.1∉X.fs/\∀v,p.2.data≠.cell v
 hok:HOk X.prog X.w H s.heap
 len:σ.length=X.N.length
section
variable {X:Cx} {pins:E'} {σ:ef (ry V)} {H H':Hp} {s:f'} {h':zx}
theorem Cx.Ok.nofr (ok:X.Ok) {b:ee} {o:Mm} (e:X.base.get? b=aT o):b∉X.fs:=λhb=>by
 have:=(ok.funs.mem hb).1;rw[e] at this;cases this
theorem Inv.bs (I:Inv X pins σ H s):∀b o,X.base.get? b=aT o->s.heap.get? b=aT o/\H b=none:=λb o e=>
 ⟨I.base.keep b o (I.ok.bs b o e).1 (I.ok.bs b o e).2 (I.ok.nofr e) (I.ok.noex b o e),I.base.free b o (I.ok.bs b o e).1 (I.ok.bs b o e).2 (I.ok.noex b o e)⟩
theorem Inv.bk (I:Inv X pins σ H s):∀b o,X.base.get? b=aT o->s.heap.get? b=aT o:=λb o e=>(I.bs b o e).1
theorem Inv.mod (I:Inv X pins σ H s):Mod X.K X.mg X.base:=I.ok.mod
theorem Inv.kIn (I:Inv X pins σ H s):X.K.In s.heap:=I.ok.mod.kin.keeps I.bk
theorem Inv.nolimit (I:Inv X pins σ H s):s.heap.NoLimit:=I.ok.mod.nolimit.keeps I.bk
theorem Inv.lt (I:Inv X pins σ H s):X.env.locals < s.heap.objs.size:=let ⟨_,hn,_⟩:=I.loc;hn.lt
theorem Inv.sz (I:Inv X pins σ H s):X.s₀.heap.objs.size<=s.heap.objs.size:=Ih I.ok.above (Jn I.lt)
theorem Inv.nofs (I:Inv X pins σ H s) {a:ee} (h:s.heap.objs.size<=a):a∉X.fs:=λhb=>by
 obtain⟨_,o,ho,_⟩:=I.ok.funs.mem hb;exact hE (eu (gA ho) (Ih I.sz h)) (IV _)
theorem Inv.cne (I:Inv X pins σ H s):∀x c,X.env.cells.lookup x=aT c->c≠X.env.locals:=λx c e z=>by
 obtain⟨v,o,ho,hd⟩:=I.cell x c e;obtain⟨m,⟨o',es,ep,Y,G,_⟩,_⟩:=I.loc;rw[z,Y] at ho;cases ho;rw[G] at hd;cases hd
theorem Inv.funs (I:Inv X pins σ H s):s.heap.FunFrames X.base X.outer:=by
 have all:∀(l:ef Env),(∀b∈frs l,b∈X.fs)->X.s₀.heap.FunFrames X.base l->s.heap.FunFrames X.base l:=by
  intro l
  induction l with
  | nil=>intro _ _;trivial
  | cons env r ih=>
    intro hs Y;obtain⟨hk,⟨L,o,hf,hn,ho,hd⟩,J⟩:=Y;have G:L∈X.fs:=hs L (by unfold frs;rw[Ll,hf];exact Ha);obtain⟨Z,e⟩:=I.base.slot L o ho (I.ok.frf L G) G λz=>I.ok.exfs L z G;exact⟨hk,⟨L,_,hf,hn,e,hd⟩,ih (λb hb=>hs b (by unfold frs;rw[Ll,hf];exact p' _ hb)) J⟩
 exact all X.outer (λ_ hb=>hb) I.ok.funs
theorem Inv.stack (I:Inv X pins σ H s):s.heap.FunFrames X.base X.stack:=by
 rcases I.ok.stk with e | ⟨e,hf⟩
 ·rw[e];exact I.funs
 ·rw[e];obtain⟨m,hn,_⟩:=I.loc;refine .cons (by rw[I.ok.kind];decide) hf hn ?_ I.funs;exact IS (Ih I.ok.bsz I.ok.above)
theorem Inv.stkSub (I:Inv X pins σ H s):∀b∈frs X.stack,b∈X.env.locals::X.fs:=λb hb=>by
 rcases I.ok.stk with e | ⟨e,hf⟩
 ·rw[e] at hb;exact p' _ hb
 ·rw[e] at hb;unfold frs at hb;rw[Ll,hf] at hb;exact hb
theorem Inv.stkFree (I:Inv X pins σ H s):∀b∈frs X.stack,H b=none:=λb hb=>by
 rcases Hn.mp (I.stkSub b hb) with e | hb
 ·rw[e];exact I.free
 ·obtain⟨_,o,ho,_⟩:=I.ok.funs.mem hb;exact I.base.free b o ho (I.ok.frf b hb) λz=>I.ok.exfs b z hb
theorem Inv.step {g':LZ GenState} {t':Nat} {d':Drawn} {ch:HJ} (I:Inv X pins σ H s)
  (Y:∀b∈ch,(b∈X.ex∨X.s₀.heap.objs.size<=b)/\b≠X.env.locals/\(∀x c,X.env.cells.lookup x=aT c->c≠b)/\∀p∈X.pn++pins,p.1≠b)
  (keep:∀b o,b≠X.env.locals->b∉X.fs->b∉ch->s.heap.get? b=aT o->H b=eH->h'.get? b=aT o)
  (slot:∀b o,b≠X.env.locals->b∈X.fs->b∉ch->s.heap.get? b=aT o->H b=eH->∃γ,h'.get? b=aT {o with slots:=γ}) (free:∀b o,b∉ch->s.heap.get? b=aT o->H b=eH->H' b=eH)
  (there:∀b o,b∉ch->s.heap.get? b=aT o->∃o',h'.get? b=aT o')
  (tups:∀b xs,H b=aT (.tup xs)->H' b=aT (.tup xs)) (frzs:∀b o u,H b=aT (.frz o u)->H' b=aT (.frz o u)) (tbls:∀b ps,H b=aT (.tbl ps)->∃more,H' b=aT (.tbl (ps++more)))
  (ns:∀m,s.heap.Ns X.env.locals m->h'.Ns X.env.locals m) (hok:HOk X.prog X.w H' h') (θ:AllBare g'):
  Inv X pins σ H' {s with heap:=h',gens:=g',drawn:=d',toks:=t'}:=by
 have L:∀b o,X.s₀.heap.get? b=aT o->b≠X.env.locals:=λb o e=>Hl (eu (gA e) I.ok.above)
 have G:∀b o,X.s₀.heap.get? b=aT o->b∉X.ex->b∉ch:=λb o e J hb=>by
  rcases(Y b hb).1 with z | z
  ·exact J z
  ·exact hE (eu (gA e) z) (IV _)
 have Z:∀x c,X.env.cells.lookup x=aT c->∀v,s.heap.IsCell c v->h'.IsCell c v:=λx c e v ⟨o,ho,hd⟩=>by
  have ω:c∉ch:=λz=>(Y c z).2.2.1 x c e rfl;by_cases ε:c∈X.fs
  ·obtain⟨γ,q⟩:=slot c o (I.cne x c e) ε ω ho (I.freeC x c e);exact⟨_,q,hd⟩
  ·exact⟨o,keep c o (I.cne x c e) ε ω ho (I.freeC x c e),hd⟩
 refine⟨I.ok,I.os,θ,⟨λb o e n hb J=>?_,λb o e n hb J=>?_,λb o e n J=>?_,λb o e J=>?_,λb xs e=>tups b xs (I.base.tups b xs e),λb o xs e=>frzs b o xs (I.base.frzs b o xs e),λb ps e=>?_⟩,?_,λx c e=>?_,?_,λx c e=>?_,λp δ=>?_,hok,I.len⟩
 ·exact keep b o (L b o e) hb (G b o e J) (I.base.keep b o e n hb J) (I.base.free b o e n J)
 ·obtain⟨γ,e1⟩:=I.base.slot b o e n hb J;obtain⟨β,α⟩:=slot b _ (L b o e) hb (G b o e J) e1 (I.base.free b o e n J);exact⟨β,α⟩
 ·obtain⟨o',e1⟩:=I.base.there b o e J;exact free b o' (G b o e J) e1 (I.base.free b o e n J)
 ·obtain⟨o',e1⟩:=I.base.there b o e J;exact there b o' (G b o e J) e1
 ·obtain⟨φ,e1⟩:=I.base.tbls b ps e;obtain⟨ζ,α⟩:=tbls b _ e1;exact⟨φ++ζ,by rw[α,Array.append_assoc]⟩
 ·obtain⟨m,hn,η⟩:=I.loc;refine⟨m,ns m hn,λi x v e1 α ι=>?_⟩;obtain⟨u,r,l⟩:=η i x v e1 α ι;refine⟨u,r,?_⟩;rcases l with l | ⟨k,c,e,z⟩
  ·exact .inl l
  ·exact .inr ⟨k,c,e,Z x c e _ z⟩
 ·obtain⟨v,z⟩:=I.cell x c e;exact⟨v,Z x c e v z⟩
 ·obtain⟨m,⟨o,_,_,ho,_⟩,_⟩:=I.loc;exact free _ o (λz=>(Y _ z).2.1 rfl) ho I.free
 ·obtain⟨v,o,ho,hd⟩:=I.cell x c e;exact free c o (λz=>(Y c z).2.2.1 x c e rfl) ho (I.freeC x c e)
 ·obtain⟨e,n,ne,nf,d⟩:=I.pin p δ;have ω:p.1∉ch:=λz=>(Y p.1 z).2.2.2 p δ rfl;exact⟨keep p.1 p.2 ne nf ω e n,free p.1 p.2 ω e n,ne,nf,d⟩
theorem Inv.un {t':Nat} (I:Inv X pins σ H s) (u:Un X.fs [] H H' s.heap h') (hok:HOk X.prog X.w H' h'):Inv X pins σ H' {s with heap:=h',toks:=t'}:=by
 obtain⟨m,⟨o,es,ep,ho,r⟩,_⟩:=id I.loc;obtain⟨L,J⟩:=u.any ho I.free @E
 exact I.step (g':=s.gens) (d':=s.drawn) (ch:=[]) (λ_ z=>nomatch z) (λb o _ hb _ e n=>u.keep b o e n hb @E) (λb o _ hb _ e n=>u.slot b o e n hb @E) (λb o _ e n=>u.free b o e n @E) (λb o _ e=>u.there b o e @E) u.tups u.frzs u.tbls (fun χ hm=>by
  obtain⟨o',G,ι,Y,r'⟩:=hm;rw[ho] at Y;cases Y;exact⟨_,G,ι,J,r'⟩) hok I.bare
theorem Inv.call {g':LZ GenState} {t':Nat} {d':Drawn} {ch:HJ} (I:Inv X pins σ H s) (u:Un (frs X.stack) ch H H' s.heap h') (hok:HOk X.prog X.w H' h') (α:AllBare g')
  (J:∀b∈ch,(b∈X.ex∨X.s₀.heap.objs.size<=b)/\b≠X.env.locals/\(∀x c,X.env.cells.lookup x=aT c->c≠b)/\∀p∈X.pn++pins,p.1≠b):
  Inv X pins σ H' {s with heap:=h',gens:=g',drawn:=d',toks:=t'}:=by
 obtain⟨m,⟨o,es,ep,ho,r⟩,_⟩:=id I.loc;obtain⟨β,L⟩:=u.any ho I.free λz=>(J _ z).2.1 rfl
 exact I.step (ch:=ch) J (λb o L hb G e n=>u.keep b o e n (λz=>(Hn.mp (I.stkSub b z)).elim L hb) G) (λb o _ _ G e n=>u.any e n G) (λb o G e n=>u.free b o e n G) (λb o G e=>u.there b o e G) u.tups u.frzs u.tbls (fun χ hm=>by
  obtain⟨o',Z,ι,Y,r'⟩:=hm;rw[ho] at Y;cases Y;exact⟨_,Z,ι,L,r'⟩) hok α
theorem Inv.turned {t':Nat} {it:ee} (I:Inv X pins σ H s) (k:∀b o,b≠it->s.heap.get? b=aT o->h'.get? b=aT o) (hn:H it=eH) (L:it≠X.env.locals)
  (h1:it∈X.ex∨X.s₀.heap.objs.size<=it) (h2:∀x c,X.env.cells.lookup x=aT c->c≠it) (Y:∀p∈X.pn++pins,p.1≠it):Inv X pins σ H {s with heap:=h',toks:=t'}:=by
 have J:∀b u,H b=aT u->b≠it:=λb u e z=>by rw[z,hn] at e;cases e
 refine I.step (g':=s.gens) (d':=s.drawn) (ch:=[it]) (λb hb=>?_) (λb o _ _ G e _=>k b o (λz=>G (by simp[z])) e) (λb o _ _ G e _=>⟨o.slots,k b o (λz=>G (by simp[z])) e⟩) (λ_ _ _ _ n=>n)
  (λb o G e=>⟨o,k b o (λz=>G (by simp[z])) e⟩) (λ_ _ e=>e) (λ_ _ _ e=>e) (λb ps e=>⟨#[],by rw[e];simp⟩) (λm hm=>?_) (λb u e=>?_) I.bare
 ·have e:b=it:=by simpa using hb
  subst e;exact⟨h1,L,h2,Y⟩
 ·obtain⟨o,es,ep,ho,r⟩:=hm;exact⟨o,es,ep,k _ o (xn L) ho,r⟩
 ·refine(I.hok b u e).stay (λc v G q=>k c v ?_ q) (λ_ q=>q) λ_ _ q=>q;rcases G with z | z
  ·rw[z];exact J b u e
  ·exact J c _ z
theorem Inv.tok (I:Inv X pins σ H s) (t:Nat):Inv X pins σ H {s with toks:=t}:=I.un (h':=s.heap) (t':=t) Un.refl I.hok
theorem Inv.kept {t':Nat} (I:Inv X pins σ H s) (k:∀b u,s.heap.get? b=aT u->h'.get? b=aT u):Inv X pins σ H {s with heap:=h',toks:=t'}:=I.un (Un.kept k) (I.hok.kept k)
theorem Inv.laid {a:ee} {o:HO} {t':Nat} (I:Inv X pins σ H s) (k:∀b u,s.heap.get? b=aT u->h'.get? b=aT u) (J:s.heap.objs.size<=a) (G:eR X.prog X.w (upd H a o) h' a o):
  Inv X pins σ (upd H a o) {s with heap:=h',toks:=t'}:=I.un (Un.laid k J (I.hok.fresh J)) (I.hok.laid k J G)
theorem Inv.write {x e:ee} {o:HO} {t':Nat} (I:Inv X pins σ H s) (L:Mut (H x)) (he:e=x∨H e=aT (.own x)) (k:∀b u,b≠e->s.heap.get? b=aT u->h'.get? b=aT u) (G:∃u,h'.get? e=aT u)
  (J:eR X.prog X.w (upd H x o) h' x o):Inv X pins σ (upd H x o) {s with heap:=h',toks:=t'}:=I.un (Un.write L he k G) (I.hok.write L he k G J)
theorem Inv.weak {σ':ef (ry V)} (I:Inv X pins σ H s) (J:σ'.length=σ.length) (w:∀(i:Nat) v,σ'[i]? =aT (aT v)->σ[i]? =aT (aT v)):Inv X pins σ' H s:=
 ⟨I.ok,I.os,I.bare,I.base,let ⟨m,hn,G⟩:=I.loc;⟨m,hn,λi x v e1 Y L=>G i x v e1 (w i v Y) L⟩,I.cell,I.free,I.freeC,I.pin,I.hok,J.trans I.len⟩
theorem Inv.pins_of {G:E'} (I:Inv X pins σ H s) (h:∀p∈G,s.heap.get? p.1=aT p.2/\H p.1=eH/\p.1≠X.env.locals/\p.1∉X.fs/\∀v,p.2.data≠.cell v):Inv X G σ H s:=
 ⟨I.ok,I.os,I.bare,I.base,I.loc,I.cell,I.free,I.freeC,λp J=>(lx.mp J).elim (λz=>I.pin p (n' _ z)) (h p),I.hok,I.len⟩
theorem vz {N:C'} (G:N.Nodup) {i j:Nat} {x:Hk} (a:N[i]? =aT x) (b:N[j]? =aT x):i=j:=by
 obtain⟨h1,e1⟩:=b'.mp a;obtain⟨h2,I⟩:=b'.mp b;exact(NM G).mp (e1.trans I.symm)
theorem nu {M:Model} {A:Hg} {E:D'} {i:Nat} {x:Hk} {v:V} {u:hG} {Q:HI} (I:Inv X pins σ H s) (ω:X.N.Nodup) (hi:X.N[i]? =aT x) (hx:Loc X.env.scope x) (r:RelV v u)
  (h:∀s',Inv X pins (σ.set i (aT v)) H s'->(∃a,Kj a s.heap s'.heap/\(a=X.env.locals∨X.env.cells.lookup x=aT a))->Q () s') (hf:X.fn x=true∨X.env.scope.names.lookup x=aT .local:=by first | exact .inl rfl | exact .inr rfl | assumption):hQ M A (storeName X.env x u) Q E s:=by
 obtain⟨m,hn,ψ⟩:=id I.loc;have ε:(X.env.scope.kind == .class||(X.env.scope.kind == .module&&X.env.locals != X.env.globals))=false:=by rw[I.ok.kind];rfl
 have Z:i < σ.length:=by rw[I.len];exact(b'.mp hi).1
 have cne:=I.cne
 have G:∀{a:ee} {h':zx},(∃o,s.heap.get? a=aT o/\H a=eH)->Kj a s.heap h'->HOk X.prog X.w H h':=λ{a h'} ha hs b ob e=>by
  obtain⟨_,_,L⟩:=ha;refine(I.hok b ob e).stay (λc θ hc q=>(hs.2 c ?_).trans q) (λ_ q=>q) λ_ _ q=>q;rintro rfl;rcases hc with rfl | hc
  ·rw[L] at e;cases e
  ·rw[L] at hc;cases hc
 rcases hx with hk | hk
 ·refine wpAny_storeName_local hk hn (λh' τ hs=>?_) ε;obtain⟨oL,_,_,ρ,_⟩:=id hn;refine h _ ⟨I.ok,I.os,I.bare,⟨λb o e n hb hx=>?_,λb o e n hb hx=>?_,I.base.free,λb o e hx=>?_,I.base.tups,I.base.frzs,I.base.tbls⟩,⟨_,τ,λj y ν e1 Y υ=>?_⟩,λy c e=>?_,I.free,I.freeC,λp π=>?_,G ⟨oL,ρ,I.free⟩ hs,by simpa using I.len⟩ ⟨_,hs,.inl rfl⟩
  ·exact(hs.2 b (Hl (eu (gA e) I.ok.above))).trans (I.base.keep b o e n hb hx)
  ·obtain⟨ο,e1⟩:=I.base.slot b o e n hb hx;exact⟨ο,(hs.2 b (Hl (eu (gA e) I.ok.above))).trans e1⟩
  ·obtain⟨o',e1⟩:=I.base.there b o e hx;exact⟨o',(hs.2 b (Hl (eu (gA e) I.ok.above))).trans e1⟩
  ·by_cases α:j=i
   ·subst α;rw[hi] at e1;cases e1;rw[KR Z] at Y;cases Y;exact⟨u,r,.inl ⟨hk,by simp⟩⟩
   ·rw[N3 (xn α)] at Y;obtain⟨ξ,r',q⟩:=ψ j y ν e1 Y υ;refine⟨ξ,r',?_⟩;rcases q with ⟨k,e⟩ | ⟨k,c,e,z⟩
    ·refine .inl ⟨k,?_⟩;have:y≠x:=λe=>α (vz ω e1 (e ▸ hi));simp[this,e]
    ·exact .inr ⟨k,c,e,z.sameBut hs (cne y c e)⟩
  ·obtain⟨θ,z⟩:=I.cell y c e;exact⟨θ,z.sameBut hs (cne y c e)⟩
  ·obtain⟨e,n,ne,nf,d⟩:=I.pin p π;exact⟨(hs.2 p.1 ne).trans e,n,ne,nf,d⟩
 ·have β:X.fn x=true:=by
   rcases hf with z | z
   ·exact z
   ·rw[z] at hk;cases hk
  obtain⟨c,hc⟩:=I.ok.has x (.inl hk);obtain⟨θ,z⟩:=I.cell x c hc;refine wpAny_storeName_cell I.ok.kind hk hc z (λh' χ hs=>?_);obtain⟨φ,δ,γ⟩:=id z;refine h {s with heap:=h'} ⟨I.ok,I.os,I.bare,⟨λb o e n hb hx=>?_,λb o e n hb hx=>?_,I.base.free,λb o e hx=>?_,I.base.tups,I.base.frzs,I.base.tbls⟩,⟨m,hn.sameBut hs (xn (cne x c hc)),λj y ν e1 Y υ=>?_⟩,λy ι e=>?_,I.free,I.freeC,λp π=>?_,G ⟨φ,δ,I.freeC x c hc⟩ hs,by simpa using I.len⟩ ⟨c,hs,.inr hc⟩
  ·exact(hs.2 b (Hl (eu (gA e) (I.ok.cab x c β hc)))).trans (I.base.keep b o e n hb hx)
  ·obtain⟨ο,e1⟩:=I.base.slot b o e n hb hx;exact⟨ο,(hs.2 b (Hl (eu (gA e) (I.ok.cab x c β hc)))).trans e1⟩
  ·obtain⟨o',e1⟩:=I.base.there b o e hx;exact⟨o',(hs.2 b (Hl (eu (gA e) (I.ok.cab x c β hc)))).trans e1⟩
  ·by_cases α:j=i
   ·subst α;rw[hi] at e1;cases e1;rw[KR Z] at Y;cases Y;exact⟨u,r,.inr ⟨.inl hk,c,hc,χ⟩⟩
   ·rw[N3 (xn α)] at Y;obtain⟨ξ,r',q⟩:=ψ j y ν e1 Y υ;refine⟨ξ,r',?_⟩;rcases q with q | ⟨k,ι,e,J⟩
    ·exact .inl q
    ·refine .inr ⟨k,ι,e,J.sameBut hs ?_⟩;rintro rfl;exact α (vz ω e1 (I.ok.inj _ _ _ e hc ▸ hi))
  ·by_cases ζ:ι=c
   ·subst ζ;exact⟨_,χ⟩
   ·obtain⟨η,z2⟩:=I.cell y ι e;exact⟨η,z2.sameBut hs ζ⟩
  ·obtain⟨e,n,ne,nf,d⟩:=I.pin p π;refine⟨(hs.2 p.1 ?_).trans e,n,ne,nf,d⟩;intro q;rw[q,δ] at e;have q':φ=p.2:=iv e;exact d θ (by rw[<-q'];exact γ)
theorem vj {M:Model} {A:Hg} {E:D'} {i:Nat} {x:Hk} {v:V} {u:hG} {Q:HI} (I:Inv X pins σ H s) (G:X.N.Nodup) (hi:X.N[i]? =aT x) (hx:Loc X.env.scope x) (r:RelV v u)
  (h:∀s',Inv X pins (σ.set i (aT v)) H s'->Q () s') (hf:X.fn x=true∨X.env.scope.names.lookup x=aT .local:=by first | exact .inl rfl | exact .inr rfl | assumption):hQ M A (storeName X.env x u) Q E s:=
 nu I G hi hx r (λs' J _=>h s' J) hf
theorem Inv.call' {s':f'} {ch:HJ} (I:Inv X pins σ H s) (ho:s'.os=s.os) (u:Un (frs X.stack) ch H H' s.heap s'.heap) (hok:HOk X.prog X.w H' s'.heap) (J:AllBare s'.gens)
  (G:∀b∈ch,(b∈X.ex∨X.s₀.heap.objs.size<=b)/\b≠X.env.locals/\(∀x c,X.env.cells.lookup x=aT c->c≠b)/\∀p∈X.pn++pins,p.1≠b):Inv X pins σ H' s':=by
 obtain⟨h',g',d',t',o'⟩:=s';have e:o'=s.os:=ho;subst e;exact I.call (g':=g') (t':=t') (d':=d') u hok J G
end
noncomputable abbrev XK:=hG->HL->Hp->Prop
noncomputable abbrev St:=ef (ry V)
noncomputable abbrev VK:=V->Hp->Prop
noncomputable abbrev TE:=St->Hp->VK->Prop
noncomputable abbrev TT:=St->Hp->(IA->Hp->Prop)->Prop
noncomputable abbrev TA:=St->Hp->(ef V->Hp->Prop)->Prop
structure Ends where
 nx:St->Hp->Prop
 rt:VK
 bk:St->Hp->Prop:=λ_ _=>False
 ct:St->Hp->Prop:=λ_ _=>False
noncomputable abbrev TS:=Ends->St->Hp->Prop
def EP (X:Cx) (pins:E') (σ:St) (Q:VK) (u:hG) (s':f'):Prop:=∃v H',Inv X pins σ H' s'/\RelV v u/\Q v H'
def TP (X:Cx) (pins:E') (σ:St) (Q:IA->Hp->Prop) (b:IA) (s':f'):Prop:=∃H',Inv X pins σ H' s'/\Q b H'
def AP (X:Cx) (pins:E') (σ:St) (Q:ef V->Hp->Prop) (us:F') (s':f'):Prop:=∃vs H',Inv X pins σ H' s'/\Vals vs us/\Q vs H'
def SP (X:Cx) (pins:E') (D:Ends) (f:Flow) (s':f'):Prop:=
 match f with
 | .next=>∃σ' H',Inv X pins σ' H' s'/\D.nx σ' H'
 | .brk=>∃σ' H',Inv X pins σ' H' s'/\D.bk σ' H'
 | .cont=>∃σ' H',Inv X pins σ' H' s'/\D.ct σ' H'
 | .ret u=>∃v σ' H',Inv X pins σ' H' s'/\RelV v u/\D.rt v H'
def PE (X:Cx) (e:Hi) (t:TE):Prop:=
 ∀(pins:E') (s:f') (σ:St) (H:Hp) (Q:VK),Inv X pins σ H s->t σ H Q->hQ (lT X.prog X.w) X.A (eval e X.env) (EP X pins σ Q) X.xe s
def PT (X:Cx) (e:Hi) (t:TT):Prop:=
 ∀(pins:E') (s:f') (σ:St) (H:Hp) (Q:IA->Hp->Prop),Inv X pins σ H s->t σ H Q->hQ (lT X.prog X.w) X.A (isTrue e X.env (eval e X.env)) (TP X pins σ Q) X.xe s
def PW (X:Cx) (e:Hi) (t:TT):Prop:=
 ∀(G:Sem hG) (pins:E') (s:f') (σ:St) (H:Hp) (Q:IA->Hp->Prop),Inv X pins σ H s->t σ H Q->hQ (lT X.prog X.w) X.A (isTrue e X.env G) (TP X pins σ Q) X.xe s
theorem PW.pt {X:Cx} {e:Hi} {t:TT} (h:PW X e t):PT X e t:=h _
def PA (X:Cx) (es:ef Hi) (t:TA):Prop:=
 ∀(pos:Pos) (pins:E') (s:f') (σ:St) (H:Hp) (Q:ef V->Hp->Prop),Inv X pins σ H s->t σ H Q->hQ (lT X.prog X.w) X.A (spliced (backTo pos (oD es X.env))) (AP X pins σ Q) X.xe s
def PS (X:Cx) (st:JQ) (t:TS):Prop:=
 ∀(pins:E') (s:f') (σ:St) (H:Hp) (D:Ends),Inv X pins σ H s->t D σ H->hQ (lT X.prog X.w) X.A (exec st X.env) (SP X pins D) X.xe s
def PSs (X:Cx) (st:ef JQ) (t:TS):Prop:=
 ∀(pins:E') (s:f') (σ:St) (H:Hp) (D:Ends),Inv X pins σ H s->t D σ H->hQ (lT X.prog X.w) X.A (execs st X.env) (SP X pins D) X.xe s
theorem thn {α:Type} {t:Sem α} {Q G:α->f'->Prop} {M:Model} {A:Hg} {E:D'} {s:f'} (h:hQ M A t Q E s) (ψ:∀a s,Q a s->G a s):hQ M A t G E s:=IY h ψ λ_ _ x=>x
section
variable {X:Cx}
noncomputable def tVar (i:Nat):TE:=fun σ H Q=>∃v,σ[i]? =aT (aT v)/\Q v H
noncomputable abbrev tC (v:V):TE:=λ_ H Q=>Q v H
theorem Ff {i:Nat} {x:Hk} {pos:Pos} (α:X.N[i]? =aT x) (Y:Vis X.env.scope x) (hd:(x == ("__debug__":Hk))=false:=by decide) (J:(x == ("__classdict__":Hk))=false:=by decide):PE X (.Name x pos) (tVar i):=by
 intro pins s σ H Q I h;obtain⟨v,e,h⟩:=h;obtain⟨m,hn,Z⟩:=I.loc;obtain⟨u,r,l⟩:=Z i x v α e Y;have fin:EP X pins σ Q u s:=⟨v,H,I,r,h⟩;rcases l with ⟨hk,hm⟩ | ⟨hk,c,L,G⟩
 ·exact Oc (wpAny_loadName_local I.ok.kind hk hn hm fin) hd
 ·rcases hk with hk | hk
  ·exact Oc (wpAny_loadName_cell I.ok.kind hk L G fin) hd
  ·exact Oc (wpAny_loadName_free I.ok.kind hk L G fin J) hd
theorem ag {i j pos}:PE X (.Constant (.int i) j pos) (tC (.int i)):=λ_ _ _ H _ I h=>wpAny_Constant_int ⟨.int i,H,I.tok _,⟨_,rfl⟩,h⟩
theorem yn {b j pos}:PE X (.Constant (.bool b) j pos) (tC (.bl b)):=λ_ _ _ H _ I h=>Constant_bool ⟨.bl b,H,I,rfl,h⟩
theorem By {j pos}:PE X (.Constant .none j pos) (tC .non):=λ_ _ _ H _ I h=>Constant_none ⟨.non,H,I,rfl,h⟩
theorem gN {x j pos}:PE X (.Constant (.str x) j pos) (tC (.str x)):=λ_ _ _ H _ I h=>Calls.Constant_str ⟨.str x,H,I.tok _,⟨_,rfl⟩,h⟩
def Gl (X:Cx) (x:Hk):Prop:=X.env.kindOf x=aT .globalImplicit
theorem qX {E:D'} {pins:E'} {s:f'} {σ:St} {H:Hp} {x:Hk} {u:hG} {pos:Pos} {Q:D'} (I:Inv X pins σ H s) (G:Gl X x) (hm:X.mg x=aT u) (h:Q u s)
  (hd:(x == ("__debug__":Hk))=false:=by decide):hQ (lT X.prog X.w) X.A (eval (.Name x pos) X.env) Q E s:=
 M9 I.ok.kind G (Calls.loadGlobal_global (by rw[I.ok.glob];exact I.mod.glob.keeps I.bk) hm h) hd
theorem iS {E:D'} {pins:E'} {s:f'} {σ:St} {H:Hp} {x:Hk} {u:hG} {pos:Pos} {Q:D'} (I:Inv X pins σ H s) (J:Gl X x) (hm:X.mg x=eH) (G:bootBuiltins x=aT u) (h:Q u s)
  (hn:x≠"__name__":=by decide) (hd:(x == ("__debug__":Hk))=false:=by decide):hQ (lT X.prog X.w) X.A (eval (.Name x pos) X.env) Q E s:=by
 obtain⟨L,h1,h2⟩:=I.mod.blt;exact M9 I.ok.kind J (Calls.loadGlobal_builtin (by rw[I.ok.glob];exact I.mod.glob.keeps I.bk) hm (by rw[I.ok.blt];exact h1.keeps I.bk) ((h2 x hn).trans G) h) hd
theorem ur {x:Hk} {v:V} {u:hG} {pos:Pos} (G:Gl X x) (hm:X.mg x=aT u) (r:RelV v u) (hd:(x == ("__debug__":Hk))=false:=by decide):PE X (.Name x pos) (tC v):=
 λ_ _ _ H _ I h=>qX I G hm ⟨v,H,I,r,h⟩ hd
theorem nO {x:Hk} {v:V} {u:hG} {pos:Pos} (J:Gl X x) (hm:X.mg x=eH) (G:bootBuiltins x=aT u) (r:RelV v u) (hn:x≠"__name__":=by decide) (hd:(x == ("__debug__":Hk))=false:=by decide):PE X (.Name x pos) (tC v):=
 λ_ _ _ H _ I h=>iS I J hm G ⟨v,H,I,r,h⟩ hn hd
variable {a b:Hi} {ta tb:TE} {pos:Pos}
def PC (X:Cx) (J:CmpOp) (a b:Hi) (t:TE):Prop:=
 ∀(pins:E') (s:f') (σ:St) (H:Hp) (Q:VK),Inv X pins σ H s->t σ H Q->
  hQ (lT X.prog X.w) X.A (eval a X.env) (λv I=>hQ (lT X.prog X.w) X.A (eval b X.env) (λu G=>hQ (lT X.prog X.w) X.A (compareOp J v u) (EP X pins σ Q) X.xe G) X.xe I) X.xe s
noncomputable abbrev tB (t:TE):TT:=fun σ H Q=>t σ H λx H1=>∃c,x= .bl c/\Q c H1
theorem E9 {G:CmpOp} {t:TE} (h:PC X G a b t) (h1:behindInMarks G b=false:=by first | exact nobehind _ (by decide) (by decide) | rfl):PT X (.Compare a [G] [b] pos) (tB t):=by
 intro pins s σ H Q I hw;refine NF (thn (h pins s σ H _ I hw) λv β h1=>thn h1 λu α h2=>thn h2 λc Z ⟨x,H1,Y,J,L⟩=>?_) h1;obtain⟨d,rfl,q⟩:=L;cases J;exact JJ ⟨H1,Y,q⟩
theorem gv {e:Hi} {t:TE} (h:PE X e t) (he:∀G,isTrue e X.env G=(do let v <-G;standAt e.pos;holding [v] (truthy v)):=by intro _;rfl):PT X e (tB t):=by
 intro pins s σ H Q I hw;refine isTrue_plain (thn (h pins s σ H _ I hw) λv Z ⟨x,H1,Y,J,L⟩=>?_) (he _);obtain⟨d,rfl,q⟩:=L;cases J;exact JJ ⟨H1,Y,q⟩
variable {tA tB':TT} {rest:ef Hi}
noncomputable abbrev tAnd (t u:TT):TT:=fun σ H Q=>t σ H λc H1=>if c=true then u σ H1 Q else Q false H1
noncomputable abbrev tOr (t u:TT):TT:=fun σ H Q=>t σ H λc H1=>if c=true then Q true H1 else u σ H1 Q
noncomputable abbrev tNot (t:TT):TT:=fun σ H Q=>t σ H λc H1=>Q (!c) H1
theorem nL (ha:PT X a tA):PW X (.BoolOp .And [a] pos) tA:=by
 intro G pins s σ H Q I h;refine isTrue_and (thn (ha pins s σ H Q I h) λc J e=>?_);cases c with
 | true=>exact isTrue_and_nil e
 | false=>exact e
theorem jU (ha:PT X a tA):PW X (.BoolOp .Or [a] pos) tA:=by
 intro G pins s σ H Q I h;refine isTrue_or (thn (ha pins s σ H Q I h) λc J e=>?_);cases c with
 | false=>exact isTrue_or_nil e
 | true=>exact e
theorem r8 (ha:PT X a tA) (hb:PW X (.BoolOp .And (b::rest) pos) tB'):PW X (.BoolOp .And (a::b::rest) pos) (tAnd tA tB'):=by
 intro L pins s σ H Q I h;refine isTrue_and (thn (ha pins s σ H _ I h) λc Y ⟨H1,J,G⟩=>?_);cases c with
 | true=>exact hb L pins Y σ H1 Q J G
 | false=>exact⟨H1,J,G⟩
theorem mH (ha:PT X a tA) (hb:PW X (.BoolOp .Or (b::rest) pos) tB'):PW X (.BoolOp .Or (a::b::rest) pos) (tOr tA tB'):=by
 intro L pins s σ H Q I h;refine isTrue_or (thn (ha pins s σ H _ I h) λc Y ⟨H1,J,G⟩=>?_);cases c with
 | true=>exact⟨H1,J,G⟩
 | false=>exact hb L pins Y σ H1 Q J G
theorem hX (ha:PT X a tA):PT X (.UnaryOp .Not a pos) (tNot tA):=by
 intro pins s σ H Q I h;exact isTrue_not (ha pins s σ H (λc H1=>Q (!c) H1) I h)
noncomputable abbrev Gr (ta tb:TE):TE:=fun σ H Q=>ta σ H λx H1=>∃c,x= .bl c/\if c=true then tb σ H1 Q else Q (.bl false) H1
noncomputable abbrev Gm (ta:TE):TE:=fun σ H Q=>ta σ H λx H1=>∃c,x= .bl c/\Q (.bl (!c)) H1
theorem vv {op} {t:TE} (h:PE X a t):PE X (.BoolOp op [a] pos) t:=λpins s σ H Q I hw=>BoolOp_one (h pins s σ H Q I hw)
theorem sf (ha:PE X a ta) (hb:PE X (.BoolOp .And (b::rest) pos) tb):PE X (.BoolOp .And (a::b::rest) pos) (Gr ta tb):=by
 intro pins s σ H Q I h;refine BoolOp_and (thn (ha pins s σ H _ I h) λv L ⟨x,H1,J,Y,G⟩=>?_);obtain⟨c,rfl,G⟩:=G;cases Y;refine JJ ?_;cases c with
 | true=>exact hb pins L σ H1 Q J G
 | false=>exact⟨.bl false,H1,J,rfl,G⟩
theorem Fg (ha:PE X a ta):PE X (.UnaryOp .Not a pos) (Gm ta):=by
 intro pins s σ H Q I h;refine UnaryOp_ (thn (ha pins s σ H _ I h) λv Y ⟨x,H1,L,J,G⟩=>?_);obtain⟨c,rfl,G⟩:=G;cases J;exact not_of (JJ ⟨.bl (!c),H1,L,rfl,G⟩)
end
def SqL (K:a') (H:Hp) (a:ee) (xs:ef V):Prop:=
 Rd H a (.lst xs)∨
  ∃(o:Mm) (its:HG) (n:Nat),K.lookup a=aT o/\o.cls= .type "list"/\o.dict=eH/\o.data= .seq its n/\its.size<=i'/\Vals xs its.toList
def SqT (K:a') (H:Hp) (a:ee) (xs:ef V):Prop:=
 Rd H a (.tup xs)∨
  ∃(o:Mm) (its:HG) (n:Nat),K.lookup a=aT o/\o.cls= .type "tuple"/\o.data= .seq its n/\its.size<=i'/\Vals xs its.toList
noncomputable def absV:hG->ry V
 | .none=>aT .non
 | .bool b=>aT (.bl b)
 | .int i _=>aT (.int i)
 | .str x _=>aT (.str x)
 | .bytes b _=>aT (.byt b)
 | .float b _=>aT (.flt b)
 | .ref a=>aT (.ref a)
 | .type n=>aT (.ty n)
 | _=>eH
theorem RelV.abs {x:V} {u:hG} (r:RelV x u):absV u=aT x:=by
 cases x with
 | non=>cases r;rfl
 | bl _=>cases r;rfl
 | int _=>obtain⟨t,rfl⟩:=r;rfl
 | str _=>obtain⟨t,rfl⟩:=r;rfl
 | byt _=>obtain⟨t,rfl⟩:=r;rfl
 | flt _=>obtain⟨t,rfl⟩:=r;rfl
 | ref _=>cases r;rfl
 | ty _=>cases r;rfl
theorem RelV.inj {x y:V} {u:hG} (r:RelV x u) (q:RelV y u):x=y:=iv (r.abs.symm.trans q.abs)
theorem Vals.inj:∀{xs ys:ef V} {us:F'},Vals xs us->Vals ys us->xs=ys
 | _,_,_,.nil,.nil=>rfl
 | _,_,_,.cons r t,.cons r' t'=>by rw[r.inj r',Vals.inj t t']
section
variable {X:Cx} {pins:E'} {σ:St} {H:Hp} {s:f'} {a:ee} {xs ys:ef V}
theorem SqL.of {K:a'} (h:H a=aT (.lst xs)):SqL K H a xs:= .inl (.inl h)
theorem SqT.of {K:a'} (h:H a=aT (.tup xs)):SqT K H a xs:= .inl (.inl h)
theorem Inv.list (I:Inv X pins σ H s) (h:SqL X.K H a xs):∃its:F',Vals xs its/\PlainL s.heap a its.toArray/\xs.length<=sizeLine:=by
 rcases h with h | ⟨o,its,n,hk,G,hd,hs,hz,r⟩
 ·obtain⟨z,its,n,r,e⟩:=h.ok I.hok;exact⟨its,r,⟨_,n,e,rfl,rfl,rfl⟩,z⟩
 ·refine⟨its.toList,r,⟨o,n,I.kIn a o hk,G,hd,by simpa using hs⟩,?_⟩;have e:=r.length;simp only[Ie] at e;omega
theorem Inv.tuple (I:Inv X pins σ H s) (h:SqT X.K H a xs):∃its:F',Vals xs its/\IsTup s.heap a its.toArray/\xs.length<=sizeLine:=by
 rcases h with h | ⟨o,its,n,hk,G,hs,hz,r⟩
 ·obtain⟨z,its,r,p⟩:=h.ok I.hok;exact⟨its,r,p,z⟩
 ·refine⟨its.toList,r,⟨o,I.kIn a o hk,G,n,by simpa using hs⟩,?_⟩;have e:=r.length;simp only[Ie] at e;omega
theorem Inv.list_inj (I:Inv X pins σ H s) (h:SqL X.K H a xs) (h':SqL X.K H a ys):xs=ys:=by
 obtain⟨its,r,⟨o,n,e,_,_,d⟩,_⟩:=I.list h;obtain⟨its',r',⟨o',ν,τ,_,_,d'⟩,_⟩:=I.list h';rw[e] at τ;cases τ;rw[d] at d';injection d' with ω _
 have:its=its':=by simpa using Hm On ω
 subst this;exact r.inj r'
theorem Inv.tuple_inj (I:Inv X pins σ H s) (h:SqT X.K H a xs) (h':SqT X.K H a ys):xs=ys:=by
 obtain⟨its,r,⟨o,e,_,n,d⟩,_⟩:=I.tuple h;obtain⟨its',r',⟨o',τ,_,ν,d'⟩,_⟩:=I.tuple h';rw[e] at τ;cases τ;rw[d] at d';injection d' with ω _
 have:its=its':=by simpa using Hm On ω
 subst this;exact r.inj r'
end
noncomputable abbrev Cx.wish (X:Cx) (E:D'):Cx:={X with xe:=E}
noncomputable abbrev Cx.nox (X:Cx):Cx:=X.wish λ_ _=>False
theorem Cx.Ok.wish {X:Cx} (ok:X.Ok) (E:D'):(X.wish E).Ok:=
 ⟨ok.mod,ok.kind,ok.glob,ok.blt,ok.above,ok.inj,ok.has,ok.cab,ok.hd,ok.frames,ok.stk,ok.exf,ok.bs,ok.bsz,ok.noex,ok.exfs,ok.funs,ok.frf⟩
theorem Cx.Ok.unwish {X:Cx} {E:D'} (ok:(X.wish E).Ok):X.Ok:=
 ⟨ok.mod,ok.kind,ok.glob,ok.blt,ok.above,ok.inj,ok.has,ok.cab,ok.hd,ok.frames,ok.stk,ok.exf,ok.bs,ok.bsz,ok.noex,ok.exfs,ok.funs,ok.frf⟩
section
variable {X:Cx} {pins:E'} {σ:St} {H:Hp} {s:f'} {E:D'}
theorem Inv.wish (I:Inv X pins σ H s) (E:D'):Inv (X.wish E) pins σ H s:=⟨I.ok.wish E,I.os,I.bare,I.base,I.loc,I.cell,I.free,I.freeC,I.pin,I.hok,I.len⟩
theorem Inv.unwish (I:Inv (X.wish E) pins σ H s):Inv X pins σ H s:=⟨I.ok.unwish,I.os,I.bare,I.base,I.loc,I.cell,I.free,I.freeC,I.pin,I.hok,I.len⟩
theorem SP.unwish {D:Ends} {f:Flow} {s':f'} (h:SP (X.wish E) pins D f s'):SP X pins D f s':=by
 cases f with
 | next=>obtain⟨σ',H',I,q⟩:=h;exact⟨σ',H',I.unwish,q⟩
 | brk=>obtain⟨σ',H',I,q⟩:=h;exact⟨σ',H',I.unwish,q⟩
 | cont=>obtain⟨σ',H',I,q⟩:=h;exact⟨σ',H',I.unwish,q⟩
 | ret u=>obtain⟨v,σ',H',I,r,q⟩:=h;exact⟨v,σ',H',I.unwish,r,q⟩
theorem PSs.nox {st:ef JQ} {t:TS} (h:PSs X.nox st t):PSs X st t:=λpins s σ H D I hw=>
 IY (h pins s σ H D (I.wish _) hw) (λ_ _ q=>q.unwish) λ_ _ z=>Hr z
end
section
variable {X:Cx} {st:JQ} {rest:ef JQ} {t u:TS} {e:Hi} {te:TE} {pos:Pos}
noncomputable def Ek:TS:=λD σ H=>D.nx σ H
noncomputable def tSeq (t u:TS):TS:=λD σ H=>t {D with nx:=u D} σ H
theorem be:PSs X [] Ek:=λ_ _ σ H _ I h=>Lj ⟨σ,H,I,h⟩
theorem ae (h1:PS X st t) (h2:PSs X rest u):PSs X (st::rest) (tSeq t u):=by
 intro pins s σ H D I h;refine Mg (thn (h1 pins s σ H {D with nx:=u D} I h) λf G q=>?_);cases f with
 | next=>
   obtain⟨σ',H',J,q⟩:=q;exact h2 pins G σ' H' D J q
 | ret v=>exact q
 | brk=>exact q
 | cont=>exact q
theorem aj (h1:PS X st t):PSs X [st] t:=by
 intro pins s σ H D I h;refine Mg (thn (h1 pins s σ H D I h) λf G q=>?_);cases f with
 | next=>exact Lj q
 | ret v=>exact q
 | brk=>exact q
 | cont=>exact q
theorem Inv.quiet {pins:E'} {σ:St} {H:Hp} {s:f'} (I:Inv X pins σ H s):interactive X.env=false:=by simp[interactive,I.ok.kind]
noncomputable abbrev Gp (te:TE):TS:=λD σ H=>te σ H λ_ H1=>D.nx σ H1
theorem eE (he:PE X e te) (hs:swapsWith e eH pos.line X.env=pure false:=by rfl):PS X (.Expr e pos) (Gp te):=by
 intro pins s σ H D I h;exact wpAny_Expr_any (thn (he pins s σ H _ I h) λv L ⟨x,H1,J,Y,G⟩=>⟨σ,H1,J,G⟩) I.quiet hs
noncomputable abbrev tRet (te:TE):TS:=λD σ H=>te σ H D.rt
theorem aI (he:PE X e te):PS X (.Return (aT e) pos) (tRet te):=by
 intro pins s σ H D I h;exact wpAny_Return_some (thn (he pins s σ H _ I h) λv Y ⟨x,H1,L,G,J⟩=>⟨x,σ,H1,L,G,J⟩)
noncomputable abbrev tIfS (c:TT) (t u:TS):TS:=λD σ H=>c σ H λb H1=>if b=true then t D σ H1 else u D σ H1
theorem dz {c:Hi} {a b:ef JQ} {tc:TT} (hc:PT X c tc) (ha:PSs X a t) (hb:PSs X b u):PS X (.If c a b pos) (tIfS tc t u):=by
 intro pins s σ H D I h;refine wpAny_If (thn (hc pins s σ H _ I h) λd G ⟨H1,L,J⟩=>?_);cases d with
 | true=>exact ha pins G σ H1 D L J
 | false=>exact hb pins G σ H1 D L J
end
noncomputable abbrev TG:=V->St->Hp->(St->Hp->Prop)->Prop
noncomputable abbrev TGs:=ef V->St->Hp->(St->Hp->Prop)->Prop
def PG (X:Cx) (L:Hi) (t:TG):Prop:=
 ∀(pins:E') (s:f') (σ:St) (H:Hp) (v:V) (u:hG) (Q:St->Hp->Prop),Inv X pins σ H s->RelV v u->t v σ H Q->
  hQ (lT X.prog X.w) X.A (assign L X.env u) (λ_ s'=>∃σ' H',Inv X pins σ' H' s'/\Q σ' H') X.xe s
def PGs (X:Cx) (G:ef Hi) (t:TGs):Prop:=
 ∀(pins:E') (s:f') (σ:St) (H:Hp) (vs:ef V) (us:F') (Q:St->Hp->Prop),Inv X pins σ H s->Vals vs us->t vs σ H Q->
  hQ (lT X.prog X.w) X.A (assignInOrder ((assignEach G X.env).map (·.2)) us) (λ_ s'=>∃σ' H',Inv X pins σ' H' s'/\Q σ' H') X.xe s
section
variable {X:Cx} {pos:Pos}
noncomputable def wN (i:Nat):TG:=λv σ H Q=>Q (σ.set i (aT v)) H
theorem aw {i:Nat} {x:Hk} (G:X.N.Nodup) (hi:X.N[i]? =aT x) (hx:Loc X.env.scope x) (hf:X.fn x=true∨X.env.scope.names.lookup x=aT .local:=by first | exact .inl rfl | exact .inr rfl | assumption):PG X (.Name x pos) (wN i):=by
 intro pins s σ H v u Q I r h;exact M3 (vj I G hi hx r (λs' J=>⟨_,H,J,h⟩) hf)
noncomputable def gNil:TGs:=λvs σ H Q=>vs=[]/\Q σ H
noncomputable def DK (t:TG) (u:TGs):TGs:=λvs σ H Q=>∃v r,vs=v::r/\t v σ H fun σ' H'=>u r σ' H' Q
theorem dA:PGs X [] gNil:=by
 intro pins s σ H vs us Q I r h;obtain⟨e,h⟩:=h;subst e;cases r;exact assignInOrder_nil ⟨σ,H,I,h⟩
theorem aG {e:Hi} {es:ef Hi} {t:TG} {u:TGs} (h1:PG X e t) (h2:PGs X es u)
  (hs:(assignEach (e::es) X.env).map (·.2)=assign e X.env::(assignEach es X.env).map (·.2):=by rfl):PGs X (e::es) (DK t u):=by
 intro pins s σ H vs us Q I r h;obtain⟨v,α,e1,h⟩:=h;subst e1;cases r with
 | cons r L=>
   rw[hs];refine assignInOrder_cons (thn (h1 pins s σ H _ _ _ I r h) λ_ J ⟨G,H1,Z,Y⟩=>?_);exact h2 pins J G H1 _ _ Q Z L Y
noncomputable def gTup (K:a') (n:Nat) (t:TGs):TG:=λv σ H Q=>∃a xs,v= .ref a/\SqT K H a xs/\xs.length=n/\t xs σ H Q
theorem nM {es:ef Hi} {k:Nat} {t:TGs} {n:Nat} (hc:X.calm=true) (h:PGs X es t)
  (hn:(assignEach es X.env).length=n:=by rfl) (G:(assignEach es X.env).findIdx? (·.1)=none:=by rfl):PG X (.Tuple es k pos) (gTup X.K n t):=by
 intro pins s σ H v u Q I r hw;obtain⟨a,xs,e1,Y,Z,hw⟩:=hw;subst e1;cases r;obtain⟨its,J,ht,hz⟩:=I.tuple Y;refine assign_Tuple_tuple (I.ok.hd hc) ht (by simp[hn,<-Z,J.length]) G λh' L=>?_;have α:Inv X pins σ H {s with heap:=h'}:=I.kept (t':=s.toks) λb o e=>L b o (Hl (gA e)) e;exact h pins _ σ H xs _ Q α (by simpa using J) hw
noncomputable abbrev tAsg (te:TE) (g:TG):TS:=λD σ H=>te σ H λx H1=>g x σ H1 D.nx
theorem vo {tg e:Hi} {te:TE} {g:TG} (he:PE X e te) (Y:PG X tg g) (hs:swapsWithSole [tg] e pos.line X.env=pure false:=by rfl) (hw:swappedStores [tg] e X.env=pure none:=by rfl)
  (h1:(assignEach [tg] X.env).map (·.2)=[assign tg X.env]:=by rfl):PS X (.Assign [tg] e pos) (tAsg te g):=by
 intro pins s σ H D I h;refine wpAny_Assign_stores (thn (he pins s σ H _ I h) λv G ⟨x,H1,Z,J,L⟩=>?_) hs hw;rw[h1];exact thn (Y pins G σ H1 x v _ Z J L) λ_ α q=>q
theorem ay {i:Nat} {x:Hk} {e:Hi} {te:TE} {pos':Pos} (L:X.N.Nodup) (hi:X.N[i]? =aT x) (hx:Loc X.env.scope x) (he:PE X e te) (hs:swapsWith e (aT (.Name x pos')) pos.line X.env=pure false:=by rfl) (hf:X.fn x=true∨X.env.scope.names.lookup x=aT .local:=by first | exact .inl rfl | exact .inr rfl | assumption):
  PS X (.Assign [.Name x pos'] e pos) (tAsg te (wN i)):=by
 intro pins s σ H D I h;refine wpAny_Assign_Name (thn (he pins s σ H _ I h) λv β ⟨y,H1,Z,G,J⟩=>?_) hs;exact vj Z L hi hx G (fun α Y=>⟨_,H1,Y,J⟩) hf
end
section
variable {X:Cx} {pos:Pos}
noncomputable def Ej (c:TT) (tb:TS):TS:=λD σ H=>∃W:Nat->St->Hp->Prop,(∃m,W m σ H)/\∀m σ H,W m σ H->
 c σ H λb H1=>if b=true then ∃N:St->Hp->Prop,(∀σ' H',N σ' H'->∃χ,χ < m/\W χ σ' H')/\tb {D with nx:=N,ct:=N,bk:=D.nx} σ H1 else D.nx σ H1
theorem vn {c:Hi} {Y:ef JQ} {tc:TT} {tb:TS} (δ:PassesOwn (lT X.prog X.w) X.A X.env X.xe) (hc:PT X c tc) (hb:PSs X Y tb):PS X (.While c Y [] pos) (Ej tc tb):=by
 intro pins s σ H D I h;obtain⟨W,⟨ο,w0⟩,θ⟩:=h;refine wpAny_While (codeAny_whileLoop (λn s'=>∃σ' H',Inv X pins σ' H' s'/\W n σ' H') ?_ ο ⟨σ,H,I,w0⟩);rintro n ξ ⟨L,H1,π,η⟩;refine JF δ (thn (hc pins ξ L H1 _ π (θ n L H1 η)) λb ι ⟨H2,ζ,ν⟩=>?_);cases b with
 | true=>
   obtain⟨N,ε,ν⟩:=ν;rw[pe rfl];refine JF δ (thn (hb pins ι L H2 _ ζ ν) λf ρ Z=>?_);cases f with
   | next=>
     obtain⟨J,G,γ,β⟩:=Z;obtain⟨χ,hm,α⟩:=ε J G β;exact⟨χ,hm,J,G,γ,α⟩
   | cont=>
     obtain⟨J,G,γ,β⟩:=Z;obtain⟨χ,hm,α⟩:=ε J G β;exact⟨χ,hm,J,G,γ,α⟩
   | brk=>exact Z
   | ret v=>exact Z
 | false=>
   rw[nk gn];exact Lj ⟨L,H2,ζ,ν⟩
end
structure It where
 go:Nat->Hp->Prop
 yld:Nat->Hp->V->Hp->Prop
 stop:Nat->Hp->Prop
def FpOk (X:Cx) (pins:E') (H:Hp) (b:ee):Prop:=
 H b=eH/\b≠X.env.locals/\b∉X.fs/\(b∈X.ex∨X.s₀.heap.objs.size<=b)/\(∀x c,X.env.cells.lookup x=aT c->c≠b)/\∀p∈X.pn++pins,p.1≠b
theorem Inv.fpOk {X:Cx} {pins:E'} {σ:St} {H H':Hp} {s:f'} {b:ee} (I:Inv X pins σ H s) (hb:s.heap.objs.size<=b) (hn:H' b=eH):FpOk X pins H' b:=by
 refine⟨hn,Ig (eu I.lt hb),I.nofs hb,.inr (Ih I.sz hb),λx c e z=>?_,λp G z=>?_⟩
 ·obtain⟨v,q⟩:=I.cell x c e;exact hE (eu q.lt (by rw[z];exact hb)) (IV _)
 ·exact hE (eu (gA (I.pin p G).1) (by rw[z];exact hb)) (IV _)
structure Turn (P:px) (w:wq) (K:a') (tg:Hi) (J:It) (fp:HJ) (it:ee) (tn:Nat->zx->Prop):Prop where
 mem:it∈fp
 obj:∀i h,tn i h->∀b∈fp,∃o,h.get? b=aT o/\∀v,o.data≠.cell v
 keep:∀i h h',tn i h->(∀b∈fp,∀o,h.get? b=aT o->h'.get? b=aT o)->tn i h'
 item:∀(X:Cx),X.prog=P->X.w=w->X.K=K->X.calm=true->∀(i:Nat) (pins:E') (s:f') (σ:St) (H:Hp) (E:D'),Inv X pins σ H s->(∀b∈fp,FpOk X pins H b)->tn i s.heap->J.go i H->
  hQ (lT P w) X.A (pyNext (.ref it)) (λr s1=>∃u,r=aT u/\
   hQ (lT P w) X.A (letOwnedTupleGo tg (.ref it) u) (λ_ s2=>∃x H',Inv X pins σ H' s2/\RelV x u/\J.yld i H x H'/\tn (i + 1) s2.heap/\∀b∈fp,H' b=eH) E s1) E s
 done:∀(X:Cx),X.prog=P->X.w=w->X.K=K->X.calm=true->∀(i:Nat) (pins:E') (s:f') (σ:St) (H:Hp) (E:D'),Inv X pins σ H s->(∀b∈fp,FpOk X pins H b)->tn i s.heap->J.stop i H->
  hQ (lT P w) X.A (pyNext (.ref it)) (λr s1=>r=eH/\Inv X pins σ H s1) E s
 self:∀(A:Hg) (i:Nat) (s:f') (Q:D') (E:D'),tn i s.heap->Q (.ref it) s->hQ (lT P w) A (pyIter (.ref it)) Q E s
noncomputable abbrev TI:=St->Hp->(It->Hp->Prop)->Prop
def PIE (X:Cx) (pins:E') (σ:St) (tg:Hi) (R:It->Hp->Prop) (G:hG) (L:f'):Prop:=
 ∃(it:ee) (Y:HJ) (I:Nat->zx->Prop) (J:It) (H':Hp),G= .ref it/\Inv X pins σ H' L/\Turn X.prog X.w X.K tg J Y it I/\I 0 L.heap/\(∀b∈Y,FpOk X pins H' b)/\R J H'
def PI (X:Cx) (tg iter:Hi) (G:TI):Prop:=
 ∀(pins:E') (s:f') (σ:St) (H:Hp) (R:It->Hp->Prop),Inv X pins σ H s->G σ H R->
  hQ (lT X.prog X.w) X.A (eval iter X.env) (λv I=>hQ (lT X.prog X.w) X.A (pyIter v) (PIE X pins σ tg R) X.xe I) X.xe s
theorem DI {M:Model} {A:Hg} {E:D'} {s:f'} {tg:Hi} {it:ee} {u:hG} {o:Mm} {n:IU} {vs:HG} {Q:HI} (ho:s.heap.get? it=aT o) (hc:o.cls= .type n) (hd:o.data= .fields vs)
  (hn:["enumerate","zip","dict_itemiterator","dict_reverseitemiterator","odict_iterator","itertools.zip_longest","itertools.pairwise"].contains n=false) (ψ:Q () s):hQ M A (letOwnedTupleGo tg (.ref it) u) Q E s:=by
 unfold letOwnedTupleGo
 cases tg<;>first
  | exact hP ψ
  | (cases u<;>first
    | exact hP ψ
    | (refine dt (Ob ho ?_)
       rw[hc,hd];show hQ M A (if (["enumerate","zip","dict_itemiterator","dict_reverseitemiterator","odict_iterator","itertools.zip_longest","itertools.pairwise"].contains n&&vs[0]? == aT (rawInt _))=true then _ else _) Q E s;rw[nk (by intro h;rw[hn,oT] at h;cases h)];exact hP ψ))
noncomputable def Itl (K:a') (a:ee):It:=
 ⟨λi H=>∃xs x,SqL K H a xs/\xs[i]? =aT x,λi H x H'=>H'=H/\∀xs,SqL K H a xs->xs[i]? =aT x,λi H=>∃xs,SqL K H a xs/\xs.length<=i⟩
noncomputable def Itt (K:a') (a:ee):It:=
 ⟨λi H=>∃xs x,SqT K H a xs/\xs[i]? =aT x,λi H x H'=>H'=H/\∀xs,SqT K H a xs->xs[i]? =aT x,λi H=>∃xs,SqT K H a xs/\xs.length<=i⟩
noncomputable def Itr (lo:Int) (n:Nat):It:=⟨λi _=>i < n,λi H x H'=>H'=H/\x= .int (lo + i),λi _=>n<=i⟩
theorem xG {P:px} {w:wq} {K:a'} {tg:Hi} (a it:ee):Turn P w K tg (Itl K a) [it] it (λi h=>h.IsListIter it a i) where
 mem:=by simp
 obj:=λi h st b hb=>by
  have e:b=it:=by simpa using hb
  subst e;obtain⟨o,e,c,d⟩:=st;exact⟨o,e,λv z=>by rw[d] at z;cases z⟩
 keep:=λi h h' st k=>st.at λo e=>k it @E o e
 item:=by
  intro X τ hw γ θ i pins s σ H E I hf st α;subst τ hw γ;obtain⟨xs,x,L,Z⟩:=α;obtain⟨its,Y,p,hz⟩:=I.list L;obtain⟨u,β,ι⟩:=Y.get Z;obtain⟨ζ,ε,η,ψ,G,δ⟩:=hf it @E;refine wpAny_pyNext_list_item st p.isList (x:=u) (by simpa using β) λh' J ξ=>?_;have π:Inv X pins σ H {s with heap:=h'}:=I.turned (t':=s.toks) (λb o hb e=>(ξ.2 b hb).trans e) ζ ε ψ G δ;obtain⟨o,e,c,d⟩:=id J;exact⟨u,rfl,DI (s:={s with heap:=h'}) e c d @C ⟨x,H,π,ι,⟨rfl,λys ν=>by rw[I.list_inj ν L];exact Z⟩,J,λb hb=>(hf b hb).1⟩⟩
 done:=by
  intro X τ hw γ θ i pins s σ H E I hf st α;subst τ hw γ;obtain⟨xs,L,Z⟩:=α;obtain⟨its,Y,p,hz⟩:=I.list L;obtain⟨ζ,ε,η,ψ,G,δ⟩:=hf it @E;have ρ:=Y.length;exact wpAny_pyNext_list_end (I.ok.hd θ) st p.isList (by simp;omega) λh' ο=>⟨rfl,I.turned (t':=s.toks) (λb o hb e=>ο b o hb e) ζ ε ψ G δ⟩
 self:=λ_ _ _ _ _ st h=>wpAny_pyIter_listiter st h
theorem vS {P:px} {w:wq} {K:a'} {tg:Hi} (a it:ee):Turn P w K tg (Itt K a) [it] it (λi h=>h.IsTupleIter it a i) where
 mem:=by simp
 obj:=λi h st b hb=>by
  have e:b=it:=by simpa using hb
  subst e;obtain⟨o,e,c,d⟩:=st;exact⟨o,e,λv z=>by rw[d] at z;cases z⟩
 keep:=λi h h' st k=>st.at λo e=>k it @E o e
 item:=by
  intro X τ hw γ θ i pins s σ H E I hf st α;subst τ hw γ;obtain⟨xs,x,L,Z⟩:=α;obtain⟨its,Y,p,hz⟩:=I.tuple L;obtain⟨u,β,ι⟩:=Y.get Z;obtain⟨ζ,ε,η,ψ,G,δ⟩:=hf it @E;refine wpAny_pyNext_tuple_item st (show s.heap.IsTuple a its.toArray from p) (x:=u) (by simpa using β) λh' J ξ=>?_;have π:Inv X pins σ H {s with heap:=h'}:=I.turned (t':=s.toks) (λb o hb e=>(ξ.2 b hb).trans e) ζ ε ψ G δ;obtain⟨o,e,c,d⟩:=id J;exact⟨u,rfl,DI (s:={s with heap:=h'}) e c d @C ⟨x,H,π,ι,⟨rfl,λys ν=>by rw[I.tuple_inj ν L];exact Z⟩,J,λb hb=>(hf b hb).1⟩⟩
 done:=by
  intro X τ hw γ θ i pins s σ H E I hf st α;subst τ hw γ;obtain⟨xs,L,Z⟩:=α;obtain⟨its,Y,p,hz⟩:=I.tuple L;obtain⟨ζ,ε,η,ψ,G,δ⟩:=hf it @E;have ρ:=Y.length;exact wpAny_pyNext_tuple_end (I.ok.hd θ) st (show s.heap.IsTuple a its.toArray from p) (by simp;omega) λh' ο=>⟨rfl,I.turned (t':=s.toks) (λb o hb e=>ο b o hb e) ζ ε ψ G δ⟩
 self:=λ_ _ _ _ _ st h=>wpAny_pyIter_tupleiter st h
theorem vT {P:px} {w:wq} {K:a'} {tg:Hi} (it:ee) (lo:Int) (n:Nat):Turn P w K tg (Itr lo n) [it] it (λi h=>IsRangeIter h it (lo + (i:Nat) * 1) ((n:Int) - (i:Nat)) 1) where
 mem:=by simp
 obj:=λi h st b hb=>by
  have e:b=it:=by simpa using hb
  subst e
  exact⟨_,st,λv z=>by
   have J:Data.fields _=Km v:=z;cases J⟩
 keep:=λi h h' st k=>k it @E _ st
 item:=by
  intro X τ hw α Z i pins s σ H E I hf st Y;subst τ hw α;obtain⟨δ,γ,η,ψ,G,β⟩:=hf it @E;have W:=Walks.range (prog:=X.prog) (w:=X.w) (I.ok.hd Z) it lo 1 n;refine W.item i s _ _ Y st λv h' tk ζ L ε=>?_;obtain⟨t,rfl⟩:=ζ;have ι:Inv X pins σ H {s with heap:=h',toks:=tk}:=I.turned (λb o hb e=>ε b o (by simpa using hb) e) δ γ ψ G β;refine⟨_,rfl,DI (s:={s with heap:=h',toks:=tk}) (n:="range_iterator") L rfl rfl @C ⟨.int (lo + i),H,ι,⟨t,?_⟩,⟨rfl,rfl⟩,L,λb hb=>(hf b hb).1⟩⟩;rw[Int.mul_one]
 done:=by
  intro X τ hw α Z i pins s σ H E I hf st Y;subst τ hw α;obtain⟨δ,γ,η,ψ,G,β⟩:=hf it @E;exact wpAny_pyNext_range_end (I.ok.hd Z) st (by have:n<=i:=Y;omega) λh' θ=>⟨rfl,I.turned (t':=s.toks) (λb o hb e=>θ b o hb e) δ γ ψ G β⟩
 self:=λ_ _ _ _ _ st h=>wpAny_pyIter_rangeiter st h
section
variable {X:Cx} {tg:Hi}
noncomputable abbrev FJ (K:a') (tl:TE):TI:=fun σ H R=>tl σ H λx H1=>∃a,x= .ref a/\(∃xs,SqL K H1 a xs)/\R (Itl K a) H1
noncomputable abbrev iTup (K:a') (tl:TE):TI:=fun σ H R=>tl σ H λx H1=>∃a,x= .ref a/\(∃xs,SqT K H1 a xs)/\R (Itt K a) H1
theorem CT {l:Hi} {tl:TE} (Z:PE X l tl):PI X tg l (FJ X.K tl):=by
 intro pins s σ H R I h;refine thn (Z pins s σ H _ I h) λv G ⟨x,H1,I1,J,L⟩=>?_;obtain⟨a,e,⟨xs,Y⟩,q⟩:=L;subst e;cases J;obtain⟨its,α,p,hz⟩:=I1.list Y;refine Oq p.isList ?_;refine⟨G.heap.objs.size,[G.heap.objs.size],_,_,H1,rfl,I1.kept (t':=G.toks) λb o e=>ek _ e,xG a _,⟨_,la _ rfl,rfl,rfl⟩,λb hb=>?_,q⟩;have e:b=G.heap.objs.size:=by simpa using hb
 subst e;exact I1.fpOk (ov _) (I1.hok.fresh (ov _))
theorem Fe {l:Hi} {tl:TE} (Z:PE X l tl):PI X tg l (iTup X.K tl):=by
 intro pins s σ H R I h;refine thn (Z pins s σ H _ I h) λv G ⟨x,H1,I1,J,L⟩=>?_;obtain⟨a,e,⟨xs,Y⟩,q⟩:=L;subst e;cases J;obtain⟨its,α,p,hz⟩:=I1.tuple Y;refine KL (show G.heap.IsTuple a its.toArray from p) ?_;refine⟨G.heap.objs.size,[G.heap.objs.size],_,_,H1,rfl,I1.kept (t':=G.toks) λb o e=>ek _ e,vS a _,⟨_,la _ rfl,rfl,rfl⟩,λb hb=>?_,q⟩;have e:b=G.heap.objs.size:=by simpa using hb
 subst e;exact I1.fpOk (ov _) (I1.hok.fresh (ov _))
theorem An {pins:E'} {σ:St} {H:Hp} {s:f'} {R:It->Hp->Prop} {E:D'} {lo hi:Int} {t u v:Tok} {tk:Nat} (I:Inv X pins σ H s) (h1: -(2 ^ 62)<=lo) (h2:lo < 2 ^ 62) (G: -(2 ^ 62)<=hi) (θ:hi < 2 ^ 62)
  (q:R (Itr lo (hi - lo).toNat) H):hQ (lT X.prog X.w) X.A (pyIter (.ref s.heap.objs.size)) (PIE X pins σ tg R) E {s with heap:=s.heap.push {cls:= .type "range",data:= .fields #[.int lo t,.int hi u,.int 1 v]},toks:=tk}:=by
 refine wpAny_pyIter_range (MB ..) (small_one h1 h2 G θ) ?_;have I1:Inv X pins σ H {s with heap:=s.heap.push {cls:= .type "range",data:= .fields #[.int lo t,.int hi u,.int 1 v]},toks:=tk}:=I.kept λb o e=>ek _ e
 refine⟨(s.heap.push {cls:= .type "range",data:= .fields #[.int lo t,.int hi u,.int 1 v]}).objs.size,[(s.heap.push {cls:= .type "range",data:= .fields #[.int lo t,.int hi u,.int 1 v]}).objs.size],_,_,H,rfl,
  I1.kept (t':=tk) λb o e=>ek _ e,vT _ lo (hi - lo).toNat,?_,λb hb=>?_,q⟩
 ·have e1:lo + ((0:Nat):Int) * 1=lo:=by simp
  have J:(((hi - lo).toNat:Nat):Int) - ((0:Nat):Int)=Ki lo hi 1:=by rw[N5];split<;>omega
  show IsRangeIter _ _ (lo + ((0:Nat):Int) * 1) ((((hi - lo).toNat:Nat):Int) - ((0:Nat):Int)) 1;rw[e1,J];exact la _ rfl
 ·have e:b=(s.heap.push {cls:= .type "range",data:= .fields #[.int lo t,.int hi u,.int 1 v]}).objs.size:=by simpa using hb
  subst e;exact I1.fpOk (ov _) (I1.hok.fresh (ov _))
noncomputable abbrev GX (ta:TA):TI:=fun σ H R=>ta σ H λvs H1=>∃j:Int,vs=[.int j]/\-(2 ^ 62)<=j/\j < 2 ^ 62/\R (Itr 0 j.toNat) H1
theorem cD {a:Hi} {ta:TA} {p pos:Pos} (Y:Gl X "range") (hm:X.mg "range"=eH) (ha:PA X [a] ta) (hs:oD [a] X.env=[(false,eval a X.env)]:=by rfl):PI X tg (.Call (.Name "range" p) [a] [] pos) (GX ta):=by
 intro pins s σ H R I h;refine N9 (iS I Y hm Of (Hh (thn (ha pos pins s σ H _ I h) λus α ⟨vs,H1,Z,L,G⟩=>?_) hs rfl));obtain⟨j,e,G,ν,q⟩:=G;subst e;cases L with
 | cons r J=>
   cases J;obtain⟨t,rfl⟩:=r;exact Nk (An Z @A @A G ν (by simpa using q))
noncomputable def tFor (I:TI) (g:TG) (tb:TS):TS:=λD σ H=>I σ H λJ H1=>∃W:Nat->Nat->St->Hp->Prop,(∃m,W 0 m σ H1)/\∀i m σ H,W i m σ H->
 (J.stop i H/\D.nx σ H)∨(J.go i H/\∃N:St->Hp->Prop,(∀σ' H',N σ' H'->∃χ,χ < m/\W (i + 1) χ σ' H')/\∀x H',J.yld i H x H'->g x σ H' λG H2=>tb {D with nx:=N,ct:=N,bk:=D.nx} G H2)
noncomputable def qf (G:HJ) (h:zx):E':=G.filterMap λb=>(h.get? b).map λo=>(b,o)
theorem fZ {G:HJ} {h:zx} {b:ee} {o:Mm} (hb:b∈G) (e:h.get? b=aT o):(b,o)∈qf G h:=Ni.mpr ⟨b,hb,by rw[e];rfl⟩
theorem yq {G:HJ} {h:zx} {p:ee×Mm} (I:p∈qf G h):p.1∈G/\h.get? p.1=aT p.2:=by
 obtain⟨b,hb,e⟩:=Ni.mp I;cases q:h.get? b with
 | none=>rw[q] at e;cases e
 | some o=>
   rw[q] at e;have τ:(b,o)=p:=iv e;subst τ;exact⟨hb,q⟩
theorem Inv.pinned {pins:E'} {σ:St} {H:Hp} {s:f'} {G:HJ} (I:Inv X pins σ H s) (hf:∀b∈G,FpOk X pins H b) (ho:∀b∈G,∃o,s.heap.get? b=aT o/\∀v,o.data≠.cell v):Inv X (pins++qf G s.heap) σ H s:=
 I.pins_of λp J=>(lx.mp J).elim (λz=>I.pin p (hH _ z)) λz=>by
  obtain⟨hb,e⟩:=yq z;obtain⟨Y,L,η,_⟩:=hf p.1 hb;obtain⟨o,τ,d⟩:=ho p.1 hb;rw[e] at τ;cases τ;exact⟨e,Y,L,η,d⟩
theorem Inv.unpinned {pins pl:E'} {σ:St} {H:Hp} {s:f'} (I:Inv X (pins++pl) σ H s):Inv X pins σ H s:=I.pins_of λp G=>I.pin p (hH _ (n' _ G))
theorem gM {iter:Hi} {β:ef JQ} {ω:TI} {g:TG} {tb:TS} {pos:Pos} (ζ:PassesOwn (lT X.prog X.w) X.A X.env X.xe) (hc:X.calm=true) (hi:PI X tg iter ω) (hg:PG X tg g) (hb:PSs X β tb)
  (hs:∀x,foldedSetIterable iter X.env x=pure x:=by intro _;rfl):PS X (.For tg iter β [] pos) (tFor ω g tb):=by
 intro pins s σ H D I h;refine wpAny_For (thn (hi pins s σ H _ I h) λv s1 h1=>thn h1 λa0 s2 h2=>?_) hs;obtain⟨it,ο,tn,J,H2,e,I2,T,ρ,η,W,⟨m0,w0⟩,θ⟩:=h2;subst e;have ι:∀{H':Hp},(∀b∈ο,H' b=eH)->∀b∈ο,FpOk X pins H' b:=λhn b hb=>⟨hn b hb,(η b hb).2⟩;refine codeAny_forLoop_any (λn s'=>∃i σ' H',Inv X pins σ' H' s'/\tn i s'.heap/\(∀b∈ο,H' b=eH)/\W i n σ' H') ?_ m0 ⟨0,σ,H2,I2,ρ,λb hb=>(η b hb).1,w0⟩;rintro n s3 ⟨i,Z,G,I3,δ,ν,w3⟩;rcases θ i n Z G w3 with ⟨stop,qn⟩ | ⟨go,N,hN,step⟩
 ·refine JF ζ (thn (T.done X rfl rfl rfl hc i pins s3 Z G X.xe I3 (ι ν) δ stop) λr ξ ⟨τ,I4⟩=>?_);subst τ;exact Lj ⟨Z,G,I4,qn⟩
 ·refine JF ζ (thn (T.item X rfl rfl rfl hc i pins s3 Z G X.xe I3 (ι ν) δ go) λr ξ ⟨u,τ,h4⟩=>?_);subst τ;refine JF ζ (thn h4 λ_ s5 ⟨x,H5,I5,r5,y5,γ,φ⟩=>?_);have ψ:=I5.pinned (ι φ) (T.obj _ _ γ);refine JF ζ (thn (hg _ s5 Z H5 x u _ ψ r5 (step x H5 y5)) λ_ s6 ⟨π,H6,I6,q6⟩=>?_);refine JF ζ (thn (hb _ s6 π H6 _ I6 q6) λf L α=>?_)
  have again:∀{Y:St} {υ:Hp},Inv X (pins++qf ο s5.heap) Y υ L->N Y υ->∃m,m < n/\∃i σ' H',Inv X pins σ' H' L/\tn i L.heap/\(∀b∈ο,H' b=eH)/\W i m σ' H':=λ{Y υ} I7 ε=>by
   obtain⟨χ,hm,w7⟩:=hN Y υ ε;refine⟨χ,hm,i + 1,Y,υ,I7.unpinned,T.keep _ _ _ γ λb hb o e=>(I7.pin (b,o) (hH _ (hH _ (fZ hb e)))).1,λb hb=>?_,w7⟩;obtain⟨o,e,d⟩:=T.obj _ _ γ b hb;exact(I7.pin (b,o) (hH _ (hH _ (fZ hb e)))).2.1
  cases f with
  | next=>obtain⟨Y,υ,I7,ε⟩:=α;exact again I7 ε
  | cont=>obtain⟨Y,υ,I7,ε⟩:=α;exact again I7 ε
  | brk=>obtain⟨Y,υ,I7,α⟩:=α;exact⟨Y,υ,I7.unpinned,α⟩
  | ret v=>obtain⟨x7,Y,υ,I7,r7,α⟩:=α;exact⟨x7,Y,υ,I7.unpinned,r7,α⟩
end
theorem jK {K:a'} {a:ee} {xs:ef V} {g:TG} {tb:TS} {D:Ends} {σ:St} {H:Hp} (G:Nat->St->Hp->Prop) (h0:G 0 σ H) (L:∀i σ H,i<=xs.length->G i σ H->SqL K H a xs)
  (hs:∀i x σ H,xs[i]? =aT x->G i σ H->g x σ H λI H2=>tb {D with nx:=G (i + 1),ct:=G (i + 1),bk:=D.nx} I H2) (hd:∀σ H,G xs.length σ H->D.nx σ H):
  ∃W:Nat->Nat->St->Hp->Prop,(∃m,W 0 m σ H)/\∀i m σ H,W i m σ H->
    ((Itl K a).stop i H/\D.nx σ H)∨((Itl K a).go i H/\∃N:St->Hp->Prop,(∀σ' H',N σ' H'->∃χ,χ < m/\W (i + 1) χ σ' H')/\∀x H',(Itl K a).yld i H x H'->g x σ H' λI H2=>tb {D with nx:=N,ct:=N,bk:=D.nx} I H2):=by
 refine⟨λi m σ H=>m=xs.length - i/\i<=xs.length/\G i σ H,⟨xs.length,@E,J1 _,h0⟩,?_⟩;rintro i m σ H ⟨rfl,hi,p⟩;have q:=L i σ H hi p;by_cases J:i < xs.length
 ·refine .inr ⟨⟨xs,xs[i],q,by simp[J]⟩,G (i + 1),fun σ' H' β=>⟨xs.length - (i + 1),by omega,rfl,J,β⟩,λx H' y=>?_⟩;obtain⟨e,y⟩:=y;subst e;exact hs i x σ _ (y xs q) p
 ·have e:i=xs.length:=by omega
  subst e;exact .inl ⟨⟨xs,q,ov _⟩,hd σ H p⟩
theorem ij {lo:Int} {n:Nat} {g:TG} {tb:TS} {D:Ends} {σ:St} {H:Hp} (J:Nat->St->Hp->Prop) (h0:J 0 σ H)
  (hs:∀i σ H,i < n->J i σ H->g (.int (lo + i)) σ H λG H2=>tb {D with nx:=J (i + 1),ct:=J (i + 1),bk:=D.nx} G H2) (hd:∀σ H,J n σ H->D.nx σ H):
  ∃W:Nat->Nat->St->Hp->Prop,(∃m,W 0 m σ H)/\∀i m σ H,W i m σ H->
    ((Itr lo n).stop i H/\D.nx σ H)∨((Itr lo n).go i H/\∃N:St->Hp->Prop,(∀σ' H',N σ' H'->∃χ,χ < m/\W (i + 1) χ σ' H')/\∀x H',(Itr lo n).yld i H x H'->g x σ H' λG H2=>tb {D with nx:=N,ct:=N,bk:=D.nx} G H2):=by
 refine⟨λi m σ H=>m=n - i/\i<=n/\J i σ H,⟨n,@E,J1 _,h0⟩,?_⟩;rintro i m σ H ⟨rfl,hi,p⟩;by_cases I:i < n
 ·refine .inr ⟨I,J (i + 1),fun σ' H' β=>⟨n - (i + 1),by omega,rfl,I,β⟩,λx H' y=>?_⟩;obtain⟨e,y⟩:=y;subst e y;exact hs i σ _ I p
 ·have e:i=n:=by omega
  subst e;exact .inl ⟨ov _,hd σ H p⟩
noncomputable abbrev R2:=V->V->Hp->VK->Prop
def OpR (X:Cx) (f:hG->hG->Sem hG) (r:R2):Prop:=
 ∀(pins:E') (s:f') (σ:St) (H:Hp) (x y:V) (v u:hG) (Q:VK),Inv X pins σ H s->RelV x v->RelV y u->r x y H Q->
  hQ (lT X.prog X.w) X.A (f v u) (EP X pins σ Q) X.xe s
def jT (X:Cx) (f:hG) (r:ef V->Hp->VK->Prop):Prop:=
 ∀(pins:E') (s:f') (σ:St) (H:Hp) (xs:ef V) (us:F') (Q:VK),Inv X pins σ H s->Vals xs us->r xs H Q->
  hQ (lT X.prog X.w) X.A (call f us) (EP X pins σ Q) X.xe s
noncomputable abbrev tOp (r:R2) (ta tb:TE):TE:=fun σ H Q=>ta σ H λx H1=>tb σ H1 λy H2=>r x y H2 Q
noncomputable def rI (C:Int->Int->Prop) (g:Int->Int->V):R2:=λx y H Q=>∃i j,x= .int i/\y= .int j/\C i j/\Q (g i j) H
noncomputable def rI0 (g:Int->Int->V):R2:=λx y H Q=>∃i j,x= .int i/\y= .int j/\Q (g i j) H
section
variable {X:Cx} {a b c:Hi} {ta tb tc:TE} {pos:Pos}
theorem binT (ha:PE X a ta) (hb:PE X b tb) {pins:E'} {s:f'} {σ:St} {H:Hp} {R:V->V->Hp->Prop} (I:Inv X pins σ H s)
  (h:ta σ H λx H1=>tb σ H1 λy H2=>R x y H2) {Q:D'} {f:hG->hG->Sem hG}
  (hf:∀v u L x y H2,Inv X pins σ H2 L->RelV x v->RelV y u->R x y H2->hQ (lT X.prog X.w) X.A (f v u) Q X.xe L):
  hQ (lT X.prog X.w) X.A (eval a X.env) (λv J=>hQ (lT X.prog X.w) X.A (eval b X.env) (λu G=>hQ (lT X.prog X.w) X.A (f v u) Q X.xe G) X.xe J) X.xe s:=by
 refine thn (ha pins s σ H _ I h) λv Y ⟨x,H1,δ,α,β⟩=>?_;refine thn (hb pins Y σ H1 _ δ β) λu L ⟨y,H2,γ,Z,ν⟩=>?_;exact hf v u L x y H2 γ α Z ν
theorem ar {G:Operator} {r:R2} (ho:OpR X (binaryOp G) r) (ha:PE X a ta) (hb:PE X b tb):PE X (.BinOp a G b pos) (tOp r ta tb):=by
 intro pins s σ H Q I h;exact wpAny_BinOp (binT ha hb I h λv u J x y H2 Z Y L q=>ho pins J σ H2 x y v u Q Z Y L q)
theorem opI {f:hG->hG->Sem hG} {C:Int->Int->Prop} {g:Int->Int->Int}
  (rule:∀(i j:Int) (t u:Tok) (s:f') (Q:D') (E:D'),C i j->Q (.int (g i j) s.toks) {s with toks:=s.toks + 1}->hQ (lT X.prog X.w) X.A (f (.int i t) (.int j u)) Q E s):
  OpR X f (rI C λi j=> .int (g i j)):=by
 intro pins s σ H x y v u Q I J G h;obtain⟨i,j,rfl,rfl,L,q⟩:=h;obtain⟨t,rfl⟩:=J;obtain⟨t',rfl⟩:=G;exact rule i j t t' s _ _ L ⟨.int (g i j),H,I.tok _,⟨_,rfl⟩,q⟩
theorem opI0 {f:hG->hG->Sem hG} {g:Int->Int->Int}
  (rule:∀(i j:Int) (t u:Tok) (s:f') (Q:D') (E:D'),Q (.int (g i j) s.toks) {s with toks:=s.toks + 1}->hQ (lT X.prog X.w) X.A (f (.int i t) (.int j u)) Q E s):
  OpR X f (rI0 λi j=> .int (g i j)):=by
 intro pins s σ H x y v u Q I J G h;obtain⟨i,j,rfl,rfl,q⟩:=h;obtain⟨t,rfl⟩:=J;obtain⟨t',rfl⟩:=G;exact rule i j t t' s _ _ ⟨.int (g i j),H,I.tok _,⟨_,rfl⟩,q⟩
theorem opB0 {f:hG->hG->Sem hG} {g:Int->Int->IA}
  (rule:∀(i j:Int) (t u:Tok) (s:f') (Q:D') (E:D'),Q (.bool (g i j)) s->hQ (lT X.prog X.w) X.A (f (.int i t) (.int j u)) Q E s):
  OpR X f (rI0 λi j=> .bl (g i j)):=by
 intro pins s σ H x y v u Q I J G h;obtain⟨i,j,rfl,rfl,q⟩:=h;obtain⟨t,rfl⟩:=J;obtain⟨t',rfl⟩:=G;exact rule i j t t' s _ _ ⟨.bl (g i j),H,I,rfl,q⟩
def CDiv (i j:Int):Prop:=0 < j/\j < 1073741824
def G7 (i j:Int):Prop:=j≠0/\j.natAbs < 1073741824
def CPow (i j:Int):Prop:=0<=j/\j<=1000000/\i.natAbs < 2 ^ 64
def CMul (i j:Int):Prop:=(-(2 ^ 64) < i/\i < 2 ^ 64)∨(-(2 ^ 64) < j/\j < 2 ^ 64)
theorem CMul.ok {i j:Int} (h:CMul i j):IntMulOk i j:=by
 rcases h with ⟨h1,h2⟩ | ⟨h1,h2⟩
 ·exact .of_left (intBits_le_64 h1 h2)
 ·exact .of_right (intBits_le_64 h1 h2)
theorem vR (k:Nat):(0:Int)<=2 ^ k:=by
 rw[two_pow_cast];exact Ls _
theorem cw:OpR X (binaryOp .Add) (rI0 λi j=> .int (i + j)):=opI0 λ_ _ _ _ _ _ _ q=>add_int q
theorem kL:OpR X (binaryOp .Sub) (rI0 λi j=> .int (i - j)):=opI0 λ_ _ _ _ _ _ _ q=>sub_int q
theorem mw:OpR X (binaryOp .Mult) (rI CMul λi j=> .int (i * j)):=opI λ_ _ _ _ _ _ _ hc q=>mul_int q hc.ok
theorem g6:OpR X (binaryOp .FloorDiv) (rI CDiv λi j=> .int (i / j)):=opI λi j _ _ _ _ _ hc q=>by
 have h1:(0:Int) < j:=hc.1;have h2:j < 1073741824:=hc.2;exact floordiv_int @A (by rw[Ky i @A];exact q) (.inl (Mi @A))
theorem cu:OpR X (binaryOp .Mod) (rI (λ_ j=>0 < j) λi j=> .int (i % j)):=opI λi j _ _ _ _ _ hc q=>by
 have h1:(0:Int) < j:=hc;exact mod_int' @A (by rw[Ml i @A];exact q)
theorem cE:OpR X (binaryOp .LShift) (rI CPow λi j=> .int (i * 2 ^ j.toNat)):=opI λ_ _ _ _ _ _ _ hc q=>lshift_int_small hc.1 hc.2.1 hc.2.2 q
theorem nS:OpR X (binaryOp .RShift) (rI (λ_ j=>0<=j) λi j=> .int (i / 2 ^ j.toNat)):=opI λi j _ _ _ _ _ hc q=>
 rshift_int hc (by rw[Ky i (vR _)];exact q)
theorem fO:OpR X (binaryOp .BitAnd) (rI0 λi j=> .int (Je i j)):=opI0 λ_ _ _ _ _ _ _ q=>and_int q
theorem Fl:OpR X (binaryOp .BitOr) (rI0 λi j=> .int (M6 i j)):=opI0 λ_ _ _ _ _ _ _ q=>or_int q
theorem jg:OpR X (binaryOp .BitXor) (rI0 λi j=> .int (KY i j)):=opI0 λ_ _ _ _ _ _ _ q=>xor_int q
end
noncomputable def scal:V->V->IA
 | .non,.non=>true | .non,.int _=>true | .int _,.non=>true | .non,.bl _=>true | .bl _,.non=>true | .non,.str _=>true | .str _,.non=>true
 | .int _,.int _=>true | .bl _,.bl _=>true | .str _,.str _=>true | .byt _,.byt _=>true
 | .int _,.str _=>true | .str _,.int _=>true | .bl _,.str _=>true | .str _,.bl _=>true
 | _,_=>false
noncomputable def rEq:R2:=λx y H Q=>scal x y=true/\Q (.bl (decide (x=y))) H
noncomputable def rNe:R2:=λx y H Q=>scal x y=true/\Q (.bl (!decide (x=y))) H
theorem ze {i j:Int}:decide (V.int i=V.int j)=(i == j):=by
 rw[Ke];simp
theorem BJ {i j:IA}:decide (V.bl i=V.bl j)=(i == j):=by
 rw[Ke];simp
theorem zd {i j:Hk}:decide (V.str i=V.str j)=(i == j):=by
 rw[Ke];simp
theorem zf {i j:LZ UInt8}:decide (V.byt i=V.byt j)=(i.toList == j.toList):=by
 rw[Ke];cases i;cases j;simp
section
variable {X:Cx} {a b c:Hi} {ta tb tc:TE} {pos:Pos}
theorem bT {pins:E'} {σ:St} {H:Hp} {s:f'} {Q:VK} {k G:IA} (I:Inv X pins σ H s) (q:Q (.bl k) H) (e:k=G):EP X pins σ Q (.bool G) s:=by
 subst e;exact⟨.bl k,H,I,rfl,q⟩
theorem jh:OpR X (compareOp .Eq) rEq:=by
 intro pins s σ H x y v u Q I J G h;obtain⟨hs,q⟩:=h;cases x with
 | non=>
   cases J;cases y with
   | non=>cases G;exact PySem.EqNone.eq_none_none (bT I q @E)
   | bl j=>cases G;exact PySem.EqNone.eq_none_bool (bT I q @E)
   | int j=>obtain⟨t',rfl⟩:=G;exact PySem.EqNone.eq_none_int (bT I q @E)
   | str j=>obtain⟨t',rfl⟩:=G;exact PySem.EqNone.eq_none_str (bT I q @E)
   | _=>exact hE (show false=true from hs) gn
 | bl i=>
   cases J;cases y with
   | non=>cases G;exact PySem.EqNone.eq_bool_none (bT I q @E)
   | bl j=>cases G;exact eq_bool (bT I q BJ)
   | str j=>obtain⟨t',rfl⟩:=G;exact PySem.EqMixed.eq_bool_str (bT I q @E)
   | _=>exact hE (show false=true from hs) gn
 | int i=>
   obtain⟨t,rfl⟩:=J;cases y with
   | non=>cases G;exact PySem.EqNone.eq_int_none (bT I q @E)
   | int j=>obtain⟨t',rfl⟩:=G;exact eq_int (bT I q ze)
   | str j=>obtain⟨t',rfl⟩:=G;exact PySem.EqMixed.eq_int_str (bT I q @E)
   | _=>exact hE (show false=true from hs) gn
 | str i=>
   obtain⟨t,rfl⟩:=J;cases y with
   | non=>cases G;exact PySem.EqNone.eq_str_none (bT I q @E)
   | bl j=>cases G;exact PySem.EqMixed.eq_str_bool (bT I q @E)
   | int j=>obtain⟨t',rfl⟩:=G;exact PySem.EqMixed.eq_str_int (bT I q @E)
   | str j=>obtain⟨t',rfl⟩:=G;exact eq_str (bT I q zd)
   | _=>exact hE (show false=true from hs) gn
 | byt i=>
   obtain⟨t,rfl⟩:=J;cases y with
   | byt j=>obtain⟨t',rfl⟩:=G;exact PySem.W.eq_bytes (bT I q zf)
   | _=>exact hE (show false=true from hs) gn
 | _=>cases y<;>exact hE (show false=true from hs) gn
theorem qO:OpR X (compareOp .NotEq) rNe:=by
 intro pins s σ H x y v u Q I J G h;obtain⟨hs,q⟩:=h;cases x with
 | non=>
   cases J;cases y with
   | non=>cases G;exact PySem.EqNone.ne_none_none (bT I q @E)
   | bl j=>cases G;exact PySem.EqNone.ne_none_bool (bT I q @E)
   | int j=>obtain⟨t',rfl⟩:=G;exact PySem.EqNone.ne_none_int (bT I q @E)
   | str j=>obtain⟨t',rfl⟩:=G;exact PySem.EqNone.ne_none_str (bT I q @E)
   | _=>exact hE (show false=true from hs) gn
 | bl i=>
   cases J;cases y with
   | non=>cases G;exact PySem.EqNone.ne_bool_none (bT I q @E)
   | bl j=>cases G;exact ne_bool (bT I q (Hm not BJ))
   | str j=>obtain⟨t',rfl⟩:=G;exact PySem.EqMixed.ne_bool_str (bT I q @E)
   | _=>exact hE (show false=true from hs) gn
 | int i=>
   obtain⟨t,rfl⟩:=J;cases y with
   | non=>cases G;exact PySem.EqNone.ne_int_none (bT I q @E)
   | int j=>obtain⟨t',rfl⟩:=G;exact ne_int (bT I q (Hm not ze))
   | str j=>obtain⟨t',rfl⟩:=G;exact PySem.EqMixed.ne_int_str (bT I q @E)
   | _=>exact hE (show false=true from hs) gn
 | str i=>
   obtain⟨t,rfl⟩:=J;cases y with
   | non=>cases G;exact PySem.EqNone.ne_str_none (bT I q @E)
   | bl j=>cases G;exact PySem.EqMixed.ne_str_bool (bT I q @E)
   | int j=>obtain⟨t',rfl⟩:=G;exact PySem.EqMixed.ne_str_int (bT I q @E)
   | str j=>obtain⟨t',rfl⟩:=G;exact ne_str (bT I q (Hm not zd))
   | _=>exact hE (show false=true from hs) gn
 | byt i=>
   obtain⟨t,rfl⟩:=J;cases y with
   | byt j=>obtain⟨t',rfl⟩:=G;exact PySem.W.ne_bytes (bT I q (Hm not zf))
   | _=>exact hE (show false=true from hs) gn
 | _=>cases y<;>exact hE (show false=true from hs) gn
theorem C3:OpR X (compareOp .Lt) (rI0 λi j=> .bl (decide (i < j))):=opB0 λ_ _ _ _ _ _ _ q=>lt_int q
theorem GO:OpR X (compareOp .LtE) (rI0 λi j=> .bl (decide (i<=j))):=opB0 λ_ _ _ _ _ _ _ q=>le_int q
theorem nT:OpR X (compareOp .Gt) (rI0 λi j=> .bl (decide (j < i))):=opB0 λ_ _ _ _ _ _ _ q=>gt_int q
theorem Fo:OpR X (compareOp .GtE) (rI0 λi j=> .bl (decide (j<=i))):=opB0 λ_ _ _ _ _ _ _ q=>ge_int q
theorem C0:OpR X (compareOp .IsNot) (λx y H Q=>y= .non/\Q (.bl (!decide (x= .non))) H):=by
 intro pins s σ H x y v u Q I G J h;obtain⟨rfl,q⟩:=h;cases J;refine isnot_none_gen (bT I q ?_)
 cases x<;>first
  | (cases G;rfl)
  | (obtain⟨t,rfl⟩:=G;rfl)
theorem aQ (b:Hi) {G:CmpOp} (h:G≠.In:=by decide) (h2:G≠.NotIn:=by decide):behindInMarks G b=false:=by
 have e1:(G == CmpOp.In)=false:=by cases G<;>first | rfl | exact hE rfl h
 have I:(G == CmpOp.NotIn)=false:=by cases G<;>first | rfl | exact hE rfl h2
 cases b<;>simp[behindInMarks,e1,I]
theorem ke {G:CmpOp} {r:R2} (ho:OpR X (compareOp G) r) (ha:PE X a ta) (hb:PE X b tb) (hm:behindInMarks G b=false):PE X (.Compare a [G] [b] pos) (tOp r ta tb):=by
 intro pins s σ H Q I h;exact wpAny_Compare1 (binT ha hb I h λv u J x y H2 Z Y L q=>ho pins J σ H2 x y v u Q Z Y L q) hm
noncomputable abbrev Gj (t:TE):TT:=fun σ H Q=>t σ H λx H'=>∃k,x= .bl k/\Q k H'
theorem aK {J:CmpOp} {r:R2} (ho:OpR X (compareOp J) r) (ha:PE X a ta) (hb:PE X b tb) (hm:behindInMarks J b=false):PT X (.Compare a [J] [b] pos) (Gj (tOp r ta tb)):=by
 intro pins s σ H Q I h
 refine NF (thn (ha pins s σ H _ I h) λv Y ⟨x,H1,η,β,δ⟩=>thn (hb pins Y σ H1 _ η δ) λu L ⟨y,H2,ζ,α,ν⟩=>
  thn (ho pins L σ H2 x y v u _ ζ β α ν) λc θ ⟨z,G,ε,Z,k,e,γ⟩=>?_) hm
 subst e;cases Z;exact JJ ⟨G,ε,γ⟩
theorem yF:(i':Nat) < 2 ^ 63:=by rw[mc];decide
theorem vQ {x:V} {us:F'} (r:Vals [x] us):∃u,us=[u]/\RelV x u:=by
 cases r with
 | cons I G=>cases G;exact⟨_,rfl,I⟩
theorem B5 {x y:V} {us:F'} (r:Vals [x,y] us):∃u χ,us=[u,χ]/\RelV x u/\RelV y χ:=by
 cases r with
 | cons J I=>
   cases I with
   | cons G τ=>cases τ;exact⟨_,_,rfl,J,G⟩
def LenV (K:a') (x:V) (H:Hp) (n:Nat):Prop:=
 match x with
 | .str y=>y.length<=i'/\n=y.length
 | .byt y=>y.size<=i'/\n=y.size
 | .ref p=>(∃xs,SqL K H p xs/\n=xs.length)∨∃xs,SqT K H p xs/\n=xs.length
 | _=>False
theorem A9:jT X (.builtin "len") (λxs H Q=>∃x n,xs=[x]/\LenV X.K x H n/\Q (.int n) H):=by
 intro pins s σ H xs us Q I r h;obtain⟨x,n,rfl,e,q⟩:=h;obtain⟨u,rfl,J⟩:=vQ r;have Z:=yF;have hs:i'=16777216:=mc;cases x with
 | str y=>
   obtain⟨t,rfl⟩:=J;obtain⟨Y,τ⟩:y.length<=i'/\n=y.length:=e;subst τ;exact len_str @A ⟨.int _,H,I.tok _,⟨_,rfl⟩,q⟩
 | byt y=>
   obtain⟨t,rfl⟩:=J;obtain⟨Y,τ⟩:y.size<=i'/\n=y.size:=e;subst τ;exact PySem.W.len_bytes @A ⟨.int _,H,I.tok _,⟨_,rfl⟩,q⟩
 | ref p=>
   cases J;have τ:(∃xs,SqL X.K H p xs/\n=xs.length)∨∃xs,SqT X.K H p xs/\n=xs.length:=e;rcases τ with ⟨xs,L,τ⟩ | ⟨xs,L,τ⟩
   ·subst τ;obtain⟨its,r',pl,hz⟩:=I.list L;have G:=r'.length;exact Calls.call_len_list pl.isList (by simp only[qQ];omega) ⟨.int xs.length,H,I.tok _,⟨_,by simp only[qQ];rw[G]⟩,q⟩
   ·subst τ;obtain⟨its,r',pl,hz⟩:=I.tuple L;have G:=r'.length;exact len_tuple pl (by simp only[qQ];omega) ⟨.int xs.length,H,I.tok _,⟨_,by simp only[qQ];rw[G]⟩,q⟩
 | _=>exact(show False from e).elim
theorem uS:jT X (.builtin "divmod") (λxs H Q=>∃i j,xs=[.int i,.int j]/\CDiv i j/\∀p,H p=eH->Q (.ref p) (upd H p (.tup [.int (i / j),.int (i % j)]))):=by
 intro pins s σ H xs us Q I r h;obtain⟨i,j,rfl,⟨h1,h2⟩,q⟩:=h;obtain⟨u,χ,rfl,⟨t,rfl⟩,⟨t',rfl⟩⟩:=B5 r;refine divmod_int @A ?_ (.inl (Mi @A));rw[Ky i @A,Ml i @A];have hn:H s.heap.objs.size=none:=I.hok.fresh (ov _);refine⟨.ref s.heap.objs.size,_,?_,rfl,q _ hn⟩;refine I.laid (λb o e=>ek _ e) (ov _) ⟨by simp only[Ir,N'];rw[mc];decide,[.int (i / j) s.toks,.int (i % j) (s.toks + 1)],.cons ⟨_,rfl⟩ (.cons ⟨_,rfl⟩ .nil),?_⟩;exact⟨_,la s.heap rfl,rfl,0,rfl⟩
end
structure ObjM (h:zx) (x dx C:ee) (mA:G'):Prop where
 obj:h.get? x=aT (J6 C dx)
 ns:h.Ns1 dx mA
 ne:dx≠x
theorem yB {h:zx} {dx:ee} {mA:G'} (n:h.Ns1 dx mA):∃od,h.get? dx=aT od/\∀name,KW name od=aT (mA name):=by
 obtain⟨o,es,ep,ho,hd,hk,_,hm⟩:=n;refine⟨o,ho,λname=>?_⟩;have e:=hm name;unfold nsFind findBy at e;rw[<-Array.find?_toList] at e;unfold KW;rw[hd];dsimp only;split
 ·rename_i y q;rw[q] at e;exact Hm aT e
 ·rename_i q;rw[q] at e
  have a:es.toList.any (·.refKey)=false:=by
   rw[List.any_eq_false];intro y I;obtain⟨z,t,G⟩:=hk y (Array.mem_toList_iff.mp I);simp[DictEntry.refKey,G]
  have J:¬es.toList.any (·.refKey)=true:=by rw[a];exact gn
  rw[nk J];exact Hm aT e
theorem ObjM.look {h:zx} {x dx C:ee} {mA:G'} (I:ObjM h x dx C mA):∃od,PySem.W.InstAt h x (J6 C dx) C (aT od)/\∀name,KW name od=aT (mA name):=
 let ⟨od,ho,G⟩:=yB I.ns
 ⟨od,⟨I.obj,rfl,rfl,ho⟩,G⟩
section
variable {prog:px} {w:wq} {A:Hg} {E:D'} {s:f'} {K:a'} {x dx C f:ee} {mA:G'} {name:Hk} {v:hG}
theorem aO {Y:IA} {Q:D'} (X:K.In s.heap) (I:ObjM s.heap x dx C mA) (β:KD K C name=true) (α:Lo K C=true)
  (ha:zP K (.ref C) name=aT eH) (L:mA name=aT v) (G:Lq v=true) (h:Q v {s with toks:=s.toks + 1}):
  hQ (lT prog w) A (getAttr (.ref x) name Y) Q E s:=by
 obtain⟨od,J,Z⟩:=I.look;exact PySem.W.get_value X J (L4 β).1 (PySem.W.findObj_own α ha rfl (by rw[Z,L])) G h
theorem AQ {pl:Sem IA} {Q:hG×ef hG->f'->Prop} (X:K.In s.heap) (I:ObjM s.heap x dx C mA) (G:KD K C name=true)
  (hf:zP K (.ref C) name=aT (aT (.ref f))) (ht:Lm K (.ref f)=true) (L:mA name=eH) (h:Q (.ref f,[.ref x]) s):
  hQ (lT prog w) A (getMethod (.ref x) name pl) Q E s:=by
 obtain⟨od,J,Y⟩:=I.look;exact PySem.W.method_fn X J (L4 G).1 (L4 G).2 hf (L9.mp ht) (by show(KW name od).map (·.isSome)=aT false;rw[Y,L];rfl) h
theorem Cq {ns:C'} {Q:HI} (X:K.In s.heap) (I:ObjM s.heap x dx C mA)
  (hs:zP K (.ref C) "__setattr__"=aT (aT (.builtin "object.__setattr__"))) (ε:MX K C=true) (ht:LD K C name=aT eH) (ζ:Lo K C=true)
  (hw:Mz mA ns) (hsz:ns.length<=i')
  (h:∀h',ObjM h' x dx C (λy=>if y=name then aT v else mA y)->Kj dx s.heap h'->Q () {s with heap:=h',toks:=s.toks + 2}):
  hQ (lT prog w) A (setAttr (.ref x) name v) Q E s:=by
 obtain⟨od,J,ν⟩:=I.look;refine PySem.W.set_plain X J hs (PySem.W.osa_open (s:={s with toks:=s.toks + 1}) (r:=eH) X J ε ht λb=>?_);obtain⟨cd,η,β⟩:=PySem.W.any_some ζ;have δ:s.heap.get? x=aT ⟨.ref C,aT dx,.plain,#[]⟩:=I.obj;refine dt (hP (dt (dt (wpAny_loadPart δ (dt (PySem.W.Looks.here (s:={s with toks:=s.toks + 1}) (PySem.W.looks_clsIn X η) ?_))))));rw[β];refine hP (a:=aT dx) (dt (hP (dt ?_)));refine wpAny_nsSet1 (s:={s with toks:=s.toks + 1}) I.ns λh' L Y=>?_;obtain⟨ι,θ,G,Z,α,γ⟩:=L.count (PySem.Within.cons name v hw);refine dt (wpAny_lookBehind Z (by rw[α];exact pastItsLine_dict (Ih γ (by rw[Ir];omega))) ?_);exact hP (h _ ⟨(Y.2 _ (xn I.ne)).trans I.obj,L,I.ne⟩ Y)
theorem AD {R:HM} {vs:F'} {G:HP} (X:K.In s.heap) (hm:Nd K C=true)
  (hi:zP K (.ref C) "__init__"=aT (aT (.ref f))) (hf:Nq K (.ref f)=aT (.type "function"))
  (h:codeAny (lT prog w) (A.under (.builtin "type.__call__" ⟨.ref C::vs,G⟩)) (.call (.ref f) ⟨.ref (s.heap.objs.size + 1)::vs,G⟩) (PySem.W.InitBack (s.heap.objs.size + 1) R)
   {s with heap:=(s.heap.push IR).push (J6 C s.heap.objs.size)}):
  codeAny (lT prog w) A (.call (.ref C) ⟨vs,G⟩) R s:=by
 obtain⟨I,g,d,t,os⟩:=s;exact PySem.W.make_core (PySem.W.makes_of X hm) (PySem.W.looks_findIn X hi) (λself=>PySem.W.bind_fn X self hf) (.inl rfl) h
end
noncomputable def putF (f:Hk) (v:V):ef (Hk×V)->ef (Hk×V)
 | []=>[(f,v)]
 | (g,x)::r=>if g=f then (g,v)::r else (g,x)::putF f v r
theorem oi (f g:Hk) (v:V):∀fs:ef (Hk×V),(putF f v fs).lookup g=if g=f then aT v else fs.lookup g
 | []=>by
   show K9 g [(f,v)]=_;by_cases h:g=f
   ·have hb:(g == f)=true:=L9.mpr h;simp only[K9,hb,pe h]
   ·have hb:(g == f)=false:=vr.mpr h;simp only[K9,hb,nk h]
 | (k,x)::r=>by
   have ih:=oi f g v r;rw[show putF f v ((k,x)::r)=(if k=f then (k,v)::r else (k,x)::putF f v r) from rfl];by_cases hk:k=f
   ·rw[pe hk];by_cases h:g=k
    ·have hb:(g == k)=true:=L9.mpr h;simp only[K9,hb,pe (h.trans hk)]
    ·have hb:(g == k)=false:=vr.mpr h;simp only[K9,hb,nk (λe:g=f=>h (e.trans hk.symm))]
   ·rw[nk hk];by_cases h:g=k
    ·have hb:(g == k)=true:=L9.mpr h;simp only[K9,hb,nk (λe:g=f=>hk (h.symm.trans e))]
    ·have hb:(g == k)=false:=vr.mpr h;simp only[K9,hb];exact ih
theorem oz (f:Hk) (v:V):∀fs:ef (Hk×V),f∈(putF f v fs).map (·.1)/\∀g,g∈fs.map (·.1)->g∈(putF f v fs).map (·.1)
 | []=>⟨by simp[putF],λg h=>by simp at h⟩
 | (k,x)::r=>by
   obtain⟨i1,i2⟩:=oz f v r;rw[show putF f v ((k,x)::r)=(if k=f then (k,v)::r else (k,x)::putF f v r) from rfl];by_cases hk:k=f
   ·rw[pe hk];subst hk;exact⟨@E,λg h=>by simpa using h⟩
   ·rw[nk hk];refine⟨?_,λg h=>?_⟩
    ·rw[IE];exact p' _ i1
    ·rw[IE] at h ⊢;rcases Hn.mp h with e | e
     ·exact Hn.mpr (.inl e)
     ·exact p' _ (i2 g e)
theorem oq (f:Hk) (v:V):∀fs:ef (Hk×V),(putF f v fs).length<=fs.length + 1
 | []=>by simp[putF]
 | (k,x)::r=>by
   have ih:=oq f v r;rw[show putF f v ((k,x)::r)=(if k=f then (k,v)::r else (k,x)::putF f v r) from rfl];by_cases hk:k=f
   ·rw[pe hk,Ir,Ir];omega
   ·rw[nk hk,Ir,Ir];omega
theorem RelO.some_of {v:V} {o:HQ} (r:RelO (aT v) o):∃u,o=aT u/\RelV v u:=by
 cases o with
 | none=>exact(show False from r).elim
 | some u=>exact⟨u,rfl,r⟩
theorem RelO.none_of {o:HQ} (r:RelO eH o):o=none:=by
 cases o with
 | none=>rfl
 | some u=>exact(show False from r).elim
theorem yV {v:V} {u:hG} (r:RelV v u):Lq u=true:=by
 cases v with
 | non=>cases(show u=Ic from r);rfl
 | bl b=>cases(show u=N6 b from r);rfl
 | int i=>obtain⟨t,e⟩:=(show ∃t,u=L5 i t from r);cases e;rfl
 | str x=>obtain⟨t,e⟩:=(show ∃t,u=Mp x t from r);cases e;rfl
 | byt b=>obtain⟨t,e⟩:=(show ∃t,u=Ov b t from r);cases e;rfl
 | flt b=>obtain⟨t,e⟩:=(show ∃t,u=Ou b t from r);cases e;rfl
 | ref a=>cases(show u=sb a from r);rfl
 | ty n=>cases(show u=Ik n from r);rfl
section
variable {P:px} {w:wq} {H H':Hp} {h h':zx} {a C dx:ee} {fs fs':ef (Hk×V)}
theorem uI (hok:HOk P w H h) (e:H a=aT (.ins C dx fs)):∃mA,ObjM h a dx C mA/\(∀f,RelO (fs.lookup f) (mA f))/\Mz mA (fs.map (·.1))/\fs.length<=1000/\H dx=aT (.own a):=by
 obtain⟨d,z,ne,G,mA,n,r,q⟩:=(show eR P w H h a (.ins C dx fs) from hok a _ e);exact⟨mA,⟨G,n,ne⟩,r,q,z,d⟩
end
structure Cls (K:a') (C:ee):Prop where
 pg:KD K C NS=true
 hd:Lo K C=true
 po:MX K C=true
 sa:zP K (.ref C) "__setattr__"=aT (aT (.builtin "object.__setattr__"))
theorem Cls.get {K:a'} {C:ee} (c:Cls K C) (f:Hk):KD K C f=true:=c.pg
def fP (K:a') (C:ee) (f:Hk):Prop:=zP K (.ref C) f=aT eH
theorem fP.taker {K:a'} {C:ee} {f:Hk} (n:fP K C f):LD K C f=aT none:=by
 unfold LD;rw[show zP K (.ref C) f=aT eH from n];rfl
structure Con (K:a') (C:ee) (f:Hk) (v:V) (u:hG):Prop where
 at_:zP K (.ref C) f=aT (aT u)
 rel:RelV v u
 get:Jw K u "__get__"=aT eH
 cp:PySem.W.copiedNames.contains f=false
structure Meth (K:a') (C:ee) (m:Hk) (f:ee):Prop where
 at_:zP K (.ref C) m=aT (aT (.ref f))
 fn:Lm K (.ref f)=true
 kp:Iy K (.ref f)=true
section
variable {X:Cx} {pins:E'} {σ:St} {H:Hp} {s:f'} {a C dx:ee} {fs:ef (Hk×V)} {f:Hk} {v:V} {A:Hg} {E:D'}
theorem wL {b:IA} {Q:D'} (I:Inv X pins σ H s) (e:H a=aT (.ins C dx fs)) (c:Cls X.K C) (n:fP X.K C f) (l:fs.lookup f=aT v)
  (h:∀u s',Inv X pins σ H s'->RelV v u->Q u s'):hQ (lT X.prog X.w) A (getAttr (.ref a) f b) Q E s:=by
 obtain⟨mA,O,r,_,_,_⟩:=uI I.hok e;obtain⟨u,β,G⟩:=RelO.some_of (v:=v) (o:=mA f) (by rw[<-l];exact r f);exact aO I.kIn O (c.get f) c.hd n β (yV G) (h u _ (I.tok _) G)
theorem mf {m:Hk} {g:ee} {pl:Sem IA} {Q:hG×ef hG->f'->Prop} (I:Inv X pins σ H s) (e:H a=aT (.ins C dx fs)) (c:Cls X.K C) (k:Meth X.K C m g) (l:fs.lookup m=eH)
  (h:Q (.ref g,[.ref a]) s):hQ (lT X.prog X.w) A (getMethod (.ref a) m pl) Q E s:=by
 obtain⟨mA,O,r,_,_,_⟩:=uI I.hok e;have hn:mA m=none:=RelO.none_of (by rw[<-l];exact r m);exact AQ I.kIn O (c.get m) k.at_ k.fn hn h
theorem wb {y:V} {u:hG} {Q:HI} (I:Inv X pins σ H s) (e:H a=aT (.ins C dx fs)) (c:Cls X.K C) (n:fP X.K C f) (Y:fs.length < 1000) (J:RelV y u)
  (h:∀s',Inv X pins σ (upd H a (.ins C dx (putF f y fs))) s'->Q () s'):hQ (lT X.prog X.w) A (setAttr (.ref a) f u) Q E s:=by
 obtain⟨mA,O,r,G,_,ho⟩:=uI I.hok e;have hz:(fs.map (·.1)).length<=sizeLine:=by rw[cY,mc];omega
 refine Cq I.kIn O c.sa c.po n.taker c.hd G hz λh' O' ξ=>h _ ?_;have hd:∃o,h'.get? dx=aT o:=let ⟨o,_,_,τ,_⟩:=O'.ns;⟨o,τ⟩
 refine I.write (x:=a) (e:=dx) (by rw[e];exact KQ) (.inr ho) (λb q hb z=>(ξ.2 b hb).trans z) hd ?_;refine⟨by rw[aC O.ne];exact ho,?_,O.ne,O'.obj,_,O'.ns,λg=>?_,λg L=>?_⟩
 ·have:=oq f y fs;omega
 ·show RelO ((putF f y fs).lookup g) (if g=f then aT u else mA g);rw[oi];by_cases q:g=f
  ·rw[pe q,pe q];exact J
  ·rw[nk q,nk q];exact r g
 ·by_cases q:g=f
  ·rw[q];exact(oz f y fs).1
  ·refine(oz f y fs).2 g (G g λz=>L ?_);show(if g=f then aT u else mA g)=eH;rw[nk q];exact z
theorem Inv.made (I:Inv X pins σ H s):Inv X pins σ (upd (upd H s.heap.objs.size (.own (s.heap.objs.size + 1))) (s.heap.objs.size + 1) (.ins C s.heap.objs.size []))
  {s with heap:=(s.heap.push IR).push (J6 C s.heap.objs.size)}:=by
 have e1:(s.heap.push IR).get? s.heap.objs.size=aT PySem.W.emptyDict:=la s.heap rfl
 have L:((s.heap.push IR).push (J6 C s.heap.objs.size)).get? (s.heap.objs.size + 1)=aT (J6 C s.heap.objs.size):=by
  have:=la (s.heap.push IR) (o:=J6 C s.heap.objs.size) rfl;rwa [Ij] at this
 have J:(s.heap.push IR).Ns s.heap.objs.size (λ_=>eH):=⟨IR,#[],_,e1,rfl,(λe he=>hE he @E),λ_=>rfl⟩;have I1:=I.laid (a:=s.heap.objs.size) (o:= .own (s.heap.objs.size + 1)) (h':=s.heap.push IR) (t':=s.toks) (λb u q=>ek _ q) (ov _) ⟨_,e1⟩;refine I1.laid (a:=s.heap.objs.size + 1) (o:= .ins C s.heap.objs.size []) (t':=s.toks) (λb u q=>ek _ q) (LL (Ij _ _)) ?_;have ne:s.heap.objs.size≠s.heap.objs.size + 1:=Hl (Il _);refine⟨by rw[aC ne,aJ],J1 _,ne,L,λ_=>eH,(Heap.Ns1.of_empty J).at λo q=>ek _ q,λ_=>KQ,λy G=>hE rfl G⟩
theorem DR {prog:px} {w:wq} {env:Env} {e:Hi} {f:Hk} {pos:Pos} {s:f'} {Q:D'} (hb:attributeBase e f env (eval e env)=eval e env)
  (h:hQ (lT prog w) A (eval e env) (λo G=>hQ (lT prog w) A (getAttr o f true) Q E G) E s):hQ (lT prog w) A (eval (.Attribute e f pos) env) Q E s:=
 Attribute_any_ h (by rw[arm_eval_Attribute,hb])
end
noncomputable def tFld (K:a') (ta:TE) (f:Hk):TE:=fun σ H Q=>ta σ H λx H1=>∃a C dx fs v,x= .ref a/\H1 a=aT (.ins C dx fs)/\Cls K C/\fP K C f/\fs.lookup f=aT v/\Q v H1
noncomputable def sFld (K:a') (ta tv:TE) (f:Hk):TS:=λD σ H=>tv σ H λy H1=>ta σ H1 λx H2=>∃a C dx fs,x= .ref a/\H2 a=aT (.ins C dx fs)/\Cls K C/\fP K C f/\fs.length < 1000/\
 D.nx σ (upd H2 a (.ins C dx (putF f y fs)))
section
variable {X:Cx} {o e value:Hi} {f:Hk} {pos pos' tpos:Pos} {ta tv:TE}
theorem Fh (he:PE X e ta) (hb:attributeBase e f X.env (eval e X.env)=eval e X.env):PE X (.Attribute e f pos) (tFld X.K ta f):=by
 intro pins s σ H Q I h;refine DR hb (thn (he pins s σ H _ I h) λu β ⟨x,H1,Y,G,a,C,dx,fs,v,ex,ea,c,n,l,q⟩=>?_);subst ex;obtain rfl:u=sb a:=G;exact wL Y ea c n l λZ α L J=>⟨v,H1,L,J,q⟩
theorem Fb (ha:PE X o ta) (Y:PE X value tv) (hs:swapsWith value (aT (.Attribute o f pos')) pos.line X.env=pure false):PS X (.Assign [.Attribute o f pos'] value pos) (sFld X.K ta tv f):=by
 intro pins s σ H D I h;refine plainObj_wpAny_Assign_Attribute (thn (Y pins s σ H _ I h) λu G ⟨y,H1,β,J,q⟩=>thn (ha pins G σ H1 _ β q) fun ο δ ⟨x,H2,α,L,a,C,dx,fs,ex,ea,c,n,l,ν⟩=>?_) hs;subst ex;obtain rfl:ο=sb a:=L;exact wb α ea c n l J fun γ Z=>⟨σ,_,Z,ν⟩
end
section
variable {X:Cx} {pins:E'} {σ:St} {H:Hp} {s:f'} {A:Hg} {E:D'} {Q:D'} {c:hG} {b:IA}
inductive TyOf (K:a') (H:Hp):V->hG->Prop where
 | non:TyOf K H .non (.type "NoneType")
 | bl (x:IA):TyOf K H (.bl x) (.type "bool")
 | int (i:Int):TyOf K H (.int i) (.type "int")
 | str (x:Hk):TyOf K H (.str x) (.type "str")
 | flt (x:UInt64):TyOf K H (.flt x) (.type "float")
 | lst {a:ee} {xs:ef V} (e:H a=aT (.lst xs)):TyOf K H (.ref a) (.type "list")
 | frz {a:ee} {o:Mm} {xs:ef V} (e:H a=aT (.frz o (.lst xs))):TyOf K H (.ref a) (.type "list")
 | tup {a:ee} {xs:ef V} (e:H a=aT (.tup xs)):TyOf K H (.ref a) (.type "tuple")
 | dK {a:ee} {kvs:ef (Key×V)} (e:H a=aT (.dK kvs)):TyOf K H (.ref a) (.type "dict")
 | dT {a:ee} {kvs:ef (ef Key×V)} (e:H a=aT (.dT kvs)):TyOf K H (.ref a) (.type "dict")
 | ins {a C dx:ee} {fs:ef (Hk×V)} (e:H a=aT (.ins C dx fs)) (cl:Cls K C) (ha:zP K (.ref C) "__class__"=aT (aT (.builtin "object.__class__")))
   (hn:Jw K (.builtin "object.__class__") "__get__"=aT (aT (.builtin "getset_descriptor.__get__"))) (htk:LC K (.builtin "object.__class__")=aT true)
   (hm:J7 K C (.type "object")=aT true):TyOf K H (.ref a) (.ref C)
end
structure Room (k:Nat) (A:Hg):Prop where
 hd:A.handled=eH
 dp:A.depth + 3 * k + 5 < recursionLimit
 un:A.units + 16 * k + 200 < cLine
theorem Room.mono {j k:Nat} {A:Hg} (r:Room k A) (h:j<=k):Room j A:=⟨r.hd,by have:=r.dp;omega,by have:=r.un;omega⟩
theorem Room.deeper {k:Nat} {A:Hg} (r:Room (k + 1) A) (env:Env):Room k (A.deeper env):=
 ⟨r.hd,by have:=r.dp;show A.depth + 1 + 3 * k + 5 < _;omega,by have:=r.un;show A.units + 3 + 16 * k + 200 < _;omega⟩
theorem Room.in1 {k:Nat} {A:Hg} (r:Room (k + 1) A):Room k A.in1:=
 ⟨r.hd,by have:=r.dp;show A.depth + 3 * k + 5 < _;omega,by have:=r.un;show A.units + 1 + 16 * k + 200 < _;omega⟩
theorem wF {A:Hg} {C:ee} {us:F'} {G:HP}:(A.under (.builtin "type.__call__" ⟨.ref C::us,G⟩)).depth=A.depth + 1:=by
 first | rfl | simp[Ms,Code.weight,Code.isCreation,Code.isGuard,Code.isCaller,Code.frames,MI,guardIds]
theorem wD {A:Hg} {C:ee} {us:F'} {G:HP}:(A.under (.builtin "type.__call__" ⟨.ref C::us,G⟩)).units=A.units + 1:=by
 first | rfl | simp[Ms,Code.cUnits,Code.frames,MI]
theorem Room.make {k:Nat} {A:Hg} (r:Room (k + 1) A) (C:ee) (us:F') (G:HP):Room k (A.under (.builtin "type.__call__" ⟨.ref C::us,G⟩)):=
 ⟨r.hd,by have:=r.dp;rw[wF];omega,by have:=r.un;rw[wD];omega⟩
theorem Room.depth {k:Nat} {A:Hg} (r:Room k A):A.depth < recursionLimit:=by have:=r.dp;omega
theorem Room.units {k:Nat} {A:Hg} (r:Room k A):A.units + 64 < cLine:=by have:=r.un;omega
noncomputable abbrev tNil:TA:=λ_ H Q=>Q [] H
noncomputable abbrev Gq (ta:TE) (tr:TA):TA:=fun σ H Q=>ta σ H λx H1=>tr σ H1 λxs H2=>Q (x::xs) H2
section
variable {X:Cx} {e:Hi} {es:ef Hi} {te:TE} {t:TA} {pos:Pos}
theorem af:PA X [] tNil:=λ_ _ _ _ H Q I h=>KB ⟨[],H,I,.nil,h⟩
theorem aa (ha:PE X e te) (Z:PA X es t) (hs:oD (e::es) X.env=(false,eval e X.env)::oD es X.env:=by rfl):PA X (e::es) (Gq te t):=by
 intro pos pins s σ H Q I h;rw[hs];show hQ _ _ (spliced ((false,eval e X.env)::backTo pos (oD es X.env))) _ _ s;refine Ko (thn (ha pins s σ H _ I h) λu G ⟨x,H1,β,L,Y⟩=>?_);exact thn (Z pos pins G σ H1 _ β Y) λus γ ⟨xs,H2,α,J,ν⟩=>⟨x::xs,H2,α,.cons L J,ν⟩
noncomputable def tTup (t:TA):TE:=fun σ H Q=>t σ H λxs H1=>xs.length<=i'/\∀p,H1 p=eH->Q (.ref p) (upd H1 p (.tup xs))
noncomputable def tLst (t:TA):TE:=fun σ H Q=>t σ H λxs H1=>xs.length<=i'/\∀p,H1 p=eH->Q (.ref p) (upd H1 p (.lst xs))
theorem c3 {x1} (h:PA X es t):PE X (.Tuple es x1 pos) (tTup t):=by
 intro pins s σ H Q I J;refine wpAny_Tuple_spliced (thn (h pos pins s σ H _ I J) λus G ⟨xs,H1,I1,r,z,q⟩=>⟨by rw[<-r.length];exact z,?_⟩);have hf:H1 G.heap.objs.size=none:=I1.hok.fresh (ov _);refine⟨.ref G.heap.objs.size,upd H1 G.heap.objs.size (.tup xs),I1.laid (t':=G.toks) (λb u e=>ek _ e) (ov _) ?_,rfl,q _ hf⟩;exact⟨z,us,r,⟨_,la _ rfl,rfl,_,rfl⟩⟩
theorem d9 (h:PA X es t):PE X (.List es pos) (tLst t):=by
 intro pins s σ H Q I J;refine wpAny_List_spliced (thn (h pos pins s σ H _ I J) λus G ⟨xs,H1,I1,r,z,q⟩=>⟨by rw[<-r.length];exact z,?_⟩);have hf:H1 G.heap.objs.size=none:=I1.hok.fresh (ov _);refine⟨.ref G.heap.objs.size,upd H1 G.heap.objs.size (.lst xs),I1.laid (t':=G.toks) (λb u e=>ek _ e) (ov _) ?_,rfl,q _ hf⟩;exact⟨z,us,0,r,la _ rfl⟩
end
noncomputable abbrev Sp:=ef V->Hp->VK->XK->Prop
noncomputable abbrev CXT:=ef Env->Hp->f'->XK->D'
structure Env0 (P:px) (w:wq) (K:a') (mg:G') (base:zx) (A:Hg) (outer:ef Env) (s:f') (H:Hp):Prop where
 frames:A.frames=aT outer
 mod:Mod K mg base
 bs:∀b o,base.get? b=aT o->s.heap.get? b=aT o/\H b=eH
 bsz:base.objs.size<=s.heap.objs.size
 funs:s.heap.FunFrames base outer
 frf:∀b∈frs outer,H b=eH
 hok:HOk P w H s.heap
 bare:AllBare s.gens
def CE (outer:ef Env) (P:px) (w:wq) (H:Hp) (s:f') (Q:VK) (u:hG) (s':f'):Prop:=
 ∃v H',s'.os=s.os/\AllBare s'.gens/\Un (frs outer) [] H H' s.heap s'.heap/\HOk P w H' s'.heap/\RelV v u/\Q v H'
def CR (CX:CXT) (outer:ef Env) (P:px) (w:wq) (H:Hp) (s:f') (Q:VK) (E:XK) (r:Result) (s':f'):Prop:=
 match r with
 | .ok (.ret u)=>CE outer P w H s Q u s'
 | .ok _=>False
 | .error e=>CX outer H s E e s'
structure FnOk (P:px) (w:wq) (K:a') (mg:G') (base:zx) (CX:CXT) (k:Nat) (f:ee) (fd:kv) (ps:C') (sp:Sp):Prop where
 len:∀vs H Q E,sp vs H Q E->vs.length=ps.length
 run:∀(A:Hg) (outer:ef Env) (s:f') (H:Hp) (args:Args) (us:F') (vs:ef V) (Q:VK) (E:XK),Room k A->Env0 P w K mg base A outer s H->BindsTo s fd args (ps.zip us)->Vals vs us->sp vs H Q E->
  codeAny (lT P w) A (.call (.ref f) args) (CR CX outer P w H s Q E) s
theorem Env0.make {P:px} {w:wq} {K:a'} {mg:G'} {base:zx} {A:Hg} {outer:ef Env} {s:f'} {H:Hp} (e:Env0 P w K mg base A outer s H) (C:ee) (us:F') (G:HP):
  Env0 P w K mg base (A.under (.builtin "type.__call__" ⟨.ref C::us,G⟩)) outer s H:=⟨by first | exact e.frames | (simpa[Ms,Code.envs,MI,pushEnvs] using e.frames),e.mod,e.bs,e.bsz,e.funs,e.frf,e.hok,e.bare⟩
section
variable {X:Cx} {pins:E'} {σ:St} {H:Hp} {s s':f'}
theorem Inv.env0 (I:Inv X pins σ H s):Env0 X.prog X.w X.K X.mg X.base X.A X.stack s H:=
 ⟨I.ok.frames,I.ok.mod,I.bs,Ih I.ok.bsz I.sz,I.stack,I.stkFree,I.hok,I.bare⟩
theorem Inv.after {Q:VK} {u:hG} (I:Inv X pins σ H s) (h:CE X.stack X.prog X.w H s Q u s'):EP X pins σ Q u s':=by
 obtain⟨v,H',os,bare,un,hok,r,q⟩:=h;obtain⟨G,g,d,t,os'⟩:=s';obtain rfl:os'=s.os:=os;exact⟨v,H',I.call (h':=G) (g':=g) (d':=d) (t':=t) (ch:=[]) un hok bare (λb z=>hE z @E),r,q⟩
end
noncomputable def zT (sp:Sp) (dvs:ef V) (E:XK) (t:TA):TE:=fun σ H Q=>t σ H λvs H1=>sp (vs++dvs) H1 Q E
noncomputable def B7 (C:ee) (m:Hk) (sp:Sp) (dvs:ef V) (E:XK) (ta:TE) (t:TA):TE:=fun σ H Q=>ta σ H λx H1=>∃a dx fs,x= .ref a/\H1 a=aT (.ins C dx fs)/\fs.lookup m=eH/\
 t σ H1 λvs H2=>sp (x::(vs++dvs)) H2 Q E
noncomputable def El (C:ee) (sp:Sp) (dvs:ef V) (E:XK) (t:TA):TE:=fun σ H Q=>t σ H λvs H1=>∀x dx,H1 x=eH->H1 dx=eH->dx≠x->
 sp (.ref x::(vs++dvs)) (upd (upd H1 dx (.own x)) x (.ins C dx [])) (λv H2=>v= .non/\Q (.ref x) H2) E
def kC (K:a') (fd:kv) (ps:C') (ds:F'):Prop:=
 ∀(s:f') (us:F'),K.In s.heap->(us++ds).length=ps.length->BindsTo s fd ⟨us,[]⟩ (ps.zip (us++ds))
theorem kC.all {K:a'} {fd:kv} {ps:C'} (h:∀us:F',us.length=ps.length->bindArgs fd ⟨us,[]⟩=pure (ps.zip us)):kC K fd ps []:=λs us _ G=>by
 rw[K8] at G ⊢;exact .of_eq (h us G)
def mF (CX:CXT) (X:Cx) (E:XK):Prop:=∀(pins:E') (σ:St) (H:Hp) (s:f') (e:hG) (s':f'),Inv X pins σ H s->CX X.stack H s E e s'->X.xe e s'
section
variable {X:Cx} {CX:CXT} {k:Nat} {f C:ee} {fd:kv} {ps:C'} {sp:Sp} {dvs:ef V} {ds:F'} {E:XK} {x m:Hk} {p pos apos:Pos} {e o:Hi} {es:ef Hi} {ta:TE} {t:TA}
theorem x6 {pins:E'} {σ:St} {H:Hp} {s:f'} {Q:VK} {us:F'} {vs:ef V} (F:FnOk X.prog X.w X.K X.mg X.base CX k f fd ps sp) (L:Room k X.A) (hb:kC X.K fd ps ds) (hd:Vals dvs ds) (hx:mF CX X E)
  (I:Inv X pins σ H s) (r:Vals vs us) (h:sp (vs++dvs) H Q E):hQ (lT X.prog X.w) X.A (call (.ref f) us) (EP X pins σ Q) X.xe s:=by
 have J:Vals (vs++dvs) (us++ds):=r.append hd;have Y:(us++ds).length=ps.length:=by rw[<-J.length];exact F.len _ _ _ _ h
 refine MN (La (F.run X.A X.stack s H ⟨us,[]⟩ (us++ds) (vs++dvs) Q E L I.env0 (hb s us I.kIn Y) J h) λr s' G=>?_);cases r with
 | error e=>exact hx pins σ H s e s' I G
 | ok Z=>
   cases Z with
   | ret u=>exact I.after G
   | next=>exact Hr G
   | brk=>exact Hr G
   | cont=>exact Hr G
theorem ym (F:FnOk X.prog X.w X.K X.mg X.base CX k f fd ps sp) (G:Room k X.A) (J:Gl X x) (hm:X.mg x=aT (.ref f)) (hk:Iy X.K (.ref f)=true) (hb:kC X.K fd ps ds) (hd:Vals dvs ds) (hx:mF CX X E)
  (ha:PA X (e::es) t) (Z:(x == ("__debug__":Hk))=false:=by decide) (he:oD (e::es) X.env=(false,eval e X.env)::oD es X.env:=by rfl) (ψ:(backTo pos (oD es X.env)).any (·.1)=false:=by rfl):
  PE X (.Call (.Name x p) (e::es) [] pos) (zT sp dvs E t):=by
 intro pins s σ H Q I h;refine JZ (qX I J hm ?_ Z);refine Kh (h₀:=X.base) I.ok.mod.kin hk (thn (ha pos pins s σ H _ I h) λus L ⟨vs,H1,I1,r,q⟩=>⟨I1.kIn,?_⟩) he ψ;exact x6 F G hb hd hx I1 r q
theorem qJ {pl:Sem IA} (he:PE X o ta) (c:Cls X.K C) (hm:Meth X.K C m f) (F:FnOk X.prog X.w X.K X.mg X.base CX k f fd ps sp) (Z:Room k X.A) (hb:kC X.K fd ps ds) (hd:Vals dvs ds) (hx:mF CX X E) (ha:PA X (e::es) t)
  (G:oD (e::es) X.env=(false,eval e X.env)::oD es X.env:=by rfl) (ψ:(backTo pos (oD es X.env)).any (·.1)=false:=by rfl)
  (ht:eval (.Call (.Attribute o m apos) (e::es) [] pos) X.env=(do
   let ο <-eval o X.env
   standAt apos.atName
   let (f,first) <-holding [ο] (getMethod ο m pl)
   callWith pos f first (backTo pos (oD (e::es) X.env)) (backToKw pos (keywordEach [] X.env))):=by rfl):
  PE X (.Call (.Attribute o m apos) (e::es) [] pos) (B7 C m sp dvs E ta t):=by
 intro pins s σ H Q I h;refine KM (pl:=pl) (thn (he pins s σ H _ I h) λu L ⟨x,H1,J,Y,a,dx,fs,ex,ea,l,q⟩=>?_) ht;subst ex;obtain rfl:u=sb a:=Y;refine mf J ea c hm l ?_;refine Kh (first:=[.ref a]) (h₀:=X.base) I.ok.mod.kin hm.kp (thn (ha pos pins L σ H1 _ J q) λus α ⟨vs,H2,I2,r,ν⟩=>⟨I2.kIn,?_⟩) G ψ;exact x6 (us:= .ref a::us) (vs:= .ref a::vs) F Z hb hd hx I2 (.cons rfl r) ν
theorem bP {pl:Sem IA} (he:PE X o ta) (c:Cls X.K C) (hm:Meth X.K C m f) (F:FnOk X.prog X.w X.K X.mg X.base CX k f fd ps sp) (J:Room k X.A) (hb:kC X.K fd ps ds) (hd:Vals dvs ds) (hx:mF CX X E)
  (ht:eval (.Call (.Attribute o m apos) [] [] pos) X.env=(do
   let ο <-eval o X.env
   standAt apos.atName
   let (f,first) <-holding [ο] (getMethod ο m pl)
   callWith pos f first (backTo pos (oD [] X.env)) (backToKw pos (keywordEach [] X.env))):=by rfl):
  PE X (.Call (.Attribute o m apos) [] [] pos) (B7 C m sp dvs E ta tNil):=by
 intro pins s σ H Q I h;refine KM (pl:=pl) (thn (he pins s σ H _ I h) λu L ⟨x,H1,I1,G,a,dx,fs,ex,ea,l,q⟩=>?_) ht;subst ex;obtain rfl:u=sb a:=G;refine mf I1 ea c hm l ?_;exact PySem.W.callWith_K0 (first:=[.ref a]) I1.kIn hm.kp (x6 (us:=[.ref a]) (vs:=[.ref a]) F J hb hd hx I1 (.cons rfl .nil) q)
structure Mk (K:a') (C f:ee):Prop where
 makes:Nd K C=true
 init:zP K (.ref C) "__init__"=aT (aT (.ref f))
 fn:Lm K (.ref f)=true
 kp:Iy K (.ref C)=true
theorem Ah {pins:E'} {σ:St} {H:Hp} {s:f'} {Q:VK} {us:F'} {vs:ef V} (M:Mk X.K C f) (F:FnOk X.prog X.w X.K X.mg X.base CX k f fd ps sp) (β:Room (k + 1) X.A) (hb:kC X.K fd ps ds) (hd:Vals dvs ds)
  (α:mF CX X E) (I:Inv X pins σ H s) (r:Vals vs us)
  (h:∀x dx,H x=eH->H dx=eH->dx≠x->sp (.ref x::(vs++dvs)) (upd (upd H dx (.own x)) x (.ins C dx [])) (λv H2=>v= .non/\Q (.ref x) H2) E):
  hQ (lT X.prog X.w) X.A (call (.ref C) us) (EP X pins σ Q) X.xe s:=by
 have L:=h (s.heap.objs.size + 1) s.heap.objs.size (I.hok.fresh (JE _)) (I.hok.fresh (ov _)) (Hl (Il _));have I2:=Inv.made (C:=C) I;have J:Vals (V.ref (s.heap.objs.size + 1)::(vs++dvs)) (sb (s.heap.objs.size + 1)::(us++ds)):= .cons rfl (r.append hd)
 have γ:(sb (s.heap.objs.size + 1)::us++ds).length=ps.length:=by
  have e:=J.length;rw[F.len _ _ _ _ L] at e;exact e.symm
 refine MN (AD (f:=f) I.kIn M.makes M.init (L9.mp M.fn) (La (F.run _ X.stack _ _ ⟨sb (s.heap.objs.size + 1)::us,[]⟩ (sb (s.heap.objs.size + 1)::(us++ds)) _ _ E (β.make C us [])
  (I2.env0.make C us []) (hb _ (sb (s.heap.objs.size + 1)::us) I2.kIn γ) J L) λr s' G=>?_))
 cases r with
 | error e=>exact α pins σ _ _ e s' I2 G
 | ok δ=>
   cases δ with
   | ret u=>
     obtain⟨v,H',ε,Y,ev,Z⟩:=I2.after G;subst ev;exact⟨Y,⟨V.ref (s.heap.objs.size + 1),H',ε,rfl,Z⟩⟩
   | next=>exact Hr G
   | brk=>exact Hr G
   | cont=>exact Hr G
theorem qK (M:Mk X.K C f) (F:FnOk X.prog X.w X.K X.mg X.base CX k f fd ps sp) (G:Room (k + 1) X.A) (J:Gl X x) (hm:X.mg x=aT (.ref C)) (hb:kC X.K fd ps ds) (hd:Vals dvs ds) (hx:mF CX X E)
  (ha:PA X (e::es) t) (Z:(x == ("__debug__":Hk))=false:=by decide) (he:oD (e::es) X.env=(false,eval e X.env)::oD es X.env:=by rfl) (ψ:(backTo pos (oD es X.env)).any (·.1)=false:=by rfl):
  PE X (.Call (.Name x p) (e::es) [] pos) (El C sp dvs E t):=by
 intro pins s σ H Q I h;refine JZ (qX I J hm ?_ Z);refine Kh (h₀:=X.base) I.ok.mod.kin M.kp (thn (ha pos pins s σ H _ I h) λus L ⟨vs,H1,I1,r,q⟩=>⟨I1.kIn,?_⟩) he ψ;exact Ah M F G hb hd hx I1 r q
end
section
variable {X:Cx} {CX:CXT} {k:Nat} {f C:ee} {fd:kv} {ps ks:C'} {sp:Sp} {E:XK} {x m:Hk} {p pos apos kpos:Pos} {e o:Hi} {es:ef Hi} {kws:ef Keyword} {te ta:TE} {t tk:TA} {nm:ry Hk}
structure G9 (K:a') (fd:kv) (ps ks:C') (g:F'->F'->F') (gV:ef V->ef V->ef V):Prop where
 to:∀(s:f') (us ws:F'),K.In s.heap->(g us ws).length=ps.length->BindsTo s fd ⟨us,ks.zip ws⟩ (ps.zip (g us ws))
 rel:∀{vs:ef V} {us:F'} {zs:ef V} {ws:F'},Vals vs us->Vals zs ws->Vals (gV vs zs) (g us ws)
variable {g:F'->F'->F'} {gV:ef V->ef V->ef V}
end
structure aB (N P:C') (sc:Hy):Prop where
 kind:sc.kind= .function
 co:sc.isCoroutine=false
 gen:sc.isGenerator=false
 nd:N.Nodup
 pre:N.take P.length=P
 par:∀x∈P,sc.names.lookup x=aT .local∨sc.names.lookup x=aT .cell
 nofree:∀y∈sc.names,y.2≠.free
theorem tF {kindOf:Hk->ry NameKind} {x:Hk}:∀{binds:HP} {m:G'},(∀v,(x,v)∉binds)->bindL kindOf binds m x=m x
 | [],_,_=>rfl
 | (n,v)::r,m,h=>by
   unfold bindL;rw[tF λw hw=>h w (p' _ hw)];split
   ·have:x≠n:=by rintro rfl;exact h v Ha
    simp[this]
   ·rfl
theorem tH {kindOf:Hk->ry NameKind} {x:Hk}:∀{binds:HP} {m:G'},(∀v,(x,v)∉binds)->bindC kindOf binds m x=m x
 | [],_,_=>rfl
 | (n,v)::r,m,h=>by
   unfold bindC;rw[tH λw hw=>h w (p' _ hw)];split
   ·rfl
   ·have:x≠n:=by rintro rfl;exact h v Ha
    simp[this]
theorem tG {kindOf:Hk->ry NameKind} {x:Hk} {v:hG}:∀{P:C'} {vs:F'} {i:Nat} {m:G'},P.Nodup->P[i]? =aT x->vs[i]? =aT v->kindOf x=aT .local->
  bindL kindOf (P.zip vs) m x=aT v
 | [],_,_,_,_,h,_,_=>by simp at h
 | _::_,[],_,_,_,_,h,_=>by simp at h
 | p::P,w::vs,0,m,nd,h1,h2,hk=>by
   simp at h1 h2;subst h1;subst h2;show bindL kindOf ((p,w)::P.zip vs) m p=_;unfold bindL;rw[tF λv G=>(L1.mp nd).1 (Lu G).1,pe hk];simp
 | p::P,w::vs,i + 1,m,nd,h1,h2,hk=>by
   show bindL kindOf ((p,w)::P.zip vs) m x=_;unfold bindL;exact tG (i:=i) (L1.mp nd).2 (by simpa using h1) (by simpa using h2) hk
theorem tI {kindOf:Hk->ry NameKind} {x:Hk} {v:hG}:∀{P:C'} {vs:F'} {i:Nat} {m:G'},P.Nodup->P[i]? =aT x->vs[i]? =aT v->kindOf x≠aT .local->
  bindC kindOf (P.zip vs) m x=aT v
 | [],_,_,_,_,h,_,_=>by simp at h
 | _::_,[],_,_,_,_,h,_=>by simp at h
 | p::P,w::vs,0,m,nd,h1,h2,hk=>by
   simp at h1 h2;subst h1;subst h2;show bindC kindOf ((p,w)::P.zip vs) m p=_;unfold bindC;rw[tH λv G=>(L1.mp nd).1 (Lu G).1,nk hk];simp
 | p::P,w::vs,i + 1,m,nd,h1,h2,hk=>by
   show bindC kindOf ((p,w)::P.zip vs) m x=_;unfold bindC;exact tI (i:=i) (L1.mp nd).2 (by simpa using h1) (by simpa using h2) hk
noncomputable def kF (N:C') (vs:ef V):St:=vs.map aT++lA (N.length - vs.length) eH
noncomputable def cxOf (CX:CXT) (P:px) (w:wq) (K:a') (mg:G') (base:zx) (N:C') (qual:Hk) (scope:Hy) (f:ee) (cd:hG) (A:Hg) (outer:ef Env) (s:f') (H:Hp) (E:XK):Cx where
 prog:=P
 w:=w
 K:=K
 mg:=mg
 base:=base
 A:=A.deeper (envOfC qual scope s.heap.objs.size f cd)
 N:=N
 s₀:=s
 H₀:=H
 env:=envOfC qual scope s.heap.objs.size f cd
 outer:=outer
 stack:=envOfC qual scope s.heap.objs.size f cd::outer
 ex:=[]
 calm:=true
 fn:=λ_=>true
 pn:=[]
 xe:=λe s'=>hQ (lT P w) (A.deeper (envOfC qual scope s.heap.objs.size f cd)) (leaving (envOfC qual scope s.heap.objs.size f cd) e) (λ_ G=>CX outer H s E e G) (fun τ G=>CX outer H s E τ G) s'
theorem vM {G:Hy} {n:Nat} {x:Hk} (h:G.names.lookup x=aT .cell):∃c,(cellsFrom n G.names []).lookup x=aT c:=by
 have q:=Mh G.names n [] (.inl h);exact Option.isSome_iff_exists.mp q
theorem yS {CX:CXT} {P:px} {w:wq} {K:a'} {mg:G'} {base:zx} {N ps:C'} {qual:Hk} {scope:Hy} {f:ee} {cd:hG} {A:Hg} {outer:ef Env} {s I:f'} {H:Hp} {E:XK} {us:F'} {vs:ef V}
  (S:aB N ps scope) (hd:A.handled=eH) (υ:Env0 P w K mg base A outer s H) (L:vs.length=ps.length) (r:Vals vs us)
  (x:InCallC s s.heap.objs.size (bindL (envOfC qual scope s.heap.objs.size f cd).kindOf (ps.zip us) λ_=>eH) (cellsFrom (s.heap.objs.size + 1) scope.names []) (bindC (envOfC qual scope s.heap.objs.size f cd).kindOf (ps.zip us) λ_=>eH) I):
  Inv (cxOf CX P w K mg base N qual scope f cd A outer s H E) [] (kF N vs) H I:=by
 have ψ:ps.length<=N.length:=by have:=Hm KC S.pre;rw[Ho] at this;omega
 obtain⟨h1,tk,rfl,hk⟩:=x.done;have ω:∀b:ee,b∉(cxOf CX P w K mg base N qual scope f cd A outer s H E).ex:=λb z=>hE (show b∈([]:HJ) from z) @E
 refine⟨⟨υ.mod,S.kind,rfl,rfl,ov _,λy z c h1 h2=>?_,λy hy=>?_,λy c _ h=>?_,λ_=>hd,MM υ.frames,.inr ⟨rfl,rfl⟩,λb z=>hE z (ω b),υ.bs,υ.bsz,λb _ _=>ω b,λb z=>hE z (ω b),υ.funs,υ.frf⟩,
  rfl,υ.bare,Un.kept hk,⟨_,x.toInCall.ns,λi y v h1 h2 Y=>?_⟩,λy c h=>⟨_,x.cell y c h⟩,υ.hok.fresh (ov _),λy c h=>?_,λp G=>hE (show p∈([]:E') from G) @E,υ.hok.kept hk,?_⟩
 ·exact name_of_addr x.apart (wh h1) (wh h2)
 ·have hy:scope.names.lookup y=aT .cell∨scope.names.lookup y=aT .free:=hy;rcases hy with hy | hy
  ·exact vM hy
  ·exact hE rfl (S.nofree _ (wh hy))
 ·exact Jn (x.above y c (wh h))
 ·have hi:i < vs.length:=by
   unfold kF at h2;by_cases hi:i < vs.length
   ·exact hi
   ·rw[lB (by simpa using hi)] at h2;rw[MD] at h2;split at h2<;>cases h2
  have ha:vs[i]? =aT v:=by
   unfold kF at h2;rw[kA (by simpa using hi),fk] at h2;cases e:vs[i]? with
   | none=>rw[e] at h2;cases h2
   | some a=>rw[e] at h2;cases h2;rfl
  obtain⟨u,β,J⟩:=r.get ha
  have G:ps[i]? =aT y:=by
   rw[<-S.pre,IX @A];exact h1
  have Z:ps.Nodup:=by rw[<-S.pre];exact S.nd.sublist (List.take_sublist _ _)
  refine⟨u,J,?_⟩;rcases S.par y (eO G) with k | k
  ·exact .inl ⟨k,tG Z G β k⟩
  ·obtain⟨c,e⟩:=vM (n:=s.heap.objs.size + 1) k;refine .inr ⟨.inl k,c,e,?_⟩;have q:=x.cell y c e;rw[tI Z G β (by show scope.names.lookup y≠_;rw[k];decide)] at q;exact q
 ·exact υ.hok.fresh (Jn (x.above y c (wh h)))
 ·unfold kF;show _=N.length;rw[eZ,cY,Iu];omega
theorem AS {CX:CXT} {P:px} {w:wq} {K:a'} {mg:G'} {base:zx} {k:Nat} {f:ee} {name qual:Hk} {L:Arguments} {Y:ef JQ} {scope:Hy} {dV kV α η G ct φ:hG} {an od:HL}
  {ν:HH} {N ps:C'} {sp:Sp} (lk:K.lookup f=aT ⟨φ,od,.func (Iw name qual L Y scope dV kV α η an G ct),ν⟩) (ε:JC K G qual=true) (S:aB N ps scope)
  (len:∀vs H Q E,sp vs H Q E->vs.length=ps.length)
  (Z:∀(A:Hg) (outer:ef Env) (s:f') (H:Hp) (vs:ef V) (Q:VK) (E:XK),Room k (A.deeper (envOfC qual scope s.heap.objs.size f G))->sp vs H Q E->
   ∃t,PSs (cxOf CX P w K mg base N qual scope f G A outer s H E) Y t/\t {nx:=λ_ H'=>Q .non H',rt:=Q} (kF N vs) H):
  FnOk P w K mg base CX (k + 1) f (Iw name qual L Y scope dV kV α η an G ct) ps sp:=by
 refine⟨len,λA outer s H args us vs Q E δ υ hb r ω=>?_⟩;have π:=len _ _ _ _ ω;have θ:K.In s.heap:=υ.mod.kin.keeps λb o e=>(υ.bs b o e).1;have γ:s.heap.NoLimit:=υ.mod.nolimit.keeps λb o e=>(υ.bs b o e).1
 have ο:∀y∈ps.zip us,scope.names.lookup y.1=aT .local∨(scope.names.lookup y.1=aT .cell/\((cellsFrom (s.heap.objs.size + 1) scope.names []).lookup y.1).isSome=true):=λ⟨n,v⟩ ι=>by
  rcases S.par n (Lu ι).1 with q | q
  ·exact .inl q
  ·exact .inr ⟨q,Mh _ _ _ (.inl q)⟩
 refine codeAny_call_function δ.depth (θ _ _ lk) rfl S.co S.gen rfl (PySem.W.codeRec_of θ ε) (hb _ _ _ _ ?_);refine wpAny_newFunctionEnv_cells S.kind ο λenv he ζ x=>?_;subst he;refine⟨γ.keeps x.toInCall.keep,codeAny_func ?_⟩;obtain⟨t,ht,ξ⟩:=Z A outer s H vs Q E (δ.deeper _) ω;have I:Inv (cxOf CX P w K mg base N qual scope f G A outer s H E) [] (kF N vs) H ζ:=yS S δ.hd υ π r x;refine IY (ht [] ζ (kF N vs) H _ I ξ) (fun ρ s' hs=>?_) λe s' hs=>hs
 have fin:∀{σ':St} {H':Hp} {v:V} {u:hG},Inv (cxOf CX P w K mg base N qual scope f G A outer s H E) [] σ' H' s'->RelV v u->Q v H'->CE outer P w H s Q u s':=
  λ{σ' H' v u} J β q=>⟨v,H',J.os,J.bare,J.base,J.hok,β,q⟩
 cases ρ with
 | ret u=>
   obtain⟨v,σ',H',J,β,q⟩:=hs;exact fin J β q
 | next=>
   obtain⟨σ',H',J,q⟩:=hs;exact fin (v:=V.non) (u:=Ic) J rfl q
 | brk=>
   obtain⟨_,_,_,q⟩:=hs;exact Hr q
 | cont=>
   obtain⟨_,_,_,q⟩:=hs;exact Hr q
section
variable {X:Cx} {x:Hk} {p pos:Pos} {e:Hi} {es:ef Hi} {t:TA} {id T:IU} {r:ef V->Hp->VK->Prop}
noncomputable abbrev tCB (r:ef V->Hp->VK->Prop) (t:TA):TE:=fun σ H Q=>t σ H λvs H1=>r vs H1 Q
theorem bF (hc:jT X (.builtin id) r) (α:Gl X x) (hm:X.mg x=eH) (Y:bootBuiltins x=aT (.builtin id)) (ha:PA X (e::es) t) (hn:x≠"__name__":=by decide) (Z:(x == ("__debug__":Hk))=false:=by decide)
  (he:oD (e::es) X.env=(false,eval e X.env)::oD es X.env:=by rfl) (ψ:(backTo pos (oD es X.env)).any (·.1)=false:=by rfl):PE X (.Call (.Name x p) (e::es) [] pos) (tCB r t):=by
 intro pins s σ H Q I h;refine JZ (iS I α hm Y ?_ hn Z);exact PyProof.Rows.callWith_builtin1 (thn (ha pos pins s σ H _ I h) λus G ⟨vs,H1,β,J,L⟩=>hc pins G σ H1 vs us Q β J L) he ψ
theorem nN (hc:jT X (.type T) r) (α:Gl X x) (hm:X.mg x=eH) (Y:bootBuiltins x=aT (.type T)) (ha:PA X (e::es) t) (hn:x≠"__name__":=by decide) (Z:(x == ("__debug__":Hk))=false:=by decide)
  (he:oD (e::es) X.env=(false,eval e X.env)::oD es X.env:=by rfl) (ψ:(backTo pos (oD es X.env)).any (·.1)=false:=by rfl):PE X (.Call (.Name x p) (e::es) [] pos) (tCB r t):=by
 intro pins s σ H Q I h;refine JZ (iS I α hm Y ?_ hn Z);exact Hh (thn (ha pos pins s σ H _ I h) λus G ⟨vs,H1,β,J,L⟩=>hc pins G σ H1 vs us Q β J L) he ψ
end
end L2
namespace HT
open PySem PyProof.Rows
section
variable {prog:px} {w:wq} {A:Hg} {E:D'} {s:f'}
noncomputable def sIx (n d:Nat):ry Int->Nat
 | none=>d
 | some v=>if v < 0 then (v + (n:Int)).toNat else min v.toNat n
theorem sIx_none (n d:Nat):sIx n d eH=d:=rfl
theorem sIx_nat (n d k:Nat):sIx n d (aT (k:Int))=min k n:=by
 show(if (k:Int) < 0 then ((k:Int) + (n:Int)).toNat else min (k:Int).toNat n)=min k n;rw[nk @A,oe]
end
end HT
namespace L2
open PySem PySem.Spec PyProof.Rows
noncomputable abbrev TO:=St->Hp->(ry Int->Hp->Prop)->Prop
def PO (X:Cx) (e:ry Hi) (t:TO):Prop:=
 ∀(pins:E') (s:f') (σ:St) (H:Hp) (Q:ry Int->Hp->Prop),Inv X pins σ H s->t σ H Q->
  hQ (lT X.prog X.w) X.A (evalPart e X.env) (λu s'=>∃o H',Inv X pins σ H' s'/\IsPart u o/\Q o H') X.xe s
noncomputable abbrev B6:TO:=λ_ H Q=>Q eH H
noncomputable abbrev Gk (t:TE):TO:=fun σ H Q=>t σ H λx H1=>∃i,x= .int i/\Q (aT i) H1
section
variable {X:Cx} {e:Hi} {te:TE} {lo hi:ry Hi} {tl th:TO} {pos p2:Pos}
theorem lL:PO X eH B6:=by
 intro pins s σ H Q I h;rw[evalPart_none];exact hP ⟨eH,H,I,.none,h⟩
theorem je (h:PE X e te):PO X (aT e) (Gk te):=by
 intro pins s σ H Q I hw;rw[evalPart_some];refine thn (h pins s σ H _ I hw) λu Y ⟨x,H1,L,G,J⟩=>?_;obtain⟨i,rfl,q⟩:=J;obtain⟨t,rfl⟩:=G;exact⟨aT i,H1,L,.int i t,q⟩
def SlR (X:Cx) (r:V->ry Int->ry Int->Hp->VK->Prop):Prop:=
 ∀(pins:E') (s:f') (σ:St) (H:Hp) (x:V) (v I G:hG) (lo hi:ry Int) (J:ee) (Q:VK),Inv X pins σ H s->RelV x v->s.heap.IsSliceOf J I G .none->IsPart I lo->IsPart G hi->r x lo hi H Q->
  ∃T id,typeLookup (.type T) "__getitem__"=pure (aT (.builtin id))/\s.TypeIs v T/\hQ (lT X.prog X.w) X.A (getItem v (.ref J)) (EP X pins σ Q) X.xe s
noncomputable abbrev tSl (r:V->ry Int->ry Int->Hp->VK->Prop) (te:TE) (tl th:TO):TE:=fun σ H Q=>te σ H λx H1=>tl σ H1 λl H2=>th σ H2 λu G=>r x l u G Q
theorem iD {r:V->ry Int->ry Int->Hp->VK->Prop} (η:SlR X r) (he:PE X e te) (θ:PO X lo tl) (β:PO X hi th):PE X (.Subscript e (.Slice lo hi eH p2) pos) (tSl r te tl th):=by
 intro pins s σ H Q I h;refine Og (thn (he pins s σ H _ I h) λv α ⟨x,H1,π,γ,ε⟩=>?_);refine wpAny_Slice (thn (θ pins α σ H1 _ π ε) λY Z ⟨l,H2,ο,pl,ν⟩=>thn (β pins Z σ H2 _ ο ν) λL J ⟨u,G,I3,ζ,δ⟩=>?_);rw[evalPart_none];refine hP ?_;have ξ:Inv X pins σ G {J with heap:=J.heap.push {cls:= .type "slice",data:= .fields #[Y,L,.none]}}:=I3.kept (t':=J.toks) λb ρ q=>ek _ q;obtain⟨T,id,hT,ht,ι⟩:=η pins {J with heap:=J.heap.push {cls:= .type "slice",data:= .fields #[Y,L,.none]}} σ G x v Y L l u J.heap.objs.size Q ξ γ (Heap.IsSliceOf.new ..) pl ζ δ;show hQ (lT X.prog X.w) X.A (subscriptTail e (.Slice lo hi eH p2) v (.ref J.heap.objs.size)) (EP X pins σ Q) X.xe {J with heap:=J.heap.push {cls:= .type "slice",data:= .fields #[Y,L,.none]}};exact tail_any (ops:=[.ref J.heap.objs.size,v]) ht hT ι (by with_unfolding_all rfl)
noncomputable def cutV (xs:ef V) (lo hi:ry Int):ef V:=(xs.drop (HT.sIx xs.length 0 lo)).take (HT.sIx xs.length xs.length hi - HT.sIx xs.length 0 lo)
theorem uO (xs:ef V) (lo hi:ry Int):(cutV xs lo hi).length<=xs.length:=by
 unfold cutV;rw[Ho,Jq];omega
end
noncomputable def ixN (n:Nat) (i:Int):ry Nat:=if 0<=i then (if i < n then aT i.toNat else eH) else if -(n:Int)<=i then aT (i + n).toNat else eH
noncomputable def atI {α:Type} (xs:ef α) (i:Int):ry α:=(ixN xs.length i).bind λj=>xs[j]?
theorem DD {n:Nat} {i:Int} {j:Nat} (h:ixN n i=aT j):seqIndex? i n=aT j/\j < n/\-(n:Int)<=i/\i < n:=by
 unfold ixN at h;by_cases G:0<=i
 ·rw[pe G] at h;by_cases h1:i < n
  ·rw[pe h1] at h;have e:i.toNat=j:=iv h;exact⟨by rw[seqIndex_of G h1,e],@A,@A,h1⟩
  ·rw[nk h1] at h;cases h
 ·rw[nk G] at h;by_cases h1: -(n:Int)<=i
  ·rw[pe h1] at h;have e:(i + n).toNat=j:=iv h;exact⟨by rw[seqIndex_neg @A h1,e],@A,h1,@A⟩
  ·rw[nk h1] at h;cases h
theorem zy {α:Type} {xs:ef α} {i:Int} {v:α} (h:atI xs i=aT v):∃j,seqIndex? i xs.length=aT j/\xs[j]? =aT v/\j < xs.length/\-(xs.length:Int)<=i/\i < xs.length:=by
 unfold atI at h;cases e:ixN xs.length i with
 | none=>rw[e] at h;cases h
 | some j=>
   rw[e] at h;obtain⟨h1,h2,G,θ⟩:=DD e;exact⟨j,h1,h,h2,G,θ⟩
theorem d5 {α:Type} {xs:ef α} {j:Nat} {v:α} (h:xs[j]? =aT v):atI xs (j:Int)=aT v:=by
 have G:j < xs.length:=(b'.mp h).1
 have e:ixN xs.length (j:Int)=aT j:=by
  unfold ixN;rw[pe @A,pe @A];simp
 unfold atI;rw[e];exact h
def DX (b:Hi):Prop:=∀o i,subscripted b false o i=operate [o,i] (getItem o i)
def IxR (X:Cx) (r:R2):Prop:=
 ∀(value G:Hi) (pins:E') (s:f') (σ:St) (H:Hp) (x y:V) (v u:hG) (Q:VK),Inv X pins σ H s->RelV x v->RelV y u->r x y H Q->
  subscripted G false v u=operate [v,u] (getItem v u)->hQ (lT X.prog X.w) X.A (subscriptTail value G v u) (EP X pins σ Q) X.xe s
def MtR (X:Cx) (id:IU) (r:V->ef V->Hp->VK->Prop):Prop:=
 ∀(pins:E') (s:f') (σ:St) (H:Hp) (x:V) (xs:ef V) (v:hG) (us:F') (Q:VK),Inv X pins σ H s->RelV x v->Vals xs us->r x xs H Q->
  hQ (lT X.prog X.w) X.A (call (.builtin id) (v::us)) (EP X pins σ Q) X.xe s
section
variable {X:Cx} {a b:Hi} {ta tb:TE} {pos:Pos}
theorem bg {r:R2} (Y:IxR X r) (ha:PE X a ta) (hb:PE X b tb) (hs:DX b):PE X (.Subscript a b pos) (tOp r ta tb):=by
 intro pins s σ H Q I h;exact Og (binT ha hb I h λv u G x y H2 Z L J q=>Y a b pins G σ H2 x y v u Q Z L J q (hs _ _))
noncomputable def rIxL (K:a'):R2:=λx y H Q=>∃p xs i v,x= .ref p/\y= .int i/\SqL K H p xs/\atI xs i=aT v/\Q v H
noncomputable def rIxT (K:a'):R2:=λx y H Q=>∃p xs i v,x= .ref p/\y= .int i/\SqT K H p xs/\atI xs i=aT v/\Q v H
theorem DC:IxR X (rIxL X.K):=by
 intro value G pins s σ H x y v u Q I β Z h hs;obtain⟨p,xs,i,z,rfl,rfl,γ,he,q⟩:=h;cases β;obtain⟨t,rfl⟩:=Z;obtain⟨its,r,pl,hz⟩:=I.list γ;obtain⟨j,h1,h2,ζ,θ,ε⟩:=zy he;obtain⟨w,Y,α⟩:=r.get h2;have δ:=r.length;have hn:=yF;have fin:EP X pins σ Q w s:=⟨z,H,I,α,q⟩;by_cases L:0<=i
 ·have J:i.toNat=j:=by
   rw[seqIndex_of L ε] at h1;exact iv h1
  exact item_listR pl.isList L @A (by rw[J];simpa using Y) fin hs
 ·have J:(i + (its.toArray.size:Int)).toNat=j:=by
   rw[seqIndex_neg @A θ] at h1;rw[qQ,<-δ];exact iv h1
  exact Nn (x:=w) pl.isList.typeIs slot_list_getitem.lookup
   (wpAny_getItem_list_neg (Q:=λr s'=>r=w/\EP X pins σ Q r s') pl.isList @A (by rw[qQ]<;>omega) @A (by rw[J];simpa using Y) ⟨rfl,fin⟩) hs
theorem FG:IxR X (rIxT X.K):=by
 intro value G pins s σ H x y v u Q I L J h hs;obtain⟨p,xs,i,z,rfl,rfl,Y,he,q⟩:=h;cases L;obtain⟨t,rfl⟩:=J;obtain⟨its,r,pl,hz⟩:=I.tuple Y;obtain⟨j,h1,h2,δ,θ,γ⟩:=zy he;obtain⟨w,β,α⟩:=r.get h2;have Z:=r.length;have hn:=yF;have fin:EP X pins σ Q w s:=⟨z,H,I,α,q⟩
 exact Nn (x:=w) pl.typeIs slot_tuple_getitem.lookup
  (getItem_tuple (j:=j) (Q:=λr s'=>r=w/\EP X pins σ Q r s') pl @A @A (by rw[qQ,<-Z];exact h1) (by simpa using β) ⟨rfl,fin⟩) hs
theorem rX (lo hi:ry Int) (n:Nat):(sliceBounds lo hi eH n).1=((HT.sIx n 0 lo:Nat):Int)/\(sliceBounds lo hi eH n).2.1=((HT.sIx n n hi:Nat):Int)/\(sliceBounds lo hi eH n).2.2=1:=by
 refine⟨?_,?_,rfl⟩
 ·cases lo with
  | none=>simp[sliceBounds,HT.sIx]
  | some i=>
    simp only[sliceBounds,HT.sIx,MQ,show(1:Int) > 0 by decide,MF];by_cases h:i < 0
    ·simp only[h,MF]<;>omega
    ·simp only[h,L']<;>omega
 ·cases hi with
  | none=>simp[sliceBounds,HT.sIx]
  | some i=>
    simp only[sliceBounds,HT.sIx,MQ,show(1:Int) > 0 by decide,MF];by_cases h:i < 0
    ·simp only[h,MF]<;>omega
    ·simp only[h,L']<;>omega
theorem qz (its:F') (lo hi:ry Int):slicePick its.toArray lo hi eH=((its.drop (HT.sIx its.length 0 lo)).take (HT.sIx its.length its.length hi - HT.sIx its.length 0 lo)).toArray:=by
 obtain⟨h1,h2,G⟩:=rX lo hi its.toArray.size;unfold slicePick;rw[h1,h2,G];simp only[sliceRange_one,pick_run,qQ]<;>rfl
noncomputable def rSlL (K:a'):V->ry Int->ry Int->Hp->VK->Prop:=λx lo hi H Q=>∃a xs,x= .ref a/\SqL K H a xs/\∀p,H p=eH->Q (.ref p) (upd H p (.lst (cutV xs lo hi)))
theorem Ck:SlR X (rSlL X.K):=by
 intro pins s σ H x v α Z lo hi β Q I J hs pl L h;obtain⟨a,xs,rfl,Y,q⟩:=h;cases J;obtain⟨its,r,ht,hz⟩:=I.list Y;have G:=r.length;refine⟨"list",_,slot_list_getitem.lookup,ht.isList.typeIs,?_⟩;refine wpAny_getItem_list_slice ht.isList hs pl L .none @E ?_ (by rw[qQ]<;>omega);rw[qz,<-G];refine⟨.ref s.heap.objs.size,_,I.laid (t':=s.toks) (o:= .lst (cutV xs lo hi)) (λb γ q=>ek _ q) (ov _) ?_,rfl,q _ (I.hok.fresh (ov _))⟩;exact⟨Ih (uO xs lo hi) hz,_,0,(r.drop (HT.sIx xs.length 0 lo)).take (HT.sIx xs.length xs.length hi - HT.sIx xs.length 0 lo),la _ rfl⟩
noncomputable def oI:V->IA
 | .non=>true
 | .bl _=>true
 | .int _=>true
 | .str _=>true
 | _=>false
noncomputable def eqV:V->V->IA
 | .non,.non=>true
 | .bl a,.bl b=>a == b
 | .bl a,.int b=>(if a then 1 else 0) == b
 | .int a,.bl b=>a == (if b then 1 else 0)
 | .int a,.int b=>a == b
 | .str a,.str b=>a == b
 | _,_=>false
theorem FS {A:Hg} {s:f'} {y x:V} {u v:hG} (I:RelV y u) (G:RelV x v) (α:oI y=true) (fx:oI x=true):SeqAt.EqAt A s u v (eqV y x):=by
 cases y with
 | non=>
   cases I;cases x with
   | non=>cases G;exact SeqAt.EqAt.same _
   | bl b=>cases G;exact SeqAt.EqAt.none_bool b
   | int b=>obtain⟨t,rfl⟩:=G;exact SeqAt.EqAt.none_int b t
   | str b=>obtain⟨t,rfl⟩:=G;exact SeqAt.EqAt.none_str b t
   | _=>exact hE (show false=true from fx) gn
 | bl a=>
   cases I;cases x with
   | non=>cases G;exact SeqAt.EqAt.bool_none a
   | bl b=>cases G;exact SeqAt.EqAt.bool_bool a b
   | int b=>obtain⟨t,rfl⟩:=G;exact SeqAt.EqAt.bool_int a b t
   | str b=>obtain⟨t,rfl⟩:=G;exact SeqAt.EqAt.bool_str a b t
   | _=>exact hE (show false=true from fx) gn
 | int a=>
   obtain⟨t',rfl⟩:=I;cases x with
   | non=>cases G;exact SeqAt.EqAt.int_none a t'
   | bl b=>cases G;exact SeqAt.EqAt.int_bool a t' b
   | int b=>obtain⟨t,rfl⟩:=G;exact SeqAt.EqAt.int_int a t' b t
   | str b=>obtain⟨t,rfl⟩:=G;exact Mu a t' b t
   | _=>exact hE (show false=true from fx) gn
 | str a=>
   obtain⟨t',rfl⟩:=I;cases x with
   | non=>cases G;exact SeqAt.EqAt.str_none a t'
   | bl b=>cases G;exact SeqAt.EqAt.str_bool a t' b
   | int b=>obtain⟨t,rfl⟩:=G;exact Mt a t' b t
   | str b=>obtain⟨t,rfl⟩:=G;exact SeqAt.EqAt.str_str a t' b t
   | _=>exact hE (show false=true from fx) gn
 | _=>exact hE (show false=true from α) gn
theorem tu:jT X (.type "list") (λxs H Q=>∃p ys,xs=[.ref p]/\(SqL X.K H p ys∨SqT X.K H p ys)/\∀l,H l=eH->Q (.ref l) (upd H l (.lst ys))):=by
 intro pins s σ H xs us Q I r h;obtain⟨p,ys,rfl,hq,q⟩:=h;obtain⟨u,rfl,Y⟩:=vQ r;cases Y
 have fin:∀(its:F'),Vals ys its->ys.length<=i'->∀(h':zx) (G:Nat),(∀b o',s.heap.get? b=aT o'->h'.get? b=aT o')->
   h'.get? s.heap.objs.size=aT {cls:= .type "list",dict:=eH,data:= .seq its.toArray G,slots:=#[]}->EP X pins σ Q (.ref s.heap.objs.size) {s with heap:=h'}:=λits r' hz h' G kp e=>
  ⟨.ref s.heap.objs.size,_,I.laid (t':=s.toks) kp (ov _) (show eR X.prog X.w _ h' _ (.lst ys) from⟨hz,its,G,r',e⟩),rfl,q _ (I.hok.fresh (ov _))⟩
 rcases hq with hq | hq
 ·obtain⟨its,r',pl,hz⟩:=I.list hq;have J:=r'.length;obtain⟨o,ho,L,n,hd⟩:=pl.isList;exact call_list_seq p (.inl rfl) ho L hd (λh' G kp e=>fin its r' hz h' G kp e) (by simp only[qQ]<;>omega)
 ·obtain⟨its,r',pl,hz⟩:=I.tuple hq;have J:=r'.length;obtain⟨o,ho,L,n,hd⟩:=pl;exact call_list_seq p (.inr rfl) ho L hd (λh' G kp e=>fin its r' hz h' G kp e) (by simp only[qQ]<;>omega)
theorem rF:jT X (.type "tuple") (λxs H Q=>∃p ys,xs=[.ref p]/\((SqL X.K H p ys/\∀l,H l=eH->Q (.ref l) (upd H l (.tup ys)))∨(SqT X.K H p ys/\Q (.ref p) H))):=by
 intro pins s σ H xs us Q I r h;obtain⟨p,ys,rfl,h⟩:=h;obtain⟨u,rfl,L⟩:=vQ r;cases L;rcases h with ⟨G,q⟩ | ⟨G,q⟩
 ·obtain⟨its,r',pl,hz⟩:=I.list G;have J:=r'.length;refine call_tuple_list pl.isList (λh' kp=>?_) (by simp only[qQ]<;>omega);have I1:Inv X pins σ H {s with heap:=h'}:=I.kept (t':=s.toks) kp
  have Y:Inv X pins σ (upd H h'.objs.size (.tup ys)) {s with heap:=h'.push {cls:= .type "tuple",data:= .seq its.toArray}}:=
   I1.laid (t':=s.toks) (λb o e=>ek _ e) (ov _) (show eR X.prog X.w _ _ _ (.tup ys) from⟨hz,its,r',IsTup.new _ _⟩)
  exact⟨.ref h'.objs.size,_,Y,rfl,q _ (I1.hok.fresh (ov _))⟩
 ·obtain⟨its,r',pl,hz⟩:=I.tuple G;exact call_tuple_same pl ⟨.ref p,H,I,rfl,q⟩
def tyV (K:a') (T:IU) (x:V) (H:Hp):Prop:=match x with
 | .str _=>T="str"
 | .int _=>T="int"
 | .ref p=>(T="list"/\∃xs,SqL K H p xs)∨(T="tuple"/\∃o,K.lookup p=aT o/\o.cls= .type "tuple"/\o.dict=eH)∨
   (T="dict"/\((∃kvs,H p=aT (.dK kvs))∨∃kvs,H p=aT (.dT kvs)))∨(T="set"/\∃S n,H p=aT (.set S n))
 | _=>False
theorem Bg {pins:E'} {σ:St} {H:Hp} {s:f'} {T:IU} {x:V} {v:hG} (I:Inv X pins σ H s) (r:RelV x v) (ty:tyV X.K T x H):
  s.TypeIs v T/\∀a,v= .ref a->∃J,s.heap.get? a=aT J/\J.dict=none:=by
 cases x with
 | str z=>
   obtain⟨t,rfl⟩:=r;cases(show T="str" from ty);exact⟨typeIs_str s z t,λ_ e=>nomatch e⟩
 | int i=>
   obtain⟨t,rfl⟩:=r;cases(show T="int" from ty);exact⟨Od s i t,λ_ e=>nomatch e⟩
 | ref p=>
   cases r;rcases ty with ⟨rfl,xs,L⟩ | ⟨rfl,o,hk,Y,hd⟩ | ⟨rfl,hk⟩ | ⟨rfl,S,n,hk⟩
   ·obtain⟨its,_,pl,_⟩:=I.list L;refine⟨pl.isList.typeIs,λa e=>?_⟩;cases e;obtain⟨o,n,e,c,hd,_⟩:=pl;exact⟨o,e,hd⟩
   ·refine⟨⟨o,I.kIn p o hk,Y⟩,λa e=>?_⟩;cases e;exact⟨o,I.kIn _ o hk,hd⟩
   ·have z:∃o,s.heap.get? p=aT o/\o.ExactDict:=by
     rcases hk with ⟨kvs,hk⟩ | ⟨kvs,hk⟩
     ·obtain⟨_,_,_,_,o,_,_,e,ex,_⟩:=I.hok p _ hk;exact⟨o,e,ex⟩
     ·obtain⟨_,_,_,_,o,_,_,e,ex,_⟩:=I.hok p _ hk;exact⟨o,e,ex⟩
    obtain⟨o,e,ex⟩:=z;refine⟨⟨o,e,ex.1⟩,λa G=>?_⟩;cases G;exact⟨o,e,ex.2.1⟩
   ·obtain⟨o,_,_,_,e,ex,_⟩:=I.hok p _ hk;refine⟨⟨o,e,ex.1⟩,λa G=>?_⟩;cases G;exact⟨o,e,ex.2.1⟩
 | _=>exact Hr ty
noncomputable abbrev tBM0 (K:a') (T:IU) (r:V->ef V->Hp->VK->Prop) (to:TE):TE:=fun σ H Q=>to σ H λx H1=>tyV K T x H1/\r x [] H1 Q
noncomputable abbrev tBM (K:a') (T:IU) (r:V->ef V->Hp->VK->Prop) (to:TE) (t:TA):TE:=fun σ H Q=>to σ H λx H1=>tyV K T x H1/\t σ H1 λxs H2=>r x xs H2 Q
variable {o e:Hi} {es:ef Hi} {to:TE} {t:TA} {name:Hk} {apos cpos:Pos} {T id:IU} {r:V->ef V->Hp->VK->Prop}
theorem Fi (γ:PlainAttrs T) (slot:Slot T name id) (L:typeOf (.builtin id)=pure (.type "method_descriptor")) (hm:MtR X id r) (ho:PE X o to)
  (J:attributeBase o name X.env (eval o X.env)=eval o X.env:=by rfl) (G:(apos.endLine == cpos.line)=true:=by rfl):PE X (.Call (.Attribute o name apos) [] [] cpos) (tBM0 X.K T r to):=by
 intro pins s σ H Q I h;refine wpAny_Call_method0_late J G (thn (ho pins s σ H _ I h) λv α ⟨x,H1,Z,Y,ty,β⟩=>?_);obtain⟨h1,h2⟩:=Bg Z Y ty;exact⟨T,id,γ,slot,L,h1,h2,ME rfl (PySem.evalArgs_none (hm pins α σ H1 x [] v [] Q Z Y .nil β))⟩
theorem GL (η:PlainAttrs T) (slot:Slot T name id) (Z:typeOf (.builtin id)=pure (.type "method_descriptor")) (hm:MtR X id r) (ho:PE X o to) (ha:PA X (e::es) t)
  (L:attributeBase o name X.env (eval o X.env)=eval o X.env:=by rfl)
  (Y:((backTo cpos (oD (e::es) X.env)).all (λx=> !x.1)&&(backToKw cpos (keywordEach [] X.env)).all (λx=>x.1.isSome)
   &&decide ((e::es).length + ([]:ef Keyword).length + (if ([]:ef Keyword).isEmpty then 0 else 1) < 30))=true:=by rfl)
  (J:(apos.endLine == cpos.line)=true:=by rfl) (hs:oD (e::es) X.env=(false,eval e X.env)::oD es X.env:=by rfl) (G:(backTo cpos (oD es X.env)).any (·.1)=false:=by rfl):
  PE X (.Call (.Attribute o name apos) (e::es) [] cpos) (tBM X.K T r to t):=by
 intro pins s σ H Q I h;refine wpAny_Call_method_late L Y J rfl (thn (ho pins s σ H _ I h) λv δ ⟨x,H1,β,α,ty,ζ⟩=>?_);obtain⟨h1,h2⟩:=Bg β α ty;refine⟨T,id,η,slot,Z,h1,h2,?_⟩;have hA:=ha cpos pins δ σ H1 _ β ζ;rw[hs] at hA ⊢;refine ME (by show(false||(backTo cpos (oD es X.env)).any (·.1))=false;rw[G]<;>rfl) (MR ?_);exact thn hA λus γ ⟨vs,H2,θ,ε,ν⟩=>hm pins γ σ H2 x vs v us Q θ α ε ν
end
def MtM (X:Cx) (id:IU) (r:V->ef V->Hp->VK->Prop):Prop:=
 ∀(pins:E') (s:f') (σ:St) (H:Hp) (x:V) (xs:ef V) (v:hG) (us:F') (Q:VK),Inv X pins σ H s->RelV x v->Vals xs us->r x xs H Q->
  hQ (lT X.prog X.w) X.A (call (.builtin id) (v::us)) (EP X pins σ Q) X.xe s
theorem Vals.one:∀{x:V} {us:F'},Vals [x] us->∃u,us=[u]/\RelV x u
 | _,_,.cons r .nil=>⟨_,rfl,r⟩
theorem Vals.rep {xs:ef V} {us:F'} (h:Vals xs us):∀k:Nat,Vals (lA k xs).flatten (lA k us).flatten
 | 0=> .nil
 | k + 1=>by
   rw[J4,J4,Kr,Kr];exact Vals.append h (Vals.rep h k)
theorem sR (its:F'):∀(k:Nat) (G:F'),
  Na (λx1 x2=>x1++x2) G.toArray (lA k its.toArray)=(G++(lA k its).flatten).toArray
 | 0,G=>by simp
 | k + 1,G=>by
   have e:G.toArray++its.toArray=(G++its).toArray:=by simp
   have I:(G++its)++(lA k its).flatten=G++(lA (k + 1) its).flatten:=by
    rw[J4,Kr,Lx]
   rw[<-I,<-sR its k (G++its),<-e,J4,O0]
section
variable {X:Cx} {pins:E'} {σ:St} {H:Hp} {s:f'} {l b:ee} {xs ys zs:ef V}
theorem Inv.lset {its its':F'} {n:Nat} {f:HG->HG} {t':Nat} (I:Inv X pins σ H s) (Z:H l=aT (.lst xs))
  (e:s.heap.get? l=aT {cls:= .type "list",data:= .seq its.toArray n}) (hf:f its.toArray=its'.toArray) (G:Vals ys its') (hz:ys.length<=i'):
  Inv X pins σ (upd H l (.lst ys)) {s with heap:=s.heap.update l (He f),toks:=t'}:=by
 have q:=PySem.IsL.update e f;rw[hf] at q;refine I.write (x:=l) (e:=l) (by rw[Z];exact trivial) (.inl rfl) (λJ u hb β=>(I9 s.heap (He f) (xn hb)).trans β) ⟨_,q⟩ ?_;exact⟨hz,its',_,G,q⟩
theorem Inv.lnew {its:F'} {t':Nat} (I:Inv X pins σ H s) (G:Vals ys its) (hz:ys.length<=i'):
  Inv X pins σ (upd H s.heap.objs.size (.lst ys)) {s with heap:=s.heap.push {cls:= .type "list",data:= .seq its.toArray},toks:=t'}:=
 I.laid (λ_ _ q=>ek _ q) (ov _) ⟨hz,its,0,G,la _ rfl⟩
theorem Inv.fresh (I:Inv X pins σ H s):H s.heap.objs.size=none:=I.hok.fresh (ov _)
theorem Inv.lstM (I:Inv X pins σ H s) (Z:H l=aT (.lst xs)):xs.length<=i'/\∃(its:F') (n:Nat),Vals xs its/\xs.length=its.length/\s.heap.get? l=aT {cls:= .type "list",data:= .seq its.toArray n}:=by
 obtain⟨z,its,n,r,e⟩:=I.hok l _ Z;exact⟨z,its,n,r,r.length,e⟩
theorem vx {n:Nat} (h:n<=i'):JD n=false:=by
 unfold JD;exact eP @A
end
section
variable {X:Cx}
noncomputable def yf:V->ef V->Hp->VK->Prop:=λx vs H Q=>∃l xs y,x= .ref l/\vs=[y]/\H l=aT (.lst xs)/\xs.length < i'/\Q .non (upd H l (.lst (xs++[y])))
theorem fB:MtM X "list.append" yf:=by
 intro pins s σ H x vs v us Q I G J h;obtain⟨l,xs,y,rfl,rfl,Z,hz,q⟩:=h;cases G;obtain⟨u,rfl,L⟩:=J.one;obtain⟨z,its,n,r,Y,e⟩:=I.lstM Z;refine MO F.slot_list_append ⟨_,e,rfl⟩ F.entry_list_append (F.args_list_append_2 _ _) (PySem.list_append l its.toArray n u (by rw[qQ];omega)) ⟨e,?_⟩;refine⟨.non,_,I.lset (its':=its++[u]) Z e @E (r.append (.cons L .nil)) ?_,rfl,q⟩;rw[eZ,Hu];omega
noncomputable def ye:V->ef V->Hp->VK->Prop:=λx vs H Q=>∃l b xs zs,x= .ref l/\vs=[.ref b]/\H l=aT (.lst xs)/\H b=aT (.lst zs)/\xs.length + zs.length<=i'/\Q .non (upd H l (.lst (xs++zs)))
theorem sj:MtM X "list.extend" ye:=by
 intro pins s σ H x vs v us Q I J L h;obtain⟨l,b,xs,zs,rfl,rfl,Z,δ,hz,q⟩:=h;cases J;obtain⟨u,rfl,Y⟩:=L.one;cases Y;obtain⟨z,its,n,r,η,e⟩:=I.lstM Z;obtain⟨ζ,β,γ,α,hl2,ε⟩:=I.lstM δ;have hsz:its.toArray.size + β.toArray.size<=sizeLine:=by rw[qQ,qQ];omega
 have G:¬(!its.toArray.isEmpty&&JD (its.toArray.size + β.toArray.size))=true:=by
  rw[vx hsz,ID];exact gn
 refine MO F.slot_list_extend ⟨_,e,rfl⟩ F.entry_list_extend (F.args_list_extend_2 _ _)
  (AutoSeq1.list_extend_list_list_0 l its.toArray n b β.toArray γ G (by rw[qQ];omega) @A) ⟨e,ε,?_⟩
 refine⟨.non,_,I.lset (its':=its++β) Z e @E (r.append α) ?_,rfl,q⟩;rw[eZ];omega
noncomputable def rCat:R2:=λx y H Q=>∃l b xs zs,x= .ref l/\y= .ref b/\H l=aT (.lst xs)/\H b=aT (.lst zs)/\xs.length + zs.length<=i'/\∀p,H p=eH->Q (.ref p) (upd H p (.lst (xs++zs)))
theorem ji:OpR X (binaryOp .Add) rCat:=by
 intro pins s σ H x y v u Q I J G h;obtain⟨l,b,xs,zs,rfl,rfl,Z,Y,hz,q⟩:=h;cases J;cases G;obtain⟨z,its,n,r,ε,e⟩:=I.lstM Z;obtain⟨γ,β,δ,L,hl2,α⟩:=I.lstM Y;refine PySem.P.add_list e α ?_ (by rw[qQ,qQ];omega);have ea:its.toArray++β.toArray=(its++β).toArray:=by simp
 rw[ea];exact⟨.ref _,_,I.lnew (t':=s.toks) (r.append L) (by rw[eZ];omega),rfl,q _ I.fresh⟩
noncomputable def rRep:R2:=λx y H Q=>∃l k xs,x= .ref l/\y= .int k/\H l=aT (.lst xs)/\-(2 ^ 63)<=k/\k < 2 ^ 63/\xs.length * k.toNat<=i'/\
 ∀p,H p=eH->Q (.ref p) (upd H p (.lst (lA k.toNat xs).flatten))
theorem C9 {α:Type} (xs:ef α) (k:Nat):(lA k xs).flatten.length=k * xs.length:=by
 induction k with
 | zero=>simp
 | succ k ih=>rw[J4,Kr,eZ,ih,LG,Lh]
theorem Fk:OpR X (binaryOp .Mult) rRep:=by
 intro pins s σ H x y v u Q I α Y h;obtain⟨l,k,xs,rfl,rfl,Z,h1,h2,hz,q⟩:=h;cases α;obtain⟨t,rfl⟩:=Y;obtain⟨z,its,n,r,δ,e⟩:=I.lstM Z;have J:its.toArray.size * k.toNat<=sizeLine:=by rw[qQ,<-δ];exact hz
 have L:¬its.toArray.size * k.toNat > (2 ^ 63 - 1) / 8:=by
  have:(i':Nat)<=(2 ^ 63 - 1) / 8:=by decide
  omega
 have γ:¬(!Builtin.List.listFitsIndex k)=true:=by
  rw[fitsIndex_both h1 h2];exact gn
 have G:¬JD (its.toArray.size * k.toNat)=true:=by
  rw[vx J];exact gn
 have β:Na (λx1 x2=>x1++x2) #[] (lA (if its.toArray.isEmpty=true then 0 else k.toNat) its.toArray)=(lA k.toNat its).flatten.toArray:=by
  have ε:∀m:Nat,Na (λx1 x2=>x1++x2) #[] (lA m its.toArray)=(lA m its).flatten.toArray:=λm=>by
   have:=sR its m [];rw[NZ] at this;exact this
  rw[ε];cases its with
  | nil=>simp
  | cons a r'=>rw[nk @E]
 refine wpAny_binaryOp_repeat_ref (T:="list") (U:="int") @C ⟨_,e,rfl⟩ (λs'=>Od s' k t) noFill_list_mul F.fills_int_mul F.slot_int_rmul repeat_list F.slot_int_index.lookup
  (MO F.slot_int_rmul (Od s k t) F.entry_int_rmul (F.args_int_rmul_2 _ _) (int___rmul___int_list k t l its.toArray n)
   ⟨e,rfl,⟨_,e,rfl⟩,MO F.slot_list_mul ⟨_,e,rfl⟩ F.entry_list_mul (F.args_list_mul_2 _ _) (AutoListH.list___mul___list_int_3 l its.toArray n k t γ L G) ⟨e,?_⟩⟩)
 rw[β];exact⟨.ref _,_,I.lnew (t':=s.toks) (r.rep k.toNat) (by rw[C9,Lf];exact hz),rfl,q _ I.fresh⟩
end
end L2
namespace Att
open PySem PySem.W PySem.Calls PyProof.Rows
theorem oA {P:Params} {h:zx}:∀(ns:HK) (vs:F'),WellAll P h vs (ns.map WData.int)->IntsAre vs ns:=by
 intro ns
 induction ns with
 | nil=>
   intro vs w;rw[MU] at w;cases w;exact .nil
 | cons n ns ih=>
   intro vs w;rw[IE] at w;cases w with
   | cons a b=>
     cases a;exact .cons _ _ (ih _ b)
theorem xS {l:MG} {n:Nat} (hn:l.most=aT n) {P:Params} {h:zx} {args:ef WData} {δ:F'}
  (G:l.row.toRowW.claim.pre args=true) (π:WellAll P h δ args):
  ∃a vs ns,δ=[sb a]/\args=[WData.list (ns.map WData.int)]/\h.get? a=aT {cls:= .type "list",data:= .seq vs.toArray}/\IntsAre vs ns/\ns.length<=n:=by
 have Y:WShape.hasAll [] args [.list .int]=true:=(pre_splitW G).1;have Z:l.pre.holds [] {args:=args}=true:=(pre_splitW G).2;obtain⟨d,r,rfl,h1,h2⟩:=hasAllW_cons Y;obtain rfl:=hasAllW_nil h2;obtain⟨xs,rfl,γ⟩:=hasW_list h1;obtain⟨ns,rfl⟩:=items_int γ
 have I:ns.length<=n:=by
  unfold OpenLaw.pre at Z
  have θ:(WTm.not (.lt (.lit (.int (n:Int))) (.len (.arg 0)))).holds [] {args:=[.list (ns.map .int)]}=true:=by
   have θ:=(holds_andW Z).1;rw[hn] at θ;exact θ
  have L:=condW_of θ (w_not (w_lt w_lit (w_len_list (w_arg rfl))));rw[cY] at L;refine LS λq=>?_;have β:(n:Int) < ((ns.length:Nat):Int):=by omega
  first
   | (rw[gB β] at L;exact hE L @C)
   | (simp at L;omega)
 cases π with
 | cons α η=>
   cases η;cases α with
   | list ho J=>exact⟨_,_,ns,rfl,rfl,ho,oA ns _ J,I⟩
theorem yi (l:MG) (args:ef WData):l.row.toRowW.claim.post args (.bool true) args=true:=
 postW_of (r:=l.row.toRowW) (X:=(true == true))
  (show Os [] (.bool true) .bool=true by first | rfl | decide | simp[Os,WShape.arms,WShape.armsAll])
  (show(WTm.eq .res (.lit (.bool true))).value [] {args:=args,res:=aT (.bool true),after:=args}=aT (.bool (true == true)) from w_eq_bool (w_res rfl) w_lit) rfl
theorem attach_call {l:MG} {n:Nat} {q:px} {L:C'} {υ:G'->zx->Prop} {τ:wq->zx->Prop} {d:DefRec}
  (hn:l.most=aT n) (ν:d.params.defaults=[])
  (call:∀(w:wq) (s₀ J:f') (mg η:G') (ζ:ee) (o:Mm) (I cd α:hG) (a:ee) (vs:F') (ns:HK),
   Ground q L [] υ w s₀ mg η J.heap->τ w J.heap->
   J.heap.get? ζ=aT o->o.data= .func (docDef d.name d.params d.body d.scope I cd α)->J.heap.CodeRec cd d.name->mg d.name=aT (.ref ζ)->
   J.heap.get? a=aT {cls:= .type "list",data:= .seq vs.toArray}->IntsAre vs ns->ns.length<=n->J.gens=#[]->
   codeAny (lT l.prog w) callerA (.call (.ref ζ) ⟨[.ref a],[]⟩) (λr s'=>r= .ok (.ret (.bool true))/\OldK J.heap s'.heap/\s'.os=J.os/\AllBare s'.gens) J):
  WalkO q L υ τ l.row.toRowW d [] (λf vs=>N7 f vs):=by
 intro w s₀ J mg η G Y ζ o I cd α dV kV ho hd ξ ι ρ ω args δ as β ο φ π ψ;obtain rfl:dV= .none:=Dflts.none ι ν;obtain rfl:kV= .none:=Dflts.noKw ι;obtain⟨a,vs,ns,rfl,rfl,γ,Z,ε⟩:=xS hn β π;refine enter_call (La (call w s₀ J mg η ζ o I cd α a vs ns G Y ho (fd_plain hd) ξ ρ γ Z ε ω) λr s' χ=>?_);obtain⟨rfl,h2,h3,θ⟩:=χ;exact⟨.inl ⟨.bool true,.bool true,[],rfl,λ_=>rfl,.bool true,yi l _,λ_=>⟨Mc,λ_ hm=>(nomatch hm)⟩⟩,h2,h3,θ⟩
end Att
namespace L2
open PySem PySem.Spec PyProof.Rows
theorem kE:∀{vs:F'} {ns:HK},IntsAre vs ns->Vals (ns.map V.int) vs
 | _,_,.nil=> .nil
 | _,_,.cons n t h=> .cons ⟨t,rfl⟩ (kE h)
noncomputable def eJ (s:JQ) (j:Nat):Stmt:=match s with
 | .ClassDef _ _ _ G _ _ _ _ _ _ _=>G.getD j (.Pass ⟨0,0,0,0⟩)
 | _=> .Pass ⟨0,0,0,0⟩
noncomputable def d4 (s:JQ):Arguments:=match s with
 | .FunctionDef _ a _ _ _ _ _ _ _ _=>a
 | _=>{posonlyargs:=[],args:=[],vararg:=eH,kwonlyargs:=[],kw_defaults:=[],kwarg:=eH,defaults:=[]}
noncomputable def cM (s:JQ):ef Stmt:=match s with
 | .FunctionDef _ _ b _ _ _ _ _ _ _=>b
 | _=>[]
noncomputable def ah (s:JQ):Scope:=match s with
 | .FunctionDef _ _ _ _ _ _ G _ _ _=>G
 | _=>{kind:= .function,names:=[],isGenerator:=false,isCoroutine:=false}
noncomputable abbrev CX0:CXT:=λ_ _ _ _ _ _=>False
noncomputable abbrev E0:XK:=λ_ _ _=>False
theorem dZ {X:Cx}:mF CX0 X E0:=λ_ _ _ _ _ _ _ h=>h.elim
structure Fun (K:a') (x qual:Hk) (st:JQ) (f:ee) (fd:kv):Prop where
 ex:∃(oc:hG) (od:HL) (kV doc pm:hG) (an:HL) (cdv ct:hG) (osl:HH),
  fd=Iw x qual (d4 st) (cM st) (ah st) .none kV doc pm an cdv ct/\K.lookup f=aT ⟨oc,od,.func fd,osl⟩/\JC K cdv qual=true
 kp:Iy K (.ref f)=true
section
variable {P:px} {w:wq} {K:a'} {mg:G'} {base:zx}
theorem Fun.ok {x qual:Hk} {st:JQ} {f:ee} {fd:kv} {N ps:C'} {k:Nat} {sp:Sp} (F:Fun K x qual st f fd) (S:aB N ps (ah st)) (len:∀vs H Q E,sp vs H Q E->vs.length=ps.length)
  (J:∀(G:hG) (A:Hg) (outer:ef Env) (s:f') (H:Hp) (vs:ef V) (Q:VK) (E:XK),Room k (A.deeper (envOfC qual (ah st) s.heap.objs.size f G))->sp vs H Q E->
   ∃t,PSs (cxOf CX0 P w K mg base N qual (ah st) f G A outer s H E).nox (cM st) t/\t {nx:=λ_ H'=>Q .non H',rt:=Q} (kF N vs) H):FnOk P w K mg base CX0 (k + 1) f fd ps sp:=by
 obtain⟨φ,od,kV,α,I,an,G,ct,ν,rfl,lk,L⟩:=F.ex;refine AS lk L S len λA outer s H vs Q E Y ω=>?_;obtain⟨t,h,q⟩:=J G A outer s H vs Q E Y ω;exact⟨t,h.nox,q⟩
theorem Fun.okA {x qual:Hk} {st:JQ} {f:ee} {fd:kv} {N ps:C'} {k:Nat} {sp:Sp} (F:Fun K x qual st f fd) (S:aB N ps (ah st))
  (G:∀(I:hG) (A:Hg) (outer:ef Env) (s:f') (H:Hp) (vs:ef V) (Q:VK) (E:XK),Room k (A.deeper (envOfC qual (ah st) s.heap.objs.size f I))->sp vs H Q E->
   ∃t,PSs (cxOf CX0 P w K mg base N qual (ah st) f I A outer s H E).nox (cM st) t/\t {nx:=λ_ H'=>Q .non H',rt:=Q} (kF N vs) H) (len:∀vs H Q E,sp vs H Q E->vs.length=ps.length:=by walk_at "n"):FnOk P w K mg base CX0 (k + 1) f fd ps sp:=F.ok S len G
theorem Fun.binds {x qual:Hk} {st:JQ} {f:ee} {fd:kv} {ps:C'} (F:Fun K x qual st f fd)
  (h:∀(kV α I:hG) (an:HL) (G ct:hG) (us:F'),us.length=ps.length->bindArgs (Iw x qual (d4 st) (cM st) (ah st) .none kV α I an G ct) ⟨us,[]⟩=pure (ps.zip us)):kC K fd ps []:=by
 obtain⟨φ,od,kV,α,I,an,G,ct,ν,rfl,lk,J⟩:=F.ex;exact .all (h kV α I an G ct)
theorem y2 {x qual:Hk} {st:JQ} {f:ee} {φ:hG} {od an:HL} {ν:HH} {kV α I G ct:hG} (l:K.lookup f=aT ⟨φ,od,.func (Iw x qual (d4 st) (cM st) (ah st) .none kV α I an G ct),ν⟩)
  (c:JC K G qual=true) (k:Iy K (.ref f)=true):Fun K x qual st f (Iw x qual (d4 st) (cM st) (ah st) .none kV α I an G ct):=⟨⟨φ,od,kV,α,I,an,G,ct,ν,rfl,l,c⟩,k⟩
end
theorem AM {A:Hg} {k:Nat} (G:Room k A):A.units + 1 < cLine:=Hf (Nat.add_le_add_left (by decide:1<=64) _) G.units
theorem dU {n:Nat} (h:n<=1000):n < sizeLine:=Hf h @C
section
variable {X:Cx}
theorem pv (i:Nat) {x:Hk} {pos:Pos} (J:X.N[i]? =aT x:=by rfl) (I:Vis X.env.scope x:=by first | exact Le rfl | exact Ld (Le rfl) | exact Ld (Ld rfl)) (hd:(x == ("__debug__":Hk))=false:=by decide)
  (G:(x == ("__classdict__":Hk))=false:=by decide):PE X (.Name x pos) (tVar i):=Ff J I hd G
end
theorem ite2 {c A B:Prop} [Decidable c] (h1:c->A) (h2:¬c->B):if c then A else B:=by
 by_cases h:c
 ·rw[pe h];exact h1 h
 ·rw[nk h];exact h2 h
def Same (H H':Hp):Prop:=∀b o,H b=aT o->H' b=aT o
theorem Same.refl (H:Hp):Same H H:=λ_ _ h=>h
theorem Same.trans {H H1 H2:Hp} (a:Same H H1) (b:Same H1 H2):Same H H2:=λc o h=>b c o (a c o h)
theorem Same.free {H H':Hp} (e:Same H H') {l:ee} (h:H' l=Option.none):H l=Option.none:=by
 cases q:H l with
 | none=>rfl
 | some o=>
   rw[e l o q] at h;cases h
theorem Same.seq {K:a'} {H H':Hp} {a:ee} {xs:ef V} (e:Same H H') (h:SqL K H a xs):SqL K H' a xs:=by
 rcases h with (h | ⟨o,h⟩) | h
 ·exact .inl (.inl (e _ _ h))
 ·exact .inl (.inr ⟨o,e _ _ h⟩)
 ·exact .inr h
section
variable {κ:Type} [DecidableEq κ]
noncomputable def valV (kvs:ef (κ×V)) (k:κ):ry V:=(kvs.find? λG=>decide (G.1=k)).map (·.2)
noncomputable def putK (kvs:ef (κ×V)) (k:κ) (v:V):ef (κ×V):=
 if (kvs.any λG=>decide (G.1=k))=true then kvs.map (λG=>if G.1=k then (G.1,v) else G) else kvs++[(k,v)]
theorem mW {p:κ×V} {r:ef (κ×V)} {k:κ} (e:p.1=k):valV (p::r) k=aT p.2:=by simp[valV,K7,e]
theorem mX {p:κ×V} {r:ef (κ×V)} {k:κ} (e:¬p.1=k):valV (p::r) k=valV r k:=by simp[valV,K7,e]
theorem qt (k:κ):∀kvs:ef (κ×V),(kvs.any λG=>decide (G.1=k))=(valV kvs k).isSome
 | []=>rfl
 | p::r=>by
   rw[Mo];by_cases e:p.1=k
   ·simp only[mW e,gB e,Bool.true_or,Option.isSome_some]
   ·rw[mX e,eP e,Ol];exact qt k r
theorem om (kvs:ef (κ×V)) (k:κ) (v:V):(putK kvs k v).length<=kvs.length + 1:=by
 unfold putK;split
 ·rw[cY];omega
 ·rw[eZ,Ir,N'];omega
theorem RelO.isSome_eq {o:ry V} {u:HQ} (r:RelO o u):o.isSome=u.isSome:=by
 cases o with
 | none=>cases u with
   | none=>rfl
   | some _=>exact(show False from r).elim
 | some _=>cases u with
   | none=>exact(show False from r).elim
   | some _=>rfl
theorem KV.val {kvs:ef (κ×V)} {vs:ef (κ×hG)} (r:KV kvs vs) (k:κ):RelO (valV kvs k) (valueAt vs k):=by
 unfold KV at r
 induction r with
 | nil=>exact KQ
 | @cons p q ps J h t ih=>
   obtain⟨h1,h2⟩:=h;by_cases e:p.1=k
   ·have τ:q.1=k:=h1.symm.trans e;have b:valueAt (q::J) k=aT q.2:=by simp[valueAt,K7,τ]
    rw[mW e,b];exact h2
   ·have τ:¬q.1=k:=λz=>e (h1.trans z);have b:valueAt (q::J) k=valueAt J k:=by simp[valueAt,K7,τ]
    rw[mX e,b];exact ih
theorem KV.any {kvs:ef (κ×V)} {vs:ef (κ×hG)} (r:KV kvs vs) (k:κ):(kvs.any λG=>decide (G.1=k))=vs.any λG=>decide (G.1=k):=by
 unfold KV at r
 induction r with
 | nil=>rfl
 | cons h t ih=>rw[Mo,Mo,ih,h.1]
theorem KV.repl {kvs:ef (κ×V)} {vs:ef (κ×hG)} (r:KV kvs vs) (k:κ) {y:V} {u:hG} (I:RelV y u):
  KV (kvs.map λG=>if G.1=k then (G.1,y) else G) (vs.map λG=>if G.1=k then (G.1,u) else G):=by
 unfold KV at r ⊢
 induction r with
 | nil=>exact .nil
 | @cons p q ps J h t ih=>
   rw[IE,IE];refine .cons ?_ ih;obtain⟨h1,h2⟩:=h;by_cases e:p.1=k
   ·rw[pe e,pe (h1.symm.trans e)];exact⟨h1,I⟩
   ·rw[nk e,nk (λz=>e (h1.trans z))];exact⟨h1,h2⟩
theorem KV.put {kvs:ef (κ×V)} {vs:ef (κ×hG)} (r:KV kvs vs) (k:κ) {y:V} {u:hG} (I:RelV y u):KV (putK kvs k y) (stored vs k u):=by
 unfold putK stored;rw[r.any k];by_cases e:(vs.any λG=>decide (G.1=k))=true
 ·rw[pe e,pe e];exact r.repl k I
 ·rw[nk e,nk e];exact Oi r ⟨rfl,I⟩
theorem KV.keys {kvs:ef (κ×V)} {vs:ef (κ×hG)} (r:KV kvs vs):kvs.map (·.1)=vs.map (·.1):=by
 unfold KV at r
 induction r with
 | nil=>rfl
 | cons h t ih=>rw[IE,IE,ih,h.1]
theorem KV.length {kvs:ef (κ×V)} {vs:ef (κ×hG)} (r:KV kvs vs):kvs.length=vs.length:=Ma r
end
theorem AK {P:px} {w:wq} {k:Key} {u:hG} (r:RelV (kV k) u):(c8 P w).is k u=true:=by
 cases k with
 | inl i=>obtain⟨t,e⟩:=(show ∃t,u=L5 i t from r);subst e;exact uy P w i t
 | inr x=>obtain⟨t,e⟩:=(show ∃t,u=Mp x t from r);subst e;exact ux P w x t
theorem sI {P:px} {w:wq}:∀{ks:ef Key} {us:F'},Vals (ks.map kV) us->ItemsAre (c8 P w) ks us
 | [],_,r=>by rw[MU] at r;cases r;exact .nil
 | k::ks,_,r=>by
   rw[IE] at r;cases r with
   | cons h t=>exact .cons (AK h) (sI t)
noncomputable abbrev KT (H:Hp):ef (ef Key×V)->ef (ef Key×ee×hG)->Prop:=Paired λp q=>p.1=q.1/\H q.2.1=aT (.tup (p.1.map kV))/\RelV p.2 q.2.2
theorem KT.val {H:Hp} {kvs:ef (ef Key×V)} {xs:ef (ef Key×ee×hG)} (r:KT H kvs xs) (k:ef Key):RelO (valV kvs k) ((atKey xs k).map (·.2)):=by
 induction r with
 | nil=>exact KQ
 | @cons p q ps J h t ih=>
   obtain⟨h1,_,h2⟩:=h;by_cases e:p.1=k
   ·have τ:q.1=k:=h1.symm.trans e;have b:atKey (q::J) k=aT q.2:=by simp[atKey,K7,τ]
    rw[mW e,b];exact h2
   ·have τ:¬q.1=k:=λz=>e (h1.trans z);have b:atKey (q::J) k=atKey J k:=by simp[atKey,K7,τ]
    rw[mX e,b];exact ih
theorem KT.repl {H:Hp} {kvs:ef (ef Key×V)} {xs:ef (ef Key×ee×hG)} (r:KT H kvs xs) (k:ef Key) {y:V} {u:hG} (I:RelV y u):
  KT H (kvs.map λG=>if G.1=k then (G.1,y) else G) (xs.map (putAt k u)):=by
 induction r with
 | nil=>exact .nil
 | @cons p q ps J h t ih=>
   rw[IE,IE];refine .cons ?_ ih;obtain⟨h1,h2,L⟩:=h;unfold putAt;by_cases e:p.1=k
   ·rw[pe e,pe (h1.symm.trans e)];exact⟨h1,h2,I⟩
   ·rw[nk e,nk (λz=>e (h1.trans z))];exact⟨h1,h2,L⟩
theorem KT.put {H:Hp} {kvs:ef (ef Key×V)} {xs:ef (ef Key×ee×hG)} (r:KT H kvs xs) (k:ef Key) {b:ee} {y:V} {u:hG} (hb:H b=aT (.tup (k.map kV))) (I:RelV y u):
  KT H (putK kvs k y) (storedH xs k b u):=by
 have e:(kvs.any λG=>decide (G.1=k))=(atKey xs k).isSome:=by
  rw[qt,(r.val k).isSome_eq,Mr]
 unfold putK storedH;rw[e];by_cases q:(atKey xs k).isSome=true
 ·rw[pe q,pe q];exact r.repl k I
 ·rw[nk q,nk q];exact Oi r ⟨rfl,hb,I⟩
theorem KT.keeps {H H':Hp} {kvs:ef (ef Key×V)} {xs:ef (ef Key×ee×hG)} (r:KT H kvs xs) (ht:∀b ys,H b=aT (.tup ys)->H' b=aT (.tup ys)):KT H' kvs xs:=
 Paired.mapP r λ_ _ z=>⟨z.1,ht _ _ z.2.1,z.2.2⟩
section
variable {P:px} {w:wq} {H:Hp} {h:zx} {a:ee}
theorem E5 {u:HO} (ok:HOk P w H h) (e:Rd H a u):eR P w H h a u:=e.ok ok
theorem A3 {kvs:ef (Key×V)} (ok:HOk P w H h) (e:Rd H a (.dK kvs)):kvs.length<=i'/\(a == sysModules)=false/\∃vs,KV kvs vs/\h.DictOf (c8 P w) a vs:=
 show eR P w H h a (.dK kvs) from E5 ok e
theorem FU {kvs:ef (Key×V)} (ok:HOk P w H h) (e:H a=aT (.dK kvs)):kvs.length<=i'/\(a == sysModules)=false/\∃vs,KV kvs vs/\h.DictOf (c8 P w) a vs:=A3 ok (.inl e)
theorem vD {ks:ef Key} (ok:HOk P w H h) (e:H a=aT (.tup (ks.map kV))):(tupleKind (c8 P w)).is h ks a:=by
 obtain⟨_,its,r,o,h1,h2,n,G⟩:=(show eR P w H h a (.tup (ks.map kV)) from ok a _ e);exact⟨o,its.toArray,n,h1,h2,G,by simpa using sI r⟩
theorem A1 {kvs:ef (ef Key×V)} (ok:HOk P w H h) (e:Rd H a (.dT kvs)):kvs.length<=i'/\(a == sysModules)=false/\
  ∃xs,KT H kvs xs/\h.DictOfH (tupleKind (c8 P w)) a xs:=by
 obtain⟨z,y,xs,r,o,es,ep,h1,h2,L,θ,I⟩:=(show eR P w H h a (.dT kvs) from E5 ok e);refine⟨z,y,xs,r,o,es,ep,h1,h2,L,θ,λx hx=>?_,I⟩
 have all:∀{l:ef (ef Key×V)} {m:ef (ef Key×ee×hG)},KT H l m->∀x∈m,(tupleKind (c8 P w)).is h x.1 x.2.1:=by
  intro l m q
  induction q with
  | nil=>intro x hx;exact nomatch hx
  | @cons p q ps J G t ih=>
    intro x hx;rcases Hn.mp hx with e | hx
    ·subst e;exact vD ok (by rw[<-G.1];exact G.2.1)
    ·exact ih x hx
 exact all r x hx
theorem G1 {kvs:ef (ef Key×V)} (ok:HOk P w H h) (e:H a=aT (.dT kvs)):kvs.length<=i'/\(a == sysModules)=false/\
  ∃xs,KT H kvs xs/\h.DictOfH (tupleKind (c8 P w)) a xs:=A1 ok (.inl e)
end
def DGet (H:Hp) (a:ee) (y:V) (r:ry V):Prop:=
 (∃kvs k,Rd H a (.dK kvs)/\y=kV k/\r=valV kvs k)∨∃kvs k b,Rd H a (.dT kvs)/\y= .ref b/\H b=aT (.tup (k.map kV))/\r=valV kvs k
def DPut (H:Hp) (a:ee) (y v:V) (H':Hp):Prop:=
 (∃kvs k,H a=aT (.dK kvs)/\y=kV k/\kvs.length < i'/\H'=upd H a (.dK (putK kvs k v)))∨
 ∃kvs k b,H a=aT (.dT kvs)/\y= .ref b/\H b=aT (.tup (k.map kV))/\kvs.length < i'/\H'=upd H a (.dT (putK kvs k v))
theorem DGet.k {H:Hp} {a:ee} {kvs:ef (Key×V)} {k:Key} (e:H a=aT (.dK kvs)):DGet H a (kV k) (valV kvs k):= .inl ⟨kvs,k,.inl e,rfl,rfl⟩
theorem DPut.k {H:Hp} {a:ee} {kvs:ef (Key×V)} {k:Key} {v:V} (e:H a=aT (.dK kvs)) (G:kvs.length < i'):DPut H a (kV k) v (upd H a (.dK (putK kvs k v))):= .inl ⟨kvs,k,e,rfl,G,rfl⟩
section
variable {X:Cx} {pins:E'} {σ:St} {H:Hp} {s:f'} {a:ee} {y v:V} {u r:hG} {o:ry V} {A:Hg} {E:D'}
theorem Inv.big (I:Inv X pins σ H s):sysModules < s.heap.objs.size:=by
 have h:Ia < s.heap.objs.size:=(I.mod.glob.keeps I.bk).lt;exact Lg @C h
theorem zk {Q:D'} (β:A.units + 1 < cLine) (I:Inv X pins σ H s) (g:DGet H a y (aT v)) (L:RelV y u) (h:∀χ s',Inv X pins σ H s'->RelV v χ->Q χ s'):
  hQ (lT X.prog X.w) A (getItem (.ref a) u) Q E s:=by
 rcases g with ⟨kvs,k,e,J,l⟩ | ⟨kvs,k,b,e,J,Z,l⟩
 ·subst J;obtain⟨z,hd,vs,rel,dd⟩:=A3 I.hok e;obtain⟨χ,hw,α⟩:=RelO.some_of (v:=v) (o:=valueAt vs k) (by rw[l];exact rel.val k);exact wpAny_getItem_of (AK L) dd.mapOf hw (h χ _ (I.tok _) α)
 ·subst J;cases(show u=sb b from L);obtain⟨z,hd,xs,rel,dd⟩:=A1 I.hok e;obtain⟨χ,hw,α⟩:=RelO.some_of (v:=v) (o:=(atKey xs k).map (·.2)) (by rw[l];exact rel.val k);obtain⟨p,Y,G⟩:=JR.mp hw;refine wpAny_getItem_heap (LR β) (vD I.hok Z) dd Y ?_;rw[G];exact h χ _ (I.tok _) α
theorem d_in {Q:D'} (β:A.units + 1 < cLine) (I:Inv X pins σ H s) (g:DGet H a y o) (J:RelV y u) (h:∀s',Inv X pins σ H s'->Q (.bool o.isSome) s'):
  hQ (lT X.prog X.w) A (compareOp .In u (.ref a)) Q E s:=by
 rcases g with ⟨kvs,k,e,G,l⟩ | ⟨kvs,k,b,e,G,L,l⟩
 ·subst G;obtain⟨z,hd,vs,rel,dd⟩:=A3 I.hok e;refine wpAny_in_of (AK J) hd dd.mapOf ?_;rw[<-(rel.val k).isSome_eq,<-l];exact h _ (I.tok _)
 ·subst G;cases(show u=sb b from J);obtain⟨z,hd,xs,rel,dd⟩:=A1 I.hok e;refine wpAny_in_heap (LR β) (vD I.hok L) hd dd ?_;have q:=(rel.val k).isSome_eq;rw[Mr] at q;rw[<-q,<-l];exact h _ (I.tok _)
theorem zg {h':zx} {t':Nat} {G:HO} (I:Inv X pins σ H s) (L:Mut (H a)) (hs:Kj a s.heap h') (he:∃q,h'.get? a=aT q) (J:eR X.prog X.w (upd H a G) h' a G):
  Inv X pins σ (upd H a G) {s with heap:=h',toks:=t'}:=
 I.write (x:=a) (e:=a) L (.inl rfl) (λb q hb z=>(hs.2 b hb).trans z) he J
theorem FV {P:px} {w:wq} {H':Hp} {h':zx} {kvs:ef (Key×V)} {vs:ef (Key×hG)} (z:kvs.length<=i') (hd:(a == sysModules)=false) (rel:KV kvs vs) (dd:h'.DictOf (c8 P w) a vs):
  eR P w H' h' a (.dK kvs):=⟨z,hd,vs,rel,dd⟩
theorem zh {H':Hp} {Q:HI} (β:A.units + 1 < cLine) (I:Inv X pins σ H s) (g:DPut H a y v H') (α:RelV y u) (γ:RelV v r) (h:∀s',Inv X pins σ H' s'->Q () s'):
  hQ (lT X.prog X.w) A (setItem (.ref a) u r) Q E s:=by
 rcases g with ⟨kvs,k,e,Y,l,Z⟩ | ⟨kvs,k,b,e,Y,ε,l,Z⟩
 ·subst Y Z;obtain⟨z,hd,vs,rel,dd⟩:=FU I.hok e;have hz:vs.length<=sizeLine:=by rw[<-rel.length];exact z
  have L:(putK kvs k v).length<=sizeLine:=by have:=om kvs k v;omega
  refine wpAny_setItem_pairs (hsz:=hz) (AK α) dd λh' G hs=>h _ ?_;have he:∃q,h'.get? a=aT q:=let ⟨q,_,_,J,_⟩:=G;⟨q,J⟩
  exact zg I (by rw[e];exact KQ) hs he (FV L hd (rel.put k γ) G)
 ·subst Y Z;cases(show u=sb b from α);obtain⟨z,hd,xs,rel,dd⟩:=G1 I.hok e;have hz:xs.length<=sizeLine:=by rw[<-Ma rel];exact z
  have L:(putK kvs k v).length<=sizeLine:=by have:=om kvs k v;omega
  refine wpAny_setItem_heap (hsz:=hz) (LR β) (vD I.hok ε) dd λh' G hs=>h _ ?_;obtain⟨q,es,ep,J,h2,η,θ,_,ζ⟩:=G;refine zg I (by rw[e];exact KQ) hs ⟨q,J⟩ ⟨L,hd,_,(rel.put k ε γ).keeps λc ys δ=>?_,q,es,ep,J,h2,η,θ,ζ⟩;rw[aC (ie δ e (λz=>nomatch z))];exact δ
end
def NoSl (i:Hi):Prop:=∀ο G,subscripted i false ο G=operate [ο,G] (getItem ο G)
theorem B8 {prog:px} {w:wq} {A:Hg} {E:D'} {s:f'} {env:Env} {value G:Hi} {pos:Pos} {T id:IU} {Q:D'}
  (α:typeLookup (.type T) "__getitem__"=pure (aT (.builtin id))) (hs:NoSl G)
  (h:hQ (lT prog w) A (eval value env) (λo Y=>hQ (lT prog w) A (eval G env) (λi I=>I.TypeIs o T/\hQ (lT prog w) A (getItem o i) Q E I) E Y) E s):
  hQ (lT prog w) A (eval (.Subscript value G pos) env) Q E s:=by
 refine Og (IY h (λo Y h₁=>IY h₁ (λi I J=>?_) λ_ _ x=>x) λ_ _ x=>x);obtain⟨hT,J⟩:=J;unfold subscriptTail;refine dt ?_;rw[getitemInPython_of_ne hT.not_modules];refine dt (Mw hT α ?_)
 have fin:hQ (lT prog w) A (subscripted G false o i) (λr L=>hQ (lT prog w) A (letTemporaryGo value o r >>=λ_=>pure r) Q E L) E I:=by
  rw[hs o i];exact wpAny_operating (IY J (λr L Z=>dt (wpAny_letTemporaryGo (hP Z))) λ_ _ x=>x)
 first
  | exact hP (dt fin)
  | exact dt (hP (dt fin))
  | exact dt fin
theorem uN {X:Cx} {pins:E'} {σ:St} {H:Hp} {s:f'} {a:ee} {y:V} {o:ry V} (I:Inv X pins σ H s) (g:DGet H a y o):s.TypeIs (.ref a) "dict":=by
 rcases g with ⟨kvs,k,e,_,_⟩ | ⟨kvs,k,b,e,_,_,_⟩
 ·obtain⟨_,_,vs,_,dd⟩:=A3 I.hok e;exact dd.typeIs
 ·obtain⟨_,_,xs,_,dd⟩:=A1 I.hok e;exact dd.typeIs
noncomputable def Eo (td ty:TE):TE:=fun σ H Q=>td σ H λx H1=>ty σ H1 λy H2=>∃a v,x= .ref a/\DGet H2 a y (aT v)/\Q v H2
noncomputable def tDIn (ty td:TE):TE:=fun σ H Q=>ty σ H λy H1=>td σ H1 λx H2=>∃a o,x= .ref a/\DGet H2 a y o/\Q (.bl o.isSome) H2
noncomputable def E3 (td ty tv:TE):TS:=λD σ H=>tv σ H λv H1=>td σ H1 λx H2=>ty σ H2 λy G=>∃a γ,x= .ref a/\DPut G a y v γ/\D.nx σ γ
section
variable {X:Cx} {o i e value:Hi} {pos pos' tpos:Pos} {td ty tv:TE}
theorem yl (β:X.A.units + 1 < cLine) (ho:PE X o td) (hi:PE X i ty) (hs:NoSl i):PE X (.Subscript o i pos) (Eo td ty):=by
 intro pins s σ H Q I h;refine B8 PySem.F.slot_dict_getitem.lookup hs (thn (ho pins s σ H _ I h) λu J ⟨x,H1,δ,Y,Z⟩=>thn (hi pins J σ H1 _ δ Z) fun η ζ ⟨y,H2,G,L,a,v,ex,g,ν⟩=>?_);subst ex;obtain rfl:u=sb a:=Y;exact⟨uN G g,zk β G g L fun χ ε γ α=>⟨v,H2,γ,α,ν⟩⟩
theorem Fj (β:X.A.units + 1 < cLine) (hi:PE X i ty) (ho:PE X o td):PC X .In i o (tDIn ty td):=by
 intro pins s σ H Q I h;refine thn (hi pins s σ H _ I h) fun ζ G ⟨y,H1,γ,J,Y⟩=>thn (ho pins G σ H1 _ γ Y) λu ε ⟨x,H2,α,L,a,ο,ex,g,ν⟩=>?_;subst ex;obtain rfl:u=sb a:=L;exact d_in β α g J fun δ Z=>⟨.bl ο.isSome,H2,Z,rfl,ν⟩
theorem CL (β:X.A.units + 1 < cLine) (ho:PE X o td) (hi:PE X i ty) (ζ:PE X value tv) (hs:swapsWith value (aT (.Subscript o i pos')) pos.line X.env=pure false):
  PS X (.Assign [.Subscript o i pos'] value pos) (E3 td ty tv):=by
 intro pins s σ H D I h;refine wpAny_Assign_Subscript (thn (ζ pins s σ H _ I h) λr L ⟨v,H1,ο,α,ε⟩=>thn (ho pins L σ H1 _ ο ε) λu J ⟨x,H2,ι,Z,ν⟩=>thn (hi pins J σ H2 _ ι ν) fun ρ π ⟨y,G,θ,Y,a,γ,ex,g,δ⟩=>?_) hs;subst ex;obtain rfl:u=sb a:=Z;exact zh β θ g Y α fun ξ η=>⟨σ,γ,η,δ⟩
end
theorem A4 {P:px} {w:wq} {H:Hp} (h:zx) (hb:sysModules < h.objs.size):eR P w H (h.push {cls:= .type "dict",data:= .dict #[]}) h.objs.size (.dK []):=
 ⟨J1 _,vr.mpr (xn (Hl hb)),[],.nil,Heap.DictOf.new h⟩
noncomputable def Bk:TE:=λ_ H Q=>∀p,H p=eH->Q (.ref p) (upd H p (.dK []))
section
variable {X:Cx} {pos:Pos}
theorem Ax:PE X (.Dict [] [] pos) Bk:=λpins s σ H Q I h=>
 wpAny_Dict_empty ⟨.ref s.heap.objs.size,_,I.laid (a:=s.heap.objs.size) (o:= .dK []) (t':=s.toks) (λ_ _ q=>ek _ q) (ov _) (A4 s.heap I.big),rfl,h _ (I.hok.fresh (ov _))⟩
end
structure M1 (X:Cx) (o:Hi) (m:Hk) (apos:Pos) (e:Hi) (cpos:Pos):Prop where
 base:attributeBase o m X.env (eval o X.env)=eval o X.env
 few:((backTo cpos (oD [e] X.env)).all (λx=> !x.1)&&(backToKw cpos (keywordEach [] X.env)).all (λx=>x.1.isSome)
  &&decide (([e]:ef Hi).length + ([]:ef Keyword).length + (if ([]:ef Keyword).isEmpty then 0 else 1) < 30))=true
 line:(apos.endLine == cpos.line)=true
 trees:backTo cpos (oD [e] X.env)=[(false,eval e X.env)]
structure M2 (X:Cx) (o:Hi) (m:Hk) (apos:Pos) (e f:Hi) (cpos:Pos):Prop where
 base:attributeBase o m X.env (eval o X.env)=eval o X.env
 few:((backTo cpos (oD [e,f] X.env)).all (λx=> !x.1)&&(backToKw cpos (keywordEach [] X.env)).all (λx=>x.1.isSome)
  &&decide (([e,f]:ef Hi).length + ([]:ef Keyword).length + (if ([]:ef Keyword).isEmpty then 0 else 1) < 30))=true
 line:(apos.endLine == cpos.line)=true
 trees:backTo cpos (oD [e,f] X.env)=[(false,eval e X.env),(false,eval f X.env)]
end L2
set_option maxHeartbeats 4000000
namespace L2
open PySem PySem.Spec PyProof.Rows
section
variable {P0:px} {w0:wq} {A0:Hg} {R0:HM} {t0:f'}
theorem qo {ζ tg iter:Hi} {ω:ef Hi} {ο:Hy} {pos:Pos} {it η:hG} {τ:Env} (J:Nat->f'->Prop)
  (θ:∀n s,J n s->hQ (lT P0 w0) A0 (pyNext it) (λr G=>match r with
   | none=>R0 (.ok .next) G
   | some v=>hQ (lT P0 w0) A0 (letOwnedTupleGo tg it v) (λ_ γ=>hQ (lT P0 w0) A0 (assign tg τ v) (λ_ β=>
     hQ (lT P0 w0) A0 (forIn ω true λc r=>if r=true then do let ok <-isTrue c τ (eval c τ);pure (IP ok) else pure (IP r)) (λok ε=>
      if ok=true then hQ (lT P0 w0) A0 (eval ζ τ) (λx Z=>
       hQ (lT P0 w0) A0 (call (.builtin "list.append") [η,x]) (λ_ Y=>∃m,m < n/\J m Y) (λ_ _=>False) Z) (λ_ _=>False) ε
      else ∃m,m < n/\J m ε) (λ_ _=>False) β) (λ_ _=>False) γ) (λ_ _=>False) G) (λ_ _=>False) s)
  (n:Nat) (h:J n t0):
  codeAny (lT P0 w0) A0 (.compLoop (.ListComp ζ [⟨tg,iter,ω,0⟩] ο pos) 0 it η τ) R0 t0:=by
 have no:∀{α:Type} {t:Sem α} {Q:α->f'->Prop} {E:D'} {s:f'},hQ (lT P0 w0) A0 t Q (λ_ _=>False) s->hQ (lT P0 w0) A0 t Q E s:=
  λh=>IY h (λ_ _ q=>q) λ_ _ z=>z.elim
 refine codeAny_loop rfl J (λn s I=>?_) n h;show hQ _ A0 ((compTurn (.ListComp ζ [⟨tg,iter,ω,0⟩] ο pos) 0 it η τ).onRaise (λx=>do noteFrame x τ;theTreesLotGoes x)) _ _ s;refine wpAny_noted ?_;rw[compTurn_list];refine dt (LO (dt (thn (no (θ n s I)) λr G h₁=>?_)));cases r with
 | none=>exact hP h₁
 | some v=>
   refine dt (thn (no h₁) λ_ γ ξ=>?_);refine dt (thn (no ξ) λ_ β ν=>dt (thn (no ν) λok ε L=>?_));cases ok with
   | false=>exact hP ⟨rfl,L⟩
   | true=>
     rw[pe rfl] at L;refine dt (dt (thn (no L) λx Z ι=>?_));refine dt (thn (no ι) λ_ Y δ=>?_);exact hP (hP ⟨rfl,δ⟩)
end
theorem ml (env:Env):∀(l:ef (Hk×NameKind)) (α:HN),(∀y∈l,y.2= .free->∃c,env.cells.lookup y.1=aT c)->
  ∃r:HN,(forIn l α (λ(x:Hk×NameKind) (r:HN)=>if x.2 == Hs then (do let c <-cellOf env x.1;pure (IP ((x.1,c)::r))) else pure (IP r)):Sem HN)=pure r/\
   (∀p∈r,p∈α∨env.cells.lookup p.1=aT p.2)/\(∀p∈α,p∈r)/\(∀y∈l,y.2= .free->∃c,(y.1,c)∈r)
 | [],α,_=>⟨α,rfl,λp I=> .inl I,λp I=>I,λy G=>nomatch G⟩
 | (x,k)::l,α,h=>by
   by_cases hk:k= .free
   ·subst hk;obtain⟨c,L⟩:=h (x,.free) Ha rfl;obtain⟨r,e,h1,h2,J⟩:=ml env l ((x,c)::α) λy G=>h y (p' _ G);refine⟨r,?_,λp I=>?_,λp I=>h2 p (p' _ I),λy G hf=>?_⟩
    ·rw[JW];have Y:cellOf env x=pure c:=by unfold cellOf;rw[L]
     simp only[HV,MF,Y,pure_bind];exact e
    ·rcases h1 p I with q | q
     ·rcases Hn.mp q with z | z
      ·subst z;exact .inr L
      ·exact .inl z
     ·exact .inr q
    ·rcases Hn.mp G with z | z
     ·subst z;exact⟨c,h2 _ Ha⟩
     ·exact J y z hf
   ·obtain⟨r,e,h1,h2,J⟩:=ml env l α λy G=>h y (p' _ G);refine⟨r,?_,h1,h2,λy G hf=>?_⟩
    ·rw[JW];have hb:(k == Hs)=false:=by cases k<;>first | rfl | exact hE rfl hk
     simp only[hb,Kv,L',pure_bind];exact e
    ·rcases Hn.mp G with z | z
     ·subst z;exact hE hf hk
     ·exact J y z hf
theorem mj (G:Hy) (env:Env) (h:∀y∈G.names,y.2= .free->∃c,env.cells.lookup y.1=aT c):
  ∃I,closureFor G env=pure I/\(∀p∈I,env.cells.lookup p.1=aT p.2)/\∀y∈G.names,y.2= .free->∃c,(y.1,c)∈I:=by
 obtain⟨r,e,h1,h2,L⟩:=ml env G.names [] h;refine⟨r,?_,λp J=>(h1 p J).resolve_left (λz=>nomatch z),L⟩;unfold closureFor;have:=e;simp only[bind_pure] at *
 exact e
theorem kP {κ β:Type} [BEq κ] [LawfulBEq κ]:∀{l:ef (κ×β)} {x:κ} {c:β},(x,c)∈l->∃G,l.lookup x=aT G
 | [],_,_,h=>nomatch h
 | (y,d)::l,x,c,h=>by
   by_cases e:x=y
   ·subst e;exact⟨d,by simp[Jb]⟩
   ·have hb:(x == y)=false:=vr.mpr e;rcases Hn.mp h with z | z
    ·exact hE (Hm Prod.fst z) e
    ·obtain⟨G,q⟩:=kP z;exact⟨G,by rw[Jb,hb];exact q⟩
theorem iB {env:Env}:∀{names:ef (Hk×NameKind)} {x:Hk} {I:NameKind},
  (names.map λ(n,k)=>if (k == Hs&&env.scope.kind == .function&&env.kindOf n == aT .cell) then (n,HW) else (n,k)).lookup x=aT I->∃k,(x,k)∈names/\(I=k∨k= .free)
 | [],_,_,h=>by cases h
 | (y,k)::l,x,I,h=>by
   rw[IE,Jb] at h;by_cases e:x=y
   ·subst e;by_cases G:(k == Hs&&env.scope.kind == .function&&env.kindOf x == aT .cell)=true
    ·refine⟨k,Ha,.inr ?_⟩;rw[IK,IK] at G;exact eq_of_beq G.1.1
    ·refine⟨k,Ha,.inl ?_⟩;simp only[nk G,HV] at h;exact(iv h).symm
   ·have hb:(x == y)=false:=vr.mpr e
    have h':(l.map λ(n,k)=>if (k == Hs&&env.scope.kind == .function&&env.kindOf n == aT .cell) then (n,HW) else (n,k)).lookup x=aT I:=by
     by_cases G:(k == Hs&&env.scope.kind == .function&&env.kindOf y == aT .cell)=true
     ·simp only[pe G,hb] at h;exact h
     ·simp only[nk G,hb] at h;exact h
    obtain⟨q,hm,z⟩:=iB h';exact⟨q,p' _ hm,z⟩
theorem jc {env:Env}:∀{names:ef (Hk×NameKind)} {x:Hk},names.lookup x=aT .free->
  (names.map λ(n,k)=>if (k == Hs&&env.scope.kind == .function&&env.kindOf n == aT .cell) then (n,HW) else (n,k)).lookup x=aT .cell∨
  (names.map λ(n,k)=>if (k == Hs&&env.scope.kind == .function&&env.kindOf n == aT .cell) then (n,HW) else (n,k)).lookup x=aT .free
 | [],_,h=>by cases h
 | (y,k)::l,x,h=>by
   rw[Jb] at h;rw[IE,Jb];by_cases e:x=y
   ·subst e;simp only[HV] at h;cases h;by_cases G:(Hs == Hs&&env.scope.kind == .function&&env.kindOf x == aT .cell)=true
    ·refine .inl ?_;rw[pe G];simp only[HV]
    ·refine .inr ?_;rw[nk G];simp only[HV]
   ·have hb:(x == y)=false:=vr.mpr e;simp only[hb] at h;have q:=jc (env:=env) h;by_cases G:(k == Hs&&env.scope.kind == .function&&env.kindOf y == aT .cell)=true
    ·simp only[pe G,hb];exact q
    ·simp only[nk G,hb];exact q
structure iu (osc:Hy) (ON N:C') (n:Nat) (fx:D7) (sc:Hy):Prop where
 kind:sc.kind= .function
 noc:∀y∈sc.names,y.2≠.cell
 own:∀y∈sc.names,y.2= .local->sc.names.lookup y.1=aT .local
 fre:∀y∈sc.names,y.2= .free->osc.names.lookup y.1=aT .cell∨osc.names.lookup y.1=aT .free
 len:N.length=n + fx.length
 frn:∀k,k < fx.length->∃x j,N[n + k]? =aT x/\fx[k]? =aT j/\ON[j]? =aT x/\sc.names.lookup x=aT .free
noncomputable def y3 (ON:C') (G:Hy):C'->D7->IA
 | [],[]=>true
 | x::xs,j::js=>decide (ON[j]? =aT x)&&decide (G.names.lookup x=aT .free)&&y3 ON G xs js
 | _,_=>false
theorem oG {ON:C'} {G:Hy}:∀{xs:C'} {ζ:D7},y3 ON G xs ζ=true->xs.length=ζ.length/\∀k,k < ζ.length->∃x j,xs[k]? =aT x/\ζ[k]? =aT j/\ON[j]? =aT x/\G.names.lookup x=aT .free
 | [],[],_=>⟨rfl,λk h=>hE h (Jp k)⟩
 | [],_::_,h=>by cases h
 | _::_,[],h=>by cases h
 | x::xs,j::ζ,h=>by
   simp only[y3,IK,Jj] at h;obtain⟨l,q⟩:=oG h.2;refine⟨Hm Nat.succ l,λk hk=>?_⟩;cases k with
   | zero=>exact⟨x,j,rfl,rfl,h.1.1,h.1.2⟩
   | succ k=>
     obtain⟨I,J,a,b,c⟩:=q k (Nat.lt_of_succ_lt_succ hk);exact⟨I,J,by simpa using a,by simpa using b,c⟩
noncomputable def vK (osc:Hy) (ON N:C') (n:Nat) (fx:D7) (G:Hy):Bool:=
 decide (G.kind= .function)&&decide (∀y∈G.names,y.2≠.cell)&&decide (∀y∈G.names,y.2= .local->G.names.lookup y.1=aT .local)&&
 decide (∀y∈G.names,y.2= .free->osc.names.lookup y.1=aT .cell∨osc.names.lookup y.1=aT .free)&&decide (n<=N.length)&&y3 ON G (N.drop n) fx
theorem iu.of {osc:Hy} {ON N:C'} {n:Nat} {fx:D7} {G:Hy} (h:vK osc ON N n fx G=true):iu osc ON N n fx G:=by
 simp only[vK,IK,Jj] at h;obtain⟨⟨⟨⟨⟨h1,h2⟩,J⟩,θ⟩,L⟩,I⟩:=h;obtain⟨l,q⟩:=oG I;refine⟨h1,h2,J,θ,?_,λk hk=>?_⟩
 ·rw[Jq] at l;omega
 ·obtain⟨x,j,a,b⟩:=q k hk;exact⟨x,j,by rw[JB] at a;exact a,b⟩
noncomputable def il (X:Cx) (N:C') (G:Hy) (J:HN) (C:ee) (I:HJ) (s:f') (H:Hp):Cx where
 prog:=X.prog
 w:=X.w
 K:=X.K
 mg:=X.mg
 base:=X.base
 A:=X.A
 N:=N
 s₀:=s
 H₀:=H
 env:=compEnvC G J C X.env
 outer:=X.stack
 stack:=X.stack
 ex:=I
 fn:=λ_=>false
 calm:=X.calm
 pn:=[]
 xe:=λ_ _=>False
noncomputable def cx (n:Nat) (fx:D7) (σ:St):St:=lA n eH++fx.map λj=>(σ[j]?).join
def tS (n:Nat) (g:TG):Prop:=∀v σ H (Q G:St->Hp->Prop),(∀σ' H',Q σ' H'->σ'.drop n=σ.drop n->σ'.length=σ.length->G σ' H')->g v σ H Q->g v σ H G
def vO (n:Nat) (g:TGs):Prop:=∀vs σ H (Q G:St->Hp->Prop),(∀σ' H',Q σ' H'->σ'.drop n=σ.drop n->σ'.length=σ.length->G σ' H')->g vs σ H Q->g vs σ H G
theorem aF {n i:Nat} (h:i < n):tS n (wN i):=λv σ H Q G k q=>k _ _ q (by rw[List.drop_set_of_lt h]) (by rw[Lw])
theorem g9 {n:Nat}:vO n gNil:=λvs σ H Q G k ⟨e,q⟩=>⟨e,k _ _ q rfl rfl⟩
theorem bL {n:Nat} {t:TG} {u:TGs} (ht:tS n t) (β:vO n u):vO n (DK t u):=λvs σ H Q α k ⟨v,r,e,q⟩=>
 ⟨v,r,e,ht v σ H _ _ (λI H1 J e1 Y=>β r I H1 Q α (λG H2 ν Z L=>k G H2 ν (Z.trans e1) (L.trans Y)) J) q⟩
theorem jW {K:a'} {n m:Nat} {t:TGs} (h:vO n t):tS n (gTup K m t):=λv σ H Q I k ⟨a,xs,e,hs,G,q⟩=>⟨a,xs,e,hs,G,h xs σ H Q I k q⟩
def PTs (X:Cx) (ω:ef Hi) (t:TT):Prop:=
 ∀(pins:E') (s:f') (σ:St) (H:Hp) (Q:IA->Hp->Prop),Inv X pins σ H s->t σ H Q->
  hQ (lT X.prog X.w) X.A (forIn ω true λc r=>if r=true then do let ok <-isTrue c X.env (eval c X.env);pure (IP ok) else pure (IP r)) (TP X pins σ Q) X.xe s
noncomputable def tYes:TT:=λ_ H Q=>Q true H
theorem aZ {X:Cx}:PTs X [] tYes:=λ_ _ _ H _ I h=>wpAny_tests_nil ⟨H,I,h⟩
theorem um {X:Cx} {c:Hi} {t:TT} (h:PT X c t):PTs X [c] t:=λpins s σ H Q I q=>wpAny_tests_one (h pins s σ H Q I q)
noncomputable def vW (n:Nat) (fx:D7) (α:TI) (g:TG) (tc:TT) (te:TE):TE:=fun σ H Q=>α σ H λJ H1=>∀D,H1 D=eH->
 ∃W:Nat->Nat->ef V->Hp->Prop,(∃m,W 0 m [] (upd H1 D (.lst [])))/\∀i m ys H2,W i m ys H2->(J.stop i H2/\Q (.ref D) H2)∨
   (J.go i H2/\∃N:ef V->Hp->Prop,(∀L H',N L H'->∃χ,χ < m/\W (i + 1) χ L H')/\∀x G,J.yld i H2 x G->g x (cx n fx σ) G λI γ=>tc I γ λb Z=>
    if b=true then te I Z λv Y=>Y D=aT (.lst ys)/\ys.length < i'/\N (ys++[v]) (upd Y D (.lst (ys++[v]))) else N ys Z)
section
variable {X:Cx} {pins:E'} {σ:St} {H:Hp} {s:f'}
theorem qp {n:Nat} {fx:D7}:(cx n fx σ).length=n + fx.length:=by unfold cx;simp
theorem jM {n:Nat} {fx:D7} {i:Nat} {v:V} (e:(cx n fx σ)[i]? =aT (aT v)):∃k j,i=n + k/\fx[k]? =aT j/\σ[j]? =aT (aT v):=by
 unfold cx at e;by_cases h:i < n
 ·rw[kA (by simpa using h),MD,pe h] at e;cases e
 ·rw[lB (by simpa using h),Iu,fk] at e;cases q:fx[i - n]? with
  | none=>rw[q] at e;cases e
  | some j=>
    rw[q] at e;have τ:(σ[j]?).join=aT v:=iv e;refine⟨i - n,j,@A,q,?_⟩;cases z:σ[j]? with
    | none=>rw[z] at τ;cases τ
    | some o=>rw[z] at τ;have:o=aT v:=τ;rw[this]
theorem A8 {osc:Hy} {ON N:C'} {n:Nat} {fx:D7} {α:Hy} {δ:HN} {ζ:HJ} {θ:zx} {tk:Nat}
  (ho:X.env.scope=osc) (hN:X.N=ON) (S:iu osc ON N n fx α)
  (β:∀p∈δ,X.env.cells.lookup p.1=aT p.2) (L:∀y∈α.names,y.2= .free->∃c,(y.1,c)∈δ)
  (I:Inv X pins σ H s) (hf:∀b∈ζ,FpOk X pins H b) (ν:∀b∈ζ,b < s.heap.objs.size)
  (Y:∃m,θ.Ns s.heap.objs.size m) (G:∀b o,s.heap.get? b=aT o->θ.get? b=aT o):
  Inv (il X N α δ s.heap.objs.size ζ s H) [] (cx n fx σ) H {s with heap:=θ,toks:=tk}:=by
 have look:∀{x:Hk} {c:ee},δ.lookup x=aT c->X.env.cells.lookup x=aT c:=λ{x c} e=>β (x,c) (wh e)
 have ok:(il X N α δ s.heap.objs.size ζ s H).Ok:=by
  refine⟨I.ok.mod,S.kind,I.ok.glob,I.ok.blt,ov _,λx y c h1 h2=>I.ok.inj x y c (look h1) (look h2),λx hx=>?_,λx c z=>(by cases z),I.ok.hd,I.ok.frames,.inl rfl,λb hb=>⟨Hl (ν b hb),λx c e=>(hf b hb).2.2.2.2.1 x c (look e)⟩,
   I.bs,Ih I.ok.bsz I.sz,λb o e hb=>?_,λb hb z=>?_,I.stack,I.stkFree⟩
  ·have ι:∃ε,(ε=HW∨ε=Hs)/\(α.names.map λ(n,k)=>if (k == Hs&&X.env.scope.kind == .function&&X.env.kindOf n == aT .cell) then (n,HW) else (n,k)).lookup x=aT ε:=by
    rcases hx with hx | hx
    ·exact⟨_,.inl rfl,hx⟩
    ·exact⟨_,.inr rfl,hx⟩
   obtain⟨ε,hk,e⟩:=ι;obtain⟨k,hm,z⟩:=iB e
   have ρ:k= .free:=by
    rcases z with z | z
    ·subst z;rcases hk with q | q
     ·exact hE q (S.noc _ hm)
     ·exact q
    ·exact z
   subst ρ;obtain⟨c,hc⟩:=L _ hm rfl;exact kP hc
  ·rcases(hf b hb).2.2.2.1 with z | z
   ·exact I.ok.noex b o e z
   ·exact hE (eu (gA (I.ok.bs b o e).1) z) (IV _)
  ·rcases Hn.mp (I.stkSub b z) with q | q
   ·exact(hf b hb).2.1 q
   ·exact(hf b hb).2.2.1 q
 obtain⟨m,Y⟩:=Y;refine⟨ok,rfl,I.bare,Un.kept G,⟨m,Y,λi x v e1 e2 e3=>?_⟩,λx c e=>?_,I.hok.fresh (ov _),λx c e=>I.freeC x c (look e),λp ψ=>hE (show p∈([]:E') from ψ) @E,I.hok.kept G,?_⟩
 ·obtain⟨k,j,rfl,π,τ⟩:=jM e2;obtain⟨Z,ο,a1,a2,a3,ξ⟩:=S.frn k (b'.mp π).1;have ex:Z=x:=iv (a1.symm.trans e1);have ej:ο=j:=iv (a2.symm.trans π);subst ex;subst ej;obtain⟨χ,_,ω⟩:=I.loc;have hk:X.env.scope.names.lookup Z=aT .cell∨X.env.scope.names.lookup Z=aT .free:=by rw[ho];exact S.fre _ (wh ξ) rfl
  have υ:Vis X.env.scope Z:=by rcases hk with z | z;exact .inr (.inl z);exact .inr (.inr z)
  obtain⟨u,r,q⟩:=ω ο Z v (by rw[hN];exact a3) τ υ;rcases q with ⟨z,_⟩ | ⟨_,c,ec,η⟩
  ·have J:X.env.scope.names.lookup Z=aT .local:=z;rcases hk with q | q<;>(rw[q] at J;cases J)
  ·refine⟨u,r,.inr ⟨jc ξ,c,?_,η.keeps G⟩⟩;obtain⟨c0,φ⟩:=L _ (wh ξ) rfl;obtain⟨c1,γ⟩:=kP φ;have:=look γ;rw[ec] at this;cases this;exact γ
 ·obtain⟨v,q⟩:=I.cell x c (look e);exact⟨v,q.keeps G⟩
 ·show _=N.length;rw[qp,S.len]
theorem sZ {osc:Hy} {ON N:C'} {n:Nat} {fx:D7} {φ:Hy} {cl:HN} {c2 tg iter:Hi} {ω:ef Hi} {pos:Pos} {wi:TI} {g:TG} {tc:TT} {te:TE} {Q:VK} {RR:hG->ee->HM}
  (c1:X.calm=true) (ho:X.env.scope=osc) (hN:X.N=ON) (S:iu osc ON N n fx φ)
  (b3:∀p∈cl,X.env.cells.lookup p.1=aT p.2) (e4:∀y∈φ.names,y.2= .free->∃c,(y.1,c)∈cl)
  (hi:PI X tg iter wi) (gk:tS n g) (hb:∀cl C τ s H,PG (il X N φ cl C τ s H) tg g/\PTs (il X N φ cl C τ s H) ω tc/\PE (il X N φ cl C τ s H) c2 te)
  (I:Inv X pins σ H s) (h:vW n fx wi g tc te σ H Q)
  (f4:∀D C H' s',Inv X pins σ H' s'->(∃m,s'.heap.Ns C m)->FpOk X pins H' C->Q (.ref D) H'->RR (.ref D) C (.ok .next) s'):
  hQ (lT X.prog X.w) X.A (eval iter X.env) (λx s₁=>hQ (lT X.prog X.w) X.A (pyIter x) (λit s₂=>hQ (lT X.prog X.w) X.A (newList []) (λe7 s₃=>
   hQ (lT X.prog X.w) X.A (newFunctionEnv φ X.env.globals cl [] X.env.qual eH .none (aT X.env)) (λb4 ε=>
    codeAny (lT X.prog X.w) X.A (.compStart (.ListComp c2 [⟨tg,iter,ω,0⟩] φ pos) 0 it e7 {b4 with scope:=relabel φ X.env}) (RR e7 b4.locals) ε) X.xe s₃) X.xe s₂) X.xe s₁) X.xe s:=by
 refine thn (hi pins s σ H _ I h) λv s1 h1=>thn h1 λh0 Z h2=>?_;obtain⟨it,τ,tn,J,H2,e2,I2,T,d2,f2,hW⟩:=h2;subst e2;obtain⟨W,⟨m0,w0⟩,c0⟩:=hW Z.heap.objs.size I2.fresh;refine K4 ?_;have I3:Inv X pins σ (upd H2 Z.heap.objs.size (.lst [])) {Z with heap:=Z.heap.push {cls:= .type "list",data:= .seq ([]:F').toArray}}:=I2.lnew (t':=Z.toks) (its:=[]) .nil (J1 _)
 have ψ:∀b∈τ,FpOk X pins (upd H2 Z.heap.objs.size (.lst [])) b/\b < Z.heap.objs.size:=λb hb=>by
  obtain⟨o,e,_⟩:=T.obj _ _ d2 b hb;have l:=gA e;obtain⟨a1,a2⟩:=f2 b hb;exact⟨⟨by rw[aC (Hl l)];exact a1,a2⟩,l⟩
 have sz:({Z with heap:=Z.heap.push {cls:= .type "list",data:= .seq ([]:F').toArray}}:f').heap.objs.size=Z.heap.objs.size + 1:=Ij ..
 generalize f0:({Z with heap:=Z.heap.push {cls:= .type "list",data:= .seq ([]:F').toArray}}:f')=α at I3 sz ⊢;generalize h3:upd H2 Z.heap.objs.size (.lst [])=H3 at I3 ψ w0;have e0:∀b o,Z.heap.get? b=aT o->α.heap.get? b=aT o:=λb o e=>by rw[<-f0];exact ek _ e
 refine NU (λy hy=>S.noc y hy) (λy hy=>nomatch hy) (fun θ f1 e9=>?_) S.kind;have a0:∀b o,α.heap.get? b=aT o->θ.get? b=aT o:=λb o e=>e9.extBut b o (Hl (gA e)) (ek _ e);have I4:=A8 (tk:=α.toks + ([]:HP).length) ho hN S b3 e4 I3 (λb hb=>(ψ b hb).1) (λb hb=>by rw[sz];exact Jg (ψ b hb).2) ⟨_,f1⟩ a0;have γ:=hb cl α.heap.objs.size τ α H3;generalize hY:il X N φ cl α.heap.objs.size τ α H3=Y at I4 γ
 have ι:∀{H':Hp},(∀b∈τ,H' b=eH)->∀b∈τ,FpOk Y [] H' b:=λ{H'} hn b hb=>by
  subst hY;obtain⟨⟨a1,a2,a3,a4,a5,ξ⟩,l⟩:=ψ b hb;refine⟨hn b hb,Hl (show b < α.heap.objs.size by rw[sz];exact Jg l),λz=>?_,.inl hb,λx c e=>a5 x c (b3 (x,c) (wh e)),λp hp=>hE (show p∈([]:E') from hp) @E⟩;rcases Hn.mp (I3.stkSub b z) with q | q
  ·exact a2 q
  ·exact a3 q
 have fin:∀{σ6:St} {H6:Hp} {s6:f'},Inv Y [] σ6 H6 s6->Q (.ref Z.heap.objs.size) H6->RR (.ref Z.heap.objs.size) α.heap.objs.size (.ok .next) s6:=λ{σ6 H6 s6} I6 q=>by
  subst hY;refine f4 _ _ H6 s6 ?_ (let ⟨m,hm,_⟩:=I6.loc;⟨m,hm⟩) (I3.fpOk (ov _) I6.free) q;obtain⟨hh,gg,dd,tt,os'⟩:=s6;obtain rfl:os'=α.os:=I6.os
  exact I3.call (h':=hh) (g':=gg) (d':=dd) (t':=tt) (ch:=τ) I6.base I6.hok I6.bare λb hb=>by
   obtain⟨⟨a1,a2,a3,a4,a5,ξ⟩,l⟩:=ψ b hb;exact⟨a4,a2,a5,ξ⟩
 have pY:Y.prog=X.prog:=by subst hY;rfl
 have wY:Y.w=X.w:=by subst hY;rfl
 have kY:Y.K=X.K:=by subst hY;rfl
 have aY:Y.A=X.A:=by subst hY;rfl
 have ν:Y.calm=true:=by subst hY;exact c1
 have eY:Y.env=compEnvC φ cl α.heap.objs.size X.env:=by subst hY;rfl
 have xY:Y.xe=λ_ _=>False:=by subst hY;rfl
 have T':Turn Y.prog Y.w Y.K tg J τ it tn:=by rw[pY,wY,kY];exact T
 have c4:tn 0 θ:=T.keep _ _ _ d2 λb hb o e=>a0 b o (e0 b o e)
 have loop:codeAny (lT X.prog X.w) X.A (.compLoop (.ListComp c2 [⟨tg,iter,ω,0⟩] φ pos) 0 (.ref it) (.ref Z.heap.objs.size) (compEnvC φ cl α.heap.objs.size X.env)) (RR (.ref Z.heap.objs.size) α.heap.objs.size)
   {α with heap:=θ,toks:=α.toks + ([]:HP).length}:=by
  rw[<-pY,<-wY,<-aY,<-eY];refine qo (λk s'=>∃i ys σ' H',Inv Y [] σ' H' s'/\σ'.drop n=(cx n fx σ).drop n/\σ'.length=(cx n fx σ).length/\tn i s'.heap/\(∀b∈τ,H' b=eH)/\W i k ys H') ?_ m0 ⟨0,[],_,H3,I4,rfl,rfl,c4,λb hb=>(ψ b hb).1.1,w0⟩;rintro k s5 ⟨i,ys,σ5,H5,I5,ed,el,d1,e6,w5⟩
  have I5:Inv Y [] (cx n fx σ) H5 s5:=I5.weak el.symm λj v e=>by
   obtain⟨k',j',rfl,_,_⟩:=jM e;have q:=Hm (λl=>l[k']?) ed;simp only[JB] at q;rw[q];exact e
  rcases c0 i k ys H5 w5 with ⟨stop,q⟩ | ⟨go,G,f5,step⟩
  ·refine IY (T'.done Y rfl rfl rfl ν i [] s5 _ H5 (λ_ _=>False) I5 (ι e6) d1 stop) (λr s6 ⟨hr,I6⟩=>?_) λ_ _ z=>z;subst hr;exact fin I6 q
  ·rw[<-xY];refine thn (T'.item Y rfl rfl rfl ν i [] s5 _ H5 Y.xe I5 (ι e6) d1 go) λr s6 ⟨u,hr,h6⟩=>?_;subst hr;show hQ _ _ _ _ _ _;refine thn h6 λ_ L ⟨x,υ,I7,r7,y7,b5,f6⟩=>?_;have f9:=I7.pinned (ι f6) (T.obj _ _ b5);refine thn (γ.1 _ L _ υ x u _ f9 r7 (gk _ _ _ _ _ (fun σ' H' q e l=>(⟨q,e,l⟩:_/\_/\_)) (step x υ y7))) λ_ η ⟨ζ,H8,I8,q8,β,f7⟩=>?_;refine thn (γ.2.1 _ η ζ H8 _ I8 q8) λok s9 ⟨π,ο,q9⟩=>?_
   have again:∀{ρ:Hp} {δ:f'} {zs:ef V},Inv Y ([]++qf τ L.heap) ζ ρ δ->G zs ρ->
     ∃m,m < k/\∃i ys σ' H',Inv Y [] σ' H' δ/\σ'.drop n=(cx n fx σ).drop n/\σ'.length=(cx n fx σ).length/\tn i δ.heap/\(∀b∈τ,H' b=eH)/\W i m ys H':=λ{ρ δ zs} I10 b6=>by
    obtain⟨m',hm,χ⟩:=f5 _ _ b6;refine⟨m',hm,i + 1,zs,ζ,ρ,I10.unpinned,β,f7,T.keep _ _ _ b5 λb hb o e=>(I10.pin (b,o) (hH _ (hH _ (fZ hb e)))).1,λb hb=>?_,χ⟩;obtain⟨o,e,d⟩:=T.obj _ _ b5 b hb;exact(I10.pin (b,o) (hH _ (hH _ (fZ hb e)))).2.1
   cases ok with
   | false=>exact again ο q9
   | true=>
     rw[pe rfl];refine thn (γ.2.2 _ s9 ζ π _ ο q9) λy δ ⟨v',ρ,I10,e8,e5,e3,b6⟩=>?_;refine thn (fB (X:=Y) _ δ ζ ρ (.ref Z.heap.objs.size) [v'] (.ref Z.heap.objs.size) [y] (λ_ H'=>H'=upd ρ Z.heap.objs.size (.lst (ys++[v']))) I10 rfl (.cons e8 .nil) ⟨_,ys,v',rfl,rfl,e5,e3,rfl⟩) λ_ g4 ⟨_,h5,g3,_,f8⟩=>?_;subst f8;exact again g3 b6
 exact Np loop (T.self X.A 0 _ _ _ c4 loop)
theorem eG {osc:Hy} {ON N:C'} {n:Nat} {fx:D7} {Y:Hy} {β tg iter:Hi} {ω:ef Hi} {pos:Pos} {θ:TI} {g:TG} {tc:TT} {te:TE}
  (L:X.calm=true) (ho:X.env.scope=osc) (ν:X.N=ON) (S:vK osc ON N n fx Y=true) (hi:PI X tg iter θ) (ξ:tS n g)
  (hb:∀γ C ε s H,PG (il X N Y γ C ε s H) tg g/\PTs (il X N Y γ C ε s H) ω tc/\PE (il X N Y γ C ε s H) β te)
  (hs:∀x,foldedSetIterable iter X.env x=pure x:=by intro _;rfl):PE X (.ListComp β [⟨tg,iter,ω,0⟩] Y pos) (vW n fx θ g tc te):=by
 intro pins s σ H Q I h;have S:=iu.of S;obtain⟨γ,J,α,Z⟩:=mj Y X.env λy ι hf=>I.ok.has y.1 (by show X.env.scope.names.lookup y.1=aT .cell∨X.env.scope.names.lookup y.1=aT .free;rw[ho];exact S.fre y ι hf);rw[eval_ListComp];refine KZ (use:=eH) rfl hs J S.kind S.own (sZ (RR:=fun ζ C=>compPost (lT X.prog X.w) X.A X.xe eH (EP X pins σ Q) ζ C) L ho ν S α Z hi ξ hb I h ?_);intro D C H' s' I' hm hf q;obtain⟨m,hm⟩:=hm;obtain⟨ρ,π,η,ψ,G,ο⟩:=hf;exact⟨m,hm,λh' δ=>⟨.ref D,H',I'.turned (t':=s'.toks) (λb o hb e=>(δ.2 b hb).trans e) ρ π ψ G ο,rfl,q⟩⟩
theorem b8 {i:Nat} {x:Hk} {γ:Pos} {Z:Pos} {osc:Hy} {ON N:C'} {n:Nat} {fx:D7} {L:Hy} {Y tg iter:Hi} {ω:ef Hi} {pos:Pos} {υ:TI} {g:TG} {tc:TT} {te:TE}
  (ν:X.N.Nodup) (hx:X.N[i]? =aT x) (φ:X.env.scope.names.lookup x=aT .local) (θ:swapsWith (.ListComp Y [⟨tg,iter,ω,0⟩] L pos) (aT (.Name x γ)) Z.line X.env=pure true)
  (α:X.calm=true) (ho:X.env.scope=osc) (hN:X.N=ON) (S:vK osc ON N n fx L=true) (hi:PI X tg iter υ) (gk:tS n g)
  (hb:∀ζ C ρ s H,PG (il X N L ζ C ρ s H) tg g/\PTs (il X N L ζ C ρ s H) ω tc/\PE (il X N L ζ C ρ s H) Y te)
  (hs:∀x,foldedSetIterable iter X.env x=pure x:=by intro _;rfl):PS X (.Assign [.Name x γ] (.ListComp Y [⟨tg,iter,ω,0⟩] L pos) Z) (tAsg (vW n fx υ g tc te) (wN i)):=by
 intro pins s σ H D I h;have S:=iu.of S;obtain⟨ζ,J,ε,δ⟩:=mj L X.env λy hy hf=>I.ok.has y.1 (by show X.env.scope.names.lookup y.1=aT .cell∨X.env.scope.names.lookup y.1=aT .free;rw[ho];exact S.fre y hy hf);rw[NG _ _ _ _ θ];refine dt (LO (dt ?_));show hQ _ X.A (do let _ <-comprehension (.ListComp Y [⟨tg,iter,ω,0⟩] L pos) L X.env _ (newList []) false (eval iter X.env) (aT (assign (.Name x γ) X.env))) _ _ s
 refine dt (thn (KZ (use:=aT (assign (.Name x γ) X.env)) (Q:=λ_ s'=>SP X pins D .next s') rfl hs J S.kind S.own
  (sZ (RR:=fun τ C=>compPost (lT X.prog X.w) X.A X.xe (aT (assign (.Name x γ) X.env)) (λ_ s'=>SP X pins D .next s') τ C) α ho hN S ε δ hi gk hb I h ?_)) λ_ s' q=>hP (hP q))
 intro π C H' s' I' hm hf q;obtain⟨m,hm⟩:=hm;obtain⟨f0,χ,η,ψ,G,f5⟩:=hf;show hQ _ X.A (assign (.Name x γ) X.env (.ref π)) _ _ _;refine M3 (nu I' ν hx (.inl φ) (v:= .ref π) rfl (λs2 I2 ξ=>?_) (.inr φ));obtain⟨a,ι,ha⟩:=ξ
 have ο:C≠a:=by
  rcases ha with z | z
  ·rw[z];exact χ
  ·exactλe=>G _ _ z e.symm
 exact⟨m,hm.sameBut ι ο,λh' β=>⟨_,H',I2.turned (t':=s2.toks) (λb o hb e=>(β.2 b hb).trans e) f0 χ ψ G f5,q⟩⟩
end
section
variable {K:a'} {n:Nat} {fx:D7} {g:TG} {tc:TT} {te:TE} {σ:St} {H1:Hp} {D:ee} {Q:Hp->Prop}
theorem eQ {lo:Int} {k:Nat} (Y:Nat->ef V->Hp->Prop) (h0:Y 0 [] (upd H1 D (.lst [])))
  (hs:∀i ys H,i < k->Y i ys H->g (.int (lo + i)) (cx n fx σ) H λI γ=>tc I γ λb α=>if b=true then te I α λv Z=>Z D=aT (.lst ys)/\ys.length < i'/\Y (i + 1) (ys++[v]) (upd Z D (.lst (ys++[v]))) else Y (i + 1) ys α)
  (hd:∀ys H,Y k ys H->Q H):
  ∃W:Nat->Nat->ef V->Hp->Prop,(∃m,W 0 m [] (upd H1 D (.lst [])))/\∀i m ys H2,W i m ys H2->((Itr lo k).stop i H2/\Q H2)∨
    ((Itr lo k).go i H2/\∃N:ef V->Hp->Prop,(∀J H',N J H'->∃χ,χ < m/\W (i + 1) χ J H')/\∀x G,(Itr lo k).yld i H2 x G->g x (cx n fx σ) G λI γ=>tc I γ λb α=>
      if b=true then te I α λv Z=>Z D=aT (.lst ys)/\ys.length < i'/\N (ys++[v]) (upd Z D (.lst (ys++[v]))) else N ys α):=by
 refine⟨λi m ys H=>m=k - i/\i<=k/\Y i ys H,⟨k,@E,J1 _,h0⟩,?_⟩;rintro i m ys H ⟨rfl,hi,p⟩;by_cases L:i < k
 ·refine .inr ⟨L,Y (i + 1),λJ H' β=>⟨k - (i + 1),by omega,rfl,L,β⟩,λx H' y=>?_⟩;obtain⟨e,y⟩:=y;subst e;subst y;exact hs i ys _ L p
 ·have e:i=k:=by omega
  subst e;exact .inl ⟨ov _,hd ys H p⟩
theorem bf {a:ee} {xs:ef V} (J:Nat->ef V->Hp->Prop) (h0:J 0 [] (upd H1 D (.lst []))) (δ:∀i ys H,i<=xs.length->J i ys H->SqL K H a xs)
  (hs:∀i x ys H,xs[i]? =aT x->J i ys H->g x (cx n fx σ) H λI γ=>tc I γ λb α=>if b=true then te I α λv Z=>Z D=aT (.lst ys)/\ys.length < i'/\J (i + 1) (ys++[v]) (upd Z D (.lst (ys++[v]))) else J (i + 1) ys α)
  (hd:∀ys H,J xs.length ys H->Q H):
  ∃W:Nat->Nat->ef V->Hp->Prop,(∃m,W 0 m [] (upd H1 D (.lst [])))/\∀i m ys H2,W i m ys H2->((Itl K a).stop i H2/\Q H2)∨
    ((Itl K a).go i H2/\∃N:ef V->Hp->Prop,(∀L H',N L H'->∃χ,χ < m/\W (i + 1) χ L H')/\∀x G,(Itl K a).yld i H2 x G->g x (cx n fx σ) G λI γ=>tc I γ λb α=>
      if b=true then te I α λv Z=>Z D=aT (.lst ys)/\ys.length < i'/\N (ys++[v]) (upd Z D (.lst (ys++[v]))) else N ys α):=by
 refine⟨λi m ys H=>m=xs.length - i/\i<=xs.length/\J i ys H,⟨xs.length,@E,J1 _,h0⟩,?_⟩;rintro i m ys H ⟨rfl,hi,p⟩;have q:=δ i ys H hi p;by_cases Y:i < xs.length
 ·refine .inr ⟨⟨xs,xs[i],q,by simp[Y]⟩,J (i + 1),λL H' β=>⟨xs.length - (i + 1),by omega,rfl,Y,β⟩,λx H' y=>?_⟩;obtain⟨e,y⟩:=y;subst e;exact hs i x ys _ (y xs q) p
 ·have e:i=xs.length:=by omega
  subst e;exact .inl ⟨⟨xs,q,ov _⟩,hd ys H p⟩
theorem vJ {a:ee} {xs:ef V} (J:Nat->ef V->Hp->Prop) (h0:J 0 [] (upd H1 D (.lst []))) (δ:∀i ys H,i<=xs.length->J i ys H->SqT K H a xs)
  (hs:∀i x ys H,xs[i]? =aT x->J i ys H->g x (cx n fx σ) H λI γ=>tc I γ λb α=>if b=true then te I α λv Z=>Z D=aT (.lst ys)/\ys.length < i'/\J (i + 1) (ys++[v]) (upd Z D (.lst (ys++[v]))) else J (i + 1) ys α)
  (hd:∀ys H,J xs.length ys H->Q H):
  ∃W:Nat->Nat->ef V->Hp->Prop,(∃m,W 0 m [] (upd H1 D (.lst [])))/\∀i m ys H2,W i m ys H2->((Itt K a).stop i H2/\Q H2)∨
    ((Itt K a).go i H2/\∃N:ef V->Hp->Prop,(∀L H',N L H'->∃χ,χ < m/\W (i + 1) χ L H')/\∀x G,(Itt K a).yld i H2 x G->g x (cx n fx σ) G λI γ=>tc I γ λb α=>
      if b=true then te I α λv Z=>Z D=aT (.lst ys)/\ys.length < i'/\N (ys++[v]) (upd Z D (.lst (ys++[v]))) else N ys α):=by
 refine⟨λi m ys H=>m=xs.length - i/\i<=xs.length/\J i ys H,⟨xs.length,@E,J1 _,h0⟩,?_⟩;rintro i m ys H ⟨rfl,hi,p⟩;have q:=δ i ys H hi p;by_cases Y:i < xs.length
 ·refine .inr ⟨⟨xs,xs[i],q,by simp[Y]⟩,J (i + 1),λL H' β=>⟨xs.length - (i + 1),by omega,rfl,Y,β⟩,λx H' y=>?_⟩;obtain⟨e,y⟩:=y;subst e;exact hs i x ys _ (y xs q) p
 ·have e:i=xs.length:=by omega
  subst e;exact .inl ⟨⟨xs,q,ov _⟩,hd ys H p⟩
end
def i0 (K:a') (H:Hp) (x:V) (k:IU):Prop:=match x with
 | .non=>k="NoneType"
 | .bl _=>k="bool"
 | .int _=>k="int"
 | .str _=>k="str"
 | .ref p=>(k="list"/\∃xs,SqL K H p xs)∨(k="tuple"/\∃xs,SqT K H p xs)∨(k="dict"/\∃kvs,Rd H p (.dK kvs))
 | _=>False
noncomputable def subB (k T:IU):Bool:=k == T||(k == "bool"&&T == "int")
noncomputable def rIsi (K:a'):ef V->Hp->VK->Prop:=λxs H Q=>∃x k T,xs=[x,.ty T]/\i0 K H x k/\T∈["int","bool","str","list","tuple","dict"]/\Q (.bl (subB k T)) H
section
variable {X:Cx}
theorem Ba:jT X (.builtin "isinstance") (rIsi X.K):=by
 intro pins s σ H xs us Q I r h;obtain⟨x,k,T,rfl,hk,hT,q⟩:=h;obtain⟨u,v,rfl,Y,rt⟩:=B5 r;cases rt;have L:∀b,b=subB k T->EP X pins σ Q (.bool b) s:=λb e=>⟨.bl b,H,I,rfl,by rw[e];exact q⟩;have G:∀b,b=subB k T->EP X pins σ Q (.bool b) {s with toks:=s.toks + 1}:=λb e=>⟨.bl b,H,I.tok _,rfl,by rw[e];exact q⟩;simp only[Hn,List.not_mem_nil,or_false] at hT;cases x with
 | non=>
   cases Y;cases hk;rcases hT with rfl | rfl | rfl | rfl | rfl | rfl
   ·exact IsiPair.NoneType_int (G _ @C)
   ·exact IsiPair.NoneType_bool (G _ @C)
   ·exact IsiPair.NoneType_str (G _ @C)
   ·exact IsiPair.NoneType_list (G _ @C)
   ·exact IsiPair.NoneType_tuple (G _ @C)
   ·exact IsiPair.NoneType_dict (G _ @C)
 | bl b=>
   cases Y;cases hk;rcases hT with rfl | rfl | rfl | rfl | rfl | rfl
   ·exact IsiPair.bool_int (L _ @C)
   ·exact IsiPair.bool_bool (L _ @C)
   ·exact IsiPair.bool_str (G _ @C)
   ·exact IsiPair.bool_list (G _ @C)
   ·exact IsiPair.bool_tuple (G _ @C)
   ·exact IsiPair.bool_dict (G _ @C)
 | int i=>
   obtain⟨t,rfl⟩:=Y;cases hk;rcases hT with rfl | rfl | rfl | rfl | rfl | rfl
   ·exact IsiPair.int_int (L _ @C)
   ·exact IsiPair.int_bool (G _ @C)
   ·exact IsiPair.int_str (G _ @C)
   ·exact IsiPair.int_list (G _ @C)
   ·exact IsiPair.int_tuple (G _ @C)
   ·exact IsiPair.int_dict (G _ @C)
 | str z=>
   obtain⟨t,rfl⟩:=Y;cases hk;rcases hT with rfl | rfl | rfl | rfl | rfl | rfl
   ·exact IsiPair.str_int (G _ @C)
   ·exact IsiPair.str_bool (G _ @C)
   ·exact IsiPair.str_str (L _ @C)
   ·exact IsiPair.str_list (G _ @C)
   ·exact IsiPair.str_tuple (G _ @C)
   ·exact IsiPair.str_dict (G _ @C)
 | ref p=>
   cases Y;rcases hk with ⟨rfl,xs,Z⟩ | ⟨rfl,xs,Z⟩ | ⟨rfl,kvs,Z⟩
   ·obtain⟨its,_,pl,_⟩:=I.list Z;obtain⟨o,ho,J,_⟩:=pl.isList;rcases hT with rfl | rfl | rfl | rfl | rfl | rfl
    ·exact IsiPair.list_int ho J (G _ @C)
    ·exact IsiPair.list_bool ho J (G _ @C)
    ·exact IsiPair.list_str ho J (G _ @C)
    ·exact IsiPair.list_list ho J (L _ @C)
    ·exact IsiPair.list_tuple ho J (G _ @C)
    ·exact IsiPair.list_dict ho J (G _ @C)
   ·obtain⟨its,_,pl,_⟩:=I.tuple Z;obtain⟨o,ho,J,_⟩:=pl;rcases hT with rfl | rfl | rfl | rfl | rfl | rfl
    ·exact IsiPair.tuple_int ho J (G _ @C)
    ·exact IsiPair.tuple_bool ho J (G _ @C)
    ·exact IsiPair.tuple_str ho J (G _ @C)
    ·exact IsiPair.tuple_list ho J (G _ @C)
    ·exact IsiPair.tuple_tuple ho J (L _ @C)
    ·exact IsiPair.tuple_dict ho J (G _ @C)
   ·obtain⟨_,_,_,_,o,_,_,ho,ex,_⟩:=Z.ok I.hok;have J:o.cls= .type "dict":=ex.1;rcases hT with rfl | rfl | rfl | rfl | rfl | rfl
    ·exact IsiPair.dict_int ho J (G _ @C)
    ·exact IsiPair.dict_bool ho J (G _ @C)
    ·exact IsiPair.dict_str ho J (G _ @C)
    ·exact IsiPair.dict_list ho J (G _ @C)
    ·exact IsiPair.dict_tuple ho J (G _ @C)
    ·exact IsiPair.dict_dict ho J (L _ @C)
 | _=>exact Hr hk
noncomputable def E7:V->ef V->Hp->VK->Prop:=λx xs H Q=>∃i,x= .int i/\xs=[]/\Q (.int (vu i:Nat)) H
theorem km:MtR X "int.bit_length" E7:=by
 intro pins s σ H x xs v us Q I G rs h;obtain⟨i,rfl,rfl,q⟩:=h;obtain⟨t,rfl⟩:=G;cases rs;exact call_int_bit_length ⟨.int _,H,I.tok _,⟨_,rfl⟩,q⟩
noncomputable def eqVs (xs ys:ef V):Bool:=xs.length == ys.length&&(ko xs.length).all λj=>eqV (xs.getD j .non) (ys.getD j .non)
noncomputable def rEqL (K:a') (neg:IA):R2:=λx y H Q=>∃a b xs ys,x= .ref a/\y= .ref b/\SqL K H a xs/\SqL K H b ys/\xs.all oI=true/\ys.all oI=true/\Q (.bl (if neg then !eqVs xs ys else eqVs xs ys)) H
theorem lD {xs:ef V} {us:F'} (r:Vals xs us) {j:Nat} (h:j < us.toArray.size):RelV (xs.getD j .non) (us.toArray[j]):=by
 have J:=r.length;have h':j < us.length:=by simpa using h
 obtain⟨u,e,G⟩:=r.get (i:=j) (x:=xs.getD j .non) (by rw[bx,cP @A];rfl)
 have I:us.toArray[j]=u:=by
  rw[cP h'] at e;have:=iv e;simpa using this
 rw[I];exact G
theorem uM {xs:ef V} (f:xs.all oI=true) (j:Nat):oI (xs.getD j .non)=true:=by
 rw[bx];cases e:xs[j]? with
 | none=>rfl
 | some x=>exact Kd.mp f x (eO e)
theorem Am {pins:E'} {σ:St} {H:Hp} {s:f'} {a b:ee} {xs ys:ef V} {A:Hg} (β:A.units < cLine) (I:Inv X pins σ H s) (ha:SqL X.K H a xs) (hb:SqL X.K H b ys) (fx:xs.all oI=true) (α:ys.all oI=true):
  SeqAt.RcAt A s (.ref a) (.ref b) (eqVs xs ys)/\SeqAt.RcNeAt A s (.ref a) (.ref b) (!eqVs xs ys):=by
 obtain⟨its,r,pl,_⟩:=I.list ha;obtain⟨θ,r',G,_⟩:=I.list hb;have L:=r.length;have Y:=r'.length;by_cases J:xs.length=ys.length
 ·have e:eqVs xs ys=(ko its.toArray.size).all λj=>eqV (xs.getD j .non) (ys.getD j .non):=by
   unfold eqVs;rw[J,HV,Hj,qQ,<-L,J]
  rw[e];have hz:its.toArray.size=θ.toArray.size:=by simp;omega
  have he:∀j (h1:j < its.toArray.size) (h2:j < θ.toArray.size),SeqAt.EqAt A.in1 s its.toArray[j] θ.toArray[j] (eqV (xs.getD j .non) (ys.getD j .non)):=λj h1 h2=>
   FS (lD r h1) (lD r' h2) (uM fx j) (uM α j)
  exact⟨SeqAt.RcAt.lists pl.isList G.isList hz β he,SeqAt.RcNeAt.lists pl.isList G.isList hz β he⟩
 ·have e:eqVs xs ys=false:=by
   unfold eqVs;rw[vr.mpr J,oT]
  rw[e];have hz:(its.toArray.size != θ.toArray.size)=true:=by simp;omega
  exact⟨SeqAt.RcAt.lists_lengths pl.isList G.isList hz β,SeqAt.RcNeAt.lists_lengths pl.isList G.isList hz β⟩
theorem Fn (β:X.A.units < cLine):OpR X (compareOp .NotEq) (rEqL X.K true):=by
 intro pins s σ H x y v u Q I J G h;obtain⟨a,b,xs,ys,rfl,rfl,ha,hb,fx,α,q⟩:=h;cases J;cases G;exact(Am β I ha hb fx α).2 X.prog X.w X.xe _ ⟨.bl _,H,I,rfl,q⟩
end
theorem za {xs:ef V} (f:xs.all oI=true):eqVs xs xs=true:=by
 unfold eqVs;rw[HV,Hj,Kd];intro j _;have:=uM f j;generalize xs.getD j .non=x at this;cases x<;>first | rfl | exact HV _ | cases this
theorem bt (a b:Nat):Je (a:Int) (b:Int)=((a&&&b:Nat):Int):=by
 unfold Je;rw[gB (Ls a),gB (Ls b)];simp
section
variable {X:Cx} {K:a'}
theorem cJ (h:X.K=K):IxR X (rIxL K):=by subst h;exact DC
theorem aE (h:X.K=K):IxR X (rIxT K):=by subst h;exact FG
theorem iA (h:X.K=K):SlR X (rSlL K):=by subst h;exact Ck
theorem C1 (h:X.K=K) (β:X.A.units < cLine):OpR X (compareOp .NotEq) (rEqL K true):=by subst h;exact Fn β
theorem jx (h:X.K=K):jT X (.builtin "isinstance") (rIsi K):=by subst h;exact Ba
noncomputable def rLen (K:a'):ef V->Hp->VK->Prop:=λxs H Q=>∃x n,xs=[x]/\LenV K x H n/\Q (.int n) H
theorem dk (h:X.K=K):jT X (.builtin "len") (rLen K):=by subst h;exact A9
noncomputable def yd (K:a'):ef V->Hp->VK->Prop:=λxs H Q=>∃p ys,xs=[.ref p]/\(SqL K H p ys∨SqT K H p ys)/\∀l,H l=eH->Q (.ref l) (upd H l (.lst ys))
theorem w6 (h:X.K=K):jT X (.type "list") (yd K):=by subst h;exact tu
noncomputable def Bv (K:a'):ef V->Hp->VK->Prop:=λxs H Q=>∃p ys,xs=[.ref p]/\((SqL K H p ys/\∀l,H l=eH->Q (.ref l) (upd H l (.tup ys)))∨(SqT K H p ys/\Q (.ref p) H))
theorem oV (h:X.K=K):jT X (.type "tuple") (Bv K):=by subst h;exact rF
theorem aX {tg l:Hi} {tl:TE} (h:X.K=K) (G:PE X l tl):PI X tg l (FJ K tl):=by subst h;exact CT G
theorem yk {tg l:Hi} {tl:TE} (h:X.K=K) (G:PE X l tl):PI X tg l (iTup K tl):=by subst h;exact Fe G
theorem kg {o:Hi} {to:TE} {name:Hk} {apos cpos:Pos} {T id:IU} {r:V->ef V->Hp->VK->Prop} (h:X.K=K) (L:PlainAttrs T) (slot:Slot T name id) (J:typeOf (.builtin id)=pure (.type "method_descriptor")) (hm:MtR X id r) (ho:PE X o to)
  (I:attributeBase o name X.env (eval o X.env)=eval o X.env:=by rfl) (G:(apos.endLine == cpos.line)=true:=by rfl):PE X (.Call (.Attribute o name apos) [] [] cpos) (tBM0 K T r to):=by subst h;exact Fi L slot J hm ho I G
theorem mr {o e:Hi} {es:ef Hi} {to:TE} {t:TA} {name:Hk} {apos cpos:Pos} {T id:IU} {r:V->ef V->Hp->VK->Prop} (h:X.K=K) (Z:PlainAttrs T) (slot:Slot T name id) (Y:typeOf (.builtin id)=pure (.type "method_descriptor")) (hm:MtR X id r) (ho:PE X o to) (ha:PA X (e::es) t)
  (J:attributeBase o name X.env (eval o X.env)=eval o X.env:=by rfl)
  (L:((backTo cpos (oD (e::es) X.env)).all (λx=> !x.1)&&(backToKw cpos (keywordEach [] X.env)).all (λx=>x.1.isSome)
   &&decide ((e::es).length + ([]:ef Keyword).length + (if ([]:ef Keyword).isEmpty then 0 else 1) < 30))=true:=by rfl)
  (I:(apos.endLine == cpos.line)=true:=by rfl) (hs:oD (e::es) X.env=(false,eval e X.env)::oD es X.env:=by rfl) (G:(backTo cpos (oD es X.env)).any (·.1)=false:=by rfl):
  PE X (.Call (.Attribute o name apos) (e::es) [] cpos) (tBM K T r to t):=by subst h;exact GL Z slot Y hm ho ha J L I hs G
end
noncomputable def E8 (K:a'):ef V->Hp->VK->Prop:=λxs H Q=>∃(a:ee) (bs:ef IA),xs=[.ref a]/\SqL K H a (bs.map V.bl)/\Q (.bl (bs.all id)) H
section
variable {X:Cx} {K:a'}
theorem DO {bs:ef IA} {its:F'} (G:Vals (bs.map V.bl) its) {i:Nat} {v:hG} (h:its.toArray[i]? =aT v):v= .bool (bs.getD i false):=by
 have h':its[i]? =aT v:=by simpa using h
 have hi:i < its.length:=(b'.mp h').1;have I:=G.length;rw[cY] at I;obtain⟨u,e,r⟩:=G.get (i:=i) (x:= .bl (bs.getD i false)) (by rw[fk,cP @A,bx,cP @A];rfl);rw[h'] at e;cases e;exact r
theorem F1 (bs:ef IA):(ko bs.length).all (λi=>bs.getD i false)=bs.all id:=by
 rw[Ke,Kd,Kd];constructor
 ·intro h x G;obtain⟨i,hi,e⟩:=Ht.mp G;have:=h i (Iq.mpr hi);rw[bx,cP hi,e] at this;exact this
 ·intro h i hi;have hi:=Iq.mp hi;rw[bx,cP hi];exact h _ (Jr hi)
theorem zu (h:X.K=K) (hc:X.calm=true):jT X (.builtin "all") (E8 K):=by
 subst h;intro pins s σ H xs us Q I r h;obtain⟨a,bs,rfl,Z,q⟩:=h;obtain⟨u,rfl,J⟩:=vQ r;cases J;obtain⟨its,G,pl,hz⟩:=I.list Z;have lt:a < s.heap.objs.size:=let ⟨o,e,_⟩:=pl.isList;gA e
 have α:its.toArray.size=bs.length:=by have:=G.length;rw[cY] at this;simp[this]
 refine call_all_walk (Oq pl.isList ⟨s.heap.objs.size,_,_,its.toArray.size,_,_,λi=>bs.getD i false,rfl,Walks.list (A:=X.A.in1) (I.ok.hd hc) s.heap.objs.size a (Hl lt) its.toArray,⟨⟨_,la _ rfl,rfl,rfl⟩,let ⟨o,e,c⟩:=pl.isList;⟨o,ek _ e,c⟩⟩,λi v s Q E Y ψ=>by rw[DO G Y];exact JJ ψ,λh' tk L=>?_⟩);rw[α,F1];exact⟨.bl _,H,I.kept (λb o e=>L b o (λhm=>by have:=gA e;rw[fy.mp hm] at this;exact hE this (IV _)) (ek _ e)),rfl,q⟩
end
inductive Dt where
 | non | bl (b:IA) | int (i:Int) | str (x:Hk) | lst (xs:ef Dt) | tup (xs:ef Dt)
inductive Rep (K:a') (H:Hp):V->Dt->Prop where
 | non:Rep K H .non .non
 | bl (b:IA):Rep K H (.bl b) (.bl b)
 | int (i:Int):Rep K H (.int i) (.int i)
 | str (x:Hk):Rep K H (.str x) (.str x)
 | lst {p:ee} {xs:ef V} {ds:ef Dt} (h:SqL K H p xs) (l:xs.length=ds.length) (r:∀(i:Nat) x d,xs[i]? =aT x->ds[i]? =aT d->Rep K H x d):Rep K H (.ref p) (.lst ds)
 | tup {p:ee} {xs:ef V} {ds:ef Dt} (h:SqT K H p xs) (l:xs.length=ds.length) (r:∀(i:Nat) x d,xs[i]? =aT x->ds[i]? =aT d->Rep K H x d):Rep K H (.ref p) (.tup ds)
theorem Same.tup {K:a'} {H H':Hp} {a:ee} {xs:ef V} (e:Same H H') (h:SqT K H a xs):SqT K H' a xs:=by
 rcases h with (h | ⟨o,h⟩) | h
 ·exact .inl (.inl (e _ _ h))
 ·exact .inl (.inr ⟨o,e _ _ h⟩)
 ·exact .inr h
mutual
noncomputable def eqD:Dt->Dt->IA
 | .non,.non=>true
 | .bl a,.bl b=>a == b
 | .bl a,.int b=>(if a then 1 else 0) == b
 | .int a,.bl b=>a == (if b then 1 else 0)
 | .int a,.int b=>a == b
 | .str a,.str b=>a == b
 | .lst xs,.lst ys=>eqDs xs ys
 | .tup xs,.tup ys=>eqDs xs ys
 | _,_=>false
noncomputable def eqDs:ef Dt->ef Dt->IA
 | [],[]=>true
 | x::xs,y::ys=>eqD x y&&eqDs xs ys
 | _,_=>false
end
mutual
noncomputable def depD:Dt->Nat
 | .lst xs=>rA xs + 1
 | .tup xs=>rA xs + 1
 | _=>0
noncomputable def rA:ef Dt->Nat
 | []=>0
 | x::xs=>max (depD x) (rA xs)
end
theorem zc {ds:ef Dt} {d:Dt} (h:d∈ds):depD d<=rA ds:=by
 induction ds with
 | nil=>cases h
 | cons x xs ih=>
   rw[rA];rcases Hn.mp h with rfl | h
   ·omega
   ·have:=ih h;omega
theorem rq:∀{xs ys:ef Dt},xs.length≠ys.length->eqDs xs ys=false
 | [],[],h=>hE rfl h
 | [],_::_,_=>rfl
 | _::_,[],_=>rfl
 | x::xs,y::ys,h=>by rw[eqDs,rq (λz=>h (by simp[z])),ID]
theorem rz:∀{xs ys:ef Dt},xs.length=ys.length->eqDs xs ys=(ko xs.length).all λi=>eqD (xs.getD i .non) (ys.getD i .non)
 | [],[],_=>rfl
 | [],_::_,h=>by cases h
 | _::_,[],h=>by cases h
 | x::xs,y::ys,h=>by
   rw[eqDs,rz (by simpa using h),Ir,MJ,List.all_cons,List.all_map];rfl
theorem AU:∀d:Dt,eqD d d=true:=by
 intro d;refine Dt.rec (motive_1:=λd=>eqD d d=true) (motive_2:=λds=>eqDs ds ds=true) ?_ ?_ ?_ ?_ ?_ ?_ ?_ ?_ d
 ·rfl
 ·intro b;simp[eqD]
 ·intro b;simp[eqD]
 ·intro b;simp[eqD]
 ·intro xs h;rw[eqD];exact h
 ·intro xs h;rw[eqD];exact h
 ·rfl
 ·intro x xs h1 h2;rw[eqDs,h1,h2];rfl
theorem BI:∀{d e:Dt},d=e->eqD d e=true:=λh=>by subst h;exact AU _
section
variable {X:Cx} {pins:E'} {σ:St} {H:Hp} {s:f'}
theorem Inv.notBoth (I:Inv X pins σ H s) {p:ee} {xs ys:ef V} (h1:SqL X.K H p xs) (h2:SqT X.K H p ys):False:=by
 obtain⟨_,_,pl,_⟩:=I.list h1;obtain⟨_,_,⟨o,ho,G,_⟩,_⟩:=I.tuple h2;obtain⟨o',n,Y,χ,_⟩:=pl;rw[ho] at Y;cases Y;rw[G] at χ;exact hE χ @C
theorem Rep.fun (I:Inv X pins σ H s) {x:V} {d:Dt} (r:Rep X.K H x d):∀{e:Dt},Rep X.K H x e->d=e:=by
 induction r with
 | non=>intro e q;cases q;rfl
 | bl b=>intro e q;cases q;rfl
 | int i=>intro e q;cases q;rfl
 | str z=>intro e q;cases q;rfl
 | lst h l r ih=>
   intro e q;cases q with
   | lst h' J r'=>
     have ex:=I.list_inj h h';subst ex;congr 1;refine Ks λi=>?_;rename_i xs ds L;by_cases hi:i < ds.length
     ·rw[cP hi,cP @A];have G:i < xs.length:=by omega
      rw[ih i _ _ (cP G) (cP hi) (r' i _ _ (cP G) (cP @A))]
     ·rw[Ib @A,Ib @A]
   | tup h' J r'=>exact(I.notBoth h h').elim
 | tup h l r ih=>
   intro e q;cases q with
   | tup h' J r'=>
     have ex:=I.tuple_inj h h';subst ex;congr 1;refine Ks λi=>?_;rename_i xs ds L;by_cases hi:i < ds.length
     ·rw[cP hi,cP @A];have G:i < xs.length:=by omega
      rw[ih i _ _ (cP G) (cP hi) (r' i _ _ (cP G) (cP @A))]
     ·rw[Ib @A,Ib @A]
   | lst h' J r'=>exact(I.notBoth h' h).elim
open SeqAt in
theorem rc_D (I:Inv X pins σ H s) {x:V} {d:Dt} (r:Rep X.K H x d):∀{A:Hg} {e:Dt} {y:V} {u v:hG} (n:Nat),Rep X.K H y e->RelV x u->RelV y v->depD d<=n->A.units + n < cLine->
  EqAt A s u v (eqD d e)/\RcAt A s u v (eqD d e)/\RcNeAt A s u v (!eqD d e):=by
 induction r with
 | non=>
   intro A e y u v n q δ J hd ι;cases δ;cases q with
   | non=>cases J;exact⟨NC _,RcAt.none_none,RcNeAt.none_none⟩
   | bl b=>cases J;exact⟨EqAt.none_bool b,RcAt.none_bool b,RcNeAt.none_bool b⟩
   | int b=>obtain⟨t,rfl⟩:=J;exact⟨EqAt.none_int b t,RcAt.none_int b t,RcNeAt.none_int b t⟩
   | str b=>obtain⟨t,rfl⟩:=J;exact⟨EqAt.none_str b t,RcAt.none_str b t,RcNeAt.none_str b t⟩
   | lst h l r=>cases J;obtain⟨_,_,pl,_⟩:=I.list h;exact⟨EqAt.none_list pl.isList @A,RcAt.none_list pl.isList @A,RcNeAt.none_list pl.isList @A⟩
   | tup h l r=>cases J;obtain⟨_,_,pl,_⟩:=I.tuple h;exact⟨EqAt.none_tuple pl @A,RcAt.none_tuple pl @A,RcNeAt.none_tuple pl @A⟩
 | bl a=>
   intro A e y u v n q δ J hd ι;cases δ;cases q with
   | non=>cases J;exact⟨EqAt.bool_none a,RcAt.bool_none a,RcNeAt.bool_none a⟩
   | bl b=>cases J;exact⟨EqAt.bool_bool a b,RcAt.bool_bool a b,RcNeAt.bool_bool a b⟩
   | int b=>obtain⟨t,rfl⟩:=J;exact⟨EqAt.bool_int a b t,RcAt.bool_int a b t,RcNeAt.bool_int a b t⟩
   | str b=>obtain⟨t,rfl⟩:=J;exact⟨EqAt.bool_str a b t,RcAt.bool_str a b t,RcNeAt.bool_str a b t⟩
   | lst h l r=>cases J;obtain⟨_,_,pl,_⟩:=I.list h;exact⟨EqAt.bool_list a pl.isList @A,RcAt.bool_list a pl.isList @A,RcNeAt.bool_list a pl.isList @A⟩
   | tup h l r=>cases J;obtain⟨_,_,pl,_⟩:=I.tuple h;exact⟨EqAt.bool_tuple a pl @A,RcAt.bool_tuple a pl @A,RcNeAt.bool_tuple a pl @A⟩
 | int a=>
   intro A e y u v n q δ J hd ι;obtain⟨t',rfl⟩:=δ;cases q with
   | non=>cases J;exact⟨EqAt.int_none a t',RcAt.int_none a t',RcNeAt.int_none a t'⟩
   | bl b=>cases J;exact⟨EqAt.int_bool a t' b,RcAt.int_bool a t' b,RcNeAt.int_bool a t' b⟩
   | int b=>obtain⟨t,rfl⟩:=J;exact⟨EqAt.int_int a t' b t,RcAt.int_int a t' b t,RcNeAt.int_int a t' b t⟩
   | str b=>obtain⟨t,rfl⟩:=J;exact⟨EqAt.int_str a t' b t,RcAt.int_str a t' b t,RcNeAt.int_str a t' b t⟩
   | lst h l r=>cases J;obtain⟨_,_,pl,_⟩:=I.list h;exact⟨EqAt.int_list a t' pl.isList @A,RcAt.int_list a t' pl.isList @A,RcNeAt.int_list a t' pl.isList @A⟩
   | tup h l r=>cases J;obtain⟨_,_,pl,_⟩:=I.tuple h;exact⟨EqAt.int_tuple a t' pl @A,RcAt.int_tuple a t' pl @A,RcNeAt.int_tuple a t' pl @A⟩
 | str a=>
   intro A e y u v n q δ J hd ι;obtain⟨t',rfl⟩:=δ;cases q with
   | non=>cases J;exact⟨EqAt.str_none a t',RcAt.str_none a t',RcNeAt.str_none a t'⟩
   | bl b=>cases J;exact⟨EqAt.str_bool a t' b,RcAt.str_bool a t' b,RcNeAt.str_bool a t' b⟩
   | int b=>obtain⟨t,rfl⟩:=J;exact⟨EqAt.str_int a t' b t,RcAt.str_int a t' b t,RcNeAt.str_int a t' b t⟩
   | str b=>obtain⟨t,rfl⟩:=J;exact⟨EqAt.str_str a t' b t,RcAt.str_str a t' b t,RcNeAt.str_str a t' b t⟩
   | lst h l r=>cases J;obtain⟨_,_,pl,_⟩:=I.list h;exact⟨EqAt.str_list a t' pl.isList @A,RcAt.str_list a t' pl.isList @A,RcNeAt.str_list a t' pl.isList @A⟩
   | tup h l r=>cases J;obtain⟨_,_,pl,_⟩:=I.tuple h;exact⟨EqAt.str_tuple a t' pl @A,RcAt.str_tuple a t' pl @A,RcNeAt.str_tuple a t' pl @A⟩
 | @lst p xs ds h l r ih=>
   intro A e y u v n q δ J hd ι;cases δ;obtain⟨its,γ,pl,_⟩:=I.list h;rw[depD] at hd;cases q with
   | non=>cases J;exact⟨EqAt.list_none pl.isList @A,RcAt.list_none pl.isList @A,RcNeAt.list_none pl.isList @A⟩
   | bl b=>cases J;exact⟨EqAt.list_bool b pl.isList @A,RcAt.list_bool b pl.isList @A,RcNeAt.list_bool b pl.isList @A⟩
   | int b=>obtain⟨t,rfl⟩:=J;exact⟨EqAt.list_int b t pl.isList @A,RcAt.list_int b t pl.isList @A,RcNeAt.list_int b t pl.isList @A⟩
   | str b=>obtain⟨t,rfl⟩:=J;exact⟨EqAt.list_str b t pl.isList @A,RcAt.list_str b t pl.isList @A,RcNeAt.list_str b t pl.isList @A⟩
   | tup h' θ r'=>
     cases J;obtain⟨_,_,L,_⟩:=I.tuple h';exact⟨EqAt.list_tuple pl.isList L @A,RcAt.list_tuple pl.isList L @A,RcNeAt.list_tuple pl.isList L @A⟩
   | @lst β Z G h' θ r'=>
     cases J;obtain⟨its',α,L,_⟩:=I.list h';have n1:=γ.length;have ω:=α.length
     have Y:RcAt A s (.ref p) (.ref β) (eqDs ds G)/\RcNeAt A s (.ref p) (.ref β) (!eqDs ds G):=by
      by_cases ξ:ds.length=G.length
      ·have e:eqDs ds G=(ko its.toArray.size).all λi=>eqD (ds.getD i .non) (G.getD i .non):=by
        rw[rz ξ,qQ,<-n1,l]
       rw[e];have hz:its.toArray.size=its'.toArray.size:=by simp;omega
       have he:∀j (h1:j < its.toArray.size) (h2:j < its'.toArray.size),EqAt A.in1 s its.toArray[j] its'.toArray[j] (eqD (ds.getD j .non) (G.getD j .non)):=λj h1 h2=>by
        have τ:j < its.length:=by simpa using h1
        have π:j < its'.length:=by simpa using h2
        have ο:j < xs.length:=by omega
        have ζ:j < Z.length:=by omega
        have η:j < ds.length:=by omega
        have ε:j < G.length:=by omega
        have g1:xs[j]? =aT (xs.getD j .non):=by rw[bx,cP ο];rfl
        have g2:ds[j]? =aT (ds.getD j .non):=by rw[bx,cP η];rfl
        have ρ:Z[j]? =aT (Z.getD j .non):=by rw[bx,cP ζ];rfl
        have υ:G[j]? =aT (G.getD j .non):=by rw[bx,cP ε];rfl
        have hn:n≠0:=by omega
        exact(ih j _ _ g1 g2 (n - 1) (r' j _ _ ρ υ) (lD γ h1) (lD α h2) (by have:=zc (eO g2);omega) (by show A.units + 1 + (n - 1) < cLine;omega)).1
       exact⟨RcAt.lists pl.isList L.isList hz @A he,RcNeAt.lists pl.isList L.isList hz @A he⟩
      ·rw[rq ξ];have hz:(its.toArray.size != its'.toArray.size)=true:=by simp;omega
       exact⟨RcAt.lists_lengths pl.isList L.isList hz @A,RcNeAt.lists_lengths pl.isList L.isList hz @A⟩
     rw[eqD];refine⟨?_,Y⟩;by_cases ν:p=β
     ·subst ν;have e:Dt.lst ds=Dt.lst G:=(Rep.lst h l r).fun I (.lst h' θ r');have φ:eqDs ds G=true:=by have:=BI e;rw[eqD] at this;exact this
      rw[φ];exact NC _
     ·exact Oy ν Y.1
 | @tup p xs ds h l r ih=>
   intro A e y u v n q δ J hd ι;cases δ;obtain⟨its,γ,pl,_⟩:=I.tuple h;rw[depD] at hd;cases q with
   | non=>cases J;exact⟨EqAt.tuple_none pl @A,RcAt.tuple_none pl @A,RcNeAt.tuple_none pl @A⟩
   | bl b=>cases J;exact⟨EqAt.tuple_bool b pl @A,RcAt.tuple_bool b pl @A,RcNeAt.tuple_bool b pl @A⟩
   | int b=>obtain⟨t,rfl⟩:=J;exact⟨EqAt.tuple_int b t pl @A,RcAt.tuple_int b t pl @A,RcNeAt.tuple_int b t pl @A⟩
   | str b=>obtain⟨t,rfl⟩:=J;exact⟨EqAt.tuple_str b t pl @A,RcAt.tuple_str b t pl @A,RcNeAt.tuple_str b t pl @A⟩
   | lst h' θ r'=>
     cases J;obtain⟨_,_,L,_⟩:=I.list h';exact⟨EqAt.tuple_list pl L.isList @A,RcAt.tuple_list pl L.isList @A,RcNeAt.tuple_list pl L.isList @A⟩
   | @tup β Z G h' θ r'=>
     cases J;obtain⟨its',α,L,_⟩:=I.tuple h';have n1:=γ.length;have ω:=α.length
     have Y:RcAt A s (.ref p) (.ref β) (eqDs ds G)/\RcNeAt A s (.ref p) (.ref β) (!eqDs ds G):=by
      have e:eqDs ds G=((ko (min its.toArray.size its'.toArray.size)).all (λi=>eqD (ds.getD i .non) (G.getD i .non))&&its.toArray.size == its'.toArray.size):=by
       by_cases ξ:ds.length=G.length
       ·have χ:its.toArray.size=ds.length:=by simp;omega
        have ψ:its'.toArray.size=ds.length:=by simp;omega
        rw[rz ξ,χ,ψ,LH,HV,Om]
       ·have z:(its.toArray.size == its'.toArray.size)=false:=by rw[vr];simp;omega
        rw[rq ξ,z,ID]
      rw[e]
      have he:∀j (h1:j < its.toArray.size) (h2:j < its'.toArray.size),EqAt A.in1 s its.toArray[j] its'.toArray[j] (eqD (ds.getD j .non) (G.getD j .non)):=λj h1 h2=>by
       have τ:j < its.length:=by simpa using h1
       have π:j < its'.length:=by simpa using h2
       have ο:j < xs.length:=by omega
       have ζ:j < Z.length:=by omega
       have η:j < ds.length:=by omega
       have ε:j < G.length:=by omega
       have g1:xs[j]? =aT (xs.getD j .non):=by rw[bx,cP ο];rfl
       have g2:ds[j]? =aT (ds.getD j .non):=by rw[bx,cP η];rfl
       have ρ:Z[j]? =aT (Z.getD j .non):=by rw[bx,cP ζ];rfl
       have υ:G[j]? =aT (G.getD j .non):=by rw[bx,cP ε];rfl
       have hn:n≠0:=by omega
       exact(ih j _ _ g1 g2 (n - 1) (r' j _ _ ρ υ) (lD γ h1) (lD α h2) (by have:=zc (eO g2);omega) (by show A.units + 1 + (n - 1) < cLine;omega)).1
      exact⟨RcAt.tuples pl L @A he,RcNeAt.tuples pl L @A he⟩
     rw[eqD];refine⟨?_,Y⟩;by_cases ν:p=β
     ·subst ν;have e:Dt.tup ds=Dt.tup G:=(Rep.tup h l r).fun I (.tup h' θ r');have φ:eqDs ds G=true:=by have:=BI e;rw[eqD] at this;exact this
      rw[φ];exact NC _
     ·exact Oy ν Y.1
end
noncomputable def rEqD (K:a') (neg:IA):R2:=λx y H Q=>∃d e,Rep K H x d/\Rep K H y e/\depD d<=100/\Q (.bl (if neg then !eqD d e else eqD d e)) H
section
variable {X:Cx} {K:a'}
theorem C2 (h:X.K=K) (β:X.A.units + 100 < cLine):OpR X (compareOp .NotEq) (rEqD K true):=by
 subst h;intro pins s σ H x y v u Q I J G h;obtain⟨d,e,Y,L,hd,q⟩:=h;exact(rc_D I Y 100 L J G hd β).2.2 X.prog X.w X.xe _ ⟨.bl _,H,I,rfl,q⟩
end
inductive xk:St->Nat->ry V->St->Prop where
 | z {a v:ry V} {l:St}:xk (a::l) 0 v (v::l)
 | s {a v:ry V} {l l':St} {i:Nat}:xk l i v l'->xk (a::l) (i + 1) v (a::l')
theorem xk.eq {l G:St} {i:Nat} {v:ry V} (h:xk l i v G):l.set i v=G:=by
 induction h with
 | z=>rfl
 | s _ ih=>rw[List.set_cons_succ,ih]
inductive xl:St->Nat->V->Prop where
 | z {v:V} {l:St}:xl (aT v::l) 0 v
 | s {a:ry V} {v:V} {l:St} {i:Nat}:xl l i v->xl (a::l) (i + 1) v
theorem xl.eq {l:St} {i:Nat} {v:V} (h:xl l i v):l[i]? =aT (aT v):=by
 induction h with
 | z=>rfl
 | s _ ih=>rw[List.getElem?_cons_succ];exact ih
section
variable {σ σ':St} {H:Hp} {Q:VK} {D:Ends} {ta tb tc te:TE} {t u:TS} {tt tt':TT} {r r':R2} {x y v:V}
theorem aD {N:C'} {vs:ef V} {t:TS} (e:kF N vs=σ') (h:t D σ' H):t D (kF N vs) H:=by rw[e];exact h
theorem Gu {i:Nat} (e:xl σ i v) (h:Q v H):tVar i σ H Q:=⟨v,e.eq,h⟩
theorem s_rI {C:Int->Int->Prop} {g:Int->Int->V} {i j:Int} (c:C i j) (h:Q (g i j) H):rI C g (.int i) (.int j) H Q:=⟨i,j,rfl,rfl,c,h⟩
theorem GA {g:Int->Int->V} {i j:Int} (h:Q (g i j) H):rI0 g (.int i) (.int j) H Q:=⟨i,j,rfl,rfl,h⟩
theorem GB (e:scal x y=true) (h:Q (.bl (decide (x=y))) H):rEq x y H Q:=⟨e,h⟩
theorem Gz (e:scal x y=true) (h:Q (.bl (!decide (x=y))) H):rNe x y H Q:=⟨e,h⟩
theorem EH (h:D.nx σ H):Ek D σ H:=h
theorem Gx (h:t {D with nx:=u D} σ H):tSeq t u D σ H:=h
theorem Cy {i:Nat} {Q:St->Hp->Prop} (e:xk σ i (aT v) σ') (h:Q σ' H):wN i v σ H Q:=by show Q (σ.set i (aT v)) H;rw[e.eq];exact h
theorem ES {Q:St->Hp->Prop} (h:Q σ H):gNil [] σ H Q:=⟨rfl,h⟩
theorem Cz {g:TG} {G:TGs} {vs:ef V} {Q:St->Hp->Prop} (h:g v σ H fun σ' H'=>G vs σ' H' Q):DK g G (v::vs) σ H Q:=⟨v,vs,rfl,h⟩
theorem ER {K:a'} {n:Nat} {G:TGs} {p:ee} {xs:ef V} {Q:St->Hp->Prop} (e:SqT K H p xs) (l:xs.length=n) (h:G xs σ H Q):gTup K n G (.ref p) σ H Q:=⟨p,xs,rfl,e,l,h⟩
def NewT (Q:VK) (xs:ef V) (H:Hp):Prop:=xs.length<=i'/\∀p,H p=eH->Q (.ref p) (upd H p (.tup xs))
def NewL (Q:VK) (xs:ef V) (H:Hp):Prop:=xs.length<=i'/\∀p,H p=eH->Q (.ref p) (upd H p (.lst xs))
theorem Gv {tr:TA} (h:tr σ H (NewT Q)):tTup tr σ H Q:=h
theorem GC {tr:TA} (h:tr σ H (NewL Q)):tLst tr σ H Q:=h
theorem fh {H:Hp} {D:ee} {o:HO} (h:H D=eH):Same H (upd H D o):=λb u e=>by rw[aC (au e h)];exact e
theorem i8 {o:HO} (h:∀p H2,H p=eH->Same H H2->H2 p=aT o->Q (.ref p) H2):∀p,H p=eH->Q (.ref p) (upd H p o):=λp G=>h p _ G (fh G) aJ
theorem Same.get {H H':Hp} (e:Same H H') {b:ee} {o:HO} (h:H b=aT o):H' b=aT o:=e b o h
theorem EI {xs:ef V} (l:xs.length<=i') (h:∀p H2,H p=eH->Same H H2->H2 p=aT (.tup xs)->Q (.ref p) H2):NewT Q xs H:=⟨l,i8 h⟩
theorem EJ {xs:ef V} (l:xs.length<=i') (h:∀p H2,H p=eH->Same H H2->H2 p=aT (.lst xs)->Q (.ref p) H2):NewL Q xs H:=⟨l,i8 h⟩
theorem CD {sp:Sp} {E:XK} {tr:TA} (h:tr σ H λvs H1=>sp vs H1 Q E):zT sp [] E tr σ H Q:=by unfold zT;simp only[K8];exact h
theorem Gw {K:a'} {p:ee} {xs:ef V} {lo hi:ry Int} (e:SqL K H p xs) (h:∀q H2,H q=eH->Same H H2->H2 q=aT (.lst (cutV xs lo hi))->Q (.ref q) H2):rSlL K (.ref p) lo hi H Q:=⟨p,xs,rfl,e,i8 h⟩
theorem GE {K:a'} {p:ee} {xs:ef V} {i:Int} (e:SqL K H p xs) (a:atI xs i=aT v) (h:Q v H):rIxL K (.ref p) (.int i) H Q:=⟨p,xs,i,v,rfl,rfl,e,a,h⟩
theorem GD {K:a'} {p:ee} {xs:ef V} {i:Int} (e:SqT K H p xs) (a:atI xs i=aT v) (h:Q v H):rIxT K (.ref p) (.int i) H Q:=⟨p,xs,i,v,rfl,rfl,e,a,h⟩
theorem yG {n:Nat} (h:n<=1000):n<=sizeLine:=Jn (dU h)
theorem GI {K:a'} {neg:IA} {d e:Dt} (I:Rep K H x d) (G:Rep K H y e) (hd:depD d<=100) (h:Q (.bl (if neg then !eqD d e else eqD d e)) H):rEqD K neg x y H Q:=⟨d,e,I,G,hd,h⟩
theorem s_ty {K:a'} {T:IU} {A:Prop} (e:tyV K T x H) (h:A):tyV K T x H/\A:=⟨e,h⟩
theorem E1 {i:Int} (h:Q (.int (vu i:Nat)) H):E7 (.int i) [] H Q:=⟨i,rfl,rfl,h⟩
theorem EO {K:a'} {p:ee} {xs:ef V} (e:SqL K H p xs) (h:Q (.int xs.length) H):rLen K [.ref p] H Q:=⟨_,_,rfl,.inl ⟨xs,e,rfl⟩,h⟩
theorem EN {K:a'} {p:ee} {xs:ef V} (e:SqT K H p xs) (h:Q (.int xs.length) H):rLen K [.ref p] H Q:=⟨_,_,rfl,.inr ⟨xs,e,rfl⟩,h⟩
theorem GF {K:a'} {T k:IU} (e:i0 K H x k) (m:T∈["int","bool","str","list","tuple","dict"]) (h:Q (.bl (subB k T)) H):rIsi K [x,.ty T] H Q:=⟨x,k,T,rfl,e,m,h⟩
theorem EV (h:∀p H2,H p=eH->Same H H2->H2 p=aT (.dK [])->Q (.ref p) H2):Bk σ H Q:=i8 h
theorem GG {I:TI} {g:TG} {tb:TS} (h:I σ H λJ H1=>∃W:Nat->Nat->St->Hp->Prop,(∃m,W 0 m σ H1)/\∀i m σ H,W i m σ H->(J.stop i H/\D.nx σ H)∨(J.go i H/\∃N:St->Hp->Prop,(∀σ' H',N σ' H'->∃χ,χ < m/\W (i + 1) χ σ' H')/\∀x H',J.yld i H x H'->g x σ H' λG H2=>tb {D with nx:=N,ct:=N,bk:=D.nx} G H2)):tFor I g tb D σ H:=h
theorem Gs {Q:IA->Hp->Prop} (h:Q true H):tYes σ H Q:=h
theorem EE {A B:Prop} (h:A):if true=true then A else B:=by rw[pe rfl];exact h
theorem CA {A B:Prop} (h:B):if false=true then A else B:=by rw[nk gn];exact h
theorem xU {c:IA} {A B:Prop} (e:c=true) (h:A):if c=true then A else B:=by rw[pe e];exact h
theorem r0 {c:IA} {A B:Prop} (e:c=false) (h:B):if c=true then A else B:=by rw[e,nk gn];exact h
theorem EZ {n:Nat} {fx:D7} {Y:TI} {g:TG} (h:Y σ H λJ H1=>∀D,H1 D=eH->
 ∃W:Nat->Nat->ef V->Hp->Prop,(∃m,W 0 m [] (upd H1 D (.lst [])))/\∀i m ys H2,W i m ys H2->(J.stop i H2/\Q (.ref D) H2)∨
   (J.go i H2/\∃N:ef V->Hp->Prop,(∀L H',N L H'->∃χ,χ < m/\W (i + 1) χ L H')/\∀x G,J.yld i H2 x G->g x (cx n fx σ) G λI γ=>tt I γ λb α=>
    if b=true then te I α λv Z=>Z D=aT (.lst ys)/\ys.length < i'/\N (ys++[v]) (upd Z D (.lst (ys++[v]))) else N ys α)):vW n fx Y g tt te σ H Q:=h
theorem E2 {K:a'} {p:ee} {bs:ef IA} (e:SqL K H p (bs.map V.bl)) (h:Q (.bl (bs.all id)) H):E8 K [.ref p] H Q:=⟨p,bs,rfl,e,h⟩
theorem Ag {j:Int} {A:Prop} (h1: -(2 ^ 62)<=j) (h2:j < 2 ^ 62) (h:A): -(2 ^ 62)<=j/\j < 2 ^ 62/\A:=⟨h1,h2,h⟩
end
noncomputable def tCut (t u:TS):TS:=λD σ H=>∃P:St->Hp->Prop,t {D with nx:=P} σ H/\∀σ' H',P σ' H'->u D σ' H'
theorem jd {X:Cx} {st:JQ} {rest:ef JQ} {t u:TS} (h1:PS X st t) (h2:PSs X rest u):PSs X (st::rest) (tCut t u):=by
 intro pins s σ H D I ⟨P,a,b⟩;refine Mg (thn (h1 pins s σ H {D with nx:=P} I a) λf J q=>?_);cases f with
 | next=>obtain⟨G,H1,Y,L⟩:=q;exact h2 pins J G H1 D Y (b G H1 L)
 | brk=>exact q
 | cont=>exact q
 | ret v=>exact q
theorem r6 {t u:TS} {D:Ends} {σ:St} {H:Hp} (P:St->Hp->Prop) (h:t {D with nx:=P} σ H) (k:∀σ' H',P σ' H'->u D σ' H'):tCut t u D σ H:=⟨P,h,k⟩
section
variable {K:a'} {n:Nat} {fx:D7} {g:TG} {tc:TT} {te:TE} {σ:St} {H1:Hp} {D:ee} {Q:Hp->Prop}
structure Cs (Pv:Nat->ef V->Prop) (H1:Hp) (D:ee) (i:Nat) (ys:ef V) (H:Hp):Prop where
 pv:Pv i ys
 same:Same H1 H
 at':H D=aT (.lst ys)
 len:ys.length<=i
theorem Cs.put {I:Nat->ef V->Prop} {i:Nat} {ys:ef V} {v:V} {G:Hp} (f:H1 D=eH) (s:Same H1 G) (e:G D=aT (.lst ys)) (l:ys.length<=i) (hi:i < 16777216) (p:I (i + 1) (ys++[v])):
  G D=aT (.lst ys)/\ys.length < i'/\Cs I H1 D (i + 1) (ys++[v]) (upd G D (.lst (ys++[v]))):=
 ⟨e,by rw[mc];omega,p,λb o h=>by rw[aC (au h f)];exact s b o h,aJ,by rw[eZ];simpa using l⟩
theorem Cs.skip {I:Nat->ef V->Prop} {i:Nat} {ys:ef V} {G:Hp} (s:Same H1 G) (e:G D=aT (.lst ys)) (l:ys.length<=i) (p:I (i + 1) ys):Cs I H1 D (i + 1) ys G:=⟨p,s,e,@A⟩
theorem Cs.zero {G:Nat->ef V->Prop} (f:H1 D=eH) (p:G 0 []):Cs G H1 D 0 [] (upd H1 D (.lst [])):=⟨p,fh f,aJ,ov _⟩
end
structure Hb (K:a') (C:ee) (m:Hk) (f:ee):Prop where
 ga:Jw K (.ref C) "__getattribute__"=aT (aT (.builtin "type.__getattribute__"))
 rd:Nc K C (.type "type")=true
 fd:Ng K (.ref C) (.type "type") m=aT (.val (.ref f))
 hd:Lq (.ref f)=true
 kp:Iy K (.ref f)=true
structure Hd (K:a') (D:ee):Prop where
 cls:Cls K D
 ha:zP K (.ref D) "__class__"=aT (aT (.builtin "object.__class__"))
 hn:Jw K (.builtin "object.__class__") "__get__"=aT (aT (.builtin "getset_descriptor.__get__"))
 tk:LC K (.builtin "object.__class__")=aT true
 hm:J7 K D (.type "object")=aT true
section
variable {X:Cx} {K:a'}
theorem bw {e:Hi} {ta:TE} {f:Hk} {pos:Pos} (h:X.K=K) (he:PE X e ta) (hb:attributeBase e f X.env (eval e X.env)=eval e X.env):PE X (.Attribute e f pos) (tFld K ta f):=by subst h;exact Fh he hb
theorem lK {o value:Hi} {ta tv:TE} {f:Hk} {pos pos':Pos} (h:X.K=K) (ha:PE X o ta) (G:PE X value tv) (hs:swapsWith value (aT (.Attribute o f pos')) pos.line X.env=pure false):PS X (.Assign [.Attribute o f pos'] value pos) (sFld K ta tv f):=by subst h;exact Fb ha G hs
end
section
variable {σ:St} {H:Hp} {Q:VK} {D:Ends} {te tv ta:TE} {x y v:V}
def F6 (K:a') (f:Hk) (Q:VK) (x:V) (H:Hp):Prop:=∃a C dx fs v,x= .ref a/\H a=aT (.ins C dx fs)/\Cls K C/\fP K C f/\fs.lookup f=aT v/\Q v H
theorem GH {K:a'} {f:Hk} (h:te σ H (F6 K f Q)):tFld K te f σ H Q:=h
theorem bu {K:a'} {f:Hk} {p C dx:ee} {fs:ef (Hk×V)} (e:H p=aT (.ins C dx fs)) (c:Cls K C) (n:fP K C f) (l:fs.lookup f=aT v) (h:Q v H):F6 K f Q (.ref p) H:=⟨p,C,dx,fs,v,rfl,e,c,n,l,h⟩
structure Upd (H H':Hp) (p:ee) (o:HO):Prop where
 at':H' p=aT o
 oth:∀b u,b≠p->H b=aT u->H' b=aT u
 non:∀b,b≠p->H b=eH->H' b=eH
theorem Upd.of {H:Hp} {p:ee} {o:HO}:Upd H (upd H p o) p o:=⟨aJ,λb u n h=>by rw[aC n];exact h,λb n h=>by rw[aC n];exact h⟩
def F4 (K:a') (f:Hk) (y:V) (D:Ends) (σ:St) (x:V) (H:Hp):Prop:=∃a C dx fs,x= .ref a/\H a=aT (.ins C dx fs)/\Cls K C/\fP K C f/\fs.length < 1000/\D.nx σ (upd H a (.ins C dx (putF f y fs)))
theorem Ac {K:a'} {f:Hk} (h:tv σ H λy H1=>te σ H1 (F4 K f y D σ)):sFld K te tv f D σ H:=h
theorem lG {K:a'} {f:Hk} {p C dx:ee} {fs fs':ef (Hk×V)} (e:H p=aT (.ins C dx fs)) (c:Cls K C) (n:fP K C f) (l:fs.length < 1000) (G:putF f y fs=fs') (h:∀H2,Upd H H2 p (.ins C dx fs')->D.nx σ H2):
  F4 K f y D σ (.ref p) H:=⟨p,C,dx,fs,rfl,e,c,n,l,by rw[G];exact h _ Upd.of⟩
def BP (C:ee) (sp:Sp) (E:XK) (Q:VK) (vs:ef V) (H:Hp):Prop:=∀x dx,H x=eH->H dx=eH->dx≠x->sp (.ref x::(vs++[])) (upd (upd H dx (.own x)) x (.ins C dx [])) (λv H2=>v= .non/\Q (.ref x) H2) E
theorem EL {C:ee} {sp:Sp} {E:XK} {tr:TA} (h:tr σ H (BP C sp E Q)):El C sp [] E tr σ H Q:=h
theorem Af {C:ee} {sp:Sp} {E:XK} {vs:ef V} (h:∀x dx H2,H x=eH->Same H H2->H2 x=aT (.ins C dx [])->sp (.ref x::vs) H2 (λv H2=>v= .non/\Q (.ref x) H2) E):BP C sp E Q vs H:=by
 intro x dx G η n;rw[K8];exact h x dx _ G (λb o e=>by rw[aC (au e G),aC (au e η)];exact e) aJ
theorem Upd.same {H0 H2:Hp} {p:ee} {o:HO} (u:Upd H H2 p o) (f:H0 p=eH) (s:Same H0 H):Same H0 H2:=λb q e=>u.oth b q (au e f) (s b q e)
end
theorem Inv.laidCh {X:Cx} {pins:E'} {σ:St} {H:Hp} {s:f'} {h':zx} {a:ee} {o:HO} {t':Nat} {ch:HJ} (I:Inv X pins σ H s) (k:∀b u,b∉ch->s.heap.get? b=aT u->h'.get? b=aT u) (β:s.heap.objs.size<=a)
  (Z:eR X.prog X.w (upd H a o) h' a o) (α:∀b∈ch,FpOk X pins H b):Inv X pins σ (upd H a o) {s with heap:=h',toks:=t'}:=by
 have fr:H a=none:=I.hok.fresh β;have Y:∀b u,H b=aT u->b∉ch:=λb u e z=>by rw[(α b z).1] at e;cases e
 refine I.step (g':=s.gens) (d':=s.drawn) (ch:=ch) (λb hb=>?_) (λb J _ _ L e _=>k b J L e) (λb J _ _ L e _=>⟨J.slots,k b J L e⟩) (λb J _ e n=>?_) (λb J L e=>⟨J,k b J L e⟩)
  (λb xs e=>by rw[aC (au e fr)];exact e) (λb J u e=>by rw[aC (au e fr)];exact e) (λb ps e=>⟨#[],by rw[aC (au e fr),e];simp⟩) (λm hm=>?_) (λb u e=>?_) I.bare
 ·obtain⟨ε,δ,η,ψ,G,γ⟩:=α b hb;exact⟨ψ,δ,G,γ⟩
 ·rw[aC (Hl (eu (gA e) β))];exact n
 ·obtain⟨J,es,ep,ho,r⟩:=hm;exact⟨J,es,ep,k _ J (λz=>(α _ z).2.1 rfl) ho,r⟩
 ·by_cases hb:b=a
  ·subst hb;rw[aJ] at e;cases e;exact Z
  ·rw[aC hb] at e;refine(I.hok b u e).stay (λc v L q=>k c v ?_ q) (λc q=>by rw[aC (au q fr)];exact q) λc xs q=>by rw[aC (au q fr)];exact q
   rcases L with z | z
   ·rw[z];exact Y b u e
   ·exact Y c _ z
theorem Inv.turnedCh {X:Cx} {pins:E'} {σ:St} {H:Hp} {s:f'} {h':zx} {t':Nat} {ch:HJ} (I:Inv X pins σ H s) (k:∀b u,b∉ch->s.heap.get? b=aT u->h'.get? b=aT u)
  (Z:∀b∈ch,FpOk X pins H b):Inv X pins σ H {s with heap:=h',toks:=t'}:=by
 have Y:∀b u,H b=aT u->b∉ch:=λb u e z=>by rw[(Z b z).1] at e;cases e
 refine I.step (g':=s.gens) (d':=s.drawn) (ch:=ch) (λb hb=>?_) (λb J _ _ L e _=>k b J L e) (λb J _ _ L e _=>⟨J.slots,k b J L e⟩) (λb J _ e n=>n) (λb J L e=>⟨J,k b J L e⟩)
  (λb xs e=>e) (λb J u e=>e) (λb ps e=>⟨#[],by rw[e];simp⟩) (λm hm=>?_) (λb u e=>?_) I.bare
 ·obtain⟨γ,β,η,ψ,G,α⟩:=Z b hb;exact⟨ψ,β,G,α⟩
 ·obtain⟨J,es,ep,ho,r⟩:=hm;exact⟨J,es,ep,k _ J (λz=>(Z _ z).2.1 rfl) ho,r⟩
 ·refine(I.hok b u e).stay (λc v L q=>k c v ?_ q) (λc q=>q) λc xs q=>q;rcases L with z | z
  ·rw[z];exact Y b u e
  ·exact Y c _ z
noncomputable def Ite (K:a') (a:ee):It:=
 ⟨λi H=>∃xs x,SqL K H a xs/\xs[i]? =aT x,λi H x H'=>∃p v,H p=eH/\x= .ref p/\H'=upd H p (.tup [.int i,v])/\∀xs,SqL K H a xs->xs[i]? =aT v,λi H=>∃xs,SqL K H a xs/\xs.length=i⟩
noncomputable def Itz (x:Hk):It:=⟨λi _=>i < x.cps.size,λi H v H'=>∃p c,H p=eH/\v= .ref p/\H'=upd H p (.tup [.int i,.str ⟨#[c]⟩])/\x.cps[i]? =aT c,λi _=>i=x.cps.size⟩
theorem ve:(2:Nat)<=sizeLine:=by rw[mc];decide
theorem qd {P:px} {w:wq} {K:a'} {L:ef Hi} {k:Nat} {pos:Pos} (a e it:ee) (α:e≠it):
  Turn P w K (.Tuple L k pos) (Ite K a) [e,it] e (λi h=>(∃G,IsEnum h e it i G)/\h.IsListIter it a i) where
 mem:=by simp
 obj:=λi h st b hb=>by
  obtain⟨⟨G,he⟩,⟨o,ho,υ,hd⟩⟩:=st;rcases Hn.mp hb with z | z
  ·subst z;exact⟨_,he,λv z=>by cases z⟩
  ·rw[fy.mp z];exact⟨o,ho,λv z=>by rw[hd] at z;cases z⟩
 keep:=λi h h' st k=>⟨let ⟨G,he⟩:=st.1;⟨G,k e @E _ he⟩,st.2.at λo z=>k it @E o z⟩
 item:=by
  intro X τ hw hK υ i pins s σ H E I hf st ψ;subst τ hw hK;obtain⟨xs,x,ρ,π⟩:=ψ;obtain⟨its,ξ,p,hz⟩:=I.list ρ;obtain⟨⟨G,he⟩,θ⟩:=st
  have ζ:a≠it:=λz=>by
   obtain⟨o,ho,J,_⟩:=θ;obtain⟨o',n,Y,ο,_⟩:=p;rw[z,ho] at Y;cases Y;rw[J] at ο;exact hE ο @C
  have η:a≠e:=λz=>by
   obtain⟨o',n,Y,ο,_⟩:=p;rw[z,he] at Y;cases Y;exact hE (show Ik "enumerate"= .type "list" from ο) @C
  have W:=Jx (prog:=X.prog) (w:=X.w) (A:=X.A) (Draws.list (A:=X.A.in1) (I.ok.hd υ) it a ζ its.toArray) e α (by simp[α,xn η]) @E;have hi:i < its.toArray.size:=by have:=ξ.length;have:=(b'.mp π).1;simp;omega
  refine W.item i s _ _ hi ⟨⟨G,he⟩,θ,p.isList⟩ λT δ h' tk a0 hT Z ε hk=>⟨_,rfl,W.go L k pos i T _ _ _ ε λa3 ι ν=>?_⟩;obtain⟨t,φ,χ,rfl⟩:=a0;have ω:=W.apart i T h' ε
  have ru:RelV x φ:=by
   obtain⟨u,β,r⟩:=ξ.get π;have γ:its[i]? =aT φ:=by simpa using χ
   rw[β] at γ;cases γ;exact r
  have kk:∀b u,b∉[e,it]->s.heap.get? b=aT u->a3.get? b=aT u:=λb u hb q=>ν b u hb (hk b u hb q);have fr:H T=none:=I.hok.fresh hT;refine⟨.ref T,upd H T (.tup [.int i,x]),I.laidCh (t':=tk) kk hT ⟨ve,[.int i t,φ],.cons ⟨t,rfl⟩ (.cons ru .nil),?_⟩ hf,rfl,⟨T,x,fr,rfl,rfl,λys hy=>by rw[I.list_inj hy ρ];exact π⟩,⟨ι.1,ι.2.1⟩,λb hb=>?_⟩
  ·obtain⟨o,ho,r⟩:=Z;exact⟨o,ν T o ω ho,r⟩
  ·have fb:=(hf b hb);rw[aC (λz=>?_)]
   ·exact fb.1
   ·have lt:b < s.heap.objs.size:=by
     rcases Hn.mp hb with z | z
     ·subst z;exact gA he
     ·rw[fy.mp z];obtain⟨o,ho,_⟩:=θ;exact gA ho
    rw[z] at lt;exact hE (eu lt hT) (IV _)
 done:=by
  intro X τ hw hK υ i pins s σ H E I hf st ψ;subst τ hw hK;obtain⟨xs,ρ,π⟩:=ψ;obtain⟨its,ξ,p,hz⟩:=I.list ρ;obtain⟨⟨G,he⟩,θ⟩:=st
  have ζ:a≠it:=λz=>by
   obtain⟨o,ho,J,_⟩:=θ;obtain⟨o',n,Y,ο,_⟩:=p;rw[z,ho] at Y;cases Y;rw[J] at ο;exact hE ο @C
  have η:a≠e:=λz=>by
   obtain⟨o',n,Y,ο,_⟩:=p;rw[z,he] at Y;cases Y;exact hE (show Ik "enumerate"= .type "list" from ο) @C
  have W:=Jx (prog:=X.prog) (w:=X.w) (A:=X.A) (Draws.list (A:=X.A.in1) (I.ok.hd υ) it a ζ its.toArray) e α (by simp[α,xn η]) @E;have hn:its.toArray.size=i:=by have:=ξ.length;simp;omega
  subst hn;exact W.done s _ _ ⟨⟨G,he⟩,θ,p.isList⟩ λh' tk hk=>⟨rfl,I.turnedCh hk hf⟩
 self:=λ_ _ _ _ _ st h=>let ⟨_,he⟩:=st.1;Jh he h
theorem vV {P:px} {w:wq} {K:a'} {L:ef Hi} {k:Nat} {pos:Pos} {x:Hk} {t:Tok} {n:IU} (e it:ee) (J:e≠it)
  (D:∀A:Hg,A.handled=eH->Draws P w A it [it] x.cps.size (λi v=>∃c u,x.cps[i]? =aT c/\v= .str ⟨#[c]⟩ u) (λi h=>h.IsStrIter it n x t i)):
  Turn P w K (.Tuple L k pos) (Itz x) [e,it] e (λi h=>(∃G,IsEnum h e it i G)/\h.IsStrIter it n x t i) where
 mem:=by simp
 obj:=λi h st b hb=>by
  obtain⟨⟨G,he⟩,⟨o,ho,ζ,hd⟩⟩:=st;rcases Hn.mp hb with z | z
  ·subst z;exact⟨_,he,λv z=>by cases z⟩
  ·rw[fy.mp z];exact⟨o,ho,λv z=>by rw[hd] at z;cases z⟩
 keep:=λi h h' st k=>⟨let ⟨G,he⟩:=st.1;⟨G,k e @E _ he⟩,let ⟨o,ho,r⟩:=st.2;⟨o,k it @E o ho,r⟩⟩
 item:=by
  intro X τ hw ν ζ i pins s σ H E I hf st γ;subst τ hw ν;obtain⟨⟨G,he⟩,ε⟩:=st;have W:=Jx (prog:=X.prog) (w:=X.w) (A:=X.A) (D X.A.in1 (I.ok.hd ζ)) e J (by simp[J]) @E;refine W.item i s _ _ γ ⟨⟨G,he⟩,ε⟩ λT δ h' tk ι hT Z Y hk=>⟨_,rfl,W.go L k pos i T _ _ _ Y fun ξ α β=>?_⟩;obtain⟨ο,υ,⟨c,u,η,rfl⟩,rfl⟩:=ι;have θ:=W.apart i T h' Y;have π:∀b u,b∉[e,it]->s.heap.get? b=aT u->ξ.get? b=aT u:=λb u hb q=>β b u hb (hk b u hb q);have fr:H T=none:=I.hok.fresh hT;refine⟨.ref T,upd H T (.tup [.int i,.str ⟨#[c]⟩]),I.laidCh (t':=tk) π hT ⟨ve,[.int i ο,.str ⟨#[c]⟩ u],.cons ⟨ο,rfl⟩ (.cons ⟨u,rfl⟩ .nil),?_⟩ hf,rfl,⟨T,c,fr,rfl,rfl,η⟩,⟨α.1,α.2⟩,λb hb=>?_⟩
  ·obtain⟨o,ho,r⟩:=Z;exact⟨o,β T o θ ho,r⟩
  ·have ρ:=(hf b hb);rw[aC (λz=>?_)]
   ·exact ρ.1
   ·have lt:b < s.heap.objs.size:=by
     rcases Hn.mp hb with z | z
     ·subst z;exact gA he
     ·rw[fy.mp z];obtain⟨o,ho,_⟩:=ε;exact gA ho
    rw[z] at lt;exact hE (eu lt hT) (IV _)
 done:=by
  intro X τ hw ν ζ i pins s σ H E I hf st γ;subst τ hw ν;obtain⟨⟨G,he⟩,ε⟩:=st;have W:=Jx (prog:=X.prog) (w:=X.w) (A:=X.A) (D X.A.in1 (I.ok.hd ζ)) e J (by simp[J]) @E;have γ:i=x.cps.size:=γ;subst γ;exact W.done s _ _ ⟨⟨G,he⟩,ε⟩ λh' tk hk=>⟨rfl,I.turnedCh hk hf⟩
 self:=λ_ _ _ _ _ st h=>let ⟨_,he⟩:=st.1;Jh he h
noncomputable def FK (K:a') (tl:TE):TI:=fun σ H R=>tl σ H λx H1=>(∃a,x= .ref a/\(∃xs,SqL K H1 a xs)/\R (Ite K a) H1)∨∃z,x= .str z/\R (Itz z) H1
section
variable {X:Cx} {K:a'}
theorem lM {l:Hi} {tl:TE} {L:ef Hi} {k:Nat} {tpos p pos:Pos} (h:X.K=K) (δ:Gl X "enumerate") (hm:X.mg "enumerate"=eH) (β:PE X l tl) (hs:oD [l] X.env=[(false,eval l X.env)]:=by rfl):
  PI X (.Tuple L k tpos) (.Call (.Name "enumerate" p) [l] [] pos) (FK K tl):=by
 subst h;intro pins s σ H R I h;refine N9 (iS I δ hm boot_enumerate (Hh (thn (aa β af hs pos pins s σ H (λvs H1=>match vs with | [x]=>(∃a,x= .ref a/\(∃xs,SqL X.K H1 a xs)/\R (Ite X.K a) H1)∨∃z,x= .str z/\R (Itz z) H1 | _=>False) I h) λus G ⟨vs,H1,I1,J,Y⟩=>?_) hs rfl))
 match vs,J,Y with
 | [x],J,Y=>
 obtain⟨u,rfl,Z⟩:=J.one;rcases Y with ⟨a,rfl,⟨xs,α⟩,q⟩ | ⟨z,rfl,q⟩
 ·cases Z;obtain⟨its,ζ,pl,hz⟩:=I1.list α;refine O3 pl.isList λh' he ε hsz hk=>Jh he ?_;refine⟨G.heap.objs.size + 1,[G.heap.objs.size + 1,G.heap.objs.size],_,_,H1,rfl,I1.kept (t':=G.toks) hk,qd a _ _ (Ig (Il _)),⟨⟨_,he⟩,ε⟩,λb hb=>?_,q⟩;have γ:G.heap.objs.size<=b:=(Hn.mp hb).elim (λz=>by rw[z];exact JE _) (λz=>by rw[fy.mp z];exact ov _);exact I1.fpOk γ (I1.hok.fresh γ)
 ·obtain⟨t,rfl⟩:=Z;refine call_enumerate_str λh' he ε hsz hk=>Jh he ?_
  have fin:∀n,(h'.IsStrIter G.heap.objs.size n z t 0)->(∀A:Hg,A.handled=eH->Draws X.prog X.w A G.heap.objs.size [G.heap.objs.size] z.cps.size (λi v=>∃c u,z.cps[i]? =aT c/\v= .str ⟨#[c]⟩ u) (λi h=>h.IsStrIter G.heap.objs.size n z t i))->
    PIE X pins σ (.Tuple L k tpos) R (.ref (G.heap.objs.size + 1)) {G with heap:=h'}:=λn hn D=>by
   refine⟨G.heap.objs.size + 1,[G.heap.objs.size + 1,G.heap.objs.size],_,_,H1,rfl,I1.kept (t':=G.toks) hk,vV _ _ (Ig (Il _)) D,⟨⟨_,he⟩,hn⟩,λb hb=>?_,q⟩;have γ:G.heap.objs.size<=b:=(Hn.mp hb).elim (λz=>by rw[z];exact JE _) (λz=>by rw[fy.mp z];exact ov _);exact I1.fpOk γ (I1.hok.fresh γ)
  unfold strIterType at ε;split at ε
  ·exact fin _ ε λA hA=>Draws.strAscii hA _ z t
  ·exact fin _ ε λA hA=>Draws.strWide hA _ z t
end
theorem vG {K:a'} {a:ee} {xs:ef V} {g:TG} {tb:TS} {D:Ends} {σ:St} {H:Hp} (G:Nat->St->Hp->Prop) (h0:G 0 σ H) (L:∀i σ H,i<=xs.length->G i σ H->SqL K H a xs)
  (hs:∀i x σ H p H',xs[i]? =aT x->G i σ H->H p=eH->Same H H'->H' p=aT (.tup [.int i,x])->g (.ref p) σ H' λI H2=>tb {D with nx:=G (i + 1),ct:=G (i + 1),bk:=D.nx} I H2) (hd:∀σ H,G xs.length σ H->D.nx σ H):
  ∃W:Nat->Nat->St->Hp->Prop,(∃m,W 0 m σ H)/\∀i m σ H,W i m σ H->
    ((Ite K a).stop i H/\D.nx σ H)∨((Ite K a).go i H/\∃N:St->Hp->Prop,(∀σ' H',N σ' H'->∃χ,χ < m/\W (i + 1) χ σ' H')/\∀x H',(Ite K a).yld i H x H'->g x σ H' λI H2=>tb {D with nx:=N,ct:=N,bk:=D.nx} I H2):=by
 refine⟨λi m σ H=>m=xs.length - i/\i<=xs.length/\G i σ H,⟨xs.length,@E,J1 _,h0⟩,?_⟩;rintro i m σ H ⟨rfl,hi,p⟩;have q:=L i σ H hi p;by_cases J:i < xs.length
 ·refine .inr ⟨⟨xs,xs[i],q,by simp[J]⟩,G (i + 1),fun σ' H' β=>⟨xs.length - (i + 1),by omega,rfl,J,β⟩,λx H' y=>?_⟩;obtain⟨r,v,f,e1,Y,y⟩:=y;subst e1 Y;exact hs i v σ H r _ (y xs q) p f (fh f) aJ
 ·have e:i=xs.length:=by omega
  subst e;exact .inl ⟨⟨xs,q,rfl⟩,hd σ H p⟩
section
variable {σ:St} {H:Hp} {te:TE} {R:It->Hp->Prop}
theorem xV {K:a'} (h:te σ H λx H1=>(∃a,x= .ref a/\(∃xs,SqL K H1 a xs)/\R (Ite K a) H1)∨∃z,x= .str z/\R (Itz z) H1):FK K te σ H R:=h
end
section
variable {σ:St} {H:Hp} {Q:VK} {D:Ends} {te ty tv td:TE} {x y v:V}
theorem jF {l:ee} {xs:ef V} (e:H l=aT (.lst xs)) (hz:xs.length < i') (h:∀H2,Upd H H2 l (.lst (xs++[y]))->Q .non H2):yf (.ref l) [y] H Q:=⟨l,xs,y,rfl,rfl,e,hz,h _ Upd.of⟩
def BQ (v:V) (x:V) (D:Ends) (σ:St) (y:V) (H:Hp):Prop:=∃a γ,x= .ref a/\DPut H a y v γ/\D.nx σ γ
theorem EU (h:tv σ H λv H1=>td σ H1 λx H2=>ty σ H2 (BQ v x D σ)):E3 td ty tv D σ H:=h
theorem CB {p:ee} {kvs:ef (Key×V)} {z:Int} (e:H p=aT (.dK kvs)) (G:kvs.length < i') (h:∀H2,Upd H H2 p (.dK (putK kvs (Io z) v))->D.nx σ H2):BQ v (.ref p) D σ (.int z) H:=⟨p,_,rfl,DPut.k (k:=Io z) e G,h _ Upd.of⟩
def BR (x:V) (Q:VK) (y:V) (H:Hp):Prop:=∃a v,x= .ref a/\DGet H a y (aT v)/\Q v H
theorem EY (h:td σ H λx H1=>ty σ H1 (BR x Q)):Eo td ty σ H Q:=h
theorem xX {p:ee} {kvs:ef (Key×V)} {z:Int} (e:H p=aT (.dK kvs)) (l:valV kvs (Io z)=aT v) (h:Q v H):BR (.ref p) Q (.int z) H:=⟨p,v,rfl,by rw[<-l];exact DGet.k (k:=Io z) e,h⟩
def BO (C:ee) (m:Hk) (sp:Sp) (E:XK) (tr:TA) (σ:St) (Q:VK) (x:V) (H:Hp):Prop:=∃a dx fs,x= .ref a/\H a=aT (.ins C dx fs)/\fs.lookup m=eH/\tr σ H λvs H2=>sp (x::(vs++[])) H2 Q E
theorem EK {C:ee} {m:Hk} {sp:Sp} {E:XK} {tr:TA} (h:te σ H (BO C m sp E tr σ Q)):B7 C m sp [] E te tr σ H Q:=h
theorem bh {C dx p:ee} {m:Hk} {fs:ef (Hk×V)} {sp:Sp} {E:XK} {tr:TA} (e:H p=aT (.ins C dx fs)) (l:fs.lookup m=eH) (h:tr σ H λvs H2=>sp (.ref p::vs) H2 Q E):BO C m sp E tr σ Q (.ref p) H:=⟨p,dx,fs,rfl,e,l,by simp only[K8];exact h⟩
theorem Cw {K:a'} {p:ee} {xs:ef V} (e:SqL K H p xs) (h:∀q H2,H q=eH->Same H H2->H2 q=aT (.lst xs)->Q (.ref q) H2):yd K [.ref p] H Q:=⟨p,xs,rfl,.inl e,i8 h⟩
theorem ED {K:a'} {p:ee} {xs:ef V} (e:SqL K H p xs) (h:∀q H2,H q=eH->Same H H2->H2 q=aT (.tup xs)->Q (.ref q) H2):Bv K [.ref p] H Q:=⟨p,xs,rfl,.inl ⟨e,i8 h⟩⟩
end
def Mv (ch fr:HJ) (h h':zx):Prop:=(∀b o,b∉ch->b∉fr->h.get? b=aT o->h'.get? b=aT o)/\∀b o,b∉ch->b∈fr->h.get? b=aT o->∃G,h'.get? b=aT {o with slots:=G}
def zK (h:zx) (e:ee) (C:hG) (dx:HL) (T:ry (ee×hG)):Prop:=
 ∃ι vs,h.get? e=aT ι/\ι.cls=C/\ι.dict=dx/\ι.data= .fields vs/\1 < vs.size/\
   match T with
   | none=>vs[1]? =aT .none
   | some (t,I)=>vs[1]? =aT (.ref t)/\t≠e/\∃ρ G,h.get? t=aT ρ/\ρ.data= .fields G/\G[3]? =aT I
section
variable {M:Model} {A:Hg} {E:D'} {s:f'}
theorem sS {h:zx} {a:ee} {o:Mm} {vs:HG} {i:Nat} {v:hG} (ho:h.get? a=aT o) (hd:o.data= .fields vs):
  ∃o',(h.update a (JN (·.setIfInBounds i v))).get? a=aT o'/\o'.cls=o.cls/\o'.dict=o.dict/\o'.data= .fields (vs.setIfInBounds i v):=by
 have G:=Lr hd (·.setIfInBounds i v);refine⟨_,J2 (JN (·.setIfInBounds i v)) ho (MY G),NJ _ _,?_,G⟩;obtain⟨c,d,J,I⟩:=o;have hd:J= .fields vs:=hd;subst hd;rfl
theorem AV {base:zx} {env:Env} {outer:ef Env} {L e:ee} {ι:Mm} {vs:HG} {G:hG} {b:IA} {Q:HI}
  (Z:A.frames=aT (env::outer)) (γ:s.heap.FunFrames base (env::outer)) (hf:env.frame=aT L) (he:s.heap.get? e=aT ι) (hd:ι.data= .fields vs) (hsz:1 < vs.size)
  (h:∀h',Mv [e] (frs (env::outer)) s.heap h'->zK h' e ι.cls ι.dict (aT (s.heap.objs.size,rawInt L))->Q () {s with heap:=h'}):
  hQ M A (do let a <-frameOf env;let pl <-entryPlaceOf L b;let t <-KS G a .none (rawInt L) .none pl;setField (.ref e) 1 t) Q E s:=by
 have ne:e∉frs (env::outer):=λhm=>by
  obtain⟨_,o,ho,Y⟩:=γ.mem hm;rw[he] at ho;cases ho;exact Y vs hd
 refine dt (wpAny_frameOf_fun Z γ hf λg1 χ=>?_);refine dt (wpAny_entryPlaceOf λpl τ=>?_);unfold KS newFields;refine dt (K4 ?_ (τ.sizeOk5 _ _ _ _ _));have e1:g1.get? e=aT ι:=(χ.2.1 e ne).trans he;have sz:g1.objs.size=s.heap.objs.size:=χ.1;generalize υ:({cls:= .type "traceback",dict:=eH,data:= .fields ([G,.ref L,.none,rawInt L,.none]++(if pl.isEmpty then lA 6 Ic else pl)).toArray}:Mm)=I;have δ:(g1.push I).get? e=aT ι:=ek I e1;refine KI δ hd hsz ?_;have lt:e < g1.objs.size:=gA e1;obtain⟨o',θ,ν,η,ζ⟩:=sS (i:=1) (v:= .ref g1.objs.size) δ hd;have oth:∀c,c≠e->((g1.push I).update e (JN (·.setIfInBounds 1 (sb g1.objs.size)))).get? c=(g1.push I).get? c:=λc α=>I9 _ _ (xn α);have J:∀c o,c≠e->g1.get? c=aT o->((g1.push I).update e (JN (·.setIfInBounds 1 (sb g1.objs.size)))).get? c=aT o:=λc o α q=>(oth c α).trans (ek I q);refine h _ ⟨λc o n m q=>J c o (λz=>n (by rw[z];exact fy.mpr rfl)) ((χ.2.1 c m).trans q),λc o n m q=>?_⟩ ⟨o',_,θ,ν,η,ζ,by simpa using hsz,?_⟩
 ·obtain⟨ε,ξ⟩:=χ.2.2 c o q;exact⟨ε,J c _ (λz=>n (by rw[z];exact fy.mpr rfl)) ξ⟩
 ·have β:g1.objs.size≠e:=Ig lt;refine⟨by rw[<-sz];simp[hsz],by rw[<-sz];exact β,I,_,?_,by rw[<-υ],?_⟩
  ·rw[<-sz,oth _ β];exact la g1 (by rw[<-υ];rfl)
  ·first | (simp;done) | (rcases τ with rfl | ⟨_,_,_,_,_,_,_,rfl⟩<;>simp)
theorem y6 {e t:ee} {C:hG} {dx:HL} {α:hG} {fr:HL} {Q:HI} (x:zK s.heap e C dx (aT (t,α)))
  (h:∀h',(∀b o,b≠t->s.heap.get? b=aT o->h'.get? b=aT o)->zK h' e C dx (aT (t,fr.elim .none λf=>rawInt f))->Q () {s with heap:=h'}):hQ M A (setFlight (.ref e) fr) Q E s:=by
 obtain⟨ι,vs,he,J,I,hd,hsz,h1,G,ρ,β,hT,δ,L⟩:=x;unfold setFlight;refine dt (IB he hd h1 ?_);rw[pe (show(sb t != Ic)=true from by simp)];refine KI hT δ (JG.mp L).1 ?_;obtain⟨o',Z,ν,γ,Y⟩:=sS (i:=3) (v:=fr.elim .none λf=>rawInt f) hT δ;have oth:∀c,c≠t->(s.heap.update t (JN (·.setIfInBounds 3 (fr.elim Ic λf=>rawInt f)))).get? c=s.heap.get? c:=λc J=>I9 _ _ (xn J);refine h _ (λb o hb q=>(oth b hb).trans q) ⟨ι,vs,(oth e (xn G)).trans he,J,I,hd,hsz,h1,G,o',_,Z,Y,?_⟩;have:=(JG.mp L).1;simp[this]
end
section
variable {X:Cx} {pins:E'} {σ:St} {H:Hp} {s:f'}
theorem Inv.mv {h':zx} {ch:HJ} (I:Inv X pins σ H s) (m:Mv ch (frs X.stack) s.heap h') (α:∀b∈ch,FpOk X pins H b):Inv X pins σ H {s with heap:=h'}:=by
 have Y:∀b u,H b=aT u->b∉ch:=λb u e z=>by rw[(α b z).1] at e;cases e
 have ε:∀b u,H b=aT u->b∉frs X.stack:=λb u e z=>by rw[I.stkFree b z] at e;cases e
 have any:∀b o,b∉ch->s.heap.get? b=aT o->∃Z,h'.get? b=aT {o with slots:=Z}:=λb o n e=>by
  by_cases z:b∈frs X.stack
  ·exact m.2 b o n z e
  ·exact⟨o.slots,m.1 b o n z e⟩
 refine I.step (g':=s.gens) (d':=s.drawn) (t':=s.toks) (ch:=ch) (λb hb=>?_) (λb J β hb L e _=>m.1 b J L (λz=>(Hn.mp (I.stkSub b z)).elim β hb) e) (λb J _ _ L e _=>any b J L e) (λb J _ e n=>n) (λb J L e=>let ⟨Z,q⟩:=any b J L e;⟨_,q⟩)
  (λb xs e=>e) (λb J u e=>e) (λb ps e=>⟨#[],by rw[e];simp⟩) (fun χ hm=>?_) (λb u e=>?_) I.bare
 ·obtain⟨ζ,δ,η,ψ,G,γ⟩:=α b hb;exact⟨ψ,δ,G,γ⟩
 ·obtain⟨J,es,ep,ho,r⟩:=hm;obtain⟨Z,q⟩:=any _ J (λz=>(α _ z).2.1 rfl) ho;exact⟨_,es,ep,q,r⟩
 ·refine(I.hok b u e).stay (λc v L q=>m.1 c v ?_ ?_ q) (λc q=>q) λc xs q=>q
  ·rcases L with z | z
   ·rw[z];exact Y b u e
   ·exact Y c _ z
  ·rcases L with z | z
   ·rw[z];exact ε b u e
   ·exact ε c _ z
theorem eR.there {P:px} {w:wq} {h:zx} {a:ee} {o:HO} (x:eR P w H h a o):∃o',h.get? a=aT o':=by
 cases o with
 | lst xs=>obtain⟨_,_,_,_,e⟩:=x;exact⟨_,e⟩
 | tup xs=>obtain⟨_,_,_,_,e,_⟩:=x;exact⟨_,e⟩
 | dK kvs=>obtain⟨_,_,_,_,o,_,_,e,_⟩:=x;exact⟨_,e⟩
 | dT kvs=>obtain⟨_,_,_,_,o,_,_,e,_⟩:=x;exact⟨_,e⟩
 | set S n=>obtain⟨o,_,_,_,e,_⟩:=x;exact⟨_,e⟩
 | ins C dx fs=>obtain⟨_,_,_,e,_⟩:=x;exact⟨_,e⟩
 | own y=>obtain⟨_,e⟩:=x;exact⟨_,e⟩
 | xd fs=>obtain⟨_,⟨_,_,_,e,_⟩,_⟩:=x;exact⟨_,e⟩
 | rng lo hi=>obtain⟨_,_,_,e⟩:=x;exact⟨_,e⟩
 | frz G u=>obtain⟨e,_⟩:=x;exact⟨_,e⟩
 | tbl ps=>exact⟨_,(show h.get? a=aT _ from x)⟩
 | met f y=>exact⟨_,(show h.get? a=aT _ from x)⟩
 | ext φ=>obtain⟨_,⟨_,e⟩,_⟩:=x;exact⟨_,e⟩
theorem HOk.none_ {P:px} {w:wq} {h:zx} {a:ee} (x:HOk P w H h) (e:h.get? a=eH):H a=none:=by
 cases q:H a with
 | none=>rfl
 | some u=>obtain⟨o,z⟩:=(x a u q).there;rw[e] at z;cases z
def FpN (X:Cx) (pins:E') (H:Hp) (b:ee):Prop:=
 H b=eH/\b≠X.env.locals/\b∉X.fs/\(b∈X.ex∨X.s₀.heap.get? b=eH)/\(∀x c,X.env.cells.lookup x=aT c->c≠b)/\∀p∈X.pn++pins,p.1≠b
theorem FpOk.n {b:ee} (f:FpOk X pins H b):FpN X pins H b:=⟨f.1,f.2.1,f.2.2.1,f.2.2.2.1.imp id IS,f.2.2.2.2⟩
theorem Inv.fpN {H':Hp} {b:ee} (I:Inv X pins σ H s) (hb:s.heap.get? b=eH) (hn:H' b=eH):FpN X pins H' b:=by
 refine⟨hn,λz=>?_,λz=>?_,?_,λx c e z=>?_,λp G z=>?_⟩
 ·obtain⟨m,⟨o,es,ep,ho,r⟩,_⟩:=I.loc;rw[<-z,hb] at ho;cases ho
 ·obtain⟨_,o,ho,_⟩:=I.ok.funs.mem z;obtain⟨o',τ⟩:=I.base.there b o ho λy=>I.ok.exfs b y z;rw[hb] at τ;cases τ
 ·by_cases z:b∈X.ex
  ·exact .inl z
  ·cases q:X.s₀.heap.get? b with
   | none=>exact .inr rfl
   | some o=>obtain⟨o',τ⟩:=I.base.there b o q z;rw[hb] at τ;cases τ
 ·obtain⟨v,o,q,_⟩:=I.cell x c e;rw[z,hb] at q;cases q
 ·have:=(I.pin p G).1;rw[z,hb] at this;cases this
theorem Inv.mvN {h':zx} {ch:HJ} (I:Inv X pins σ H s) (m:Mv ch (frs X.stack) s.heap h') (G:∀b∈ch,FpN X pins H b):Inv X pins σ H {s with heap:=h'}:=by
 have out:∀b o,X.s₀.heap.get? b=aT o->b∉X.ex->b∉ch++X.ex:=λb o e n z=>by
  rcases lx.mp z with z | z
  ·rcases(G b z).2.2.2.1 with y | y
   ·exact n y
   ·rw[e] at y;cases y
  ·exact n z
 have sub:∀b,b∉ch++X.ex->b∉X.ex:=λb n z=>n (hH _ z)
 have ok:Cx.Ok {X with ex:=ch++X.ex}:=⟨I.ok.mod,I.ok.kind,I.ok.glob,I.ok.blt,I.ok.above,I.ok.inj,I.ok.has,I.ok.cab,I.ok.hd,I.ok.frames,I.ok.stk,
  λb hb=>(lx.mp hb).elim (λz=>⟨(G b z).2.1,(G b z).2.2.2.2.1⟩) (I.ok.exf b),I.ok.bs,I.ok.bsz,λb o e=>out b o (I.ok.bs b o e).1 (I.ok.noex b o e),
  λb hb=>(lx.mp hb).elim (λz=>(G b z).2.2.1) (I.ok.exfs b),I.ok.funs,I.ok.frf⟩
 have U:=I.base
 have J:Inv {X with ex:=ch++X.ex} pins σ H s:=⟨ok,I.os,I.bare,⟨λb o e n f z=>U.keep b o e n f (sub b z),λb o e n f z=>U.slot b o e n f (sub b z),λb o e n z=>U.free b o e n (sub b z),λb o e z=>U.there b o e (sub b z),U.tups,U.frzs,U.tbls⟩,
  I.loc,I.cell,I.free,I.freeC,I.pin,I.hok,I.len⟩
 have J':=J.mv (h':=h') (ch:=ch) m λb hb=>⟨(G b hb).1,(G b hb).2.1,(G b hb).2.2.1,.inl (n' _ hb),(G b hb).2.2.2.2⟩;have V:=J'.base
 exact⟨I.ok,J'.os,J'.bare,⟨λb o e n f z=>V.keep b o e n f (out b o e z),λb o e n f z=>V.slot b o e n f (out b o e z),λb o e n z=>V.free b o e n (out b o e z),λb o e z=>V.there b o e (out b o e z),V.tups,V.frzs,V.tbls⟩,
  J'.loc,J'.cell,J'.free,J'.freeC,J'.pin,J'.hok,J'.len⟩
structure Fly (X:Cx) (pins:E') (H:Hp) (e:ee) (C:hG) (dx:HL) (T:ry (ee×hG)) (h:zx):Prop where
 at_:zK h e C dx T
 fe:FpN X pins H e
 ft:∀t fl,T=aT (t,fl)->FpN X pins H t
def Own (X:Cx):Prop:=X.stack=X.env::X.outer/\X.env.frame=aT X.env.locals
theorem yu {M:Model} {E:D'} {e:ee} {C:hG} {dx:HL} {T:ry (ee×hG)} {Q:HI} (I:Inv X pins σ H s) (ow:Own X) (f:Fly X pins H e C dx T s.heap)
  (h:∀h' t,Inv X pins σ H {s with heap:=h'}->Fly X pins H e C dx (aT (t,rawInt X.env.locals)) h'->Q () {s with heap:=h'}):hQ M X.A (noteFrame (.ref e) X.env) Q E s:=by
 obtain⟨ho,hf⟩:=ow;have θ:X.A.frames=aT (X.env::X.outer):=by rw[I.ok.frames,ho]
 have a0:s.heap.FunFrames X.base (X.env::X.outer):=by rw[<-ho];exact I.stack
 obtain⟨⟨ι,vs,he,ε,Z,hd,hsz,hT⟩,fe,ft⟩:=f
 have fin:∀(J:f') (G:Mm) (Y:HG) (γ:hG) (b1:IA),Inv X pins σ H J->J.heap.objs.size=s.heap.objs.size->J={s with heap:=J.heap}->J.heap.get? e=aT G->G.cls=C->G.dict=dx->G.data= .fields Y->1 < Y.size->
   hQ M X.A (do let a <-frameOf X.env;let pl <-entryPlaceOf X.env.locals b1;let t <-KS γ a .none (rawInt X.env.locals) .none pl;setField (.ref e) 1 t) Q E J:=by
  intro J G Y γ b1 I1 hz η ψ ν χ υ L;have φ:J.heap.FunFrames X.base (X.env::X.outer):=by rw[<-ho];exact I1.stack
  refine AV θ φ hf ψ υ L λh' m x=>?_;have π:Inv X pins σ H {J with heap:=h'}:=I1.mvN (ch:=[e]) (by rw[ho];exact m) λb hb=>by rw[fy.mp hb];exact fe
  have e2:({J with heap:=h'}:f')={s with heap:=h'}:=by rw[η]
  rw[e2] at π ⊢;rw[ν,χ] at x;exact h h' _ π ⟨x,fe,λt ο z=>by cases z;exact(I1.fpOk (ov _) (I1.hok.fresh (ov _))).n⟩
 unfold noteFrame;simp only[hf];cases T with
 | none=>
   have h1:vs[1]? =aT .none:=hT;refine dt (IB he hd h1 ?_);rw[nk @C];exact fin s ι vs _ _ I rfl rfl he ε Z hd hsz
 | some p=>
   obtain⟨t,ο⟩:=p;obtain⟨h1,β,ρ,τ,α,δ,ξ⟩:=hT;refine dt (IB he hd h1 ?_);rw[pe (show(sb t != Ic)=true from by simp)];refine dt (IB α δ ξ ?_);by_cases hz:(ο == rawInt X.env.locals)=true
   ·rw[pe hz];have ζ:=eq_of_beq hz;subst ζ;exact hP (h s.heap t I ⟨⟨ι,vs,he,ε,Z,hd,hsz,h1,β,ρ,τ,α,δ,ξ⟩,fe,ft⟩)
   ·rw[nk hz];refine dt (KI α δ (JG.mp ξ).1 ?_);have oth:∀c,c≠t->(s.heap.update t (JN (·.setIfInBounds 3 Ic))).get? c=s.heap.get? c:=λc ε=>I9 _ _ (xn ε)
    have ω:Mv [t] (frs X.stack) s.heap (s.heap.update t (JN (·.setIfInBounds 3 Ic))):=
     ⟨λb o n _ q=>(oth b (λz=>n (by rw[z];exact fy.mpr rfl))).trans q,λb o n _ q=>⟨o.slots,(oth b (λz=>n (by rw[z];exact fy.mpr rfl))).trans q⟩⟩
    have I1:=I.mvN ω λb hb=>by rw[fy.mp hb];exact ft t ο rfl
    exact fin _ ι vs _ _ I1 (Heap.size_after_update ..) rfl ((oth e (xn β)).trans he) ε Z hd hsz
theorem BE {M:Model} {A:Hg} {E:D'} {e t:ee} {C:hG} {dx:HL} {G:hG} {fr:HL} {Q:HI} (I:Inv X pins σ H s) (f:Fly X pins H e C dx (aT (t,G)) s.heap)
  (h:∀h',Inv X pins σ H {s with heap:=h'}->Fly X pins H e C dx (aT (t,fr.elim .none λf=>rawInt f)) h'->Q () {s with heap:=h'}):hQ M A (setFlight (.ref e) fr) Q E s:=by
 refine y6 f.at_ λh' k x=>h h' (I.mvN (ch:=[t]) ⟨λb o n _ q=>k b o (λz=>n (by rw[z];exact fy.mpr rfl)) q,λb o n _ q=>⟨o.slots,k b o (λz=>n (by rw[z];exact fy.mpr rfl)) q⟩⟩ λb hb=>by rw[fy.mp hb];exact f.ft t G rfl) ⟨x,f.fe,λt' L z=>by cases z;exact f.ft t G rfl⟩
end
noncomputable abbrev XW:=St->XK
def XE (X:Cx) (W:XW) (e:hG) (s:f'):Prop:=∃pins x C dx T σ H,e= .ref x/\Inv X pins σ H s/\Fly X pins H x C dx T s.heap/\W σ C dx H
def Thr (X:Cx) (W:XW):Prop:=∀e s,XE X W e s->X.xe e s
noncomputable abbrev Cx.thr (X:Cx) (W:XW):Cx:=X.wish (XE X W)
noncomputable abbrev W0:XW:=λ_ _ _ _=>False
section
variable {X:Cx} {W:XW} {pins:E'} {σ:St} {H:Hp} {s:f'}
theorem Fly.wish {E:D'} {e:ee} {C:hG} {dx:HL} {T:ry (ee×hG)} {h:zx} (f:Fly (X.wish E) pins H e C dx T h):Fly X pins H e C dx T h:=⟨f.at_,f.fe,f.ft⟩
theorem fQ:Thr (X.thr W) W:=λe s ⟨pins,x,C,dx,T,σ,H,he,I,f,w⟩=>⟨pins,x,C,dx,T,σ,H,he,I.unwish,f.wish,w⟩
theorem thr0:Thr X W0:=λe s ⟨pins,x,C,dx,T,σ,H,he,I,f,w⟩=>w.elim
theorem wx (ow:Own X):PassesOwn (lT X.prog X.w) X.A X.env (XE X W):=by
 intro e s' ⟨pins,x,C,dx,T,σ,H,he,I,f,w⟩;subst he;unfold notedBy;refine yu I ow f λh' t β G=>?_;unfold cameBackBy;obtain⟨⟨ι,vs,Z,ν,δ,Y,L,J,γ⟩,fe,ft⟩:=id G;refine dt (IB Z Y J ?_);rw[nk @E];refine BE β G λh2 α η=>?_;rw[ow.2] at η;exact⟨pins,x,C,dx,_,σ,H,rfl,α,η,w⟩
theorem nQ (ow:Own X):PassesOwn (lT X.prog X.w) X.A X.env (X.thr W).xe:=wx ow
theorem PSs.thr {st:ef JQ} {t:TS} (h:PSs (X.thr W) st t) (k:Thr X W):PSs X st t:=λpins s σ H D I hw=>
 IY (h pins s σ H D (I.wish _) hw) (λ_ _ q=>q.unwish) k
end
noncomputable def CX1 (P:px) (w:wq):CXT:=λouter H s E e s'=>∃x C dx t H',e= .ref x/\s'.os=s.os/\AllBare s'.gens/\Un (frs outer) [] H H' s.heap s'.heap/\HOk P w H' s'.heap/\
 zK s'.heap x C dx (aT (t,.none))/\s.heap.get? x=eH/\s.heap.get? t=eH/\H' x=eH/\H' t=eH/\E C dx H'
section
variable {P:px} {w:wq} {K:a'} {mg:G'} {base:zx}
theorem vB {N:C'} {qual:Hk} {scope:Hy} {f:ee} {cd:hG} {A:Hg} {outer:ef Env} {s:f'} {H:Hp} {E:XK}:
  Thr (cxOf (CX1 P w) P w K mg base N qual scope f cd A outer s H E) λ_=>E:=by
 intro e s' ⟨pins,x,C,dx,T,σ,H',he,I,L,G⟩;subst he;have own:Own (cxOf (CX1 P w) P w K mg base N qual scope f cd A outer s H E):=⟨rfl,rfl⟩;show hQ _ _ (leaving _ _) _ _ _;unfold leaving;refine dt (yu I own L λh1 t Y J=>?_);refine BE (fr:=eH) Y J λh2 I2 η=>?_;have fx:=η.fe;have ft:=η.ft t _ rfl;have no:∀b:ee,(b∈([]:HJ)∨s.heap.get? b=eH)->s.heap.get? b=none:=λb z=>z.elim (λq=>hE q @E) id;exact⟨x,C,dx,t,H',rfl,I2.os,I2.bare,I2.base,I2.hok,η.at_,no x fx.2.2.2.1,no t ft.2.2.2.1,fx.1,ft.1,G⟩
theorem Fun.okX {x qual:Hk} {st:JQ} {f:ee} {fd:kv} {N ps:C'} {k:Nat} {sp:Sp} (F:Fun K x qual st f fd) (S:aB N ps (ah st)) (len:∀vs H Q E,sp vs H Q E->vs.length=ps.length)
  (J:∀(G:hG) (A:Hg) (outer:ef Env) (s:f') (H:Hp) (vs:ef V) (Q:VK) (E:XK),Room k (A.deeper (envOfC qual (ah st) s.heap.objs.size f G))->sp vs H Q E->
   ∃t,PSs ((cxOf (CX1 P w) P w K mg base N qual (ah st) f G A outer s H E).thr λ_=>E) (cM st) t/\t {nx:=λ_ H'=>Q .non H',rt:=Q} (kF N vs) H):FnOk P w K mg base (CX1 P w) (k + 1) f fd ps sp:=by
 obtain⟨φ,od,kV,α,I,an,G,ct,ν,rfl,lk,L⟩:=F.ex;refine AS lk L S len λA outer s H vs Q E Y ω=>?_;obtain⟨t,h,q⟩:=J G A outer s H vs Q E Y ω;exact⟨t,h.thr vB,q⟩
end
section
variable {X:Cx} {W:XW} {pins:E'} {σ:St} {H:Hp} {s s':f'}
theorem Inv.afterX {e:hG} (I:Inv X pins σ H s) (hx:Thr X W) (h:CX1 X.prog X.w X.stack H s (W σ) e s'):X.xe e s':=by
 obtain⟨x,C,dx,t,H',rfl,os,bare,un,hok,ea,G,J,nx,L,w⟩:=h;refine hx _ _ ⟨pins,x,C,dx,_,σ,H',rfl,I.call' (ch:=[]) os un hok bare (λb z=>hE z @E),⟨ea,I.fpN G nx,λt' Y z=>?_⟩,w⟩;cases z;exact I.fpN J L
variable {k:Nat} {f C:ee} {fd:kv} {ps:C'} {sp:Sp} {dvs:ef V} {ds:F'} {x m:Hk} {p pos apos:Pos} {e o:Hi} {es:ef Hi} {ta:TE} {t:TA}
theorem CF {Q:VK} {us:F'} {vs:ef V} (F:FnOk X.prog X.w X.K X.mg X.base (CX1 X.prog X.w) k f fd ps sp) (L:Room k X.A) (hb:kC X.K fd ps ds) (hd:Vals dvs ds) (hx:Thr X W)
  (I:Inv X pins σ H s) (r:Vals vs us) (h:sp (vs++dvs) H Q (W σ)):hQ (lT X.prog X.w) X.A (call (.ref f) us) (EP X pins σ Q) X.xe s:=by
 have J:Vals (vs++dvs) (us++ds):=r.append hd;have Y:(us++ds).length=ps.length:=by rw[<-J.length];exact F.len _ _ _ _ h
 refine MN (La (F.run X.A X.stack s H ⟨us,[]⟩ (us++ds) (vs++dvs) Q (W σ) L I.env0 (hb s us I.kIn Y) J h) λr s' G=>?_);cases r with
 | error e=>exact I.afterX hx G
 | ok Z=>
   cases Z with
   | ret u=>exact I.after G
   | next=>exact Hr G
   | brk=>exact Hr G
   | cont=>exact Hr G
noncomputable def Bj (C:ee) (m:Hk) (sp:Sp) (dvs:ef V) (W:XW) (ta:TE) (t:TA):TE:=fun σ H Q=>ta σ H λx H1=>∃a dx fs,x= .ref a/\H1 a=aT (.ins C dx fs)/\fs.lookup m=eH/\
 t σ H1 λvs H2=>sp (x::(vs++dvs)) H2 Q (W σ)
theorem cy {pl:Sem IA} (he:PE X o ta) (c:Cls X.K C) (hm:Meth X.K C m f) (F:FnOk X.prog X.w X.K X.mg X.base (CX1 X.prog X.w) k f fd ps sp) (Z:Room k X.A) (hb:kC X.K fd ps ds) (hd:Vals dvs ds) (hx:Thr X W) (ha:PA X (e::es) t)
  (G:oD (e::es) X.env=(false,eval e X.env)::oD es X.env:=by rfl) (ψ:(backTo pos (oD es X.env)).any (·.1)=false:=by rfl)
  (ht:eval (.Call (.Attribute o m apos) (e::es) [] pos) X.env=(do
   let ο <-eval o X.env
   standAt apos.atName
   let (f,first) <-holding [ο] (getMethod ο m pl)
   callWith pos f first (backTo pos (oD (e::es) X.env)) (backToKw pos (keywordEach [] X.env))):=by rfl):
  PE X (.Call (.Attribute o m apos) (e::es) [] pos) (Bj C m sp dvs W ta t):=by
 intro pins s σ H Q I h;refine KM (pl:=pl) (thn (he pins s σ H _ I h) λu L ⟨x,H1,J,Y,a,dx,fs,ex,ea,l,q⟩=>?_) ht;subst ex;obtain rfl:u=sb a:=Y;refine mf J ea c hm l ?_;refine Kh (first:=[.ref a]) (h₀:=X.base) I.ok.mod.kin hm.kp (thn (ha pos pins L σ H1 _ J q) λus α ⟨vs,H2,I2,r,ν⟩=>⟨I2.kIn,?_⟩) G ψ;exact CF (us:= .ref a::us) (vs:= .ref a::vs) F Z hb hd hx I2 (.cons rfl r) ν
end
structure XCls (h:zx) (C:ee) (bmB:F') (newId:IU):Prop where
 obj:∃bm N nm q bs hdct sn sub ab col dd k0 k1 k2 k3 k5 mN,h.get? C=aT (excClassObj nm q C N bs bm hdct sn sub ab col dd k0 k1 k2 k3 k5 newId)/\h.Ns N mN/\mN "__init__"=eH/\OwnTail h bmB bm
theorem B1 {K:a'} {h:zx} {C:ee} {bmB:F'} {newId:IU} (X:K.In h) (q:L6 K C bmB newId=true):XCls h C bmB newId:=by
 refine⟨?_⟩;unfold L6 at q;split at q
 next dd cd Y ho=>
  split at q
  next β bm k0 k1 k2 k3 n k5 hm hs=>
   simp only[IK,L9,Ly] at q;obtain⟨⟨⟨⟨⟨e1,α⟩,G⟩,ht⟩,hok⟩,L⟩:=q;subst e1 α;cases cd with
   | mk nm bs I ns Z hd sn sub ab col del=>
   have hm:I=_:=hm;have G:del=false:=G;subst hm G;have J:Y=#[k0,k1,k2,k3,aT (.builtin n),k5]:=by rw[<-hs]
   subst J;exact⟨bm,ns,nm,Z,bs,hd,sn,sub,ab,col,dd,k0,k1,k2,k3,k5,_,X _ _ ho,.of_isNs (PySem.W.isNs_of_in X hok),PySem.W.nsMap_none_of_in X hok L,PySem.W.tail_of_in X ht⟩
  next=>cases q
 next=>cases q
section
variable {X:Cx} {W:XW} {C:ee} {x:Hk} {np cpos pos:Pos} {e:Hi} {es:ef Hi} {t:TA} {B newId initId:IU} {bmB:F'}
noncomputable def Bi (C:ee) (W:XW) (t:TA):TS:=λ_ σ H=>t σ H λvs H1=>vs.length<=i'/\W σ (.ref C) eH H1
theorem C8 {pins:E'} {σ:St} {H:Hp} {s:f'} {h':zx} {a:ee} {vs:F'} (I:Inv X pins σ H s) (m:Heap.MadeExcOf s.heap h' a (.ref C) vs):
  Inv X pins σ H {s with heap:=h'}/\Fly X pins H a (.ref C) eH eH h':=by
 obtain⟨tt,G,ν,J⟩:=m.there;exact⟨I.mvN (ch:=[]) ⟨λb o _ _ e=>m.keeps b o e,λb o _ _ e=>⟨o.slots,m.keeps b o e⟩⟩ λb z=>hE z @E,⟨⟨_,_,G,rfl,rfl,rfl,@E,@E⟩,I.fpN m.new (I.hok.none_ m.new),λt L z=>by cases z⟩⟩
theorem iC (FB:ExcBaseFacts B newId initId bmB) (q:L6 X.K C bmB newId=true) (hx:Thr X W) (hc:X.calm=true) (L:Gl X x) (hm:X.mg x=aT (.ref C)) (ha:PA X (e::es) t)
  (Z:(x == ("__debug__":Hk))=false:=by decide) (he:oD (e::es) X.env=(false,eval e X.env)::oD es X.env:=by rfl) (ψ:(backTo cpos (oD es X.env)).any (·.1)=false:=by rfl):
  PS X (.Raise (aT (.Call (.Name x np) (e::es) [] cpos)) eH pos) (Bi C W t):=by
 intro pins s σ H D I h;obtain⟨tl,N,nm,J,bs,hdct,sn,sub,ab,col,dd,k0,k1,k2,k3,k5,mN,α,Y,G,T⟩:=(B1 I.ok.mod.kin q).obj
 refine wpAny_Raise_call_subT (C:=C) (nm:=nm) (q:=J) (N:=N) (bs:=bs) (bm:=tl) (hdct:=hdct) (sn:=sn) (sub:=sub) (ab:=ab) (col:=col) (dd:=dd) (k0:=k0) (k1:=k1) (k2:=k2) (k3:=k3) (k5:=k5)
  FB (mN:=mN) (T.hasType FB.hasBase) (I.ok.hd hc) (by rw[he];show(false||(backTo cpos (oD es X.env)).any (·.1))=false;rw[ψ];rfl) G (qX I L hm ⟨rfl,?_⟩ Z)
 have χ:=ha cpos pins s σ H _ I h;rw[he] at χ ⊢;refine MR (IY χ (λus γ ⟨vs,H1,I1,r,z,w⟩=>⟨rfl,?_,I1.bk _ _ α,Y.keeps I1.bk,T.keeps I1.bk,λh' a m=>?_⟩) λ_ _ y=>y)
 ·show us.length<=_;rw[<-r.length];exact z
 ·obtain⟨β,η⟩:=C8 I1 m;exact hx _ _ ⟨pins,a,.ref C,eH,eH,σ,H1,rfl,β,η,w⟩
end
structure DZ (K:a') (G:ee):Prop where
 ty:Nq K (.ref G)=aT (.type "type")
 cls:Nf K G=true
 base:J7 K G (.type "BaseException")=aT true
section
variable {X:Cx} {pins:E'} {σ:St} {H:Hp} {s:f'}
theorem Inv.track {x:ee} {o:HO} (I:Inv X pins σ H s) (f:FpN X pins H x) (Y:eR X.prog X.w (upd H x o) s.heap x o):Inv X pins σ (upd H x o) s:=by
 obtain⟨δ,γ,η,ψ,G,β⟩:=f;have ne:∀b u,H b=aT u->b≠x:=λb u e z=>by rw[z,δ] at e;cases e
 have J:∀b u,H b=aT u->upd H x o b=aT u:=λb u e=>by rw[aC (ne b u e)];exact e
 have U:=I.base;refine⟨I.ok,I.os,I.bare,⟨U.keep,U.slot,λb L e n Z=>?_,U.there,λb xs e=>J b _ (U.tups b xs e),λb L u e=>J b _ (U.frzs b L u e),λb ps e=>?_⟩,I.loc,I.cell,?_,λy c e=>?_,λp α=>?_,λb L e=>?_,I.len⟩
 ·rw[aC (λz=>?_)]
  ·exact U.free b L e n Z
  ·subst z;rcases ψ with y | y
   ·exact Z y
   ·rw[e] at y;cases y
 ·obtain⟨m,q⟩:=U.tbls b ps e;exact⟨m,J b _ q⟩
 ·rw[aC (xn γ)];exact I.free
 ·rw[aC (G y c e)];exact I.freeC y c e
 ·obtain⟨e,n,r⟩:=I.pin p α;exact⟨e,by rw[aC (β p α)];exact n,r⟩
 ·by_cases z:b=x
  ·subst z;rw[aJ] at e;cases e;exact Y
  ·rw[aC z] at e;exact(I.hok b L e).stay (λ_ _ _ q=>q) (λc q=>J c _ q) λc xs q=>J c _ q
end
noncomputable def ExcO (x:ee) (C:hG) (dx:HL):HO:= .ext λh=>∃ι vs,h.get? x=aT ι/\ι.cls=C/\ι.dict=dx/\ι.data= .fields vs
noncomputable abbrev Cx.pin (X:Cx) (pins:E'):Cx:={X with pn:=X.pn++pins}
noncomputable abbrev Cx.mark (X:Cx) (pins:E') (e:hG):Cx:={X with A:=X.A.mark (aT e),calm:=false,pn:=X.pn++pins,xe:=λ_ _=>False}
noncomputable def Ends.less (D:Ends) (i:Nat):Ends:={nx:=fun σ H=>D.nx (σ.set i eH) H,rt:=D.rt,bk:=fun σ H=>D.bk (σ.set i eH) H,ct:=fun σ H=>D.ct (σ.set i eH) H}
noncomputable def WTry (K:a') (G:ee) (i:Nat) (J:XW) (I:TS) (D:Ends):XW:=fun σ C dx H=>∃c,C= .ref c/\((J7 K c (.ref G)=aT true/\∀x,H x=eH->I (D.less i) (σ.set i (aT (.ref x))) (upd H x (ExcO x C dx)))∨
 (J7 K c (.ref G)=aT false/\J σ C dx H))
structure XIsi (K:a') (D:ee):Prop where
 cls:Nf K D=true
 ga:zP K (.ref D) "__getattribute__"=aT (aT (.builtin "BaseException.__getattribute__"))
 gr:zP K (.ref D) "__getattr__"=aT eH
 ha:zP K (.ref D) "__class__"=aT (aT (.builtin "object.__class__"))
 hn:Jw K (.builtin "object.__class__") "__get__"=aT (aT (.builtin "getset_descriptor.__get__"))
 tk:LC K (.builtin "object.__class__")=aT true
 hm:J7 K D (.type "object")=aT true
 base:J7 K D (.type "BaseException")=aT true
noncomputable def dV:V->hG
 | .ref a=> .ref a
 | .ty n=> .type n
 | _=> .none
section
variable {σ:St} {H:Hp} {Q:VK} {D:Ends} {W:XW} {t:TA}
theorem Cv {C:ee} (h:t σ H λvs H1=>vs.length<=i'/\W σ (.ref C) eH H1):Bi C W t D σ H:=h
end
theorem g5 {X:Cx} {K:a'} {es:ef Hi} {k:Nat} {t:TGs} {n:Nat} {pos:Pos} (h:X.K=K) (hc:X.calm=true) (ht:PGs X es t)
  (hn:(assignEach es X.env).length=n:=by rfl) (G:(assignEach es X.env).findIdx? (·.1)=none:=by rfl):PG X (.Tuple es k pos) (gTup K n t):=by subst h;exact nM hc ht hn G
theorem CI {k:Key} {v:hG} (h:sH k v=true):RelV (kV k) v:=by
 rcases cb h with ⟨i,t,rfl,rfl⟩ | ⟨x,t,rfl,rfl⟩
 ·exact⟨t,rfl⟩
 ·exact⟨t,rfl⟩
theorem nR {α β:Type} {F:α->β->Prop}:∀{l:ef α} {m:ef β},l.length=m.length->(∀(i:Nat) (a:α) (b:β),l[i]? =aT a->m[i]? =aT b->F a b)->Paired F l m
 | [],[],_,_=> .nil
 | a::l,b::m,hl,h=> .cons (h 0 a b rfl rfl) (nR (by simpa using hl) λi x y I G=>h (i + 1) x y (by simpa using I) (by simpa using G))
 | [],_::_,hl,_=>by simp at hl
 | _::_,[],hl,_=>by simp at hl
section
variable {σ:St} {H:Hp} {Q:VK} {D:Ends} {te ty tv td:TE} {x y v:V}
def F7 (y:V) (Q:VK) (x:V) (H:Hp):Prop:=∃a o,x= .ref a/\DGet H a y o/\Q (.bl o.isSome) H
theorem GJ (h:ty σ H λy H1=>td σ H1 (F7 y Q)):tDIn ty td σ H Q:=h
theorem EX {p:ee} {kvs:ef (Key×V)} {z:Int} (e:H p=aT (.dK kvs)) (h:Q (.bl (valV kvs (Io z)).isSome) H):F7 (.int z) Q (.ref p) H:=⟨p,_,rfl,DGet.k (k:=Io z) e,h⟩
theorem nK {l b:ee} {xs zs:ef V} (e:H l=aT (.lst xs)) (e':H b=aT (.lst zs)) (hz:xs.length + zs.length<=i') (h:∀p H2,H p=eH->Same H H2->H2 p=aT (.lst (xs++zs))->Q (.ref p) H2):rCat (.ref l) (.ref b) H Q:=⟨l,b,xs,zs,rfl,rfl,e,e',hz,i8 h⟩
end
theorem m9:∀{ns:HK} {us:F'},Vals (ns.map V.int) us->IntsAre us ns
 | [],us,r=>by cases r;exact .nil
 | n::ns,us,r=>by
   rw[IE] at r;cases r with
   | cons h t=>obtain⟨t',rfl⟩:=h;exact .cons _ _ (m9 t)
theorem yT:∀{ns:HK} {us:F'},IntsAre us ns->Vals (ns.map V.int) us:=kE
noncomputable def CK:ef V->Hp->VK->Prop:=λxs H Q=>∃(p:ee) (ns:HK),xs=[.ref p]/\H p=aT (.lst (ns.map V.int))/\Q (.int ns.sum) H
section
variable {X:Cx}
theorem wu (zs:LZ (Int×Tok)):preSum (numAt zs) zs.size=(zs.toList.map (·.1)).sum:=by
 rw[preSum_eq,IW (by rw[cY,Ie];exact ov _)]
theorem zq (hc:X.calm=true):jT X (.builtin "sum") CK:=by
 intro pins s σ H xs us Q I r h;obtain⟨p,ns,rfl,γ,q⟩:=h;obtain⟨u,rfl,α⟩:=vQ r;cases α;obtain⟨z,its,n,β,ζ,e⟩:=I.lstM γ;have hi:=m9 β;obtain⟨zs,Z⟩:=hi.allInts.items;have G:ns=zs.toList.map (·.1):=by rw[<-hi.numsOf,<-nums_intItems,<-Z]
 have δ:s.heap.IsList p (intItems zs):=by rw[<-Z];exact⟨_,e,rfl,n,rfl⟩
 refine call_sum_walkAnyS (iter_intList δ λY ε st L J=>?_);subst ε;refine⟨_,_,_,_,_,_,_,numAt zs,rfl,(Walks.list (A:=X.A.in1) (I.ok.hd hc) _ p J (intItems zs)).toS,st,L,(λ_ _=>intItems_at),λs' t' hm=>?_⟩;rw[Moved.eq_with hm];have hsz:(intItems zs).size=zs.size:=by simp[intItems]
 rw[hsz,wu,<-G];refine⟨.int ns.sum,H,I.kept (λb o e=>hm.heap b o (λhb=>?_) (ek _ e)),⟨_,rfl⟩,q⟩;rw[fy] at hb;rw[hb] at e;exact IV _ (gA e)
end
section
variable {prog:px} {w:wq} {A:Hg} {E:D'} {s:f'} {d:ee} {vs:ef (Key×hG)} {ep:Nat}
theorem qe:plainId "list.__iadd__"=true:=by decide +kernel
theorem tj {Q:F'->f'->Prop} (Y:A.handled=eH) (lo:(d == sysModules)=false) (J:s.heap.DictAt (c8 prog w) d vs ep) (hn:vs.length<=i')
  (h:∀h' tk (L:HG),(∀b o,s.heap.get? b=aT o->h'.get? b=aT o)->s.heap.objs.size < h'.objs.size->ItemsOf (λi v=>∃k x,vs[i]? =aT (k,x)/\(c8 prog w).is k v=true) L vs.length->Q L.toList {s with heap:=h',toks:=tk}):
  hQ (lT prog w) A (collect (.ref d)) Q E s:=by
 unfold collect;refine dt (wpAny_runValue (JY NV ?_));show hQ _ _ (do again (.builtin "list.__iadd__" ⟨[<-newList [],.ref d],[]⟩)) _ _ s;refine dt (KU (hP ⟨Nj _ (by decide +kernel),JY entry_list_iadd' ?_⟩));rw[K3 qe _];show hQ _ _ (IT (.ref s.heap.objs.size) (.ref d) (.ref s.heap.objs.size)) _ _ {s with heap:=s.heap.push (seqObj "list" #[] 0)};have I:=J.lt_size
 refine PySem.W.kdl_extend (R:=λr s'=>match r with
   | Mf (Flow.ret v)=>hQ (lT prog w) A (match v with
     | sb a=>do
       let o <-load a
       match o.data with
       | .seq xs _=>pure xs.toList
       | _=>unsupported "internal:collect"
     | _=>unsupported "internal:collect") Q E s'
   | Mf _=>False
   | O9 e=>E e s') (s:={s with heap:=s.heap.push (seqObj "list" #[] 0)}) (PySem.W.kdl_dict (knd:=c8 prog w) (kvs:=vs) (ep:=ep) lo) Y (J.push _) s.heap.objs.size (Ig I) (Ig I) _ 0 (la _ rfl) (λh' tk G Z hk φ ε=>?_) hn
 show hQ (lT prog w) A (do
   let o <-load s.heap.objs.size
   match o.data with
   | .seq xs _=>pure xs.toList
   | _=>unsupported "internal:collect") Q E {s with heap:=h',toks:=tk}
 refine dt (Ob φ ?_);exact hP (h h' tk G (λb o e=>hk b o (Hl (gA e)) (ek _ e)) (gA φ) ε)
theorem uc {Q:D'} {ks:HK} (θ:A.handled=eH) (lo:(d == sysModules)=false) (β:s.heap.DictAt (c8 prog w) d vs ep) (hn:vs.length<=i') (hk:vs.map (·.1)=ks.map Io) (δ:vs.length < 64)
  (h:∀h' tk a (out:HG) (e:Nat) (I:HK),(∀b o,s.heap.get? b=aT o->h'.get? b=aT o)->s.heap.objs.size<=a->h'.get? a=aT (seqObj "list" out e)->IntsAre out.toList I->I.Perm ks->I.Pairwise (·<=·)->Q (.ref a) {s with heap:=h',toks:=tk}):
  hQ (lT prog w) A (call (.builtin "sorted") [.ref d]) Q E s:=by
 refine Calls.call_function_entry kind_sorted plain_sorted entry_sorted (args_sorted1 _) ?_;unfold Builtin.«sorted»;refine dt (m:=checkCount "sorted" 1 1 _) (hP ?_);refine dt (tj (by exact θ) lo β hn λh' tk G Z hsz ε=>?_)
 have Y:(ks.map V.int).length=G.toList.length:=by
  have e1:=Hm KC hk;rw[cY,cY] at e1;have ν:G.toList.length=vs.length:=by rw[Ie];exact ε.1
  rw[cY];omega
 have hI:IntsAre G.toList ks:=by
  refine m9 (nR Y λi a b ha hb=>?_);rw[fk] at ha;obtain⟨k,α,rfl⟩:=JR.mp ha;rw[K'] at hb;obtain⟨ζ,x,η,ψ⟩:=ε.2 i b hb;have e1:(vs.map (·.1))[i]? =aT ζ:=by rw[fk,η];rfl
  rw[hk,fk,α] at e1;have e1:=iv e1;subst e1;exact CI (show sH (Io k) b=true from ψ)
 have γ:G.toList.length < 64:=by rw[Ie,ε.1];exact δ
 refine dt (KU ?_);have J:(h'.push (seqObj "list" G.toList.toArray 0)).get? h'.objs.size=aT (seqObj "list" G.toList.toArray 0):=la _ rfl;show hQ _ _ _ _ _ {s with heap:=h'.push (seqObj "list" G.toList.toArray 0),toks:=tk};refine dt (JX (Kf slot_list_sort ⟨_,J,rfl⟩ entry_list_sort (list_sort_tree J hI γ λout I a1 a2 ι=>⟨_,rfl,?_⟩) (args_list_sort _)));obtain⟨e,he⟩:=sortedHeap_at (out:=out) J;refine hP ⟨_,rfl,h _ tk h'.objs.size out e I (λb o hb=>?_) ?_ he a1 a2 ι⟩
 ·have L:=gA (Z b o hb);rw[sortedHeap_old (Hl L) (by rw[Oe];exact Jg L)];exact ek _ (Z b o hb)
 ·exact Jn hsz
end
noncomputable def Bw:ef V->Hp->VK->Prop:=λxs H Q=>∃(p:ee) (ks:HK) (kvs:ef (Key×V)),xs=[.ref p]/\H p=aT (.dK kvs)/\kvs.map (·.1)=ks.map Io/\kvs.length < 64/\
 ∀(l:ee) (ns:HK),H l=eH->ns.Perm ks->ns.Pairwise (·<=·)->Q (.ref l) (upd H l (.lst (ns.map V.int)))
theorem w4 {X:Cx} (hc:X.calm=true):jT X (.builtin "sorted") Bw:=by
 intro pins s σ H xs us Q I r h;obtain⟨p,ks,kvs,rfl,β,hk,Y,q⟩:=h;obtain⟨u,rfl,Z⟩:=vQ r;cases Z;obtain⟨hz,lo,vs,rel,dd⟩:=FU I.hok β;obtain⟨ep,L⟩:=dd.dictAt;refine uc (ks:=ks) (I.ok.hd hc) lo L (by rw[<-rel.length];exact hz) (by rw[<-rel.keys];exact hk) (by rw[<-rel.length];exact Y) λh' tk a out e G kp ha he hi ω J=>?_;have α:=yT hi
 have γ:(G.map V.int).length<=sizeLine:=by
  have e1:=Hm KC hk;rw[cY,cY] at e1;rw[cY,ω.length_eq,<-e1];exact hz
 refine⟨.ref a,_,I.laid (t':=tk) kp ha (show eR X.prog X.w _ h' _ (.lst (G.map V.int)) from⟨γ,out.toList,e,α,by simpa using he⟩),rfl,q _ G (I.hok.fresh ha) ω J⟩
section
variable {H:Hp} {Q:VK}
theorem Cu {p:ee} {kvs:ef (Key×V)} {ks:HK} (e:H p=aT (.dK kvs)) (hk:kvs.map (·.1)=ks.map Io) (G:kvs.length < 64) (h:∀(l:ee) (ns:HK) (H2:Hp),H l=eH->Same H H2->H2 l=aT (.lst (ns.map V.int))->ns.Perm ks->ns.Pairwise (·<=·)->Q (.ref l) H2):Bw [.ref p] H Q:=
 ⟨p,ks,kvs,rfl,e,hk,G,λl ns I J hw=>h l ns _ I (fh I) aJ J hw⟩
end
open AutoSeq1 (wpAny_loadPart')
section
variable {prog:px} {w:wq} {A:Hg} {E:D'} {s:f'}
theorem lU {it t:ee} {i:Nat} {G:HG} {x:hG} {Q:D'} (ε:s.heap.IsTupleIter it t i) (ht:s.heap.IsTuple t G) (hx:G[i]? =aT x)
  (ψ:∀h',h'.IsTupleIter it t (i + 1)->Kj it s.heap h'->Q x {s with heap:=h'}):
  hQ (lT prog w) A (HS (.ref it)) Q E s:=by
 obtain⟨o,ho,L,hd⟩:=id ε;obtain⟨Y,I,_,Z,J⟩:=ht;unfold HS
 refine dt (K1 (name:=Kn "__next__") ε.typeIs F.slot_tuple_iterator_next
  (Kf F.slot_tuple_iterator_next ε.typeIs F.entry_tuple_iterator_next ?_ (F.args_tuple_iterator_next_1 _)))
 show hQ _ _ (field (.ref it) 0 >>=_) _ _ s;refine dt (IB ho hd (x:= .ref t) rfl ?_);show hQ _ _ (if (sb t == Ic)=true then _ else _) _ _ s;rw[nk (show ¬((sb t == Ic)=true) from gn)];show hQ _ _ (field (.ref it) 1 >>=_) _ _ s;refine dt (IB ho hd (x:= .int i 0) rfl ?_);show hQ _ _ (seqItems? (.ref t) >>=_) _ _ s;refine dt (KJ I J ?_);simp only[oe,hx];refine dt (KI ho hd @E (hP ⟨x,rfl,hP (ψ _ ?_ (Hv ..))⟩))
 exact⟨_,J2 _ ho (MY (Lr hd _)),(NJ ..).trans L,by
  rw[Lr hd];simp[rawInt]⟩
theorem mL {it t:ee} {i:Nat} {G:HG} {Q:D'} (L:A.handled=eH) (ε:s.heap.IsTupleIter it t i) (ht:s.heap.IsTuple t G) (hx:G[i]? =eH)
  (Y:∀h' e,Heap.ExtBut it s.heap h'->(∃o,h'.get? e=aT o/\o.cls= .type "StopIteration")->E (.ref e) {s with heap:=h'}):
  hQ (lT prog w) A (HS (.ref it)) Q E s:=by
 obtain⟨o,ho,β,hd⟩:=id ε;obtain⟨Z,I,_,α,J⟩:=ht;unfold HS
 refine dt (K1 (name:=Kn "__next__") ε.typeIs F.slot_tuple_iterator_next
  (Kf F.slot_tuple_iterator_next ε.typeIs F.entry_tuple_iterator_next ?_ (F.args_tuple_iterator_next_1 _)))
 show hQ _ _ (field (.ref it) 0 >>=_) _ _ s;refine dt (IB ho hd (x:= .ref t) rfl ?_);show hQ _ _ (if (sb t == Ic)=true then _ else _) _ _ s;rw[nk (show ¬((sb t == Ic)=true) from gn)];show hQ _ _ (field (.ref it) 1 >>=_) _ _ s;refine dt (IB ho hd (x:= .int i 0) rfl ?_);show hQ _ _ (seqItems? (.ref t) >>=_) _ _ s;refine dt (KJ I J ?_);simp only[oe,hx];refine dt (Oa (dt (KI ho hd @E ?_)));show hQ _ _ (newExc (.type "StopIteration") [] >>=_) _ _ _;refine dt ?_;simp only[newExc,newTuple];refine dt (K4 ?_ (by size_fits));refine dt (m:=firstArgMember _ _) (NR (a:=Ic) (by first | rfl | (simp only[firstArgMember];rfl)) ?_);refine K4 ?_ (by size_fits);simp only[raiseNew];refine dt (wpAny_handled ?_)
 first | rw[show A.in1.handled=eH from L] | rw[L]
 refine dt (hP (wpAny_throw ?_));exact Y _ _ (((Hv ..).extBut.push _).push _) ⟨_,la _ rfl,rfl⟩
end
theorem Draws.tuple {prog:px} {w:wq} {A:Hg} (Y:A.handled=eH) (it l:ee) (L:l≠it) (G:HG):
  Draws prog w A it [it,l] G.size (λi v=>G[i]? =aT v) (λi h=>h.IsTupleIter it l i/\h.IsTuple l G) where
 live:=λ_ _ st=>let ⟨o,ho,_⟩:=st.1;⟨o,ho⟩
 frame:=λ_ _ _ st hk=>⟨let ⟨o,ho,r⟩:=st.1;⟨o,hk it @E o ho,r⟩,let ⟨o,ho,r⟩:=st.2;⟨o,hk l @E o ho,r⟩⟩
 item:=λi s Q E hi st ψ=>by
  refine lU st.1 st.2 (x:=G[i]) (by simp[hi]) λh' J I=>?_;exact ψ _ h' s.toks (by simp[hi]) ⟨J,st.2.extBut I.extBut L⟩ I
 done:=λs Q E st Z=>mL Y st.1 st.2 @E Z
theorem jQ (l:ee) (G:HG) (n:Nat) (L:HL) (Z:HH):
  Meets (Builtin.«enumerate.__new__» ⟨[.type "enumerate",.ref l],[]⟩) (λ_ R s=>s.heap.get? l=aT {cls:= .type "tuple",dict:=L,data:= .seq G n,slots:=Z}/\
   R (.ok (.ret (.ref (s.heap.push {cls:= .type "tuple_iterator",data:= .fields #[.ref l,.int 0 0]}).objs.size)))
     {s with heap:=(s.heap.push {cls:= .type "tuple_iterator",data:= .fields #[.ref l,.int 0 0]}).push {cls:= .type "enumerate",data:= .fields #[.none,.bool false,.ref s.heap.objs.size,rawInt 0,.none,.none]}}):=
 .of_wp λprog w A R s h=>by
  obtain⟨α,g,d,tk,os⟩:=s;obtain⟨I,h⟩:=h;have Y:=sub_enumerate;have J:Heap.IsTuple (Shared.heap ⟨α,g,d,tk,os⟩) l G:=⟨_,I,rfl,n,rfl⟩
  wp_walk using Kw I
  refine wpAny_stack_any λst=>hP ?_;split
  ·rename_i c _ _ _ _ _;cases(c == Ik "enumerate")
   ·wp_walk using Kw I,KL J
    exact⟨_,rfl,h⟩
   ·wp_walk using Kw I,KL J
    exact⟨_,rfl,h⟩
  ·wp_walk using Kw I,KL J
   exact⟨_,rfl,h⟩
theorem jS {prog:px} {w:wq} {A:Hg} {E:D'} {s:f'} {l:ee} {G:HG} {Q:D'} (α:s.heap.IsTuple l G)
  (h:∀h',IsEnum h' (s.heap.objs.size + 1) s.heap.objs.size 0 .none->h'.IsTupleIter s.heap.objs.size l 0->h'.objs.size=s.heap.objs.size + 2->
   (∀b o,s.heap.get? b=aT o->h'.get? b=aT o)->Q (.ref (s.heap.objs.size + 1)) {s with heap:=h'}):
  hQ (lT prog w) A (call (.type "enumerate") [.ref l]) Q E s:=by
 obtain⟨⟨c,L,J,Y⟩,Z,I,n,hd⟩:=α;replace I:c= .type "tuple":=I;replace hd:J= .seq G n:=hd;subst I hd
 refine callType_new F.called_enumerate @C (F.typeCall_enumerate_1 _) (F.newCall_enumerate_1 _) (λobj=>F.args_object_init_2 obj _) F.entry_enumerate_new
  (jQ l G n L Y) ⟨Z,?_⟩
 have hz:(s.heap.push {cls:= .type "tuple_iterator",data:= .fields #[.ref l,.int 0 0]}).objs.size=s.heap.objs.size + 1:=Ij ..
 show _/\_;rw[hz]
 have he:IsEnum ((s.heap.push {cls:= .type "tuple_iterator",data:= .fields #[.ref l,.int 0 0]}).push
   {cls:= .type "enumerate",data:= .fields #[.none,.bool false,.ref s.heap.objs.size,rawInt 0,.none,.none]}) (s.heap.objs.size + 1) s.heap.objs.size 0 .none:=by
  have:=la (s.heap.push {cls:= .type "tuple_iterator",data:= .fields #[.ref l,.int 0 0]})
   (o:={cls:= .type "enumerate",data:= .fields #[.none,.bool false,.ref s.heap.objs.size,rawInt 0,.none,.none]}) rfl
  rw[hz] at this;exact this
 refine⟨⟨_,he,rfl⟩,h _ he ⟨_,ek _ (la _ rfl),rfl,rfl⟩ (by rw[Ij,hz]) λb o x=>ek _ (ek _ x)⟩
noncomputable def Itet (K:a') (a:ee):It:=
 ⟨λi H=>∃xs x,SqT K H a xs/\xs[i]? =aT x,λi H x H'=>∃p v,H p=eH/\x= .ref p/\H'=upd H p (.tup [.int i,v])/\∀xs,SqT K H a xs->xs[i]? =aT v,λi H=>∃xs,SqT K H a xs/\xs.length=i⟩
theorem vU {P:px} {w:wq} {K:a'} {L:ef Hi} {k:Nat} {pos:Pos} (a e it:ee) (α:e≠it):
  Turn P w K (.Tuple L k pos) (Itet K a) [e,it] e (λi h=>(∃G,IsEnum h e it i G)/\h.IsTupleIter it a i) where
 mem:=by simp
 obj:=λi h st b hb=>by
  obtain⟨⟨G,he⟩,⟨o,ho,φ,hd⟩⟩:=st;rcases Hn.mp hb with z | z
  ·subst z;exact⟨_,he,λv z=>by cases z⟩
  ·rw[fy.mp z];exact⟨o,ho,λv z=>by rw[hd] at z;cases z⟩
 keep:=λi h h' st k=>⟨let ⟨G,he⟩:=st.1;⟨G,k e @E _ he⟩,(let ⟨o,ho,r⟩:=st.2;⟨o,k it @E o ho,r⟩)⟩
 item:=by
  intro X τ hw hK φ i pins s σ H E I hf st ω;subst τ hw hK;obtain⟨xs,x,υ,ρ⟩:=ω;obtain⟨its,π,p,hz⟩:=I.tuple υ;have ζ:s.heap.IsTuple a its.toArray:=p;obtain⟨⟨G,he⟩,ι⟩:=st
  have η:a≠it:=λz=>by
   obtain⟨o,ho,J,_⟩:=ι;obtain⟨o',Y,ο,_⟩:=ζ;rw[z,ho] at Y;cases Y;rw[J] at ο;exact hE ο @C
  have θ:a≠e:=λz=>by
   obtain⟨o',Y,ο,_⟩:=ζ;rw[z,he] at Y;cases Y;exact hE (show Ik "enumerate"= .type "tuple" from ο) @C
  have W:=Jx (prog:=X.prog) (w:=X.w) (A:=X.A) (Draws.tuple (A:=X.A.in1) (I.ok.hd φ) it a η its.toArray) e α (by simp[α,xn θ]) @E;have hi:i < its.toArray.size:=by have:=π.length;have:=(b'.mp ρ).1;simp;omega
  refine W.item i s _ _ hi ⟨⟨G,he⟩,ι,ζ⟩ λT δ h' tk a3 hT Z ε hk=>⟨_,rfl,W.go L k pos i T _ _ _ ε λa4 ν ξ=>?_⟩;obtain⟨t,χ,ψ,rfl⟩:=a3;have a0:=W.apart i T h' ε
  have ru:RelV x χ:=by
   obtain⟨u,β,r⟩:=π.get ρ;have γ:its[i]? =aT χ:=by simpa using ψ
   rw[β] at γ;cases γ;exact r
  have kk:∀b u,b∉[e,it]->s.heap.get? b=aT u->a4.get? b=aT u:=λb u hb q=>ξ b u hb (hk b u hb q);have fr:H T=none:=I.hok.fresh hT;refine⟨.ref T,upd H T (.tup [.int i,x]),I.laidCh (t':=tk) kk hT ⟨ve,[.int i t,χ],.cons ⟨t,rfl⟩ (.cons ru .nil),?_⟩ hf,rfl,⟨T,x,fr,rfl,rfl,λys hy=>by rw[I.tuple_inj hy υ];exact ρ⟩,⟨ν.1,ν.2.1⟩,λb hb=>?_⟩
  ·obtain⟨o,ho,r⟩:=Z;exact⟨o,ξ T o a0 ho,r⟩
  ·have fb:=(hf b hb);rw[aC (λz=>?_)]
   ·exact fb.1
   ·have lt:b < s.heap.objs.size:=by
     rcases Hn.mp hb with z | z
     ·subst z;exact gA he
     ·rw[fy.mp z];obtain⟨o,ho,_⟩:=ι;exact gA ho
    rw[z] at lt;exact hE (eu lt hT) (IV _)
 done:=by
  intro X τ hw hK φ i pins s σ H E I hf st ω;subst τ hw hK;obtain⟨xs,υ,ρ⟩:=ω;obtain⟨its,π,p,hz⟩:=I.tuple υ;have ζ:s.heap.IsTuple a its.toArray:=p;obtain⟨⟨G,he⟩,ι⟩:=st
  have η:a≠it:=λz=>by
   obtain⟨o,ho,J,_⟩:=ι;obtain⟨o',Y,ο,_⟩:=ζ;rw[z,ho] at Y;cases Y;rw[J] at ο;exact hE ο @C
  have θ:a≠e:=λz=>by
   obtain⟨o',Y,ο,_⟩:=ζ;rw[z,he] at Y;cases Y;exact hE (show Ik "enumerate"= .type "tuple" from ο) @C
  have W:=Jx (prog:=X.prog) (w:=X.w) (A:=X.A) (Draws.tuple (A:=X.A.in1) (I.ok.hd φ) it a η its.toArray) e α (by simp[α,xn θ]) @E;have hn:its.toArray.size=i:=by have:=π.length;simp;omega
  subst hn;exact W.done s _ _ ⟨⟨G,he⟩,ι,ζ⟩ λh' tk hk=>⟨rfl,I.turnedCh hk hf⟩
 self:=λ_ _ _ _ _ st h=>let ⟨_,he⟩:=st.1;Jh he h
noncomputable def BC (K:a') (tl:TE):TI:=fun σ H R=>tl σ H λx H1=>∃a,x= .ref a/\(((∃xs,SqL K H1 a xs)/\R (Ite K a) H1)∨((∃xs,SqT K H1 a xs)/\R (Itet K a) H1))
section
variable {X:Cx} {K:a'}
theorem vt {l:Hi} {tl:TE} {L:ef Hi} {k:Nat} {tpos p pos:Pos} (h:X.K=K) (ζ:Gl X "enumerate") (hm:X.mg "enumerate"=eH) (δ:PE X l tl) (hs:oD [l] X.env=[(false,eval l X.env)]:=by rfl):
  PI X (.Tuple L k tpos) (.Call (.Name "enumerate" p) [l] [] pos) (BC K tl):=by
 subst h;intro pins s σ H R I h;refine N9 (iS I ζ hm boot_enumerate (Hh (thn (aa δ af hs pos pins s σ H (λvs H1=>match vs with | [x]=>∃a,x= .ref a/\(((∃xs,SqL X.K H1 a xs)/\R (Ite X.K a) H1)∨((∃xs,SqT X.K H1 a xs)/\R (Itet X.K a) H1)) | _=>False) I h) λus G ⟨vs,H1,I1,Y,J⟩=>?_) hs rfl))
 match vs,Y,J with
 | [x],Y,J=>
 obtain⟨u,rfl,β⟩:=Y.one;obtain⟨a,rfl,J⟩:=J;cases β
 have fin:∀b∈[G.heap.objs.size + 1,G.heap.objs.size],FpOk X pins H1 b:=λb hb=>by
  have γ:G.heap.objs.size<=b:=(Hn.mp hb).elim (λz=>by rw[z];exact JE _) (λz=>by rw[fy.mp z];exact ov _);exact I1.fpOk γ (I1.hok.fresh γ)
 rcases J with ⟨⟨xs,Z⟩,q⟩ | ⟨⟨xs,Z⟩,q⟩
 ·obtain⟨its,α,pl,hz⟩:=I1.list Z;refine O3 pl.isList λh' he ε hsz hk=>Jh he ?_;exact⟨G.heap.objs.size + 1,[G.heap.objs.size + 1,G.heap.objs.size],_,_,H1,rfl,I1.kept (t':=G.toks) hk,qd a _ _ (Ig (Il _)),⟨⟨_,he⟩,ε⟩,fin,q⟩
 ·obtain⟨its,α,pl,hz⟩:=I1.tuple Z;refine jS (show G.heap.IsTuple a its.toArray from pl) λh' he ε hsz hk=>Jh he ?_;exact⟨G.heap.objs.size + 1,[G.heap.objs.size + 1,G.heap.objs.size],_,_,H1,rfl,I1.kept (t':=G.toks) hk,vU a _ _ (Ig (Il _)),⟨⟨_,he⟩,ε⟩,fin,q⟩
end
theorem ip {K:a'} {n:Nat} {fx:D7} {g:TG} {tc:TT} {te:TE} {σ:St} {H1:Hp} {D:ee} {Q:Hp->Prop} {a:ee} {xs:ef V} (J:Nat->ef V->Hp->Prop) (h0:J 0 [] (upd H1 D (.lst []))) (δ:∀i ys H,i<=xs.length->J i ys H->SqL K H a xs)
  (hs:∀i x ys H p H',xs[i]? =aT x->J i ys H->H p=eH->Same H H'->H' p=aT (.tup [.int i,x])->g (.ref p) (cx n fx σ) H' λI γ=>tc I γ λb α=>if b=true then te I α λv Z=>Z D=aT (.lst ys)/\ys.length < i'/\J (i + 1) (ys++[v]) (upd Z D (.lst (ys++[v]))) else J (i + 1) ys α)
  (hd:∀ys H,J xs.length ys H->Q H):
  ∃W:Nat->Nat->ef V->Hp->Prop,(∃m,W 0 m [] (upd H1 D (.lst [])))/\∀i m ys H2,W i m ys H2->((Ite K a).stop i H2/\Q H2)∨
    ((Ite K a).go i H2/\∃N:ef V->Hp->Prop,(∀L H',N L H'->∃χ,χ < m/\W (i + 1) χ L H')/\∀x G,(Ite K a).yld i H2 x G->g x (cx n fx σ) G λI γ=>tc I γ λb α=>
      if b=true then te I α λv Z=>Z D=aT (.lst ys)/\ys.length < i'/\N (ys++[v]) (upd Z D (.lst (ys++[v]))) else N ys α):=by
 refine⟨λi m ys H=>m=xs.length - i/\i<=xs.length/\J i ys H,⟨xs.length,@E,J1 _,h0⟩,?_⟩;rintro i m ys H ⟨rfl,hi,p⟩;have q:=δ i ys H hi p;by_cases Y:i < xs.length
 ·refine .inr ⟨⟨xs,xs[i],q,by simp[Y]⟩,J (i + 1),λL H' β=>⟨xs.length - (i + 1),by omega,rfl,Y,β⟩,λx H' y=>?_⟩;obtain⟨r,v,f,e1,ε,y⟩:=y;subst e1 ε;exact hs i v ys H r _ (y xs q) p f (fh f) aJ
 ·have e:i=xs.length:=by omega
  subst e;exact .inl ⟨⟨xs,q,rfl⟩,hd ys H p⟩
theorem wX {K:a'} {n:Nat} {fx:D7} {g:TG} {tc:TT} {te:TE} {σ:St} {H1:Hp} {D:ee} {Q:Hp->Prop} {a:ee} {xs:ef V} (J:Nat->ef V->Hp->Prop) (h0:J 0 [] (upd H1 D (.lst []))) (δ:∀i ys H,i<=xs.length->J i ys H->SqT K H a xs)
  (hs:∀i x ys H p H',xs[i]? =aT x->J i ys H->H p=eH->Same H H'->H' p=aT (.tup [.int i,x])->g (.ref p) (cx n fx σ) H' λI γ=>tc I γ λb α=>if b=true then te I α λv Z=>Z D=aT (.lst ys)/\ys.length < i'/\J (i + 1) (ys++[v]) (upd Z D (.lst (ys++[v]))) else J (i + 1) ys α)
  (hd:∀ys H,J xs.length ys H->Q H):
  ∃W:Nat->Nat->ef V->Hp->Prop,(∃m,W 0 m [] (upd H1 D (.lst [])))/\∀i m ys H2,W i m ys H2->((Itet K a).stop i H2/\Q H2)∨
    ((Itet K a).go i H2/\∃N:ef V->Hp->Prop,(∀L H',N L H'->∃χ,χ < m/\W (i + 1) χ L H')/\∀x G,(Itet K a).yld i H2 x G->g x (cx n fx σ) G λI γ=>tc I γ λb α=>
      if b=true then te I α λv Z=>Z D=aT (.lst ys)/\ys.length < i'/\N (ys++[v]) (upd Z D (.lst (ys++[v]))) else N ys α):=by
 refine⟨λi m ys H=>m=xs.length - i/\i<=xs.length/\J i ys H,⟨xs.length,@E,J1 _,h0⟩,?_⟩;rintro i m ys H ⟨rfl,hi,p⟩;have q:=δ i ys H hi p;by_cases Y:i < xs.length
 ·refine .inr ⟨⟨xs,xs[i],q,by simp[Y]⟩,J (i + 1),λL H' β=>⟨xs.length - (i + 1),by omega,rfl,Y,β⟩,λx H' y=>?_⟩;obtain⟨r,v,f,e1,ε,y⟩:=y;subst e1 ε;exact hs i v ys H r _ (y xs q) p f (fh f) aJ
 ·have e:i=xs.length:=by omega
  subst e;exact .inl ⟨⟨xs,q,rfl⟩,hd ys H p⟩
section
variable {σ:St} {H:Hp} {te:TE} {R:It->Hp->Prop}
theorem gL {K:a'} (h:te σ H λx H1=>∃a,x= .ref a/\(((∃xs,SqL K H1 a xs)/\R (Ite K a) H1)∨((∃xs,SqT K H1 a xs)/\R (Itet K a) H1))):BC K te σ H R:=h
end
namespace ZP
noncomputable abbrev Busy (h:zx) (z TI TO T:ee) (G:IA):Prop:=h.get? z=aT {cls:= .type "zip",data:= .fields #[rawInt T,.bool G,.bool false,.ref TI,.ref TO]}
section
variable {prog:px} {w:wq} {A:Hg} {E:D'} {s:f'}
theorem yw {z TI TO T:ee} {G:IA} {ρ:Mm} {Q:IA->f'->Prop} (hz:Busy s.heap z TI TO T G) (hT:s.heap.get? T=aT ρ) (h:∀h',Busy h' z TI TO T true->Kj z s.heap h'->Q false {s with heap:=h'}):
  hQ (lT prog w) A (Kz (.ref z)) Q E s:=by
 unfold Kz;refine dt (IB hz rfl (x:=rawInt T) rfl ?_);show hQ _ _ (loadIfAlive ((T:Int).toNat) >>=_) _ _ s;rw[oe];refine dt (PySem.W.kdx_alive hT ?_);rw[nk @E];refine dt (IB hz rfl (x:= .bool G) rfl ?_);cases G with
 | true=>
   rw[nk @C];exact hP (h s.heap hz ⟨rfl,λ_ _=>rfl⟩)
 | false=>
   rw[pe @C];refine dt (wpAny_setField_rec hz (by show 1 < 5;decide) λh' e hs=>hP (h h' e hs))
theorem yx {z TI TO T i1 i2 L J:ee} {τ:IA} {ρ:Mm} {i:Nat} {xs ys:HG} {x y:hG} {Q:HQ->f'->Prop} (ap:ZipApart z TI TO i1 i2 L J) (hz:Busy s.heap z TI TO T τ) (hT:s.heap.get? T=aT ρ)
  (hI:IsPair s.heap TI (.ref i1) (.ref i2)) (h1:s.heap.IsListIter i1 L i) (h2:s.heap.IsListIter i2 J i) (hl1:s.heap.IsList L xs) (hl2:s.heap.IsList J ys) (π:xs[i]? =aT x) (ο:ys[i]? =aT y)
  (h:∀h',Busy h' z TI TO T true->h'.IsListIter i1 L (i + 1)->h'.IsListIter i2 J (i + 1)->(∀b o,b≠z->b≠i1->b≠i2->s.heap.get? b=aT o->h'.get? b=aT o)->h'.get? s.heap.objs.size=aT {cls:= .type "tuple",data:= .seq #[x,y]}->Q (aT (.ref s.heap.objs.size)) {s with heap:=h'}):
  hQ (lT prog w) A (pyNext (.ref z)) Q E s:=by
 have ty:s.TypeIs (.ref z) "zip":=⟨_,hz,rfl⟩;unfold pyNext;refine dt (N4 (K1 (name:=Kn "__next__") ty F.slot_zip_next (Kf F.slot_zip_next ty F.entry_zip_next ?_ (F.args_zip_next_1 _))));unfold Builtin.«zip.__next__»;refine dt (NR (a:=(sb z,[])) rfl ?_);dsimp only;refine dt (IB hz rfl (x:= .bool false) rfl ?_);refine dt (IB hz rfl (x:= .ref TI) rfl ?_);refine dt (KJ hI rfl ?_);dsimp only;rw[nk (show ¬(#[sb i1,sb i2].isEmpty=true) from gn)];refine dt (yw hz hT λh' ζ hs=>?_);rw[nk @C];rw[<-N8];simp only[JW,LX];have keep:∀{b:ee} {o:Mm},b≠z->s.heap.get? b=aT o->h'.get? b=aT o:=fun α e=>(hs.2 _ α).trans e;have ι:h'.IsListIter i1 L i:=h1.at λo e=>keep ap.i1z e;have η:h'.IsListIter i2 J i:=h2.at λo e=>keep ap.i2z e;have γ:h'.IsList L xs:=let ⟨o,e,c⟩:=hl1;⟨o,keep ap.l1z e,c⟩
 have β:h'.IsList J ys:=let ⟨o,e,c⟩:=hl2;⟨o,keep ap.l2z e,c⟩
 refine dt (dt (dt (JX ?_)));show hQ _ _ (HS (.ref i1) >>=λx=>pure (aT x)) _ _ _;refine dt (Nl ι γ π fun ν ε Z=>hP ?_);dsimp only;refine hP ?_;dsimp only;have G:∀{b:ee} {o:Mm},b≠i1->h'.get? b=aT o->ν.get? b=aT o:=fun α e=>(Z.2 _ α).trans e;refine dt (dt (JX ?_));show hQ _ _ (HS (.ref i2) >>=λx=>pure (aT x)) _ _ _;refine dt (Nl (η.at λo e=>G (xn ap.i12) e) (let ⟨o,e,c⟩:=β;⟨o,G ap.l2i1 e,c⟩) ο fun θ δ Y=>hP ?_);have I:∀{b:ee} {o:Mm},b≠i2->ν.get? b=aT o->θ.get? b=aT o:=fun α e=>(Y.2 _ α).trans e;dsimp only;refine hP ?_;dsimp only;refine hP ?_;dsimp only;have es:θ.objs.size=s.heap.objs.size:=Y.1.trans (Z.1.trans hs.1);refine dt (wpAny_newTuple (hP ⟨_,rfl,hP ?_⟩) (by show 2<=i';rw[mc];decide));show Q (aT (.ref θ.objs.size)) {s with heap:=θ.push _};rw[es];refine h _ ?_ ?_ ?_ (λb o nz n1 ξ e=>ek _ (I ξ (G n1 (keep nz e)))) ?_
 ·exact ek _ (I (xn ap.i2z) (G (xn ap.i1z) ζ))
 ·exact ε.at λo e=>ek _ (I ap.i12 e)
 ·exact δ.at λo e=>ek _ e
 ·rw[<-es];exact la _ rfl
theorem AB {z TI TO T i1 i2 G α:ee} {δ:IA} {ρ:Mm} {i:Nat} {xs:HG} {Q:HQ->f'->Prop} (L:A.handled=eH) (ap:ZipApart z TI TO i1 i2 G α) (hz:Busy s.heap z TI TO T δ) (hT:s.heap.get? T=aT ρ)
  (hI:IsPair s.heap TI (.ref i1) (.ref i2)) (h1:s.heap.IsListIter i1 G i) (hl1:s.heap.IsList G xs) (γ:xs[i]? =eH)
  (h:∀h',(∀b o,b≠z->b≠i1->s.heap.get? b=aT o->h'.get? b=aT o)->Q eH {s with heap:=h'}):
  hQ (lT prog w) A (pyNext (.ref z)) Q E s:=by
 have ty:s.TypeIs (.ref z) "zip":=⟨_,hz,rfl⟩;unfold pyNext;refine dt (N4 (K1 (name:=Kn "__next__") ty F.slot_zip_next (Kf F.slot_zip_next ty F.entry_zip_next ?_ (F.args_zip_next_1 _))));unfold Builtin.«zip.__next__»;refine dt (NR (a:=(sb z,[])) rfl ?_);dsimp only;refine dt (IB hz rfl (x:= .bool false) rfl ?_);refine dt (IB hz rfl (x:= .ref TI) rfl ?_);refine dt (KJ hI rfl ?_);dsimp only;rw[nk (show ¬(#[sb i1,sb i2].isEmpty=true) from gn)];refine dt (yw hz hT λh' β hs=>?_);rw[nk @C];rw[<-N8];simp only[JW,LX];have keep:∀{b:ee} {o:Mm},b≠z->s.heap.get? b=aT o->h'.get? b=aT o:=λZ e=>(hs.2 _ Z).trans e;have J:h'.IsListIter i1 G i:=h1.at λo e=>keep ap.i1z e;have I:h'.IsList G xs:=let ⟨o,e,c⟩:=hl1;⟨o,keep ap.l1z e,c⟩
 refine dt (dt (dt (JX ?_)));show hQ _ _ (HS (.ref i1) >>=λx=>pure (aT x)) _ _ _;refine dt (wpAny_nextOf_list_end (by first | exact L | (rw[show A.in1.handled=eH from L])) J I γ λY e ex he=>?_);refine dt (wpAny_isInstance (T:="StopIteration") (b:=true) (s:={s with heap:=Y}) (let ⟨o,a,b⟩:=he;⟨o,a,b⟩) isSubtype_stop ?_);exact hP (h Y λb o nz n1 ε=>ex b o n1 (keep nz ε))
structure ZGot (h:zx) (lo:Nat) (xs ys:HG) (as:HJ):Prop where
 rise:as.Pairwise (· < ·)
 above:∀a∈as,lo<=a/\a < h.objs.size
 pairs:∀(j:Nat) (a:ee),as[j]? =aT a->∃x y,xs[j]? =aT x/\ys[j]? =aT y/\h.IsTuple a #[x,y]
structure ZSt (h:zx) (z TI TO i1 i2 l1 l2:ee) (lo:Nat) (xs ys:HG) (i:Nat) (as:HJ):Prop where
 zp:(i=0/\IsZip h z TI TO .none)∨∃T fl,Busy h z TI TO T fl/\as[0]? =aT T
 hI:IsPair h TI (.ref i1) (.ref i2)
 hO:∃a b,IsPair h TO a b
 h1:h.IsListIter i1 l1 i
 h2:h.IsListIter i2 l2 i
 hl1:h.IsList l1 xs
 hl2:h.IsList l2 ys
 len:as.length=i
 got:ZGot h lo xs ys as
structure Und (z TI TO i1 i2 l1 l2 S:ee) (lo:Nat):Prop where
 ap:ZipApart z TI TO i1 i2 l1 l2
 Sz:S≠z
 STI:S≠TI
 STO:S≠TO
 Si1:S≠i1
 Si2:S≠i2
 Sl1:S≠l1
 Sl2:S≠l2
 z:z < lo
 TO:TO < lo
 i1:i1 < lo
 i2:i2 < lo
 S:S < lo
theorem ig {h:zx} {a:ee} {o:Mm} (e:h.get? a=aT o):a < h.objs.size:=gA e
theorem ZGot.keep {h h':zx} {lo:Nat} {xs ys:HG} {as:HJ} (g:ZGot h lo xs ys as) (k:∀b o,lo<=b->h.get? b=aT o->h'.get? b=aT o):ZGot h' lo xs ys as:=by
 have k2:∀a∈as,h'.IsTuple a #[.none,.none]->True:=λ_ _ _=>trivial;refine⟨g.rise,λa ha=>?_,λj a G=>?_⟩
 ·obtain⟨j,G⟩:=JM.mp ha;obtain⟨x,y,_,_,o,e,_⟩:=g.pairs j a G;exact⟨(g.above a ha).1,ig (k a o (g.above a ha).1 e)⟩
 ·obtain⟨x,y,J,I,o,e,c⟩:=g.pairs j a G;exact⟨x,y,J,I,o,k a o (g.above a (eO G)).1 e,c⟩
theorem ZGot.more {h:zx} {lo:Nat} {xs ys:HG} {as:HJ} {a:ee} {x y:hG} (g:ZGot h lo xs ys as) (ha:∀b∈as,b < a) (I:lo<=a) (hx:xs[as.length]? =aT x) (hy:ys[as.length]? =aT y) (ht:h.IsTuple a #[x,y]):ZGot h lo xs ys (as++[a]):=by
 refine⟨N1.mpr ⟨g.rise,MC _ _,λb hb c L=>by rw[fy.mp L];exact ha b hb⟩,λb hb=>?_,λj b G=>?_⟩
 ·rcases lx.mp hb with z | z
  ·exact g.above b z
  ·rw[fy.mp z];obtain⟨o,e,_⟩:=ht;exact⟨I,ig e⟩
 ·by_cases J:j < as.length
  ·rw[kA J] at G;exact g.pairs j b G
  ·rw[lB @A] at G
   have υ:j=as.length:=by
    have:=(b'.mp G).1;simp at this;omega
   subst υ;rw[JH] at G;have:a=b:=by simpa using G
   subst this;exact⟨x,y,hx,hy,ht⟩
theorem loop {R:HM} {z TI TO i1 i2 ν ι S:ee} {lo:Nat} {xs ys:HG} (hh:A.handled=eH) (U:Und z TI TO i1 i2 ν ι S lo) (hn:xs.size<=i') (β:ys.size=xs.size) (res:hG) {h₁:zx}
  (Z:∀h' tk G c as,(∀b o,b≠S->b≠z->b≠TO->b≠i1->b≠i2->h₁.get? b=aT o->h'.get? b=aT o)->h'.get? S=aT {cls:= .type "list",data:= .seq G c}->G.toList=as.map .ref->as.length=xs.size->ZGot h' lo xs ys as->R (.ok (.ret res)) {s with heap:=h',toks:=tk}):
  ∀(k i:Nat) (h:zx) (tk c:Nat) (G:HG) (as:HJ),xs.size - i=k->i<=xs.size->lo<=h.objs.size->ZSt h z TI TO i1 i2 ν ι lo xs ys i as->
    (∀b o,b≠S->b≠z->b≠TO->b≠i1->b≠i2->h₁.get? b=aT o->h.get? b=aT o)->h.get? S=aT {cls:= .type "list",data:= .seq G c}->G.toList=as.map .ref->
    codeAny (lT prog w) A (Oz "list.extend.loop" {pos:=[.ref S,.ref z,res]}) R {s with heap:=h,toks:=tk}:=by
 have ap:=U.ap;intro k
 induction k with
 | zero=>
   intro i h tk c G as hk hi θ st kh φ ε;have a5:i=xs.size:=by omega
   subst a5;refine JY F.entry_extend_loop ?_;rw[K3 F.plain_extend_loop];show hQ _ A.in1 (pyNext (.ref z) >>=_) _ _ _;refine dt ?_
   have fin:∀h' I,(∀b o,b≠z->b≠TO->b≠i1->b≠i2->h.get? b=aT o->h'.get? b=aT o)->R (.ok (.ret res)) {s with heap:=h',toks:=I}:=λh' I L=>
    Z h' I G c as (λb o n1 γ η α ζ e=>L b o γ η α ζ (kh b o n1 γ η α ζ e)) (L S _ U.Sz U.STO U.Si1 U.Si2 φ) ε st.len (st.got.keep λb o hb e=>L b o (Ig (eu U.z hb)) (Ig (eu U.TO hb)) (Ig (eu U.i1 hb)) (Ig (eu U.i2 hb)) e)
   rcases st.zp with ⟨h0,hz⟩ | ⟨T,υ,hz,hT⟩
   ·have W:=Oh (prog:=prog) (w:=w) (A:=A.in1) hh z TI TO i1 i2 ν ι ap xs ys;have J:min xs.size ys.size=xs.size:=by omega
    rw[J] at W;refine W.done {s with heap:=h,toks:=tk} _ _ ⟨hz,st.hI,st.hO,st.h1,st.h2,st.hl1,st.hl2⟩ λh' I L=>?_;exact hP (fin h' I λb o γ η α ζ e=>L b o (by simp[γ,η,α,ζ]) e)
   ·obtain⟨x,y,_,_,ρ,Y,_⟩:=st.got.pairs 0 T hT;refine AB (s:={s with heap:=h,toks:=tk}) hh ap hz Y st.hI st.h1 st.hl1 @E λh' L=>?_;exact hP (fin h' tk λb o γ η α ζ e=>L b o γ α e)
 | succ k ih=>
   intro i h tk c G as hk hi θ st kh φ ε;have ξ:i < xs.size:=by omega
   have ψ:xs[i]? =aT xs[i]:=Md ξ;have χ:ys[i]? =aT (ys[i]' @A):=Md @A;generalize xs[i]=x at ψ;generalize ys[i]'_=y at χ;refine JY F.entry_extend_loop ?_;rw[K3 F.plain_extend_loop];show hQ _ A.in1 (pyNext (.ref z) >>=_) _ _ _;refine dt ?_
   have go:∀(a:ee) (h':zx) (I:Nat),h.objs.size<=a->h'.IsTuple a #[x,y]->(∀b o,b≠z->b≠TO->b≠i1->b≠i2->h.get? b=aT o->h'.get? b=aT o)->lo<=h'.objs.size->
     (∃T υ,Busy h' z TI TO T υ/\(as++[a])[0]? =aT T)->IsPair h' TI (.ref i1) (.ref i2)->(∃a b,IsPair h' TO a b)->h'.IsListIter i1 ν (i + 1)->h'.IsListIter i2 ι (i + 1)->h'.IsList ν xs->h'.IsList ι ys->
     hQ (lT prog w) A.in1 (LF (.ref S) (λq=>q.push (.ref a)) >>=λ_=>again (Oz "list.extend.loop" {pos:=[.ref S,.ref z,res]}))
      (λfin s'=>match fin with | .done f=>R (.ok f) s' | .again c'=>c'.quiet=true/\codeAny (lT prog w) A c' R s') (λe s'=>R (.error e) s') {s with heap:=h',toks:=I}:=by
    intro a h' I ha ht L ο a0 hI hO h1 h2 hl1 hl2;have π:=L S _ U.Sz U.STO U.Si1 U.Si2 φ;have aS:a≠S:=Ig (eu (ig φ) ha);have hsz:G.size=i:=by have:=Hm KC ε;rw[cY,st.len] at this;simpa using this
    have oth:∀b o,b≠S->h'.get? b=aT o->(h'.update S (He λq=>q.push (.ref a))).get? b=aT o:=λb o hb e=>(I9 _ _ (xn hb)).trans e;have a6:=J2 (He (λq=>q.push (sb a))) π rfl;refine dt (Li (s:={s with heap:=h',toks:=I}) π rfl (hP ⟨plainId_quiet F.plain_extend_loop _,?_⟩) (by rw[hsz];omega) (by rw[NQ,hsz];omega));refine ih (i + 1) (h'.update S _) I _ (G.push (.ref a)) (as++[a]) @A ξ ?_ ⟨.inr ?_,?_,?_,?_,?_,?_,?_,?_,?_⟩ ?_ a6 ?_
    ·have es:(h'.update S (He λq=>q.push (.ref a))).objs.size=h'.objs.size:=(Hv ..).1;rw[es];exact ο
    ·obtain⟨T,υ,e,q⟩:=a0;exact⟨T,υ,oth _ _ (xn U.Sz) e,q⟩
    ·exact oth _ _ (xn U.STI) hI
    ·obtain⟨p,q,e⟩:=hO;exact⟨p,q,oth _ _ (xn U.STO) e⟩
    ·exact h1.at λo e=>oth _ o (xn U.Si1) e
    ·exact h2.at λo e=>oth _ o (xn U.Si2) e
    ·exact let ⟨o,e,c⟩:=hl1;⟨o,oth _ o (xn U.Sl1) e,c⟩
    ·exact let ⟨o,e,c⟩:=hl2;⟨o,oth _ o (xn U.Sl2) e,c⟩
    ·rw[eZ,st.len];rfl
    ·have g:=st.got.keep (h':=h'.update S (He λq=>q.push (.ref a))) λb o hb e=>oth b o (Ig (eu U.S hb)) (L b o (Ig (eu U.z hb)) (Ig (eu U.TO hb)) (Ig (eu U.i1 hb)) (Ig (eu U.i2 hb)) e);refine g.more (λb hb=>eu (st.got.above b hb).2 ha) (Ih θ ha) (by rw[st.len];exact ψ) (by rw[st.len];exact χ) (let ⟨o,e,c⟩:=ht;⟨o,oth _ o aS e,c⟩)
    ·exactλb o n1 γ η α ζ e=>oth b o n1 (L b o γ η α ζ (kh b o n1 γ η α ζ e))
    ·rw[Array.toList_push,ε,hu];rfl
   rcases st.zp with ⟨h0,hz⟩ | ⟨T,υ,hz,hT⟩
   ·have W:=Oh (prog:=prog) (w:=w) (A:=A.in1) hh z TI TO i1 i2 ν ι ap xs ys;have J:min xs.size ys.size=xs.size:=by omega
    rw[J] at W;refine W.item i {s with heap:=h,toks:=tk} _ _ ξ ⟨hz,st.hI,st.hO,st.h1,st.h2,st.hl1,st.hl2⟩ λT δ h' I hp hT ht ω L=>?_;obtain⟨x',y',ex,ey,rfl⟩:=hp;rw[ψ] at ex;cases ex;rw[χ] at ey;cases ey;obtain⟨m1,m2,τ,m4,m5,m6,m7,_⟩:=ω;have b3:as=[]:=LV (st.len.trans h0);refine go T h' I hT ht (λb o γ η α ζ e=>L b o (by simp[γ,η,α,ζ]) e) ?_ ⟨T,false,m1,by rw[b3];rfl⟩ m2 τ m4 m5 m6 m7;obtain⟨o,e,_⟩:=ht;exact Jn (Hf (Ih θ hT) (ig e))
   ·obtain⟨_,_,_,_,ρ,Y,_⟩:=st.got.pairs 0 T hT;refine yx (s:={s with heap:=h,toks:=tk}) ap hz Y st.hI st.h1 st.h2 st.hl1 st.hl2 ψ χ λh' a3 b1 b2 L ht=>?_;refine go h.objs.size h' tk (ov _) ⟨_,ht,rfl,_,rfl⟩ (λb o γ η α ζ e=>L b o γ α ζ e) ?_ ⟨T,true,a3,?_⟩ (L TI _ ap.TIz ap.TIi1 ap.TIi2 st.hI) (let ⟨p,q,e⟩:=st.hO;⟨p,q,L TO _ ap.TOz ap.TOi1 ap.TOi2 e⟩) b1 b2 (let ⟨o,e,c⟩:=st.hl1;⟨o,L ν o ap.l1z ap.l1i1 ap.l1i2 e,c⟩) (let ⟨o,e,c⟩:=st.hl2;⟨o,L ι o ap.l2z ap.l2i1 ap.l2i2 e,c⟩)
    ·have a4:h'.get? h.objs.size=_:=ht;exact Jn (Hf θ (ig a4))
    ·have:0 < as.length:=(b'.mp hT).1;rw[kA this];exact hT
theorem GR:typeLookup (.type "zip") "__len__"=pure none:=by rw[typeLookup_type,NH];kernel_rfl
theorem Fu:typeLookup (.type "zip") "__length_hint__"=pure none:=by rw[typeLookup_type,NH];kernel_rfl
structure New (h:zx) (z TI TO i1 i2 l1 l2:ee) (xs ys:HG):Prop where
 ap:ZipApart z TI TO i1 i2 l1 l2
 hz:IsZip h z TI TO .none
 hI:IsPair h TI (.ref i1) (.ref i2)
 hO:∃a b,IsPair h TO a b
 h1:h.IsListIter i1 l1 0
 h2:h.IsListIter i2 l2 0
 hl1:h.IsList l1 xs
 hl2:h.IsList l2 ys
theorem New.keep {h h':zx} {z TI TO i1 i2 I G:ee} {xs ys:HG} (n:New h z TI TO i1 i2 I G xs ys) (k:∀b o,h.get? b=aT o->(b=z∨b=TI∨b=TO∨b=i1∨b=i2∨b=I∨b=G)->h'.get? b=aT o):New h' z TI TO i1 i2 I G xs ys where
 ap:=n.ap
 hz:=k _ _ n.hz @E
 hI:=k _ _ n.hI @E
 hO:=let ⟨a,b,e⟩:=n.hO;⟨a,b,k _ _ e @E⟩
 h1:=n.h1.at λo e=>k _ o e @E
 h2:=n.h2.at λo e=>k _ o e @E
 hl1:=let ⟨o,e,c⟩:=n.hl1;⟨o,k _ o e @E,c⟩
 hl2:=let ⟨o,e,c⟩:=n.hl2;⟨o,k _ o e @E,c⟩
theorem FP {R:HM} {z TI TO i1 i2 α Y S:ee} {lo:Nat} {xs ys:HG} (ι:A.handled=eH) (U:Und z TI TO i1 i2 α Y S lo) (N:New s.heap z TI TO i1 i2 α Y xs ys) (hn:xs.size<=i') (β:ys.size=xs.size) (γ:lo<=s.heap.objs.size) (res:hG) {I:Nat} (φ:s.heap.get? S=aT {cls:= .type "list",data:= .seq #[] I})
  (Z:∀h' tk J c as,(∀b o,b≠S->b≠z->b≠TO->b≠i1->b≠i2->s.heap.get? b=aT o->h'.get? b=aT o)->h'.get? S=aT {cls:= .type "list",data:= .seq J c}->J.toList=as.map .ref->as.length=xs.size->ZGot h' lo xs ys as->R (.ok (.ret res)) {s with heap:=h',toks:=tk}):
  hQ (lT prog w) A.in1 (IT (.ref S) (.ref z) res)
   (λfin s'=>match fin with | .done f=>R (.ok f) s' | .again η=>η.quiet=true/\codeAny (lT prog w) A η R s') (λe s'=>R (.error e) s') s:=by
 have ty:s.TypeIs (.ref z) "zip":=⟨_,N.hz,rfl⟩;have h1:Lz (.ref S) (.ref z)=false:=by simp[Lz,U.Sz]
 unfold IT;refine dt (wpAny_typeOf ty ?_);rw[nk (by rw[h1];decide)];refine dt (wpAny_pyIter_zip N.hz ?_);refine dt (JX ?_);unfold Builtin.List.listLengthHint;refine dt (Mw ty GR ?_);show hQ _ A.in1 (specialOf (sb z) (Kn "__length_hint__") >>=_) _ _ _;refine dt (Mw ty Fu ?_);refine hP ?_;dsimp only;rw[pe @C];refine dt (Oa (dt ?_));show hQ _ _ (updateSeq S (λx=>x.push .none) >>=λ_=>updateSeq S λx=>x.pop) _ _ s;have e1:=J2 (He (λx=>x.push Ic)) φ rfl;have L:∀b o,b≠S->s.heap.get? b=aT o->(s.heap.update S (He (λx=>x.push Ic))).get? b=aT o:=λb o hb e=>(I9 _ _ (xn hb)).trans e;have χ:(s.heap.update S (He (λx=>x.push Ic))).objs.size=s.heap.objs.size:=(Hv ..).1;refine dt (Li φ rfl ?_ (by show 0<=i';exact J1 _) (by show 1<=i' + 1;omega));generalize ξ:s.heap.update S (He (λx=>x.push Ic))=g1 at e1 L χ;refine Li (s:={s with heap:=g1}) e1 rfl ?_ (by show 1<=i';rw[mc];decide) (by show 0<=i' + 1;omega);have ζ:=J2 (He (λx=>x.pop)) e1 rfl;have G:∀b o,b≠S->g1.get? b=aT o->(g1.update S (He (λx=>x.pop))).get? b=aT o:=λb o hb e=>(I9 _ _ (xn hb)).trans e;have δ:(g1.update S (He (λx=>x.pop))).objs.size=g1.objs.size:=(Hv ..).1;generalize ν:g1.update S (He (λx=>x.pop))=g2 at ζ G δ;refine hP ⟨plainId_quiet F.plain_extend_loop _,?_⟩
 have N2:New g2 z TI TO i1 i2 α Y xs ys:=N.keep λb o e hb=>by
  have ε:b≠S:=by
   rcases hb with rfl | rfl | rfl | rfl | rfl | rfl | rfl
   ·exact xn U.Sz
   ·exact xn U.STI
   ·exact xn U.STO
   ·exact xn U.Si1
   ·exact xn U.Si2
   ·exact xn U.Sl1
   ·exact xn U.Sl2
  exact G b o ε (L b o ε e)
 exact loop (s:=s) (h₁:=s.heap) ι U hn β res Z xs.size 0 g2 s.toks _ #[] [] (Nat.sub_zero _) (J1 _) (by rw[δ,χ];exact γ) ⟨.inl ⟨rfl,N2.hz⟩,N2.hI,N2.hO,N2.h1,N2.h2,N2.hl1,N2.hl2,rfl,⟨Mc,λ_ h=>hE h @E,λj a θ=>by simp at θ⟩⟩ (λb o n1 _ _ _ _ e=>G b o n1 (L b o n1 e)) ζ rfl
theorem init {R:HM} {z TI TO i1 i2 γ Y S:ee} {lo:Nat} {xs ys:HG} (θ:A.handled=eH) (U:Und z TI TO i1 i2 γ Y S lo) (N:New s.heap z TI TO i1 i2 γ Y xs ys) (hn:xs.size<=i') (β:ys.size=xs.size) (J:lo<=s.heap.objs.size) (φ:s.heap.get? S=aT {cls:= .type "list",data:= .seq #[]})
  (Z:∀h' tk G c as,(∀b o,b≠S->b≠z->b≠TO->b≠i1->b≠i2->s.heap.get? b=aT o->h'.get? b=aT o)->h'.get? S=aT {cls:= .type "list",data:= .seq G c}->G.toList=as.map .ref->as.length=xs.size->ZGot h' lo xs ys as->R (.ok (.ret .none)) {s with heap:=h',toks:=tk}):
  hQ (lT prog w) A.in1 (Builtin.«list.__init__» ⟨[.ref S,.ref z],[]⟩)
   (λfin s'=>match fin with | .done f=>R (.ok f) s' | .again δ=>δ.quiet=true/\codeAny (lT prog w) A δ R s') (λe s'=>R (.error e) s') s:=by
 show hQ _ _ (do let I <-LQ (.ref S);LF (.ref S) (λ_=>#[]);letGo I.toList.reverse;IT (.ref S) (.ref z) .none) _ _ s;refine dt ?_;unfold LQ;refine dt (KJ φ rfl (hP ?_));show hQ _ _ (updateSeq S (λ_=>#[]) >>=λ_=>letGo (#[]:HG).toList.reverse >>=λ_=>IT (.ref S) (.ref z) .none) _ _ s;refine dt (Li φ rfl ?_);have L:=J2 (He (λ_=>(#[]:HG))) φ rfl;have oth:∀b o,b≠S->s.heap.get? b=aT o->(s.heap.update S (He (λ_=>(#[]:HG)))).get? b=aT o:=λb o hb e=>(I9 _ _ (xn hb)).trans e;have es:(s.heap.update S (He (λ_=>(#[]:HG)))).objs.size=s.heap.objs.size:=(Hv ..).1;refine dt (wpAny_letGo ?_);refine FP (s:={s with heap:=_}) θ U (N.keep λb o e hb=>oth b o ?_ e) hn β (by show lo<=(s.heap.update S _).objs.size;rw[es];exact J) .none L λh' tk G c as k a1 a2 ν ι=>Z h' tk G c as (λb o n1 η ζ α ε e=>k b o n1 η ζ α ε (oth b o n1 e)) a1 a2 ν ι;rcases hb with rfl | rfl | rfl | rfl | rfl | rfl | rfl
 ·exact xn U.Sz
 ·exact xn U.STI
 ·exact xn U.STO
 ·exact xn U.Si1
 ·exact xn U.Si2
 ·exact xn U.Sl1
 ·exact xn U.Sl2
theorem call_list {Q:D'} {z TI TO i1 i2 ζ ε:ee} {xs ys:HG} (ξ:A.handled=eH) (N:New s.heap z TI TO i1 i2 ζ ε xs ys) (hn:xs.size<=i') (β:ys.size=xs.size)
  (ψ:∀h' tk G c as,(∀b o,b≠z->b≠TO->b≠i1->b≠i2->s.heap.get? b=aT o->h'.get? b=aT o)->h'.get? s.heap.objs.size=aT {cls:= .type "list",data:= .seq G c}->G.toList=as.map .ref->as.length=xs.size->ZGot h' (s.heap.objs.size + 1) xs ys as->Q (.ref s.heap.objs.size) {s with heap:=h',toks:=tk}):
  hQ (lT prog w) A (call (.type "list") [.ref z]) Q E s:=by
 have η:=ig N.hz;have Z:=ig N.hI;obtain⟨τ,pb,ο⟩:=N.hO;have γ:=ig ο;have L:i1 < s.heap.objs.size:=let ⟨o,e,_⟩:=N.h1;ig e
 have J:i2 < s.heap.objs.size:=let ⟨o,e,_⟩:=N.h2;ig e
 have Y:ζ < s.heap.objs.size:=let ⟨o,e,_⟩:=N.hl1;ig e
 have δ:ε < s.heap.objs.size:=let ⟨o,e,_⟩:=N.hl2;ig e
 refine callType_codes (Q₁:=λobj I=>obj= .ref s.heap.objs.size/\I={s with heap:=s.heap.push {cls:= .type "list",data:= .seq #[]}}) F.called_list (F.typeCall_list_1 _) F.entry_list_init (code_list_new _ ⟨rfl,rfl⟩) λobj I h₁=>?_;obtain⟨rfl,rfl⟩:=h₁;have φ:(s.heap.push {cls:= .type "list",data:= .seq #[]}).get? s.heap.objs.size=aT {cls:= .type "list",data:= .seq #[]}:=la _ rfl;have up:∀{b:ee},b < s.heap.objs.size->b < s.heap.objs.size + 1:=λh=>Jg h;have ne:∀{b:ee},b < s.heap.objs.size->s.heap.objs.size≠b:=λh=>Ig h;have U:Und z TI TO i1 i2 ζ ε s.heap.objs.size (s.heap.objs.size + 1):=⟨N.ap,ne η,ne Z,ne γ,ne L,ne J,ne Y,ne δ,up η,up γ,up L,up J,Il _⟩;have sz:(s.heap.push {cls:= .type "list",data:= .seq #[]}).objs.size=s.heap.objs.size + 1:=by simp[Heap.push]
 refine⟨⟨_,φ,rfl⟩,F.args_list_init_2 _ _,init (A:=A.in1) (s:={s with heap:=_}) ξ U (N.keep λb o e _=>ek _ e) hn β (LL sz.symm) φ λh' tk G c as k a1 a2 ρ π=>?_⟩;exact⟨rfl,ψ h' tk G c as (λb o ν ι α θ e=>k b o (Hl (ig e)) ν ι α θ (ek _ e)) a1 a2 ρ π⟩
end
end ZP
open PySem PySem.Spec PyProof.Rows
theorem rV:∀as:HJ,Vals (as.map V.ref) (as.map sb)
 | []=> .nil
 | _::as=> .cons rfl (rV as)
theorem Bh {X:Cx} {pins:E'} {σ:St} {s0 s:f'} {H0:Hp} (I0:Inv X pins σ H0 s0):∀(as:HJ) (xs ys:ef V) (H:Hp),Inv X pins σ H s->as.Pairwise (· < ·)->(∀a∈as,s0.heap.objs.size<=a/\H a=eH)->as.length=xs.length->as.length=ys.length->
  (∀(j:Nat) (a:ee) (x y:V),as[j]? =aT a->xs[j]? =aT x->ys[j]? =aT y->∃u v,RelV x u/\RelV y v/\s.heap.IsTuple a #[u,v])->
  ∃H2,Inv X pins σ H2 s/\Same H H2/\(∀b,b∉as->H2 b=H b)/\∀(j:Nat) (a:ee) (x y:V),as[j]? =aT a->xs[j]? =aT x->ys[j]? =aT y->H2 a=aT (.tup [x,y])
 | [],_,_,H,I,_,_,_,_,_=>⟨H,I,Same.refl _,λ_ _=>rfl,λj a x y h=>by simp at h⟩
 | a::as,[],_,H,I,_,_,h,_,_=>by simp at h
 | a::as,_,[],H,I,_,_,_,h,_=>by simp at h
 | a::as,x::xs,y::ys,H,I,pw,fr,l1,l2,ht=>by
   obtain⟨u,v,γ,β,o,e,c⟩:=ht 0 a x y rfl rfl rfl;have Z:=fr a (Ha ..);have G:=List.pairwise_cons.mp pw;have ε:a∉as:=λh=>IV _ (G.1 a h);have ι:Inv X pins σ (upd H a (.tup [x,y])) s:=I.track (I0.fpN (IS Z.1) Z.2) ⟨ve,[u,v],.cons γ (.cons β .nil),o,e,c⟩;obtain⟨H2,θ,α,o2,g2⟩:=Bh I0 as xs ys (upd H a (.tup [x,y])) ι G.2 (λb hb=>⟨(fr b (p' _ hb)).1,by rw[aC (λz:b=a=>ε (by rw[<-z];exact hb))];exact(fr b (p' _ hb)).2⟩) (by simpa using l1) (by simpa using l2) λj b L J h1 h2 Y=>ht (j + 1) b L J (by simpa using h1) (by simpa using h2) (by simpa using Y);refine⟨H2,θ,λb δ h=>α b δ (by rw[aC (au h Z.2)];exact h),λb hb=>?_,λj b L J h1 h2 Y=>?_⟩
   ·rw[o2 b λz=>hb (p' _ z),aC (λz:b=a=>hb (by rw[z];exact Ha ..))]
   ·cases j with
    | zero=>
      have e1:a=b:=by simpa using h1
      have η:x=L:=by simpa using h2
      have ζ:y=J:=by simpa using Y
      subst e1 η ζ;exact α a _ aJ
    | succ j=>exact g2 j b L J (by simpa using h1) (by simpa using h2) (by simpa using Y)
def DW (K:a') (Q:VK) (x y:V) (H:Hp):Prop:=∃a b xs ys,x= .ref a/\y= .ref b/\SqL K H a xs/\SqL K H b ys/\xs.length=ys.length/\
 ∀(D:ee) (ps:HJ) (G:Hp),H D=eH->Same H G->G D=aT (.lst (ps.map V.ref))->ps.length=xs.length->(∀(j:Nat) (p:ee) (x y:V),ps[j]? =aT p->xs[j]? =aT x->ys[j]? =aT y->G p=aT (.tup [x,y]))->Q (.ref D) G
noncomputable def tZip (K:a') (G Z:TE):TE:=fun σ H Q=>G σ H λx H1=>Z σ H1 λy H2=>DW K Q x y H2
theorem EC {K:a'} {G Z:TE} {σ:St} {H:Hp} {Q:VK} (h:G σ H λx H1=>Z σ H1 λy H2=>DW K Q x y H2):tZip K G Z σ H Q:=h
section
variable {X:Cx}
theorem FQ {K:a'} {e1 L:Hi} {ν Z:TE} {p1 p2:Pos} {pins:E'} {s:f'} {σ:St} {H:Hp} {Q:VK} (hK:X.K=K) (g2:Gl X "zip") (n2:X.mg "zip"=eH) (ι:PE X e1 ν) (η:PE X L Z) (h2:oD [e1,L] X.env=(false,eval e1 X.env)::oD [L] X.env) (π:oD [L] X.env=[(false,eval L X.env)])
  (I:Inv X pins σ H s) (h:tZip K ν Z σ H Q) (ρ:D')
  (ψ:∀(J:f') (h':zx) (H1:Hp) (a b:ee) (xs ys:ef V) (its θ:F'),Inv X pins σ H1 J->Vals xs its->Vals ys θ->its.length<=i'->xs.length=ys.length->h'.objs.size=J.heap.objs.size + 5->(∀c o,J.heap.get? c=aT o->h'.get? c=aT o)->
   ZP.New h' (J.heap.objs.size + 4) (J.heap.objs.size + 2) (J.heap.objs.size + 3) J.heap.objs.size (J.heap.objs.size + 1) a b its.toArray θ.toArray->
   (∀(D:ee) (ps:HJ) (G:Hp),H1 D=eH->Same H1 G->G D=aT (.lst (ps.map V.ref))->ps.length=xs.length->(∀(j:Nat) (p:ee) (x y:V),ps[j]? =aT p->xs[j]? =aT x->ys[j]? =aT y->G p=aT (.tup [x,y]))->Q (.ref D) G)->
   ρ (.ref (J.heap.objs.size + 4)) {J with heap:=h'}):
  hQ (lT X.prog X.w) X.A (eval (.Call (.Name "zip" p1) [e1,L] [] p2) X.env) ρ X.xe s:=by
 subst hK;refine N9 (iS I g2 n2 PyProof.Rows.boot_zip (Hh (thn (aa ι (aa η af π) h2 p2 pins s σ H (λvs H1=>match vs with | [x,y]=>DW X.K Q x y H1 | _=>False) I h) λus J ⟨vs,H1,I1,Y,ε⟩=>?_) h2 (by rw[π];rfl)))
 match vs,Y,ε with
 | [x,y],Y,ε=>
 obtain⟨a,b,xs,ys,ex,ey,sa,ξ,hl,q⟩:=ε;subst ex ey;cases Y with
 | cons rx r2=>
 cases r2 with
 | cons ω r3=>
 cases r3;cases rx;cases ω;obtain⟨its,ο,ζ,α⟩:=I1.list sa;obtain⟨θ,rb,pb,δ⟩:=I1.list ξ;have γ:a < J.heap.objs.size:=let ⟨o,e,_⟩:=ζ.isList;gA e
 have lb:b < J.heap.objs.size:=let ⟨o,e,_⟩:=pb.isList;gA e
 refine call_zip_2 ζ.isList pb.isList λh' χ φ β υ τ hsz k=>?_;exact ψ J h' H1 a b xs ys its θ I1 ο rb (by rw[<-ο.length];exact α) hl hsz k ⟨zipApart_new γ lb,χ,φ,⟨_,_,β⟩,υ,τ,let ⟨o,e,c⟩:=ζ.isList;⟨o,k _ o e,c⟩,let ⟨o,e,c⟩:=pb.isList;⟨o,k _ o e,c⟩⟩ q
theorem lN {K:a'} {e1 L:Hi} {t1 Z:TE} {p1 p2 q1 ν:Pos} (hK:X.K=K) (hc:X.calm=true) (g1:Gl X "list") (g2:Gl X "zip") (n1:X.mg "list"=eH) (n2:X.mg "zip"=eH) (a4:PE X e1 t1) (a3:PE X L Z)
  (h1:oD [NB (.Name "zip" p1) [e1,L] [] p2] X.env=[(false,eval (.Call (.Name "zip" p1) [e1,L] [] p2) X.env)]:=by rfl) (h2:oD [e1,L] X.env=(false,eval e1 X.env)::oD [L] X.env:=by rfl) (h3:oD [L] X.env=[(false,eval L X.env)]:=by rfl):
  PE X (.Call (.Name "list" q1) [.Call (.Name "zip" p1) [e1,L] [] p2] [] ν) (tZip K t1 Z):=by
 intro pins s σ H Q I h;refine N9 (iS I g1 n1 Jd (Hh (Q:=EP X pins σ Q) ?_ h1 rfl));rw[h1];show hQ _ _ (spliced ((false,eval (.Call (.Name "zip" p1) [e1,L] [] p2) X.env)::backTo ν [])) _ _ s;refine Ko (FQ hK g2 n2 a4 a3 h2 h3 I h _ λJ h' H1 a b xs ys its θ I1 π χ α hl hsz k N q=>KB ?_);have a0:θ.toArray.size=its.toArray.size:=by have:=π.length;have:=χ.length;simp;omega
 refine ZP.call_list (s:={J with heap:=h'}) (I1.ok.hd hc) N (by simpa using α) a0 λh2 tk a5 c as kk ι ε ο G=>?_
 have τ:∀b o,J.heap.get? b=aT o->h2.get? b=aT o:=λb o e=>by
  have lt:=gA e;exact kk b o (Hl (eu lt (JL _ _))) (Hl (eu lt (JL _ _))) (Hl lt) (Hl (eu lt (JL _ _))) (k b o e)
 have I2:Inv X pins σ H1 {J with heap:=h2,toks:=tk}:=I1.kept (t':=tk) τ;have ψ:as.length=xs.length:=by rw[ο,π.length];simp
 have γ:∀p∈as,J.heap.objs.size<=p/\H1 p=none:=λp ξ=>by
  have h0:J.heap.objs.size<=p:=Ih (by show J.heap.objs.size<=h'.objs.size + 1;rw[hsz];exact Ih (JL _ _) (JE _)) (G.above p ξ).1;exact⟨h0,I1.hok.fresh h0⟩
 obtain⟨H3,I3,s3,o3,ρ⟩:=Bh I1 as xs ys H1 I2 G.rise γ ψ (ψ.trans hl) λj p x y ξ ω φ=>by
  obtain⟨u,v,β,hv,ht⟩:=G.pairs j p ξ;rw[List.getElem?_toArray] at β hv;obtain⟨u',δ,ru⟩:=π.get ω;obtain⟨v',ev,rv⟩:=χ.get φ;rw[δ] at β;cases β;rw[ev] at hv;cases hv;exact⟨u,v,ru,rv,ht⟩
 have η:J.heap.objs.size<=h'.objs.size:=by rw[hsz];exact JL _ _
 have fD:H1 h'.objs.size=none:=I1.hok.fresh η;have υ:h'.objs.size∉as:=λz=>Nat.not_succ_le_self _ (G.above _ z).1;have Y:H3 h'.objs.size=none:=by rw[o3 _ υ];exact fD
 have ζ:J.heap.get? h'.objs.size=none:=IS η;have I4:Inv X pins σ (upd H3 h'.objs.size (.lst (as.map V.ref))) {J with heap:=h2,toks:=tk}:=I3.track (I1.fpN ζ Y) ⟨by rw[cY,ψ,π.length];exact α,as.map .ref,c,rV as,by rw[<-ε];exact ι⟩;refine⟨.ref h'.objs.size,_,I4,rfl,q h'.objs.size as _ fD (λb ob e=>?_) aJ ψ λj p x y ξ ω φ=>?_⟩
 ·rw[aC (au (s3 b ob e) Y)];exact s3 b ob e
 ·have:=ρ j p x y ξ ω φ;rw[aC (au this Y)];exact this
end
structure FunD (K:a') (x qual:Hk) (st:JQ) (f:ee) (fd:kv) (dv:hG):Prop where
 ex:∃(oc:hG) (od:HL) (T:ee) (kV doc pm:hG) (an:HL) (cdv ct:hG) (osl:HH) (tc:hG) (td:HL) (n:Nat) (tsl:HH),
  fd=Iw x qual (d4 st) (cM st) (ah st) (.ref T) kV doc pm an cdv ct/\K.lookup f=aT ⟨oc,od,.func fd,osl⟩/\JC K cdv qual=true/\K.lookup T=aT ⟨tc,td,.seq #[dv] n,tsl⟩
 kp:Iy K (.ref f)=true
section
variable {P:px} {w:wq} {K:a'} {mg:G'} {base:zx}
theorem FunD.okX {x qual:Hk} {st:JQ} {f:ee} {fd:kv} {dv:hG} {N ps:C'} {k:Nat} {sp:Sp} (F:FunD K x qual st f fd dv) (S:aB N ps (ah st)) (len:∀vs H Q E,sp vs H Q E->vs.length=ps.length)
  (J:∀(G:hG) (A:Hg) (outer:ef Env) (s:f') (H:Hp) (vs:ef V) (Q:VK) (E:XK),Room k (A.deeper (envOfC qual (ah st) s.heap.objs.size f G))->sp vs H Q E->
   ∃t,PSs ((cxOf (CX1 P w) P w K mg base N qual (ah st) f G A outer s H E).thr λ_=>E) (cM st) t/\t {nx:=λ_ H'=>Q .non H',rt:=Q} (kF N vs) H):FnOk P w K mg base (CX1 P w) (k + 1) f fd ps sp:=by
 obtain⟨φ,od,T,kV,α,I,an,G,ct,ν,tc,td,n,β,rfl,lk,L,_⟩:=F.ex;refine AS lk L S len λA outer s H vs Q E Y ω=>?_;obtain⟨t,h,q⟩:=J G A outer s H vs Q E Y ω;exact⟨t,h.thr vB,q⟩
theorem FunD.binds {x qual:Hk} {st:JQ} {f:ee} {fd:kv} {dv:hG} {ps:C'} {ds:F'} (F:FunD K x qual st f fd dv)
  (h:∀(T:ee) (kV α I:hG) (an:HL) (G ct:hG) (us:F'),(us++ds).length=ps.length->∃k:ry HG->Sem HP,bindArgs (Iw x qual (d4 st) (cM st) (ah st) (.ref T) kV α I an G ct) ⟨us,[]⟩=(seqItems? (.ref T) >>=k)/\k (aT #[dv])=pure (ps.zip (us++ds))):kC K fd ps ds:=by
 obtain⟨φ,od,T,kV,α,I,an,G,ct,ν,tc,td,n,β,rfl,lk,L,ε⟩:=F.ex;intro s us Y J;obtain⟨k,e1,Z⟩:=h T kV α I an G ct us J;exact BindsTo.of_defaults (T:=T) rfl (Y T _ ε) rfl e1 Z
theorem DL {x qual:Hk} {st:JQ} {f T:ee} {φ tc dv:hG} {od an td:HL} {ν β:HH} {n:Nat} {kV α I G ct:hG} (l:K.lookup f=aT ⟨φ,od,.func (Iw x qual (d4 st) (cM st) (ah st) (.ref T) kV α I an G ct),ν⟩)
  (ε:K.lookup T=aT ⟨tc,td,.seq #[dv] n,β⟩) (c:JC K G qual=true) (k:Iy K (.ref f)=true):FunD K x qual st f (Iw x qual (d4 st) (cM st) (ah st) (.ref T) kV α I an G ct) dv:=⟨⟨φ,od,T,kV,α,I,an,G,ct,ν,tc,td,n,β,rfl,l,c,ε⟩,k⟩
end
section
variable {σ:St} {H:Hp} {Q:VK} {te:TE}
def zH (C:ee) (m:Hk) (sp:Sp) (dvs:ef V) (W:XW) (tr:TA) (σ:St) (Q:VK) (x:V) (H:Hp):Prop:=∃a dx fs,x= .ref a/\H a=aT (.ins C dx fs)/\fs.lookup m=eH/\tr σ H λvs H2=>sp (x::(vs++dvs)) H2 Q (W σ)
theorem i7 {C:ee} {m:Hk} {sp:Sp} {dvs:ef V} {W:XW} {tr:TA} (h:te σ H (zH C m sp dvs W tr σ Q)):Bj C m sp dvs W te tr σ H Q:=h
theorem bN {C dx p:ee} {m:Hk} {fs:ef (Hk×V)} {sp:Sp} {dvs:ef V} {W:XW} {tr:TA} (e:H p=aT (.ins C dx fs)) (l:fs.lookup m=eH) (h:tr σ H λvs H2=>sp (.ref p::(vs++dvs)) H2 Q (W σ)):zH C m sp dvs W tr σ Q (.ref p) H:=⟨p,dx,fs,rfl,e,l,h⟩
end
noncomputable abbrev xBM:F':=[.type "ValueError",.type "Exception",.type "BaseException",.type "object"]
structure XOwn (K:a') (C W f:ee):Prop where
 lk:∃nm q N bs sn sub ab col dd k0 k1 k2 k3 k5,K.lookup C=aT (excClassObj nm q C N bs (.ref W::xBM) true sn sub ab col dd k0 k1 k2 k3 k5 "ValueError.__new__")
 up:L6 K W xBM "ValueError.__new__"=true
 init:zP K (.ref C) "__init__"=aT (aT (.ref f))
 fn:Lm K (.ref f)=true
 kp:Iy K (.ref C)=true
 sa:zP K (.ref C) "__setattr__"=aT (aT (.builtin "object.__setattr__"))
 mo:J7 K C (.type "object")=aT true
 mv:J7 K C (.type "ValueError")=aT true
section
variable {X:Cx} {pins:E'} {σ:St} {H:Hp} {s:f'} {p C W f:ee} {fs:ef (Hk×V)}
structure Hc (K:a') (W:ee):Prop where
 ga:Jw K (.ref W) "__getattribute__"=aT (aT (.builtin "type.__getattribute__"))
 rd:Nc K W (.type "type")=true
 fd:Ng K (.ref W) (.type "type") "__init__"=aT (.val (.builtin "ValueError.__init__"))
theorem CM {st:JQ}:PS X st (λ_ _ _=>False):=λ_ _ _ _ _ _ h=>h.elim
end
noncomputable def GK:ef V->Hp->VK->Prop:=λxs H Q=>∃a b:Int,xs=[.int a,.int b]/\Q (.int (min a b)) H
section
variable {X:Cx}
theorem zr (hc:X.calm=true):jT X (.builtin "min") GK:=by
 intro pins s σ H xs us Q I r h;obtain⟨a,b,rfl,q⟩:=h;obtain⟨u,v,rfl,J,G⟩:=B5 r;obtain⟨t,rfl⟩:=J;obtain⟨t',rfl⟩:=G;refine min_two_ints (I.ok.hd hc) λh' tk hk=>?_;refine⟨.int (min a b),H,I.kept hk,?_,q⟩;by_cases hb:b < a
 ·rw[pe hb,show min a b=b by omega];exact⟨_,rfl⟩
 ·rw[nk hb,show min a b=a by omega];exact⟨_,rfl⟩
end
end L2
namespace PySem
end PySem
namespace L2
open PySem PySem.Spec PyProof.Rows
end L2
namespace PySem
end PySem
namespace L2
open PySem PySem.Spec PyProof.Rows
noncomputable def del (H:Hp) (p:ee):Hp:=λb=>if b=p then eH else H b
inductive PH (X:Cx) (Wo:XW):ef ExceptHandler->(Ends->XW)->Prop where
 | nil:PH X Wo [] (λ_=>Wo)
 | cons {G:ee} {g n:Hk} {i:Nat} {gp hp:Pos} {b₀:JQ} {suite:ef JQ} {ts:TS} {hs:ef ExceptHandler} {WR:Ends->XW} (cg:DZ X.K G) (hg:Gl X g) (hm:X.mg g=aT (.ref G)) (hi:X.N[i]? =aT n) (hk:X.env.scope.names.lookup n=aT .local)
   (hs':∀pins e,PSs (X.mark pins e) (b₀::suite) ts) (hdb:(g == ("__debug__":Hk))=false) (r:PH X Wo hs WR):PH X Wo (.ExceptHandler (aT (.Name g gp)) (aT n) (b₀::suite) hp::hs) (λD=>WTry X.K G i (WR D) ts D)
section
variable {M:Model} {A:Hg} {E:D'}
noncomputable def rE (x:Hk×NameKind) (cells:HN):Sem (ForInStep HN):=
 match x with
 | (name,kind)=>
   if (kind == HW)=true then do
    let c <-alloc {cls:=Ik "cell",data:=Km eH}
    pure (IP ((name,c)::cells))
   else pure (IP cells)
theorem vL {Q:HN->f'->Prop} {s:f'} {cells:HN}:∀{names:ef (Hk×NameKind)},(∀y∈names,y.2≠.cell)->Q cells s->hQ M A (forIn names cells rE) Q E s
 | [],_,q=>by rw[LX];exact hP q
 | (x,k)::l,h,q=>by
   rw[JW];refine dt ?_;have hk:(k == HW)=false:=vr.mpr (h _ Ha);show hQ M A (if (k == HW)=true then _ else _) _ E s;rw[hk];exact hP (vL (λy G=>h y (p' _ G)) q)
theorem tq {Q:HN->f'->Prop} {s:f'} {cells:HN} {x0:Hk} {Y:ef (Hk×NameKind)} (h2:∀y∈Y,y.2≠.cell)
  (q:Q ((x0,s.heap.objs.size)::cells) {s with heap:=s.heap.push {cls:=Ik "cell",data:=Km eH}}):∀{pre:ef (Hk×NameKind)},(∀y∈pre,y.2≠.cell)->hQ M A (forIn (pre++(x0,.cell)::Y) cells rE) Q E s
 | [],_=>by
   rw[NZ,JW];refine dt ?_;show hQ M A (alloc {cls:=Ik "cell",data:=Km eH} >>=λc=>pure (IP ((x0,c)::cells))) _ E s;refine dt (wpAny_alloc' ?_);exact hP (vL h2 q)
 | (x,k)::l,h=>by
   rw[List.cons_append,JW];refine dt ?_;have hk:(k == HW)=false:=vr.mpr (h _ Ha);show hQ M A (if (k == HW)=true then _ else _) _ E s;rw[hk];exact hP (tq h2 q (λy G=>h y (p' _ G)))
theorem DM {s:f'} {G:Hy} {globals:ee} {I:HN} {qual:Hk} {func:HL} {code:hG} {out:Env} {bl:ee} {Q:Env->f'->Prop} {x0:Hk} {pre Y:ef (Hk×NameKind)}
  (hn:G.names=pre++(x0,.cell)::Y) (h1:∀y∈pre,y.2≠.cell) (h2:∀y∈Y,y.2≠.cell)
  (q:Q {scope:=G,locals:=s.heap.objs.size,globals:=globals,cells:=(x0,s.heap.objs.size + 1)::I,qual:=qual,func:=func,code:=out.code,frame:=out.frame,builtins:=out.builtins}
   {s with heap:=(s.heap.push {cls:=Ik "dict",data:=ND #[]}).push {cls:=Ik "cell",data:=Km eH}}):
  hQ M A (newFunctionEnv G globals I [] qual func code (aT out) bl) Q E s:=by
 unfold newFunctionEnv;refine dt ?_;refine wpAny_alloc' ?_;refine dt ?_;show hQ M A (forIn G.names I rE) _ E _;rw[hn];refine tq h2 ?_ h1;show hQ M A (pure _) _ E _;refine hP ?_;rw[Ij];exact q
end
structure fc (osc:Hy) (ON N:C') (n:Nat) (fx:D7) (x0:Hk) (sc:Hy):Prop where
 kind:sc.kind= .function
 one:∃pre post,sc.names=pre++(x0,.cell)::post/\(∀y∈pre,y.2≠.cell)/\∀y∈post,y.2≠.cell
 its:sc.names.lookup x0=aT .cell
 own:∀y∈sc.names,y.2= .local->sc.names.lookup y.1=aT .local
 fre:∀y∈sc.names,y.2= .free->osc.names.lookup y.1=aT .cell∨osc.names.lookup y.1=aT .free
 len:N.length=n + fx.length
 frn:∀k,k < fx.length->∃x j,N[n + k]? =aT x/\fx[k]? =aT j/\ON[j]? =aT x/\sc.names.lookup x=aT .free
theorem fc.cel {osc:Hy} {ON N:C'} {n:Nat} {fx:D7} {x0:Hk} {G:Hy} (S:fc osc ON N n fx x0 G):∀y∈G.names,y.2= .cell->y.1=x0:=λy hy e=>by
 obtain⟨pre,Y,hn,h1,h2⟩:=S.one;rw[hn] at hy;rcases lx.mp hy with h | h
 ·exact hE e (h1 y h)
 ·rcases Hn.mp h with h | h
  ·rw[h]
  ·exact hE e (h2 y h)
noncomputable def qP (x0:Hk):ef (Hk×NameKind)->IA
 | []=>false
 | (x,k)::l=>if k= .cell then decide (x=x0)&&decide (∀y∈l,y.2≠.cell) else qP x0 l
theorem nU {x0:Hk}:∀{l:ef (Hk×NameKind)},qP x0 l=true->∃pre Y,l=pre++(x0,.cell)::Y/\(∀y∈pre,y.2≠.cell)/\∀y∈Y,y.2≠.cell
 | [],h=>by cases h
 | (x,k)::l,h=>by
   unfold qP at h;by_cases hk:k= .cell
   ·rw[pe hk,IK,Jj,Jj] at h;exact⟨[],l,by rw[hk,h.1];rfl,λy G=>(by cases G),h.2⟩
   ·rw[nk hk] at h;obtain⟨pre,Y,e,h1,h2⟩:=nU h;exact⟨(x,k)::pre,Y,by rw[e];rfl,λy G=>by rcases Hn.mp G with z | z;(rw[z];exact hk);exact h1 y z,h2⟩
noncomputable def uP (osc:Hy) (ON N:C') (n:Nat) (fx:D7) (x0:Hk) (G:Hy):Bool:=
 decide (G.kind= .function)&&qP x0 G.names&&decide (G.names.lookup x0=aT .cell)&&decide (∀y∈G.names,y.2= .local->G.names.lookup y.1=aT .local)&&
 decide (∀y∈G.names,y.2= .free->osc.names.lookup y.1=aT .cell∨osc.names.lookup y.1=aT .free)&&decide (n<=N.length)&&y3 ON G (N.drop n) fx
theorem fc.of {osc:Hy} {ON N:C'} {n:Nat} {fx:D7} {x0:Hk} {I:Hy} (h:uP osc ON N n fx x0 I=true):fc osc ON N n fx x0 I:=by
 simp only[uP,IK,Jj] at h;obtain⟨⟨⟨⟨⟨⟨h1,h2⟩,G⟩,L⟩,θ⟩,Y⟩,J⟩:=h;obtain⟨l,q⟩:=oG J;refine⟨h1,nU h2,G,L,θ,?_,λk hk=>?_⟩
 ·rw[Jq] at l;omega
 ·obtain⟨x,j,a,b⟩:=q k hk;exact⟨x,j,by rw[JB] at a;exact a,b⟩
noncomputable def hU (X:Cx) (N:C') (G:Hy) (x0:Hk) (J:HN) (C:ee) (I:HJ) (s:f') (H:Hp):Cx:={il X N G ((x0,C + 1)::J) C I s H with fn:=λx=>decide (x=x0)}
theorem dG {x0 x:Hk} {c d:ee} {G:HN} (h:((x0,c)::G).lookup x=aT d):(x=x0/\d=c)∨(x≠x0/\G.lookup x=aT d):=by
 rw[Jb] at h;by_cases e:x=x0
 ·subst e;simp only[HV] at h;exact .inl ⟨rfl,(iv h).symm⟩
 ·have hb:(x == x0)=false:=vr.mpr e;simp only[hb] at h;exact .inr ⟨e,h⟩
theorem yA {x0 x:Hk} {c:ee} {G:HN} (e:x≠x0):((x0,c)::G).lookup x=G.lookup x:=by
 have hb:(x == x0)=false:=vr.mpr e;rw[Jb];simp only[hb]
theorem uB {x0:Hk} {c:ee} {G:HN}:((x0,c)::G).lookup x0=aT c:=by rw[Jb];simp only[HV]
section
variable {X:Cx} {pins:E'} {σ:St} {H:Hp} {s:f'}
theorem zm {x0:Hk} {osc:Hy} {ON N:C'} {n:Nat} {fx:D7} {ι:Hy} {ζ:HN} {τ:HJ} {θ:zx} {tk:Nat}
  (ho:X.env.scope=osc) (hN:X.N=ON) (S:fc osc ON N n fx x0 ι)
  (ξ:∀p∈ζ,X.env.cells.lookup p.1=aT p.2) (Y:∀y∈ι.names,y.2= .free->∃c,(y.1,c)∈ζ)
  (I:Inv X pins σ H s) (hf:∀b∈τ,FpOk X pins H b) (ν:∀b∈τ,b < s.heap.objs.size)
  (β:∃m,θ.Ns s.heap.objs.size m) (G:∀b o,s.heap.get? b=aT o->θ.get? b=aT o) (γ:θ.IsCell (s.heap.objs.size + 1) eH):
  Inv (hU X N ι x0 ζ s.heap.objs.size τ s H) [] (cx n fx σ) H {s with heap:=θ,toks:=tk}:=by
 have look:∀{x:Hk} {c:ee},ζ.lookup x=aT c->X.env.cells.lookup x=aT c:=λ{x c} e=>ξ (x,c) (wh e);have L:∀{x:Hk} {c:ee},ζ.lookup x=aT c->c < s.heap.objs.size:=λ{x c} e=>let ⟨v,q⟩:=I.cell x c (look e);q.lt
 have ok:(hU X N ι x0 ζ s.heap.objs.size τ s H).Ok:=by
  refine⟨I.ok.mod,S.kind,I.ok.glob,I.ok.blt,ov _,λx y c h1 h2=>?inj,λx hx=>?_,λx c χ δ=>?cab,I.ok.hd,I.ok.frames,.inl rfl,λb hb=>⟨Hl (ν b hb),λx c e=>?exf⟩,
   I.bs,Ih I.ok.bsz I.sz,λb o e hb=>?_,λb hb z=>?_,I.stack,I.stkFree⟩
  case inj=>
   rcases dG h1 with ⟨χ,δ⟩ | ⟨χ,δ⟩<;>rcases dG h2 with ⟨Z,η⟩ | ⟨Z,η⟩
   ·rw[χ,Z]
   ·have h:=L η;rw[δ] at h;exact hE h (K6.mpr (JE _))
   ·have h:=L δ;rw[η] at h;exact hE h (K6.mpr (JE _))
   ·exact I.ok.inj x y c (look δ) (look η)
  case cab=>
   have χ:x=x0:=Ji χ;rcases dG δ with ⟨_,η⟩ | ⟨Z,_⟩
   ·rw[η];exact JE _
   ·exact hE χ Z
  case exf=>
   rcases dG e with ⟨_,η⟩ | ⟨Z,η⟩
   ·intro z;rw[η] at z;have h:=ν b hb;rw[<-z] at h;exact hE h (K6.mpr (JE _))
   ·exact(hf b hb).2.2.2.2.1 x c (look η)
  ·have ψ:∃ρ,(ρ=HW∨ρ=Hs)/\(ι.names.map λ(n,k)=>if (k == Hs&&X.env.scope.kind == .function&&X.env.kindOf n == aT .cell) then (n,HW) else (n,k)).lookup x=aT ρ:=by
    rcases hx with hx | hx
    ·exact⟨_,.inl rfl,hx⟩
    ·exact⟨_,.inr rfl,hx⟩
   obtain⟨ρ,hk,e⟩:=ψ;obtain⟨k,hm,z⟩:=iB e;by_cases α:x=x0
   ·exact⟨_,by rw[α];exact uB⟩
   have kf:k= .free:=by
    rcases z with z | z
    ·subst z;rcases hk with q | q
     ·exact hE (S.cel _ hm q) α
     ·exact q
    ·exact z
   subst kf;obtain⟨c,hc⟩:=Y _ hm rfl;obtain⟨c',ω⟩:=kP hc;exact⟨c',(yA α).trans ω⟩
  ·rcases(hf b hb).2.2.2.1 with z | z
   ·exact I.ok.noex b o e z
   ·exact hE (eu (gA (I.ok.bs b o e).1) z) (IV _)
  ·rcases Hn.mp (I.stkSub b z) with q | q
   ·exact(hf b hb).2.1 q
   ·exact(hf b hb).2.2.1 q
 obtain⟨m,β⟩:=β;refine⟨ok,rfl,I.bare,Un.kept G,⟨m,β,λi x v e1 e2 e3=>?_⟩,λx c e=>?_,I.hok.fresh (ov _),λx c e=>?frc,λp hp=>hE (show p∈([]:E') from hp) @E,I.hok.kept G,?_⟩
 case frc=>
  rcases dG e with ⟨_,η⟩ | ⟨Z,η⟩
  ·rw[η];exact I.hok.fresh (JE _)
  ·exact I.freeC x c (look η)
 ·obtain⟨k,j,rfl,hj,hv⟩:=jM e2;obtain⟨ε,j',a1,a2,a3,π⟩:=S.frn k (b'.mp hj).1;have ex:ε=x:=iv (a1.symm.trans e1);have ej:j'=j:=iv (a2.symm.trans hj);subst ex;subst ej;obtain⟨m',_,hl⟩:=I.loc;have hk:X.env.scope.names.lookup ε=aT .cell∨X.env.scope.names.lookup ε=aT .free:=by rw[ho];exact S.fre _ (wh π) rfl
  have υ:Vis X.env.scope ε:=by rcases hk with z | z;exact .inr (.inl z);exact .inr (.inr z)
  obtain⟨u,r,q⟩:=hl j' ε v (by rw[hN];exact a3) hv υ;rcases q with ⟨z,_⟩ | ⟨_,c,ec,ic⟩
  ·have J:X.env.scope.names.lookup ε=aT .local:=z;rcases hk with q | q<;>(rw[q] at J;cases J)
  ·refine⟨u,r,.inr ⟨jc π,c,?_,ic.keeps G⟩⟩;obtain⟨c0,φ⟩:=Y _ (wh π) rfl;obtain⟨c1,ο⟩:=kP φ;have:=look ο;rw[ec] at this;cases this;exact(yA λz=>(by rw[z,S.its] at π;cases π)).trans ο
 ·rcases dG e with ⟨_,η⟩ | ⟨Z,η⟩
  ·rw[η];exact⟨_,γ⟩
  ·obtain⟨v,q⟩:=I.cell x c (look η);exact⟨v,q.keeps G⟩
 ·show _=N.length;rw[qp,S.len]
theorem wZ {x0:Hk} {osc:Hy} {ON N:C'} {n:Nat} {fx:D7} {φ:Hy} {cl:HN} {d1 tg iter:Hi} {ω:ef Hi} {pos:Pos} {wi:TI} {g:TG} {tc:TT} {te:TE} {Q:VK} {RR:hG->ee->HM}
  (c4:X.calm=true) (ho:X.env.scope=osc) (hN:X.N=ON) (S:fc osc ON N n fx x0 φ)
  (b3:∀p∈cl,X.env.cells.lookup p.1=aT p.2) (e6:∀y∈φ.names,y.2= .free->∃c,(y.1,c)∈cl)
  (hi:PI X tg iter wi) (gk:tS n g) (hb:∀cl C τ s H,PG (hU X N φ x0 cl C τ s H) tg g/\PTs (hU X N φ x0 cl C τ s H) ω tc/\PE (hU X N φ x0 cl C τ s H) d1 te)
  (I:Inv X pins σ H s) (h:vW n fx wi g tc te σ H Q)
  (f8:∀D C H' s',Inv X pins σ H' s'->(∃m,s'.heap.Ns C m)->FpOk X pins H' C->Q (.ref D) H'->RR (.ref D) C (.ok .next) s'):
  hQ (lT X.prog X.w) X.A (eval iter X.env) (λx s₁=>hQ (lT X.prog X.w) X.A (pyIter x) (λit s₂=>hQ (lT X.prog X.w) X.A (newList []) (λe9 s₃=>
   hQ (lT X.prog X.w) X.A (newFunctionEnv φ X.env.globals cl [] X.env.qual eH .none (aT X.env)) (λb4 ε=>
    codeAny (lT X.prog X.w) X.A (.compStart (.ListComp d1 [⟨tg,iter,ω,0⟩] φ pos) 0 it e9 {b4 with scope:=relabel φ X.env}) (RR e9 b4.locals) ε) X.xe s₃) X.xe s₂) X.xe s₁) X.xe s:=by
 refine thn (hi pins s σ H _ I h) λv s1 h1=>thn h1 λj4 Z h2=>?_;obtain⟨it,τ,tn,J,H2,e2,I2,T,e3,f2,hW⟩:=h2;subst e2;obtain⟨W,⟨m0,w0⟩,c0⟩:=hW Z.heap.objs.size I2.fresh;refine K4 ?_;have I3:Inv X pins σ (upd H2 Z.heap.objs.size (.lst [])) {Z with heap:=Z.heap.push {cls:= .type "list",data:= .seq ([]:F').toArray}}:=I2.lnew (t':=Z.toks) (its:=[]) .nil (J1 _)
 have ψ:∀b∈τ,FpOk X pins (upd H2 Z.heap.objs.size (.lst [])) b/\b < Z.heap.objs.size:=λb hb=>by
  obtain⟨o,e,_⟩:=T.obj _ _ e3 b hb;have l:=gA e;obtain⟨a1,a2⟩:=f2 b hb;exact⟨⟨by rw[aC (Hl l)];exact a1,a2⟩,l⟩
 have sz:({Z with heap:=Z.heap.push {cls:= .type "list",data:= .seq ([]:F').toArray}}:f').heap.objs.size=Z.heap.objs.size + 1:=Ij ..
 generalize f1:({Z with heap:=Z.heap.push {cls:= .type "list",data:= .seq ([]:F').toArray}}:f')=α at I3 sz ⊢;generalize k4:upd H2 Z.heap.objs.size (.lst [])=H3 at I3 ψ w0;have e4:∀b o,Z.heap.get? b=aT o->α.heap.get? b=aT o:=λb o e=>by rw[<-f1];exact ek _ e
 obtain⟨pre,h7,f7,f5,f4⟩:=S.one;refine DM f7 f5 f4 ?_;generalize c1:(α.heap.push {cls:=Ik "dict",data:=ND #[]}).push {cls:=Ik "cell",data:=Km eH}=h4;have a0:∀b o,α.heap.get? b=aT o->h4.get? b=aT o:=λb o e=>by rw[<-c1];exact ek _ (ek _ e)
 have f6:h4.Ns α.heap.objs.size λ_=>none:=by rw[<-c1];exact(Heap.Ns.new _ _).push _
 have c2:h4.IsCell (α.heap.objs.size + 1) none:=by
  rw[<-c1];refine⟨{cls:=Ik "cell",data:=Km eH},?_,rfl⟩;have:=la (α.heap.push {cls:=Ik "dict",data:=ND #[]}) (o:={cls:=Ik "cell",data:=Km eH}) (by rfl);rw[Ij] at this;exact this
 have I4:=zm (tk:=α.toks) ho hN S b3 e6 I3 (λb hb=>(ψ b hb).1) (λb hb=>by rw[sz];exact Jg (ψ b hb).2) ⟨_,f6⟩ a0 c2;have γ:=hb cl α.heap.objs.size τ α H3;generalize hY:hU X N φ x0 cl α.heap.objs.size τ α H3=Y at I4 γ
 have ι:∀{H':Hp},(∀b∈τ,H' b=eH)->∀b∈τ,FpOk Y [] H' b:=λ{H'} hn b hb=>by
  subst hY;obtain⟨⟨a1,a2,a3,a4,a5,ξ⟩,l⟩:=ψ b hb;refine⟨hn b hb,Hl (show b < α.heap.objs.size by rw[sz];exact Jg l),λz=>?_,.inl hb,λx c e=>?_,λp hp=>hE (show p∈([]:E') from hp) @E⟩
  ·rcases Hn.mp (I3.stkSub b z) with q | q
   ·exact a2 q
   ·exact a3 q
  ·rcases dG e with ⟨_,η⟩ | ⟨_,η⟩
   ·intro z;rw[η] at z;rw[<-z] at l;rw[sz] at l;exact hE l (K6.mpr (KG (JE _)))
   ·exact a5 x c (b3 (x,c) (wh η))
 have fin:∀{σ6:St} {H6:Hp} {s6:f'},Inv Y [] σ6 H6 s6->Q (.ref Z.heap.objs.size) H6->RR (.ref Z.heap.objs.size) α.heap.objs.size (.ok .next) s6:=λ{σ6 H6 s6} I6 q=>by
  subst hY;refine f8 _ _ H6 s6 ?_ (let ⟨m,hm,_⟩:=I6.loc;⟨m,hm⟩) (I3.fpOk (ov _) I6.free) q;obtain⟨hh,gg,dd,tt,os'⟩:=s6;obtain rfl:os'=α.os:=I6.os
  exact I3.call (h':=hh) (g':=gg) (d':=dd) (t':=tt) (ch:=τ) I6.base I6.hok I6.bare λb hb=>by
   obtain⟨⟨a1,a2,a3,a4,a5,ξ⟩,l⟩:=ψ b hb;exact⟨a4,a2,a5,ξ⟩
 have pY:Y.prog=X.prog:=by subst hY;rfl
 have θ:Y.w=X.w:=by subst hY;rfl
 have kY:Y.K=X.K:=by subst hY;rfl
 have aY:Y.A=X.A:=by subst hY;rfl
 have ν:Y.calm=true:=by subst hY;exact c4
 have eY:Y.env=compEnvC φ ((x0,α.heap.objs.size + 1)::cl) α.heap.objs.size X.env:=by subst hY;rfl
 have xY:Y.xe=λ_ _=>False:=by subst hY;rfl
 have T':Turn Y.prog Y.w Y.K tg J τ it tn:=by rw[pY,θ,kY];exact T
 have d2:tn 0 h4:=T.keep _ _ _ e3 λb hb o e=>a0 b o (e4 b o e)
 have loop:codeAny (lT X.prog X.w) X.A (.compLoop (.ListComp d1 [⟨tg,iter,ω,0⟩] φ pos) 0 (.ref it) (.ref Z.heap.objs.size) (compEnvC φ ((x0,α.heap.objs.size + 1)::cl) α.heap.objs.size X.env)) (RR (.ref Z.heap.objs.size) α.heap.objs.size)
   {α with heap:=h4}:=by
  rw[<-pY,<-θ,<-aY,<-eY];refine qo (λk s'=>∃i ys σ' H',Inv Y [] σ' H' s'/\σ'.drop n=(cx n fx σ).drop n/\σ'.length=(cx n fx σ).length/\tn i s'.heap/\(∀b∈τ,H' b=eH)/\W i k ys H') ?_ m0 ⟨0,[],_,H3,I4,rfl,rfl,d2,λb hb=>(ψ b hb).1.1,w0⟩;rintro k s5 ⟨i,ys,σ5,H5,I5,ed,el,e0,e8,w5⟩
  have I5:Inv Y [] (cx n fx σ) H5 s5:=I5.weak el.symm λj v e=>by
   obtain⟨k',j',rfl,_,_⟩:=jM e;have q:=Hm (λl=>l[k']?) ed;simp only[JB] at q;rw[q];exact e
  rcases c0 i k ys H5 w5 with ⟨stop,q⟩ | ⟨go,G,f9,step⟩
  ·refine IY (T'.done Y rfl rfl rfl ν i [] s5 _ H5 (λ_ _=>False) I5 (ι e8) e0 stop) (λr s6 ⟨hr,I6⟩=>?_) λ_ _ z=>z;subst hr;exact fin I6 q
  ·rw[<-xY];refine thn (T'.item Y rfl rfl rfl ν i [] s5 _ H5 Y.xe I5 (ι e8) e0 go) λr s6 ⟨u,hr,h6⟩=>?_;subst hr;show hQ _ _ _ _ _ _;refine thn h6 λ_ L ⟨x,υ,I7,r7,y7,b5,g3⟩=>?_;have h3:=I7.pinned (ι g3) (T.obj _ _ b5);refine thn (γ.1 _ L _ υ x u _ h3 r7 (gk _ _ _ _ _ (fun σ' H' q e l=>(⟨q,e,l⟩:_/\_/\_)) (step x υ y7))) λ_ s8 ⟨ζ,H8,I8,q8,β,g4⟩=>?_;refine thn (γ.2.1 _ s8 ζ H8 _ I8 q8) λok s9 ⟨π,ο,q9⟩=>?_
   have again:∀{ρ:Hp} {δ:f'} {zs:ef V},Inv Y ([]++qf τ L.heap) ζ ρ δ->G zs ρ->
     ∃m,m < k/\∃i ys σ' H',Inv Y [] σ' H' δ/\σ'.drop n=(cx n fx σ).drop n/\σ'.length=(cx n fx σ).length/\tn i δ.heap/\(∀b∈τ,H' b=eH)/\W i m ys H':=λ{ρ δ zs} I10 b6=>by
    obtain⟨m',hm,χ⟩:=f9 _ _ b6;refine⟨m',hm,i + 1,zs,ζ,ρ,I10.unpinned,β,g4,T.keep _ _ _ b5 λb hb o e=>(I10.pin (b,o) (hH _ (hH _ (fZ hb e)))).1,λb hb=>?_,χ⟩;obtain⟨o,e,d⟩:=T.obj _ _ b5 b hb;exact(I10.pin (b,o) (hH _ (hH _ (fZ hb e)))).2.1
   cases ok with
   | false=>exact again ο q9
   | true=>
     rw[pe rfl];refine thn (γ.2.2 _ s9 ζ π _ ο q9) λy δ ⟨v',ρ,I10,f0,e7,e5,b6⟩=>?_;refine thn (fB (X:=Y) _ δ ζ ρ (.ref Z.heap.objs.size) [v'] (.ref Z.heap.objs.size) [y] (λ_ H'=>H'=upd ρ Z.heap.objs.size (.lst (ys++[v']))) I10 rfl (.cons f0 .nil) ⟨_,ys,v',rfl,rfl,e7,e5,rfl⟩) λ_ h8 ⟨_,l0,h5,_,h0⟩=>?_;subst h0;exact again h5 b6
 exact Np loop (T.self X.A 0 _ _ _ d2 loop)
theorem Av {x0:Hk} {i:Nat} {x:Hk} {γ:Pos} {Z:Pos} {osc:Hy} {ON N:C'} {n:Nat} {fx:D7} {L:Hy} {Y tg iter:Hi} {ω:ef Hi} {pos:Pos} {υ:TI} {g:TG} {tc:TT} {te:TE}
  (ν:X.N.Nodup) (hx:X.N[i]? =aT x) (φ:X.env.scope.names.lookup x=aT .local) (θ:swapsWith (.ListComp Y [⟨tg,iter,ω,0⟩] L pos) (aT (.Name x γ)) Z.line X.env=pure true)
  (α:X.calm=true) (ho:X.env.scope=osc) (hN:X.N=ON) (S:uP osc ON N n fx x0 L=true) (hi:PI X tg iter υ) (gk:tS n g)
  (hb:∀ζ C ρ s H,PG (hU X N L x0 ζ C ρ s H) tg g/\PTs (hU X N L x0 ζ C ρ s H) ω tc/\PE (hU X N L x0 ζ C ρ s H) Y te)
  (hs:∀x,foldedSetIterable iter X.env x=pure x:=by intro _;rfl):PS X (.Assign [.Name x γ] (.ListComp Y [⟨tg,iter,ω,0⟩] L pos) Z) (tAsg (vW n fx υ g tc te) (wN i)):=by
 intro pins s σ H D I h;have S:=fc.of S;obtain⟨ζ,J,ε,δ⟩:=mj L X.env λy hy hf=>I.ok.has y.1 (by show X.env.scope.names.lookup y.1=aT .cell∨X.env.scope.names.lookup y.1=aT .free;rw[ho];exact S.fre y hy hf);rw[NG _ _ _ _ θ];refine dt (LO (dt ?_));show hQ _ X.A (do let _ <-comprehension (.ListComp Y [⟨tg,iter,ω,0⟩] L pos) L X.env _ (newList []) false (eval iter X.env) (aT (assign (.Name x γ) X.env))) _ _ s
 refine dt (thn (KZ (use:=aT (assign (.Name x γ) X.env)) (Q:=λ_ s'=>SP X pins D .next s') rfl hs J S.kind S.own
  (wZ (RR:=fun τ C=>compPost (lT X.prog X.w) X.A X.xe (aT (assign (.Name x γ) X.env)) (λ_ s'=>SP X pins D .next s') τ C) α ho hN S ε δ hi gk hb I h ?_)) λ_ s' q=>hP (hP q))
 intro π C H' s' I' hm hf q;obtain⟨m,hm⟩:=hm;obtain⟨f0,χ,η,ψ,G,f5⟩:=hf;show hQ _ X.A (assign (.Name x γ) X.env (.ref π)) _ _ _;refine M3 (nu I' ν hx (.inl φ) (v:= .ref π) rfl (λs2 I2 ξ=>?_) (.inr φ));obtain⟨a,ι,ha⟩:=ξ
 have ο:C≠a:=by
  rcases ha with z | z
  ·rw[z];exact χ
  ·exactλe=>G _ _ z e.symm
 exact⟨m,hm.sameBut ι ο,λh' β=>⟨_,H',I2.turned (t':=s2.toks) (λb o hb e=>(β.2 b hb).trans e) f0 χ ψ G f5,q⟩⟩
noncomputable def Aj (osc G:Hy):Scope:={G with names:=G.names.map λ(n,k)=>if (k == Hs&&osc.kind == .function&&osc.names.lookup n == aT .cell) then (n,HW) else (n,k)}
theorem A7 {osc:Hy} {N:C'} {G:Hy} {x0:Hk} {J:HN} {C:ee} {I:HJ} (h:X.env.scope=osc):(hU X N G x0 J C I s H).env.scope=Aj osc G:=by subst h;rfl
end
noncomputable def E6:ef V->Hp->VK->Prop:=λxs H Q=>∃i j,xs=[.int i,.int j]/\CDiv i j/\∀p,H p=eH->Q (.ref p) (upd H p (.tup [.int (i / j),.int (i % j)]))
theorem w8 {X:Cx}:jT X (.builtin "divmod") E6:=uS
theorem EW {i j:Int} {H:Hp} {Q:VK} (h1:0 < j) (h2:j < 1073741824) (h:∀p H2,H p=eH->Same H H2->H2 p=aT (.tup [.int (i / j),.int (i % j)])->Q (.ref p) H2):E6 [.int i,.int j] H Q:=⟨i,j,rfl,⟨h1,h2⟩,λp G=>h p _ G (fh G) aJ⟩
theorem vm {l b:ee} {xs zs:ef V} {H:Hp} {Q:VK} (e:H l=aT (.lst xs)) (I:H b=aT (.lst zs)) (G:xs.length + zs.length<=i') (n:l≠b) (h:∀H2,Upd H H2 l (.lst (xs++zs))->Q .non H2):ye (.ref l) [.ref b] H Q:=by
 first
 | exact⟨l,b,xs,zs,rfl,rfl,e,I,G,h _ Upd.of⟩
 | exact⟨l,b,xs,zs,rfl,rfl,e,I,G,n,h _ Upd.of⟩
section
variable {X:Cx}
def zJ (Q:VK) (x:V) (H1:Hp):Prop:=∃n:Nat,x= .int (n:Int)/\n<=1000/\∀(D:ee) (G:Hp),H1 D=eH->Same H1 G->G D=aT (.lst ((ko n).map λk:Nat=>V.int (k:Int)))->Q (.ref D) G
noncomputable def Em (t:TE):TE:=fun σ H Q=>t σ H (zJ Q)
theorem EM {t:TE} {σ:St} {H:Hp} {Q:VK} (h:t σ H (zJ Q)):Em t σ H Q:=h
theorem xD:∀{xs:ef V} {us:F'},xs.length=us.length->(∀(i:Nat) x u,xs[i]? =aT x->us[i]? =aT u->RelV x u)->Vals xs us
 | [],[],_,_=> .nil
 | x::xs,u::us,hl,h=> .cons (h 0 x u rfl rfl) (xD (by simpa using hl) λi y v G I=>h (i + 1) y v (by simpa using G) (by simpa using I))
 | [],_::_,hl,_=>by simp at hl
 | _::_,[],hl,_=>by simp at hl
theorem se {e:Hi} {t:TE} {p1 p2 J ν:Pos} (hc:X.calm=true) (g1:Gl X "list") (g2:Gl X "range") (n1:X.mg "list"=eH) (π:X.mg "range"=eH) (he:PE X e t)
  (h1:oD [NB (.Name "range" p1) [e] [] p2] X.env=[(false,eval (.Call (.Name "range" p1) [e] [] p2) X.env)]:=by rfl) (h2:oD [e] X.env=[(false,eval e X.env)]:=by rfl):
  PE X (.Call (.Name "list" J) [.Call (.Name "range" p1) [e] [] p2] [] ν) (Em t):=by
 intro pins s σ H Q I h;refine N9 (iS I g1 n1 Jd (Hh (Q:=EP X pins σ Q) ?_ h1 rfl));rw[h1];show hQ _ _ (spliced ((false,eval (.Call (.Name "range" p1) [e] [] p2) X.env)::backTo ν [])) _ _ s;refine Ko ?_;refine N9 (iS I g2 π Of (Hh (thn (aa he af h2 p2 pins s σ H (λvs H1=>match vs with | [x]=>zJ Q x H1 | _=>False) I h) λus G ⟨vs,H1,I1,α,J⟩=>?_) h2 rfl))
 match vs,α,J with
 | [x],α,J=>
 obtain⟨n,rfl,hn,q⟩:=J;cases α with
 | cons r ο=>
 cases ο;obtain⟨t',rfl⟩:=r;refine Nk ?_;refine KB ?_;refine call_list_range (n:=n) (I1.ok.hd hc) (MB ..) (small_one @A @A @A @A) (by rw[N5];split<;>omega) @A λh' tk Y c hk φ ε=>?_;have γ:∀b o,G.heap.get? b=aT o->h'.get? b=aT o:=λb o e=>hk b o (ek _ e);have I2:Inv X pins σ H1 {G with heap:=h',toks:=tk}:=I1.kept (t':=tk) γ;obtain⟨D,ι⟩:∃D,D=(G.heap.push {cls:= .type "range",data:= .fields #[.int 0 G.toks,.int (n:Int) t',.int 1 (G.toks + 1)]}).objs.size:=⟨_,rfl⟩;have L:G.heap.objs.size<=D:=by rw[ι,Ij];exact JE _
 have θ:H1 D=none:=I1.hok.fresh L;have ζ:G.heap.get? D=none:=IS L
 have ρ:Vals ((ko n).map λk:Nat=>V.int (k:Int)) Y.toList:=by
  obtain⟨η,δ⟩:=ε;refine xD (by rw[cY,pT];simpa using η.symm) λi x u ξ β=>?_;rw[fk,HZ] at ξ
  ·cases ξ;obtain⟨Z,τ⟩:=δ i u (by simpa using β);refine⟨Z,?_⟩;rw[τ];congr 1;omega
  ·have:=(b'.mp β).1;simp at this;omega
 have υ:Inv X pins σ (upd H1 D (.lst ((ko n).map λk:Nat=>V.int (k:Int)))) {G with heap:=h',toks:=tk}:=I2.track (I1.fpN ζ θ) ⟨by rw[cY,pT,mc];omega,Y.toList,c,ρ,by rw[ι];exact φ⟩;refine⟨.ref D,_,υ,by rw[ι];rfl,q D _ θ (λb χ e=>?_) aJ⟩;rw[aC (au e θ)];exact e
end
section
variable {σ:St} {H:Hp} {D:Ends} {t u:TS}
theorem EG (h:∀R:St->Hp->Prop,(∀σ H,u D σ H->R σ H)->t {D with nx:=R} σ H):tSeq t u D σ H:=h _ λ_ _ q=>q
theorem s_go {R X:St->Hp->Prop} (e:∀σ H,X σ H->R σ H) (h:X σ H):R σ H:=e _ _ h
end
end L2
namespace ST
open PySem PySem.SetTable
structure Tb (t:SetTable) (hs:HK):Prop where
 dm:t.dummies=#[]
 pn:t.plain=true
 rs:t.place.toList.Pairwise (· < ·)
 sz:t.place.toList.length=hs.length
 nf:hs.length * 5 < t.mask * 3
 k:(t.mask=7/\∀j∈t.place.toList,j<=7)∨((t.mask=31∨t.mask=127)/\t.place.toList.map (λn:Nat=>(n:Int))=hs)
noncomputable def t8 (p:D7):SetTable:={mask:=7,place:=p.toArray,dummies:=#[],finger:=0,led:=true,moves:=0,plain:=true}
noncomputable def bm:D7->Nat
 | []=>0
 | j::l=>2 ^ j||| bm l
structure Ow (M:Nat) (owner:LZ (ry Nat)) (pre:HK):Prop where
 sz:owner.size=M + 1
 at':∀j,j<=M->owner.getD j eH=pre.findIdx? (· == (j:Int))
noncomputable def fin (t:SetTable) (es:LZ (Int×hG)) (h:Int) (x:hG):LZ (Int×hG)×SetTable:=
 if (!(layNew t es h x).2.2.1&&(layNew t es h x).2.1.tooFull)=true then ((relayAll (layNew t es h x).2.1 (layNew t es h x).1 (grown (layNew t es h x).1.size)).1,(relayAll (layNew t es h x).2.1 (layNew t es h x).1 (grown (layNew t es h x).1.size)).2.1) else ((layNew t es h x).1,(layNew t es h x).2.1)
open PyProof.Rows
noncomputable abbrev byT (w:wq):Bool:=w.params.followText "set-order"
structure SI (w:wq) (o:Mm) (ns:HK) (es:LZ (Int×hG)) (ep:Nat) (t:SetTable):Prop where
 ex:o.ExactSet
 d:o.data= .set es ep t
 v:∀e∈es.toList,∃tk,e.2= .int e.1 tk
 p:(es.toList.map (·.1)).Perm ns
 f:t.fits es.size=true
 l:t.led= !byT w
 tb:byT w=false->Tb t (es.toList.map (·.1))
open PySem.W PySem.Spec L2
end ST
namespace L2
open PySem PySem.Spec PyProof.Rows
end L2
namespace Z3
open PySem PyProof.Rows
noncomputable abbrev Tr (h:zx) (T:ee) (a b c:hG):Prop:=h.get? T=aT {cls:= .type "tuple",data:= .seq #[a,b,c]}
structure St (h:zx) (n l1 l2 l3 k1 k2 k3:Nat) (f:hG):Prop where
 z:IsZip h (n + 5) (n + 3) (n + 4) f
 ti:Tr h (n + 3) (.ref n) (.ref (n + 1)) (.ref (n + 2))
 to:∃a b c,Tr h (n + 4) a b c
 i1:h.IsListIter n l1 k1
 i2:h.IsListIter (n + 1) l2 k2
 i3:h.IsListIter (n + 2) l3 k3
noncomputable abbrev it (l:ee):Obj:={cls:= .type "list_iterator",data:= .fields #[.ref l,.int 0 0]}
end Z3
namespace L2
open PySem PySem.Spec PyProof.Rows
end L2
namespace LM
open PySem PySem.Spec PyProof.Rows PySem.W L2
structure KP (fs:HJ) (h h':zx):Prop where
 keep:∀b o,h.get? b=aT o->b∉fs->h'.get? b=aT o
 slot:∀b o,h.get? b=aT o->b∈fs->∃sl,h'.get? b=aT {o with slots:=sl}
section
variable {fs:HJ} {h h1 h2:zx}
theorem KP.of (k:∀b o,h.get? b=aT o->h1.get? b=aT o):KP fs h h1:=⟨λb o e _=>k b o e,λb o e _=>⟨o.slots,k b o e⟩⟩
theorem KP.trans (x:KP fs h h1) (y:KP fs h1 h2):KP fs h h2:=
 ⟨λb o e n=>y.keep b o (x.keep b o e n) n,λb o e n=>by
  obtain⟨I,e1⟩:=x.slot b o e n;obtain⟨θ,G⟩:=y.slot b _ e1 n;exact⟨θ,G⟩⟩
theorem KP.but {a:ee} (x:KP fs h h1) (n:h.get? a=eH) (k:∀b,b≠a->h2.get? b=h1.get? b):KP fs h h2:=by
 have ne:∀b o,h.get? b=aT o->b≠a:=λb o e z=>by rw[z,n] at e;cases e
 exact⟨λb o e m=>(k b (ne b o e)).trans (x.keep b o e m),λb o e m=>by
  obtain⟨G,e1⟩:=x.slot b o e m;exact⟨G,(k b (ne b o e)).trans e1⟩⟩
end
structure Rl (fs:HJ) (s s':f'):Prop where
 os:s'.os=s.os
 bare:AllBare s'.gens
 kp:KP fs s.heap s'.heap
theorem Rl.trans {fs:HJ} {s I G:f'} (x:Rl fs s I) (y:Rl fs I G):Rl fs s G:=⟨y.os.trans x.os,y.bare,x.kp.trans y.kp⟩
section
variable {prog:px} {w:wq} {A:Hg} {E:D'} {s s0:f'} {fs:HJ} {a kS:ee} {vs:F'} {kz:HK} {keys:HG} {e e1:Nat} {P:PySem.Fin->f'->Prop}
theorem vC {st:SortSt} (R:Rl fs s0 s) (hk:s.heap.get? kS=aT (seqObj "list" keys e)) (ha:s.heap.get? a=aT (seqObj "list" #[] e1)) (J:kS≠a) (γ:s0.heap.get? kS=eH) (δ:s0.heap.get? a=eH)
  (hi:IntsAre keys.toList kz) (α:kz.length=vs.length) (ε:vs.length < 64) (Z:(arrOf st).Perm (keys.zip vs.toArray)) (hs:SortedTo (arrOf st) (arrOf st).size) (ι:failedOf st=eH)
  (h:∀s' out c,Rl fs s0 s'->s'.heap.get? a=aT (seqObj "list" out c)->KskOut false kz vs out.toList->P (.done (.ret .none)) s'):
  hQ (lT prog w) A (ksk_tail a false e1 (.ref kS) st) P E s:=by
 have hsz:keys.size=vs.length:=by
  have h1:=hi.length;rw[Ie] at h1;omega
 have I:(arrOf st).size=vs.length:=by rw[Z.size_eq,O1,hsz,qQ,LH]
 have Y:=Hv s.heap kS (He λ_=>(#[]:HG));have G:=(Y.2 a J.symm).trans ha;unfold ksk_tail;dsimp only;refine dt (LP hk rfl ?_ (by rw[hsz,mc];omega) (J1 _));refine dt (wpAny_letGo ?_);refine dt (seqEpoch_at G rfl ?_)
 refine dt (LP G rfl ?_ (J1 _) (by
  simp only[Kv,L',Array.size_map];rw[I,mc];omega))
 rw[ι];simp only[bne_self_eq_false,Kv,L'];obtain⟨L,η⟩:∃L,((s.heap.update kS (He λ_=>(#[]:HG))).update a (He λ_=>(arrOf st).map (·.2))).get? a=aT (seqObj "list" ((arrOf st).map (·.2)) L):=⟨_,Mx G λ_=>(arrOf st).map (·.2)⟩;have β:=Hv (s.heap.update kS (He λ_=>(#[]:HG))) a (He λ_=>(arrOf st).map (·.2));exact hP (h _ _ L ⟨R.os,R.bare,(R.kp.but γ Y.2).but δ β.2⟩ η (ksk_out hi Z hs))
theorem Dy (R:Rl fs s0 s) (hk:s.heap.get? kS=aT (seqObj "list" keys e)) (ha:s.heap.get? a=aT (seqObj "list" #[] e1)) (Y:kS≠a) (γ:s0.heap.get? kS=eH) (α:s0.heap.get? a=eH)
  (hi:IntsAre keys.toList kz) (I:kz.length=vs.length) (L:vs.length < 64)
  (h:∀s' out c,Rl fs s0 s'->s'.heap.get? a=aT (seqObj "list" out c)->KskOut false kz vs out.toList->P (.done (.ret .none)) s'):
  hQ (lT prog w) A (ksk_end a false vs.toArray e1 (.ref kS) keys) P E s:=by
 have hsz:keys.size=vs.length:=by
  have h1:=hi.length;rw[Ie] at h1;omega
 have J:(keys.zip vs.toArray).size=vs.length:=by rw[O1,hsz,qQ,LH]
 unfold ksk_end;simp only[Kv,L'];by_cases h2:vs.toArray.size < 2
 ·rw[pe h2,pe h2];refine dt (hP ?_);rw[StateT.run_pure];refine dt (hP ?_);dsimp only;refine vC (st:=Ox general' (keys.zip vs.toArray) #[] 7 eH) R hk ha Y γ α hi I L (MS _) ?_ rfl h;intro i j ε δ;have Z:j < (keys.zip vs.toArray).size:=δ;rw[J] at Z;rw[qQ] at h2;have:i=j:=by omega
  subst this;exact Int.le_refl _
 ·rw[nk h2,nk h2];rw[qQ] at h2;rw[ksk_kind hi (by rw[hsz];omega)];refine dt (hP ?_)
  refine dt (IY (wpS_sortRuns (a₀:=keys.zip vs.toArray) (st:=Ox oneType' (keys.zip vs.toArray) #[] 7 eH)
   (Q:=λ_ G=>(arrOf G).Perm (keys.zip vs.toArray)/\failedOf G=eH/\SortedTo (arrOf G) (keys.zip vs.toArray).size)
   (ksk_intKeys hi) ⟨MS _,rfl,rfl,rfl⟩ (by rw[J];omega) (by rw[J];exact L) λG a1 a2 ζ=>⟨a1,a2,ζ⟩) ?_ λ_ _ z=>z)
  rintro⟨⟨⟩,G⟩ s' ⟨rfl,β,hf,hs⟩;dsimp only;exact vC R hk ha Y γ α hi I L β (by rw[β.size_eq];exact hs) hf h
theorem AJ {f:hG} (R:Rl fs s0 s) (hk:s.heap.get? kS=aT (seqObj "list" #[] 0)) (ha:s.heap.get? a=aT (seqObj "list" #[] e1)) (I:kS≠a) (γ:s0.heap.get? kS=eH) (ξ:s0.heap.get? a=eH) (ε:kS∉fs) (ρ:a∉fs)
  (L:vs.length < 64)
  (θ:∀(i:Nat) (v:hG),vs[i]? =aT v->∀s',Rl fs s0 s'->hQ (lT prog w) A (call f [v]) (λu G=>(∃k t,u= .int k t)/\Rl fs s' G) (λ_ _=>False) s')
  (h:∀s' out c kz,Rl fs s0 s'->s'.heap.get? a=aT (seqObj "list" out c)->kz.length=vs.length->KskOut false kz vs out.toList->P (.done (.ret .none)) s'):
  hQ (lT prog w) A (ksk_rest a f false vs.toArray e1 (.ref kS)) P E s:=by
 unfold ksk_rest;refine dt (Oa ?_);rw[List.forIn_toArray]
 refine dt (ksk_fold (λi s'=>∃(δ:HG) (e:Nat),Rl fs s0 s'/\s'.heap.get? kS=aT (seqObj "list" δ e)/\s'.heap.get? a=aT (seqObj "list" #[] e1)/\∃ks:HK,ks.length=i/\IntsAre δ.toList ks) vs 0 s
  ⟨#[],0,R,hk,ha,[],rfl,IntsAre.nil⟩ ?step ?done)
 case step=>
  rintro j x s' ζ ⟨δ,e,R',J,α,ks,π,hi⟩;simp only[KO] at π ⊢;have υ:j < vs.length:=(b'.mp ζ).1
  have hz:δ.size<=vs.length:=by
   have h1:=hi.length;rw[Ie] at h1;omega
  refine dt (N4 (IY (θ j x ζ s' R') (λu G he=>?_) λ_ _ ο=>ο.elim));obtain⟨⟨k,Z,rfl⟩,R2⟩:=he;dsimp only;have k2:=R2.kp.keep _ _ J ε;have a2:=R2.kp.keep _ _ α ρ;have β:=Hv G.heap kS (He (·.push (.int k Z)));obtain⟨Y,η⟩:∃Y,(G.heap.update kS (He (·.push (.int k Z)))).get? kS=aT (seqObj "list" (δ.push (.int k Z)) Y):=⟨_,Mx k2 (·.push (.int k Z))⟩;have ea:(δ.push (L5 k Z)).toList=δ.toList++[L5 k Z]:=by simp
  refine dt (LP k2 rfl ?_ (by rw[mc];omega) (Ih (LL (NQ ..)) (by rw[mc];omega)));have RR:=R'.trans R2;exact hP ⟨rfl,δ.push (.int k Z),Y,⟨RR.os,RR.bare,RR.kp.but γ β.2⟩,η,(β.2 a I.symm).trans a2,ks++[k],by rw[eZ,π];rfl,by rw[ea];exact ksk_snoc hi⟩
 case done=>
  rintro s' ⟨δ,e,R',J,α,ks,π,hi⟩;simp only[KO] at π;refine dt (listItems_at J rfl ?_);exact Dy R' J α I γ ξ hi π L λG out c ι τ ν=>h G out c ks ι τ π ν
theorem AI {f:hG} {n:Nat} (R:Rl fs s0 s) (ha:s.heap.get? a=aT (seqObj "list" vs.toArray n)) (L:s0.heap.get? a=eH) (ε:∀b∈fs,b < s0.heap.objs.size) (hsz:s0.heap.objs.size<=s.heap.objs.size)
  (J:vs.length < 64)
  (θ:∀(i:Nat) (v:hG),vs[i]? =aT v->∀s',Rl fs s0 s'->hQ (lT prog w) A (call f [v]) (λu Y=>(∃k t,u= .int k t)/\Rl fs s' Y) (λ_ _=>False) s')
  (ξ:a∉fs)
  (h:∀s' out c kz,Rl fs s0 s'->s'.heap.get? a=aT (seqObj "list" out c)->kz.length=vs.length->KskOut false kz vs out.toList->P (.done (.ret .none)) s'):
  hQ (lT prog w) A (ksk_tree a f false) P E s:=by
 have I:a < s.heap.objs.size:=gA ha;have Z:=Hv s.heap a (He λ_=>(#[]:HG));obtain⟨e1,ο⟩:∃e1,(s.heap.update a (He λ_=>(#[]:HG))).get? a=aT (seqObj "list" #[] e1):=⟨_,Mx ha λ_=>#[]⟩;have G:((s.heap.update a (He λ_=>(#[]:HG))).push (seqObj "tuple" vs.toArray 0)).objs.size=s.heap.objs.size + 1:=by rw[Oe,Heap.size_update]
 unfold ksk_tree;refine dt (listItems_at ha rfl ?_);refine dt (LP ha rfl ?_ (by rw[qQ,mc];omega) (J1 _));refine dt (seqEpoch_at ο rfl ?_);refine dt (wpAny_newTuple ?_ (by show vs.length<=_;rw[mc];omega));refine dt (KU ?_ (J1 _));refine JX ?_;have γ:s0.heap.get? (s.heap.objs.size + 1)=none:=IS @A
 refine AJ (kS:=((s.heap.update a (He λ_=>(#[]:HG))).push (seqObj "tuple" vs.toArray 0)).objs.size) (e1:=e1) ⟨R.os,R.bare,(R.kp.but L Z.2).trans (KP.of λb o e=>ek _ (ek _ e))⟩ (la _ rfl) (ek _ (ek _ ο)) (by rw[G];exact Ig (Jg I)) (by rw[G];exact γ) L
  (λz=>by rw[G] at z;exact hE (ε _ z) (K6.mpr (Ih hsz (JE _)))) ξ J θ h
end
section
variable {prog:px} {w:wq} {A:Hg} {E:D'} {s:f'}
theorem uQ {r:ee} {a b:Int} {t u v:Tok} {n:Nat} {Q:F'->f'->Prop} (Y:A.handled=eH) (L:IsRange s.heap r a b 1 t u v) (ζ:LY a b 1=true) (hn:Ki a b 1=n) (I:n<=2 ^ 24)
  (h:∀h' tk (J:HG),(∀b o,s.heap.get? b=aT o->h'.get? b=aT o)->s.heap.objs.size<=h'.objs.size->ItemsOf (λi v=>∃t,v= .int (a + i * 1) t) J n->Q J.toList {s with heap:=h',toks:=tk}):
  hQ (lT prog w) A (collect (.ref r)) Q E s:=by
 unfold collect;refine dt (wpAny_runValue (JY NV ?_));refine dt (m:=newList []) (KU (hP ⟨Nj _ (by decide +kernel),JY entry_list_iadd' ?_⟩));rw[K3 qe _]
 refine wpAny_extend_range (R:=λr s'=>match r with
   | Mf (Flow.ret v)=>hQ (lT prog w) A (match v with
     | sb a=>do
       let o <-load a
       match o.data with
       | .seq xs _=>pure xs.toList
       | _=>unsupported "internal:collect"
     | _=>unsupported "internal:collect") Q E s'
   | Mf _=>False
   | O9 e=>E e s') (s:={s with heap:=s.heap.push (seqObj "list" #[] 0)}) Y (ek _ L) ζ hn I s.heap.objs.size _ 0 (la _ rfl) (λh' tk G Z hk φ ε=>?_)
 refine dt (m:=load s.heap.objs.size) (Ob φ ?_);exact hP (h h' tk G (λb o e=>hk b o (Hl (gA e)) (ek _ e)) (Jn (gA φ)) ε)
theorem Ai (n:Nat):Ki 0 n 1=n:=by rw[N5];split<;>omega
theorem x8 {n:Nat} (h:n < 64):LY 0 n 1=true:=small_one @A @A @A @A
theorem wa {r q:ee} {n:Nat} {t u v:Tok} {fs:HJ} {Q:D'} (ξ:A.handled=eH) (η:IsRange s.heap r 0 n 1 t u v) (δ:n < 64) (bare:AllBare s.gens) (Z:∀b∈fs,b < s.heap.objs.size)
  (θ:∀(i:Nat) (t:Tok),i < n->∀s',Rl fs s s'->hQ (lT prog w) A.in1.in1 (call (.ref q) [.int i t]) (λu ζ=>(∃k t,u= .int k t)/\Rl fs s' ζ) (λ_ _=>False) s')
  (h:∀D s' (out:HG) c (ns:D7),Rl fs s s'->s.heap.objs.size<=D->s'.heap.get? D=aT (seqObj "list" out c)->IntsAre out.toList (ns.map λn:Nat=>(n:Int))->ns.Perm (ko n)->Q (.ref D) s'):
  hQ (lT prog w) A (call (.builtin "sorted") [.ref r] [(Kn "key",.ref q)]) Q E s:=by
 refine call_function_entry_kw kind_sorted plain_sorted entry_sorted (ksk_s1 _ _) ?_;unfold Builtin.«sorted»;refine dt (m:=checkCount "sorted" 1 1 _) (hP ?_);refine dt (uQ (by exact ξ) η (x8 δ) (n:=n) (Ai n) @A λh' tk G γ hsz ε=>?_);have α:G.toList.length=n:=by rw[Ie,ε.1]
 have Y:(h'.push (seqObj "list" G.toList.toArray 0)).get? h'.objs.size=aT (seqObj "list" G.toList.toArray 0):=la _ rfl;refine dt (KU (show hQ _ _ _ _ _ {s with heap:=h'.push (seqObj "list" G.toList.toArray 0),toks:=tk} from ?_));refine dt (JX (wpAny_call_entry_kw slot_list_sort ⟨_,Y,rfl⟩ entry_list_sort ?body (ksk_l1 _ _)))
 case body=>
  rw[ksk_t1];refine AI (s0:=s) (fs:=fs) (vs:=G.toList) ⟨rfl,bare,KP.of λb o e=>ek _ (γ b o e)⟩ Y (IS hsz) Z (by rw[Oe];exact KG hsz) @A (λi v J s' R=>?_) (λz=>hE (Z _ z) (K6.mpr hsz)) λs' out c kz R he ο ν=>?_
  ·have hi:i < n:=by have:=(b'.mp J).1;rw[α] at this;exact this
   rw[K'] at J;obtain⟨t,rfl⟩:=ε.2 i v J;rw[show(0:Int) + (i:Int) * 1=i by omega];exact θ i t hi s' R
  ·refine⟨_,rfl,hP ⟨_,rfl,?_⟩⟩
   have hI:IntsAre G.toList ((ko n).map λi:Nat=>(i:Int)):=by
    refine m9 (nR (by rw[cY,cY,pT,α]) λi x y I β=>?_);rw[fk,fk] at I;rw[K'] at β;obtain⟨t,rfl⟩:=ε.2 i y β;have hi:i < n:=by rw[<-ε.1];exact(JG.mp β).1
    rw[HZ hi] at I;have I:V.int (i:Int)=x:=iv I;subst I;exact⟨t,by rw[show(0:Int) + (i:Int) * 1=i by omega]⟩
   obtain⟨ps,ι,ho,_⟩:=ν
   have L:out.toList.Perm G.toList:=by
    have h1:=ι.map Prod.snd;rw[List.map_snd_zip (by rw[ο];exact ov _),<-ho] at h1;exact h1
   have π:IntsAre out.toList (out.toList.map numOf):=intsAre_map _ λv J=>hI.all _ (L.mem_iff.mp J)
   have τ:(out.toList.map numOf).Perm ((ko n).map λi:Nat=>(i:Int)):=by
    have h1:=L.map numOf;rw[hI.nums] at h1;exact h1
   have e1:((out.toList.map numOf).map JT).map (λn:Nat=>(n:Int))=out.toList.map numOf:=by
    rw[Iv];refine(J5 λx I=>?_).trans (LW _);obtain⟨i,_,e⟩:=qE.mp (τ.mem_iff.mp I);show((x.toNat:Nat):Int)=x;omega
   refine h _ s' out c ((out.toList.map numOf).map JT) R hsz he (by rw[e1];exact π) ?_;have h2:=τ.map JT
   have ρ:((ko n).map λi:Nat=>(i:Int)).map JT=ko n:=by
    rw[Iv];exact(J5 (g:=id) λ(x:Nat) _=>oe x).trans (LW _)
   rw[ρ] at h2;exact h2
end
noncomputable abbrev H0:Hp:=λ_=>eH
noncomputable def A5 (P:px) (w:wq) (K:Frag) (mg:G') (base:zx) (N:C') (qual:Hk) (scope:Hy) (f:ee) (cd:hG) (G:HN) (A:Hg) (outer:ef Env) (s:f'):Cx where
 prog:=P
 w:=w
 K:=K
 mg:=mg
 base:=base
 A:=A.deeper (envX qual scope s.heap.objs.size f cd G)
 N:=N
 s₀:=s
 H₀:=H0
 env:=envX qual scope s.heap.objs.size f cd G
 outer:=outer
 stack:=envX qual scope s.heap.objs.size f cd G::outer
 ex:=[]
 fn:=λ_=>false
 calm:=true
 pn:=[]
 xe:=λ_ _=>False
section
variable {X:Cx} {pins:E'} {σ:L2.St} {H:Hp} {s s':f'}
theorem FH (I:Inv X pins σ H s) (R:Rl (frs X.stack) s s'):Inv X pins σ H s':=by
 obtain⟨G,g,d,t,os'⟩:=s';obtain rfl:os'=s.os:=R.os;refine I.call (h':=G) (g':=g) (d':=d) (t':=t) (ch:=[]) ⟨λb o e n hb _=>R.kp.keep b o e hb,λb o e n hb _=>R.kp.slot b o e hb,λ_ _ _ n _=>n,λb o e _=>?_,λ_ _ e=>e,λ_ _ _ e=>e,λb ps e=>⟨#[],by rw[e];simp⟩⟩ (λb u e=>?_) R.bare (λb z=>hE z @E)
 ·by_cases hb:b∈frs X.stack
  ·obtain⟨J,q⟩:=R.kp.slot b o e hb;exact⟨_,q⟩
  ·exact⟨o,R.kp.keep b o e hb⟩
 ·refine(I.hok b u e).stay (λc v hc q=>R.kp.keep c v q λz=>?_) (λ_ q=>q) λ_ _ q=>q;have hn:=I.stkFree c z;rcases hc with rfl | hc
  ·rw[e] at hn;cases hn
  ·rw[hc] at hn;cases hn
theorem Dg {N:C'} {qual:Hk} {scope:Hy} {f c:ee} {cd:hG} {A:Hg} {p x:Hk} {j:Nat} {v v1:V} {J:hG} {h1:zx} {tk:Nat}
  (I:Inv X pins σ H s) (hA:A.frames=aT X.stack) (τ:A.handled=eH) (hk:scope.kind= .function) (δ:N=[p,x]) (α:scope.names.lookup p=aT .local) (ξ:scope.names.lookup x=aT .free)
  (γ:∀y,(scope.names.lookup y=aT .cell∨scope.names.lookup y=aT .free)->y=x) (ζ:p≠x)
  (ρ:X.N[j]? =aT x) (ο:σ[j]? =aT (aT v)) (θ:X.env.scope.names.lookup x=aT .cell) (υ:X.env.cells.lookup x=aT c) (ι:RelV v1 J)
  (β:h1.Ns s.heap.objs.size (λy=>[(p,J)].reverse.lookup y)) (Z:∀b o,s.heap.get? b=aT o->h1.get? b=aT o):
  Inv (A5 X.prog X.w X.K X.mg X.base N qual scope f cd [(x,c)] A X.stack s) [] [aT v1,aT v] H0 {s with heap:=h1,toks:=tk}:=by
 have G:∀{y:Hk} {d:ee},([(x,c)]:HN).lookup y=aT d->y=x/\d=c:=λ{y d} e=>by
  rcases dG e with z | ⟨_,z⟩
  ·exact z
  ·cases z
 obtain⟨m,hm,π⟩:=I.loc;obtain⟨u,ε,lk⟩:=π j x v ρ ο (.inr (.inl θ))
 have L:s.heap.IsCell c (aT u):=by
  rcases lk with ⟨z,_⟩ | ⟨_,d,e,η⟩
  ·have z:X.env.scope.names.lookup x=aT .local:=z;rw[θ] at z;cases z
  ·rw[υ] at e;cases e;exact η
 have ω:∀b:ee,b∉(A5 X.prog X.w X.K X.mg X.base N qual scope f cd [(x,c)] A X.stack s).ex:=λb z=>hE (show b∈([]:HJ) from z) @E
 refine⟨⟨I.ok.mod,hk,rfl,rfl,ov _,λy z d e1 Y=>(G e1).1.trans (G Y).1.symm,λy ν=>⟨c,?_⟩,λy d z _=>hE (show false=true from z) @C,λ_=>τ,MM hA,.inr ⟨rfl,rfl⟩,λb z=>hE z (ω b),
   λb o e=>⟨I.bk b o e,rfl⟩,Ih I.ok.bsz I.sz,λb _ _=>ω b,λb z=>hE z (ω b),I.stack,λ_ _=>rfl⟩,
  rfl,I.bare,Un.kept Z,⟨_,β,λi y χ e1 Y φ=>?_⟩,λy d e=>?_,rfl,λ_ _ _=>rfl,λp α=>hE (show p∈([]:E') from α) @E,λb u e=>?_,by show 2=N.length;rw[δ];rfl⟩
 ·rw[γ y ν];exact uB
 ·have e1:N[i]? =aT y:=e1;rw[δ] at e1
  match i,e1,Y with
  | 0,e1,Y=>
    cases e1;cases Y;exact⟨J,ι,.inl ⟨α,by show([(p,J)]:HP).lookup p=_;rw[Jb];simp⟩⟩
  | 1,e1,Y=>
    cases e1;cases Y;exact⟨u,ε,.inr ⟨.inr ξ,c,uB,L.keeps Z⟩⟩
  | i + 2,e1,Y=>simp at e1
 ·obtain⟨rfl,rfl⟩:=G e;exact⟨_,L.keeps Z⟩
 ·have e:(eH:ry HO)=aT u:=e;cases e
end
structure Bd (p x:Hk) (scope:Hy):Prop where
 kind:scope.kind= .function
 co:scope.isCoroutine=false
 gen:scope.isGenerator=false
 noc:∀y∈scope.names,y.2≠.cell
 par:scope.names.lookup p=aT .local
 sh:scope.names.lookup x=aT .free
 one:∀y∈scope.names,y.2= .free->y.1=x
 ne:p≠x
noncomputable def Dh (p x:Hk) (scope:Hy):Bool:=decide (scope.kind= .function)&& !scope.isCoroutine&& !scope.isGenerator&&decide (∀y∈scope.names,y.2≠.cell)&&decide (scope.names.lookup p=aT .local)&&decide (scope.names.lookup x=aT .free)&&decide (∀y∈scope.names,y.2= .free->y.1=x)&&decide (p≠x)
theorem Bd.of {p x:Hk} {scope:Hy} (h:Dh p x scope=true):Bd p x scope:=by
 simp only[Dh,IK,Jj,Ly] at h;obtain⟨⟨⟨⟨⟨⟨⟨h1,h2⟩,L⟩,J⟩,I⟩,G⟩,θ⟩,η⟩:=h;exact⟨h1,h2,L,J,I,G,θ,η⟩
section
variable {X:Cx} {pins:E'} {σ:L2.St} {H:Hp} {s s':f'}
theorem Df {N:C'} {qual:Hk} {G:Arguments} {L:Hi} {scope:Hy} {q c Z:ee} {ξ β:hG} {A:Hg} {p x:Hk} {j:Nat} {v v1:V} {γ:hG} {te:TE}
  (I:Inv X pins σ H s) (hA:A.frames=aT X.stack) (φ:A.handled=eH) (Y:A.depth < recursionLimit) (S:Bd p x scope) (ψ:N=[p,x])
  (υ:X.N[j]? =aT x) (τ:σ[j]? =aT (aT v)) (θ:X.env.scope.names.lookup x=aT .cell) (χ:X.env.cells.lookup x=aT c) (π:RelV v1 γ)
  (ho:s.heap.get? q=aT (Oo "<lambda>" qual G L scope [(x,c)] ξ Z β)) (ι:s.heap.CodeRec (.ref Z) qual)
  (hb:∀u,bindArgs (kla_fn "<lambda>" qual G L scope [(x,c)] ξ (.ref Z) β) ⟨[u],[]⟩=pure [(p,u)])
  (ρ:PE (A5 X.prog X.w X.K X.mg X.base N qual scope q (.ref Z) [(x,c)] A X.stack s) L te) (ht:te [aT v1,aT v] H0 (fun ν _=>∃k,ν= .int k)):
  hQ (lT X.prog X.w) A (call (.ref q) [γ]) (λu δ=>(∃k t,u= .int k t)/\Rl (frs X.stack) s δ) (λ_ _=>False) s:=by
 refine MN (kla_callFunE Y ho rfl S.co S.gen rfl ι ?_);rw[hb];refine hP (NU S.noc (λy ε=>by rw[fy.mp ε];exact S.par) (λh1 η ζ=>?_) S.kind);have α:∀b o,s.heap.get? b=aT o->h1.get? b=aT o:=λb o e=>ζ.extBut b o (Hl (gA e)) (ek _ e);refine⟨I.nolimit.keeps α,?_⟩;show codeAny _ _ (.expr L (envX qual scope s.heap.objs.size q (.ref Z) [(x,c)])) _ _
 have ω:=Dg (N:=N) (qual:=qual) (f:=q) (cd:= .ref Z) (tk:=s.toks + [(p,γ)].length) I hA φ S.kind ψ S.par S.sh (λy ε=>by
  rcases ε with z | z
  ·exact hE rfl (S.noc _ (wh z))
  ·exact S.one _ (wh z) rfl) S.ne υ τ θ χ π η α
 refine kla_codeExpr (IY (ρ [] _ _ H0 _ ω ht) (λu δ h=>?_) λe δ h=>Hr h);obtain⟨ν,H',J,ο,k,rfl⟩:=h;obtain⟨t,rfl⟩:=ο;exact⟨⟨k,t,rfl⟩,J.os,J.bare,⟨λb o e hb=>J.base.keep b o e rfl hb (by intro z;exact hE (show b∈([]:HJ) from z) @E),λb o e hb=>J.base.slot b o e rfl hb (by intro z;exact hE (show b∈([]:HJ) from z) @E)⟩⟩
end
structure LamB (mg:G') (base:zx) (f P:ee):Prop where
 tab:∃(o:Mm) (fd:kv) (c:ee),base.get? f=aT o/\o.data= .func fd/\fd.code= .ref c/\CodeHd base c P
 bm:∃bm ob,mg "__builtins__"=aT (.ref bm)/\bm≠builtinsNs/\base.get? bm=aT ob/\ob.cls= .type "module"/\ob.dict=aT builtinsNs/\ob.data= .plain
noncomputable def DN (qual:Hk) (c:ee):HO:= .ext λh=>h.CodeRec (.ref c) qual
def TabL (pos:Pos) (qual:Hk) (P:ee) (H:Hp):Prop:=H P=aT (.tbl #[])∨∃c,c≠P/\H P=aT (.tbl #[rawInt pos.line,rawInt pos.col,.ref c])/\H c=aT (DN qual c)
theorem Br {h1 h2:zx} {c:ee} {qual:Hk} (x:h1.CodeRec (.ref c) qual) (k:∀o,h1.get? c=aT o->h2.get? c=aT o):h2.CodeRec (.ref c) qual:=by
 obtain⟨G,o,vs,t,e,g,r⟩:=x;cases e;exact⟨c,o,vs,t,rfl,k _ g,r⟩
theorem E4 {h1:zx} {c:ee} {qual:Hk} (x:h1.CodeRec (.ref c) qual):∃o,h1.get? c=aT o:=by
 obtain⟨G,o,vs,t,e,g,r⟩:=x;cases e;exact⟨o,g⟩
section
variable {X:Cx} {pins:E'} {σ:L2.St} {H:Hp} {s s':f'}
theorem fr_lt (I:Inv X pins σ H s):∀b∈frs X.stack,b < s.heap.objs.size:=λb hb=>by
 obtain⟨_,o,ho,_⟩:=I.stack.mem hb;exact gA ho
theorem DF {P c:ee} {ps more:HG} {qual:Hk} {h1:zx} {tk:Nat} (I:Inv X pins σ H s) (τ:H P=aT (.tbl ps)) (hx:∀b o,b≠P->s.heap.get? b=aT o->h1.get? b=aT o) (Z:h1.get? P=aT (tabObj (ps++more))) (hc:s.heap.objs.size<=c) (G:h1.CodeRec (.ref c) qual):
  Inv X pins σ (upd (upd H P (.tbl (ps++more))) c (DN qual c)) {s with heap:=h1,toks:=tk}:=by
 have ε:s.heap.get? P=aT (tabObj ps):=I.hok P _ τ;have δ:P < s.heap.objs.size:=gA ε;have ω:c≠P:=λz=>by rw[z] at hc;exact hE δ (K6.mpr hc)
 have hn:H c=none:=I.hok.fresh hc;have γ:∀b,H b=eH->b≠P:=λb n z=>by rw[z,τ] at n;cases n
 have ι:∀b,b≠P->b≠c->upd (upd H P (.tbl (ps++more))) c (DN qual c) b=H b:=λb χ β=>by rw[aC β,aC χ]
 have L:∀b u,H b=aT u->b≠c:=λb u e=>au e hn;have Y:∀b u,H b=aT u->(∀ps,u≠.tbl ps)->b≠P:=λb u e χ β=>by rw[β,τ] at e;cases e;exact χ ps rfl
 refine I.un (t':=tk) ⟨λb o e n _ _=>hx b o (γ b n) e,λb o e n _ _=>⟨o.slots,hx b o (γ b n) e⟩,λb o e n _=>?_,λb o e _=>?_,λb xs e=>?_,λb o u e=>?_,λb J e=>?_⟩ λb u e=>?_
 ·rw[ι b (γ b n) (λz=>by rw[z] at e;exact hE (gA e) (K6.mpr hc))];exact n
 ·by_cases z:b=P
  ·rw[z];exact⟨_,Z⟩
  ·exact⟨o,hx b o z e⟩
 ·rw[ι b (Y b _ e λ_ z=>by cases z) (L b _ e)];exact e
 ·rw[ι b (Y b _ e λ_ z=>by cases z) (L b _ e)];exact e
 ·by_cases z:b=P
  ·subst z;rw[τ] at e;cases e;exact⟨more,by rw[aC ω.symm,aJ]⟩
  ·exact⟨#[],by rw[ι b z (L b _ e),e];simp⟩
 ·by_cases z:b=c
  ·subst z;rw[aJ] at e;cases e;exact⟨G,E4 G,λh1 h2 x k=>Br x k⟩
  ·rw[aC z] at e;by_cases α:b=P
   ·subst α;rw[aJ] at e;cases e;exact Z
   ·rw[aC α] at e;refine(I.hok b u e).stay (λd v hd q=>hx d v ?_ q) (λd q=>?_) λd xs q=>?_
    ·rcases hd with z | z
     ·rw[z];exact α
     ·exact Y d _ z λ_ z=>by cases z
    ·rw[ι d (Y d _ q λ_ z=>by cases z) (L d _ q)];exact q
    ·rw[ι d (Y d _ q λ_ z=>by cases z) (L d _ q)];exact q
theorem Fw {L:Arguments} {β:Hi} {scope:Hy} {pos:Pos} {f c P:ee} {x:Hk} {cd:ee} (I:Inv X pins σ H s) (γ:X.env.code= .ref cd) (C:CodeHd X.base cd P) (B:LamB X.mg X.base f P) (T:TabL pos (X.env.qual++"<lambda>") P H)
  (η:defaultsOf L X.env=([],[])) (J:closureFor scope X.env=pure [(x,c)]):
  hQ (lT X.prog X.w) X.A (eval (.Lambda L β scope pos) X.env) (λu δ=>∃(q Y:ee) (H2:Hp) (pm Z:hG),u= .ref q/\Inv X pins σ H2 δ/\TabL pos (X.env.qual++"<lambda>") P H2/\(∀b o,b≠P->H b=aT o->H2 b=aT o)/\
   δ.heap.get? q=aT (Oo "<lambda>" (X.env.qual++"<lambda>") L β scope [(x,c)] pm Y Z)/\δ.heap.CodeRec (.ref Y) (X.env.qual++"<lambda>")/\q∉frs X.stack/\Y∉frs X.stack/\(∀b o,b≠P->s.heap.get? b=aT o->δ.heap.get? b=aT o)/\s.heap.objs.size<=δ.heap.objs.size) X.xe s:=by
 refine kla_eval η ?_;obtain⟨bm,ob,b1,b2,ξ,G,b5,b6⟩:=B.bm;have ζ:=I.mod.glob.keeps I.bk
 have χ:∃ps,H P=aT (.tbl ps):=by
  rcases T with e | ⟨_,_,e,_⟩
  ·exact⟨_,e⟩
  ·exact⟨_,e⟩
 obtain⟨ι,ψ⟩:=χ
 have nP:∀b o,X.base.get? b=aT o->b≠P:=λb o e z=>by
  have:=(I.bs b o e).2;rw[z,ψ] at this;cases this
 have υ:Ia≠P:=by
  obtain⟨o,es,ep,e,_⟩:=I.mod.glob;exact nP _ _ e
 have φ:bm≠mainGlobals:=λz=>by
  obtain⟨o,es,ep,e,hd,_⟩:=I.mod.glob;rw[z,e] at ξ;cases ξ;rw[hd] at b6;cases b6
 have hB:s.heap.BuiltinsAt X.mg P:=⟨bm,ob,b1,b2,φ,nP _ _ ξ,I.bk _ _ ξ,G,b5,b6⟩;have CC:=C.keeps I.bk;have ε:∀b,s.heap.objs.size<=b->b∉frs X.stack:=λb hb z=>hE (fr_lt I b z) (K6.mpr hb);rcases T with e | ⟨Y,π,e,ec⟩
 ·have θ:s.heap.get? P=aT (tabObj #[]):=I.hok P _ e;refine kla_makeFunction (mg:=X.mg) J I.ok.glob ζ γ CC θ trivial rfl υ hB λY Z h' tk hx ν ρ α τ=>?_;have ο:=gA θ;have ω:Y≠P:=λz=>by rw[z] at ν;exact hE ο (K6.mpr ν)
  have hsz:s.heap.objs.size<=h'.objs.size:=Ih ν (Jn ρ);have kx:∀b o,b≠P->s.heap.get? b=aT o->(h'.push (Oo "<lambda>" (X.env.qual++"<lambda>") L β scope [(x,c)] ((X.mg "__name__").getD .none) Y Z)).get? b=aT o:=λb o z q=>ek _ (hx b o z q);refine⟨_,Y,_,_,Z,rfl,DF (c:=Y) (tk:=tk) I e kx (ek _ τ) ν (α.push _),.inr ⟨Y,ω,by rw[aC ω.symm,aJ];rfl,aJ⟩,λb o z q=>?_,la _ rfl,α.push _,ε _ hsz,ε _ ν,kx,by rw[Ij];exact KG hsz⟩;rw[aC (au q (I.hok.fresh ν)),aC z];exact q
 ·have θ:s.heap.get? P=aT (tabObj #[rawInt pos.line,rawInt pos.col,.ref Y]):=I.hok P _ e;refine kla_makeFunctionHit (mg:=X.mg) (cv:= .ref Y) J I.ok.glob ζ γ CC θ trivial ?hf hB λZ h' tk hk hsz=>?_
  case hf=>
   show codeAmong pos [.int pos.line 0,.int pos.col 0,.ref Y]=_;unfold codeAmong;rw[pe @E]
  obtain⟨α,_,_⟩:=I.hok Y _ ec;have kx:∀b o,s.heap.get? b=aT o->(h'.push (Oo "<lambda>" (X.env.qual++"<lambda>") L β scope [(x,c)] ((X.mg "__name__").getD .none) Y Z)).get? b=aT o:=λb o q=>ek _ (hk b o q);refine⟨_,Y,H,_,Z,rfl,I.kept (t':=tk) kx,.inr ⟨Y,π,e,ec⟩,λb o _ q=>q,la _ rfl,Heap.CodeRec.keeps α kx,ε _ hsz,λz=>?_,λb o _ q=>kx b o q,by rw[Ij];exact KG hsz⟩;have:=I.stkFree Y z;rw[ec] at this;cases this
end
def DY (pos:Pos) (qual:Hk) (P:ee) (j:Nat) (te:TE) (σ:L2.St) (Q:VK) (G:V) (H1:Hp):Prop:=∃(n:Nat) (v:V),G= .int (n:Int)/\n < 64/\TabL pos qual P H1/\σ[j]? =aT (aT v)/\
 (∀i:Nat,i < n->te [aT (.int (i:Int)),aT v] H0 λI _=>∃k,I= .int k)/\
 ∀(D:ee) (H2:Hp) (ns:D7),H1 D=eH->D≠P->(∀b o,b≠P->H1 b=aT o->H2 b=aT o)->TabL pos qual P H2->H2 D=aT (.lst (ns.map λk:Nat=>V.int (k:Int)))->ns.Perm (ko n)->Q (.ref D) H2
noncomputable def vh (pos:Pos) (qual:Hk) (P:ee) (j:Nat) (I te:TE):TE:=fun σ H Q=>I σ H λG H1=>DY pos qual P j te σ Q G H1
theorem tD:bootBuiltins "sorted"=aT (.builtin "sorted"):=by decide +kernel
theorem s_sortlam {pos:Pos} {qual:Hk} {P:ee} {j:Nat} {G te:TE} {σ:L2.St} {H:Hp} {Q:VK} (h:G σ H λI H1=>DY pos qual P j te σ Q I H1):vh pos qual P j G te σ H Q:=h
section
variable {X:Cx} {pins:E'} {σ:L2.St} {H:Hp} {s s':f'}
theorem DG {D:ee} {ns:D7} {out:HG} {c:Nat} (I:Inv X pins σ H s) (R:Rl (frs X.stack) s s') (ι:s.heap.objs.size<=D) (hn:ns.length<=i') (e:s'.heap.get? D=aT (seqObj "list" out c)) (hi:IntsAre out.toList (ns.map λn:Nat=>(n:Int))):
  Inv X pins σ (upd H D (.lst (ns.map λk:Nat=>V.int (k:Int)))) s':=by
 have hf:=I.hok.fresh ι;obtain⟨G,g,d,t,os'⟩:=s';obtain rfl:os'=s.os:=R.os;refine I.call (h':=G) (g':=g) (d':=d) (t':=t) (ch:=[]) ⟨λb o e n hb _=>R.kp.keep b o e hb,λb o e n hb _=>R.kp.slot b o e hb,λb o e n _=>?_,λb o e _=>?_,λb xs e=>?_,λb o u e=>?_,λb ps e=>⟨#[],?_⟩⟩ (λb u τ=>?_) R.bare (λb z=>hE z @E)
 ·rw[aC λz=>by rw[z] at e;exact hE (gA e) (K6.mpr ι)];exact n
 ·by_cases hb:b∈frs X.stack
  ·obtain⟨J,q⟩:=R.kp.slot b o e hb;exact⟨_,q⟩
  ·exact⟨o,R.kp.keep b o e hb⟩
 ·rw[aC (au e hf)];exact e
 ·rw[aC (au e hf)];exact e
 ·rw[aC (au e hf),e];simp
 ·by_cases z:b=D
  ·subst z;rw[aJ] at τ;cases τ;refine⟨by rw[cY];exact hn,out.toList,c,?_,by simpa using e⟩;have:=kE hi;rw[Iv] at this;exact this
  ·rw[aC z] at τ;refine(I.hok b u τ).stay (λc v hc q=>R.kp.keep c v q λz=>?_) (λc q=>by rw[aC (au q hf)];exact q) λc xs q=>by rw[aC (au q hf)];exact q
   have hn:=I.stkFree c z;rcases hc with rfl | hc
   ·rw[τ] at hn;cases hn
   ·rw[hc] at hn;cases hn
theorem pe_sortlam {e:Hi} {tn te:TE} {N:C'} {p x:Hk} {j m:Nat} {G:Arguments} {L:Hi} {scope:Hy} {φ p1 p2 γ ν kp:Pos} {f cd P:ee}
  (hc:X.calm=true) (g1:Gl X "sorted") (g2:Gl X "range") (n1:X.mg "sorted"=eH) (n2:X.mg "range"=eH) (he:PE X e tn) (hr:Room (m + 3) X.A) (α:X.env.code= .ref cd) (C:CodeHd X.base cd P) (B:LamB X.mg X.base f P)
  (S:Dh p x scope=true) (hN:N=[p,x]) (hj:X.N[j]? =aT x) (θ:X.env.scope.names.lookup x=aT .cell) (J:∃c,closureFor scope X.env=pure [(x,c)]/\X.env.cells.lookup x=aT c) (ο:defaultsOf G X.env=([],[]))
  (hb:∀qual ψ pm cd π u,bindArgs (kla_fn "<lambda>" qual G L scope ψ pm cd π) ⟨[u],[]⟩=pure [(p,u)])
  (ρ:∀q υ ψ A s,Room m (A.deeper (envX (X.env.qual++"<lambda>") scope s.heap.objs.size q (.ref υ) ψ))->PE (A5 X.prog X.w X.K X.mg X.base N (X.env.qual++"<lambda>") scope q (.ref υ) ψ A X.stack s) L te)
  (h1:oD [NB (.Name "range" p1) [e] [] p2] X.env=[(false,eval (.Call (.Name "range" p1) [e] [] p2) X.env)]:=by rfl) (h2:oD [e] X.env=[(false,eval e X.env)]:=by rfl):
  PE X (.Call (.Name "sorted" γ) [.Call (.Name "range" p1) [e] [] p2] [⟨aT "key",.Lambda G L scope φ,kp⟩] ν) (vh φ (X.env.qual++"<lambda>") P j tn te):=by
 intro pins s σ H Q I h;obtain⟨c,J,a4⟩:=J;have S:=Bd.of S;refine JZ (iS I g1 n1 tD (callWith_kw ?_));rw[h1];show hQ _ _ (spliced ((false,eval (.Call (.Name "range" p1) [e] [] p2) X.env)::backTo ν [])) _ _ s;refine Ko ?_;refine N9 (iS I g2 n2 Of (Hh (thn (aa he af h2 p2 pins s σ H (λvs H1=>match vs with | [x]=>DY φ (X.env.qual++"<lambda>") P j te σ Q x H1 | _=>False) I h) λus s1 ⟨vs,H1,I1,r1,γ⟩=>?_) h2 rfl))
 match vs,r1,γ with
 | [x],r1,γ=>
 obtain⟨n,v,rfl,hn,T,hv,ht,q⟩:=γ;cases r1 with
 | cons r rr=>
 cases rr;obtain⟨t',rfl⟩:=r;refine Nk ?_;refine KB ?_;show hQ _ _ (evalAll ((do let v <-eval (.Lambda G L scope φ) X.env;standAt ν;pure v)::[])) _ _ _
 have a5:∃ps,H1 P=aT (.tbl ps):=by
  rcases T with e | ⟨_,_,e,_⟩
  ·exact⟨_,e⟩
  ·exact⟨_,e⟩
 obtain⟨b4,b3⟩:=a5;have ε:P < s1.heap.objs.size:=I1.hok.lt b3;refine wpAny_evalAll_cons (dt (thn (Fw (H:=H1) (pins:=pins) (σ:=σ) (I1.kept λb u e=>ek _ e) α C B T ο J) λu s2 β=>?_));obtain⟨χ,υ,H2,pm,π,δ,I2,T2,k2,ho,ζ,ξ,nc,kh,hsz⟩:=β;subst δ;refine dt (LO (hP (wpAny_evalAll_nil ?_)));have rP:s1.heap.objs.size≠P:=Ig ε;refine wa (fs:=frs X.stack) (n:=n) (I2.ok.hd hc) (kh _ _ rP (MB ..)) hn I2.bare (fr_lt I2) (λi t hi s' R=>?_) λD s' out cc ns R ι a6 hI τ=>?_
 ·have I':=FH I2 R;have ω:Room m ((X.A.in1.in1).deeper (envX (X.env.qual++"<lambda>") scope s'.heap.objs.size χ (.ref υ) [(x,c)])):=(Room.in1 (Room.in1 hr)).deeper _;exact Df (v1:= .int (i:Int)) (A:=X.A.in1.in1) I' I'.ok.frames hr.hd (by have:=hr.dp;show X.A.depth < _;omega) S hN hj hv θ a4 ⟨t,rfl⟩ (R.kp.keep _ _ ho ξ) (Br ζ λo z=>R.kp.keep _ _ z nc) (λu=>hb _ _ _ _ _ u) (ρ χ υ _ _ _ ω) (ht i hi)
 ·have hl:ns.length<=sizeLine:=by rw[τ.length_eq,pT,mc];omega
  have η:=I2.hok.fresh ι;have Y:s1.heap.objs.size<=D:=Ih (Ih (by rw[Ij];exact JE _) hsz) ι;have a3:H1 D=none:=I1.hok.fresh Y;have Z:D≠P:=λz=>by rw[z] at Y;exact hE ε (K6.mpr Y)
  refine⟨.ref D,_,DG I2 R ι hl a6 hI,rfl,q D _ ns a3 Z (λb o z e=>?_) ?_ aJ τ⟩
  ·have:=k2 b o z e;rw[aC (au this η)];exact this
  ·rcases T2 with e | ⟨c2,a0,e,ec⟩
   ·exact .inl (by rw[aC Z.symm];exact e)
   ·exact .inr ⟨c2,a0,by rw[aC Z.symm];exact e,by rw[aC (au ec η)];exact ec⟩
end
def LamM (mg:G') (base:zx):Prop:=∃bm G,mg "__builtins__"=aT (.ref bm)/\bm≠builtinsNs/\base.get? bm=aT G/\G.cls= .type "module"/\G.dict=aT builtinsNs/\G.data= .plain
theorem yH {P:px} {w:wq} {K:Frag} {mg χ:G'} {CX:CXT} {k:Nat} {fa a T:ee} {fd:kv} {x:Hk} {sp:Sp} {G:f'} {vs:F'} {ns:HK} {φ:ee}
  (KX:K.In G.heap) (a3:noTabs K=true) (δ:G.heap.Ns Ia mg) (hb:G.heap.Ns builtinsNs χ) (a6:∀x:Hk,x≠"__name__"->χ x=bootBuiltins x) (ε:G.heap.NoLimit) (hg:G.gens=#[])
  (ha:G.heap.get? a=aT {cls:= .type "list",data:= .seq vs.toArray}) (hi:IntsAre vs ns) (hl:ns.length<=i') (hr:Room k callerA)
  (hT:G.heap.get? T=aT (tabObj #[])) (hC:CodeHd G.heap φ T)
  (a5:∃bm Z,mg "__builtins__"=aT (.ref bm)/\bm≠builtinsNs/\G.heap.get? bm=aT Z/\Z.cls= .type "module"/\Z.dict=aT builtinsNs/\Z.data= .plain)
  (F:∀base:zx,K.In base->base.Ns Ia mg->LamM mg base->FnOk P w K mg base CX k fa fd [x] sp) (I:∀(s:f') (u:hG),BindsTo s fd ⟨[u],[]⟩ [(x,u)])
  (a0:∀H:Hp,SqL K H a (ns.map V.int)->H T=aT (.tbl #[])->sp [.ref a] H (λv _=>v= .bl true) λ_ _ _=>False)
  (J:∀H e s',CX [] H G (λ_ _ _=>False) e s'->False):
  codeAny (lT P w) callerA (.call (.ref fa) ⟨[.ref a],[]⟩) (λr s'=>r= .ok (.ret (.bool true))/\OldK G.heap s'.heap/\s'.os=G.os/\AllBare s'.gens) G:=by
 have rv:=kE hi;have γ:=hi.length;have ξ:a≠T:=λz=>by rw[z,hT] at ha;cases ha
 have β:∀H:Hp,SqL K H a (ns.map V.int)->H T=aT (.tbl #[])->HOk P w H G.heap->(∀b,H b≠eH->b=a∨b=T)->(H a=eH∨∃o xs,H a=aT (.frz o (.lst xs)))->(H a≠eH->K.lookup a=eH)->
   codeAny (lT P w) callerA (.call (.ref fa) ⟨[.ref a],[]⟩) (λr s'=>r= .ok (.ret (.bool true))/\OldK G.heap s'.heap/\s'.os=G.os/\AllBare s'.gens) G:=by
  intro H hS ι hok hA a4 hK;have ν:∀{b:ee} {o:Mm},G.heap.get? b=aT o->H b=eH->(hidT G.heap H).get? b=aT o:=λe n=>AN e n
  have ω:∀{b:ee} {o:Mm},G.heap.get? b=aT o->(∀xs n,o.data≠.seq xs n)->(∀ps,o.data≠.fields ps∨o.cls≠.none)->H b=none:=λ{b o} e d1 d2=>by
   cases q:H b with
   | none=>rfl
   | some u=>
     rcases hA b (by rw[q];simp) with e' | e'
     ·subst e';rw[ha] at e;cases e;exact hE rfl (d1 vs.toArray _)
     ·subst e';rw[hT] at e;cases e;rcases d2 #[] with z | z<;>exact hE rfl z
  have η:∀{b:ee} {m:G'},G.heap.Ns b m->(hidT G.heap H).Ns b m:=λ{b m} ⟨o,es,ep,e,d,r⟩=>⟨o,es,ep,ν e (ω e (λxs n z=>by rw[d] at z;cases z) λps=> .inl λz=>by rw[d] at z;cases z),d,r⟩
  have ζ:K.In (hidT G.heap H):=λb o e=>ν (KX b o e) (by
   cases q:H b with
   | none=>rfl
   | some u=>
     rcases hA b (by rw[q];simp) with e' | e'
     ·subst e';rw[hK (by rw[q];simp)] at e;cases e
     ·subst e';have h1:=KX _ _ e;rw[hT] at h1;cases h1;have h2:=Kd.mp a3 (b,tabObj #[]) (mem_of_lookupK e);exact hE (show false=true from h2) gn)
  have hM:Mod K mg (hidT G.heap H):=⟨ζ,η δ,⟨χ,η hb,a6⟩,let ⟨ο,h1,h2⟩:=ε;⟨ο,η h1,h2⟩⟩;have υ:Env0 P w K mg (hidT G.heap H) callerA [] G H:=⟨rfl,hM,λb o e=>C4 e,LL (yU _ _),trivial,λb hb=>hE (show b∈([]:HJ) from hb) @E,hok,.of_eq hg⟩
  have hB:LamM mg (hidT G.heap H):=by
   obtain⟨bm,Z,h1,h2,h3,θ,h5,h6⟩:=a5;exact⟨bm,Z,h1,h2,ν h3 (ω h3 (λxs n z=>by rw[h6] at z;cases z) λps=> .inl λz=>by rw[h6] at z;cases z),θ,h5,h6⟩
  refine La ((F _ ζ (η δ) hB).run callerA [] G H ⟨[.ref a],[]⟩ [.ref a] [.ref a] _ _ hr υ (I G (.ref a)) (.cons rfl .nil) (a0 H hS ι)) λr s' h=>?_;cases r with
  | error e=>exact(J H e s' h).elim
  | ok fl=>
    cases fl with
    | next=>exact Hr h
    | brk=>exact Hr h
    | cont=>exact Hr h
    | ret u=>
      obtain⟨v,H',os,bare,un,α,r',q⟩:=h;have q':v= .bl true:=q;subst q';obtain rfl:u=N6 true:=r'
      have kept:∀b o,b≠T->G.heap.get? b=aT o->s'.heap.get? b=aT o:=λb o nb e=>by
       cases q:H b with
       | none=>exact un.keep b o e q (by intro z;exact hE (show b∈([]:HJ) from z) @E) @E
       | some u=>
         rcases hA b (by rw[q];simp) with e' | e'
         ·subst e';rcases a4 with z | ⟨Z,xs,z⟩
          ·rw[q] at z;cases z
          ·have z2:=un.frzs b Z _ z;obtain⟨e1,_⟩:=hok b _ z;obtain⟨e2,_⟩:=α b _ z2;rw[e] at e1;cases e1;exact e2
         ·exact hE e' nb
      obtain⟨more,Y⟩:=un.tbls T _ ι;have ρ:s'.heap.get? T=aT (tabObj (#[]++more)):=α T _ Y;refine⟨rfl,⟨λb o e=>?_,λb o e=>?_⟩,os,bare⟩
      ·by_cases L:b=T
       ·subst L;rw[hT] at e;cases e;obtain⟨o,τ,b4,tf,b3,tg,π,ψ,tt,e1,e2,e3,e4,_⟩:=hC;exact .inr (.inl ⟨⟨φ,o,τ,e1,e2,e3,e4⟩,rfl,#[],more,rfl,ρ⟩)
       ·exact .inl (kept b o L e)
      ·by_cases L:b=T
       ·subst L;exact⟨_,ρ⟩
       ·exact⟨o,kept b o L e⟩
 cases hk:K.lookup a with
 | some o=>
   have e:=KX a o hk;rw[ha] at e;cases e;refine β (λb=>if b=T then aT (.tbl #[]) else eH) (.inr ⟨_,vs.toArray,_,hk,rfl,rfl,rfl,by rw[qQ,γ];exact hl,by simpa using rv⟩) (pe rfl) (λb u z=>?_) (λb z=>?_) (.inl (nk ξ)) λz=>hE (nk ξ) z
   ·dsimp only at z;by_cases h1:b=T
    ·rw[pe h1] at z;cases z;subst h1;exact hT
    ·rw[nk h1] at z;cases z
   ·by_cases h1:b=T
    ·exact .inr h1
    ·exact hE (nk h1) z
 | none=>
   refine β (λb=>if b=T then aT (.tbl #[]) else if b=a then aT (.frz {cls:= .type "list",data:= .seq vs.toArray} (.lst (ns.map V.int))) else eH) (.inl (.inr ⟨{cls:= .type "list",data:= .seq vs.toArray},by(try dsimp only);rw[nk ξ,pe rfl]⟩)) (pe rfl) (λb u z=>?_) (λb z=>?_) (.inr ⟨_,_,by(try dsimp only);rw[nk ξ,pe rfl]⟩) λ_=>hk
   ·dsimp only at z;by_cases h1:b=T
    ·rw[pe h1] at z;cases z;subst h1;exact hT
    ·rw[nk h1] at z;by_cases h2:b=a
     ·rw[pe h2] at z;cases z;subst h2;exact⟨ha,by rw[cY];exact hl,vs,_,rv,ha⟩
     ·rw[nk h2] at z;cases z
   ·by_cases h1:b=T
    ·exact .inr h1
    ·by_cases h2:b=a
     ·exact .inl h2
     ·exact hE (show(if b=T then aT (HO.tbl #[]) else if b=a then aT (.frz {cls:= .type "list",data:= .seq vs.toArray} (.lst (ns.map V.int))) else eH)=eH by rw[nk h1,nk h2]) z
theorem walk_ofT {l:MG} {n k:Nat} {q:px} {Z:C'} {υ:G'->zx->Prop} {ι:wq->zx->Prop} {d:DefRec} {K:Params->Frag} {CX:wq->CXT} {sp:wq->Sp} {x:Hk} {PT:ee}
  (hn:l.most=aT n) (η:n<=i') (θ:d.params.defaults=[]) (ο:Room k callerA)
  (χ:∀(w:wq) (h:zx),ι w h->(K w.params).In h) (hT:∀(w:wq) (h:zx),ι w h->h.get? PT=aT (tabObj #[])) (ζ:∀w:wq,noTabs (K w.params)=true)
  (F:∀(w:wq) (mg:G') (ε:ee) (h:zx),(K w.params).In h->h.Ns Ia mg->mg d.name=aT (.ref ε)->
   ∃fd:kv,(∀(s:f') (u:hG),BindsTo s fd ⟨[u],[]⟩ [(x,u)])/\(∃c,CodeHd h c PT)/\
     ∀base:zx,(K w.params).In base->base.Ns Ia mg->LamM mg base->FnOk l.prog w (K w.params) mg base (CX w) k ε fd [x] (sp w))
  (ω:∀(w:wq) (H:Hp) (a:ee) (ns:HK),ns.length<=n->SqL (K w.params) H a (ns.map V.int)->H PT=aT (.tbl #[])->sp w [.ref a] H (λv _=>v= .bl true) λ_ _ _=>False)
  (J:∀(w:wq) (H:Hp) (s:f') (e:hG) (s':f'),CX w [] H s (λ_ _ _=>False) e s'->False):
  WalkO q Z υ ι l.row.toRowW d [] (λf vs=>N7 f vs):=by
 refine Att.attach_call hn θ λw s₀ γ mg mb ε o I cd α a vs ns G Y ho hd τ ρ δ β L π=>?_;have ν:=χ w _ Y;obtain⟨fd,hb,⟨c,hC⟩,hF⟩:=F w mg ε _ ν G.T.g ρ;exact yH ν (ζ w) G.T.g G.T.b G.T.builtins G.T.nolimit π δ β (Ih L η) ο (hT w _ Y) hC G.T.bmain (λbase φ ξ B=>hF base φ ξ B) hb (λH ψ hT=>ω w H a ns L ψ hT) λH e s'=>J w H γ e s'
theorem LamB.mk2 {mg:G'} {K:Frag} {base:zx} {f c PT:ee} {I:hG} {od:HL} {fd:kv} {G:HH} (φ:K.In base) (l:K.lookup f=aT ⟨I,od,.func fd,G⟩) (hc:fd.code= .ref c) (h:codeHdIn K c PT=true) (m:LamM mg base):LamB mg base f PT:=
 ⟨⟨_,fd,c,φ _ _ l,rfl,hc,codeHd_of_K φ h⟩,m⟩
end LM
namespace L2
open PySem PySem.Spec PyProof.Rows
theorem Fun.okL {P:px} {w:wq} {K:a'} {mg:G'} {base:zx} {x qual:Hk} {st:JQ} {f T:ee} {fd:kv} {N ps:C'} {k:Nat} {sp:Sp} (F:Fun K x qual st f fd) (φ:K.In base) (B:LM.LamB mg base f T) (S:aB N ps (ah st)) (len:∀vs H Q E,sp vs H Q E->vs.length=ps.length)
  (G:∀(c:ee) (A:Hg) (outer:ef Env) (s:f') (H:Hp) (vs:ef V) (Q:VK) (E:XK),PySem.W.CodeHd base c T->Room k (A.deeper (envOfC qual (ah st) s.heap.objs.size f (.ref c)))->sp vs H Q E->
   ∃t,PSs (cxOf CX0 P w K mg base N qual (ah st) f (.ref c) A outer s H E).nox (cM st) t/\t {nx:=λ_ H'=>Q .non H',rt:=Q} (kF N vs) H):FnOk P w K mg base CX0 (k + 1) f fd ps sp:=by
 obtain⟨γ,od,kV,α,I,an,Y,ct,ν,rfl,lk,J⟩:=F.ex;obtain⟨o,β,c,h1,h2,L,θ⟩:=B.tab;have:=φ _ _ lk;rw[h1] at this;cases this;cases h2;have L:Y= .ref c:=L;subst L;refine AS lk J S len λA outer s H vs Q E Z ω=>?_;obtain⟨t,h,q⟩:=G c A outer s H vs Q E θ Z ω;exact⟨t,h.nox,q⟩
end L2
set_option autoImplicit false
namespace M
theorem DH (a b:Nat):(a||| b) / 2=a / 2||| b / 2:=by
 apply hJ;intro i;simp[Kk,L0]
theorem AO (a b:Nat):(a&&&b) / 2=a / 2&&&b / 2:=by
 apply hJ;intro i;simp[Kk,HY]
theorem vE (a b:Nat):(a^^^b) / 2=a / 2^^^b / 2:=by
 apply hJ;intro i;simp[Kk,vl]
theorem or_sum (a:Nat):∀b:Nat,a||| b=(a^^^b) + (a&&&b):=by
 induction a using O6 with
 | ind a ih=>
   intro b;by_cases ha:a=0
   ·subst ha;simp
   ·have h:=ih (a / 2) @A (b / 2);have e1:=M5 (a||| b) 2;have I:=M5 (a^^^b) 2;have G:=M5 (a&&&b) 2;rw[DH] at e1;rw[vE] at I;rw[AO] at G;have φ:(a||| b) % 2=(a % 2||| b % 2):=by have:=@Nat.or_mod_two_pow a b 1;simpa using this
    have J:(a^^^b) % 2=(a % 2^^^b % 2):=by have:=@Nat.xor_mod_two_pow a b 1;simpa using this
    have τ:(a&&&b) % 2=(a % 2&&&b % 2):=by have:=@Nat.and_mod_two_pow a b 1;simpa using this
    have c:(a % 2||| b % 2)=(a % 2^^^b % 2) + (a % 2&&&b % 2):=by
     rcases J3 a with h1 | h1<;>rcases J3 b with h2 | h2<;>rw[h1,h2]<;>decide
    omega
noncomputable def pb:Nat->Nat->IA
 | 0,_=>false
 | w + 1,m=>(m.testBit w)^^(pb w m)
theorem Bz (w a b:Nat):pb w (a^^^b)=(pb w a^^pb w b):=by
 induction w with
 | zero=>rfl
 | succ w ih=>
   simp only[pb,vl,ih];cases a.testBit w<;>cases b.testBit w<;>cases pb w a<;>cases pb w b<;>rfl
theorem mZ (h j m:Nat):pb (h + j) m=(pb h m^^pb j (m>>>h)):=by
 induction j with
 | zero=>simp[pb]
 | succ j ih=>
   rw[Nat.add_succ];simp only[pb,ih,Ju];cases m.testBit (h + j)<;>cases pb h m<;>cases pb j (m>>>h)<;>rfl
theorem yo (h m:Nat):pb h (m % 2 ^ h)=pb h m:=by
 suffices ∀j,j<=h->pb j (m % 2 ^ h)=pb j m from this h (ov h)
 intro j
 induction j with
 | zero=>intro _;rfl
 | succ j ih=>
   intro G;simp only[pb];rw[ih @A,Nat.testBit_mod_two_pow];simp[show j < h by omega]
theorem CU (w j m:Nat) (hm:m < 2 ^ w):pb (w + j) m=pb w m:=by
 rw[mZ,zt,Nat.div_eq_of_lt hm]
 have:∀j,pb j 0=false:=by intro j;induction j with
  | zero=>rfl
  | succ j ih=>simp[pb,ih]
 rw[this];simp
theorem pb_up {w χ m:Nat} (hm:m < 2 ^ w) (h:w<=χ):pb χ m=pb w m:=by
 obtain⟨j,rfl⟩:=KN h;exact CU w j m hm
theorem pb_fold (w h m:Nat) (hw:h<=w) (hm:m < 2 ^ w) (h2:w<=2 * h):pb h ((m>>>h)^^^(m&&&(2 ^ h - 1)))=pb w m:=by
 rw[K5,Bz,yo];obtain⟨j,rfl⟩:=KN hw;rw[mZ]
 have G:m>>>h < 2 ^ j:=by
  rw[zt];exact Lc (by rw[<-Me];exact hm)
 rw[pb_up G (show j<=h by omega)];cases pb j (m>>>h)<;>cases pb h m<;>rfl
theorem fold_lt (w h m:Nat) (hm:m < 2 ^ w) (h2:w<=2 * h):(m>>>h)^^^(m&&&(2 ^ h - 1)) < 2 ^ h:=by
 apply JI
 ·rw[zt];refine Lc ?_;rw[<-Me];exact eu hm (hD @C @A)
 ·rw[K5];exact Nz _ (lz h)
noncomputable def pl (w m:Nat):D7:=(ko w).filter m.testBit
theorem pl_up {w χ m:Nat} (hm:m < 2 ^ w) (h:w<=χ):pl χ m=pl w m:=by
 obtain⟨j,rfl⟩:=KN h;unfold pl;rw[List.range_add,Kb]
 have:List.filter m.testBit (O2 (λx=>w + x) (ko j))=[]:=by
  rw[ML];intro a ha;obtain⟨k,_,rfl⟩:=qE.mp ha;rw[oP (eu hm (hD @C (JL w k)))];simp
 rw[this,K8]
noncomputable def xm (ps:D7):Nat:=ps.foldl (λa p=>a^^^2 ^ p) 0
theorem B0 (ps:D7):∀(a k:Nat),(ps.foldl (λa p=>a^^^2 ^ p) a).testBit k=(a.testBit k^^(ps.count k % 2 == 1)):=by
 induction ps with
 | nil=>intro a k;simp
 | cons p ps ih=>
   intro a k;rw[O0,ih,vl,nq,List.count_cons];by_cases h:p=k
   ·subst h;simp only[decide_true,HV,MF];rcases J3 (Nb p ps) with z | z
    ·have e:(Nb p ps + 1) % 2=1:=by omega
     rw[z,e];cases a.testBit p<;>rfl
    ·have e:(Nb p ps + 1) % 2=0:=by omega
     rw[z,e];cases a.testBit p<;>rfl
   ·have hb:(p == k)=false:=vr.mpr h;simp[hb,h]
theorem Ef (ps:D7) (k:Nat):(xm ps).testBit k=(ps.count k % 2 == 1):=by
 unfold xm;rw[B0];simp
theorem k9 (w k:Nat) (p:Nat->IA):((ko w).filter p).count k=if k < w/\p k=true then 1 else 0:=by
 have nd:((ko w).filter p).Nodup:=List.Pairwise.filter p NL;by_cases h:k < w/\p k=true
 ·rw[pe h];have hm:k∈(ko w).filter p:=JV.mpr ⟨Iq.mpr h.1,h.2⟩;exact List.Nodup.count nd |>.trans (by rw[pe hm])
 ·rw[nk h];refine List.count_eq_zero.mpr λhm=>h ?_;obtain⟨a,b⟩:=JV.mp hm;exact⟨Iq.mp a,b⟩
theorem Aw (w m k:Nat):(pl w m).count k=if k < w/\m.testBit k=true then 1 else 0:=k9 w k m.testBit
theorem xm_ext {w m:Nat} {ps:D7} (hm:m < 2 ^ w) (h:∀k,ps.count k % 2=(pl w m).count k % 2):xm ps=m:=by
 apply hJ;intro k;rw[Ef,h,Aw];by_cases hk:k < w
 ·cases e:m.testBit k<;>simp[hk,e]
 ·rw[oP (eu hm (hD @C (K6.mp hk)))];simp[hk]
noncomputable def Span:D7->Nat->Prop
 | [],x=>x=0
 | r::rs,x=>Span rs x∨Span rs (x^^^r)
theorem span_zero:∀rs:D7,Span rs 0
 | []=>rfl
 | _::rs=> .inl (span_zero rs)
theorem bp (x r:Nat):x^^^r^^^r=x:=by rw[Ip,Jm,IJ]
theorem dS (a b c:Nat):a^^^b^^^c=a^^^c^^^b:=by rw[Ip,KA b c,<-Ip]
theorem dB:∀(rs:D7) (r x:Nat),Span (rs++[r]) x↔Span rs x∨Span rs (x^^^r)
 | [],r,x=>NA
 | q::rs,r,x=>by
   show Span (rs++[r]) x∨Span (rs++[r]) (x^^^q)↔(Span rs x∨Span rs (x^^^q))∨(Span rs (x^^^r)∨Span rs (x^^^r^^^q));rw[dB rs r x,dB rs r (x^^^q),dS x q r];constructor
   ·rintro((h | h) | (h | h))
    ·exact .inl (.inl h)
    ·exact .inr (.inl h)
    ·exact .inl (.inr h)
    ·exact .inr (.inr h)
   ·rintro((h | h) | (h | h))
    ·exact .inl (.inl h)
    ·exact .inr (.inl h)
    ·exact .inl (.inr h)
    ·exact .inr (.inr h)
theorem span_xor:∀{rs:D7} {x y:Nat},Span rs x->Span rs y->Span rs (x^^^y)
 | [],x,y,h,k=>by
   have h:x=0:=h;have k:y=0:=k;subst h;subst k;exact rfl
 | r::rs,x,y,h,k=>by
   rcases h with h | h<;>rcases k with k | k
   ·exact .inl (span_xor h k)
   ·refine .inr ?_;have:=span_xor h k;rwa [<-Ip] at this
   ·refine .inr ?_;have:=span_xor h k;rwa [dS] at this
   ·refine .inl ?_;have:=span_xor h k;rwa [<-Ip,dS x r y,bp] at this
noncomputable def sm:D7->Nat->Nat
 | [],_=>0
 | r::rs,p=>(if p.testBit 0 then r else 0)^^^sm rs (p / 2)
theorem sm_zero:∀rs:D7,sm rs 0=0
 | []=>rfl
 | r::rs=>by show(if (0:Nat).testBit 0 then r else 0)^^^sm rs (0 / 2)=0;rw[show(0:Nat) / 2=0 from rfl,sm_zero rs];simp
theorem xor4 (a b c d:Nat):a^^^b^^^(c^^^d)=a^^^c^^^(b^^^d):=by
 rw[Ip,<-Ip b c d,KA b c,Ip c b d,<-Ip a c]
theorem sm_xor:∀(rs:D7) (p q:Nat),sm rs (p^^^q)=sm rs p^^^sm rs q
 | [],p,q=>by show(0:Nat)=0^^^0;simp
 | r::rs,p,q=>by
   show(if (p^^^q).testBit 0 then r else 0)^^^sm rs ((p^^^q) / 2)=((if p.testBit 0 then r else 0)^^^sm rs (p / 2))^^^((if q.testBit 0 then r else 0)^^^sm rs (q / 2));rw[vE,sm_xor rs,vl,xor4];congr 1;cases p.testBit 0<;>cases q.testBit 0<;>simp
theorem fJ:∀(rs:D7) (r p:Nat),sm (rs++[r]) p=sm rs p^^^(if p.testBit rs.length then r else 0)
 | [],r,p=>by show(if p.testBit 0 then r else 0)^^^0=0^^^_;rw[IJ,JO];rfl
 | q::rs,r,p=>by
   show(if p.testBit 0 then q else 0)^^^sm (rs++[r]) (p / 2)=((if p.testBit 0 then q else 0)^^^sm rs (p / 2))^^^_;rw[fJ rs r (p / 2),Kk,Ip];rfl
theorem fX {rs:D7} {r p:Nat} (h:p < 2 ^ rs.length):sm (rs++[r]) p=sm rs p:=by
 rw[fJ,oP h];simp
theorem xQ (rs:D7) (r:Nat):sm (rs++[r]) (2 ^ rs.length)=r:=by
 rw[fJ]
 have e:sm rs (2 ^ rs.length)=0:=by
  have:∀(rs:D7) (k:Nat),rs.length<=k->sm rs (2 ^ k)=0:=by
   intro rs
   induction rs with
   | nil=>intro k _;rfl
   | cons q rs ih=>
     intro k hk;have hk:rs.length + 1<=k:=hk;obtain⟨j,rfl⟩:∃j,k=j + 1:=⟨k - 1,@A⟩;show(if (2 ^ (j + 1)).testBit 0 then q else 0)^^^sm rs (2 ^ (j + 1) / 2)=0;have e1:(2 ^ (j + 1)) / 2=2 ^ j:=by rw[Kc];omega
     have G:(2 ^ (j + 1)).testBit 0=false:=by rw[nq];simp
     rw[e1,G,ih j @A];simp
  exact this rs _ (ov _)
 rw[e,Hx];simp
theorem sm_span:∀(rs:D7) (p:Nat),Span rs (sm rs p)
 | [],p=>rfl
 | r::rs,p=>by
   show Span rs _∨Span rs _;have ih:=sm_span rs (p / 2);cases h:p.testBit 0 with
   | true=>refine .inr ?_;rw[show sm (r::rs) p=r^^^sm rs (p / 2) from by show(if p.testBit 0 then r else 0)^^^_=_;rw[h];rfl,KA r,bp];exact ih
   | false=>refine .inl ?_;rw[show sm (r::rs) p=sm rs (p / 2) from by show(if p.testBit 0 then r else 0)^^^_=_;rw[h];simp];exact ih
theorem fI:∀{rs:D7} {x:Nat},Span rs x->∃p,p < 2 ^ rs.length/\sm rs p=x
 | [],x,h=>⟨0,Nat.one_pos,(show x=0 from h).symm⟩
 | r::rs,x,h=>by
   rcases h with h | h
   ·obtain⟨p,G,e⟩:=fI h;refine⟨2 * p,by rw[Ir,Kc];omega,?_⟩;show(if (2 * p).testBit 0 then r else 0)^^^sm rs (2 * p / 2)=x;rw[show 2 * p / 2=p by omega,show(2 * p).testBit 0=false by simp[NX],e];simp
   ·obtain⟨p,G,e⟩:=fI h;refine⟨2 * p + 1,by rw[Ir,Kc];omega,?_⟩;show(if (2 * p + 1).testBit 0 then r else 0)^^^sm rs ((2 * p + 1) / 2)=x;rw[show(2 * p + 1) / 2=p by omega,show(2 * p + 1).testBit 0=true by simp[NX],e];show r^^^(x^^^r)=x;rw[KA,bp]
theorem yC {x t:Nat} (h1:2 ^ t<=x) (h2:x < 2 ^ (t + 1)):x.log2=t:=by
 have G:x≠0:=by have:=lz t;omega
 have a:=(MV G).mpr h2;have b:t<=x.log2:=(Nat.le_log2 G).mpr h1;omega
theorem jO {x:Nat} (h:x≠0):x.testBit x.log2=true:=by
 have:=Nat.testBit_log2 h;exact this
theorem xor_lt_pow {x y t:Nat} (h1:x < 2 ^ t) (h2:y < 2 ^ t):x^^^y < 2 ^ t:=JI h1 h2
theorem va {x y:Nat} (hx:x≠0) (hy:y≠0) (h:x.log2=y.log2):x^^^y < 2 ^ x.log2:=by
 have h1:x^^^y < 2 ^ (x.log2 + 1):=xor_lt_pow Jv (by rw[h];exact Jv)
 have hb:(x^^^y).testBit x.log2=false:=by
  rw[vl,jO hx,show y.testBit x.log2=true by rw[h];exact jO hy];rfl
 apply IG;intro i hi;rcases Nat.lt_or_eq_of_le hi with hi | hi
 ·exact oP (eu h1 (hD @C hi))
 ·rw[<-hi];exact hb
theorem xor_less {x y:Nat} (hx:x≠0) (hy:y≠0) (h:x.log2=y.log2):x^^^y < x:=
 eu (va hx hy h) (NY hx)
theorem kn {x y:Nat} (hy:y≠0) (h:x < 2 ^ y.log2):(x^^^y).log2=y.log2:=by
 have h1:x^^^y < 2 ^ (y.log2 + 1):=xor_lt_pow (eu h (hD @C @A)) Jv;have hb:(x^^^y).testBit y.log2=true:=by rw[vl,oP h,jO hy];rfl
 exact yC (Nat.ge_two_pow_of_testBit hb) h1
theorem uC {x y:Nat} (hx:x≠0) (hy:y≠0) (h:x.log2≠y.log2):(x^^^y).log2=x.log2∨(x^^^y).log2=y.log2:=by
 rcases Nat.lt_or_gt_of_ne h with h | h
 ·exact .inr (kn hy (eu Jv (hD @C h)))
 ·refine .inl ?_;rw[KA];exact kn hx (eu Jv (hD @C h))
def Fre (G:D7) (i:Nat):Prop:=i < G.length/\¬Span (G.take i) (G.getD i 0)
theorem Fre.snoc {G:D7} {i:Nat} (r:Nat) (h:Fre G i):Fre (G++[r]) i:=by
 obtain⟨hi,hn⟩:=h;refine⟨by rw[eZ];omega,?_⟩;rw[LU (Jn hi),bx,kA hi,<-bx];exact hn
theorem Fre.last {G:D7} {r:Nat} (h:¬Span G r):Fre (G++[r]) G.length:=by
 refine⟨by rw[eZ];simp,?_⟩;rw[O8,bx,lB (ov _),JH];exact h
def Frs (G:D7) (q:Nat):Prop:=∀i,q.testBit i=true->Fre G i
theorem Frs.zero (G:D7):Frs G 0:=λi h=>by rw[z'] at h;cases h
theorem Frs.xor {G:D7} {p q:Nat} (I:Frs G p) (hq:Frs G q):Frs G (p^^^q):=λi h=>by
 rw[vl] at h;cases h1:p.testBit i with
 | true=>exact I i h1
 | false=>rw[h1] at h;exact hq i (by simpa using h)
theorem Frs.snoc {G:D7} {q:Nat} (r:Nat) (h:Frs G q):Frs (G++[r]) q:=λi hi=>(h i hi).snoc r
theorem Frs.more {G:D7} {q r:Nat} (h:Frs G q) (I:¬Span G r):Frs (G++[r]) (q^^^2 ^ G.length):=(h.snoc r).xor λi hi=>by
 rw[nq] at hi;have e:G.length=i:=by simpa using hi
 rw[<-e];exact Fre.last I
structure Ech (es:A') (rows:D7):Prop where
 nz:∀e∈es,e.1≠0
 lt:∀e∈es,e.2 < 2 ^ rows.length
 sm:∀e∈es,sm rows e.2=e.1
 nd:(es.map λe=>e.1.log2).Nodup
 all:∀y,Span rows y->y≠0->∃e∈es,e.1.log2=y.log2
 sub:∀e∈es,Frs rows e.2
theorem Ech.nil:Ech [] []:=⟨λ_ h=>hE h @E,λ_ h=>hE h @E,λ_ h=>hE h @E,.nil,λy h n=>hE h n,λ_ h=>hE h @E⟩
theorem Ech.span {es:A'} {G:D7} (I:Ech es G) {e:Nat×Nat} (h:e∈es):Span G e.1:=by
 rw[<-I.sm e h];exact sm_span _ _
theorem ud {G:D7} {r p:Nat} (h:p < 2 ^ G.length):sm (G++[r]) (p^^^2 ^ G.length)=sm G p^^^r:=by
 rw[sm_xor,fX h,xQ]
theorem uA {n p:Nat} (h:p < 2 ^ n):p^^^2 ^ n < 2 ^ (n + 1):=
 xor_lt_pow (eu h (hD @C @A)) (ra @C @A)
theorem Ech.null {es:A'} {G:D7} (I:Ech es G) {r q:Nat} (hq:q < 2 ^ G.length) (e:r^^^M.sm G q=0):Span G r/\Ech es (G++[r]):=by
 have J:r=M.sm G q:=by
  have:=Hm (·^^^M.sm G q) e;simpa[bp] using this
 have hs:Span G r:=by rw[J];exact sm_span _ _
 refine⟨hs,I.nz,λe h=>?_,λe h=>?_,I.nd,λy hy n=>?_,λe h=>(I.sub e h).snoc r⟩
 ·rw[eZ];exact eu (I.lt e h) (hD @C @E)
 ·rw[fX (I.lt e h)];exact I.sm e h
 ·rcases(dB G r y).mp hy with hy | hy
  ·exact I.all y hy n
  ·have:=span_xor hy hs;rw[bp] at this;exact I.all y this n
theorem Ech.more {es:A'} {G:D7} (I:Ech es G) {r q:Nat} (hq:q < 2 ^ G.length) (e:r^^^M.sm G q≠0) (hn:∀e∈es,e.1.log2≠(r^^^M.sm G q).log2) (hf:Frs G q):
  ¬Span G r/\Ech (es++[(r^^^M.sm G q,q^^^2 ^ G.length)]) (G++[r]):=by
 have L:¬Span G r:=λhs=>by
  obtain⟨x,J,ex⟩:=I.all _ (span_xor hs (sm_span G q)) e;exact hn x J ex
 refine⟨L,λx h=>?_,λx h=>?_,λx h=>?_,?_,λy hy n=>?_,λx h=>(lx.mp h).elim (λh=>(I.sub x h).snoc r) λh=>by rw[fy] at h;subst h;exact hf.more L⟩
 ·rcases lx.mp h with h | h
  ·exact I.nz x h
  ·rw[fy] at h;subst h;exact e
 ·rw[eZ];rcases lx.mp h with h | h
  ·exact eu (I.lt x h) (hD @C @E)
  ·rw[fy] at h;subst h;exact uA hq
 ·rcases lx.mp h with h | h
  ·rw[fX (I.lt x h)];exact I.sm x h
  ·rw[fy] at h;subst h;show M.sm _ (q^^^_)=r^^^M.sm G q;rw[ud hq,KA]
 ·rw[hu,Nx];refine⟨I.nd,@E,λa ha b hb=>?_⟩;obtain⟨x,J,rfl⟩:=qE.mp ha;rw[JP,fy] at hb;subst hb;exact hn x J
 ·rcases(dB G r y).mp hy with hy | hy
  ·obtain⟨x,J,ex⟩:=I.all y hy n;exact⟨x,n' _ J,ex⟩
  ·
   have hz:=span_xor hy (sm_span G q)
   have Y:y=(y^^^r^^^M.sm G q)^^^(r^^^M.sm G q):=by
    rw[xor4,Jm,IJ,bp]
   generalize α:y^^^r^^^M.sm G q=z at hz Y;by_cases Z:z=0
   ·refine⟨_,hH _ (fy.mpr rfl),?_⟩;show(r^^^M.sm G q).log2=y.log2;rw[Y,Z,JO]
   ·obtain⟨x,J,ex⟩:=I.all z hz Z;have ne:z.log2≠(r^^^M.sm G q).log2:=by rw[<-ex];exact hn x J
    rcases uC Z e ne with h | h
    ·exact⟨x,n' _ J,by rw[ex,Y,h]⟩
    ·refine⟨_,hH _ (fy.mpr rfl),?_⟩;show(r^^^M.sm G q).log2=y.log2;rw[Y,h]
noncomputable def tt (p:Prop):Bool:=@decide p (Ja p)
theorem Eh {p:Prop} (h:p):tt p=true:=@gB _ (Ja _) h
theorem Ei {p:Prop} (h:¬p):tt p=false:=@eP _ (Ja _) h
noncomputable def fr (G:D7):D7:=(ko G.length).filter λi=> !tt (Span (G.take i) (G.getD i 0))
theorem y4 (G:D7) (r:Nat):fr (G++[r])=fr G++(if tt (Span G r)=true then [] else [G.length]):=by
 unfold fr;rw[eZ,Hu,Jf,Kb]
 have e1:(ko G.length).filter (λi=> !tt (Span ((G++[r]).take i) ((G++[r]).getD i 0)))=(ko G.length).filter (λi=> !tt (Span (G.take i) (G.getD i 0))):=by
  apply List.filter_congr;intro i hi;have hi:=Iq.mp hi;have a:(G++[r]).take i=G.take i:=LU (Jn hi)
  have b:(G++[r]).getD i 0=G.getD i 0:=by
   rw[bx,bx,kA hi]
  rw[a,b]
 rw[e1];congr 1;have a:(G++[r]).take G.length=G:=O8
 have b:(G++[r]).getD G.length 0=r:=by
  rw[bx,lB (ov _),JH];rfl
 rw[List.filter_cons,a,b];cases tt (Span G r)<;>rfl
theorem fr_len (G:D7):(fr G).length<=G.length:=by
 have:=List.length_filter_le (λi=> !tt (Span (G.take i) (G.getD i 0))) (ko G.length);rw[pT] at this;exact this
theorem fr_in {G:D7} {r:Nat} (h:Span G r):fr (G++[r])=fr G:=by rw[y4,Eh h];simp
theorem fr_out {G:D7} {r:Nat} (h:¬Span G r):fr (G++[r])=fr G++[G.length]:=by rw[y4,Ei h];rfl
structure Nul (nms rows:D7):Prop where
 lt:∀x∈nms,x < 2 ^ rows.length
 nz:∀x∈nms,x≠0
 sm:∀x∈nms,sm rows x=0
 pw:nms.Pairwise λa b=>a.log2 < b.log2
 len:nms.length + (fr rows).length=rows.length
theorem Nul.nil:Nul [] []:=⟨λ_ h=>hE h @E,λ_ h=>hE h @E,λ_ h=>hE h @E,.nil,rfl⟩
theorem Nul.keep {nms G:D7} (I:Nul nms G) {r:Nat} (h:¬Span G r):Nul nms (G++[r]) where
 lt:=λx J=>by rw[eZ];exact eu (I.lt x J) (hD @C @E)
 nz:=I.nz
 sm:=λx J=>by rw[fX (I.lt x J)];exact I.sm x J
 pw:=I.pw
 len:=by rw[fr_out h,eZ,eZ,<-I.len];simp;omega
theorem oj {n q:Nat} (h:q < 2 ^ n):q^^^2 ^ n≠0/\(q^^^2 ^ n).log2=n:=by
 have e:(2 ^ n:Nat).log2=n:=yC (ov _) (ra @C @A);have I:(2 ^ n:Nat)≠0:=by have:=lz n;omega
 have G:=kn (x:=q) I (by rw[e];exact h);refine⟨λz=>?_,by rw[G,e]⟩;have hb:(q^^^2 ^ n).testBit n=true:=by rw[vl,oP h,Hx];rfl
 rw[z] at hb;simp at hb
theorem log2_under {n q:Nat} (h0:q≠0) (h:q < 2 ^ n):q.log2 < n:=(MV h0).mpr h
theorem Nul.snoc {nms G:D7} (I:Nul nms G) {r q:Nat} (hq:q < 2 ^ G.length) (e:r^^^M.sm G q=0) (hs:Span G r):Nul (nms++[q^^^2 ^ G.length]) (G++[r]) where
 lt:=λx hx=>by
  rw[eZ];rcases lx.mp hx with hx | hx
  ·exact eu (I.lt x hx) (hD @C @E)
  ·rw[fy] at hx;subst hx;exact uA hq
 nz:=λx hx=>by
  rcases lx.mp hx with hx | hx
  ·exact I.nz x hx
  ·rw[fy] at hx;subst hx;exact(oj hq).1
 sm:=λx hx=>by
  rcases lx.mp hx with hx | hx
  ·rw[fX (I.lt x hx)];exact I.sm x hx
  ·rw[fy] at hx;subst hx;rw[ud hq,KA];exact e
 pw:=by
  rw[N1];refine⟨I.pw,MC _ _,λa ha b hb=>?_⟩;rw[fy] at hb;subst hb;rw[(oj hq).2];exact log2_under (I.nz a ha) (I.lt a ha)
 len:=by rw[fr_in hs,eZ,eZ,<-I.len];simp;omega
def Inj (ws:D7):Prop:=∀p,p < 2 ^ ws.length->sm ws p=0->p=0
theorem sm_lt {t:Nat}:∀{ws:D7} (p:Nat),(∀x∈ws,x < 2 ^ t)->sm ws p < 2 ^ t
 | [],p,_=>lz t
 | w::ws,p,h=>by
   refine xor_lt_pow ?_ (sm_lt _ λx G=>h x (p' _ G));split
   ·exact h w (Ha ..)
   ·exact lz t
theorem Inj.nil:Inj []:=λp h _=>by
 have:p < 1:=h;omega
theorem vy:∀(n:Nat) (l:D7),l.Nodup->(∀x∈l,x < n)->l.length<=n
 | 0,l,_,h=>by
   cases l with
   | nil=>exact ov _
   | cons x r=>exact hE (h x (Ha ..)) (Jp _)
 | n + 1,l,nd,h=>by
   have ih:=vy n (l.erase n) (nd.erase n) λx G=>by
    have hm:=(nd.mem_erase_iff).mp G;have:=h x hm.2;have:=hm.1;omega
   by_cases hm:n∈l
   ·rw[List.length_erase_of_mem hm] at ih;omega
   ·rw[List.erase_of_not_mem hm] at ih;omega
theorem span_lt {t:Nat}:∀{rs:D7} {x:Nat},(∀r∈rs,r < 2 ^ t)->Span rs x->x < 2 ^ t
 | [],x,_,h=>by have h:x=0:=h;rw[h];exact lz t
 | r::rs,x,b,h=>by
   have ih:=λx=>span_lt (rs:=rs) (x:=x) λy G=>b y (p' _ G);rcases h with h | h
   ·exact ih x h
   ·have:=xor_lt_pow (ih _ h) (b r (Ha ..));rwa [bp] at this
structure Sums (ks rows:D7):Prop where
 nd:ks.Nodup
 all:∀x,x∈ks↔Span rows x
theorem Sums.zero:Sums [0] []:=⟨@E,λx=>by rw[fy];exact NA⟩
theorem BY {a b r:Nat} (h:a^^^r=b^^^r):a=b:=by
 have:=Hm (·^^^r) h;simpa[bp] using this
theorem Sums.step {ks G:D7} (S:Sums ks G) {r:Nat} (h:¬Span G r):Sums (ks++ks.map (·^^^r)) (G++[r]):=by
 refine⟨?_,λx=>?_⟩
 ·rw[Nx];refine⟨S.nd,?_,λa ha b hb e=>?_⟩
  ·exact List.Pairwise.map _ (λa b I e=>I (BY e)) S.nd
  ·obtain⟨c,L,rfl⟩:=qE.mp hb;subst e;have:=span_xor ((S.all _).mp ha) ((S.all _).mp L);rw[dS,Jm,JO] at this;exact h this
 ·rw[lx,dB,S.all,qE];constructor
  ·rintro(h | ⟨y,J,rfl⟩)
   ·exact .inl h
   ·refine .inr ?_;rw[bp];exact(S.all _).mp J
  ·rintro(h | h)
   ·exact .inl h
   ·exact .inr ⟨x^^^r,(S.all _).mpr h,bp x r⟩
theorem Sums.keep {ks G:D7} (S:Sums ks G) {r:Nat} (h:Span G r):Sums ks (G++[r]):=
 ⟨S.nd,λx=>by
  rw[S.all,dB];refine⟨.inl,λq=>q.elim id λq=>?_⟩;have:=span_xor q h;rwa [bp] at this⟩
theorem Sums.few {ks G:D7} (S:Sums ks G) {t:Nat} (h:∀r∈G,r < 2 ^ t):ks.length<=2 ^ t:=vy _ _ S.nd λx I=>span_lt h ((S.all x).mp I)
end M
namespace Sx
open PySem L2
noncomputable abbrev nat (k:Nat):V:= .int (k:Int)
theorem CG {k:Nat} {A:Hg} (r:Room k A):A.units + 100 < cLine:=by have:=r.un;omega
theorem iteB {c:IA} {A B:Prop} (h1:c=true->A) (h2:c=false->B):if c=true then A else B:=by
 cases c
 ·rw[nk gn];exact h2 rfl
 ·rw[pe rfl];exact h1 rfl
theorem qI (h:Nat):(2:Int) ^ h=((2 ^ h:Nat):Int):=by norm_cast
theorem shl1 (k:Nat):(1:Int) * 2 ^ ((k:Int).toNat)=((2 ^ k:Nat):Int):=by rw[oe,Int.one_mul];norm_cast
theorem oX (a b:Nat):M6 (a:Int) (b:Int)=((a||| b:Nat):Int):=by
 have e1:J0 (a:Int)= -(a:Int) - 1:=by first | rfl | (unfold J0;omega)
 have G:J0 (b:Int)= -(b:Int) - 1:=by first | rfl | (unfold J0;omega)
 unfold M6 Je;rw[eP (show ¬(0:Int)<=J0 (a:Int) by rw[e1];omega),eP (show ¬(0:Int)<=J0 (b:Int) by rw[G];omega)];have n:∀x:Int,J0 (J0 x)=x:=λx=>by unfold J0;omega
 simp only[n,oe]
theorem cG (a b:Nat):KY (a:Int) (b:Int)=((a^^^b:Nat):Int):=by
 unfold KY;rw[oX,bt];have:=M.or_sum a b;omega
theorem tE:vu ((0:Nat):Int)=0:=by decide
theorem jN {m:Nat} (h:m≠0):vu (m:Int)=m.log2 + 1:=by
 unfold vu;have e:((m:Int) == 0)=false:=by rw[vr];omega
 rw[e,nk gn,Ny]
theorem Bb (m i:Nat):Je ((m:Int) / 2 ^ ((0 + (i:Int)).toNat)) 1=if m.testBit i then 1 else 0:=by
 have υ:(0 + (i:Int)).toNat=i:=by omega
 rw[υ,qI];have e1:(m:Int) / ((2 ^ i:Nat):Int)=((m>>>i:Nat):Int):=by rw[zt];norm_cast
 rw[e1,show(1:Int)=((1:Nat):Int) from rfl,bt,Nv]
 have:m.testBit i=(m>>>i % 2 == 1):=by
  rw[Nat.testBit_eq_decide_div_mod_eq,zt];rcases J3 (m / 2 ^ i) with h | h<;>rw[h]<;>rfl
 rw[this];rcases J3 (m>>>i) with h | h<;>rw[h]<;>rfl
structure En where
 a:ee
 m:Nat
 p:Nat
noncomputable def kW (es:ef En):ef (Key×V):=es.map λe=>(Io ((e.m.log2:Nat):Int),V.ref e.a)
theorem nj:∀(es:ef En) (z:Int),(∃e∈es,((e.m.log2:Nat):Int)=z/\valV (kW es) (Io z)=aT (.ref e.a))∨((∀e∈es,((e.m.log2:Nat):Int)≠z)/\valV (kW es) (Io z)=eH)
 | [],z=> .inr ⟨λ_ h=>hE h @E,rfl⟩
 | e::es,z=>by
   by_cases h:((e.m.log2:Nat):Int)=z
   ·exact .inl ⟨e,Ha ..,h,mW (by show(Io _:Key)=_;rw[h])⟩
   ·have G:valV (kW (e::es)) (Io z)=valV (kW es) (Io z):=mX (by show ¬(Io _:Key)=_;intro q;exact h (O5 q));rcases nj es z with ⟨x,hx,e1,I⟩ | ⟨h1,h2⟩
    ·exact .inl ⟨x,p' _ hx,e1,by rw[G];exact I⟩
    ·refine .inr ⟨λx hx=>?_,by rw[G];exact h2⟩;rcases Hn.mp hx with rfl | hx
     ·exact h
     ·exact h1 x hx
theorem Au {kvs:ef (Key×V)} {k:Key} {v:V} (h:valV kvs k=eH):putK kvs k v=kvs++[(k,v)]:=by
 unfold putK;rw[qt,h];rfl
structure StA (H:Hp) (C p d f n:ee) (rows:D7):Prop where
 ho:∃dx,H p=aT (.ins C dx [("by_top",.ref d),("free_places",.ref f),("null_masks",.ref n)])
 he:∃es:ef En,H d=aT (.dK (kW es))/\(∀e∈es,H e.a=aT (.tup [nat e.m,nat e.p]))/\M.Ech (es.map λe=>(e.m,e.p)) rows/\es.length=(M.fr rows).length
 hf:H f=aT (.lst ((M.fr rows).map nat))
 hn:∃nms,H n=aT (.lst (nms.map nat))/\M.Nul nms rows
 ne:f≠n
theorem StA.same {H H2:Hp} {C p d f n:ee} {G:D7} (x:StA H C p d f n G) (s:Same H H2):StA H2 C p d f n G where
 ho:=let ⟨dx,h⟩:=x.ho;⟨dx,s _ _ h⟩
 he:=let ⟨es,h,t,g,l⟩:=x.he;⟨es,s _ _ h,λe he=>s _ _ (t e he),g,l⟩
 hf:=s _ _ x.hf
 hn:=let ⟨nms,h,g⟩:=x.hn;⟨nms,s _ _ h,g⟩
 ne:=x.ne
theorem StA.null {H H2:Hp} {C p d f n:ee} {G:D7} (x:StA H C p d f n G) {r q:Nat} (hq:q < 2 ^ G.length) (e:r^^^M.sm G q=0) {nms:D7} (hn:M.Nul nms G) (I:H n=aT (.lst (nms.map nat)))
  (u:Upd H H2 n (.lst (nms.map nat++[nat (q^^^2 ^ G.length)]))):StA H2 C p d f n (G++[r]):=by
 obtain⟨dx,ho⟩:=x.ho;obtain⟨es,hd,ht,g,l⟩:=x.he;obtain⟨hs,g2⟩:=g.null hq e;refine⟨⟨dx,u.oth _ _ (ie ho I @E) ho⟩,⟨es,u.oth _ _ (ie hd I @E) hd,λe he=>u.oth _ _ (ie (ht e he) I @E) (ht e he),g2,by rw[M.fr_in hs];exact l⟩,?_,⟨nms++[q^^^2 ^ G.length],?_,hn.snoc hq e hs⟩,x.ne⟩
 ·rw[M.fr_in hs];exact u.oth _ _ x.ne x.hf
 ·rw[hu];exact u.at'
theorem StA.more {H H2 G γ:Hp} {C p d f n t:ee} {J:D7} (x:StA H C p d f n J) {r q:Nat} (hq:q < 2 ^ J.length) (e:r^^^M.sm J q≠0) (hn:∀y,M.Span J y->y≠0->y.log2≠(r^^^M.sm J q).log2) (hf:M.Frs J q)
  (u:Upd H H2 f (.lst ((M.fr J).map nat++[nat J.length]))) (s:Same H2 G) (ht:G t=aT (.tup [nat (r^^^M.sm J q),nat (q^^^2 ^ J.length)])) {es:ef En} (hd:H d=aT (.dK (kW es))) (I:∀e∈es,H e.a=aT (.tup [nat e.m,nat e.p])) (g:M.Ech (es.map λe=>(e.m,e.p)) J) (l:es.length=(M.fr J).length)
  (Z:Upd G γ d (.dK (putK (kW es) (Io (((r^^^M.sm J q).log2:Nat):Int)) (.ref t)))):StA γ C p d f n (J++[r]):=by
 obtain⟨dx,ho⟩:=x.ho;obtain⟨nms,L,ε⟩:=x.hn;have Y:∀e∈es.map (λe=>(e.m,e.p)),e.1.log2≠(r^^^M.sm J q).log2:=λe he=>hn e.1 (g.span he) (g.nz e he);obtain⟨hs,g2⟩:=g.more hq e Y hf;have β:=s _ _ (u.oth _ _ (ie hd x.hf @E) hd)
 have δ:valV (kW es) (Io (((r^^^M.sm J q).log2:Nat):Int))=none:=by
  rcases nj es (((r^^^M.sm J q).log2:Nat):Int) with ⟨z,hz,e1,_⟩ | ⟨_,h⟩
  ·exact hE (Int.ofNat_inj.mp e1) (Y (z.m,z.p) (qE.mpr ⟨z,hz,rfl⟩))
  ·exact h
 have go:∀(b:ee) (α:HO),H b=aT α->b≠f->b≠d->γ b=aT α:=λb α h h1 h2=>Z.oth _ _ h2 (s _ _ (u.oth _ _ h1 h));refine⟨⟨dx,go _ _ ho (ie ho x.hf @E) (ie ho hd @E)⟩,⟨es++[⟨t,r^^^M.sm J q,q^^^2 ^ J.length⟩],?_,λe he=>?_,?_,?_⟩,?_,⟨nms,go _ _ L (xn x.ne) (ie L hd @E),ε.keep hs⟩,x.ne⟩
 ·rw[Z.at',Au δ];unfold kW;rw[hu];rfl
 ·rcases lx.mp he with he | he
  ·exact go _ _ (I e he) (ie (I e he) x.hf @E) (ie (I e he) hd @E)
  ·rw[fy] at he;subst he;exact Z.oth _ _ (ie ht β @E) ht
 ·rw[hu];exact g2
 ·rw[M.fr_out hs,eZ,eZ,l];rfl
 ·rw[M.fr_out hs,hu];exact Z.oth _ _ (λz=>by rw[z] at x;have:=x.hf;rw[hd] at this;cases this) (s _ _ u.at')
def Eu (C:ee):Sp:=λvs H Q _=>∃p d f n G x,vs=[.ref p,nat x]/\StA H C p d f n G/\
 ∀t H2 q,H t=eH->Same H H2->H2 t=aT (.tup [nat (x^^^M.sm G q),nat q])->q < 2 ^ G.length->(x^^^M.sm G q≠0->∀y,M.Span G y->y≠0->y.log2≠(x^^^M.sm G q).log2)->M.Frs G q->Q (.ref t) H2
def Ew (C:ee):Sp:=λvs H Q _=>∃p d f n G r,vs=[.ref p,nat G.length,nat r]/\StA H C p d f n G/\G.length<=1000/\
 ∀H2,(∀b o,b≠d->b≠f->b≠n->H b=aT o->H2 b=aT o)->StA H2 C p d f n (G++[r])->Q .non H2
def B9 (C:ee):Sp:=λvs H Q _=>∃x dx r G,vs=[.ref x,.ref r]/\H r=aT (.lst (G.map nat))/\G.length<=1000/\H x=aT (.ins C dx [])/\
 ∀H2 d f n,(∀b o,b≠x->H b=aT o->H2 b=aT o)->StA H2 C x d f n G->Q .non H2
def Ci:Sp:=λvs H Q _=>∃r G,vs=[.ref r]/\H r=aT (.lst (G.map nat))/\G.length<=1000/\∀D H2,H D=eH->Same H H2->H2 D=aT (.lst ((M.fr G).map nat))->Q (.ref D) H2
theorem aO {α:Type} {f:α->V} {ws:ef α} {i:Nat} {x:V} (h:(ws.map f)[i]? =aT x):∃k,ws[i]? =aT k/\x=f k:=by
 rw[fk] at h;cases e:ws[i]? with
 | none=>rw[e] at h;cases h
 | some k=>rw[e] at h;exact⟨k,rfl,(iv h).symm⟩
theorem take_succ {α:Type} {ws:ef α} {i:Nat} {w:α} (h:ws[i]? =aT w):ws.take (i + 1)=ws.take i++[w]:=by rw[O7,h];rfl
theorem vg {α:Type} {ws:ef α} {i:Nat} {w:α} (h:ws[i]? =aT w):(ws.take i).length=i:=by
 rw[Ho];have:=(b'.mp h).1;omega
theorem oH (ns:D7):(ns.map nat).all oI=true:=by simp[oI]
theorem ET {K:a'} {H:Hp} {Q:VK} {neg:IA} {p q:ee} {ns:D7} (e:SqL K H p (ns.map nat)) (e':SqL K H q (ns.map nat)) (h:Q (.bl (!neg)) H):rEqL K neg (.ref p) (.ref q) H Q:=by
 refine⟨p,q,_,_,rfl,rfl,e,e',oH ns,oH ns,?_⟩;rw[za (oH ns)];cases neg<;>exact h
theorem FL {A:Hg} {k:Nat} (G:Room k A):A.units < cLine:=by have:=G.un;omega
theorem A6 (ns:HK) (lo hi:ry Int):∃α:HK,cutV (ns.map V.int) lo hi=α.map V.int/\α.length<=ns.length:=by
 refine⟨(ns.drop (HT.sIx (ns.map V.int).length 0 lo)).take (HT.sIx (ns.map V.int).length (ns.map V.int).length hi - HT.sIx (ns.map V.int).length 0 lo),?_,?_⟩
 ·unfold cutV;rw[LI,LK]
 ·rw[Ho,Jq];omega
def Bn:Sp:=λvs H Q _=>∃c k,vs=[.int c,.int k]/\0<=k/\k < 100000/\∀r:Nat,r < 2147483587->Q (nat r) H
theorem w9 {H:Hp} {Q:VK} {E:XK} {c k:Int} (h0:0<=k) (h1:k < 100000) (q:∀r:Nat,r < 2147483587->Q (nat r) H):Bn [.int c,.int k] H Q E:=⟨c,k,rfl,h0,h1,q⟩
structure Prs (H:Hp) (ws:D7) (D:ee) (ps:ef (ee×Nat)):Prop where
 l:H D=aT (.lst (ps.map λq=>V.ref q.1))
 t:∀q∈ps,H q.1=aT (.tup [nat q.2,nat (M.sm ws q.2)])
 b:∀q∈ps,q.2 < 2 ^ ws.length
end Sx
namespace M
theorem jA:∀(l:D7) (j:Nat),sm l (2 ^ j)=l.getD j 0
 | [],j=>by simp[sm]
 | r::l,0=>by
   show(if (2 ^ 0).testBit 0 then r else 0)^^^sm l (2 ^ 0 / 2)=r;rw[show(2 ^ 0:Nat) / 2=0 from rfl,sm_zero];simp
 | r::l,j + 1=>by
   show(if (2 ^ (j + 1)).testBit 0 then r else 0)^^^sm l (2 ^ (j + 1) / 2)=l.getD j 0;have e1:(2 ^ (j + 1)) / 2=2 ^ j:=by rw[Kc];omega
   have G:(2 ^ (j + 1)).testBit 0=false:=by rw[nq];simp
   rw[e1,G,jA l j];simp
theorem iz {P:D7->Prop} (h0:P []) (hs:∀l w,P l->P (l++[w])):∀l,P l:=by
 intro l;rw[<-N0 l];generalize l.reverse=k
 induction k with
 | nil=>exact h0
 | cons a k ih=>rw[Nw];exact hs _ _ ih
theorem pl_next (i m:Nat):pl (i + 1) m=pl i m++(if m.testBit i then [i] else []):=by
 unfold pl;rw[Jf,Kb];congr 1;by_cases h:m.testBit i=true
 ·rw[pe h];simp[h]
 ·rw[nk h];simp[h]
theorem pl_lt {w m n:Nat} (h:m < 2 ^ n):∀x∈pl w m,x < n:=by
 intro x G;have hb:=(JV.mp G).2;refine Nat.lt_of_not_le λhn=>?_;rw[oP (eu h (hD @C hn))] at hb;cases hb
noncomputable def xs (G ps:D7):Nat:=ps.foldl (λa k=>a^^^G.getD k 0) 0
end M
namespace Sx
open PySem L2
theorem yy (l:D7):l.map nat=(l.map λ(k:Nat)=>(k:Int)).map V.int:=by rw[Iv];rfl
section
variable {H:Hp} {Q:VK}
theorem vi:∀l:D7,(l.map λ(k:Nat)=>(k:Int)).sum=((l.sum:Nat):Int)
 | []=>rfl
 | x::l=>by rw[IE,Oj,Oj,vi l];push_cast;rfl
theorem EF {p:ee} {l:D7} (e:H p=aT (.lst (l.map nat))) (h:Q (nat l.sum) H):CK [.ref p] H Q:=by
 refine⟨p,l.map λ(k:Nat)=>(k:Int),rfl,by rw[e,yy],?_⟩;rw[vi];exact h
end
theorem uT (m:Nat):m < 2 ^ vu (m:Int):=by
 by_cases h:m=0
 ·subst h;decide
 ·rw[jN h];exact Jv
theorem uU {m w:Nat} (hm:m < 2 ^ w):vu (m:Int)<=w:=by
 by_cases h:m=0
 ·subst h;rw[tE];exact J1 _
 ·rw[jN h];exact(MV h).mpr hm
def Cg:Sp:=λvs H Q _=>∃m:Nat,vs=[nat m]/\m < 2 ^ 1000/\∀D H2,H D=eH->Same H H2->H2 D=aT (.lst ((M.pl 1000 m).map nat))->Q (.ref D) H2
end Sx
namespace M
noncomputable abbrev od (m:Nat):Bool:=pb 1000 m
theorem d3 (a b:Nat):od (a^^^b)=(od a^^od b):=Bz 1000 a b
theorem iO (m a b:Nat):m&&&(a^^^b)=(m&&&a)^^^(m&&&b):=by
 apply hJ;intro i;simp only[HY,vl];cases m.testBit i<;>simp
theorem nh (m a b:Nat):(a^^^b)&&&m=(a&&&m)^^^(b&&&m):=by
 apply hJ;intro i;simp only[HY,vl];cases m.testBit i<;>simp
theorem qL:∀w:Nat,pb w 0=false
 | 0=>rfl
 | w + 1=>by show((0:Nat).testBit w^^pb w 0)=false;rw[qL w];simp
theorem pb_pow {w t:Nat} (h:t < w):pb w (2 ^ t)=true:=by
 rw[pb_up (w:=t + 1) (ra @C @A) h];show((2 ^ t).testBit t^^pb t (2 ^ t))=true
 have e:pb t (2 ^ t)=false:=by
  rw[<-yo,Nat.mod_self,qL]
 rw[e,Hx];rfl
theorem CO (t y:Nat):2 ^ t&&&y=if y.testBit t then 2 ^ t else 0:=by
 apply hJ;intro i;rw[HY,nq];by_cases h:t=i
 ·subst h;cases y.testBit t<;>simp
 ·cases y.testBit t<;>simp[h,nq]
theorem kN {t:Nat} (h:t < 1000) (y:Nat):od (2 ^ t&&&y)=y.testBit t:=by
 rw[CO];cases y.testBit t with
 | true=>rw[pe rfl];exact pb_pow h
 | false=>rw[nk gn];exact qL 1000
theorem od_zero:od 0=false:=qL 1000
theorem BA {y k:Nat} (h:y < 2 ^ k):y.testBit k=false:=oP h
theorem xH {y t k:Nat} (h:y≠0) (e:y.log2=t) (l:t < k):y < 2 ^ k:=eu (by rw[<-e];exact Jv) (hD @C l)
structure Bar (rows:D7) (b m:Nat):Prop where
 ev:∀y,Span rows y->od (m&&&y)=false
 bit:m.testBit b=true
 low:∀k,k < b->m.testBit k=false
 oth:∀k,k≠b->(∀y,Span rows y->y≠0->y.log2≠k)->m.testBit k=false
 lt:∀W,(∀r∈rows,r < 2 ^ W)->b < W->m < 2 ^ W
structure BarI (es:A') (ts:D7) (b m:Nat):Prop where
 ev:∀e∈es,e.1.log2∈ts->od (m&&&e.1)=false
 bit:m.testBit b=true
 low:∀k,k < b->m.testBit k=false
 oth:∀k,k≠b->(∀e∈es,e.1.log2≠k)->m.testBit k=false
 lt:∀W,(∀e∈es,e.1 < 2 ^ W)->b < W->m < 2 ^ W
theorem BarI.zero (es:A') (b:Nat):BarI es [] b (2 ^ b) where
 ev:=λ_ _ h=>hE h @E
 bit:=Hx
 low:=λk h=>by rw[nq];simp;omega
 oth:=λk h _=>by rw[nq];simp;omega
 lt:=λW _ h=>ra @C h
theorem AE {m y b:Nat} (h:∀k,k < b->m.testBit k=false) (hy:y < 2 ^ b):m&&&y=0:=by
 apply hJ;intro i;rw[HY,z'];by_cases hi:i < b
 ·rw[h i hi];rfl
 ·rw[oP (eu hy (hD @C @A))];simp
theorem vd {es:A'} (nd:(es.map λe=>e.1.log2).Nodup) {e f:Nat×Nat} (he:e∈es) (hf:f∈es) (h:e.1.log2=f.1.log2):e=f:=by
 obtain⟨i,hi,rfl⟩:=Ht.mp he;obtain⟨j,G,rfl⟩:=Ht.mp hf
 have ζ:∀i j (hi:i < es.length) (G:j < es.length),i < j->es[i].1.log2≠es[j].1.log2:=λi j hi G I=>by
  have:=Mj.mp nd i j (by rw[cY];exact hi) (by rw[cY];exact G) I;rw[Lk,Lk] at this;exact this
 rcases JA i j with h1 | h1 | h1
 ·exact hE h (ζ i j hi G h1)
 ·subst h1;rfl
 ·exact hE h.symm (ζ j i G hi h1)
theorem BarI.keep {es:A'} {G:D7} {b m:Nat} (I:BarI es G b m) {e:Nat×Nat} (nd:(es.map λe=>e.1.log2).Nodup) (he:e∈es) (h:od (m&&&e.1)=false):BarI es (G++[e.1.log2]) b m where
 ev:=λf hf hm=>by
  rcases lx.mp hm with hm | hm
  ·exact I.ev f hf hm
  ·rw[fy] at hm;rw[vd nd hf he hm];exact h
 bit:=I.bit
 low:=I.low
 oth:=I.oth
 lt:=I.lt
theorem BarI.flip {es:A'} {J:D7} {b m:Nat} (I:BarI es J b m) {e:Nat×Nat} (nd:(es.map λe=>e.1.log2).Nodup) (nz:∀e∈es,e.1≠0) (he:e∈es) (h:od (m&&&e.1)=true) (up:∀t∈J,t < e.1.log2) (hb:e.1.log2≠b) (G:e.1.log2 < 1000):BarI es (J++[e.1.log2]) b (m^^^2 ^ e.1.log2):=by
 have τ:b < e.1.log2:=by
  refine Nat.lt_of_le_of_ne (LS λL=>?_) (xn hb);rw[AE I.low (xH (nz e he) rfl L),od_zero] at h;cases h
 have υ:=nz e he;refine⟨λf hf hm=>?_,?_,λk hk=>?_,λk hk hn=>?_,λW Z Y=>?_⟩
 ·rw[nh,d3,kN G];rcases lx.mp hm with hm | hm
  ·rw[I.ev f hf hm,BA (xH (nz f hf) rfl (up _ hm))];rfl
  ·rw[fy] at hm;rw[vd nd hf he hm,h,jO υ];rfl
 ·rw[vl,I.bit,nq];simp;omega
 ·rw[vl,I.low k hk,nq];simp;omega
 ·rw[vl,I.oth k hk hn,nq];have:=hn e he;simp;omega
 ·exact xor_lt_pow (I.lt W Z Y) (Hf (NY υ) (Z e he))
theorem Ech.even_all {es:A'} {G:D7} (g:Ech es G) {m:Nat} (h:∀e∈es,od (m&&&e.1)=false):∀y,Span G y->od (m&&&y)=false:=by
 intro y
 induction y using O6 with
 | ind y ih=>
   intro J;by_cases I:y=0
   ·subst I;rw[Jy,od_zero]
   ·obtain⟨e,he,el⟩:=g.all y J I;have υ:=g.nz e he;have Y:=xor_less I υ el.symm;have h1:=ih _ Y (span_xor J (g.span he));have h2:=h e he;have L:od (m&&&(y^^^e.1))=(od (m&&&y)^^od (m&&&e.1)):=by rw[iO,d3]
    rw[h1,h2] at L;simpa using L.symm
theorem BarI.done {es:A'} {G:D7} (g:Ech es G) {J:D7} {b m:Nat} (I:BarI es J b m) (all:∀e∈es,e.1.log2∈J):Bar G b m where
 ev:=g.even_all λe he=>I.ev e he (all e he)
 bit:=I.bit
 low:=I.low
 oth:=λk hk h=>I.oth k hk λe he=>h e.1 (g.span he) (g.nz e he)
 lt:=λW L hb=>I.lt W (λe he=>span_lt L (g.span he)) hb
theorem Bar.odd {G:D7} {b m x q:Nat} (B:Bar G b m) (h0:x^^^sm G q≠0) (hb:(x^^^sm G q).log2=b) (I:b < 1000):od (m&&&x)=true:=by
 have e1:m&&&x=(m&&&(x^^^sm G q))^^^(m&&&sm G q):=by rw[<-iO,bp]
 rw[e1,d3,B.ev _ (sm_span G q)]
 have J:m&&&(x^^^sm G q)=2 ^ b:=by
  apply hJ;intro i;rw[HY,nq];rcases JA i b with h | h | h
  ·rw[B.low i h];simp;omega
  ·subst h;rw[B.bit,<-hb,jO h0];simp
  ·rw[BA (xH h0 hb h)];simp;omega
 rw[J];show(pb 1000 (2 ^ b)^^false)=true;rw[pb_pow I];rfl
theorem vX:∀G:D7,∃ks,Sums ks G/\ks.length=2 ^ (fr G).length:=by
 refine iz ⟨[0],Sums.zero,rfl⟩ λG r ih=>?_;obtain⟨ks,S,e⟩:=ih;by_cases h:Span G r
 ·exact⟨ks,S.keep h,by rw[fr_in h];exact e⟩
 ·refine⟨_,S.step h,?_⟩;rw[fr_out h,eZ,eZ,cY,e,Hu,Kc];omega
theorem yc {G:D7} {t:Nat} (h:∀r∈G,r < 2 ^ t):(fr G).length<=t:=by
 obtain⟨ks,S,e⟩:=vX G;have:=S.few h;rw[e] at this;exact(Nat.pow_le_pow_iff_right @C).mp this
theorem CV (w m:Nat):pb (w + 1) m=(m.testBit 0^^pb w (m / 2)):=by
 rw[Lh,mZ 1 w m,zt];congr 1;show(m.testBit 0^^false)=_;simp
theorem sum_uniq {G:D7} {p q:Nat} (β:Frs G p) (hq:Frs G q) (e:sm G p=sm G q):p=q:=by
 refine Classical.byContradiction λL=>?_;have hf:=β.xor hq;have hz:sm G (p^^^q)=0:=by rw[sm_xor,e,Jm]
 have Z:p^^^q≠0:=λz=>L (by have:=Hm (·^^^q) z;simpa[bp] using this);generalize p^^^q=z at hf hz Z;obtain⟨hi,hn⟩:=hf z.log2 (jO Z);apply hn;have α:z=(z^^^2 ^ z.log2)^^^2 ^ z.log2:=(bp _ _).symm
 have J:z^^^2 ^ z.log2 < 2 ^ z.log2:=by
  have:=va Z (show 2 ^ z.log2≠0 from Ig (lz _)) (by rw[Nat.log2_two_pow]);exact this
 generalize δ:z^^^2 ^ z.log2=y at α J;generalize z.log2=t at α J hi
 have I:G=G.take t++(G.getD t 0::G.drop (t + 1)):=by
  rw[bx,cP hi];show G=G.take t++(G[t]::G.drop (t + 1));rw[<-List.drop_eq_getElem_cons hi,List.take_append_drop]
 have θ:∀(as bs:D7) (s:Nat),s < 2 ^ as.length->sm (as++bs) s=sm as s:=by
  intro as bs
  induction as with
  | nil=>
    intro s hs;have υ:s=0:=by have:s < 1:=hs;omega
    rw[υ,sm_zero,sm_zero]
  | cons a as ih=>
    intro s hs;show(if s.testBit 0 then a else 0)^^^sm (as++bs) (s / 2)=(if s.testBit 0 then a else 0)^^^sm as (s / 2);rw[ih (s / 2) (by rw[Ir,Kc] at hs;omega)]
 have Y:(G.take t).length=t:=by rw[Ho];omega
 have h1:sm G y=sm (G.take t) y:=by
  conv=>lhs;rw[I]
  exact θ _ _ y (by rw[Y];exact J)
 have h2:sm G (2 ^ t)=G.getD t 0:=by
  have γ:G=(G.take t++[G.getD t 0])++G.drop (t + 1):=by rw[Lx];exact I
  conv=>lhs;rw[γ]
  rw[θ _ _ (2 ^ t) (by rw[eZ,Y,Hu];exact ra @C @A)];have:=xQ (G.take t) (G.getD t 0);rw[Y] at this;exact this
 rw[α,sm_xor,h1,h2] at hz
 have:G.getD t 0=sm (G.take t) y:=by
  have:=Hm (sm (G.take t) y^^^·) hz;simp only[<-Ip,Jm,JO,IJ] at this;exact this
 rw[this];exact sm_span _ _
theorem jz {l:D7} {m:Nat} (h:m∈l):Span l m:=by
 obtain⟨j,G,rfl⟩:=Ht.mp h;have:=sm_span l (2 ^ j);rw[jA,bx,cP G] at this;exact this
end M
namespace Sx
open PySem L2
noncomputable def cell (ns:HK) (k:Int):Int:=if k < ns.length then ns.getD k.toNat 0 else 41 * k + 3
def vk (K:a'):Sp:=λvs H Q _=>∃(p:ee) (ns:HK) (k:Int),vs=[.ref p,.int k]/\SqL K H p (ns.map V.int)/\0<=k/\Q (.int (cell ns k)) H
theorem oW {K:a'} {H:Hp} {Q:VK} {E:XK} {p:ee} {ns:HK} {k:Int} (e:SqL K H p (ns.map V.int)) (h0:0<=k) (q:Q (.int (cell ns k)) H):vk K [.ref p,.int k] H Q E:=⟨p,ns,k,rfl,e,h0,q⟩
def Ce:Sp:=λvs H Q _=>∃m:Nat,vs=[nat m]/\m < 2 ^ 1000/\Q (.bl (!M.od m)) H
theorem y9 (n h:Nat):KY ((n:Int) / 2 ^ ((h:Int).toNat)) (Je (n:Int) (1 * 2 ^ ((h:Int).toNat) - 1))=(((n>>>h)^^^(n&&&(2 ^ h - 1)):Nat):Int):=by
 rw[oe,Int.one_mul,qI];have e1:(n:Int) / ((2 ^ h:Nat):Int)=((n>>>h:Nat):Int):=by rw[zt];norm_cast
 have G:((2 ^ h:Nat):Int) - 1=((2 ^ h - 1:Nat):Int):=by have:=lz h;omega
 rw[e1,G,bt,cG]
theorem yW (Z:Nat):((Z:Int) + 1) / 2=(((Z + 1) / 2:Nat):Int):=by omega
theorem AA {n:Nat} (h:n < 2):decide (nat n=V.int 0)= !M.od n:=by
 have:n=0∨n=1:=by omega
 rcases this with rfl | rfl
 ·rw[M.od_zero];decide
 ·rw[show M.od 1=true from M.pb_pow (t:=0) @C];decide
def F5 (G:D7) (b:Nat):Prop:=∀y,M.Span G y->y≠0->y.log2≠b
def Ez (C:ee):Sp:=λvs H Q _=>∃(p d f n:ee) (G:D7) (b:Nat),vs=[.ref p,nat b]/\StA H C p d f n G/\b < 1000/\(∀r∈G,r < 2 ^ 1000)/\(M.fr G).length < 64/\F5 G b/\
 ∀m H2,Same H H2->M.Bar G b m->Q (nat m) H2
structure Acr (rows:D7) (wd:Nat) (ms:D7):Prop where
 len:ms.length + (M.fr rows).length=wd
 inj:M.Inj ms
 lt:∀m∈ms,m < 2 ^ wd
 ev:∀m∈ms,∀y,M.Span rows y->M.od (m&&&y)=false
 all:∀z,z < 2 ^ wd->(∀y,M.Span rows y->M.od (z&&&y)=false)->M.Span ms z
theorem AH (es:ef En):(kW es).map (·.1)=(es.map λe=>((e.m.log2:Nat):Int)).map Sum.inl:=by unfold kW;rw[Iv,Iv];rfl
theorem tW {es:ef En} {ns:HK} (Y:ns.Perm (es.map λe=>((e.m.log2:Nat):Int))) (hw:ns.Pairwise (·<=·)) (nd:(es.map λe=>e.m.log2).Nodup):
  ∃I:D7,ns=I.map (λ(k:Nat)=>(k:Int))/\I.Pairwise (· < ·)/\(∀t,t∈I↔∃e∈es,e.m.log2=t):=by
 have hn:∀x∈ns,((x.toNat:Nat):Int)=x:=λx L=>by
  obtain⟨e,_,rfl⟩:=qE.mp (Y.mem_iff.mp L);omega
 have e1:ns=(ns.map JT).map (λ(k:Nat)=>(k:Int)):=by
  rw[Iv];exact(LW ns).symm.trans (J5 λx L=>(hn x L).symm)
 have G:(ns.map JT).Perm (es.map λe=>e.m.log2):=by
  have:=Y.map JT;rw[Iv] at this;exact this
 refine⟨ns.map JT,e1,?_,λt=>?_⟩
 ·have J:(ns.map JT).Nodup:=G.nodup_iff.mpr nd
  have ι:(ns.map JT).Pairwise (·<=·):=by
   rw[List.pairwise_map];exact hw.imp λh=>by omega
  exact List.Pairwise.imp (R:=λa b=>a<=b/\a≠b) (λh=>by omega) (List.Pairwise.and ι J)
 ·rw[G.mem_iff,qE]
end Sx
namespace M
noncomputable def cm (a b:Nat):Nat:=if b=0 then 0 else (if b % 2=1 then a else 0)^^^2 * cm a (b / 2)
termination_by b
decreasing_by omega
def Dv (d x:Nat):Prop:=∃q,cm q d=x
structure Rm (d x r:Nat):Prop where
 lt:r < 2 ^ d.log2
 dv:Dv d (x^^^r)
end M
namespace Sx
open PySem L2
noncomputable def dg (m:Nat):Int:=(vu (m:Int):Int) - 1
theorem Cn (a p:Nat):(a:Int) * 2 ^ ((p:Int).toNat)=((a * 2 ^ p:Nat):Int):=by rw[oe];push_cast;rfl
end Sx
namespace M
structure Ord (d e:Nat):Prop where
 pos:1<=e
 one:Rm d (2 ^ e) 1
 least:∀j,1<=j->j < e->¬Rm d (2 ^ j) 1
 le:e<=2 ^ d.log2
end M
namespace Sx
open PySem L2
noncomputable def xC (k:IU):Bool:=subB k "int"&& !subB k "bool"
noncomputable def jR (x:V) (w:Int):Bool:=match x with
 | .int i=>decide (0<=i)&&decide (((vu i:Nat):Int)<=w)
 | _=>false
def mY (K:a'):Sp:=λvs H Q _=>∃x k,vs=[x]/\i0 K H x k/\Q (.bl (xC k)) H
def tX (K:a'):Sp:=λvs H Q _=>∃x k w,vs=[x,.int w]/\i0 K H x k/\Q (.bl (jR x w)) H
theorem iM {K:a'} {H:Hp} {Q:VK} {E:XK} {x:V} {k:IU} (hk:i0 K H x k) (q:Q (.bl (xC k)) H):mY K [x] H Q E:=⟨x,k,rfl,hk,q⟩
theorem lg {K:a'} {H:Hp} {Q:VK} {E:XK} {x:V} {k:IU} {i:Int} (hk:i0 K H x k) (q:Q (.bl (jR x i)) H):tX K [x,.int i] H Q E:=⟨x,k,i,rfl,hk,q⟩
theorem iI {c m:Int} (h:0 < m):∃k:Nat,c % m=(k:Int)/\(k:Int) < m:=by
 obtain⟨k,hk⟩:=Jk (Kg c (Int.ne_of_gt h));exact⟨k,hk,by rw[<-hk];exact JS c h⟩
theorem Gy {H:Hp} {Q:VK} {l:ee} {k:Int} {xs:ef V} (e:H l=aT (.lst xs)) (h0: -(2 ^ 63)<=k) (h1:k < 2 ^ 63) (hz:xs.length * k.toNat<=i') (h:∀p H2,H p=eH->Same H H2->H2 p=aT (.lst (lA k.toNat xs).flatten)->Q (.ref p) H2):rRep (.ref l) (.int k) H Q:=
 ⟨l,k,xs,rfl,rfl,e,h0,h1,hz,i8 h⟩
end Sx
namespace M
noncomputable def bn (b:IA):Nat:=if b then 1 else 0
noncomputable def pk (s:Nat->IA) (t:Nat):Nat->Nat
 | 0=>0
 | L + 1=>pk s t L^^^(if s (t + L) then 2 ^ L else 0)
theorem CS (s:Nat->IA) (t:Nat):∀L,pk s t L < 2 ^ L
 | 0=>Nat.one_pos
 | L + 1=>by
   have ih:=CS s t L;refine xor_lt_pow (eu ih (hD @C @A)) ?_;split
   ·exact ra @C @A
   ·exact lz _
theorem yj (s:Nat->IA) (t:Nat):∀L p,(pk s t L).testBit p=(decide (p < L)&&s (t + p))
 | 0,p=>by simp[pk]
 | L + 1,p=>by
   rw[pk,vl,yj s t L p];rcases JA p L with h | h | h
   ·have e:(if s (t + L)=true then 2 ^ L else 0:Nat).testBit p=false:=by
     cases s (t + L)<;>simp[nq];omega
    rw[e];simp[h,show p < L + 1 by omega]
   ·subst h;cases hs:s (t + p)<;>simp[Hx]
   ·have e:(if s (t + L)=true then 2 ^ L else 0:Nat).testBit p=false:=by
     cases s (t + L)<;>simp[nq];omega
    rw[e];simp[show ¬p < L by omega,show ¬p < L + 1 by omega]
theorem vq {s u:Nat->IA} {t v:Nat}:∀{L:Nat},(∀p,p < L->s (t + p)=u (v + p))->pk s t L=pk u v L
 | 0,_=>rfl
 | L + 1,h=>by rw[pk,pk,vq λp G=>h p @A,h L @A]
noncomputable def lf (G:Nat):Nat->(Nat->IA)->Nat->IA
 | 0,_,_=>false
 | L + 1,s,t=>lf G L s t^^(G.testBit L&&s (t + L))
noncomputable def tr (as:D7) (x:Nat):Nat:=pk (λk=>od (as.getD k 0&&&x)) 0 as.length
noncomputable def stt (as:D7) (x:Nat):Nat->Nat
 | 0=>x
 | t + 1=>tr as (stt as x t)
noncomputable def ans (as:D7) (o x t:Nat):Bool:=od (o&&&stt as x t)
noncomputable def lm (L G:Nat):D7:=(ko (L - 1)).map (λp=>2 ^ (p + 1))++(if 0 < L then [G] else [])
end M
namespace Sx
open PySem L2
noncomputable abbrev Pr3:=ee×Nat×Nat
noncomputable def refs (ps:ef Pr3):ef V:=ps.map λq=>V.ref q.1
def Prt (H:Hp) (ps:ef Pr3):Prop:=∀q∈ps,H q.1=aT (.tup [nat q.2.1,nat q.2.2])
theorem Prt.same {H H2:Hp} {ps:ef Pr3} (x:Prt H ps) (s:Same H H2):Prt H2 ps:=λq h=>s _ _ (x q h)
structure MaA (H:Hp) (C p:ee) (m:Nat) (nx os:ef Pr3):Prop where
 ho:∃dx tn to,H p=aT (.ins C dx [("inputs",nat m),("nexts",.ref tn),("outs",.ref to)])/\H tn=aT (.tup (refs nx))/\H to=aT (.tup (refs os))
 hn:Prt H nx
 hs:Prt H os
theorem MaA.same {H H2:Hp} {C p:ee} {m:Nat} {nx os:ef Pr3} (x:MaA H C p m nx os) (s:Same H H2):MaA H2 C p m nx os:=
 ⟨let ⟨dx,G,to,a,b,c⟩:=x.ho;⟨dx,G,to,s _ _ a,s _ _ b,s _ _ c⟩,x.hn.same s,x.hs.same s⟩
noncomputable def sq (bs:ef IA):Nat->Bool:=λi=>bs.getD i false
def xO:Sp:=λvs H Q _=>∃(r:ee) (ps:D7),vs=[.ref r]/\H r=aT (.lst (ps.map nat))/\(∀p∈ps,p < 1000)/\Q (nat (M.xm ps)) H
def zW:Sp:=λvs H Q _=>∃(t:ee) (x y n m:Nat),vs=[.ref t,nat n,nat m]/\H t=aT (.tup [nat x,nat y])/\x < 2 ^ n/\y < 2 ^ m/\Q (.bl true) H
structure Tab (H:Hp) (n o:ee) (m:Nat) (nx os:ef Pr3):Prop where
 m6:m<=6
 n:H n=aT (.lst (refs nx))
 o:H o=aT (.lst (refs os))
 pn:Prt H nx
 po:Prt H os
 ln:nx.length<=120
 lo:os.length<=6
 bn:∀q∈nx++os,q.2.1 < 2 ^ nx.length/\q.2.2 < 2 ^ m
def Cf:Sp:=λvs H Q _=>∃(n o:ee) (m:Nat) (nx os:ef Pr3),vs=[nat m,.ref n,.ref o]/\Tab H n o m nx os/\∀H2,Same H H2->Q .non H2
def Cc (C:ee):Sp:=λvs H Q _=>∃(x dx n o:ee) (m:Nat) (nx os:ef Pr3),vs=[.ref x,nat m,.ref n,.ref o]/\H x=aT (.ins C dx [])/\Tab H n o m nx os/\∀H2,(∀b G,b≠x->H b=aT G->H2 b=aT G)->MaA H2 C x m nx os->Q .non H2
def xK (C:ee):Sp:=λvs H Q _=>∃(p:ee) (m:Nat) (nx os:ef Pr3),vs=[.ref p]/\MaA H C p m nx os/\Q (nat nx.length) H
structure Lfsr (nx os:ef Pr3) (L G:Nat):Prop where
 nx:nx.map (λq=>q.2.1)=M.lm L G
 os:∃t,os=[(t,(if 0 < L then 1 else 0),0)]
theorem bK {a n:Nat} (h:a < 2 ^ n):jR (nat a) (n:Int)=true:=by
 have:=uU h;show(decide ((0:Int)<=(a:Int))&&decide (((vu (a:Int):Nat):Int)<=(n:Int)))=true;rw[gB @A,gB @A];rfl
theorem BZ {ps:D7} {i k:Nat} (h:ps[i]? =aT k):M.xm (ps.take (i + 1))=M.xm (ps.take i)^^^2 ^ k:=by rw[take_succ h];unfold M.xm;rw[K0];rfl
theorem Ee {w m:Nat} (h:m < 2 ^ w):M.xm (M.pl w m)=m:=M.xm_ext h λk=>rfl
noncomputable abbrev ms (nx:ef Pr3):D7:=nx.map λq=>q.2.1
end Sx
namespace M
noncomputable def tr2 (ps:A') (x r:Nat):Nat:=pk (λk=>od ((ps.getD k (0,0)).1&&&x)^^od ((ps.getD k (0,0)).2&&&r)) 0 ps.length
theorem cW (ps:A') (x r k:Nat):(tr2 ps x r).testBit k=(decide (k < ps.length)&&(od ((ps.getD k (0,0)).1&&&x)^^od ((ps.getD k (0,0)).2&&&r))):=by unfold tr2;rw[yj,KO]
theorem tr2_lt (ps:A') (x r:Nat):tr2 ps x r < 2 ^ ps.length:=CS _ _ _
theorem tr2_snoc (ps:A') (p:Nat×Nat) (x r:Nat):tr2 (ps++[p]) x r=tr2 ps x r^^^(if (od (p.1&&&x)^^od (p.2&&&r)) then 2 ^ ps.length else 0):=by
 unfold tr2;rw[eZ,Hu,pk,KO];have e1:(ps++[p]).getD ps.length (0,0)=p:=by rw[bx,lB (ov _),JH];rfl
 rw[e1]
 have G:pk (λk=>od (((ps++[p]).getD k (0,0)).1&&&x)^^od (((ps++[p]).getD k (0,0)).2&&&r)) 0 ps.length=pk (λk=>od ((ps.getD k (0,0)).1&&&x)^^od ((ps.getD k (0,0)).2&&&r)) 0 ps.length:=vq λk hk=>by
  rw[KO,bx,bx,kA hk]
 rw[G]
theorem qx (ps:A') (x y r s:Nat):tr2 ps (x^^^y) (r^^^s)=tr2 ps x r^^^tr2 ps y s:=by
 apply hJ;intro i;rw[vl,cW,cW,cW,iO,d3,iO,d3];cases decide (i < ps.length)<;>cases od ((ps.getD i (0,0)).1&&&x)<;>cases od ((ps.getD i (0,0)).1&&&y)<;>cases od ((ps.getD i (0,0)).2&&&r)<;>cases od ((ps.getD i (0,0)).2&&&s)<;>rfl
theorem qv (ps:A'):tr2 ps 0 0=0:=by
 apply hJ;intro i;rw[cW,Jy,Jy,od_zero];simp
noncomputable def wst (ps:A'):Nat->D7->Nat
 | x,[]=>x
 | x,r::rs=>wst ps (tr2 ps x r) rs
noncomputable def wan (ps os:A'):Nat->D7->D7
 | _,[]=>[]
 | x,r::rs=>tr2 os x r::wan ps os (tr2 ps x r) rs
theorem wst_snoc (ps:A') (r:Nat):∀(rs:D7) (x:Nat),wst ps x (rs++[r])=tr2 ps (wst ps x rs) r
 | [],_=>rfl
 | _::rs,_=>wst_snoc ps r rs _
theorem wan_snoc (ps os:A') (r:Nat):∀(rs:D7) (x:Nat),wan ps os x (rs++[r])=wan ps os x rs++[tr2 os (wst ps x rs) r]
 | [],_=>rfl
 | _::rs,_=>Hm (_::·) (wan_snoc ps os r rs _)
theorem wan_len (ps os:A'):∀(rs:D7) (x:Nat),(wan ps os x rs).length=rs.length
 | [],_=>rfl
 | _::rs,_=>Hm (· + 1) (wan_len ps os rs _)
theorem wst_lt {ps:A'}:∀{rs:D7} {x:Nat},x < 2 ^ ps.length->wst ps x rs < 2 ^ ps.length
 | [],_,h=>h
 | r::rs,x,_=>wst_lt (rs:=rs) (tr2_lt ps x r)
theorem tV (ps os:A'):∀(rs J:D7) (x:Nat),wan ps os x (rs++J)=wan ps os x rs++wan ps os (wst ps x rs) J
 | [],_,_=>rfl
 | _::rs,J,_=>Hm (_::·) (tV ps os rs J _)
theorem xm_snoc (J:D7) (k:Nat):xm (J++[k])=xm J^^^2 ^ k:=by unfold xm;rw[K0];rfl
theorem CH {α:Type} {P:ef α->Prop} (h0:P []) (h1:∀l x,P l->P (l++[x])) (l:ef α):P l:=by
 have:∀l:ef α,P l.reverse:=λl=>by
  induction l with
  | nil=>exact h0
  | cons x l ih=>rw[Nw];exact h1 _ _ ih
 have:=this l.reverse;rwa [N0] at this
theorem yt (s x r:Nat) (ps:A') (h:ps.length<=1000):od (s&&&tr2 ps x r)=(od (sm (ps.map (·.1)) s&&&x)^^od (sm (ps.map (·.2)) s&&&r)):=by
 induction ps using CH with
 | h0=>show od (s&&&0)=(od (0&&&x)^^od (0&&&r));rw[Jy,Jl,Jl,od_zero];rfl
 | h1 ps p ih=>
   rw[eZ,Hu] at h;have ih:=ih @A;rw[tr2_snoc,iO,d3,ih,hu,hu,JP,JP,fJ,fJ,cY,cY];generalize hb:(od (p.1&&&x)^^od (p.2&&&r))=b
   have e1:od (s&&&(if b=true then 2 ^ ps.length else 0))=(b&&s.testBit ps.length):=by
    cases b with
    | true=>rw[pe rfl,IM,kN @A];simp
    | false=>rw[nk gn,Jy,od_zero];simp
   rw[e1];have G:∀u v t:Nat,od ((u^^^v)&&&t)=(od (u&&&t)^^od (v&&&t)):=λu v t=>by rw[IM,iO,d3,IM,IM t v]
   rw[G,G];cases s.testBit ps.length with
   | true=>rw[pe rfl,pe rfl,<-hb];cases od (sm (ps.map (·.1)) s&&&x)<;>cases od (sm (ps.map (·.2)) s&&&r)<;>cases od (p.1&&&x)<;>cases od (p.2&&&r)<;>rfl
   | false=>rw[nk gn,nk gn,Jl,Jl,od_zero];cases b<;>simp
noncomputable def pulse (i T:Nat):D7:=(ko T).map λt=>if t=0 then 2 ^ i else 0
theorem pulse_len (i T:Nat):(pulse i T).length=T:=by unfold pulse;rw[cY,pT]
theorem pulse_eq (i T:Nat):(2 ^ i::lA T 0).take T=pulse i T:=by
 unfold pulse;apply NO
 ·rw[Ho,Ir,Iu,cY,pT];omega
 ·intro j h1 h2;rw[Lk,List.getElem_range,Kq];cases j with
  | zero=>rfl
  | succ j=>rw[List.getElem_cons_succ,MK];rfl
theorem pulse_lt {i m:Nat} (h:i < m) (T:Nat):∀r∈pulse i T,r < 2 ^ m:=λr G=>by
 obtain⟨t,_,rfl⟩:=qE.mp G;show(if t=0 then 2 ^ i else 0) < 2 ^ m;split
 ·exact ra @C h
 ·exact lz _
theorem Cj {G:D7} {i r:Nat} (s:Nat) (h:G[i]? =aT r):sm (G.take (i + 1)) s=sm (G.take i) s^^^(if s.testBit i then r else 0):=by
 have hi:=(b'.mp h).1;have e:G.take (i + 1)=G.take i++[r]:=by rw[Kp,h];rfl
 rw[e,fJ,Ho,M4 @A]
theorem sm_places (G:D7) (s:Nat) (h:s < 2 ^ G.length) (w:Nat) (hw:G.length<=w):(pl w s).foldl (λa p=>a^^^G.getD p 0) 0=sm G s:=by
 rw[pl_up h hw]
 have ζ:∀k,k<=G.length->(pl k s).foldl (λa p=>a^^^G.getD p 0) 0=sm (G.take k) s:=by
  intro k
  induction k with
  | zero=>intro _;rfl
  | succ k ih=>
    intro hk;have I:G[k]? =aT (G.getD k 0):=by rw[bx,cP @A];rfl
    have γ:pl (k + 1) s=pl k s++(if s.testBit k then [k] else []):=by
     unfold pl;rw[Jf,Kb];congr 1;cases hb:s.testBit k<;>simp[hb]
    rw[γ,K0,ih @A,Cj s I];cases s.testBit k<;>simp
 have:=ζ G.length (ov _);rwa [Hw] at this
end M
namespace Sx
open PySem L2
structure MaG (m:Nat) (nx os:ef Pr3):Prop where
 m6:m<=6
 ln:nx.length<=120
 lo:os.length<=6
 bn:∀q∈nx++os,q.2.1 < 2 ^ nx.length/\q.2.2 < 2 ^ m
theorem Tab.g {H:Hp} {n o:ee} {m:Nat} {nx os:ef Pr3} (t:Tab H n o m nx os):MaG m nx os:=⟨t.m6,t.ln,t.lo,t.bn⟩
theorem Tab.same {H H2:Hp} {n o:ee} {m:Nat} {nx os:ef Pr3} (t:Tab H n o m nx os) (s:Same H H2):Tab H2 n o m nx os:=⟨t.m6,s.get t.n,s.get t.o,t.pn.same s,t.po.same s,t.ln,t.lo,t.bn⟩
noncomputable abbrev prs (nx:ef Pr3):A':=nx.map (·.2)
theorem av (nx:ef Pr3):(prs nx).length=nx.length:=cY ..
theorem CN {nx:ef Pr3} {i:Nat} {q:Pr3} (h:nx[i]? =aT q):(prs nx)[i]? =aT q.2:=by rw[fk,h];rfl
theorem aR (nx:ef Pr3):(refs nx).length=nx.length:=cY ..
theorem hZ {x n:Nat} (h:x < 2 ^ n) (hn:n<=1000):x < 2 ^ 1000:=eu h (hD @C hn)
theorem MaG.b1 {m:Nat} {nx os:ef Pr3} (g:MaG m nx os):∀q∈nx,q.2.1 < 2 ^ 1000/\q.2.2 < 2 ^ 1000:=λq h=>have:=g.ln;have:=g.m6;have b:=g.bn q (n' _ h);⟨hZ b.1 @A,hZ b.2 @A⟩
theorem MaG.b2 {m:Nat} {nx os:ef Pr3} (g:MaG m nx os):∀q∈os,q.2.1 < 2 ^ 1000/\q.2.2 < 2 ^ 1000:=λq h=>have:=g.ln;have:=g.m6;have b:=g.bn q (hH _ h);⟨hZ b.1 @A,hZ b.2 @A⟩
theorem CJ {H H2:Hp} {a:ee} {u:HO} (h:Rd H a u) (s:Same H H2):Rd H2 a u:=h.imp (s _ _) λ⟨o,e⟩=>⟨o,s _ _ e⟩
theorem yO {K:a'} {H H2:Hp} {x:V} {k:IU} (h:i0 K H x k) (s:Same H H2):i0 K H2 x k:=by
 cases x with
 | ref p=>exact Or.imp (λ⟨a,xs,e⟩=>⟨a,xs,Same.seq s e⟩) (Or.imp (λ⟨a,xs,e⟩=>⟨a,xs,Same.tup s e⟩) λ⟨a,xs,e⟩=>⟨a,xs,CJ e s⟩) h
 | _=>exact h
def uZ (K:a') (H:Hp) (xs:ef V):Prop:=∀x∈xs,∃k,i0 K H x k
theorem uZ.nats (K:a') (H:Hp) (rs:D7):uZ K H (rs.map nat):=λx G=>by
 obtain⟨r,_,rfl⟩:=qE.mp G;exact⟨"int",rfl⟩
theorem m8 {x:V} {n:Nat} (h:jR x (n:Int)=true):∃a:Nat,x=nat a/\a < 2 ^ n:=by
 cases x with
 | int i=>
   have h:(decide ((0:Int)<=i)&&decide (((vu i:Nat):Int)<=(n:Int)))=true:=h;simp only[IK,Jj] at h;obtain⟨a,rfl⟩:=Jk h.1;exact⟨a,rfl,eu (uT a) (hD @C @A)⟩
 | _=>cases h
noncomputable def idxB (x:V) (m:Nat):Bool:=match x with
 | .int i=>decide (0<=i)&&decide (i < (m:Int))
 | _=>false
theorem xw (x y:IA):(!decide (V.bl (!x)=V.bl (!y)))=(x^^y):=by cases x<;>cases y<;>rfl
theorem zS {ps:ef Pr3} {i:Nat} {q:Pr3} (x y:Nat) (h:ps[i]? =aT q):M.tr2 (prs (ps.take (i + 1))) x y=M.tr2 (prs (ps.take i)) x y^^^(if (M.od (q.2.1&&&x)^^M.od (q.2.2&&&y)) then 2 ^ i else 0):=by
 have G:(prs (ps.take i)).length=i:=by rw[av];exact vg h
 rw[take_succ h];unfold prs at G ⊢;rw[hu,JP,M.tr2_snoc,G]
theorem rB (xs:ef V) (y:Nat) (hy:y<=xs.length):cutV xs eH (aT (y:Int))=xs.take y:=by
 unfold cutV;rw[HT.sIx_nat,HT.sIx_none,M4 hy,Nat.sub_zero,List.drop_zero]
theorem c6 {a b:Nat} (h:nat a=nat b):a=b:=by
 have h:(a:Int)=(b:Int):=V.int.inj h;omega
def Aa:Sp:=λvs H Q _=>∃(t:ee) (a b x r:Nat),vs=[.ref t,nat x,nat r]/\H t=aT (.tup [nat a,nat b])/\a < 2 ^ 1000/\b < 2 ^ 1000/\Q (.bl (M.od (a&&&x)^^M.od (b&&&r))) H
def Cb (K:a'):Sp:=λvs H Q _=>∃(r:ee) (ps:ef Pr3) (x y:Nat),vs=[.ref r,nat x,nat y]/\SqT K H r (refs ps)/\Prt H ps/\ps.length<=1000/\(∀q∈ps,q.2.1 < 2 ^ 1000/\q.2.2 < 2 ^ 1000)/\∀H2,Same H H2->Q (nat (M.tr2 (prs ps) x y)) H2
def Ey (K:a') (C B:ee):Sp:=λvs H Q E=>∃(p:ee) (m:Nat) (nx os:ef Pr3) (x:V) (k:IU),vs=[.ref p,x]/\MaA H C p m nx os/\i0 K H x k/\(jR x nx.length=true->Q .non H)/\(jR x nx.length=false->E (.ref B) eH H)
def zY (K:a') (C B:ee):Sp:=λvs H Q E=>∃(p:ee) (m:Nat) (nx os:ef Pr3) (x y:V) (kx G:IU),vs=[.ref p,x,y]/\MaA H C p m nx os/\MaG m nx os/\i0 K H x kx/\i0 K H y G/\
 (∀a b:Nat,x=nat a->y=nat b->a < 2 ^ nx.length->b < 2 ^ m->∀(t:ee) (H2:Hp),Same H H2->H2 t=aT (.tup [nat (M.tr2 (prs os) a b),nat (M.tr2 (prs nx) a b)])->Q (.ref t) H2)/\
 (jR x nx.length=false∨jR y m=false->E (.ref B) eH H)
structure F8 (K:a') (H:Hp) (C p rr:ee) (m:Nat) (nx os:ef Pr3) (x:V) (xs:ef V):Prop where
 ma:MaA H C p m nx os
 g:MaG m nx os
 kx:∃k,i0 K H x k
 sq:SqL K H rr xs
 ks:uZ K H xs
 ln:xs.length<=1000
def Good (m:Nat) (nx:ef Pr3) (x:V) (xs:ef V) (a:Nat) (rs:D7):Prop:=x=nat a/\xs=rs.map nat/\a < 2 ^ nx.length/\∀r∈rs,r < 2 ^ m
def Bad (m:Nat) (nx:ef Pr3) (x:V) (xs:ef V):Prop:=jR x nx.length=false∨∃y∈xs,jR y m=false
def zU (K:a') (C B:ee):Sp:=λvs H Q E=>∃(p G:ee) (m:Nat) (nx os:ef Pr3) (x:V) (xs:ef V),vs=[.ref p,.ref G,x]/\F8 K H C p G m nx os x xs/\
 (∀a rs,Good m nx x xs a rs->∀(t D:ee) (H2:Hp),H D=eH->Same H H2->H2 t=aT (.tup [.ref D,nat (M.wst (prs nx) a rs)])->H2 D=aT (.lst ((M.wan (prs nx) (prs os) a rs).map nat))->Q (.ref t) H2)/\
 (Bad m nx x xs->∀H2,Same H H2->E (.ref B) eH H2)
def Es (K:a') (C B:ee):Sp:=λvs H Q E=>∃(p G:ee) (m:Nat) (nx os:ef Pr3) (x:V) (xs:ef V),vs=[.ref p,.ref G,x]/\F8 K H C p G m nx os x xs/\
 (∀a rs,Good m nx x xs a rs->∀(D:ee) (H2:Hp),H D=eH->Same H H2->H2 D=aT (.lst ((M.wan (prs nx) (prs os) a rs).map nat))->Q (.ref D) H2)/\
 (Bad m nx x xs->∀H2,Same H H2->E (.ref B) eH H2)
def xM (K:a') (C B:ee):Sp:=λvs H Q E=>∃(p:ee) (m:Nat) (nx os:ef Pr3) (x:V) (k:IU) (T:Nat),vs=[.ref p,x,nat T]/\MaA H C p m nx os/\MaG m nx os/\i0 K H x k/\T<=900/\
 (∀i,x=nat i->i < m->∀(D:ee) (H2:Hp),H D=eH->Same H H2->H2 D=aT (.lst ((M.wan (prs nx) (prs os) 0 (M.pulse i T)).map nat))->Q (.ref D) H2)/\
 (idxB x m=false->E (.ref B) eH H)
def zZ (K:a') (C B:ee):Sp:=λvs H Q E=>∃(p:ee) (m:Nat) (nx os:ef Pr3) (x:V) (k:IU),vs=[.ref p,x]/\MaA H C p m nx os/\MaG m nx os/\i0 K H x k/\
 (∀a,x=nat a->a < 2 ^ nx.length->∀(t:ee) (H2:Hp),Same H H2->H2 t=aT (.tup [nat (M.sm (nx.map λq=>q.2.1) a),nat (M.sm (nx.map λq=>q.2.2) a)])->Q (.ref t) H2)/\
 (jR x nx.length=false->E (.ref B) eH H)
def v3 (C:ee):Sp:=λvs H Q _=>∃(p:ee) (m:Nat) (nx os:ef Pr3),vs=[.ref p]/\MaA H C p m nx os/\Q (nat os.length) H
structure TabT (H:Hp) (t n o:ee) (m:Nat) (nx os:ef Pr3):Prop where
 t:H t=aT (.tup [nat m,.ref n,.ref o])
 tab:Tab H n o m nx os
theorem TabT.same {H H2:Hp} {t n o:ee} {m:Nat} {nx os:ef Pr3} (x:TabT H t n o m nx os) (s:Same H H2):TabT H2 t n o m nx os:=⟨s.get x.t,x.tab.same s⟩
def xP:Sp:=λvs H Q _=>∃(c:Int) (st n w:Nat) (dg:IA),vs=[.int c,nat st,nat n,nat w,.bl dg]/\st<=900/\n<=64/\w<=16/\
 ∀(D:ee) (H2:Hp) (ms:D7),H D=eH->Same H H2->H2 D=aT (.lst (ms.map nat))->ms.length=n->(∀x∈ms,x < 2 ^ w)->Q (.ref D) H2
def z6:Sp:=λvs H Q _=>∃(r:ee) (ms:D7) (c:Int) (st I w:Nat),vs=[.ref r,.int c,nat st,nat I]/\H r=aT (.lst (ms.map nat))/\st<=900/\w<=16/\ms.length<=w/\(∀x∈ms,x < 2 ^ w)/\
 ∀(D:ee) (H2:Hp) (G:D7),H D=eH->Same H H2->H2 D=aT (.lst (G.map nat))->G.length=ms.length->(∀x∈G,x < 2 ^ w)->Q (.ref D) H2
def z8 (K:a'):Sp:=λvs H Q _=>∃(p:ee) (ns:HK) (st mo:Nat),vs=[.ref p,nat st,nat mo]/\SqL K H p (ns.map V.int)/\st<=900/\mo<=16/\
 ∀(t n o:ee) (H2:Hp) (m:Nat) (nx os:ef Pr3),Same H H2->H n=eH->H o=eH->TabT H2 t n o m nx os->nx.length<=16->Q (.ref t) H2
theorem k6 {H H2:Hp} {D:ee} (s:Same H H2) (f:H2 D=eH):H D=none:=by
 cases G:H D with
 | none=>rfl
 | some v=>have:=s _ _ G;rw[f] at this;cases this
theorem xv {H:Hp} {ps:HJ} {φ G:D7} (l:φ.length=G.length) (Y:ps.length=(φ.map nat).length) (h:∀(j:Nat) (p:ee) (x y:V),ps[j]? =aT p->(φ.map nat)[j]? =aT x->(G.map nat)[j]? =aT y->H p=aT (.tup [x,y])):
  ∃nx:ef Pr3,refs nx=ps.map V.ref/\Prt H nx/\nx.length=φ.length/\∀q∈nx,q.2.1∈φ/\q.2.2∈G:=by
 rw[cY] at Y;refine⟨ps.zip (φ.zip G),?_,λq I=>?_,?_,λq I=>?_⟩
 ·unfold refs;have:(ps.zip (φ.zip G)).map (λq=>V.ref q.1)=((ps.zip (φ.zip G)).map Prod.fst).map V.ref:=by rw[Iv];rfl
  rw[this,List.map_fst_zip (by rw[Lv];omega)]
 ·obtain⟨j,J⟩:=JM.mp I;obtain⟨h1,h2⟩:=JK.mp J;obtain⟨L,θ⟩:=JK.mp h2;exact h j q.1 _ _ h1 (by rw[fk,L];rfl) (by rw[fk,θ];rfl)
 ·rw[Lv,Lv];omega
 ·obtain⟨j,J⟩:=JM.mp I;obtain⟨h1,h2⟩:=JK.mp J;obtain⟨L,θ⟩:=JK.mp h2;exact⟨eO L,eO θ⟩
noncomputable def wA (q:Pr3):Dt:= .tup [.int q.2.1,.int q.2.2]
theorem rep2 {K:a'} {H:Hp} {p:ee} {i j:Int} (e:H p=aT (.tup [.int i,.int j])):Rep K H (.ref p) (.tup [.int i,.int j]):=by
 refine .tup (SqT.of e) rfl λk x d G hd=>?_
 match k,G,hd with
 | 0,G,hd=>cases G;cases hd;exact .int _
 | 1,G,hd=>cases G;cases hd;exact .int _
 | k + 2,G,_=>simp at G
theorem x9 {K:a'} {H:Hp} {D:ee} {l:ef Pr3} (e:H D=aT (.lst (refs l))) (pt:Prt H l):Rep K H (.ref D) (.lst (l.map wA)):=by
 refine .lst (SqL.of e) (by unfold refs;rw[cY,cY]) λk x d I hd=>?_;obtain⟨q,G,rfl⟩:=aO I;rw[fk,G] at hd;cases hd;exact rep2 (pt q (eO G))
theorem sT:∀l:ef Pr3,rA (l.map wA)<=1
 | []=>by simp[rA]
 | q::l=>by
   have:=sT l;rw[IE,rA];have e:depD (wA q)=1:=by simp[wA,depD,rA]
   omega
theorem uf (m k:Nat):(m:Int) / 2 ^ ((k:Int).toNat)=((m>>>k:Nat):Int):=by rw[oe,qI,zt];norm_cast
theorem sJ {m:Nat} {nx:ef Pr3} {a I:Nat} {rs L:D7} (g:Good m nx (nat a) (rs.map nat) I L):a=I/\rs=L:=by
 obtain⟨h1,h2,_,_⟩:=g;refine⟨c6 h1,?_⟩
 have h:∀(l G:D7),l.map nat=G.map nat->l=G:=by
  intro l
  induction l with
  | nil=>intro G h;cases G with | nil=>rfl | cons _ _=>cases h
  | cons x l ih=>
    intro G h;cases G with
    | nil=>cases h
    | cons y G=>
      rw[IE,IE] at h;obtain⟨h1,h2⟩:=List.cons.inj h;rw[ih _ h2,c6 h1]
 exact h rs L h2
theorem yv {m:Nat} {nx:ef Pr3} {a:Nat} {rs:D7} (ha:a < 2 ^ nx.length) (I:∀r∈rs,r < 2 ^ m) (b:Bad m nx (nat a) (rs.map nat)):False:=by
 rcases b with h | ⟨y,G,h⟩
 ·rw[bK ha] at h;cases h
 ·obtain⟨r,ρ,rfl⟩:=qE.mp G;rw[bK (I r ρ)] at h;cases h
theorem rC (xs:ef V) (k:Nat) (h:k<=xs.length):cutV xs (aT (k:Int)) eH=xs.drop k:=by
 unfold cutV;rw[HT.sIx_nat,HT.sIx_none,M4 h];exact IW (by rw[Jq];exact ov _)
end Sx
namespace M
noncomputable def pkw (w:Nat):D7->Nat
 | []=>0
 | p::ps=>p^^^(pkw w ps <<< w)
theorem tJ {w p r P R:Nat} (I:p < 2 ^ w) (G:r < 2 ^ w):(p^^^(P <<< w))&&&(r^^^(R <<< w))=(p&&&r)^^^((P&&&R) <<< w):=by
 apply hJ;intro i;simp only[vl,HY,Ii];by_cases hi:w<=i
 ·rw[oP (eu I (hD @C hi)),oP (eu G (hD @C hi))];simp[hi]
 ·simp[hi]
theorem Fq {x w:Nat} (h:x < 2 ^ (1000 - w)) (hw:w<=1000):od (x <<< w)=od x:=by
 show pb 1000 (x <<< w)=pb 1000 x;have e:=mZ w (1000 - w) (x <<< w);rw[show w + (1000 - w)=1000 by omega] at e;rw[e,pb_up h @A]
 have e1:pb w (x <<< w)=false:=by
  rw[<-yo,Jc,Nat.mul_mod_left]
  have:∀n,pb n 0=false:=λn=>by
   induction n with
   | zero=>rfl
   | succ n ih=>rw[CV,Nat.zero_div,ih];simp
  exact this w
 rw[e1,Nat.shiftLeft_shiftRight];simp
noncomputable def bkI (A:D7) (s:Nat):Nat->Nat
 | 0=>s
 | i + 1=>sm A (bkI A s i)
theorem zw (A:D7) (s:Nat):∀i,bkI A (sm A s) i=bkI A s (i + 1)
 | 0=>rfl
 | i + 1=>Hm (sm A) (zw A s i)
noncomputable def prt (A B:D7):Nat->Nat->D7
 | _,0=>[]
 | s,T + 1=>sm B s::prt A B (sm A s) T
theorem xB (ps:A'):∀(rs J:D7) (x y:Nat),rs.length=J.length->wst ps (x^^^y) (MH (·^^^·) rs J)=wst ps x rs^^^wst ps y J
 | [],[],_,_,_=>rfl
 | r::rs,q::J,x,y,h=>by
   show wst ps (tr2 ps (x^^^y) (r^^^q)) (MH (·^^^·) rs J)=wst ps (tr2 ps x r) rs^^^wst ps (tr2 ps y q) J;rw[qx,xB ps rs J _ _ (by simpa using h)]
end M
namespace Sx
open PySem L2
noncomputable abbrev nA (nx:ef Pr3):D7:=nx.map λq=>q.2.1
end Sx
namespace M
noncomputable def stj (ps:A'):D7->Nat->D7
 | S,0=>S
 | S,j + 1=>(stj ps S j).map λx=>tr2 ps x 0
noncomputable def sg0 (ps:A') (m:Nat):D7:=(ko m).map λw=>tr2 ps 0 (2 ^ w)
noncomputable def rch (ps:A') (m:Nat):Nat->D7
 | 0=>[]
 | T + 1=>stj ps (sg0 ps m) T++rch ps m T
theorem stj_len (ps:A') (S:D7):∀j,(stj ps S j).length=S.length
 | 0=>rfl
 | j + 1=>by show((stj ps S j).map _).length=_;rw[cY,stj_len ps S j]
theorem sg0_len (ps:A') (m:Nat):(sg0 ps m).length=m:=by unfold sg0;rw[cY,pT]
theorem rch_len (ps:A') (m:Nat):∀T,(rch ps m T).length=T * m
 | 0=>by show 0=0 * m;rw[Mn]
 | T + 1=>by show(stj ps (sg0 ps m) T++rch ps m T).length=_;rw[eZ,stj_len,sg0_len,rch_len ps m T,MW,MT,Lh]
theorem stj_lt (ps:A') (m:Nat):∀j,∀x∈stj ps (sg0 ps m) j,x < 2 ^ ps.length
 | 0,x,h=>by obtain⟨w,_,rfl⟩:=qE.mp h;exact tr2_lt _ _ _
 | j + 1,x,h=>by obtain⟨y,_,rfl⟩:=qE.mp h;exact tr2_lt _ _ _
theorem rch_lt (ps:A') (m:Nat):∀T,∀x∈rch ps m T,x < 2 ^ ps.length
 | 0,x,h=>hE h (by simp[rch])
 | T + 1,x,h=>(lx.mp h).elim (stj_lt ps m T x) (rch_lt ps m T x)
theorem vf (ps:A'):∀(G:D7) (F:Nat),tr2 ps (sm G F) 0=sm (G.map λx=>tr2 ps x 0) F
 | [],F=>qv ps
 | r::G,F=>by
   show tr2 ps ((if F.testBit 0 then r else 0)^^^sm G (F / 2)) 0=(if F.testBit 0 then tr2 ps r 0 else 0)^^^sm (G.map λx=>tr2 ps x 0) (F / 2);have e:=qx ps (if F.testBit 0 then r else 0) (sm G (F / 2)) 0 0;rw[Jm] at e;rw[e,vf ps G];cases F.testBit 0<;>simp[qv]
theorem qw (ps:A') (r:Nat):∀m,r < 2 ^ m->tr2 ps 0 r=sm (sg0 ps m) r
 | 0,h=>by have:r=0:=by have:r < 1:=h;omega
           rw[this,qv];rfl
 | m + 1,h=>by
   have es:sg0 ps (m + 1)=sg0 ps m++[tr2 ps 0 (2 ^ m)]:=by unfold sg0;rw[Jf,hu];rfl
   rw[es,fJ,sg0_len];by_cases hb:r.testBit m=true
   ·have G:r^^^2 ^ m < 2 ^ m:=by
     apply IG;intro i hi;rw[vl,nq];by_cases e:m=i
     ·subst e;rw[hb];simp
     ·rw[oP (eu h (hD @C @A))];simp[e]
    have ih:=qw ps (r^^^2 ^ m) m G
    have e1:sm (sg0 ps m) r=sm (sg0 ps m) (r^^^2 ^ m):=by
     have:sm (sg0 ps m) (2 ^ m)=0:=by
      have h1:=fJ (sg0 ps m) 0 (2 ^ m);have h2:=xQ (sg0 ps m) 0;rw[sg0_len] at h2;rw[h2] at h1;simpa using h1.symm
     rw[sm_xor,this,IJ]
    rw[pe hb,e1,<-ih];have I:=qx ps 0 0 (r^^^2 ^ m) (2 ^ m);rw[Jm,bp] at I;exact I
   ·have G:r < 2 ^ m:=by
     apply IG;intro i hi;by_cases e:i=m
     ·subst e;simpa using hb
     ·exact oP (eu h (hD @C @A))
    rw[nk hb,IJ,qw ps r m G]
theorem Bo:∀(as bs:D7) (s:Nat),sm (as++bs) s=sm as s^^^sm bs (s>>>as.length)
 | [],bs,s=>by show sm bs s=0^^^sm bs (s>>>0);rw[JO,Nh]
 | a::as,bs,s=>by
   show(if s.testBit 0 then a else 0)^^^sm (as++bs) (s / 2)=(if s.testBit 0 then a else 0)^^^sm as (s / 2)^^^sm bs (s>>>(as.length + 1));rw[Bo as bs (s / 2),Ip,Nat.shiftRight_succ_inside]
theorem xR:∀(as:D7) (P:Nat),sm as (P <<< as.length)=0
 | [],_=>rfl
 | a::as,P=>by
   show(if (P <<< (as.length + 1)).testBit 0 then a else 0)^^^sm as ((P <<< (as.length + 1)) / 2)=0;have e1:(P <<< (as.length + 1)).testBit 0=false:=by rw[Ii];simp
   have G:(P <<< (as.length + 1)) / 2=P <<< as.length:=by rw[Nat.shiftLeft_succ];omega
   rw[e1,G,xR as P];simp
theorem wz {w r P:Nat} (h:r < 2 ^ w):(r^^^(P <<< w))>>>w=P:=by
 apply hJ;intro i;rw[Ju,vl,Ii,oP (eu h (hD @C @A))];simp
noncomputable def zs (ps:A') (x:Nat):Nat->Nat
 | 0=>x
 | n + 1=>tr2 ps (zs ps x n) 0
theorem Bf (ps:A') (x:Nat):∀n,wst ps x (lA n 0)=zs ps x n
 | 0=>rfl
 | n + 1=>by rw[L7,wst_snoc,Bf ps x n];rfl
theorem Bl (ps:A') (S:D7) (F:Nat):∀n,sm (stj ps S n) F=zs ps (sm S F) n
 | 0=>rfl
 | n + 1=>by show sm ((stj ps S n).map λx=>tr2 ps x 0) F=tr2 ps (zs ps (sm S F) n) 0;rw[<-vf,Bl ps S F n]
theorem xA (ps:A') (x:Nat) (rs:D7):wst ps x rs=zs ps x rs.length^^^wst ps 0 rs:=by
 have e:=xB ps (lA rs.length 0) rs x 0 (by rw[Iu])
 have G:MH (·^^^·) (lA rs.length 0) rs=rs:=by
  apply NO
  ·rw[List.length_zipWith,Iu,LH]
  ·intro i h1 h2;rw[List.getElem_zipWith,MK,JO]
 rw[G,IJ,Bf] at e;exact e
theorem qG (ps:A') (m:Nat):∀rs:D7,(∀r∈rs,r < 2 ^ m)->wst ps 0 rs=sm (rch ps m rs.length) (pkw m rs)
 | [],_=>rfl
 | r::rs,h=>by
   have ih:=qG ps m rs λx J=>h x (p' _ J);have G:=h r (Ha ..);show wst ps (tr2 ps 0 r) rs=sm (stj ps (sg0 ps m) rs.length++rch ps m rs.length) (r^^^(pkw m rs <<< m));have I:(stj ps (sg0 ps m) rs.length).length=m:=by rw[stj_len,sg0_len]
   rw[xA,ih,Bo,I,wz G,sm_xor];have υ:=xR (stj ps (sg0 ps m) rs.length) (pkw m rs);rw[I] at υ;rw[υ,IJ,Bl,<-qw ps r m G]
noncomputable def upk (w q T:Nat):D7:=(ko T).map λt=>(q>>>(t * w))&&&(2 ^ w - 1)
theorem xF (w q T:Nat):(upk w q T).length=T:=by unfold upk;rw[cY,pT]
theorem xE (w q T:Nat):∀r∈upk w q T,r < 2 ^ w:=λr G=>by
 obtain⟨t,_,rfl⟩:=qE.mp G;have:=lz w;exact Hf Kt @A
theorem zR (w q T:Nat):upk w q (T + 1)=(q&&&(2 ^ w - 1))::upk w (q>>>w) T:=by
 unfold upk;rw[MJ,IE,Iv,Mn,Nh];congr 1;apply J5;intro t _;show(q>>>((t + 1) * w))&&&_=(q>>>w>>>(t * w))&&&_;rw[<-Nat.shiftRight_add,MW,MT,Lh]
theorem uq (w:Nat):∀(T q:Nat),q < 2 ^ (T * w)->pkw w (upk w q T)=q
 | 0,q,h=>by rw[Mn] at h;have:q=0:=by have:q < 1:=h;omega
             rw[this];rfl
 | T + 1,q,h=>by
   rw[zR];show(q&&&(2 ^ w - 1))^^^(pkw w (upk w (q>>>w) T) <<< w)=q;rw[uq w T (q>>>w) (by rw[zt,M' (lz _),<-Me];rw[MW,MT] at h;exact h)];apply hJ;intro i;rw[vl,HY,Ii,Ju,Mb];by_cases hi:i < w
   ·simp[hi,show ¬w<=i by omega]
   ·simp[hi,show w<=i by omega,show w + (i - w)=i by omega]
theorem C5 (ps:A') (G:ps.length<=1000) (y:Nat):∀(j s:Nat),od (s&&&zs ps y j)=od (bkI (ps.map (·.1)) s j&&&y)
 | 0,_=>rfl
 | j + 1,s=>by
   show od (s&&&tr2 ps (zs ps y j) 0)=_;rw[yt s _ 0 ps G,Jy,od_zero,IQ,C5 ps G y j,zw]
theorem xI (ps:A') (m w:Nat) (hw:w < m):∀j,zs ps (tr2 ps 0 (2 ^ w)) j∈stj ps (sg0 ps m) j
 | 0=>qE.mpr ⟨w,Iq.mpr hw,rfl⟩
 | j + 1=>qE.mpr ⟨_,xI ps m w hw j,rfl⟩
theorem ya (ps:A') (m:Nat) {j:Nat} {x:Nat} (h:x∈stj ps (sg0 ps m) j):∀{T},j < T->x∈rch ps m T
 | T + 1,G=>by
   by_cases e:j=T
   ·subst e;exact n' _ h
   ·exact hH _ (ya ps m h @A)
end M
namespace Sx
open PySem L2
structure Sumd (rows:D7) (x q:Nat):Prop where
 lt:q < 2 ^ rows.length
 sm:M.sm rows q=x
 fr:M.Frs rows q
theorem Sumd.uniq {G:D7} {x p q:Nat} (a:Sumd G x p) (b:Sumd G x q):p=q:=M.sum_uniq a.fr b.fr (by rw[a.sm,b.sm])
structure Bard (rows:D7) (x m:Nat):Prop where
 ns:¬M.Span rows x
 bar:∃y,M.Span rows y/\x^^^y≠0/\F5 rows (x^^^y).log2/\M.Bar rows (x^^^y).log2 m
 ev:∀y,M.Span rows y->M.od (m&&&y)=false
 odd:M.od (m&&&x)=true
 lt:∀W,(∀r∈rows,r < 2 ^ W)->x < 2 ^ W->m < 2 ^ W
def vZ:Sp:=λvs H Q _=>∃(r:ee) (G:D7) (x:Nat),vs=[.ref r,nat x]/\H r=aT (.lst (G.map nat))/\G.length<=1000/\(∀r∈G,r < 2 ^ 1000)/\x < 2 ^ 1000/\(M.Span G x∨(M.fr G).length < 64)/\
 (∀(t D:ee) (H2:Hp) (q:Nat),H D=eH->Same H H2->H2 t=aT (.tup [.str "sum",.ref D])->H2 D=aT (.lst ((M.pl 1000 q).map nat))->Sumd G x q->Q (.ref t) H2)/\
 (∀(t:ee) (H2:Hp) (m:Nat),Same H H2->H2 t=aT (.tup [.str "no",nat m])->Bard G x m->Q (.ref t) H2)
def xJ:Sp:=λvs H Q _=>∃(q Z T:Nat),vs=[nat q,nat Z,nat T]/\Z<=1000/\T<=1000/\∀(D:ee) (H2:Hp),H D=eH->Same H H2->H2 D=aT (.lst ((M.upk Z q T).map nat))->Q (.ref D) H2
def zV (C:ee):Sp:=λvs H Q _=>∃(p:ee) (m:Nat) (nx os:ef Pr3) (T:Nat),vs=[.ref p,nat T]/\MaA H C p m nx os/\MaG m nx os/\T<=100/\∀(D:ee) (H2:Hp),H D=eH->Same H H2->H2 D=aT (.lst ((M.rch (prs nx) m T).map nat))->Q (.ref D) H2
def xN (C:ee):Sp:=λvs H Q _=>∃(p D:ee) (m:Nat) (nx os:ef Pr3) (q T:Nat),vs=[.ref p,.ref D,nat T]/\MaA H C p m nx os/\MaG m nx os/\H D=aT (.lst ((M.pl 1000 q).map nat))/\q < 2 ^ 1000/\T<=1000/\∀(G:ee) (H2:Hp),H G=eH->Same H H2->H2 G=aT (.lst ((M.upk m q T).map nat))->Q (.ref G) H2
end Sx
namespace L2
open PySem
end L2
namespace Sx
open PySem L2
noncomputable def TupV (K:a') (H:Hp) (y:V):ry (ef V)->Prop
 | some xs=>∃r,y= .ref r/\SqT K H r xs/\uZ K H xs
 | none=>∃k,i0 K H y k/\k≠"tuple"
noncomputable def GM (n m:Nat):ry (ef V)->IA
 | some [x,y]=>jR x n&&jR y m
 | _=>false
noncomputable abbrev It2:=V×ry (ef V)
noncomputable def LstV (K:a') (H:Hp) (y:V):ry (ef It2)->Prop
 | some zs=>∃r,y= .ref r/\H r=aT (.lst (zs.map (·.1)))/\∀z∈zs,TupV K H z.1 z.2
 | none=>∃k,i0 K H y k/\k≠"list"
noncomputable def tabB (x:V) (φ υ:ry (ef It2)):Bool:=match x,φ,υ with
 | .int i,aT zs,aT ws=>decide (0<=i)&&decide (i<=6)&&decide (zs.length<=120)&&decide (ws.length<=6)&&(zs++ws).all λz=>GM zs.length i.toNat z.2
 | _,_,_=>false
end Sx
namespace L2
open PySem
end L2
namespace Sx
open PySem L2
structure BadT (K:a') (H:Hp) (x y z:V):Prop where
 ex:∃k on oo,i0 K H x k/\LstV K H y on/\LstV K H z oo/\tabB x on oo=false
end Sx
namespace L2
open PySem
end L2
namespace Sx
open PySem L2
end Sx
namespace M
structure Fst (ms:D7) (p:Nat):Prop where
 lt:p < ms.length
 out:∀k,k < p->¬Span (ms.take k) (ms.getD k 0)
 in_:Span (ms.take p) (ms.getD p 0)
theorem BD {ms:D7}:∀j,j<=ms.length->(∀k,k < j->¬Span (ms.take k) (ms.getD k 0))->(fr (ms.take j)).length=j
 | 0,_,_=>by have:=fr_len (ms.take 0);simpa using this
 | j + 1,G,h=>by
   have e:ms.take (j + 1)=ms.take j++[ms.getD j 0]:=by
    rw[O7,cP @A,bx,cP @A];rfl
   rw[e,fr_out (h j (Il j)),eZ,BD j @A (λk hk=>h k @A)];rfl
theorem uR {ms:D7} {n j:Nat} (hb:∀x∈ms,x < 2 ^ n) (hj:j<=ms.length) (h:∀k,k < j->¬Span (ms.take k) (ms.getD k 0)):j<=n:=by
 rw[<-BD j hj h];exact yc λr G=>hb r (L8 G)
noncomputable def zl (ps:A') (d n:Nat):D7:=(ko (n + 1)).map (zs ps d)
theorem xu (ps:A') (d n:Nat):(zl ps d n).length=n + 1:=by unfold zl;rw[cY,pT]
theorem u0 {ps:A'} {d n k:Nat} (h:k<=n):(zl ps d n)[k]? =aT (zs ps d k):=by
 unfold zl;rw[fk,HZ @A];rfl
theorem BV {ps:A'} {d n k:Nat} (h:k<=n):(zl ps d n).getD k 0=zs ps d k:=by rw[bx,u0 h];rfl
theorem F9 {ps:A'} {d:Nat} (h:d < 2 ^ ps.length):∀k,zs ps d k < 2 ^ ps.length
 | 0=>h
 | k + 1=>tr2_lt _ _ _
theorem Ga {ps:A'} {d n:Nat} (h:d < 2 ^ ps.length):∀x∈zl ps d n,x < 2 ^ ps.length:=λx G=>by
 obtain⟨k,_,rfl⟩:=qE.mp G;exact F9 h k
theorem ue {G:D7}:∀(rs:D7),(∀x∈rs,Span G x)->∀F,Span G (sm rs F)
 | [],_,_=>span_zero G
 | r::rs,h,F=>by
   show Span G ((if F.testBit 0 then r else 0)^^^sm rs (F / 2));refine span_xor ?_ (ue rs (λx I=>h x (p' _ I)) (F / 2));split
   ·exact h r Ha
   ·exact span_zero G
theorem BS {ps:A'} {d n p:Nat} (F:Fst (zl ps d n) p):∀t,Span ((zl ps d n).take p) (zs ps d t):=by
 have Y:p<=n:=by have:=F.lt;rw[xu] at this;omega
 have I:=F.in_;rw[BV Y] at I;have δ:∀k,k < p->Span ((zl ps d n).take p) (zs ps d k):=λk hk=>jz (eO (i:=k) (by rw[IX hk];exact u0 @A));intro t
 induction t with
 | zero=>
   by_cases β:p=0
   ·subst β;exact I
   ·exact δ 0 @A
 | succ t ih=>
   obtain⟨G,_,α⟩:=fI ih;show Span _ (tr2 ps (zs ps d t) 0);rw[<-α,vf];refine ue _ (λx L=>?_) G;obtain⟨y,J,rfl⟩:=qE.mp L;obtain⟨k,hk⟩:=Jz J
   have Z:k < p:=by
    have:=(b'.mp hk).1;rw[Ho] at this;omega
   rw[IX Z,u0 @A] at hk;cases hk;show Span _ (zs ps d (k + 1));by_cases h1:k + 1 < p
   ·exact δ _ h1
   ·have:k + 1=p:=by omega
    rw[this];exact I
theorem BU (ps:A') (d:Nat):∀i,zs ps (tr2 ps d 0) i=zs ps d (i + 1)
 | 0=>rfl
 | i + 1=>by show tr2 ps (zs ps (tr2 ps d 0) i) 0=_;rw[BU ps d i];rfl
theorem vc (ps os:A'):∀(rs:D7) (a k:Nat),wan ps os a (rs.take k)=(wan ps os a rs).take k
 | [],_,k=>by simp[wan]
 | r::rs,a,0=>rfl
 | r::rs,a,k + 1=>by
   show tr2 os a r::wan ps os (tr2 ps a r) (rs.take k)=_;rw[vc ps os rs];rfl
end M
namespace Sx
open PySem L2
noncomputable def cps (p q k:Nat):D7:=if k + 1 < p then [k + 1] else M.pl 1000 q
structure ChS (H:Hp) (S:ee) (p q:Nat) (rs:HJ):Prop where
 at_:H S=aT (.lst (rs.map V.ref))
 len:rs.length=p
 get:∀(k:Nat) (r:ee),rs[k]? =aT r->H r=aT (.lst ((cps p q k).map nat))
structure ChT (H:Hp) (D S:ee) (ms:D7) (p q:Nat):Prop where
 fs:M.Fst ms p
 sd:Sumd (ms.take p) (ms.getD p 0) q
 d:H D=aT (.lst ((ms.take p).map nat))
 s:∃rs,ChS H S p q rs
structure LA (K:a') (H:Hp) (t n o rr:ee) (m:Nat) (nx os:ef Pr3) (rs:D7) (a b:Nat):Prop where
 tt:TabT H t n o m nx os
 sq:SqL K H rr (rs.map nat)
 lr:rs.length=20
 br:∀r∈rs,r < 2 ^ m
 ln:nx.length<=16
 ha:a < 2 ^ nx.length
 hb:b < 2 ^ nx.length
structure ApA (H:Hp) (f:ee) (nx os:ef Pr3) (d k ans:Nat):Prop where
 f:H f=aT (.tup [.str "apart",nat k,nat ans.log2])
 hk:k < nx.length
 an:ans=M.tr2 (prs os) (M.zs (prs nx) d k) 0
 ne:ans≠0
 qu:∀j,j < k->M.tr2 (prs os) (M.zs (prs nx) d j) 0=0
structure ApL (H:Hp) (f D S:ee) (nx os:ef Pr3) (d p q:Nat):Prop where
 f:H f=aT (.tup [.str "alike",.ref D,.ref S])
 ct:ChT H D S (M.zl (prs nx) d nx.length) p q
 qu:∀j,j < p->M.tr2 (prs os) (M.zs (prs nx) d j) 0=0
end Sx
namespace M
noncomputable def bl (A:D7) (s n:Nat):D7:=(ko (n + 1)).map (bkI A s)
theorem zv (A:D7) (s n:Nat):(bl A s n).length=n + 1:=by unfold bl;rw[cY,pT]
theorem vN {A:D7} {s n k:Nat} (h:k<=n):(bl A s n)[k]? =aT (bkI A s k):=by
 unfold bl;rw[fk,HZ @A];rfl
theorem DP {A:D7} {s n k:Nat} (h:k<=n):(bl A s n).getD k 0=bkI A s k:=by rw[bx,vN h];rfl
theorem bkI_lt {A:D7} {s w:Nat} (hA:∀x∈A,x < 2 ^ w) (h:s < 2 ^ w):∀k,bkI A s k < 2 ^ w
 | 0=>h
 | k + 1=>sm_lt _ hA
theorem G4 {A:D7} {s n w:Nat} (hA:∀x∈A,x < 2 ^ w) (h:s < 2 ^ w):∀x∈bl A s n,x < 2 ^ w:=λx G=>by
 obtain⟨k,_,rfl⟩:=qE.mp G;exact bkI_lt hA h k
theorem Ab (A:D7):∀(G:D7) (F:Nat),sm A (sm G F)=sm (G.map (sm A)) F
 | [],_=>sm_zero A
 | r::G,F=>by
   show sm A ((if F.testBit 0 then r else 0)^^^sm G (F / 2))=(if F.testBit 0 then sm A r else 0)^^^sm (G.map (sm A)) (F / 2);rw[sm_xor,Ab A G];cases F.testBit 0<;>simp[sm_zero]
theorem DQ {A:D7} {s n p:Nat} (F:Fst (bl A s n) p):∀t,Span ((bl A s n).take p) (bkI A s t):=by
 have Y:p<=n:=by have:=F.lt;rw[zv] at this;omega
 have I:=F.in_;rw[DP Y] at I;have δ:∀k,k < p->Span ((bl A s n).take p) (bkI A s k):=λk hk=>jz (eO (i:=k) (by rw[IX hk];exact vN @A));intro t
 induction t with
 | zero=>
   by_cases β:p=0
   ·subst β;exact I
   ·exact δ 0 @A
 | succ t ih=>
   obtain⟨G,_,α⟩:=fI ih;show Span _ (sm A (bkI A s t));rw[<-α,Ab];refine ue _ (λx L=>?_) G;obtain⟨y,J,rfl⟩:=qE.mp L;obtain⟨k,hk⟩:=Jz J
   have Z:k < p:=by
    have:=(b'.mp hk).1;rw[Ho] at this;omega
   rw[IX Z,vN @A] at hk;cases hk;show Span _ (bkI A s (k + 1));by_cases h1:k + 1 < p
   ·exact δ _ h1
   ·have:k + 1=p:=by omega
    rw[this];exact I
end M
namespace Sx
open PySem L2
structure CmA (H:Hp) (t D:ee) (m:Nat) (nx:ef Pr3) (st T q mk:Nat):Prop where
 f:H t=aT (.tup [.str "come",.ref D,nat mk])
 d:H D=aT (.lst ((M.upk m q T).map nat))
 hT:T<=nx.length
 no:∀j,j < T->¬M.Span (M.rch (prs nx) m j) st
 sd:Sumd (M.rch (prs nx) m T) st q
 br:(T=0/\mk=0)∨∃T',T=T' + 1/\Bard (M.rch (prs nx) m T') st mk
structure CmN (H:Hp) (t D S:ee) (m:Nat) (nx:ef Pr3) (st mk p q:Nat):Prop where
 f:H t=aT (.tup [.str "never",.ref D,.ref S])
 no:∀j,j<=nx.length->¬M.Span (M.rch (prs nx) m j) st
 bd:Bard (M.rch (prs nx) m nx.length) st mk
 ct:ChT H D S (M.bl (nA nx) mk nx.length) p q
structure LN (K:a') (H:Hp) (n:ee) (m:Nat) (nx os:ef Pr3) (st:Nat):Prop where
 sq:SqL K H n (refs nx)
 pt:Prt H nx
 g:MaG m nx os
 ln:nx.length<=16
 hs:st < 2 ^ nx.length
end Sx
namespace M
noncomputable def fR (G:D7):D7:=(fr G).map λi=>G.getD i 0
theorem fr_lt {G:D7}:∀i∈fr G,i < G.length:=by
 intro i hi;unfold fr at hi;exact Iq.mp (JV.mp hi).1
theorem oM (G:D7) (r:Nat):(fr G).map (λi=>(G++[r]).getD i 0)=fR G:=by
 unfold fR;refine J5 λi hi=>?_;rw[bx,bx,kA (fr_lt i hi)]
theorem FO {G:D7} {r:Nat} (h:Span G r):fR (G++[r])=fR G:=by
 rw[<-oM G r];unfold fR;rw[fr_in h]
theorem BG {G:D7} {r:Nat} (h:¬Span G r):fR (G++[r])=fR G++[r]:=by
 rw[<-oM G r];unfold fR;rw[fr_out h,hu];congr 1;simp
theorem rp:∀(G:D7) (x:Nat),Span (fR G) x↔Span G x:=by
 refine iz ?_ λl w ih=>?_
 ·intro x;exact NA
 ·intro x;by_cases h:Span l w
  ·rw[FO h,ih,dB];exact⟨.inl,λz=>z.elim id λz=>by have:=span_xor z h;rwa [bp] at this⟩
  ·rw[BG h,dB,dB,ih,ih]
theorem Inj.out {ws:D7} {w:Nat} (I:Inj ws) (h:¬Span ws w):Inj (ws++[w]):=by
 intro p J e;rw[fJ] at e;by_cases hb:p.testBit ws.length=true
 ·rw[pe hb] at e;exfalso;apply h
  have:sm ws p=w:=by
   have:=Hm (·^^^w) e;simpa[Ip] using this
  rw[<-this];exact sm_span _ _
 ·rw[nk hb,IJ] at e;refine I p ?_ e;rw[eZ,Hu] at J;refine IG p λi hi=>?_;by_cases G:i=ws.length
  ·rw[G];simpa using hb
  ·exact oP (eu J (hD @C @A))
theorem y8:∀G:D7,Inj (fR G):=by
 refine iz Inj.nil λl w ih=>?_;by_cases h:Span l w
 ·rw[FO h];exact ih
 ·rw[BG h];exact ih.out λz=>h ((rp l w).mp z)
theorem Inj.out' {ws:D7} {w:Nat} (I:Inj (ws++[w])):Inj ws/\¬Span ws w:=by
 refine⟨λp G e=>I p (by rw[eZ,Hu,Kc];omega) (by rw[fX G];exact e),λh=>?_⟩;obtain⟨p,G,e⟩:=fI h;have:=I (p^^^2 ^ ws.length) (by rw[eZ];exact uA G) (by rw[ud G,e,Jm]);exact(oj G).1 this
theorem AL:∀ws:D7,Inj ws->(fr ws).length=ws.length:=by
 refine iz (λ_=>rfl) λl w ih h=>?_;have:=h.out';rw[fr_out this.2,eZ,eZ,ih this.1];rfl
theorem oB {ws:D7} {t:Nat} (I:Inj ws) (h:∀x∈ws,x < 2 ^ t):ws.length<=t:=by
 rw[<-AL ws I];exact yc h
noncomputable def ow (x:Nat) (L:D7):Nat:=pk (λk=>od (x&&&L.getD k 0)) 0 L.length
theorem ow_bit (x:Nat) (L:D7) (k:Nat):(ow x L).testBit k=(decide (k < L.length)&&od (x&&&L.getD k 0)):=by unfold ow;rw[yj,KO]
theorem ow_lt (x:Nat) (L:D7):ow x L < 2 ^ L.length:=CS _ _ _
theorem vw (x y:Nat) (L:D7):ow (x^^^y) L=ow x L^^^ow y L:=hJ λk=>by
 rw[vl,ow_bit,ow_bit,ow_bit,nh,d3];cases decide (k < L.length)<;>simp
theorem qM (L:D7):ow 0 L=0:=hJ λk=>by
 rw[ow_bit,Jl,od_zero,z',ID]
theorem qN (L:D7):∀(G:D7) (F:Nat),ow (sm G F) L=sm (G.map (ow · L)) F:=by
 refine iz ?_ λl w ih=>?_
 ·intro F;rw[sm,MU,sm,qM]
 ·intro F;rw[hu,JP,fJ,fJ,vw,ih,cY];by_cases h:F.testBit l.length=true
  ·rw[pe h,pe h]
  ·rw[nk h,nk h,qM]
theorem h9 {x:Nat} {L:D7}:ow x L=0↔∀y∈L,od (x&&&y)=false:=by
 constructor
 ·intro h y G;obtain⟨k,hk,e⟩:=Ht.mp G;have:=Hm (Nat.testBit · k) h;rw[ow_bit,z',gB hk,Hj,bx,cP hk] at this;rw[<-e];exact this
 ·intro h;refine hJ λk=>?_;rw[ow_bit,z'];by_cases hk:k < L.length
  ·rw[bx,cP hk,MP,h _ (Jr hk),ID]
  ·rw[eP hk,oT]
theorem k7 {x:Nat}:∀(L:D7),(∀y∈L,od (x&&&y)=false)->∀z,Span L z->od (x&&&z)=false:=by
 refine iz ?_ λl w ih=>?_
 ·intro _ z hz;rw[show z=0 from hz,Jy,od_zero]
 ·intro h z hz;have h1:=ih λy G=>h y (n' _ G);rcases(dB l w z).mp hz with hz | hz
  ·exact h1 z hz
  ·have h2:=h1 _ hz;rw[iO,d3,h w @E,IQ] at h2;exact h2
theorem GQ (p x:Nat):∀(L:D7),L.length<=1000->od (p&&&ow x L)=od (sm L p&&&x):=by
 refine iz ?_ λl w ih=>?_
 ·intro _;rw[show ow x []=0 from rfl,Jy,sm,Jl]
 ·intro J;rw[eZ,Hu] at J
  have e:ow x (l++[w])=ow x l^^^(if od (x&&&w)=true then 2 ^ l.length else 0):=hJ λk=>by
   rw[vl,ow_bit,ow_bit,eZ,Hu];by_cases hk:k < l.length
   ·rw[bx,bx,kA hk,gB hk,gB (show k < l.length + 1 by omega)]
    have:(if od (x&&&w)=true then 2 ^ l.length else 0).testBit k=false:=by
     split
     ·rw[nq];exact eP @A
     ·exact z' k
    rw[this,IQ]
   ·by_cases I:k=l.length
    ·subst I;rw[eP hk,gB (Il _),oT,Ku,Hj];rw[bx,lB (ov _),JH];show od (x&&&w)=_;by_cases hw:od (x&&&w)=true
     ·rw[pe hw,Hx,hw]
     ·rw[nk hw,z'];simpa using hw
    ·rw[eP hk,eP (show ¬k < l.length + 1 by omega),oT,oT,Ku];split
     ·rw[nq];exact(eP @A).symm
     ·exact(z' k).symm
  rw[e,iO,d3,ih @A,fJ,nh,d3];congr 1;by_cases hw:od (x&&&w)=true
  ·rw[pe hw,IM,kN @A];by_cases G:p.testBit l.length=true
   ·rw[pe G,G,IM,hw]
   ·rw[nk G,Jl,od_zero];simpa using G
  ·rw[nk hw,Jy,od_zero];by_cases G:p.testBit l.length=true
   ·rw[pe G,IM];simpa using hw
   ·rw[nk G,Jl,od_zero]
theorem qi {ms:D7} {n:Nat} (hb:∀x∈ms,x < 2 ^ n) (L:n < ms.length):∃p,p<=n/\Fst ms p:=by
 have ζ:∀j,(∃p,p < j/\Fst ms p)∨∀k,k < j->k < ms.length->¬Span (ms.take k) (ms.getD k 0):=λj=>by
  induction j with
  | zero=>exact .inr λk hk=>hE hk (Jp k)
  | succ j ih=>
    rcases ih with ⟨p,I,F⟩ | h
    ·exact .inl ⟨p,by omega,F⟩
    ·by_cases J:j < ms.length
     ·by_cases hs:Span (ms.take j) (ms.getD j 0)
      ·exact .inl ⟨j,by omega,J,λk hk=>h k hk @A,hs⟩
      ·exact .inr λk hk G=>by
        by_cases e:k=j
        ·rw[e];exact hs
        ·exact h k @A G
     ·exact .inr λk hk G=>h k @A G
 rcases ζ (n + 1) with ⟨p,I,F⟩ | h
 ·exact⟨p,@A,F⟩
 ·have:=uR hb (j:=n + 1) @A λk hk=>h k hk @A;omega
theorem kG:∀{as:D7} {bs:D7},(∀x∈as,Span bs x)->∀z,Span as z->Span bs z:=λ{as bs} h z hz=>by
 obtain⟨p,_,e⟩:=fI hz;rw[<-e];exact ue as h p
theorem Eb {ps:A'} {d:Nat} (hd:d < 2 ^ ps.length) {S:D7} (h:∀k,k < ps.length->Span S (zs ps d k)) (t:Nat):Span S (zs ps d t):=by
 obtain⟨p,I,F⟩:=qi (Ga (n:=ps.length) hd) (by rw[xu];omega);refine kG (λx G=>?_) _ (BS F t);obtain⟨k,hk,e⟩:=Ht.mp G;rw[Ho] at hk;have Z:k < p:=by omega
 rw[Kq] at e;have:=u0 (ps:=ps) (d:=d) (n:=ps.length) (k:=k) @A;rw[cP (by rw[xu];omega)] at this;rw[<-e,iv this];exact h k @A
theorem FZ {A:D7} {s n:Nat} (hA:∀x∈A,x < 2 ^ n) (hs:s < 2 ^ n) {S:D7} (h:∀k,k < n->Span S (bkI A s k)) (t:Nat):Span S (bkI A s t):=by
 obtain⟨p,I,F⟩:=qi (G4 (n:=n) hA hs) (by rw[zv];omega);refine kG (λx G=>?_) _ (DQ F t);obtain⟨k,hk,e⟩:=Ht.mp G;rw[Ho] at hk;have Z:k < p:=by omega
 rw[Kq] at e;have:=vN (A:=A) (s:=s) (n:=n) (k:=k) @A;rw[cP (by rw[zv];omega)] at this;rw[<-e,iv this];exact h k @A
theorem Bm (ps:A') (m w:Nat) (hw:w < m):∀j,(stj ps (sg0 ps m) j)[w]? =aT (zs ps (tr2 ps 0 (2 ^ w)) j)
 | 0=>by
   show(sg0 ps m)[w]? =_;unfold sg0;rw[fk,HZ hw];rfl
 | j + 1=>by
   show((stj ps (sg0 ps m) j).map λx=>tr2 ps x 0)[w]? =_;rw[fk,Bm ps m w hw j];rfl
theorem Ep (ps:A') (m j:Nat) {x:Nat} (h:x∈stj ps (sg0 ps m) j):∃w,w < m/\x=zs ps (tr2 ps 0 (2 ^ w)) j:=by
 obtain⟨w,hw,e⟩:=Ht.mp h;have hm:w < m:=by rw[stj_len,sg0_len] at hw;exact hw
 have:=Bm ps m w hm j;rw[cP hw,e] at this;exact⟨w,hm,iv this⟩
theorem Bu (ps:A') (m:Nat):∀{T x:Nat},x∈rch ps m T->∃w j,w < m/\j < T/\x=zs ps (tr2 ps 0 (2 ^ w)) j
 | 0,x,h=>hE h (by unfold rch;simp)
 | T + 1,x,h=>by
   unfold rch at h;rcases lx.mp h with h | h
   ·obtain⟨w,hw,e⟩:=Ep ps m T h;exact⟨w,T,hw,@A,e⟩
   ·obtain⟨w,j,hw,G,e⟩:=Bu ps m h;exact⟨w,j,hw,@A,e⟩
theorem yb {ps:A'} {m w:Nat} (hw:w < m) (t:Nat):Span (rch ps m ps.length) (zs ps (tr2 ps 0 (2 ^ w)) t):=
 Eb (tr2_lt ps 0 (2 ^ w)) (λk hk=>jz (ya ps m (xI ps m w hw k) hk)) t
theorem qH {ps:A'} {m x r:Nat} (hx:Span (rch ps m ps.length) x) (I:r < 2 ^ m):Span (rch ps m ps.length) (tr2 ps x r):=by
 have e:=qx ps x 0 0 r;rw[IJ,JO] at e;rw[e];refine span_xor ?_ ?_
 ·obtain⟨F,_,J⟩:=fI hx;rw[<-J,vf];refine ue _ (λy G=>?_) F;obtain⟨z,hz,rfl⟩:=qE.mp G;obtain⟨w,j,hw,L,rfl⟩:=Bu ps m hz;exact yb hw (j + 1)
 ·rw[qw ps r m I];refine ue _ (λy G=>?_) r;unfold sg0 at G;obtain⟨w,hw,rfl⟩:=qE.mp G;exact yb (Iq.mp hw) 0
noncomputable def lk1 (A os:D7) (t:Nat):D7:=os.map λs=>bkI A s t
noncomputable def lkm (A os:D7):Nat->D7
 | 0=>[]
 | T + 1=>lkm A os T++lk1 A os T
theorem lk1_len (A os:D7) (t:Nat):(lk1 A os t).length=os.length:=by unfold lk1;rw[cY]
theorem lkm_len (A os:D7):∀T,(lkm A os T).length=T * os.length
 | 0=>by unfold lkm;simp
 | T + 1=>by unfold lkm;rw[eZ,lk1_len,lkm_len A os T,LG]
theorem yD {A os:D7} {s t:Nat} (hs:s∈os):∀{T},t < T->bkI A s t∈lkm A os T
 | 0,h=>hE h (Jp t)
 | T + 1,h=>by
   unfold lkm;by_cases e:t=T
   ·rw[e];exact hH _ (qE.mpr ⟨s,hs,rfl⟩)
   ·exact n' _ (yD hs @A)
theorem lkm_of {A os:D7}:∀{T x:Nat},x∈lkm A os T->∃s t,s∈os/\t < T/\x=bkI A s t
 | 0,x,h=>hE h (by unfold lkm;simp)
 | T + 1,x,h=>by
   unfold lkm at h;rcases lx.mp h with h | h
   ·obtain⟨s,t,hs,ht,e⟩:=lkm_of h;exact⟨s,t,hs,@A,e⟩
   ·obtain⟨s,hs,e⟩:=qE.mp h;exact⟨s,T,hs,@A,e.symm⟩
theorem yE {A os:D7} {o s:Nat} (ho:os[o]? =aT s):∀{T t:Nat},t < T->(lkm A os T)[t * os.length + o]? =aT (bkI A s t)
 | 0,t,h=>hE h (Jp t)
 | T + 1,t,h=>by
   have G:=(b'.mp ho).1;unfold lkm;by_cases e:t=T
   ·rw[e,lB (by rw[lkm_len];omega),lkm_len,Nat.add_sub_cancel_left];unfold lk1;rw[fk,ho];rfl
   ·have hm:t * os.length + os.length<=T * os.length:=by
     have:=Lb os.length (show t + 1<=T by omega);rw[LG] at this;exact this
    rw[kA (by rw[lkm_len];omega)];exact yE ho @A
theorem bkI_succ (A:D7) (s t:Nat):sm A (bkI A s t)=bkI A s (t + 1):=by
 induction t generalizing s with
 | zero=>rfl
 | succ t ih=>first | rfl | (rw[<-zw,ih];rfl)
theorem uD {A os:D7} {n s:Nat} (hA:∀x∈A,x < 2 ^ n) (ho:∀s∈os,s < 2 ^ n) (hs:s∈os) (t:Nat):Span (lkm A os n) (bkI A s t):=
 FZ hA (ho s hs) (λk hk=>jz (yD hs hk)) t
theorem AF {A os:D7} {n x:Nat} (hA:∀x∈A,x < 2 ^ n) (ho:∀s∈os,s < 2 ^ n) (hx:x∈lkm A os n):Span (lkm A os n) (sm A x):=by
 obtain⟨s,t,hs,ht,rfl⟩:=lkm_of hx;rw[bkI_succ];exact uD hA ho hs (t + 1)
section
variable (ps os:A') (m:Nat)
noncomputable def msk:D7:=lkm (ps.map (·.1)) (os.map (·.1)) ps.length
noncomputable def ldp:D7:=fr ((rch ps m ps.length).map (ow · (msk ps os)))
noncomputable def lst_:D7:=(ldp ps os m).map λi=>(rch ps m ps.length).getD i 0
noncomputable def lkp:D7:=fr ((msk ps os).map (ow · (lst_ ps os m)))
noncomputable def lkL:D7:=(lkp ps os m).map λi=>(msk ps os).getD i 0
noncomputable def sen:D7:=(lkL ps os m).map (ow · (lst_ ps os m))
end
theorem FM (X:D7) (f:Nat->Nat):fR (X.map f)=((fr (X.map f)).map λi=>X.getD i 0).map f:=by
 unfold fR;rw[Iv];refine J5 λi hi=>?_;have h:=fr_lt i hi;rw[cY] at h;show(X.map f).getD i 0=f (X.getD i 0);rw[bx,fk,cP h,bx,cP h];rfl
theorem getD_mem {X:D7} {i:Nat} (h:i < X.length):X.getD i 0∈X:=by
 rw[bx,cP h];exact Jr h
section
variable {ps os:A'} {m:Nat}
theorem BH:fR ((rch ps m ps.length).map (ow · (msk ps os)))=(lst_ ps os m).map (ow · (msk ps os)):=FM _ _
theorem BF:fR ((msk ps os).map (ow · (lst_ ps os m)))=sen ps os m:=FM _ _
theorem Cr:Inj (sen ps os m):=by rw[<-BF];exact y8 _
theorem ldp_lt:∀i∈ldp ps os m,i < (rch ps m ps.length).length:=λi hi=>by have:=fr_lt i hi;rwa [cY] at this
theorem lkp_lt:∀i∈lkp ps os m,i < (msk ps os).length:=λi hi=>by have:=fr_lt i hi;rwa [cY] at this
theorem BB:∀x∈lkL ps os m,x∈msk ps os:=λx G=>by
 obtain⟨i,hi,rfl⟩:=qE.mp G;exact getD_mem (lkp_lt i hi)
theorem lst_in:∀x∈lst_ ps os m,x∈rch ps m ps.length:=λx G=>by
 obtain⟨i,hi,rfl⟩:=qE.mp G;exact getD_mem (ldp_lt i hi)
theorem g8:(lkL ps os m).length=(lkp ps os m).length:=cY ..
theorem sen_len:(sen ps os m).length=(lkp ps os m).length:=by unfold sen;rw[cY,g8]
theorem lst_len:(lst_ ps os m).length=(ldp ps os m).length:=cY ..
theorem vY {x:Nat} (h:Span (rch ps m ps.length) x):∃y,Span (lst_ ps os m) y/\ow x (msk ps os)=ow y (msk ps os):=by
 obtain⟨F,_,e⟩:=fI h;have hs:Span ((rch ps m ps.length).map (ow · (msk ps os))) (ow x (msk ps os)):=by rw[<-e,qN];exact sm_span _ _
 rw[<-rp,BH] at hs;obtain⟨P,_,G⟩:=fI hs;exact⟨sm (lst_ ps os m) P,sm_span _ _,by rw[qN,G]⟩
theorem wQ {d x:Nat} (hd:Span (msk ps os) d) (h:∀s∈lst_ ps os m,od (d&&&s)=false) (hx:Span (rch ps m ps.length) x):od (d&&&x)=false:=by
 obtain⟨y,I,e⟩:=vY (os:=os) hx;have h1:=k7 _ h y I;have h2:ow (x^^^y) (msk ps os)=0:=by rw[vw,e,Jm]
 have G:=k7 _ (h9.mp h2) d hd;rw[IM,iO,d3,h1,IQ] at G;exact G
theorem span_sen {d:Nat} (hd:Span (msk ps os) d):Span (sen ps os m) (ow d (lst_ ps os m)):=by
 obtain⟨F,_,e⟩:=fI hd;rw[<-BF,rp,<-e,qN];exact sm_span _ _
theorem Bq (p:Nat):sm (sen ps os m) p=ow (sm (lkL ps os m) p) (lst_ ps os m):=by unfold sen;rw[qN]
theorem dG {d x p:Nat} (J:(lkL ps os m).length<=1000) (hd:Span (msk ps os) d) (I:sm (sen ps os m) p=ow d (lst_ ps os m)) (hx:Span (rch ps m ps.length) x):od (p&&&ow x (lkL ps os m))=od (d&&&x):=by
 rw[GQ p x _ J];have hs:Span (msk ps os) (sm (lkL ps os m) p^^^d):=span_xor (ue _ (λy G=>jz (BB y G)) p) hd;have L:ow (sm (lkL ps os m) p^^^d) (lst_ ps os m)=0:=by rw[vw,<-Bq,I,Jm]
 have:=wQ hs (h9.mp L) hx;rw[nh,d3] at this;revert this;cases od (sm (lkL ps os m) p&&&x)<;>cases od (d&&&x)<;>simp
theorem qF:Inj ((lst_ ps os m).map (ow · (lkL ps os m))):=by
 intro F J e;rw[cY] at J;rw[<-qN] at e;have Y:=h9.mp e
 have G:ow (sm (lst_ ps os m) F) (msk ps os)=0:=by
  rw[h9];intro mk I;have hs:=span_sen (m:=m) (jz I);obtain⟨P,_,L⟩:=fI hs;rw[Bq] at L;have Z:ow (sm (lkL ps os m) P^^^mk) (lst_ ps os m)=0:=by rw[vw,L,Jm]
  have h1:=k7 _ (h9.mp Z) _ (sm_span (lst_ ps os m) F);have h2:=k7 _ Y _ (sm_span (lkL ps os m) P);rw[nh,d3,IM _ (sm (lst_ ps os m) F),h2,Ku] at h1;rw[IM];exact h1
 have hI:=y8 ((rch ps m ps.length).map (ow · (msk ps os)));rw[BH] at hI;exact hI F (by rw[cY];exact J) (by rw[<-qN];exact G)
theorem yz:(lkp ps os m).length=(ldp ps os m).length:=by
 have h1:=oB (Cr (ps:=ps) (os:=os) (m:=m)) (t:=(lst_ ps os m).length) (λx G=>by
  obtain⟨y,_,rfl⟩:=qE.mp G;exact ow_lt _ _)
 have h2:=oB (qF (ps:=ps) (os:=os) (m:=m)) (t:=(lkL ps os m).length) (λx G=>by
  obtain⟨y,_,rfl⟩:=qE.mp G;exact ow_lt _ _)
 rw[sen_len,lst_len] at h1;rw[cY,lst_len,g8] at h2;omega
theorem many_le:(lkp ps os m).length<=ps.length:=by
 have h:=oB (ws:=lst_ ps os m) (t:=ps.length) (λF I e=>?_) (λx G=>rch_lt ps m _ x (lst_in x G))
 ·rw[yz,<-lst_len];exact h
 ·refine qF (ps:=ps) (os:=os) (m:=m) F (by rw[cY];exact I) ?_;rw[<-qN,e,qM]
structure Lsr (ps os:A') (m:Nat) (nx' os':A'):Prop where
 ln:nx'.length=(lkp ps os m).length
 lo:os'.length=os.length
 n1:∀(j:Nat) (q:Nat×Nat),nx'[j]? =aT q->q.1 < 2 ^ (lkp ps os m).length/\sm (sen ps os m) q.1=ow (sm (ps.map (·.1)) ((lkL ps os m).getD j 0)) (lst_ ps os m)/\q.2=sm (ps.map (·.2)) ((lkL ps os m).getD j 0)
 o1:∀(j:Nat) (q:Nat×Nat),os'[j]? =aT q->q.1 < 2 ^ (lkp ps os m).length/\sm (sen ps os m) q.1=ow (os.getD j (0,0)).1 (lst_ ps os m)/\q.2=(os.getD j (0,0)).2
structure Fit (ps os:A') (m:Nat):Prop where
 ln:ps.length<=120
 bn:∀q∈ps++os,q.1 < 2 ^ ps.length
theorem Fit.A (f:Fit ps os m):∀x∈ps.map (·.1),x < 2 ^ ps.length:=λx G=>by
 obtain⟨q,I,rfl⟩:=qE.mp G;exact f.bn q (n' _ I)
theorem Fit.O (f:Fit ps os m):∀x∈os.map (·.1),x < 2 ^ ps.length:=λx G=>by
 obtain⟨q,I,rfl⟩:=qE.mp G;exact f.bn q (hH _ I)
theorem Fit.back (f:Fit ps os m) {x:Nat} (h:x∈msk ps os):Span (msk ps os) (sm (ps.map (·.1)) x):=AF f.A f.O h
theorem Fit.out (f:Fit ps os m) {x:Nat} (h:x∈os.map (·.1)):Span (msk ps os) x:=uD f.A f.O h 0
theorem getD_at' {α:Type} {X:ef α} {i:Nat} {d:α} (h:i < X.length):X[i]? =aT (X.getD i d):=by
 rw[bx,cP h];rfl
theorem Lsr.next {G os':A'} (a:Lsr ps os m G os') (f:Fit ps os m) {x r:Nat} (hx:Span (rch ps m ps.length) x):tr2 G (ow x (lkL ps os m)) r=ow (tr2 ps x r) (lkL ps os m):=hJ λj=>by
 have hn:=many_le (ps:=ps) (os:=os) (m:=m);have α:=f.ln;rw[cW,ow_bit,a.ln,g8];by_cases I:j < (lkp ps os m).length
 ·rw[gB I,Hj,Hj];have J:=a.n1 j _ (getD_at' (d:=(0,0)) (by rw[a.ln];exact I));have hm:(lkL ps os m).getD j 0∈msk ps os:=BB _ (getD_mem (by rw[g8];exact I));rw[dG (by rw[g8];omega) (f.back hm) J.2.1 hx,J.2.2,IM (tr2 ps x r),yt _ _ _ _ @A]
 ·rw[eP I,oT,oT]
theorem Lsr.says {I os':A'} (a:Lsr ps os m I os') (f:Fit ps os m) {x r:Nat} (hx:Span (rch ps m ps.length) x):tr2 os' (ow x (lkL ps os m)) r=tr2 os x r:=hJ λj=>by
 have hn:=many_le (ps:=ps) (os:=os) (m:=m);have α:=f.ln;rw[cW,cW,a.lo];by_cases G:j < os.length
 ·rw[gB G,Hj,Hj];have J:=a.o1 j _ (getD_at' (d:=(0,0)) (by rw[a.lo];exact G));have hm:(os.getD j (0,0)).1∈os.map (·.1):=qE.mpr ⟨_,eO (getD_at' G),rfl⟩;rw[dG (by rw[g8];omega) (f.out hm) J.2.1 hx,J.2.2]
 ·rw[eP G,oT,oT]
theorem Lsr.walk {G os':A'} (a:Lsr ps os m G os') (f:Fit ps os m):∀(rs:D7) (x:Nat),(∀r∈rs,r < 2 ^ m)->Span (rch ps m ps.length) x->wan G os' (ow x (lkL ps os m)) rs=wan ps os x rs
 | [],x,_,_=>rfl
 | r::rs,x,h,hx=>by
   show tr2 os' _ r::wan G os' (tr2 G _ r) rs=tr2 os x r::wan ps os (tr2 ps x r) rs;rw[a.says f hx,a.next f hx,a.walk f rs _ (λy I=>h y (p' _ I)) (qH hx (h r Ha))]
theorem Lsr.alike {G os':A'} (a:Lsr ps os m G os') (f:Fit ps os m) {rs:D7} (h:∀r∈rs,r < 2 ^ m):wan G os' 0 rs=wan ps os 0 rs:=by
 have:=a.walk f rs 0 h (span_zero _);rwa [qM] at this
theorem C7 {x i t o:Nat} (G:ps.length<=1000) (ho:o < os.length) (ht:t < ps.length) (hi:i=t * os.length + o):od (x&&&(msk ps os).getD i 0)=(tr2 os (zs ps x t) 0).testBit o:=by
 have I:(os.map (·.1))[o]? =aT (os.getD o (0,0)).1:=by rw[fk,getD_at' (d:=(0,0)) ho];rfl
 have:=yE (A:=ps.map (·.1)) I ht;rw[cY] at this;unfold msk;rw[hi,bx,this,MP,cW,gB ho,Hj,Jy,od_zero,IQ,C5 ps G,IM]
end
noncomputable def jn (p1 p2:A'):A':=p1++p2.map λq=>(q.1 <<< p1.length,q.2)
theorem jn_len (p1 p2:A'):(jn p1 p2).length=p1.length + p2.length:=by unfold jn;rw[eZ,cY]
noncomputable def lo (n x:Nat):Nat:=x&&&(2 ^ n - 1)
theorem Fx (n x k:Nat):(lo n x).testBit k=(decide (k < n)&&x.testBit k):=by
 unfold lo;rw[HY,Mb,Bool.and_comm]
theorem lo_lt (n x:Nat):lo n x < 2 ^ n:=by
 unfold lo;rw[K5];exact Nz _ (lz n)
theorem spl (n x:Nat):lo n x^^^((x>>>n) <<< n)=x:=hJ λk=>by
 rw[vl,Fx,Ii,Ju];by_cases h:k < n
 ·rw[gB h,eP @A];simp
 ·rw[eP h,gB (by omega:k≥n),show n + (k - n)=k by omega];simp
theorem hi_lt {n m x:Nat} (h:x < 2 ^ (n + m)):x>>>n < 2 ^ m:=by
 rw[zt,M' (lz n),Lf,<-Me];exact h
structure Jo (p1 p2:A'):Prop where
 a1:∀q∈p1,q.1 < 2 ^ p1.length
 a2:∀q∈p2,q.1 < 2 ^ p2.length
 l:p1.length + p2.length<=500
theorem Jo.tr {p1 p2:A'} (j:Jo p1 p2) {a b r:Nat} (ha:a < 2 ^ p1.length) (hb:b < 2 ^ p2.length):tr2 (jn p1 p2) (a^^^(b <<< p1.length)) r=tr2 p1 a r^^^(tr2 p2 b r <<< p1.length):=hJ λk=>by
 have J:=j.l;rw[cW,jn_len,vl,Ii,cW,cW];by_cases h1:k < p1.length
 ·have e:(jn p1 p2).getD k (0,0)=p1.getD k (0,0):=by
   unfold jn;rw[bx,bx,kA h1]
  have hm:p1.getD k (0,0)∈p1:=by
   rw[bx,cP h1];exact Jr h1
  have I:=j.a1 _ hm
  have ea:(p1.getD k (0,0)).1&&&(a^^^(b <<< p1.length))=(p1.getD k (0,0)).1&&&a:=by
   have:=tJ (p:=(p1.getD k (0,0)).1) (r:=a) (P:=0) (R:=b) I ha;rw[Nr,IJ,Jl,Nr,IJ] at this;exact this
  rw[e,ea,gB h1,gB (show k < p1.length + p2.length by omega),eP (show ¬k≥p1.length by omega)];simp
 ·by_cases h2:k < p1.length + p2.length
  ·have G:k - p1.length < p2.length:=by omega
   have e:(jn p1 p2).getD k (0,0)=((p2.getD (k - p1.length) (0,0)).1 <<< p1.length,(p2.getD (k - p1.length) (0,0)).2):=by
    unfold jn;rw[bx,lB @A,fk,bx,cP G];rfl
   have hm:p2.getD (k - p1.length) (0,0)∈p2:=by
    rw[bx,cP G];exact Jr G
   have I:=j.a2 _ hm
   have ea:od (((p2.getD (k - p1.length) (0,0)).1 <<< p1.length)&&&(a^^^(b <<< p1.length)))=od ((p2.getD (k - p1.length) (0,0)).1&&&b):=by
    have:=tJ (p:=0) (r:=a) (P:=(p2.getD (k - p1.length) (0,0)).1) (R:=b) (lz _) ha;rw[JO,Jl,JO] at this;rw[this];refine Fq (Hf Js (eu I (hD @C @A))) @A
   rw[e];show(decide (k < p1.length + p2.length)&&(od (((p2.getD (k - p1.length) (0,0)).1 <<< p1.length)&&&(a^^^(b <<< p1.length)))^^od ((p2.getD (k - p1.length) (0,0)).2&&&r)))=_;rw[ea,gB h2,eP h1,gB (show k≥p1.length by omega),gB G];simp
  ·rw[eP h2,eP h1,eP (show ¬k - p1.length < p2.length by omega)];simp
section
variable {p1 p2 o1 o2:A'} {m:Nat}
theorem Jo.tr' (j:Jo p1 p2) {x r:Nat} (hx:x < 2 ^ (p1.length + p2.length)):tr2 (jn p1 p2) x r=tr2 p1 (lo p1.length x) r^^^(tr2 p2 (x>>>p1.length) r <<< p1.length):=by
 have:=j.tr (r:=r) (lo_lt p1.length x) (hi_lt hx);rwa [spl] at this
noncomputable def sgl (p o:A') (w:Nat):Nat->Nat
 | 0=>tr2 o 0 (2 ^ w)
 | t + 1=>tr2 o (zs p (tr2 p 0 (2 ^ w)) t) 0
theorem rS (p o:A'):∀(T x t:Nat),t < T->(wan p o x (lA T 0)).getD t 0=tr2 o (zs p x t) 0
 | 0,_,_,h=>hE h @A
 | T + 1,x,t,h=>by
   rw[J4];show(tr2 o x 0::wan p o (tr2 p x 0) (lA T 0)).getD t 0=_
   match t with
   | 0=>rfl
   | t + 1=>
     show(wan p o (tr2 p x 0) (lA T 0)).getD t 0=_;rw[rS p o T _ t @A,BU]
theorem tU (p o:A') (w T:Nat):∀t,t<=T->(wan p o 0 (2 ^ w::lA T 0)).getD t 0=sgl p o w t
 | 0,_=>rfl
 | t + 1,h=>by
   show(wan p o (tr2 p 0 (2 ^ w)) (lA T 0)).getD t 0=_;rw[rS p o T _ t @A];rfl
theorem pulse_sgl (p o:A') (w:Nat) {T t:Nat} (h:t < T):(wan p o 0 (pulse w T)).getD t 0=sgl p o w t:=by
 rw[<-pulse_eq,vc,bx,Lp,pe h,<-bx,tU p o w T t @A]
def Al (p1 o1 p2 o2:A') (m T:Nat):Prop:=∀t,t < T->∀w,w < m->sgl p1 o1 w t=sgl p2 o2 w t
end
noncomputable def rcf (ps:A') (m:Nat):Nat->D7
 | 0=>[]
 | T + 1=>rcf ps m T++stj ps (sg0 ps m) T
theorem rcf_len (ps:A') (m:Nat):∀T,(rcf ps m T).length=T * m
 | 0=>by show 0=0 * m;omega
 | T + 1=>by
   show(rcf ps m T++stj ps (sg0 ps m) T).length=_;rw[eZ,rcf_len ps m T,stj_len,sg0_len,LG]
theorem uk (ps:A') (m:Nat) (x:Nat):∀T,x∈rcf ps m T↔x∈rch ps m T
 | 0=>NA
 | T + 1=>by
   show x∈rcf ps m T++stj ps (sg0 ps m) T↔x∈stj ps (sg0 ps m) T++rch ps m T;rw[lx,lx,uk ps m x T,or_comm]
theorem mem_span:∀{L:D7} {x:Nat},x∈L->Span L x:=λ{L x} h=>by
 obtain⟨i,hi⟩:=JM.mp h;have:=sm_span L (2 ^ i);rwa [jA,bx,hi] at this
theorem Ak (ps:A') (m T x:Nat):Span (rcf ps m T) x↔Span (rch ps m T) x:=
 ⟨kG (λy G=>mem_span ((uk ps m y T).mp G)) x,kG (λy G=>mem_span ((uk ps m y T).mpr G)) x⟩
noncomputable def prs2 (p1 p2:A') (m:Nat):D7:=fR (rcf (jn p1 p2) m (p1.length + p2.length))
theorem r9 (p1 p2:A') (m x:Nat):Span (prs2 p1 p2 m) x↔Span (rch (jn p1 p2) m (p1.length + p2.length)) x:=by
 unfold prs2;rw[rp,Ak]
theorem prs2_next {p1 p2:A'} {m x r:Nat} (hx:Span (prs2 p1 p2 m) x) (G:r < 2 ^ m):Span (prs2 p1 p2 m) (tr2 (jn p1 p2) x r):=by
 rw[r9] at hx ⊢;have:=qH (ps:=jn p1 p2) (m:=m) (x:=x) (r:=r) (by rw[jn_len];exact hx) G;rwa [jn_len] at this
theorem prs2_lt {p1 p2:A'} {m x:Nat} (hx:x∈prs2 p1 p2 m):x < 2 ^ (p1.length + p2.length):=by
 have h:=(r9 p1 p2 m x).mp (mem_span hx);rw[<-jn_len];exact span_lt (rch_lt _ _ _) h
theorem prs2_few (p1 p2:A') (m:Nat):(prs2 p1 p2 m).length<=p1.length + p2.length:=oB (y8 _) λx G=>prs2_lt G
end M
namespace Sx
open PySem L2
theorem CW {x:Nat} {L:D7} {i v:Nat} (h:L[i]? =aT v):M.ow x (L.take (i + 1))=M.ow x (L.take i)^^^(if M.od (x&&&v)=true then 2 ^ i else 0):=by
 have hi:=(b'.mp h).1;have G:(L.take i).length=i:=by rw[Ho];omega
 rw[take_succ h];refine hJ λk=>?_;rw[vl,M.ow_bit,M.ow_bit,eZ,Hu,G];by_cases hk:k < i
 ·rw[bx,bx,kA (by rw[G];exact hk),gB hk,gB (show k < i + 1 by omega)]
  have:(if M.od (x&&&v)=true then 2 ^ i else 0).testBit k=false:=by
   split
   ·rw[nq];exact eP @A
   ·exact z' k
  rw[this,IQ]
 ·by_cases I:k=i
  ·subst I;rw[eP hk,gB (Il _),oT,Ku,Hj];rw[bx,lB @A,G,JH];show M.od (x&&&v)=_;by_cases hw:M.od (x&&&v)=true
   ·rw[pe hw,Hx,hw]
   ·rw[nk hw,z'];simpa using hw
  ·rw[eP hk,eP (show ¬k < i + 1 by omega),oT,oT,Ku];split
   ·rw[nq];exact(eP @A).symm
   ·exact(z' k).symm
theorem Fd {w k:Nat} (h:k < w):M.pl w (2 ^ k)=[k]:=by
 induction w with
 | zero=>omega
 | succ w ih=>
   rw[M.pl_next];by_cases hk:k=w
   ·subst hk;rw[Hx,pe rfl]
    have:M.pl k (2 ^ k)=[]:=by
     unfold M.pl;refine ML.mpr λx G=>?_;have:=Iq.mp G;simp[nq];omega
    rw[this];rfl
   ·rw[ih @A,nq,eP hk];rfl
def z7 (C:ee):Sp:=λvs H Q _=>∃(p:ee) (m:Nat) (nx os:ef Pr3),vs=[.ref p]/\MaA H C p m nx os/\MaG m nx os/\nx.length<=60/\∀(D:ee) (H2:Hp),H D=eH->Same H H2->H2 D=aT (.lst ((M.msk (prs nx) (prs os)).map nat))->Q (.ref D) H2
def Ca:Sp:=λvs H Q _=>∃(r x:Nat) (L:D7),vs=[nat x,.ref r]/\H r=aT (.lst (L.map nat))/\L.length<=1000/\x < 2 ^ 1000/\∀H2,Same H H2->Q (nat (M.ow x L)) H2
def Er:Sp:=λvs H Q _=>∃(t J I:ee) (a b:Nat) (S Z:D7),vs=[.ref t,.ref J,.ref I]/\H t=aT (.tup [nat a,nat b])/\H J=aT (.lst (S.map nat))/\H I=aT (.lst (Z.map nat))/\S.length<=1000/\Z.length<=1000/\(∀z∈Z,z < 2 ^ 1000)/\a < 2 ^ 1000/\M.Span Z (M.ow a S)/\∀(G:ee) (H2:Hp) (q:Nat),H G=eH->Same H H2->H2 G=aT (.tup [nat q,nat b])->Sumd Z (M.ow a S) q->Q (.ref G) H2
def Cp (G:ef Pr3->Prop) (H1:Hp) (D:ee) (i:Nat) (ys:ef V) (H:Hp):Prop:=∃J:ef Pr3,ys=refs J/\J.length=i/\G J/\Prt H J/\Same H1 H/\H D=aT (.lst ys)
theorem vI {Z:ef Pr3->Prop} {H1 H G:Hp} {D t:ee} {i x y:Nat} {J:ef Pr3} (ι:H1 D=eH) (L:J.length=i) (pt:Prt H J) (s:Same H1 H) (β:H D=aT (.lst (refs J))) (I:Same H G) (γ:G t=aT (.tup [nat x,nat y])) (hi:i < 1000) (pv:Z (J++[(t,x,y)])):G D=aT (.lst (refs J))/\(refs J).length < i'/\Cp Z H1 D (i + 1) (refs J++[.ref t]) (upd G D (.lst (refs J++[.ref t]))):=by
 refine⟨I.get β,by rw[aR,L];exact dU @A,J++[(t,x,y)],by unfold refs;rw[hu];rfl,by rw[eZ,L];rfl,pv,λq α=>?_,λb δ e=>?_,aJ⟩
 ·have Y:G q.1=aT (.tup [nat q.2.1,nat q.2.2]):=by
   rcases lx.mp α with h | h
   ·exact I.get (pt q h)
   ·rw[fy.mp h];exact γ
  have n:q.1≠D:=λz=>by rw[z,I.get β] at Y;cases Y
  rw[aC n];exact Y
 ·rw[aC (au e ι)];exact I.get (s.get e)
def Co (G:Nat->HO) (H1:Hp) (D:ee) (i:Nat) (ys:ef V) (H:Hp):Prop:=∃ds:HJ,ys=ds.map V.ref/\ds.length=i/\(∀(j:Nat) (d:ee),ds[j]? =aT d->H d=aT (G j))/\(∀d∈ds,H1 d=eH/\d≠D)/\Same H1 H/\H D=aT (.lst ys)
theorem kB {G:Nat->HO} {H1:Hp} {D:ee} (ι:H1 D=eH):Co G H1 D 0 [] (upd H1 D (.lst [])):=⟨[],rfl,rfl,λj d h=>(by simp at h),λ_ h=>(by cases h),fh ι,aJ⟩
theorem rD {G:ef Pr3->Prop} {H1:Hp} {D:ee} (ι:H1 D=eH) (h:G []):Cp G H1 D 0 [] (upd H1 D (.lst [])):=⟨[],rfl,rfl,h,λ_ h=>(by cases h),fh ι,aJ⟩
theorem oU {J:Nat->HO} {H1 H G:Hp} {D t:ee} {i:Nat} {ys:ef V} (ι:H1 D=eH) (c:Co J H1 D i ys H) (I:Same H G) (ft:H t=eH) (Z:G t=aT (J i)) (hi:i < 1000):G D=aT (.lst ys)/\ys.length < i'/\Co J H1 D (i + 1) (ys++[.ref t]) (upd G D (.lst (ys++[.ref t]))):=by
 obtain⟨ds,rfl,ld,ha,hf,s,β⟩:=c;have Y:t≠D:=λz=>by rw[z,β] at ft;cases ft
 refine⟨I.get β,by rw[cY,ld];exact dU @A,ds++[t],by rw[hu];rfl,by rw[eZ,ld];rfl,λj d h=>?_,λd hd=>?_,λb o e=>?_,aJ⟩
 ·by_cases L:j < ds.length
  ·rw[kA L] at h;rw[aC (hf d (eO h)).2];exact I.get (ha j d h)
  ·rw[lB @A] at h
   have hz:j - ds.length=0:=by
    cases e:j - ds.length with
    | zero=>rfl
    | succ m=>rw[e] at h;simp at h
   rw[hz] at h;have h:d=t:=(iv h).symm;have L:j=i:=by omega
   rw[h,aC Y,L];exact Z
 ·rcases lx.mp hd with h | h
  ·exact hf d h
  ·rw[fy.mp h];exact⟨s.free ft,Y⟩
 ·rw[aC (au e ι)];exact I.get (s.get e)
structure Lrl (H:Hp) (Dr Dl:ee) (ds es:HJ) (m:Nat) (nx os:ef Pr3):Prop where
 r:H Dr=aT (.lst (ds.map V.ref))
 l:H Dl=aT (.lst (es.map V.ref))
 dl:ds.length=(M.ldp (prs nx) (prs os) m).length
 el:es.length=(M.lkp (prs nx) (prs os) m).length
 da:∀(j:Nat) (d k:Nat),ds[j]? =aT d->(M.ldp (prs nx) (prs os) m)[j]? =aT k->H d=aT (.lst ((M.upk m (2 ^ k) nx.length).map nat))
 ea:∀(j:Nat) (e k:Nat),es[j]? =aT e->(M.lkp (prs nx) (prs os) m)[j]? =aT k->H e=aT (.tup [nat (k / os.length),nat (k % os.length)])
def z9 (C:ee):Sp:=λvs H Q _=>∃(p:ee) (m:Nat) (nx os:ef Pr3),vs=[.ref p]/\MaA H C p m nx os/\MaG m nx os/\nx.length<=60/\∀(t x J χ:ee) (ds es:HJ) (H2:Hp) (I G:ef Pr3),Same H H2->H2 t=aT (.tup [.ref x,.ref J,.ref χ])->MaA H2 C x m I G->MaG m I G->M.Lsr (prs nx) (prs os) m (prs I) (prs G)->Lrl H2 J χ ds es m nx os->H J=eH->H χ=eH->J≠χ->(∀d∈ds,H d=eH/\d≠J/\d≠χ)->Q (.ref t) H2
noncomputable def less (H:Hp) (R:ee->Prop):Hp:=λb=>@ite _ (R b) (Ja _) eH (H b)
structure TwoA (H:Hp) (C p1 p2:ee) (m:Nat) (nx1 os1 nx2 os2:ef Pr3):Prop where
 a1:MaA H C p1 m nx1 os1
 g1:MaG m nx1 os1
 a2:MaA H C p2 m nx2 os2
 g2:MaG m nx2 os2
 lo:os1.length=os2.length
 l:nx1.length + nx2.length<=60
theorem TwoA.same {H H2:Hp} {C p1 p2:ee} {m:Nat} {L I J G:ef Pr3} (x:TwoA H C p1 p2 m L I J G) (s:Same H H2):TwoA H2 C p1 p2 m L I J G:=⟨x.a1.same s,x.g1,x.a2.same s,x.g2,x.lo,x.l⟩
theorem TwoA.jo {H:Hp} {C p1 p2:ee} {m:Nat} {I L G J:ef Pr3} (x:TwoA H C p1 p2 m I L G J):M.Jo (prs I) (prs G) where
 a1:=λq Z=>by
  obtain⟨r,Y,rfl⟩:=qE.mp Z;rw[av];exact(x.g1.bn r (n' _ Y)).1
 a2:=λq Z=>by
  obtain⟨r,Y,rfl⟩:=qE.mp Z;rw[av];exact(x.g2.bn r (n' _ Y)).1
 l:=by rw[av,av];have:=x.l;omega
noncomputable abbrev jnp (I G:ef Pr3):A':=M.jn (prs I) (prs G)
theorem yR (I G:ef Pr3):(jnp I G).length=I.length + G.length:=by rw[M.jn_len,av,av]
def zX (C:ee):Sp:=λvs H Q _=>∃(p1 p2:ee) (m:Nat) (I L G J:ef Pr3) (x r:Nat),vs=[.ref p1,.ref p2,nat x,nat r]/\TwoA H C p1 p2 m I L G J/\x < 2 ^ (I.length + G.length)/\r < 2 ^ m/\∀H2,Same H H2->Q (nat (M.tr2 (jnp I G) x r)) H2
structure Fun2 (p1 o1 p2 o2:A') (m w t:Nat):Prop where
 hw:w < m
 ht:t<=p1.length + p2.length
 al:M.Al p1 o1 p2 o2 m t
 al':∀w',w' < w->M.sgl p1 o1 w' t=M.sgl p2 o2 w' t
 un:M.sgl p1 o1 w t≠M.sgl p2 o2 w t
def Cd (C:ee):Sp:=λvs H Q _=>∃(p1 p2:ee) (m:Nat) (I L G J:ef Pr3),vs=[.ref p1,.ref p2]/\TwoA H C p1 p2 m I L G J/\
 (M.Al (prs I) (prs L) (prs G) (prs J) m (I.length + G.length + 1)->∀H2,Same H H2->Q .non H2)/\
 (∀w t,Fun2 (prs I) (prs L) (prs G) (prs J) m w t->∀(tt:ee) (H2:Hp),Same H H2->H2 tt=aT (.tup [.str "apart",nat w,nat t])->Q (.ref tt) H2)
def Et (C:ee):Sp:=λvs H Q _=>∃(p1 p2:ee) (m:Nat) (I L G J:ef Pr3),vs=[.ref p1,.ref p2]/\TwoA H C p1 p2 m I L G J/\∀(D:ee) (H2:Hp),H D=eH->Same H H2->H2 D=aT (.lst ((M.prs2 (prs I) (prs G) m).map nat))->Q (.ref D) H2
noncomputable def sfq (G:D7) (x:Nat):Nat:=@dite _ (∃q,Sumd G x q) (Ja _) (λh=>h.choose) λ_=>0
theorem Bp {G:D7} {x q:Nat} (h:Sumd G x q):q=sfq G x:=by
 unfold sfq;rw[dif_pos ⟨q,h⟩];exact h.uniq (Classical.choose_spec (⟨q,h⟩:∃q,Sumd G x q))
structure AlkA (H:Hp) (t Ds Db Du:ee) (ts bs us:HJ) (m:Nat) (p1 p2:A'):Prop where
 t:H t=aT (.tup [.str "alike",.ref Ds,.ref Db,.ref Du])
 s:H Ds=aT (.lst (ts.map V.ref))
 ls:ts.length=(M.prs2 p1 p2 m).length
 sa:∀(j:Nat) a,ts[j]? =aT a->H a=aT (.tup [nat (M.lo p1.length ((M.prs2 p1 p2 m).getD j 0)),nat ((M.prs2 p1 p2 m).getD j 0>>>p1.length)])
 b:H Db=aT (.lst (bs.map V.ref))
 lb:bs.length=m
 ba:∀(j:Nat) a,bs[j]? =aT a->H a=aT (.lst ((M.pl 1000 (sfq (M.prs2 p1 p2 m) (M.tr2 (M.jn p1 p2) 0 (2 ^ j)))).map nat))
 u:H Du=aT (.lst (us.map V.ref))
 lu:us.length=(M.prs2 p1 p2 m).length
 ua:∀(j:Nat) a,us[j]? =aT a->H a=aT (.lst ((M.pl 1000 (sfq (M.prs2 p1 p2 m) (M.tr2 (M.jn p1 p2) ((M.prs2 p1 p2 m).getD j 0) 0))).map nat))
def Ex (C:ee):Sp:=λvs H Q _=>∃(p1 p2:ee) (m:Nat) (I L G J:ef Pr3),vs=[.ref p1,.ref p2]/\TwoA H C p1 p2 m I L G J/\
 (M.Al (prs I) (prs L) (prs G) (prs J) m (I.length + G.length + 1)->∀(t α β Z:ee) (Y bs us:HJ) (H2:Hp),Same H H2->AlkA H2 t α β Z Y bs us m (prs I) (prs G)->Q (.ref t) H2)/\
 (∀w t,Fun2 (prs I) (prs L) (prs G) (prs J) m w t->∀(tt:ee) (H2:Hp),Same H H2->H2 tt=aT (.tup [.str "apart",nat w,nat t])->Q (.ref tt) H2)
theorem yh {p1 p2:A'} {m x r q:Nat} (hx:x=0∨x∈M.prs2 p1 p2 m) (G:r < 2 ^ m):M.Span (M.prs2 p1 p2 m) (M.tr2 (M.jn p1 p2) x r):=by
 refine M.prs2_next ?_ G;rcases hx with rfl | h
 ·exact M.span_zero _
 ·exact M.mem_span h
end Sx
namespace M
structure Kern (R ms:D7):Prop where
 inj:Inj ms
 lt:∀m∈ms,m < 2 ^ R.length
 ev:∀m∈ms,sm R m=0
 all:∀z,z < 2 ^ R.length->sm R z=0->Span ms z
structure Lft (left rows:D7):Prop where
 nz:∀x∈left,x≠0
 pw:left.Pairwise λa b=>b.testBit a.log2=false
 sp:∀x,Span left x↔Span rows x
 len:left.length=(fr rows).length
noncomputable def bm (G:D7) (b:Nat):Nat:=Classical.epsilon (Bar G b)
section
variable (ps os:A') (m:Nat)
noncomputable def Sil:Nat->Nat->Prop
 | 0,x=>x < 2 ^ ps.length
 | j + 1,x=>x < 2 ^ ps.length/\∃u,u < 2 ^ m/\tr2 os x u=0/\Sil j (tr2 ps x u)
end
section
structure G6 (ps os:A') (m:Nat) (bars ways:D7):Prop where
 lt:∀w∈ways,w < 2 ^ (ps.length + m)
 ev:∀w∈ways,tr2 os (w % 2 ^ ps.length) (w>>>ps.length)=0/\∀b∈bars,od (b&&&tr2 ps (w % 2 ^ ps.length) (w>>>ps.length))=false
 inj:Inj (ways.map (· % 2 ^ ps.length))
 span:∀x,Span (ways.map (· % 2 ^ ps.length)) x↔x < 2 ^ ps.length/\∃u,u < 2 ^ m/\tr2 os x u=0/\∀b∈bars,od (b&&&tr2 ps x u)=false
end
section
variable {ps os:A'} {m:Nat}
def G8 (ps os:A') (m j:Nat) (G:D7):Prop:=∀y,y < 2 ^ ps.length->((∀b∈G,od (b&&&y)=false)↔Sil ps os m j y)
end
section
variable {ps os:A'} {m:Nat}
noncomputable def chs (ps os:A') (m a i:Nat):Nat:=sm (((ldp ps os m).map (2 ^ ·)).take i) a
theorem BM (a i:Nat):chs ps os m a i < 2 ^ (ps.length * m):=by
 unfold chs;refine sm_lt a λx G=>?_;obtain⟨k,hk,rfl⟩:=qE.mp (L8 G);have:=ldp_lt (ps:=ps) (os:=os) (m:=m) k hk;rw[rch_len] at this;exact ra @C this
theorem zo (a:Nat):wst ps 0 (upk m (chs ps os m a (ldp ps os m).length) ps.length)=sm (lst_ ps os m) a:=by
 rw[qG ps m _ (xE m _ _),xF,uq m _ _ (BM a _)];unfold chs;rw[IW (by rw[cY];exact ov _),Ab];congr 1;unfold lst_;rw[Iv];refine J5 λk hk=>?_;exact jA ..
theorem EB {x j k:Nat} (G:ps.length<=1000) (h:(lkp ps os m)[j]? =aT k):(ow x (lkL ps os m)).testBit j=(tr2 os (zs ps x (k / os.length)) 0).testBit (k % os.length):=by
 have I:=(b'.mp h).1;have hk:=lkp_lt (ps:=ps) (os:=os) (m:=m) k (eO h);have hm:(msk ps os).length=ps.length * os.length:=by unfold msk;rw[lkm_len,cY]
 rw[hm] at hk;have ho:0 < os.length:=Nu λz=>by rw[z,Nat.mul_zero] at hk;exact Jp _ hk
 have hd:(lkL ps os m).getD j 0=(msk ps os).getD k 0:=by
  unfold lkL;rw[bx,fk,h];rfl
 rw[ow_bit,g8,gB I,Hj,hd];exact C7 G (Nz _ ho) (Lc (by rw[Lf];exact hk)) (Nat.div_add_mod' k os.length).symm
end
theorem ni (ps os:A'):∀(T x t:Nat),t < T->(wan ps os x (lA T 0))[t]? =aT (tr2 os (zs ps x t) 0)
 | 0,x,t,h=>hE h (Jp _)
 | T + 1,x,0,h=>rfl
 | T + 1,x,t + 1,h=>by
   rw[J4];show(wan ps os (tr2 ps x 0) (lA T 0))[t]? =_;rw[ni ps os T _ t @A,BU]
noncomputable def act (ps:A') (x Q:Nat):Nat:=if Q=0 then 0 else (if Q % 2=1 then x else 0)^^^act ps (tr2 ps x 0) (Q / 2)
termination_by Q
decreasing_by omega
structure Lst (ps:A') (x P:Nat):Prop where
 nz:P≠0
 dv:∀Q,act ps x Q=0↔Dv P Q
structure Rng (ps:A') (x l n:Nat):Prop where
 pos:1<=n
 back:zs ps x (l + n)=zs ps x l
 least:∀e,1<=e->e < n->zs ps x (l + e)≠zs ps x l
 early:1<=l->zs ps x (l - 1 + n)≠zs ps x (l - 1)
section
variable (ps os:A') (m T:Nat)
noncomputable def tol:D7:=(ko (T * m)).map λk=>pkw os.length (wan ps os 0 (upk m (2 ^ k) T))
end
section
variable {ps os:A'} {d:Nat}
structure Mks (ps os:A') (m d:Nat) (μs:D7):Prop where
 len:μs.length=m
 lt:∀(i μ:Nat),μs[i]? =aT μ->μ < 2 ^ ((d + 1) * os.length)
 ev:∀(i μ:Nat),μs[i]? =aT μ->∀z,Span ((tol ps os m (d + 1)).set i 0) z->od (μ&&&z)=false
 odd:∀(i μ:Nat),μs[i]? =aT μ->od (μ&&&(tol ps os m (d + 1)).getD i 0)=true
end
section
variable {ps os:A'} {m:Nat}
structure Slp (ps os:A') (m j:Nat) (bars ways:D7):Prop where
 w:G6 ps os m bars ways
 b:G8 ps os m j bars
 lt:∀b∈bars,b < 2 ^ ps.length
 cnt:∃prev:D7,(∀x,Span prev x↔Sil ps os m j x)/\Inj prev/\prev.length + bars.length=ps.length/\prev.length + j<=ps.length
end
structure Chn (ps po:A') (m:Nat) (sz rw:Nat->Nat) (pos:Nat->Nat->Nat):Prop where
 len:po.length=m
 lt:∀w k,w < m->k < sz w->pos w k < ps.length/\pos w k < 1000
 p0:∀w,w < m->0 < sz w->∃b,ps[pos w 0]? =aT (b,rw w)/\∀j,b.testBit j=true->∃k,k < sz w/\j=pos w k
 pk:∀w k,w < m->k + 1 < sz w->ps[pos w (k + 1)]? =aT (2 ^ pos w k,0)
 o0:∀w,w < m->sz w=0->po[w]? =aT (0,rw w)
 ok:∀w,w < m->0 < sz w->po[w]? =aT (2 ^ pos w (sz w - 1),0)
variable {ps po:A'} {m:Nat} {sz rw:Nat->Nat} {pos:Nat->Nat->Nat}
theorem iq {J:A'} {i:Nat} {q:Nat×Nat} (h:J[i]? =aT q) (x r:Nat):(tr2 J x r).testBit i=(od (q.1&&&x)^^od (q.2&&&r)):=by
 have G:=(b'.mp h).1;rw[cW,gB G,Hj,bx,h];rfl
theorem bis {ps os ps' os':A'} (R:Nat->Nat->Prop) (h:∀x G r,R x G->tr2 os x r=tr2 os' G r/\R (tr2 ps x r) (tr2 ps' G r)):∀(rs:D7) (x G:Nat),R x G->wan ps os x rs=wan ps' os' G rs
 | [],_,_,_=>rfl
 | r::rs,x,G,hR=>by
   obtain⟨h1,h2⟩:=h x G r hR;show tr2 os x r::wan ps os (tr2 ps x r) rs=tr2 os' G r::wan ps' os' (tr2 ps' G r) rs;rw[h1,bis R h rs _ _ h2]
def AlkM (ps os ps' os':A'):Prop:=∀rs,wan ps os 0 rs=wan ps' os' 0 rs
theorem AlkM.refl (ps os:A'):AlkM ps os ps os:=λ_=>rfl
theorem AlkM.trans {p o p1 o1 p2 o2:A'} (a:AlkM p o p1 o1) (b:AlkM p1 o1 p2 o2):AlkM p o p2 o2:=λrs=>(a rs).trans (b rs)
noncomputable def pmx (ns:D7) (x:Nat):Nat->Nat
 | 0=>0
 | k + 1=>pmx ns x k + ((x>>>ns.getD k 0)&&&1) <<< k
theorem pmx_lt (ns:D7) (x:Nat):∀n,pmx ns x n < 2 ^ n
 | 0=>by show 0 < 1;decide
 | k + 1=>by
   have h:=pmx_lt ns x k;have h2:(x>>>ns.getD k 0)&&&1<=1:=by rw[Nv];omega
   have G:((x>>>ns.getD k 0)&&&1) <<< k<=2 ^ k:=by rw[Jc];exact Ih (Lb _ h2) @A
   show pmx ns x k + _ < 2 ^ (k + 1);rw[Kc];omega
theorem jf (ns:D7) (x j:Nat):∀n,(pmx ns x n).testBit j=(decide (j < n)&&x.testBit (ns.getD j 0))
 | 0=>by show(0:Nat).testBit j=_;rw[z',eP (Jp j)];rfl
 | k + 1=>by
   show(pmx ns x k + ((x>>>ns.getD k 0)&&&1) <<< k).testBit j=_;have G:=pmx_lt ns x k
   have e:pmx ns x k + ((x>>>ns.getD k 0)&&&1) <<< k=(2 ^ k * ((x>>>ns.getD k 0)&&&1))||| pmx ns x k:=by
    rw[<-Nat.two_pow_add_eq_or_of_lt G,Jc,Lf,Lh]
   rw[e,L0,jf ns x j k,Lf,<-Jc,Ii];rcases JA j k with h | h | h
   ·have h1:¬k<=j:=by omega
    rw[gB h,gB (show j < k + 1 by omega),eP h1,oT,Ol]
   ·subst h;rw[eP (IV j),gB (Il j),gB (ov j),JH,oT,KF,Hj,Hj,HY,Ju,Nat.add_zero];show(x.testBit _&&true)=_;rw[Om]
   ·rw[eP (show ¬j < k by omega),eP (show ¬j < k + 1 by omega),gB (show k<=j by omega),HY,oT,KF,Hj]
    have:(1:Nat).testBit (j - k)=false:=by
     obtain⟨d,hd⟩:∃d,j - k=d + 1:=⟨j - k - 1,@A⟩;rw[hd,Nat.testBit_succ];exact z' _
    rw[this,ID]
theorem CP (ns:D7) (a b n:Nat):pmx ns (a^^^b) n=pmx ns a n^^^pmx ns b n:=by
 apply hJ;intro j;rw[vl,jf,jf,jf,vl];cases decide (j < n)<;>simp
theorem vp (ns:D7) (n:Nat):pmx ns 0 n=0:=by
 apply hJ;intro j;rw[jf,z',z',ID]
theorem ord_at {ns:D7} {n k:Nat} (G:ns.Perm (ko n)) (hk:k < n):ns.getD k 0 < n:=by
 have I:ns.length=n:=by rw[G.length_eq,pT]
 rw[bx,cP @A];exact Iq.mp (G.mem_iff.mp (Jr ..))
theorem CY {ns:D7} {n i:Nat} (G:ns.Perm (ko n)) (hi:i < n):∃k,k < n/\ns.getD k 0=i:=by
 have I:ns.length=n:=by rw[G.length_eq,pT]
 obtain⟨k,hk⟩:=Jz (G.mem_iff.mpr (Iq.mpr hi));have:=(b'.mp hk).1;exact⟨k,@A,by rw[bx,hk];rfl⟩
theorem CZ {ns:D7} {n k j:Nat} (G:ns.Perm (ko n)) (hk:k < n) (hj:j < n) (e:ns.getD k 0=ns.getD j 0):k=j:=by
 have I:ns.length=n:=by rw[G.length_eq,pT]
 have nd:ns.Nodup:=G.nodup_iff.mpr (NL ..);rw[bx,bx,cP @A,cP @A] at e;exact(NM nd).mp e
theorem CQ {ns:D7} {n k:Nat} (I:ns.Perm (ko n)) (hk:k < n):pmx ns (2 ^ ns.getD k 0) n=2 ^ k:=by
 apply hJ;intro j;rw[jf,nq,nq];by_cases G:j < n
 ·rw[gB G,Hj];by_cases e:k=j
  ·subst e;rw[gB rfl,gB rfl]
  ·rw[eP e,eP λz=>e (CZ I hk G z)]
 ·rw[eP G,eP (show ¬k=j by omega)];rfl
theorem yr {ns:D7} {n:Nat} (hn:n<=1000) (J:ns.Perm (ko n)) (x:Nat):∀i,i<=n->∀a,a < 2 ^ i->od (pmx ns a n&&&pmx ns x n)=od (a&&&x)
 | 0,_,a,ha=>by
   have:a=0:=by have:(2:Nat) ^ 0=1:=rfl;omega
   rw[this,vp,Jl,Jl]
 | i + 1,hi,a,ha=>by
   by_cases hb:a.testBit i=true
   ·have I:a^^^2 ^ i < 2 ^ i:=by
     apply IG;intro j L;rw[vl,nq];by_cases e:i=j
     ·subst e;rw[hb,gB rfl];rfl
     ·rw[eP e,IQ];exact oP (eu ha (hD @C @A))
    have e:a=(a^^^2 ^ i)^^^2 ^ i:=by rw[Ip,Jm,IJ]
    obtain⟨k,hk,G⟩:=CY J (show i < n by omega);have ih:=yr hn J x i @A _ I;generalize a^^^2 ^ i=b at e ih;rw[e,CP,J8,d3,ih,J8,d3,<-G,CQ J hk,kN @A,kN (by rw[G];omega),jf,gB hk,Hj]
   ·have I:a < 2 ^ i:=by
     apply IG;intro j L;by_cases e:i=j
     ·subst e;simpa using hb
     ·exact oP (eu ha (hD @C @A))
    exact yr hn J x i @A a I
theorem GP {ns:D7} {n:Nat} (hn:n<=1000) (G:ns.Perm (ko n)) {a:Nat} (ha:a < 2 ^ n) (x:Nat):od (pmx ns a n&&&pmx ns x n)=od (a&&&x):=yr hn G x n (ov n) a ha
theorem turned62 {ps os ps' os':A'} {ns:D7} (hn:ps.length<=1000) (Y:ns.Perm (ko ps.length)) (hA:∀q∈ps++os,q.1 < 2 ^ ps.length) (α:ps'.length=ps.length)
  (h1:∀k q,ps[ns.getD k 0]? =aT q->k < ps.length->ps'[k]? =aT (pmx ns q.1 ps.length,q.2)) (h2:os'=os.map λq=>(pmx ns q.1 ps.length,q.2)):AlkM ps os ps' os':=by
 have L:∀(q:Nat×Nat),q∈ps++os->∀x r:Nat,(od (pmx ns q.1 ps.length&&&pmx ns x ps.length)^^od (q.2&&&r))=(od (q.1&&&x)^^od (q.2&&&r)):=λq Z x r=>by rw[GP hn Y (hA q Z)]
 refine λrs=>bis (λx J=>J=pmx ns x ps.length) (λx J r e=>?_) rs 0 0 (vp ..).symm;subst e;constructor
 ·apply hJ;intro j;by_cases I:j < os.length
  ·have e:=cP I;rw[iq e,iq (show os'[j]? =aT _ by rw[h2,fk,e];rfl),L _ (hH _ (Jr I))]
  ·rw[cW,cW,eP I,eP (by rw[h2,cY];exact I),oT,oT]
 ·apply hJ;intro k;rw[jf];by_cases hk:k < ps.length
  ·have G:=ord_at Y hk;have e:=cP G;rw[iq (h1 k _ e hk),iq e,gB hk,Hj,L _ (n' _ (Jr G))]
  ·rw[cW,eP (by rw[α];exact hk),eP hk,oT,oT]
theorem uJ {ps os ps' os':A'} {d:Nat×Nat} (E:Nat->Nat->Prop) (L:E 0 0) (α:ps'.length=ps.length + 1) (ho:os'.length=os.length) (hd:ps'[ps.length]? =aT d)
  (h1:∀(k:Nat) (q:Nat×Nat),ps[k]? =aT q->∃I,ps'[k]? =aT I/\∀x G r,(∀j,j < ps.length->G.testBit j=x.testBit j)->E x G->(od (I.1&&&G)^^od (I.2&&&r))=(od (q.1&&&x)^^od (q.2&&&r)))
  (h2:∀(k:Nat) (q:Nat×Nat),os[k]? =aT q->∃I,os'[k]? =aT I/\∀x G r,(∀j,j < ps.length->G.testBit j=x.testBit j)->E x G->(od (I.1&&&G)^^od (I.2&&&r))=(od (q.1&&&x)^^od (q.2&&&r)))
  (Z:∀x G r,(∀j,j < ps.length->G.testBit j=x.testBit j)->E x G->E (tr2 ps x r) (tr2 ps' G r)):AlkM ps os ps' os':=by
 refine λrs=>bis (λx G=>(∀j,j < ps.length->G.testBit j=x.testBit j)/\E x G) (λx G r e=>?_) rs 0 0 ⟨λ_ _=>rfl,L⟩;obtain⟨e1,Y⟩:=e;refine⟨?_,λj J=>?_,Z x G r e1 Y⟩
 ·apply hJ;intro j;by_cases J:j < os.length
  ·have e:=cP J;obtain⟨I,g1,g2⟩:=h2 j _ e;rw[iq e,iq g1,g2 x G r e1 Y]
  ·rw[cW,cW,eP J,eP (by rw[ho];exact J),oT,oT]
 ·have e:=cP J;obtain⟨I,g1,g2⟩:=h1 j _ e;rw[iq e,iq g1,g2 x G r e1 Y]
theorem jH {a x G n:Nat} (ha:a < 2 ^ n) (h:∀j,j < n->G.testBit j=x.testBit j):od (a&&&G)=od (a&&&x):=by
 congr 1;apply hJ;intro j;rw[HY,HY];by_cases I:j < n
 ·rw[h j I]
 ·rw[oP (eu ha (hD @C @A)),oT,oT]
theorem grownA {ps os:A'} (d:Nat×Nat) (hA:∀q∈ps++os,q.1 < 2 ^ ps.length):AlkM ps os (ps++[d]) os:=by
 refine uJ (d:=d) (λ_ _=>True) trivial (by rw[eZ];rfl) rfl (by rw[lB (ov _),JH];rfl) (λk q h=>?_) (λk q h=>?_) λ_ _ _ _ _=>trivial
 ·have hk:=(b'.mp h).1;exact⟨q,by rw[kA hk];exact h,λx G r e _=>by rw[jH (hA q (n' _ (eO h))) e]⟩
 ·exact⟨q,h,λx G r e _=>by rw[jH (hA q (hH _ (eO h))) e]⟩
theorem grownB {ps os os':A'} (hn:ps.length < 1000) (hA:∀q∈ps++os,q.1 < 2 ^ ps.length) (ho:os'.length=os.length) (h:∀(k:Nat) (q:Nat×Nat),os[k]? =aT q->∃b,os'[k]? =aT (q.1||| b <<< ps.length,q.2)/\b<=1):AlkM ps os (ps++[(2 ^ ps.length,0)]) os':=by
 have γ:(ps++[((2:Nat) ^ ps.length,0)])[ps.length]? =aT (2 ^ ps.length,0):=by rw[lB (ov _),JH];rfl
 refine uJ (d:=(2 ^ ps.length,0)) (λ_ G=>G.testBit ps.length=false) (z' _) (by rw[eZ];rfl) ho γ (λk q h=>?_) (λk q J=>?_) λx G r _ e=>?_
 ·have hk:=(b'.mp h).1;exact⟨q,by rw[kA hk];exact h,λx G r e _=>by rw[jH (hA q (n' _ (eO h))) e]⟩
 ·obtain⟨b,hb,I⟩:=h k q J;refine⟨_,hb,λx G r e L=>?_⟩;have ha:=hA q (hH _ (eO J));show(od ((q.1||| b <<< ps.length)&&&G)^^_)=_
  have:(q.1||| b <<< ps.length)&&&G=q.1&&&G:=by
   apply hJ;intro j;rw[HY,HY,L0,Ii];rcases JA j ps.length with z | z | z
   ·rw[eP (show ¬ps.length<=j by omega),oT,KF]
   ·rw[z,L,ID,ID]
   ·have:b.testBit (j - ps.length)=false:=oP (Hf I (Nat.one_lt_two_pow @A));rw[this,ID,KF]
  rw[this,jH ha e]
 ·show(tr2 _ G r).testBit _=false;rw[iq γ];show(od (2 ^ ps.length&&&G)^^od (0&&&r))=false;rw[Jl,od_zero,IQ,kN hn];exact e
theorem grownC {ps os ps' os':A'} {i:Nat} (hn:ps.length < 1000) (hi:i < ps.length) (hA:∀q∈ps++os,q.1 < 2 ^ ps.length) (Z:ps'.length=ps.length + 1) (ho:os'.length=os.length) (ht:ps'[ps.length]? =ps'[i]?)
  (h1:∀(k:Nat) (q:Nat×Nat),ps[k]? =aT q->∃a,ps'[k]? =aT (a,q.2)/\(a=q.1∨a=q.1^^^2 ^ i^^^2 ^ ps.length))
  (h2:∀(k:Nat) (q:Nat×Nat),os[k]? =aT q->∃a,os'[k]? =aT (a,q.2)/\(a=q.1∨a=q.1^^^2 ^ i^^^2 ^ ps.length)):AlkM ps os ps' os':=by
 have ζ:∀(q:Nat×Nat) (a:Nat),q∈ps++os->(a=q.1∨a=q.1^^^2 ^ i^^^2 ^ ps.length)->∀x G r:Nat,(∀j,j < ps.length->G.testBit j=x.testBit j)->G.testBit ps.length=x.testBit i->(od (a&&&G)^^od (q.2&&&r))=(od (q.1&&&x)^^od (q.2&&&r)):=λq a Y ha x G r e I=>by
  rcases ha with rfl | rfl
  ·rw[jH (hA q Y) e]
  ·rw[J8,J8,d3,d3,kN @A,kN hn,jH (hA q Y) e,e i hi,I];cases od (q.1&&&x)<;>cases x.testBit i<;>cases od (q.2&&&r)<;>rfl
 have J:=cP hi;obtain⟨a,g1,g2⟩:=h1 i _ J;refine uJ (d:=_) (λx G=>G.testBit ps.length=x.testBit i) (by rw[z',z']) Z ho (ht.trans g1) (λk q h=>?_) (λk q h=>?_) λx G r e I=>?_
 ·obtain⟨b,e1,I⟩:=h1 k q h;exact⟨_,e1,λx G r e L=>ζ q b (n' _ (eO h)) I x G r e L⟩
 ·obtain⟨b,e1,I⟩:=h2 k q h;exact⟨_,e1,λx G r e L=>ζ q b (hH _ (eO h)) I x G r e L⟩
 ·show(tr2 ps' G r).testBit _=(tr2 ps x r).testBit _;rw[iq (ht.trans g1),iq J];exact ζ _ a (n' _ (eO J)) g2 x G r e I
theorem pmx_sum (ns:D7) (x:Nat):∀n,((ko n).map λk=>((x>>>ns.getD k 0)&&&1) <<< k).sum=pmx ns x n
 | 0=>rfl
 | n + 1=>by
   rw[Jf,hu,List.sum_append,pmx_sum ns x n];show _ + (_ + 0)=_;rw[Nat.add_zero];rfl
end M
namespace Sx
open PySem L2
noncomputable def lamQ:Str:=(("_law_turned":Hk)++".<locals>.")++"<lambda>"
def But (P:ee) (H H2:Hp):Prop:=∀b o,b≠P->H b=aT o->H2 b=aT o
theorem But.of {P:ee} {H H2:Hp} (s:Same H H2):But P H H2:=λb o _ e=>s.get e
theorem But.trans {P:ee} {H H1 H2:Hp} (x:But P H H1) (y:But P H1 H2):But P H H2:=λb o n e=>y b o n (x b o n e)
theorem But.lst {P:ee} {H H2:Hp} {pos:Pos} {q:Hk} (x:But P H H2) (T:LM.TabL pos q P H) {b:ee} {xs:ef V} (e:H b=aT (.lst xs)):H2 b=aT (.lst xs):=x b _ (λz=>by rcases T with t | ⟨_,_,t,_⟩<;>(rw[z,t] at e;cases e)) e
theorem But.tup {P:ee} {H H2:Hp} {pos:Pos} {q:Hk} (x:But P H H2) (T:LM.TabL pos q P H) {b:ee} {xs:ef V} (e:H b=aT (.tup xs)):H2 b=aT (.tup xs):=x b _ (λz=>by rcases T with t | ⟨_,_,t,_⟩<;>(rw[z,t] at e;cases e)) e
theorem But.prt {P:ee} {H H2:Hp} {pos:Pos} {q:Hk} (x:But P H H2) (T:LM.TabL pos q P H) {ps:ef Pr3} (e:Prt H ps):Prt H2 ps:=λr G=>x.tup T (e r G)
theorem But.tab {P:ee} {H H2:Hp} {pos:Pos} {q:Hk} (x:But P H H2) (T:LM.TabL pos q P H) {t n o:ee} {m:Nat} {nx os:ef Pr3} (e:TabT H t n o m nx os):TabT H2 t n o m nx os:=
 ⟨x.tup T e.t,⟨e.tab.m6,x.lst T e.tab.n,x.lst T e.tab.o,x.prt T e.tab.pn,x.prt T e.tab.po,e.tab.ln,e.tab.lo,e.tab.bn⟩⟩
theorem But.seq {P:ee} {H H2:Hp} {pos:Pos} {q:Hk} {K:a'} (x:But P H H2) (T:LM.TabL pos q P H) {b:ee} {xs:ef V} (e:SqL K H b xs):SqL K H2 b xs:=by
 rcases e with (e | ⟨o,e⟩) | e
 ·exact .inl (.inl (x.lst T e))
 ·exact .inl (.inr ⟨o,x b _ (λz=>by rcases T with t | ⟨_,_,t,_⟩<;>(rw[z,t] at e;cases e)) e⟩)
 ·exact .inr e
theorem nr {P:ee} {H H2:Hp} {pos:Pos} {q:Hk} (T:LM.TabL pos q P H) (s:Same H H2):LM.TabL pos q P H2:=by
 rcases T with t | ⟨c,n,t,e⟩
 ·exact .inl (s.get t)
 ·exact .inr ⟨c,n,s.get t,s.get e⟩
def v5:Sp:=λvs H Q _=>∃(a i n w:Nat),vs=[nat a,nat i,nat n,nat w]/\i < 100/\n < 100/\∀b:Nat,(b=a∨b=(a^^^2 ^ i)||| 2 ^ n)->Q (nat b) H
def ub:Sp:=λvs H Q _=>∃(t n o:ee) (m:Nat) (nx os:ef Pr3) (c:Nat),vs=[.ref t,nat c]/\TabT H t n o m nx os/\nx.length<=16/\
 ∀(Z J o2:ee) (H2:Hp) (I G:ef Pr3),Same H H2->TabT H2 Z J o2 m I G->I.length<=16->G.length=os.length->M.AlkM (prs nx) (prs os) (prs I) (prs G)->Q (.ref Z) H2
def rW (pos:Pos) (P:ee):Sp:=λvs H Q _=>∃(t n o:ee) (m:Nat) (nx os:ef Pr3) (c:Nat),vs=[.ref t,nat c]/\TabT H t n o m nx os/\nx.length<=16/\LM.TabL pos lamQ P H/\
 ∀(Z J o2:ee) (H2:Hp) (I G:ef Pr3),But P H H2->LM.TabL pos lamQ P H2->TabT H2 Z J o2 m I G->I.length=nx.length->G.length=os.length->M.AlkM (prs nx) (prs os) (prs I) (prs G)->Q (.ref Z) H2
def tZ (pos:Pos) (P:ee):Sp:=λvs H Q _=>∃(t n o:ee) (m:Nat) (nx os:ef Pr3) (c:Int),vs=[.ref t,.int c]/\TabT H t n o m nx os/\nx.length<=16/\LM.TabL pos lamQ P H/\
 ∀(Z J o2:ee) (H2:Hp) (I G:ef Pr3),But P H H2->LM.TabL pos lamQ P H2->TabT H2 Z J o2 m I G->I.length<=16->G.length=os.length->M.AlkM (prs nx) (prs os) (prs I) (prs G)->Q (.ref Z) H2
def tY:Sp:=λvs H Q _=>∃(t n o:ee) (m:Nat) (nx os:ef Pr3) (c:Int),vs=[.ref t,.int c]/\TabT H t n o m nx os/\0 < m/\0 < os.length/\
 ∀(Z I o2:ee) (H2:Hp) (G:ef Pr3) (i w:Nat),Same H H2->TabT H2 Z I o2 m nx G->i < os.length->w < m->(∃q,(prs os)[i]? =aT q/\prs G=(prs os).set i (q.1,q.2^^^2 ^ w))->Q (.ref Z) H2
theorem A2 {α:Type} {l:ef α} {n k:Nat} {d:α} (h:l.length=n + k):l.drop n=(ko k).map λj=>l.getD (n + j) d:=by
 refine Ks λj=>?_;rw[JB,fk];by_cases G:j < k
 ·rw[HZ G,cP @A,LJ,bx,cP @A];rfl
 ·rw[Ib @A,Ib (by rw[pT];omega)];rfl
theorem MaG.hA {m:Nat} {nx os:ef Pr3} (g:MaG m nx os):∀q∈prs nx++prs os,q.1 < 2 ^ (prs nx).length:=λq G=>by
 rw[show prs nx++prs os=prs (nx++os) from(hu ..).symm] at G;obtain⟨r,I,rfl⟩:=qE.mp G;rw[av];exact(g.bn r I).1
theorem Gi {H:Hp} {ps:HJ} {ns:D7} {nx os:ef Pr3} {Z ε ο:ee} {m:Nat} (g:MaG m nx os) (ζ:nx.length<=16) (γ:ns.Perm (ko nx.length)) (δ:ps.length=nx.length + os.length)
  (ξ:H Z=aT (.tup [nat m,.ref ε,.ref ο])) (J:H ε=aT (.lst ((ko nx.length).map λk=>V.ref (ps.getD (ns.getD k 0) 0)))) (η:H ο=aT (.lst ((ps.drop nx.length).map V.ref)))
  (ν:∀(j:Nat) (p:ee) (r:Pr3),ps[j]? =aT p->(nx++os)[j]? =aT r->H p=aT (.tup [nat (M.pmx ns r.2.1 nx.length),nat r.2.2])):
  ∃L I:ef Pr3,TabT H Z ε ο m L I/\L.length=nx.length/\I.length=os.length/\M.AlkM (prs nx) (prs os) (prs L) (prs I):=by
 obtain⟨D,ι⟩:∃D:Pr3,D=(0,0,0):=⟨_,rfl⟩;have β:∀j,j < nx.length + os.length->ps[j]? =aT (ps.getD j 0):=λj Y=>by rw[bx,cP @A];rfl
 have hn:∀j,j < nx.length->nx[j]? =aT (nx.getD j D):=λj Y=>by rw[bx,cP Y];rfl
 have ho:∀j,j < os.length->os[j]? =aT (os.getD j D):=λj Y=>by rw[bx,cP Y];rfl
 refine⟨(ko nx.length).map λk=>(ps.getD (ns.getD k 0) 0,M.pmx ns (nx.getD (ns.getD k 0) D).2.1 nx.length,(nx.getD (ns.getD k 0) D).2.2),(ko os.length).map λj=>(ps.getD (nx.length + j) 0,M.pmx ns (os.getD j D).2.1 nx.length,(os.getD j D).2.2),⟨ξ,g.m6,?_,?_,?_,?_,by rw[cY,pT];omega,by rw[cY,pT];exact g.lo,?_⟩,by rw[cY,pT],by rw[cY,pT],?_⟩
 ·rw[J];unfold refs;rw[Iv];rfl
 ·rw[η,A2 (d:=0) δ];unfold refs;rw[Iv,Iv];rfl
 ·intro q G;obtain⟨k,hk,rfl⟩:=qE.mp G;have hk:=Iq.mp hk;have α:=M.ord_at γ hk;exact ν _ _ _ (β _ @A) (by rw[kA α];exact hn _ α)
 ·intro q G;obtain⟨k,hk,rfl⟩:=qE.mp G;have hk:=Iq.mp hk;exact ν _ _ _ (β _ @A) (by rw[lB @A,show nx.length + k - nx.length=k by omega];exact ho _ hk)
 ·intro q G;rw[cY,pT];rcases lx.mp G with h | h
  ·obtain⟨k,hk,rfl⟩:=qE.mp h;have α:=M.ord_at γ (Iq.mp hk);exact⟨M.pmx_lt ..,(g.bn _ (n' _ (eO (hn _ α)))).2⟩
  ·obtain⟨k,hk,rfl⟩:=qE.mp h;exact⟨M.pmx_lt ..,(g.bn _ (hH _ (eO (ho _ (Iq.mp hk))))).2⟩
 ·refine M.turned62 (ns:=ns) (by rw[av];omega) (by rw[av];exact γ) g.hA (by rw[av,av,cY,pT]) (λk q G hk=>?_) ?_
  ·rw[av] at hk ⊢;have α:=M.ord_at γ hk;rw[fk,hn _ α] at G;cases iv G;rw[fk,fk,HZ hk];rfl
  ·rw[av];refine Ks λj=>?_;rw[fk,fk,fk,fk];by_cases Y:j < os.length
   ·rw[HZ Y,ho j Y];rfl
   ·rw[Ib (by rw[pT];omega),Ib @A];rfl
theorem Bx {F:Nat->Pr3->Prop} {zs:ef Pr3} {x:Pr3} (pv:∀j q,zs[j]? =aT q->F j q) (h:F zs.length x):∀j q,(zs++[x])[j]? =aT q->F j q:=λj q G=>by
 rcases JA j zs.length with hj | hj | hj
 ·rw[kA hj] at G;exact pv j q G
 ·rw[hj,lB (ov _),JH] at G;cases iv G;rw[hj];exact h
 ·rw[Ib (by rw[eZ];exact hj)] at G;cases G
theorem uo {H:Hp} {a b:ef Pr3} (x:Prt H a) (y:Prt H b):Prt H (a++b):=λq G=>by
 rcases lx.mp G with h | h
 ·exact x q h
 ·exact y q h
theorem yg {H:Hp} {D:ee} {x y:Nat} (e:H D=aT (.tup [nat x,nat y])):Prt H [(D,x,y)]:=λq G=>by
 rw[fy.mp G];exact e
theorem G0 {H:Hp} {Z I ο τ:ee} {m ω G:Nat} {nx os:ef Pr3} (g:MaG m nx os) (L:nx.length<=12) (e:H Z=aT (.tup [nat m,.ref I,.ref ο])) (γ:H I=aT (.lst (refs nx++[V.ref τ]))) (β:H τ=aT (.tup [nat ω,nat G])) (α:H ο=aT (.lst (refs os))) (pn:Prt H nx) (po:Prt H os) (h1:ω < 2 ^ (nx.length + 1)) (h2:G < 2 ^ m):
  TabT H Z I ο m (nx++[(τ,ω,G)]) os/\M.AlkM (prs nx) (prs os) (prs (nx++[(τ,ω,G)])) (prs os):=by
 have J:(nx++[(τ,ω,G)]).length=nx.length + 1:=by rw[eZ];rfl
 have up:2 ^ nx.length<=2 ^ (nx.length + 1):=hD @C @A;refine⟨⟨e,g.m6,by rw[γ];unfold refs;rw[hu];rfl,α,uo pn (yg β),po,by rw[J];omega,g.lo,λq Y=>?_⟩,?_⟩
 ·rw[J];rcases lx.mp Y with h | h
  ·rcases lx.mp h with h | h
   ·exact⟨eu (g.bn q (n' _ h)).1 up,(g.bn q (n' _ h)).2⟩
   ·rw[fy.mp h];exact⟨h1,h2⟩
  ·exact⟨eu (g.bn q (hH _ h)).1 up,(g.bn q (hH _ h)).2⟩
 ·rw[show prs (nx++[(τ,ω,G)])=prs nx++[(ω,G)] from hu ..];exact M.grownA (ω,G) g.hA
theorem GZ {H:Hp} {Z L ο τ:ee} {m:Nat} {nx os zs:ef Pr3} (g:MaG m nx os) (δ:nx.length<=12) (e:H Z=aT (.tup [nat m,.ref L,.ref ο])) (γ:H L=aT (.lst (refs nx++[V.ref τ]))) (η:H τ=aT (.tup [nat (2 ^ nx.length),nat 0])) (ζ:H ο=aT (.lst (refs zs))) (pn:Prt H nx) (β:Prt H zs) (I:zs.length=os.length)
  (hz:∀(j:Nat) (q:Pr3),zs[j]? =aT q->∃(b:Nat) (r:Pr3),os[j]? =aT r/\b<=1/\q.2=(r.2.1||| b <<< nx.length,r.2.2)):
  TabT H Z L ο m (nx++[(τ,2 ^ nx.length,0)]) zs/\M.AlkM (prs nx) (prs os) (prs (nx++[(τ,2 ^ nx.length,0)])) (prs zs):=by
 have α:(nx++[(τ,2 ^ nx.length,0)]).length=nx.length + 1:=by rw[eZ];rfl
 have up:2 ^ nx.length < 2 ^ (nx.length + 1):=ra @C @A;refine⟨⟨e,g.m6,by rw[γ];unfold refs;rw[hu];rfl,ζ,uo pn (yg η),β,by rw[α];omega,by rw[I];exact g.lo,λq G=>?_⟩,?_⟩
 ·rw[α];rcases lx.mp G with h | h
  ·rcases lx.mp h with h | h
   ·exact⟨Lg (g.bn q (n' _ h)).1 up,(g.bn q (n' _ h)).2⟩
   ·rw[fy.mp h];exact⟨up,lz _⟩
  ·obtain⟨j,ε⟩:=Jz h;obtain⟨b,r,h1,h2,J⟩:=hz j q ε;have Y:=g.bn r (hH _ (eO h1));rw[J];refine⟨NK (Lg Y.1 up) ?_,Y.2⟩;rw[Jc];exact Hf (Lb _ h2) @A
 ·rw[show prs (nx++[(τ,2 ^ nx.length,0)])=prs nx++[(2 ^ nx.length,0)] from hu ..,show 2 ^ nx.length=2 ^ (prs nx).length by rw[av]];refine M.grownB (by rw[av];omega) g.hA (by rw[av,av];exact I) λk q G=>?_;rw[fk] at G;have hk:k < zs.length:=by rw[I];cases h:os[k]? with | none=>rw[h] at G;cases G | some r=>exact(b'.mp h).1
  obtain⟨b,r,h1,h2,J⟩:=hz k _ (cP hk);rw[h1] at G;cases iv G;exact⟨b,by rw[fk,cP hk,LJ,J,av],h2⟩
theorem Ay {x i n:Nat} (hx:x < 2 ^ n) (hi:i < n):(x^^^2 ^ i)||| 2 ^ n=x^^^2 ^ i^^^2 ^ n:=by
 have h:x^^^2 ^ i < 2 ^ n:=JI hx (ra @C hi);apply hJ;intro j;rw[L0,vl (x^^^2 ^ i),nq];by_cases G:n=j
 ·subst G;rw[oP h,gB rfl];rfl
 ·rw[eP G,KF,IQ]
theorem GY {H:Hp} {Z Y ο:ee} {m i:Nat} {nx os zs:ef Pr3} (g:MaG m nx os) (ε:nx.length<=12) (hi:i < nx.length) (e:H Z=aT (.tup [nat m,.ref Y,.ref ο])) (γ:H Y=aT (.lst ((refs zs).take nx.length++[V.ref (zs.getD i (0,0,0)).1]))) (ι:H ο=aT (.lst ((refs zs).drop nx.length))) (α:Prt H zs) (ν:zs.length=nx.length + os.length)
  (hz:∀(j:Nat) (q:Pr3),zs[j]? =aT q->∃(b:Nat) (r:Pr3),(nx++os)[j]? =aT r/\q.2=(b,r.2.2)/\(b=r.2.1∨b=(r.2.1^^^2 ^ i)||| 2 ^ nx.length)):
  TabT H Z Y ο m (zs.take nx.length++[zs.getD i (0,0,0)]) (zs.drop nx.length)/\M.AlkM (prs nx) (prs os) (prs (zs.take nx.length++[zs.getD i (0,0,0)])) (prs (zs.drop nx.length)):=by
 have lt:(zs.take nx.length).length=nx.length:=by rw[Ho];omega
 have L:(zs.take nx.length++[zs.getD i (0,0,0)]).length=nx.length + 1:=by rw[eZ,lt];rfl
 have ld:(zs.drop nx.length).length=os.length:=by rw[Jq];omega
 have ξ:zs[i]? =aT (zs.getD i (0,0,0)):=by rw[bx,cP @A];rfl
 have up:2 ^ nx.length < 2 ^ (nx.length + 1):=ra @C @A
 have sub:∀q∈zs.take nx.length++[zs.getD i (0,0,0)]++zs.drop nx.length,q∈zs:=λq G=>by
  rcases lx.mp G with h | h
  ·rcases lx.mp h with h | h
   ·exact L8 h
   ·rw[fy.mp h];exact eO ξ
  ·exact List.mem_of_mem_drop h
 have ζ:∀(j:Nat) (q r:Pr3),zs[j]? =aT q->(nx++os)[j]? =aT r->∃b,q.2=(b,r.2.2)/\(b=r.2.1∨b=r.2.1^^^2 ^ i^^^2 ^ nx.length):=λj q r h1 h2=>by
  obtain⟨b,r',J,θ,β⟩:=hz j q h1;rw[h2] at J;cases iv J;rw[Ay (g.bn r (eO h2)).1 hi] at β;exact⟨b,θ,β⟩
 refine⟨⟨e,g.m6,by rw[γ];unfold refs;rw[hu,LI];rfl,by rw[ι];unfold refs;rw[LK],λq G=>α q (sub q (n' _ G)),λq G=>α q (sub q (hH _ G)),by rw[L];omega,by rw[ld];exact g.lo,λq G=>?_⟩,?_⟩
 ·rw[L];obtain⟨j,η⟩:=Jz (sub q G);obtain⟨b,r,h1,h2,J⟩:=hz j q η;have I:=g.bn r (eO h1);rw[h2];refine⟨?_,I.2⟩;rcases J with rfl | rfl
  ·exact Lg I.1 up
  ·exact NK (JI (Lg I.1 up) (ra @C @A)) up
 ·refine M.grownC (i:=i) (by rw[av];omega) (by rw[av];exact hi) g.hA (by rw[av,av];exact L) (by rw[av,av];exact ld) ?_ (λk q G=>?_) λk q G=>?_
  ·rw[av,fk,fk,lB @A,lt,JH,kA @A,Lp,pe hi,ξ];rfl
  ·rw[av];rw[fk] at G;obtain⟨r,I,rfl⟩:=JR.mp G;have hk:=(b'.mp I).1;have δ:zs[k]? =aT (zs[k]' @A):=cP @A;obtain⟨b,h1,h2⟩:=ζ k _ r δ (by rw[kA hk];exact I);exact⟨b,by rw[fk,kA @A,Lp,pe hk,δ,LJ,h1],h2⟩
  ·rw[av];rw[fk] at G;obtain⟨r,I,rfl⟩:=JR.mp G;have hk:=(b'.mp I).1;have δ:zs[nx.length + k]? =aT (zs[nx.length + k]' @A):=cP @A;obtain⟨b,h1,h2⟩:=ζ (nx.length + k) _ r δ (by rw[lB @A,show nx.length + k - nx.length=k by omega];exact I);exact⟨b,by rw[fk,JB,δ,LJ,h1],h2⟩
def v8 (C:ee):Sp:=λvs H Q _=>∃(t n o:ee) (m:Nat) (nx os:ef Pr3),vs=[.ref t]/\TabT H t n o m nx os/\∀(x:ee) (H2:Hp),Same H H2->MaA H2 C x m nx os->Q (.ref x) H2
theorem Cm {H:Hp} {Z n o2 ε:ee} {m i k:Nat} {nx os:ef Pr3} {r:Pr3} (g:MaG m nx os) (I:os[i]? =aT r) (hk:k < m) (e:H Z=aT (.tup [nat m,.ref n,.ref o2])) (γ:H n=aT (.lst (refs nx))) (J:H o2=aT (.lst (((refs os).take i++[V.ref ε])++(refs os).drop (i + 1)))) (L:H ε=aT (.tup [nat r.2.1,nat (r.2.2^^^2 ^ k)])) (pn:Prt H nx) (po:Prt H os):
  TabT H Z n o2 m nx (os.set i (ε,r.2.1,r.2.2^^^2 ^ k)):=by
 have hi:=(b'.mp I).1
 have es:os.set i (ε,r.2.1,r.2.2^^^2 ^ k)=os.take i++[(ε,r.2.1,r.2.2^^^2 ^ k)]++os.drop (i + 1):=by
  rw[List.set_eq_take_append_cons_drop,pe hi,Lx];rfl
 have hm:∀q∈os.set i (ε,r.2.1,r.2.2^^^2 ^ k),q∈os∨q=(ε,r.2.1,r.2.2^^^2 ^ k):=λq G=>List.mem_or_eq_of_mem_set G;refine⟨e,g.m6,γ,?_,pn,λq G=>?_,g.ln,by rw[Lw];exact g.lo,λq G=>?_⟩
 ·rw[J,es];unfold refs;rw[hu,hu,LI,LK];rfl
 ·rcases hm q G with h | h
  ·exact po q h
  ·rw[h];exact L
 ·rcases lx.mp G with h | h
  ·exact g.bn q (n' _ h)
  ·rcases hm q h with h | h
   ·exact g.bn q (hH _ h)
   ·have hb:=g.bn r (hH _ (eO I));rw[h];exact⟨hb.1,JI hb.2 (ra @C hk)⟩
def qy (pos:Pos) (PT:ee) (K:a'):Sp:=λvs H Q _=>∃(p:ee) (ns:HK),vs=[.ref p]/\SqL K H p (ns.map V.int)/\ns.length<=63/\LM.TabL pos lamQ PT H/\∀H',Q (.bl true) H'
structure Ok62 (H:Hp) (C x:ee) (m:Nat) (nx os:ef Pr3):Prop where
 ex:∃nxk osk:ef Pr3,MaA H C x m nxk osk/\MaG m nxk osk/\nxk.length<=16/\osk.length=os.length/\∀rs,(∀r∈rs,r < 2 ^ m)->M.wan (prs nx) (prs os) 0 rs=M.wan (prs nxk) (prs osk) 0 rs
theorem zb (l:ef Pr3):eqD (.lst (l.map wA)) (.lst [])=l.isEmpty:=by
 cases l with
 | nil=>rfl
 | cons q l=>simp[eqD,eqDs]
theorem G2 (l:ef Pr3):depD (.lst (l.map wA))<=100:=by
 have:=sT l;simp only[depD];omega
theorem Ae {K:a'} {H:Hp} {Q:VK} {D E:ee} {l:ef Pr3} (e:H D=aT (.lst (refs l))) (pt:Prt H l) (e':H E=aT (.lst [])) (h:Q (.bl (!l.isEmpty)) H):rEqD K true (.ref D) (.ref E) H Q:=by
 refine GI (e:= .lst []) (x9 e pt) (.lst (SqL.of e') rfl λi x d h=>by simp at h) (G2 l) ?_;rw[zb];exact h
end Sx
namespace M
section
variable {ps os ps' os':A'} {m:Nat}
theorem Eg (f:Fit ps os m) {x:Nat} (hx:Span (rch ps m ps.length) x) (h:ow x (lkL ps os m)=0) (t:Nat):tr2 os (zs ps x t) 0=0:=hJ λo=>by
 have hn:=many_le (ps:=ps) (os:=os) (m:=m);have α:=f.ln;rw[z',cW];by_cases ho:o < os.length
 ·have hm:(os.getD o (0,0)).1∈os.map (·.1):=qE.mpr ⟨_,eO (getD_at' ho),rfl⟩;have hd:Span (msk ps os) (bkI (ps.map (·.1)) (os.getD o (0,0)).1 t):=uD f.A f.O hm t;obtain⟨p,_,G⟩:=fI (span_sen (m:=m) hd);have:=dG (by rw[g8];omega) hd G hx;rw[h,Jy,od_zero] at this;rw[gB ho,Hj,Jy,od_zero,IQ,C5 ps @A,<-this]
 ·rw[eP ho,oT]
theorem rT:∀(rs:D7) (x:Nat),(∀r∈rs,r < 2 ^ m)->Span (rch ps m ps.length) x->Span (rch ps m ps.length) (wst ps x rs)
 | [],_,_,G=>G
 | r::rs,x,h,G=>rT rs (tr2 ps x r) (λy I=>h y (p' _ I)) (qH G (h r Ha))
theorem qh (f:Fit ps os m) (ε:Fit ps' os' m) (al:∀rs,(∀r∈rs,r < 2 ^ m)->wan ps os 0 rs=wan ps' os' 0 rs):(lkp ps os m).length<=(lkp ps' os' m).length:=by
 have α:=f.ln
 have ζ:=oB (ws:=(ldp ps os m).map λk=>ow (sm (rch ps' m ps.length) (2 ^ k)) (lkL ps' os' m)) (t:=(lkL ps' os' m).length) (λF Y e=>?_) (λx β=>by
  obtain⟨y,_,rfl⟩:=qE.mp β;exact ow_lt _ _)
 ·rw[cY,g8] at ζ;rw[yz];exact ζ
 ·rw[cY] at Y;have e1:((ldp ps os m).map λk=>ow (sm (rch ps' m ps.length) (2 ^ k)) (lkL ps' os' m))=(((ldp ps os m).map (2 ^ ·)).map (sm (rch ps' m ps.length))).map (ow · (lkL ps' os' m)):=by rw[Iv,Iv];rfl
  rw[e1,<-qN,<-Ab] at e
  have I:sm ((ldp ps os m).map (2 ^ ·)) F=chs ps os m F (ldp ps os m).length:=by
   unfold chs;rw[IW (by rw[cY];exact ov _)]
  rw[I] at e
  have hw:wst ps' 0 (upk m (chs ps os m F (ldp ps os m).length) ps.length)=sm (rch ps' m ps.length) (chs ps os m F (ldp ps os m).length):=by
   rw[qG ps' m _ (xE m _ _),xF,uq m _ _ (BM F _)]
  rw[<-hw] at e;have G:=zo (ps:=ps) (os:=os) (m:=m) F;have Z:=xE m (chs ps os m F (ldp ps os m).length) ps.length;generalize upk m (chs ps os m F (ldp ps os m).length) ps.length=R at e hw G Z;have δ:=Eg ε (rT R 0 Z (span_zero _)) e
  have J:∀t,tr2 os (zs ps (sm (lst_ ps os m) F) t) 0=0:=λt=>by
   have ha:=al (R++lA (t + 1) 0) λr γ=>by
    rcases lx.mp γ with h | h
    ·exact Z r h
    ·rw[KH h];exact lz _
   rw[tV,tV] at ha;have hb:=(List.append_inj ha (by rw[wan_len,wan_len])).2;have I:=Hm (·[t]?) hb;simp only[ni _ _ _ _ _ (Il t),Option.some.injEq] at I;rw[<-G,I,δ]
  refine qF (ps:=ps) (os:=os) (m:=m) F (by rw[cY,lst_len];exact Y) ?_;rw[<-qN];refine hJ λj=>?_;rw[z'];by_cases L:j < (lkp ps os m).length
  ·rw[EB @A (cP L),J,z']
  ·rw[ow_bit,g8,eP L,oT]
theorem many_one (f:Fit ps os m) (G:Fit ps' os' m) (al:∀rs,(∀r∈rs,r < 2 ^ m)->wan ps os 0 rs=wan ps' os' 0 rs):(lkp ps os m).length=(lkp ps' os' m).length:=Nat.le_antisymm (qh f G al) (qh G f λrs h=>(al rs h).symm)
end
def AlkB (m:Nat) (p o β o':A'):Prop:=∀rs,(∀r∈rs,r < 2 ^ m)->wan p o 0 rs=wan β o' 0 rs
theorem AlkB.symm {m:Nat} {p o β o':A'} (a:AlkB m p o β o'):AlkB m β o' p o:=λrs h=>(a rs h).symm
theorem AlkB.trans {m:Nat} {p o p1 o1 p2 o2:A'} (a:AlkB m p o p1 o1) (b:AlkB m p1 o1 p2 o2):AlkB m p o p2 o2:=λrs h=>(a rs h).trans (b rs h)
theorem AlkM.b {m:Nat} {p o β o':A'} (a:AlkM p o β o'):AlkB m p o β o':=λrs _=>a rs
theorem AlkB.sgl {m:Nat} {p o β o':A'} (a:AlkB m p o β o') {w:Nat} (hw:w < m) (t:Nat):sgl p o w t=sgl β o' w t:=by
 rw[<-tU p o w t t (ov t),<-tU β o' w t t (ov t),a];intro r G;rcases Hn.mp G with e | e
 ·rw[e];exact ra @C hw
 ·rw[KH e];exact lz _
theorem shown_apart {p o:A'} {i k:Nat} {q:Nat×Nat} (hq:o[i]? =aT q) (hk:k < 1000):sgl p o k 0≠sgl p (o.set i (q.1,q.2^^^2 ^ k)) k 0:=λe=>by
 have hi:=(b'.mp hq).1;have J:=Hm (Nat.testBit · i) e;have I:(tr2 o 0 (2 ^ k)).testBit i=(tr2 (o.set i (q.1,q.2^^^2 ^ k)) 0 (2 ^ k)).testBit i:=J;rw[iq hq,iq (show(o.set i (q.1,q.2^^^2 ^ k))[i]? =aT (q.1,q.2^^^2 ^ k) by rw[KR hi])] at I;have G:(od (q.1&&&0)^^od (q.2&&&2 ^ k))=(od (q.1&&&0)^^od ((q.2^^^2 ^ k)&&&2 ^ k)):=I;rw[J8,d3,kN hk,nq,gB rfl] at G;revert G;cases od (q.1&&&0)<;>cases od (q.2&&&2 ^ k)<;>decide
end M
namespace My
open PySem L2 Sx
local macro_rules | `(tactic| walk_at "o") =>`(tactic| first | exact Le rfl | exact Ld rfl)
local macro_rules | `(tactic| walk_at "s") =>`(tactic| exact ⟨rfl,rfl,rfl,by decide +kernel,rfl,by decide +kernel,by decide +kernel⟩)
local macro_rules | `(tactic| walk_at "n") =>`(tactic| (intro vs H Q E h;repeat (first | (obtain ⟨e,_⟩:=h;subst e;rfl) | (obtain ⟨_,h⟩:=h))))
local macro_rules | `(tactic| walk_at "l2side") =>`(tactic| first | assumption | rfl | omega | decide | ((try dsimp only [CDiv,G7,CPow,CMul]);first | omega | decide | (refine (⟨?_,?_⟩)<;>first | omega | decide) | (refine (⟨?_,?_,?_⟩)<;>first | omega | decide) | (left;refine (⟨?_,?_⟩)<;>first | omega | decide) | (right;refine (⟨?_,?_⟩)<;>first | omega | decide)))
local macro_rules | `(tactic| walk_at "l2len") =>`(tactic| ((with_reducible show _ + _≤i');first | assumption | (rw [mc];omega) | omega))
local macro_rules | `(tactic| walk_at "l2at") =>`(tactic| first | assumption | exact aJ | (refine' Same.get (by assumption) ?h;(case h=>walk_at "l2at")))
local macro_rules | `(tactic| walk_at "l2hp") =>`(tactic| first | walk_at "l2at")
local macro_rules | `(tactic| walk_at "l2hp") =>`(tactic| first | (refine' Same.tup (by assumption) ?h;(case h=>walk_at "l2hp")) | (refine' Rep.same (by assumption) ?h;(case h=>walk_at "l2hp")))
local macro_rules | `(tactic| walk_at "l2hp") =>`(tactic| first | assumption | (refine' SqL.of ?h;(case h=>walk_at "l2at")) | (refine' SqT.of ?h;(case h=>walk_at "l2at")) | (refine' Same.seq (by assumption) ?h;(case h=>walk_at "l2hp")))
local macro_rules | `(tactic| walk_at "l2kind") =>`(tactic| first | assumption | exact rfl | (refine' Le ⟨rfl,_,?e⟩;(case e=>walk_at "l2hp")) | (refine' Ld (Le ⟨rfl,_,?e⟩);(case e=>walk_at "l2hp")) | (refine' Ld (Ld ⟨rfl,_,Le ?e⟩);(case e=>walk_at "l2hp")))
local macro_rules | `(tactic| walk_at "l2step") =>`(tactic| first | ((with_reducible refine' s_go ?e ?_);(case e=>assumption)))
local macro_rules | `(tactic| walk_at "l2step") =>`(tactic| first | (with_reducible refine(⟨_,rfl,?_⟩)) | (with_reducible refine(⟨rfl,?_⟩)) | ((with_reducible refine' (⟨⟨_,?e⟩,?_⟩));(case e=>walk_at "l2hp")))
local macro_rules | `(tactic| walk_at "l2step") =>`(tactic| first | (with_reducible refine(⟨_,_,rfl,rfl,?_⟩);(with_reducible refine(⟨?l,?_⟩));(case l=>walk_at "l2len")) | (with_reducible refine(⟨_,_,rfl,rfl,?_⟩)) | (with_reducible refine Le ⟨_,rfl,?_⟩) | (with_reducible refine Ld ⟨_,rfl,?_⟩))
local macro_rules | `(tactic| walk_at "l2step") =>`(tactic| first | (with_reducible refine EZ ?_) | ((with_reducible refine' xU ?e ?_);(case e=>first | rfl | decide | assumption)) | ((with_reducible refine' r0 ?e ?_);(case e=>first | rfl | decide | assumption)) | ((with_reducible refine' Ag ?a ?b ?_);(case a=>omega);(case b=>omega)))
local macro_rules | `(tactic| walk_at "l2step") =>`(tactic| first | (with_reducible refine CA ?_) | (with_reducible refine s_intB ?_) | (with_reducible refine s_inS ?_) | ((with_reducible refine' s_addS ?e ?_);(case e=>walk_at "l2side")))
local macro_rules | `(tactic| walk_at "l2step") =>`(tactic| first | (with_reducible refine EV ?_) | (with_reducible refine GG ?_) | (with_reducible refine Gs ?_) | (with_reducible refine EE ?_))
local macro_rules | `(tactic| walk_at "l2step") =>`(tactic| first | ((with_reducible refine' EO ?e ?_);(case e=>walk_at "l2hp")) | ((with_reducible refine' EN ?e ?_);(case e=>walk_at "l2hp")) | ((with_reducible refine' s_lenS ?e ?_);(case e=>walk_at "l2side")) | ((with_reducible refine' GF ?e ?m ?_);(case e=>walk_at "l2kind");(case m=>decide)))
local macro_rules | `(tactic| walk_at "l2step") =>`(tactic| first | ((with_reducible refine' GE ?e ?a ?_);(case e=>walk_at "l2hp");(case a=>first | assumption | rfl)) | ((with_reducible refine' GD ?e ?a ?_);(case e=>walk_at "l2hp");(case a=>first | assumption | rfl)) | ((with_reducible refine' s_ty ?e ?_);(case e=>first | exact rfl | (refine' Le ⟨rfl,_,?f⟩;(case f=>walk_at "l2hp")) | (refine' Ld (Ld (Le ⟨rfl,Le ⟨_,?f⟩⟩));(case f=>walk_at "l2hp")))) | (with_reducible refine E1 ?_))
local macro_rules | `(tactic| walk_at "l2step") =>`(tactic| first | ((with_reducible refine' EJ ?l ?_);(case l=>exact yG (MZ rfl))) | ((with_reducible refine' EI ?l ?_);(case l=>exact yG (MZ rfl))) | ((with_reducible refine' Gw ?e ?_);(case e=>walk_at "l2hp")) | ((with_reducible refine' s_slS ?e ?_);(case e=>walk_at "l2side")))
local macro_rules | `(tactic| walk_at "l2step") =>`(tactic| first | (with_reducible refine ES ?_) | ((with_reducible refine' ER ?e ?l ?_);(case e=>walk_at "l2hp");(case l=>rfl)) | (with_reducible refine Gv ?_) | (with_reducible refine GC ?_))
local macro_rules | `(tactic| walk_at "l2step") =>`(tactic| first | ((with_reducible refine' Gz ?e ?_);(case e=>rfl)) | (with_reducible refine s_leS ?_) | ((with_reducible refine' Cy ?e ?_);(case e=>repeat constructor)) | (with_reducible refine Cz ?_))
local macro_rules | `(tactic| walk_at "l2step") =>`(tactic| first | (with_reducible refine GA ?_) | ((with_reducible refine' s_rI ?e ?_);(case e=>walk_at "l2side")) | (with_reducible refine s_rU ?_) | ((with_reducible refine' GB ?e ?_);(case e=>rfl)))
local macro_rules | `(tactic| walk_at "l2step") =>`(tactic| first | ((with_reducible refine EG ?_);intro _ _) | (with_reducible refine EH ?_) | ((with_reducible refine' Gu ?e ?_);(case e=>repeat constructor)) | (with_reducible refine CD ?_))
local macro_rules | `(tactic| walk_at "l2") =>`(tactic| repeat walk_at "l2step")
local macro_rules | `(tactic| walk_at "l2step") =>`(tactic| first | ((with_reducible refine' s_tupT ?e ?_);(case e=>walk_at "l2hp")))
local macro_rules | `(tactic| walk_at "l2step") =>`(tactic| first | ((with_reducible refine' Cw ?e ?_);(case e=>walk_at "l2hp")) | ((with_reducible refine' s_listT ?e ?_);(case e=>walk_at "l2hp")) | ((with_reducible refine' ED ?e ?_);(case e=>walk_at "l2hp")))
local macro_rules | `(tactic| walk_at "l2step") =>`(tactic| first | (with_reducible refine EK ?_) | (with_reducible refine EU ?_) | (with_reducible refine EY ?_) | (with_reducible refine xV ?_))
local macro_rules | `(tactic| walk_at "l2step") =>`(tactic| first | (with_reducible refine Ac ?_) | (with_reducible refine GH ?_) | (with_reducible refine EL ?_) | (with_reducible refine Af ?_))
local macro_rules | `(tactic| walk_at "l2step") =>`(tactic| first | (with_reducible refine GJ ?_) | (with_reducible refine s_dnot ?_) | (with_reducible refine s_disp1I ?_) | ((with_reducible refine' s_listD ?e ?_);(case e=>walk_at "l2at")))
local macro_rules | `(tactic| walk_at "l2step") =>`(tactic| first | (with_reducible refine Cv ?_) | (with_reducible refine s_try0 ?_) | (with_reducible refine s_callX ?_))
noncomputable def top (i:Nat):Stmt:=PySem.Challenge.pw_sumwires_k62_whole_alike_ones_have_one_l.main.body.getD i (.Pass ⟨0,0,0,0⟩)
noncomputable abbrev lH:Stmt:=top 7
theorem ui:aB ["thing"] ["thing"] (ah lH):=by walk_at "s"
noncomputable abbrev nJ:Stmt:=top 8
theorem wg:aB ["thing","width"] ["thing","width"] (ah nJ):=by walk_at "s"
noncomputable abbrev xW:Stmt:=top 9
theorem nv:aB ["number","width","half"] ["number"] (ah xW):=by walk_at "s"
noncomputable abbrev kI:Stmt:=top 10
theorem wj:aB ["mask"] ["mask"] (ah kI):=by walk_at "s"
noncomputable abbrev nH:Stmt:=top 11
theorem jC:aB ["places","mask","place"] ["places"] (ah nH):=by walk_at "s"
noncomputable abbrev jD:Stmt:=top 12
theorem ug:aB ["whole","width","count"] ["whole","width","count"] (ah jD):=by walk_at "s"
noncomputable abbrev nI:Stmt:=top 17
theorem we:aB ["thing","stores","inputs"] ["thing","stores","inputs"] (ah nI):=by walk_at "s"
noncomputable abbrev fT:Stmt:=top 18
theorem ph:aB ["inputs","nexts","outs"] ["inputs","nexts","outs"] (ah fT):=by walk_at "s"
noncomputable abbrev qD:Stmt:=top 19
theorem xT:aB ["pair","state","row"] ["pair","state","row"] (ah qD):=by walk_at "s"
noncomputable abbrev gK:Stmt:=top 20
theorem qC:aB ["pairs","state","row"] ["pairs","state","row"] (ah gK):=by walk_at "s"
noncomputable abbrev dY:Stmt:=eJ (top 21) 0
theorem j7:aB ["self","inputs","nexts","outs"] ["self","inputs","nexts","outs"] (ah dY):=by walk_at "s"
noncomputable abbrev fM:Stmt:=eJ (top 21) 1
theorem lF:aB ["self"] ["self"] (ah fM):=by walk_at "s"
noncomputable abbrev eh:Stmt:=eJ (top 21) 2
theorem kH:aB ["self"] ["self"] (ah eh):=by walk_at "s"
noncomputable abbrev cZ:Stmt:=eJ (top 21) 4
theorem iX:aB ["self","state"] ["self","state"] (ah cZ):=by walk_at "s"
noncomputable abbrev gZ:Stmt:=eJ (top 21) 5
theorem nC:aB ["self","state","row"] ["self","state","row"] (ah gZ):=by walk_at "s"
noncomputable abbrev fL:Stmt:=eJ (top 21) 6
theorem cA:aB ["self","rows","state","answers","row","done"] ["self","rows","state"] (ah fL):=by walk_at "s"
noncomputable abbrev dw:Stmt:=eJ (top 21) 7
theorem pj:aB ["self","rows","state"] ["self","rows","state"] (ah dw):=by walk_at "s"
noncomputable abbrev fN:Stmt:=eJ (top 21) 9
theorem hV:aB ["self","which","turns","rows"] ["self","which","turns"] (ah fN):=by walk_at "s"
noncomputable abbrev g0:Stmt:=eJ (top 21) 10
theorem cB:aB ["self","mask","store_mask","input_mask","place"] ["self","mask"] (ah g0):=by walk_at "s"
noncomputable abbrev fK:Stmt:=eJ (top 23) 0
theorem eg:aB ["self","rows","place","row"] ["self","rows"] (ah fK):=by walk_at "s"
noncomputable abbrev gq:Stmt:=eJ (top 23) 1
theorem cO:aB ["self","mask","places","found"] ["self","mask"] (ah gq):=by walk_at "s"
noncomputable abbrev kc:Stmt:=eJ (top 23) 2
theorem i6:aB ["self","place","row","found","places"] ["self","place","row"] (ah kc):=by walk_at "s"
noncomputable abbrev gu:Stmt:=eJ (top 23) 3
theorem dF:aB ["self","bit","mask","top"] ["self","bit"] (ah gu):=by walk_at "s"
noncomputable abbrev xZ:Stmt:=top 24
theorem Ct:aB ["rows"] ["rows"] (ah xZ):=by walk_at "s"
noncomputable abbrev nE:Stmt:=top 25
theorem lE:aB ["rows","wish","steps","found"] ["rows","wish"] (ah nE):=by walk_at "s"
noncomputable abbrev nG:Stmt:=top 27
theorem jB:aB ["machine","turns","states","told","turn"] ["machine","turns"] (ah nG):=by walk_at "s"
noncomputable abbrev nF:Stmt:=top 28
theorem wc:aB ["machine","places","turns"] ["machine","places","turns"] (ah nF):=by walk_at "s"
noncomputable abbrev fw:Stmt:=top 30
theorem dW:aB ["machine","masks","told","turn"] ["machine"] (ah fw):=by walk_at "s"
noncomputable abbrev jE:Stmt:=top 31
theorem uh:aB ["mask","others"] ["mask","others"] (ah jE):=by walk_at "s"
noncomputable abbrev gj:Stmt:=top 32
theorem mG:aB ["pair","states","seen"] ["pair","states","seen"] (ah gj):=by walk_at "s"
noncomputable abbrev gm:Stmt:=top 33
theorem fg:aB ["machine","leads","masks","led","states","looks","seen","nexts","outs","rows"] ["machine"] (ah gm):=by walk_at "s"
noncomputable abbrev j8:Stmt:=top 35
theorem i4:aB ["one","other","pair","row","width","low"] ["one","other","pair","row"] (ah j8):=by walk_at "s"
noncomputable abbrev dC:Stmt:=top 36
theorem bQ:aB ["one","other","turns","inputs","ones","others","turn","which"] ["one","other"] (ah dC):=by walk_at "s"
noncomputable abbrev cC:Stmt:=top 37
theorem cN:aB ["one","other","pairs","told","turn"] ["one","other"] (ah cC):=by walk_at "s"
noncomputable abbrev fY:Stmt:=top 38
theorem dH:aB ["one","other","apart","pairs","begins","sums","width","states"] ["one","other"] (ah fY):=by walk_at "s"
noncomputable abbrev ka:Stmt:=top 40
theorem rZ:aB ["_law_script","_law_k"] ["_law_script","_law_k"] (ah ka):=by walk_at "s"
noncomputable abbrev lI:Stmt:=top 41
theorem j6:aB ["_law_cell_here","_law_k","_law_number"] ["_law_cell_here","_law_k"] (ah lI):=by walk_at "s"
noncomputable abbrev jb:Stmt:=top 42
theorem dX:aB ["_law_cell_here","_law_start","_law_many","_law_width","_law_digits","_law_found","_law_left","_law_k"] ["_law_cell_here","_law_start","_law_many","_law_width","_law_digits"] (ah jb):=by walk_at "s"
noncomputable abbrev gX:Stmt:=top 43
theorem bR:aB ["_law_masks_here","_law_cell_here","_law_start","_law_way","_law_found","_law_k","_law_mask"] ["_law_masks_here","_law_cell_here","_law_start","_law_way"] (ah gX):=by walk_at "s"
noncomputable abbrev cT:Stmt:=top 44
theorem az:aB ["_law_script","_law_start","_law_most","_law_cell_here","_law_stores","_law_inputs","_law_outputs","_law_digits","_law_way","_law_one","_law_other_here","_law_shown_here","_law_straight"] ["_law_script","_law_start","_law_most"] (ah cT):=by walk_at "s"
noncomputable abbrev bE:Stmt:=top 45
theorem bD:aB ["_law_tables","_law_cell_here","_law_inputs","_law_nexts","_law_outs","_law_many","_law_order","_law_moved","_law_rows","_law_pairs"] ["_law_tables","_law_cell_here"] (ah bE):=by walk_at "s"
noncomputable abbrev fz:Stmt:=top 46
theorem bO:aB ["_law_tables","_law_cell_here","_law_inputs","_law_nexts","_law_outs","_law_many","_law_at","_law_dead","_law_shown_here","_law_twin"] ["_law_tables","_law_cell_here"] (ah fz):=by walk_at "s"
noncomputable abbrev gY:Stmt:=top 47
theorem ny:aB ["_law_mask","_law_at","_law_many","_law_way"] ["_law_mask","_law_at","_law_many","_law_way"] (ah gY):=by walk_at "s"
noncomputable abbrev j9:Stmt:=top 48
theorem rY:aB ["_law_tables"] ["_law_tables"] (ah j9):=by walk_at "s"
noncomputable abbrev ja:Stmt:=top 49
theorem fS:aB ["_law_tables","_law_cell_here","_law_k"] ["_law_tables","_law_cell_here"] (ah ja):=by walk_at "s"
noncomputable abbrev i9:Stmt:=top 50
theorem cI:aB ["_law_tables","_law_cell_here","_law_inputs","_law_nexts","_law_outs","_law_at","_law_mask","_law_row"] ["_law_tables","_law_cell_here"] (ah i9):=by walk_at "s"
noncomputable abbrev uj:Stmt:=top 51
theorem i5:aB ["_law_script","_law_tables","_law_others","_law_one","_law_other_here","_law_first","_law_second","_law_rows","_law_answers","_law_machine_here","_law_far"] ["_law_script"] (ah uj):=by walk_at "s"
noncomputable abbrev FR (K:a') (x q:Hk) (st:JQ) (f:ee):Prop:=∃(φ:hG) (od:HL) (kV α I:hG) (an:HL) (G ct:hG) (ν:HH),K.lookup f=aT ⟨φ,od,.func (Iw x q (d4 st) (cM st) (ah st) .none kV α I an G ct),ν⟩/\JC K G q=true/\Iy K (.ref f)=true
theorem FR.mk {K:a'} {x q:Hk} {st:JQ} {f:ee} {φ:hG} {od:HL} {kV α I:hG} {an:HL} {G ct:hG} {ν:HH} (h1:K.lookup f=aT ⟨φ,od,.func (Iw x q (d4 st) (cM st) (ah st) .none kV α I an G ct),ν⟩) (h2:JC K G q=true) (J:Iy K (.ref f)=true):FR K x q st f:=⟨_,_,_,_,_,_,_,_,_,h1,h2,J⟩
structure FT (K:a') (x q:Hk) (st:JQ) (f:ee) (d:kv) (ps:C'):Prop where
 F:Fun K x q st f d
 b:kC K d ps []
theorem FR.ok {K:a'} {x q:Hk} {st:JQ} {f:ee} {ps:C'} (h:FR K x q st f) (g:∀(kV α I:hG) (an:HL) (G ct:hG) (us:F'),us.length=ps.length->bindArgs (Iw x q (d4 st) (cM st) (ah st) .none kV α I an G ct) ⟨us,[]⟩=pure (ps.zip us)):∃d,FT K x q st f d ps:=by
 obtain⟨_,_,_,_,_,_,_,_,_,h1,h2,J⟩:=h;have F:=y2 (st:=st) h1 h2 J;exact⟨_,F,F.binds g⟩
theorem ai {X:Cx} {CX:CXT} {k j:Nat} {f:ee} {fd:kv} {ps:C'} {sp:Sp} {E:XK} {x n q:Hk} {st:JQ} {p pos:Pos} {e:Hi} {es:ef Hi} {t:TA} (F:FnOk X.prog X.w X.K X.mg X.base CX k f fd ps sp) (G:Room j X.A) (hm:X.mg x=aT (.ref f)) (U:FT X.K n q st f fd ps)
  (ha:PA X (e::es) t) (I:mF CX X E:=by exact dZ) (J:k<=j:=by decide) (L:Gl X x:=by rfl) (Z:(x == ("__debug__":Hk))=false:=by decide) (he:oD (e::es) X.env=(false,eval e X.env)::oD es X.env:=by rfl) (ψ:(backTo pos (oD es X.env)).any (·.1)=false:=by rfl):
  PE X (.Call (.Name x p) (e::es) [] pos) (zT sp [] E t):=ym F (G.mono J) L hm U.1.2 U.2 .nil I ha Z he ψ
noncomputable abbrev NI (K:a') (x:Hk) (f:ee):Prop:=NW K Ia x=aT (aT (.ref f))
noncomputable abbrev NN (K:a') (x:Hk):Prop:=NW K Ia x=aT eH
noncomputable abbrev FI (K:a') (c:ee) (x:Hk) (f:ee):Prop:=zP K (.ref c) x=aT (aT (.ref f))
noncomputable abbrev FN (K:a') (c:ee) (x:Hk):Prop:=zP K (.ref c) x=aT eH
theorem bln0 {l:ef Im} (h:l.length=0):l=[]:=LV h
theorem bln1 {l:ef Im} (h:l.length=1):∃a,l=[a]:=List.length_eq_one_iff.mp h
theorem bln2 {l:ef Im} (h:l.length=2):∃a b,l=[a,b]:=by cases l with | nil=>cases h | cons a l=>obtain ⟨b,z⟩:=bln1 (Ka h);exact ⟨a,b,z ▸ rfl⟩
theorem bln3 {l:ef Im} (h:l.length=3):∃a b c,l=[a,b,c]:=by cases l with | nil=>cases h | cons a l=>obtain ⟨b,c,z⟩:=bln2 (Ka h);exact ⟨a,b,c,z ▸ rfl⟩
theorem bln4 {l:ef Im} (h:l.length=4):∃a b c d,l=[a,b,c,d]:=by cases l with | nil=>cases h | cons a l=>obtain ⟨b,c,d,z⟩:=bln3 (Ka h);exact ⟨a,b,c,d,z ▸ rfl⟩
theorem bln5 {l:ef Im} (h:l.length=5):∃a b c d e,l=[a,b,c,d,e]:=by cases l with | nil=>cases h | cons a l=>obtain ⟨b,c,d,e,z⟩:=bln4 (Ka h);exact ⟨a,b,c,d,e,z ▸ rfl⟩
theorem bln6 {l:ef Im} (h:l.length=6):∃a b c d e f,l=[a,b,c,d,e,f]:=by cases l with | nil=>cases h | cons a l=>obtain ⟨b,c,d,e,f,z⟩:=bln5 (Ka h);exact ⟨a,b,c,d,e,f,z ▸ rfl⟩
theorem bln7 {l:ef Im} (h:l.length=7):∃a b c d e f g,l=[a,b,c,d,e,f,g]:=by cases l with | nil=>cases h | cons a l=>obtain ⟨b,c,d,e,f,g,z⟩:=bln6 (Ka h);exact ⟨a,b,c,d,e,f,g,z ▸ rfl⟩
local macro_rules | `(tactic| walk_at "b") =>`(tactic| first | (refine fun _ _ _ _ _ _ us hl=>?_;obtain ⟨_,hz⟩:=bln1 hl;subst hz;rfl) | (refine fun _ _ _ _ _ _ us hl=>?_;obtain ⟨_,_,hz⟩:=bln2 hl;subst hz;rfl) | (refine fun _ _ _ _ _ _ us hl=>?_;obtain ⟨_,_,_,hz⟩:=bln3 hl;subst hz;rfl) | (refine fun _ _ _ _ _ _ us hl=>?_;obtain ⟨_,_,_,_,hz⟩:=bln4 hl;subst hz;rfl) | (refine fun _ _ _ _ _ _ us hl=>?_;obtain ⟨_,_,_,_,_,hz⟩:=bln5 hl;subst hz;rfl) | (refine fun _ _ _ _ _ _ us hl=>?_;obtain ⟨_,_,_,_,_,_,hz⟩:=bln6 hl;subst hz;rfl) | (refine fun _ _ _ _ _ _ us hl=>?_;obtain ⟨_,_,_,_,_,_,_,hz⟩:=bln7 hl;subst hz;rfl))
abbrev n10:C':=["machine","leads","masks","led","states","looks","seen","nexts","outs","rows"]
abbrev n11:C':=["_law_k","_law_mask","_law_script","_law_start"]
abbrev n12:C':=["_law_mask","_law_row","_law_order","_law_many"]
abbrev n13:C':=["_law_k","_law_mask","_law_row","_law_cell_here","_law_many"]
abbrev n14:C':=["_law_k","_law_mask","_law_row","_law_at","_law_many","_law_cell_here"]
abbrev n15:C':=["place","machine"]
abbrev n16:C':=["_law_script","_law_start","_law_most","_law_cell_here","_law_stores","_law_inputs","_law_outputs","_law_digits","_law_way","_law_one","_law_other_here","_law_shown_here","_law_straight"]
abbrev n17:C':=["_law_tables","_law_cell_here","_law_inputs","_law_nexts","_law_outs","_law_many","_law_order","_law_moved","_law_rows","_law_pairs"]
abbrev n18:C':=["_law_mask","_law_row"]
abbrev n19:C':=["place","pair","state","row"]
abbrev n20:C':=["place","other","mask"]
abbrev n21:C':=["one","other","pairs","told","turn"]
abbrev n22:C':=["one","other","apart","pairs","begins","sums","width","states"]
abbrev n23:C':=["_law_tables","_law_cell_here","_law_inputs","_law_nexts","_law_outs","_law_many","_law_at","_law_dead","_law_shown_here","_law_twin"]
abbrev n24:C':=["one","other","turns","inputs","ones","others","turn","which"]
set_option genInjectivity false in
set_option genSizeOf false in
structure Ad where
 dy:ee
 jL:kv
 fE:ee
 oO:kv
 oJ:ee
 BK:kv
 gF:ee
 sY:kv
 gD:ee
 sW:kv
 eK:ee
 qj:kv
 gE:ee
 sX:kv
 cK:ee
 k8:kv
 iH:ee
 vH:kv
 dc:ee
 my:kv
 aN:ee
 gR:kv
 bb:ee
 iV:kv
 aU:ee
 ik:kv
 aH:ee
 fG:kv
 bG:ee
 j2:kv
 a9:ee
 iU:kv
 bH:ee
 iL:kv
 iJ:hG
 bc:ee
 iW:kv
 bI:ee
 j3:kv
 a8:ee
 iT:kv
 bj:ee
 jv:kv
 cL:ee
 oS:kv
 bo:ee
 jw:kv
 oK:ee
 BL:kv
 gz:ee
 sU:kv
 kr:ee
 zi:kv
 gC:ee
 sV:kv
 de:ee
 mz:kv
 eL:ee
 qk:kv
 bU:ee
 jt:kv
 ku:ee
 zj:kv
 dM:ee
 oN:kv
 cj:ee
 jY:kv
 bW:ee
 ju:kv
 eM:ee
 ql:kv
 dO:ee
 oR:kv
 eN:ee
 qm:kv
 di:ee
 mD:kv
 ck:ee
 jZ:kv
 cq:ee
 j1:kv
 a7:ee
 iK:kv
 dj:ee
 mE:kv
 cn:ee
 j0:kv
 dN:ee
 oQ:kv
 dh:ee
 mC:kv
 df:ee
 mB:kv
 wO:ee
 FX:kv
 ao:ee
 aV:ee
 mm:ee
 cQ:ee
 gb:ee
 iy:Tok
 j5:Tok
 ix:Tok
open PySem.W in
structure Tx (K:Frag) (mg:G') (a:Ad):Prop where
 gc:FT K "is_whole" "is_whole" lH a.dy a.jL ["thing"]
 mh:mg "is_whole"=aT (.ref a.dy)
 gI:FT K "is_mask" "is_mask" nJ a.fE a.oO ["thing","width"]
 kZ:mg "is_mask"=aT (.ref a.fE)
 o4:FT K "even" "even" xW a.oJ a.BK ["number"]
 vF:mg "even"=aT (.ref a.oJ)
 jy:FT K "bits_of" "bits_of" kI a.gF a.sY ["mask"]
 sM:mg "bits_of"=aT (.ref a.gF)
 gH:FT K "mask_of" "mask_of" nH a.gD a.sW ["places"]
 kX:mg "mask_of"=aT (.ref a.gD)
 jP:FT K "unpacked" "unpacked" jD a.eK a.qj ["whole","width","count"]
 wM:mg "unpacked"=aT (.ref a.eK)
 lC:FT K "is_pair" "is_pair" nI a.gE a.sX ["thing","stores","inputs"]
 yY:mg "is_pair"=aT (.ref a.gE)
 fV:FT K "check_table" "check_table" fT a.cK a.k8 ["inputs","nexts","outs"]
 rg:mg "check_table"=aT (.ref a.cK)
 ng:FT K "is_odd" "is_odd" qD a.iH a.vH ["pair","state","row"]
 AR:mg "is_odd"=aT (.ref a.iH)
 fH:FT K "odd_places" "odd_places" gK a.dc a.my ["pairs","state","row"]
 mx:mg "odd_places"=aT (.ref a.dc)
 b7:FT K "__init__" "Machine.__init__" dY a.aN a.gR ["self","inputs","nexts","outs"]
 ax:FT K "stores" "Machine.stores" fM a.bb a.iV ["self"]
 bC:FT K "outputs" "Machine.outputs" eh a.aU a.ik ["self"]
 aP:FT K "check_state" "Machine.check_state" cZ a.aH a.fG ["self","state"]
 bJ:FT K "step" "Machine.step" gZ a.bG a.j2 ["self","state","row"]
 cS:FT K "walked" "Machine.walked" fL a.a9 a.iU ["self","rows","state"]
 d7:FunD K "run" "Machine.run" dw a.bH a.iL a.iJ
 d8:kC K a.iL ["self","rows","state"] [a.iJ]
 iw:RelV (.int 0) a.iJ
 b0:FT K "single" "Machine.single" fN a.bc a.iW ["self","which","turns"]
 cV:FT K "back" "Machine.back" g0 a.bI a.j3 ["self","mask"]
 cR:FT K "__init__" "Steps.__init__" fK a.a8 a.iT ["self","rows"]
 cH:FT K "lowered" "Steps.lowered" gq a.bj a.jv ["self","mask"]
 gJ:FT K "lay" "Steps.lay" kc a.cL a.oS ["self","place","row"]
 du:FT K "barring" "Steps.barring" gu a.bo a.jw ["self","bit"]
 qr:FT K "base" "base" xZ a.oK a.BL ["rows"]
 yZ:mg "base"=aT (.ref a.oK)
 ir:FT K "sum_for" "sum_for" nE a.gz a.sU ["rows","wish"]
 oC:mg "sum_for"=aT (.ref a.gz)
 rO:FT K "reach" "reach" nG a.kr a.zi ["machine","turns"]
 DJ:mg "reach"=aT (.ref a.kr)
 lj:FT K "rows_at" "rows_at" nF a.gC a.sV ["machine","places","turns"]
 yX:mg "rows_at"=aT (.ref a.gC)
 gS:FT K "look_masks" "look_masks" fw a.de a.mz ["machine"]
 sL:mg "look_masks"=aT (.ref a.de)
 eV:FT K "odd_with" "odd_with" jE a.eL a.qk ["mask","others"]
 jI:mg "odd_with"=aT (.ref a.eL)
 dq:FT K "told_by_looks" "told_by_looks" gj a.bU a.jt ["pair","states","seen"]
 jr:mg "told_by_looks"=aT (.ref a.bU)
 mq:FT K "least" "least" gm a.ku a.zj ["machine"]
 uK:mg "least"=aT (.ref a.ku)
 dP:FT K "next_pair" "next_pair" j8 a.dM a.oN ["one","other","pair","row"]
 iG:mg "next_pair"=aT (.ref a.dM)
 fi:FT K "first_unlike" "first_unlike" dC a.cj a.jY ["one","other"]
 pV:mg "first_unlike"=aT (.ref a.cj)
 d6:FT K "pairs_come_to" "pairs_come_to" cC a.bW a.ju ["one","other"]
 oE:mg "pairs_come_to"=aT (.ref a.bW)
 gh:FT K "compared" "compared" fY a.eM a.ql ["one","other"]
 mi:mg "compared"=aT (.ref a.eM)
 bz:FT K "_law_cell" "_law_cell" ka a.dO a.oR ["_law_script","_law_k"]
 cf:mg "_law_cell"=aT (.ref a.dO)
 aW:FT K "_law_mix" "_law_mix" lI a.eN a.qm ["_law_cell_here","_law_k"]
 bq:mg "_law_mix"=aT (.ref a.eN)
 dr:FT K "_law_masks" "_law_masks" jb a.di a.mD ["_law_cell_here","_law_start","_law_many","_law_width","_law_digits"]
 gQ:mg "_law_masks"=aT (.ref a.di)
 fj:FT K "_law_thinned" "_law_thinned" gX a.ck a.jZ ["_law_masks_here","_law_cell_here","_law_start","_law_way"]
 pW:mg "_law_thinned"=aT (.ref a.ck)
 fq:FT K "_law_machine" "_law_machine" cT a.cq a.j1 ["_law_script","_law_start","_law_most"]
 pZ:mg "_law_machine"=aT (.ref a.cq)
 fW:Fun K "_law_turned" "_law_turned" bE a.a7 a.iK
 rf:keepIn K (.ref a.a7)=true
 iN:kC K a.iK ["_law_tables","_law_cell_here"] []
 rh:mg "_law_turned"=aT (.ref a.a7)
 gW:FT K "_law_grown" "_law_grown" fz a.dj a.mE ["_law_tables","_law_cell_here"]
 sP:mg "_law_grown"=aT (.ref a.dj)
 fm:FT K "_law_swapped" "_law_swapped" gY a.cn a.j0 ["_law_mask","_law_at","_law_many","_law_way"]
 pX:mg "_law_swapped"=aT (.ref a.cn)
 eW:FT K "_law_made" "_law_made" j9 a.dN a.oQ ["_law_tables"]
 kq:mg "_law_made"=aT (.ref a.dN)
 gU:FT K "_law_other" "_law_other" ja a.dh a.mC ["_law_tables","_law_cell_here"]
 sO:mg "_law_other"=aT (.ref a.dh)
 gT:FT K "_law_shown" "_law_shown" i9 a.df a.mB ["_law_tables","_law_cell_here"]
 sN:mg "_law_shown"=aT (.ref a.df)
 Be:Fun K "law" "law" uj a.wO a.FX
 sQ:mg "Machine"=aT (.ref a.ao)
 aq:Cls K a.ao
 tQ:Mk K a.ao a.aN
 aA:Meth K a.ao "stores" a.bb
 eI:Meth K a.ao "outputs" a.aU
 c9:Meth K a.ao "check_state" a.aH
 dE:Meth K a.ao "step" a.bG
 mM:Meth K a.ao "walked" a.a9
 iF:Meth K a.ao "run" a.bH
 iR:Meth K a.ao "single" a.bc
 jV:Meth K a.ao "back" a.bI
 aL:fP K a.ao "inputs"
 cF:fP K a.ao "nexts"
 dD:fP K a.ao "outs"
 y1:mg "Steps"=aT (.ref a.aV)
 dQ:Cls K a.aV
 zI:Mk K a.aV a.a8
 jm:Meth K a.aV "lowered" a.bj
 uz:Meth K a.aV "lay" a.cL
 n8:Meth K a.aV "barring" a.bo
 cU:fP K a.aV "by_top"
 dJ:fP K a.aV "free_places"
 gP:fP K a.aV "null_masks"
 oF:mg "BadMask"=aT (.ref a.cQ)
 gi:excIn K a.cQ [.type "ValueError",.type "Exception",.type "BaseException",.type "object"] "ValueError.__new__"=true
 jJ:mg "BadTable"=aT (.ref a.gb)
 dR:excIn K a.gb [.type "ValueError",.type "Exception",.type "BaseException",.type "object"] "ValueError.__new__"=true
 rl:mg "MOST_INPUTS"=aT (.int 6 a.iy)
 uL:mg "MOST_OUTS"=aT (.int 6 a.j5)
 rj:mg "MOST_STORES"=aT (.int 120 a.ix)
 GV:mg "all"=eH
 Fv:mg "bool"=eH
 AC:mg "divmod"=eH
 c7:mg "enumerate"=eH
 GU:mg "int"=eH
 fA:mg "isinstance"=eH
 n6:mg "len"=eH
 n0:mg "list"=eH
 GT:mg "min"=eH
 dI:mg "range"=eH
 vA:mg "sorted"=eH
 GS:mg "sum"=eH
 uw:mg "tuple"=eH
 C6:mg "zip"=eH
section
variable {P:px} {w:wq} {K:a'} {mg:G'} {base:zx} {a:Ad}
section
theorem ki (T:Tx K mg a):FnOk P w K mg base CX0 1 a.dy a.jL ["thing"] (mY K):=by
 refine T.gc.1.okA ui λI A outer s H vs Q E J h=>?_;obtain⟨x,k,rfl,hk,q⟩:=h;refine⟨_,((aj (aI (sf (bF (jx (K:=K) rfl) (by rfl) T.fA IL (!j 0 (aa (nO (v:= .ty "int") (by rfl) T.GU PyProof.Rows.boot_int rfl) af))) (vv (Fg (bF (jx (K:=K) rfl) (by rfl) T.fA IL (!j 0 (aa (nO (v:= .ty "bool") (by rfl) T.Fv PyProof.Rows.boot_bool rfl) af))))))))),aD (σ':=[aT _]) rfl ?_⟩;lia;unfold xC at q;cases G:subB k "int"
 ·rw[G] at q;lia;exact q
 ·rw[G] at q;lia;exact q
local macro_rules | `(tactic| walk_at "l2step") =>`(tactic| ((with_reducible refine' iM ?e ?_);(case e=>walk_at "l2kind")))
theorem lQ (T:Tx K mg a):FnOk P w K mg base CX0 2 a.fE a.oO ["thing","width"] (tX K):=by
 have π:FnOk P w K mg base CX0 1 a.dy a.jL ["thing"] (mY K):=ki T;refine T.gI.1.okA wg λJ A outer s H vs Q E I h=>?_;obtain⟨x,k,Z,rfl,hk,q⟩:=h;refine⟨_,((aj (aI (sf (ai π I T.mh T.gc (!j 0 af)) (sf (ke Fo (pv 0) ag (aQ _)) (vv (ke GO (kg (K:=K) rfl Iz HR Hz km (pv 0)) (pv 1) (aQ _)))))))),aD (σ':=[aT _,aT _]) rfl ?_⟩;lia;cases x with
 | int i=>
   have hk:k="int":=hk;subst hk;lia;have q:Q (.bl (decide (0<=i)&&decide (((vu i:Nat):Int)<=Z))) H:=q;cases G:decide (0<=i)
   ·rw[G] at q;lia;exact q
   ·rw[G] at q;lia;exact q
 | bl b=>have hk:k="bool":=hk;subst hk;lia;exact q
 | non=>have hk:k="NoneType":=hk;subst hk;lia;exact q
 | str z=>have hk:k="str":=hk;subst hk;lia;exact q
 | ref p=>
   rcases hk with ⟨rfl,_⟩ | ⟨rfl,_⟩ | ⟨rfl,_⟩<;>lia<;>exact q
 | _=>exact Hr hk
local macro_rules | `(tactic| walk_at "l2step") =>`(tactic| ((with_reducible refine' lg ?e ?_);(case e=>walk_at "l2kind")))
theorem qT (T:Tx K mg a):FnOk P w K mg base CX0 1 a.oJ a.BK ["number"] Ce:=by
 refine T.o4.1.okA nv fun ε A outer s H vs Q E ζ h=>?_;obtain⟨m,rfl,hm,q⟩:=h
 refine⟨_,((ae (ay (i:=1) nv.nd rfl @D (kg (K:=K) rfl Iz HR Hz km (pv 0)))
  (ae (vn Hq (aK nT (pv 1) ag (aQ _)) (ae (ay (i:=2) nv.nd rfl @D (ar g6 (ar cw (pv 1) ag) ag))
  (ae (ay (i:=0) nv.nd rfl @D (ar jg (ar nS (pv 0) (pv 2)) (ar fO (pv 0) (ar kL (ar cE ag (pv 2)) ag))))
  (aj (ay (i:=1) nv.nd rfl @D (pv 2))))))
  (aj (aI (ke jh (pv 0) ag (aQ _))))))),aD (σ':=[aT _,eH,eH]) rfl ?_⟩
 lia;refine⟨fun μ σ' H'=>∃n hf,σ'=[aT (nat n),aT (nat μ),hf]/\H'=H/\n < 2 ^ μ/\μ<=1000/\M.od n=M.od m,⟨vu (m:Int),m,eH,rfl,rfl,uT m,uU hm,rfl⟩,?_⟩;rintro μ σ' H' ⟨n,hf,rfl,rfl,hn,hw,α⟩;lia;refine iteB (λJ=>?_) (λJ=>?_)
 ·have J:=Ji J;have L:(μ + 1) / 2 < μ:=by omega
  refine⟨λG H2=>∃I hf,G=[aT (nat I),aT (nat ((μ + 1) / 2)),hf]/\H2=H'/\I < 2 ^ ((μ + 1) / 2)/\M.od I=M.od m,λG H2 ⟨I,Z,e1,δ,γ,β⟩=>⟨(μ + 1) / 2,L,I,Z,e1,δ,γ,@A,β⟩,?_⟩;lia;refine⟨(n>>>((μ + 1) / 2))^^^(n&&&(2 ^ ((μ + 1) / 2) - 1)),aT (nat ((μ + 1) / 2)),?_,rfl,M.fold_lt μ _ n hn @A,?_⟩
  ·rw[yW,y9]
  ·rw[<-α];have f:=M.pb_fold μ ((μ + 1) / 2) n @A hn @A;show M.pb 1000 _=M.pb 1000 _;rw[M.pb_up (M.fold_lt μ _ n hn @A) @A,f,<-M.pb_up hn hw]
 ·have J:=of_decide_eq_false J;have Y:n < 2:=eu hn (hD @C (show μ<=1 by omega));lia;rw[show decide (V.int (n:Int)=V.int 0)= !M.od n from AA Y,α];exact q
theorem mJ (T:Tx K mg a):FnOk P w K mg base CX0 2 a.bo a.jw ["self","bit"] (Ez a.aV):=by
 refine T.du.1.okA dF λa3 A outer s H vs Q E φ h=>?_;obtain⟨p,d,f,n,ρ,b,rfl,st,hb,η,a0,θ,q⟩:=h;have β:=AM φ;obtain⟨dx,ho⟩:=st.ho;obtain⟨es,hd,ht,g,l⟩:=st.he;have nd:(es.map λe=>e.m.log2).Nodup:=by have:=g.nd;rw[Iv] at this;exact this
 refine⟨_,((ae (ay (i:=2) dF.nd rfl @D (ar cE ag (pv 1)))
  (ae (gM Hq rfl (aX (K:=K) rfl (bF (w4 rfl) (by rfl) T.vA PyProof.Rows.boot_sorted (aa (bw (K:=K) rfl (pv 0) rfl) af))) (aw (i:=3) dF.nd rfl @D) (aj (dz (hX (gv (ai (qT T) φ T.vF T.o4 (aa (ar fO (pv 2) (bg (aE (K:=K) rfl) (yl β (bw (K:=K) rfl (pv 0) rfl) (pv 3) (λ_ _=>rfl)) ag (λ_ _=>rfl))) af)))) (aj (ay (i:=2) dF.nd rfl @D (ar jg (pv 2) (ar cE ag (pv 3))))) be)))
  (aj (aI (pv 2)))))),aD (σ':=[aT _,aT _,eH,eH]) rfl ?_⟩
 lia;refine bu ho T.dQ T.cU rfl ?_;lia;refine Cu hd (AH es) (by unfold kW;rw[cY];omega) λL ns H1 f1 Y e1 ω hw=>?_;obtain⟨α,rfl,up,mem⟩:=tW ω hw nd;rw[<-yy] at e1;lia;rw[shl1];refine jK (xs:=α.map nat) (λi σ H'=>∃(m:Nat) (v:ry V),σ=[aT (.ref p),aT (nat b),aT (nat m),v]/\H'=H1/\M.BarI (es.map λe=>(e.m,e.p)) (α.take i) b m) ⟨2 ^ b,eH,rfl,rfl,M.BarI.zero _ b⟩ (λi σ H' _ ⟨_,_,_,e,_⟩=>by rw[e];exact SqL.of e1) ?_ ?_
 ·rintro i y σ H' χ ⟨m,v,rfl,rfl,I⟩;obtain⟨t,ο,rfl⟩:=aO χ;obtain⟨hi,ξ⟩:=b'.mp ο;rcases nj es (t:Int) with ⟨e,he,Z,ev⟩ | ⟨ι,_⟩
  ·have Z:e.m.log2=t:=by omega
   subst Z;have G:(e.m,e.p)∈es.map (λe=>(e.m,e.p)):=qE.mpr ⟨e,he,rfl⟩;have π:e.m < 2 ^ 1000:=M.span_lt η (g.span G);have ζ:e.m.log2 < 1000:=M.log2_under (g.nz _ G) π;have ψ:=Y.get (ht e he)
   have δ:∀t∈α.take i,t < e.m.log2:=λt hm=>by
    obtain⟨j,hj,υ⟩:=Ht.mp hm;rw[Ho] at hj;rw[Kq] at υ;have:=Mj.mp up j i @A hi @A;rw[υ,ξ] at this;exact this
   have γ:e.m.log2≠b:=θ e.m (g.span G) (g.nz _ G);have J:=g.nd;lia;refine bu (Y.get ho) T.dQ T.cU rfl ?_;lia;refine xX (Y.get hd) ev ?_;lia;rw[bt];refine⟨m&&&e.m,rfl,Hf Kt π,?_⟩;cases ε:M.od (m&&&e.m) with
   | true=>
     lia;refine⟨m^^^2 ^ e.m.log2,aT (nat e.m.log2),by rw[shl1,cG],rfl,?_⟩;rw[take_succ ο];exact I.flip (e:=(e.m,e.p)) J g.nz G ε δ γ ζ
   | false=>
     lia;rw[take_succ ο];exact I.keep (e:=(e.m,e.p)) J G ε
  ·obtain⟨e,he,Z⟩:=(mem t).mp (eO ο);exact hE (by rw[Z]) (ι e he)
 ·rintro σ H' ⟨m,v,rfl,rfl,I⟩;rw[cY,Hw] at I;lia;refine q m H' Y (I.done g λe he=>?_);obtain⟨τ,ν,rfl⟩:=qE.mp he;exact(mem _).mpr ⟨τ,ν,rfl⟩
theorem qg (T:Tx K mg a):FnOk P w K mg base CX0 1 a.gF a.sY ["mask"] Cg:=by
 refine T.jy.1.okA wj λG A outer s H vs Q E I h=>?_;obtain⟨m,rfl,hm,q⟩:=h;have hb:=uU hm;refine⟨_,((aj (aI (eG (osc:=ah kI) (ON:=["mask"]) (N:=["place","mask"]) (n:=1) (fx:=[0]) rfl rfl rfl (by decide +kernel) (cD (by rfl) T.dI (aa (kg (K:=K) rfl Iz HR Hz km (pv 0)) af)) (aF @C) (λ_ _ _ _ _=>⟨(aw (i:=0) (show mu (["place","mask"]:C') from by decide +kernel) rfl @D),(um (aK jh (ar fO (ar nS (pv 1) (pv 0)) ag) ag (aQ _))),(pv 0)⟩))))),aD (σ':=[aT _]) rfl ?_⟩;lia;intro D ι;refine eQ (λi ys H'=>Cs (λi ys=>ys=(M.pl i m).map nat) H D i ys H') (Cs.zero ι rfl) (λi ys H' hi c=>?_) (λys H' c=>?_)
 ·lia;rw[Bb];by_cases ht:m.testBit i=true
  ·rw[pe ht];lia;refine Cs.put ι c.same c.at' c.len @A ?_;rw[c.pv,M.pl_next,pe ht,hu,Jt];rfl
  ·rw[nk ht];lia;refine Cs.skip c.same c.at' c.len ?_;rw[c.pv,M.pl_next,nk ht,K8]
 ·have e:=c.pv;rw[oe] at e;refine q D H' ι c.same ?_;rw[c.at',e,M.pl_up (uT m) hb]
theorem jG (T:Tx K mg a):FnOk P w K mg base CX0 1 a.gD a.sW ["places"] xO:=by
 refine T.gH.1.okA jC λL A outer s H vs Q E Y h=>?_;obtain⟨r,ps,rfl,I,J,q⟩:=h
 refine⟨_,((ae (ay (i:=1) jC.nd rfl @D ag)
  (ae (gM Hq rfl (aX (K:=K) rfl (pv 0)) (aw (i:=2) jC.nd rfl @D) (aj (ay (i:=1) jC.nd rfl @D (ar jg (pv 1) (ar cE ag (pv 2))))))
  (aj (aI (pv 1)))))),aD (σ':=[aT _,eH,eH]) rfl ?_⟩
 lia;refine jK (xs:=ps.map nat) (λi σ H'=>∃v,σ=[aT (.ref r),aT (nat (M.xm (ps.take i))),v]/\H'=H) ⟨eH,rfl,rfl⟩ (λi σ H' _ ⟨_,_,e⟩=>by rw[e];exact SqL.of I) ?_ ?_
 ·rintro i y σ H' G ⟨v,rfl,rfl⟩;obtain⟨k,hk,rfl⟩:=aO G;have:=J k (eO hk);lia;refine⟨aT (nat k),?_,rfl⟩;rw[shl1,cG,BZ hk]
 ·rintro σ H' ⟨v,rfl,rfl⟩;rw[cY,Hw];lia;exact q
end
section
local macro_rules | `(tactic| walk_at "l2step") =>`(tactic| (with_reducible refine Gx ?_))
section
theorem jk (T:Tx K mg a):FnOk P w K mg base CX0 1 a.dO a.oR ["_law_script","_law_k"] (vk K):=by
 refine T.bz.1.okA rZ λL A outer s H vs Q E Y h=>?_;obtain⟨p,ns,k,rfl,φ,J,q⟩:=h
 refine⟨_,((ae (dz (aK C3 (pv 1) (bF (dk (K:=K) rfl) (by rfl) T.n6 IC (!j 0 af)) (aQ _)) (aj (aI (bg (cJ (K:=K) rfl) (pv 0) (pv 1) (λ_ _=>rfl)))) be)
  (aj (aI (ar cw (ar mw ag (pv 1)) ag))))),aD (σ':=[aT _,aT _]) rfl ?_⟩
 lia;rw[cY];unfold cell at q;refine ite2 (λG=>?_) (λG=>?_)
 ·have G:=Ji G
  have ha:atI (ns.map V.int) k=aT (.int (ns.getD k.toNat 0)):=by
   obtain⟨j,rfl⟩:=Jk J;have I:j < ns.length:=by omega
   exact d5 (by rw[fk,cP I,bx,oe,cP I];rfl)
  rw[pe G] at q;lia;exact q
 ·have G:¬k < ns.length:=λz=>G (gB z);rw[nk G] at q;lia;exact q
theorem b9 (T:Tx K mg a):FnOk P w K mg base CX0 1 a.eN a.qm ["_law_cell_here","_law_k"] Bn:=by
 refine T.aW.1.okA j6 λL A outer s H vs Q E Z h=>?_;obtain⟨c,k,rfl,α,h1,q⟩:=h
 refine⟨_,((ae (ay (i:=2) j6.nd rfl @D (ar cu (ar cw (ar cw (ar mw (ar cu (pv 0) ag) ag) (ar mw ag (pv 1))) ag) ag))
  (ae (ay (i:=2) j6.nd rfl @D (ar cu (ar mw (pv 2) (pv 2)) ag))
  (aj (aI (ar cu (ar mw (pv 2) (ar cw (ar cw (pv 2) (ar mw ag (pv 1))) ag)) ag)))))),aD (σ':=[aT _,aT _,eH]) rfl ?_⟩
 lia;show Q (.int _) H;generalize Y:(_:Int) * (_ + 48271 * k + 7)=x;have I:0<=x % 2147483587:=Kg _ @C;have G:x % 2147483587 < 2147483587:=JS _ @C;obtain⟨j,J⟩:=Jk I;rw[J] at G ⊢;exact q j @A
local macro_rules | `(tactic| walk_at "l2step") =>`(tactic| first | ((with_reducible refine' oW ?e ?a ?_);(case e=>walk_at "l2hp");(case a=>walk_at "l2side")) | ((with_reducible refine' w9 ?a ?b ?_);(case a=>walk_at "l2side");(case b=>walk_at "l2side");(with_reducible intro _ _)))
local macro_rules | `(tactic| walk_at "l2step") =>`(tactic| first | (with_reducible refine EC ?_))
theorem fU (T:Tx K mg a):FnOk P w K mg base CX0 2 a.di a.mD ["_law_cell_here","_law_start","_law_many","_law_width","_law_digits"] xP:=by
 refine T.dr.1.okA dX fun ξ A outer s H vs Q E ν h=>?_;obtain⟨c,st,n,Z,dg,rfl,ι,hn,hw,q⟩:=h;have χ:n * Z<=1024:=Ih (JU hn hw) @C;have η:(1:Int) * 2 ^ ((Z:Int).toNat)=((2 ^ Z:Nat):Int):=shl1 Z;have I:=lz Z;have δ:2 ^ Z<=2 ^ 16:=hD @C hw;have ε:(n:Int) * (Z:Int) + 1=((n * Z + 1:Nat):Int):=by push_cast;rfl
 have ζ:(1:Int) * 2 ^ (((n * Z + 1:Nat):Int).toNat)=((2 ^ (n * Z + 1):Nat):Int):=shl1 _;have α:=lz (n * Z + 1)
 refine⟨_,((ae (ay (i:=5) dX.nd rfl @D (d9 af))
  (ae (ay (i:=6) dX.nd rfl @D (ar g6 (ar cu (pv 0) (ar cE ag (ar cw (ar mw (pv 2) (pv 3)) ag))) ag))
  (ae (gM Hq rfl (cD (by rfl) T.dI (!j 2 af)) (aw (i:=7) dX.nd rfl @D) (aj (dz (gv (pv 4)) (ae (eE (mr (K:=K) rfl HU II IH fB (pv 5) (aa (ar cu (pv 6) (ar cE ag (pv 3))) af)))
  (aj (ay (i:=6) dX.nd rfl @D (ar g6 (pv 6) (ar cE ag (pv 3)))))) (aj (eE (mr (K:=K) rfl HU II IH fB (pv 5) (aa (ar cu (ai (b9 T) ν T.bq T.aW (!j 0 (aa (ar cw (pv 1) (pv 7)) af))) (ar cE ag (pv 3))) af)))))))
  (aj (aI (pv 5))))))),aD (σ':=[aT _,aT _,aT _,aT _,aT _,eH,eH,eH]) rfl ?_⟩
 lia;intro D H1 γ θ e1;lia;rw[ε];lia;rw[ζ];lia;refine ij (λi σ H'=>∃(l:Int) (v:ry V) (ms:D7),σ=[aT (.int c),aT (nat st),aT (nat n),aT (nat Z),aT (.bl dg),aT (.ref D),aT (.int l),v]/\Same H H'/\H' D=aT (.lst (ms.map nat))/\ms.length=i/\∀x∈ms,x < 2 ^ Z) ⟨_,eH,[],rfl,θ,e1,rfl,λ_ h=>hE h @E⟩ ?_ ?_
 ·rintro i σ H' hi ⟨l,v,ms,rfl,J,L,el,hb⟩;have ψ:i < n:=by omega
  clear ζ α ε;cases dg with
  | true=>
    lia;rw[η];obtain⟨k,hk,β⟩:=iI (c:=l) (m:=((2 ^ Z:Nat):Int)) @A;lia;rw[hk];refine jF L (by rw[cY,mc];omega) fun υ G=>?_;lia;rw[η];lia;refine⟨_,_,ms++[k],rfl,λb o e=>G.oth _ _ (au e γ) (J.get e),?_,by rw[eZ,el];rfl,λx Y=>?_⟩
    ·rw[G.at',hu];rfl
    ·rcases lx.mp Y with h | h
     ·exact hb x h
     ·rw[fy.mp h];omega
  | false=>
    lia;rename_i r ρ;rw[η];obtain⟨k,hk,β⟩:=iI (c:=(r:Int)) (m:=((2 ^ Z:Nat):Int)) @A;lia;rw[hk];refine jF L (by rw[cY,mc];omega) fun υ G=>?_;lia;refine⟨_,_,ms++[k],rfl,λb o e=>G.oth _ _ (au e γ) (J.get e),?_,by rw[eZ,el];rfl,λx Y=>?_⟩
    ·rw[G.at',hu];rfl
    ·rcases lx.mp Y with h | h
     ·exact hb x h
     ·rw[fy.mp h];omega
 ·rintro σ H' ⟨l,v,ms,rfl,J,L,el,hb⟩;lia;exact q D H' ms γ J L @A hb
theorem nW (T:Tx K mg a):FnOk P w K mg base CX0 2 a.ck a.jZ ["_law_masks_here","_law_cell_here","_law_start","_law_way"] z6:=by
 refine T.fj.1.okA bR λa4 A outer s H vs Q E hr h=>?_;obtain⟨r,ms,c,st,β,Z,rfl,hp,a0,hw,hl,hb,q⟩:=h
 refine⟨_,((ae (ay (i:=4) bR.nd rfl @D (d9 af))
  (ae (gM Hq rfl (lM (K:=K) rfl (by rfl) T.c7 (pv 0)) (nM rfl (aG (aw (i:=5) bR.nd rfl @D) (aG (aw (i:=6) bR.nd rfl @D) dA))) (jd (dz (aK jh (pv 3) ag (aQ _)) (aj (ay (i:=6) bR.nd rfl @D (ar fO (pv 6) (ai (b9 T) hr T.bq T.aW (!j 1 (aa (ar cw (pv 2) (pv 5)) af)))))) be)
  (jd (dz (PW.pt (r8 (aK jh (pv 3) ag (aQ _)) (nL (aK nT (pv 5) ag (aQ _))))) (aj (ay (i:=6) bR.nd rfl @D (ar cE ag (ar kL (pv 5) ag)))) be)
  (jd (dz (aK jh (pv 3) ag (aQ _)) (aj (ay (i:=6) bR.nd rfl @D (ar fO (pv 6) (bg (cJ (K:=K) rfl) (d9 (aa ag (aa ag af))) (ar cu (pv 5) ag) (λ_ _=>rfl))))) be)
  (aj (eE (mr (K:=K) rfl HU II IH fB (pv 4) (!j 6 af))))))))
  (aj (aI (pv 4)))))),aD (σ':=[aT _,aT _,aT _,aT _,eH,eH,eH]) rfl ?_⟩
 lia;intro D H1 φ χ e1;lia;refine vG (xs:=ms.map nat) (λi σ H'=>∃(v δ:ry V) (G:D7),σ=[aT (.ref r),aT (.int c),aT (nat st),aT (nat β),aT (.ref D),v,δ]/\Same H H'/\H' D=aT (.lst (G.map nat))/\G.length=i/\∀x∈G,x < 2 ^ Z) ⟨eH,eH,[],rfl,χ,e1,rfl,λ_ h=>hE h @E⟩ (λi σ H' _ ⟨_,_,_,_,e,_⟩=>SqL.of (e.get hp)) ?_ ?_
 ·rintro i y σ H' p υ ψ ⟨v,δ,G,rfl,ε,ο,el,I⟩ fp L α;obtain⟨x,τ,rfl⟩:=aO ψ;have hi:=(b'.mp τ).1;have θ:=hb x (eO τ);have ξ:=L.get ο;lia;refine r6 (fun σ H2=>υ=H2/\∃x:Nat,x < 2 ^ Z/\σ=[aT (.ref r),aT (.int c),aT (nat st),aT (nat β),aT (.ref D),aT (nat i),aT (nat x)]) ?_ ?_
  ·lia;refine iteB (λY=>?_) (λY=>?_)
   ·lia;rw[bt];exact⟨_,Hf Js θ,rfl⟩
   ·lia;exact⟨_,θ,rfl⟩
  ·rintro σ H2 ⟨rfl,x2,ι,rfl⟩;lia;refine r6 (fun σ H2=>υ=H2/\∃x:Nat,x < 2 ^ Z/\σ=[aT (.ref r),aT (.int c),aT (nat st),aT (nat β),aT (.ref D),aT (nat i),aT (nat x)]) ?_ ?_
   ·lia;refine iteB (λY=>?_) (λY=>?_)
    ·lia;refine iteB (fun η=>?_) (fun η=>?_)
     ·have a3:0 < i:=by have:=Ji η;omega
      have e1:(i:Int) - 1=((i - 1:Nat):Int):=by omega
      lia;rw[e1];lia;rw[shl1];exact⟨_,ra @C (show i - 1 < Z by omega),rfl⟩
     ·lia;exact⟨_,ι,rfl⟩
    ·lia;exact⟨_,ι,rfl⟩
   ·rintro σ H2 ⟨rfl,x3,J,rfl⟩;lia;refine r6 (fun σ H2=>Same υ H2/\∃x:Nat,x < 2 ^ Z/\σ=[aT (.ref r),aT (.int c),aT (nat st),aT (nat β),aT (.ref D),aT (nat i),aT (nat x)]) ?_ ?_
    ·lia;refine iteB (λY=>?_) (λY=>?_)
     ·lia;intro D8 H8 f8 γ e8
      have ζ:∃k:Nat,atI [V.int 43690,.int 21845] ((i:Int) % 2)=aT (nat k):=by
       rcases Int.emod_two_eq (i:Int) with h | h<;>rw[h]
       ·exact⟨43690,rfl⟩
       ·exact⟨21845,rfl⟩
      obtain⟨k,hk⟩:=ζ;lia;rw[bt];exact⟨γ,_,Hf Js J,rfl⟩
     ·lia;exact⟨Same.refl _,_,J,rfl⟩
    ·rintro σ H2 ⟨γ,ω,ν,rfl⟩;lia;refine jF (γ.get ξ) (by rw[cY,mc];omega) fun π ρ=>?_;lia;refine⟨_,_,G++[ω],rfl,λb o e=>ρ.oth _ _ (au e φ) (γ.get (L.get (ε.get e))),?_,by rw[eZ,el];rfl,λz hz=>?_⟩
     ·rw[ρ.at',hu];rfl
     ·rcases lx.mp hz with h | h
      ·exact I z h
      ·rw[fy.mp h];exact ν
 ·rintro σ H' ⟨v,δ,G,rfl,ε,ο,el,I⟩;rw[cY] at el;lia;exact q D H' G φ ε ο el I
theorem nY (T:Tx K mg a):FnOk P w K mg base CX0 3 a.cq a.j1 ["_law_script","_law_start","_law_most"] (z8 K):=by
 have dn:=@jk P w K mg base a T;have eU:=@b9 P w K mg base a T;refine T.fq.1.okA az λm1 A outer s H vs Q E ε h=>?_;obtain⟨p,ns,st,mo,rfl,φ,l7,l8,q⟩:=h
 refine⟨_,((ae (ay (i:=3) az.nd rfl @D (ai dn ε T.cf T.bz (!j 0 (!j 1 af))))
  (ae (ay (i:=4) az.nd rfl @D (ar cu (ar g6 (pv 3) ag) (ar cw (pv 2) ag)))
  (jd (dz (aK jh (ar cu (ar g6 (pv 3) ag) ag) ag (aQ _)) (aj (ay (i:=4) az.nd rfl @D (ar cu (ar g6 (pv 3) ag) ag))) be)
  (ae (ay (i:=5) az.nd rfl @D (ar cu (ai eU ε T.bq T.aW (!j 3 (aa ag af))) ag))
  (ae (ay (i:=6) az.nd rfl @D (ar cu (ai eU ε T.bq T.aW (!j 3 (aa ag af))) ag))
  (jd (dz (aK jh (ar cu (ar g6 (pv 3) ag) ag) ag (aQ _)) (ae (ay (i:=5) az.nd rfl @D (ar cu (ai eU ε T.bq T.aW (!j 3 (aa ag af))) ag))
  (aj (ay (i:=6) az.nd rfl @D (ar cu (ai eU ε T.bq T.aW (!j 3 (aa ag af))) ag)))) be)
  (ae (ay (i:=7) az.nd rfl @D (ke jh (ar cu (pv 3) ag) ag (aQ _)))
  (ae (ay (i:=8) az.nd rfl @D (ar cu (ai eU ε T.bq T.aW (!j 3 (aa ag af))) ag))
  (ae (ay (i:=9) az.nd rfl @D (ai (fU T) ε T.gQ T.dr (aa (ai dn ε T.cf T.bz (!j 0 (aa (ar cw (pv 1) ag) af))) (aa ag (!j 4 (!j 4 (!j 7 af)))))))
  (ae (ay (i:=10) az.nd rfl @D (ai (fU T) ε T.gQ T.dr (aa (ai dn ε T.cf T.bz (!j 0 (aa (ar cw (pv 1) ag) af))) (aa ag (!j 4 (!j 5 (!j 7 af)))))))
  (jd (dz (hX (gv (pv 7))) (ae (ay (i:=9) az.nd rfl @D (ai (nW T) ε T.pW T.fj (!j 9 (aa (ai dn ε T.cf T.bz (!j 0 (aa (ar cw (pv 1) ag) af))) (aa ag (!j 8 af))))))
  (aj (dz (aK nT (pv 8) ag (aQ _)) (aj (b8 (osc:=ah cT) (ON:=n16) (N:=n11) (n:=2) (fx:=[0,1]) (i:=10) az.nd rfl rfl rfl rfl rfl rfl (by decide +kernel) (lM (K:=K) rfl (by rfl) T.c7 (pv 10)) (jW (bL (aF @C) (bL (aF @C) g9))) (λ_ _ _ _ _=>⟨(g5 (K:=K) (n:=2) rfl rfl (aG (aw (i:=0) (show mu (n11:C') from by decide +kernel) rfl @D) (aG (aw (i:=1) (show mu (n11:C') from by decide +kernel) rfl @D) dA))),aZ,(ar fO (pv 1) (ai eU ε T.bq T.aW (aa (ai dn ε T.cf T.bz (!j 2 (aa (ar cw (pv 3) ag) af))) (aa (ar cw ag (pv 0)) af))))⟩))) be))) be)
  (ae (ay (i:=11) az.nd rfl @D (ai (fU T) ε T.gQ T.dr (aa (ai dn ε T.cf T.bz (!j 0 (aa (ar cw (pv 1) ag) af))) (aa ag (!j 6 (!j 4 (!j 7 af)))))))
  (ae (ay (i:=12) az.nd rfl @D (ai (fU T) ε T.gQ T.dr (aa (ai dn ε T.cf T.bz (!j 0 (aa (ar cw (pv 1) ag) af))) (aa ag (!j 6 (!j 5 (!j 7 af)))))))
  (jd (dz (PW.pt (r8 (hX (gv (pv 7))) (nL (aK nT (pv 8) ag (aQ _))))) (aj (b8 (osc:=ah cT) (ON:=n16) (N:=n11) (n:=2) (fx:=[0,1]) (i:=11) az.nd rfl rfl rfl rfl rfl rfl (by decide +kernel) (lM (K:=K) rfl (by rfl) T.c7 (pv 11)) (jW (bL (aF @C) (bL (aF @C) g9))) (λ_ _ _ _ _=>⟨(g5 (K:=K) (n:=2) rfl rfl (aG (aw (i:=0) (show mu (n11:C') from by decide +kernel) rfl @D) (aG (aw (i:=1) (show mu (n11:C') from by decide +kernel) rfl @D) dA))),aZ,(ar fO (pv 1) (ai eU ε T.bq T.aW (aa (ai dn ε T.cf T.bz (!j 2 (aa (ar cw (pv 3) ag) af))) (aa (ar cw ag (pv 0)) af))))⟩))) be)
  (jd (dz (PW.pt (r8 (hX (gv (pv 7))) (nL (aK nT (pv 8) ag (aQ _))))) (aj (b8 (osc:=ah cT) (ON:=n16) (N:=["_law_mask"]) (n:=1) (fx:=[]) (i:=12) az.nd rfl rfl rfl rfl rfl rfl (by decide +kernel) (aX (K:=K) rfl (pv 12)) (aF @C) (λ_ _ _ _ _=>⟨(aw (i:=0) (show mu (["_law_mask"]:C') from by decide +kernel) rfl @D),aZ,ag⟩))) be)
  (aj (aI (c3 (!j 5 (aa (lN (K:=K) rfl rfl (by rfl) (by rfl) T.n0 T.C6 (pv 9) (pv 10)) (aa (lN (K:=K) rfl rfl (by rfl) (by rfl) T.n0 T.C6 (pv 11) (pv 12)) af)))))))))))))))))))))),aD (σ':=[aT _,aT _,aT _,eH,eH,eH,eH,eH,eH,eH,eH,eH,eH]) rfl ?_⟩
 lia;obtain⟨S0,eS,lS⟩:=iI (c:=cell ns (st:Int) / 2) (m:=(mo:Int) + 1) @A;rw[eS];generalize cell ns (st:Int)=c;refine r6 (fun σ H2=>H=H2/\∃S:Nat,S<=16/\σ=[aT (.ref p),aT (nat st),aT (nat mo),aT (.int c),aT (nat S),eH,eH,eH,eH,eH,eH,eH,eH]) ?_ ?_
 ·lia;refine iteB (λhc=>?_) (λhc=>?_)
  ·lia;obtain⟨k,hk,l9⟩:=iI (c:=c / 512) (m:=11) @C;rw[hk];exact⟨_,@A,rfl⟩
  ·lia;exact⟨_,@A,rfl⟩
 ·rintro σ H2 ⟨rfl,S,ν,rfl⟩;clear eS lS;lia;rename_i r1 h1 r2 h2;have ei:(r1:Int) % 4=((r1 % 4:Nat):Int):=by omega
  have eo:(r2:Int) % 4=((r2 % 4:Nat):Int):=by omega
  rw[ei,eo];refine r6 (fun σ H2=>H=H2/\∃I O:Nat,(I<=6/\O<=6)/\σ=[aT (.ref p),aT (nat st),aT (nat mo),aT (.int c),aT (nat S),aT (nat I),aT (nat O),eH,eH,eH,eH,eH,eH]) ?_ ?_
  ·lia;refine iteB (λhc=>?_) (λhc=>?_)
   ·lia;rename_i r3 h3 τ θ;have ei:(r3:Int) % 7=((r3 % 7:Nat):Int):=by omega
    have eo:(τ:Int) % 7=((τ % 7:Nat):Int):=by omega
    rw[ei,eo];exact⟨_,_,⟨@A,@A⟩,rfl⟩
   ·lia;exact⟨_,_,⟨@A,@A⟩,rfl⟩
  ·rintro σ H2 ⟨rfl,I,O,⟨hI,hO⟩,rfl⟩;clear ei eo h1 h2;lia;rename_i r5 h5;have ew:(r5:Int) % 5=((r5 % 5:Nat):Int):=by omega
   rw[ew];generalize g3:r5 % 5=wy;have l0:wy < 5:=by omega
   generalize h0:decide (V.int (c % 2)=V.int 0)=dg;clear ew g3 h0 h5;refine⟨_,100,S,S,dg,rfl,@C,@A,ν,λD1 H1 ζ f1 s1 e1 l1 b1=>?_⟩;have π:=Same.seq s1 φ;lia;refine⟨_,140,S,I,dg,rfl,@C,@A,@A,λD2 H2 ω f2 s2 e2 l2 b2=>?_⟩;have c2:=Same.seq s2 π;have d1:=s2.get e1;lia;refine r6 (fun σ G=>∃(D1 D2:ee) (ζ ω:D7),σ=[aT (.ref p),aT (nat st),aT (nat mo),aT (.int c),aT (nat S),aT (nat I),aT (nat O),aT (.bl dg),aT (nat wy),aT (.ref D1),aT (.ref D2),eH,eH]/\Same H G/\G D1=aT (.lst (ζ.map nat))/\G D2=aT (.lst (ω.map nat))/\ζ.length=S/\ω.length=S/\(∀x∈ζ,x < 2 ^ S)/\∀x∈ω,x < 2 ^ I) ?_ ?_
   ·lia;cases dg with
    | true=>
      lia;exact⟨D1,D2,ζ,ω,rfl,s1.trans s2,d1,e2,l1,l2,b1,b2⟩
    | false=>
      lia;refine⟨D1,ζ,_,180,wy,S,rfl,d1,@C,ν,@A,b1,λD3 G c0 ψ s3 e3 l3 b3=>?_⟩;have c4:=s3.get e2;have ρ:=Same.seq s3 c2;lia;refine iteB (λhc=>?_) (λhc=>?_)
      ·lia;intro D ι;refine ip (xs:=ω.map nat) (λi ys H'=>Cs (λi ys=>∃J:D7,ys=J.map nat/\J.length=i/\∀x∈J,x < 2 ^ I) G D i ys H') (Cs.zero ι ⟨[],rfl,rfl,λ_ h=>hE h @E⟩) (λi ys H' _ c=>SqL.of (c.same.get c4)) (λi v ys H' β υ hv Y fp L α=>?_) (λys H' Y=>?_)
       ·obtain⟨x,hx,rfl⟩:=aO hv;obtain⟨J,a3,a0,a4⟩:=Y.pv;have hi:=(b'.mp hx).1;have h6:=Same.seq L (Same.seq Y.same ρ);lia;rw[bt];refine Cs.put ι (Y.same.trans L) (L.get Y.at') Y.len @A ⟨J++[_],by rw[a3,hu];rfl,by rw[eZ,a0];rfl,λz hz=>?_⟩;rcases lx.mp hz with h | h
        ·exact a4 z h
        ·rw[fy.mp h];exact Hf Js (b2 x (eO hx))
       ·obtain⟨J,a3,a0,a4⟩:=Y.pv;rw[cY] at a0;have ec:=Y.at';rw[a3] at ec;exact⟨D3,D,c0,J,rfl,s1.trans (s2.trans (s3.trans Y.same)),Y.same.get e3,ec,@A,@A,b3,a4⟩
      ·lia;exact⟨D3,D2,c0,ω,rfl,s1.trans (s2.trans s3),e3,c4,@A,l2,b3,b2⟩
   ·rintro σ G ⟨D1,D2,ζ,ω,rfl,s3,e1,e2,l1,l2,b1,b2⟩;have ρ:=Same.seq s3 φ;lia;refine⟨_,260,O,S,dg,rfl,@C,@A,ν,λD4 γ χ f4 s4 e4 l4 b4=>?_⟩;have ο:=Same.seq s4 ρ;lia;refine⟨_,280,O,I,dg,rfl,@C,@A,@A,λD5 H5 Z f5 s5 e5 l5 b5=>?_⟩;have ξ:=Same.seq s5 ο;have a5:=s5.get e4;lia;refine r6 (fun σ H6=>∃(D4:ee) (χ:D7),σ=[aT (.ref p),aT (nat st),aT (nat mo),aT (.int c),aT (nat S),aT (nat I),aT (nat O),aT (.bl dg),aT (nat wy),aT (.ref D1),aT (.ref D2),aT (.ref D4),aT (.ref D5)]/\Same H5 H6/\H6 D4=aT (.lst (χ.map nat))/\χ.length=O/\∀x∈χ,x < 2 ^ S) ?_ ?_
    ·lia;refine iteB (λhc=>?_) (λhc=>?_)
     ·lia;refine iteB (λhc=>?_) (λhc=>?_)
      ·lia;intro D ι;refine ip (xs:=χ.map nat) (λi ys H'=>Cs (λi ys=>∃J:D7,ys=J.map nat/\J.length=i/\∀x∈J,x < 2 ^ S) H5 D i ys H') (Cs.zero ι ⟨[],rfl,rfl,λ_ h=>hE h @E⟩) (λi ys H' _ c=>SqL.of (c.same.get a5)) (λi v ys H' β υ hv Y fp L α=>?_) (λys H' Y=>?_)
       ·obtain⟨x,hx,rfl⟩:=aO hv;obtain⟨J,a3,a0,a4⟩:=Y.pv;have hi:=(b'.mp hx).1;have h6:=Same.seq L (Same.seq Y.same ξ);lia;rw[bt];refine Cs.put ι (Y.same.trans L) (L.get Y.at') Y.len @A ⟨J++[_],by rw[a3,hu];rfl,by rw[eZ,a0];rfl,λz hz=>?_⟩;rcases lx.mp hz with h | h
        ·exact a4 z h
        ·rw[fy.mp h];exact Hf Js (b4 x (eO hx))
       ·obtain⟨J,a3,a0,a4⟩:=Y.pv;rw[cY] at a0;have ec:=Y.at';rw[a3] at ec;exact⟨D,J,rfl,Y.same,ec,@A,a4⟩
      ·lia;exact⟨D4,χ,rfl,Same.refl _,a5,l4,b4⟩
     ·lia;exact⟨D4,χ,rfl,Same.refl _,a5,l4,b4⟩
    ·rintro σ H6 ⟨D4,χ,rfl,s6,e4,l4,b4⟩;have b6:=s6.get e5;have h8:=s6.get (s5.get (s4.get e1));have h7:=s6.get (s5.get (s4.get e2));have d2:=s3.trans (s4.trans (s5.trans s6));clear π c2 ρ ο ξ a5;lia;refine r6 (fun σ υ=>∃(D5:ee) (Z:D7),σ=[aT (.ref p),aT (nat st),aT (nat mo),aT (.int c),aT (nat S),aT (nat I),aT (nat O),aT (.bl dg),aT (nat wy),aT (.ref D1),aT (.ref D2),aT (.ref D4),aT (.ref D5)]/\Same H6 υ/\υ D5=aT (.lst (Z.map nat))/\Z.length=O/\∀x∈Z,x < 2 ^ I) ?_ ?_
     ·lia;refine iteB (λhc=>?_) (λhc=>?_)
      ·lia;refine iteB (λhc=>?_) (λhc=>?_)
       ·lia;intro D ι;refine bf (xs:=Z.map nat) (λi ys H'=>Cs (λi ys=>ys=(lA i 0).map nat) H6 D i ys H') (Cs.zero ι rfl) (λi ys H' _ c=>SqL.of (c.same.get b6)) (λi v ys H' hv Y=>?_) (λys H' Y=>?_)
        ·have hi:=(b'.mp hv).1;rw[cY] at hi;lia;refine Cs.put ι Y.same Y.at' Y.len @A ?_;rw[Y.pv,L7,hu];rfl
        ·have ec:=Y.at';rw[Y.pv,cY] at ec;refine⟨D,lA Z.length 0,rfl,Y.same,ec,by rw[Iu];exact l5,λx hx=>?_⟩;rw[KH hx];exact lz _
       ·lia;exact⟨D5,Z,rfl,Same.refl _,b6,l5,b5⟩
      ·lia;exact⟨D5,Z,rfl,Same.refl _,b6,l5,b5⟩
     ·rintro σ υ ⟨D5,Z,rfl,L,e5,l5,b5⟩;lia;refine⟨D1,D2,ζ.map nat,ω.map nat,rfl,rfl,SqL.of (L.get h8),SqL.of (L.get h7),by rw[cY,cY];omega,λDn pn H8 f8 η e8 f6 t8=>?_⟩;obtain⟨nx,rn,e6,f7,mn⟩:=xv @A f6 t8;rw[<-rn] at e8;lia;refine⟨D4,D5,χ.map nat,Z.map nat,rfl,rfl,SqL.of (η.get (L.get e4)),SqL.of (η.get e5),by rw[cY,cY];omega,λDo po H9 f9 s9 e9 f0 t9=>?_⟩;obtain⟨os,ro,e0,l6,c1⟩:=xv @A f0 t9;rw[<-ro] at e9;lia;intro t k4 m0 δ j4;have a6:=d2.trans L;refine q t Dn Do k4 I nx os (a6.trans (η.trans (s9.trans δ))) (k6 a6 f8) (k6 (a6.trans η) f9) ⟨j4,hI,δ.get (s9.get e8),δ.get e9,(e6.same s9).same δ,e0.same δ,by omega,by omega,λpr g4=>?_⟩ @A;rw[f7,l1];rcases lx.mp g4 with h | h
      ·exact⟨b1 _ (mn pr h).1,b2 _ (mn pr h).2⟩
      ·exact⟨b4 _ (c1 pr h).1,b5 _ (c1 pr h).2⟩
end
end
end
local macro_rules | `(tactic| walk_at "l2step") =>`(tactic| first | ((with_reducible refine' oW ?e ?a ?_);(case e=>walk_at "l2hp");(case a=>walk_at "l2side")) | ((with_reducible refine' w9 ?a ?b ?_);(case a=>walk_at "l2side");(case b=>walk_at "l2side");(with_reducible intro _ _)))
section
variable {P:px} {w:wq} {K:a'} {mg:G'} {base:zx} {a:Ad}
noncomputable abbrev lpos:Pos:=⟨277,46,277,98⟩
local macro_rules | `(tactic| walk_at "l2step") =>`(tactic| first | ((with_reducible refine' iM ?e ?_);(case e=>walk_at "l2kind")) | ((with_reducible refine' lg ?e ?_);(case e=>walk_at "l2kind")) | (with_reducible refine gL ?_) | (with_reducible refine i7 ?_))
local macro_rules | `(tactic| walk_at "l2step") =>`(tactic| first | (with_reducible refine LM.s_sortlam ?_) | (with_reducible refine EC ?_))
theorem pC (T:Tx K mg a) (PT:ee) (kb:K.In base) (I:LM.LamB mg base a.a7 PT):FnOk P w K mg base CX0 6 a.a7 a.iK ["_law_tables","_law_cell_here"] (rW lpos PT):=by
 refine L2.Fun.okL T.fW kb I bD (λvs H Q E h=>?_) (λcc A outer s H vs Q E hC hr h=>?_)
 ·obtain⟨t,n,o,m,nx,os,c,rfl,_⟩:=h;rfl
 ·obtain⟨t,n,o,m,nx,os,c,rfl,tt,g4,TL,q⟩:=h;have et:=tt.t;have en:=tt.tab.n;have eo:=tt.tab.o
  refine⟨_,((ae (vo (pv 0) (nM rfl (aG (aw (i:=2) bD.nd rfl @D) (aG (aw (i:=3) bD.nd rfl @D) (aG (aw (i:=4) bD.nd rfl @D) dA)))))
   (ae (ay (i:=5) bD.nd rfl @D (bF (dk (K:=K) rfl) (by rfl) T.n6 IC (!j 3 af)))
   (ae (ay (i:=6) bD.nd rfl @D (LM.pe_sortlam (N:=["_law_k","_law_cell_here"]) (p:="_law_k") (x:="_law_cell_here") (j:=1) (m:=1) rfl (by rfl) (by rfl) T.vA T.dI (pv 5) (hr.mono @C) rfl hC I (by decide +kernel) rfl rfl rfl ⟨_,rfl,rfl⟩ rfl (λ_ _ _ _ _ _=>rfl) (λ_ _ _ _ _ hr=>(ai (b9 T) hr T.bq T.aW (!j 1 (aa (ar cw ag (pv 0)) af))))))
   (ae (Av (x0:="_law_mask") (osc:=ah bE) (ON:=n17) (N:=n12) (n:=2) (fx:=[6,5]) (i:=7) bD.nd rfl rfl rfl rfl rfl rfl (by decide +kernel) (aX (K:=K) rfl (ar ji (pv 3) (pv 4))) (jW (bL (aF @C) (bL (aF @C) g9))) (λ_ _ _ _ _=>⟨(g5 (K:=K) (n:=2) rfl rfl (aG (aw (i:=0) (show mu (n12:C') from by decide +kernel) rfl @D) (aG (aw (i:=1) (show mu (n12:C') from by decide +kernel) rfl @D) dA))),aZ,(bF (zq rfl) (by rfl) T.GS PyProof.Rows.boot_sum (aa (eG (osc:=_) (ON:=n12) (N:=["_law_k","_law_mask","_law_order"]) (n:=1) (fx:=[0,2]) rfl (A7 (osc:=ah bE) rfl) rfl (by decide +kernel) (cD (by rfl) T.dI (!j 3 af)) (aF @C) (λ_ _ _ _ _=>⟨(aw (i:=0) (show mu (["_law_k","_law_mask","_law_order"]:C') from by decide +kernel) rfl @D),aZ,(ar cE (ar fO (ar nS (pv 1) (bg (cJ (K:=K) rfl) (pv 2) (pv 0) (λ_ _=>rfl))) ag) (pv 0))⟩)) af))⟩))
   (ae (b8 (osc:=ah bE) (ON:=n17) (N:=n18) (n:=2) (fx:=[]) (i:=8) bD.nd rfl rfl rfl rfl rfl rfl (by decide +kernel) (aX (K:=K) rfl (ar ji (pv 3) (pv 4))) (jW (bL (aF @C) (bL (aF @C) g9))) (λ_ _ _ _ _=>⟨(g5 (K:=K) (n:=2) rfl rfl (aG (aw (i:=0) (show mu (n18:C') from by decide +kernel) rfl @D) (aG (aw (i:=1) (show mu (n18:C') from by decide +kernel) rfl @D) dA))),aZ,(pv 1)⟩))
   (ae (ay (i:=9) bD.nd rfl @D (lN (K:=K) rfl rfl (by rfl) (by rfl) T.n0 T.C6 (pv 7) (pv 8)))
   (aj (aI (c3 (!j 2 (aa (eG (osc:=ah bE) (ON:=n17) (N:=["_law_k","_law_pairs","_law_order"]) (n:=1) (fx:=[9,6]) rfl rfl rfl (by decide +kernel) (cD (by rfl) T.dI (!j 5 af)) (aF @C) (λ_ _ _ _ _=>⟨(aw (i:=0) (show mu (["_law_k","_law_pairs","_law_order"]:C') from by decide +kernel) rfl @D),aZ,(bg (cJ (K:=K) rfl) (pv 1) (bg (cJ (K:=K) rfl) (pv 2) (pv 0) (λ_ _=>rfl)) (λ_ _=>rfl))⟩)) (aa (iD (iA (K:=K) rfl) (pv 9) (je (pv 5)) lL) af))))))))))))),aD (σ':=[aT _,aT _,eH,eH,eH,eH,eH,eH,eH,eH]) rfl ?_⟩
  lia;refine⟨nx.length,nat c,by rw[aR],@A,TL,rfl,λi hi=>?_,λD H2 ns f nD k2 T2 e2 hp=>?_⟩
  ·lia;exact⟨_,rfl⟩
  have B2:But PT H H2:=k2;have β:=B2.tab TL tt;have e0:=β.tab.n;have d2:=β.tab.o;have χ:=β.tab.pn;have φ:=β.tab.po;have j4:=β.tab.lo;have k4:ns.length=nx.length:=by rw[hp.length_eq,pT]
  clear k2 TL et en eo tt;lia;refine nK e0 d2 (by rw[aR,aR,mc];have:=β.tab.lo;omega) λDc G f3 s3 e3=>?_;have f0:=s3.get e2;rw[show refs nx++refs os=refs (nx++os) from(hu ..).symm] at e3
  have b6:Prt G (nx++os):=λr hr=>by
   rcases lx.mp hr with h | h
   ·exact s3.get (χ r h)
   ·exact s3.get (φ r h)
  lia;intro Dm c2;refine bf (xs:=refs (nx++os)) (λi ys H'=>Cs (λi ys=>∃zs:D7,ys=zs.map nat/\zs=((nx++os).take i).map λr=>M.pmx ns r.2.1 nx.length) G Dm i ys H') (Cs.zero c2 ⟨[],rfl,rfl⟩) (λi ys H' _ c=>SqL.of (c.same.get e3)) ?_ ?_
  ·rintro i y ys H' hy c;obtain⟨zs,b3,θ⟩:=c.pv;obtain⟨r,ρ,rfl⟩:=aO hy;have er:=c.same.get (b6 r (eO ρ));have a5:=(b'.mp ρ).1;rw[eZ] at a5;lia;rw[aR];refine⟨@A,@A,?_⟩;intro Di d1;refine eQ (λk ws γ=>Cs (λk ws=>ws=((ko k).map λk=>((r.2.1>>>ns.getD k 0)&&&1) <<< k).map nat) H' Di k ws γ) (Cs.zero d1 rfl) (λk ws γ hk ω=>?_) (λws γ ω=>?_)
   ·have hk:k < nx.length:=by omega
    have l3:=ω.same.get (c.same.get f0);have τ:ns[k]? =aT (ns.getD k 0):=by rw[bx,cP @A];rfl
    have a6:atI (ns.map λk:Nat=>V.int (k:Int)) (0 + (k:Int))=aT (nat (ns.getD k 0)):=by rw[Jt];exact d5 (by rw[fk,τ];rfl)
    have hv:=M.ord_at hp hk;generalize a4:ns.getD k 0=v at a6 hv τ;lia;rw[Jt]
    have eb:Je ((r.2.1:Int) / 2 ^ ((v:Int).toNat)) 1=(((r.2.1>>>v)&&&1:Nat):Int):=by
     rw[oe,show((r.2.1:Int) / 2 ^ v)=((r.2.1>>>v:Nat):Int) by rw[zt];push_cast;rfl];exact bt _ 1
    have ι:(r.2.1>>>v)&&&1<=1:=Kt;rw[eb];have l0:CPow (((r.2.1>>>v)&&&1:Nat):Int) ((k:Nat):Int):=⟨@A,@A,@A⟩;lia
    have J:(((r.2.1>>>v)&&&1:Nat):Int) * 2 ^ ((k:Int).toNat)=((((r.2.1>>>v)&&&1) <<< k:Nat):Int):=by
     rw[oe,Jc];push_cast;rfl
    rw[J];refine Cs.put d1 ω.same ω.at' ω.len @A ?_;rw[ω.pv,Jf,hu,hu,<-a4];rfl
   ·have e4:=ω.at';rw[ω.pv] at e4;have ξ:=ω.same;clear ω;lia;show CK [.ref Di] γ _;refine EF e4 ?_;rw[M.pmx_sum];refine Cs.put c2 (c.same.trans ξ) (ξ.get c.at') c.len @A ⟨zs++[M.pmx ns r.2.1 nx.length],by rw[b3,hu];rfl,?_⟩;rw[θ,Kp,ρ,hu];rfl
  ·rintro ys γ c;obtain⟨zs,b3,θ⟩:=c.pv;have e4:=c.at';rw[b3] at e4;have ξ:=c.same;rw[IW (by rw[aR];exact ov _)] at θ;clear c;have a3:=s3.trans ξ;have c0:zs.length=nx.length + os.length:=by rw[θ,cY,eZ]
   lia;refine nK (a3.get e0) (a3.get d2) (by rw[aR,aR,mc];omega) fun ε H5 f5 s5 e5=>?_;rw[show refs nx++refs os=refs (nx++os) from(hu ..).symm] at e5;have f2:=ξ.trans s5;have f4:Prt H5 (nx++os):=b6.same f2;lia;intro Dr c1;refine bf (xs:=refs (nx++os)) (λi ys H'=>Cs (λi ys=>ys=(((nx++os).take i).map λr=>r.2.2).map nat) H5 Dr i ys H') (Cs.zero c1 rfl) (λi ys H' _ c=>SqL.of (c.same.get e5)) ?_ ?_
   ·rintro i y ys H' hy c;obtain⟨r,ρ,rfl⟩:=aO hy;have er:=c.same.get (f4 r (eO ρ));have a5:=(b'.mp ρ).1;rw[eZ] at a5;lia;refine Cs.put c1 c.same c.at' c.len @A ?_;rw[c.pv,Kp,ρ,hu,hu];rfl
   ·rintro ys H6 c;have e6:=c.at';rw[c.pv,IW (by rw[aR];exact ov _)] at e6;have s6:=c.same;clear c;have h4:=s6.get (s5.get e4);lia;refine⟨Dm,Dr,_,_,rfl,rfl,SqL.of h4,SqL.of e6,by rw[cY,cY,cY,c0,eZ],λDp ps H7 f7 L α l7 t7=>?_⟩;rw[cY,c0] at l7;have b5:=s5.trans (s6.trans L);have h5:=b5.get (ξ.get f0);lia;rw[aR];refine⟨@A,@A,?_⟩;intro Dn ζ;refine eQ (λk ws H'=>Cs (λk ws=>ws=(ko k).map λk=>V.ref (ps.getD (ns.getD k 0) 0)) H7 Dn k ws H') (Cs.zero ζ rfl) (λk ws H' hk c=>?_) (λws H8 c=>?_)
    ·have hk:k < nx.length:=by omega
     have l2:=c.same.get h5;have h3:=c.same.get α;have τ:ns[k]? =aT (ns.getD k 0):=by rw[bx,cP @A];rfl
     have a6:atI (ns.map λk:Nat=>V.int (k:Int)) (0 + (k:Int))=aT (nat (ns.getD k 0)):=by rw[Jt];exact d5 (by rw[fk,τ];rfl)
     have hv:=M.ord_at hp hk;generalize a4:ns.getD k 0=v at a6 hv τ;have h0:ps[v]? =aT (ps.getD v 0):=by rw[bx,cP @A];rfl
     have h8:atI (ps.map V.ref) ((v:Nat):Int)=aT (V.ref (ps.getD v 0)):=d5 (by rw[fk,h0];rfl);lia;refine Cs.put ζ c.same c.at' c.len @A ?_;rw[c.pv,Jf,hu,<-a4];rfl
    ·have J:=c.at';rw[c.pv] at J;have η:=c.same;clear c;have h3:=η.get α;lia;intro ο π f9 s9 e9;rw[rC _ _ (by rw[cY];omega),<-LK] at e9;lia;intro t2 f1 l1 δ h6;have b4:=η.trans (s9.trans δ);have Z:=δ.get (s9.get J);have Y:=δ.get e9;have ν:∀(j:Nat) (p:ee) (r:Pr3),ps[j]? =aT p->(nx++os)[j]? =aT r->f1 p=aT (.tup [nat (M.pmx ns r.2.1 nx.length),nat r.2.2]):=λj p r h1 h2=>b4.get (t7 j p _ _ h1 (by rw[fk,θ,fk,h2];rfl) (by rw[fk,fk,h2];rfl));obtain⟨f8,f6,υ,g3,ψ,h7⟩:=Gi β.tab.g g4 hp l7 h6 Z Y ν;have a0:=a3.trans (b5.trans (η.trans (s9.trans δ)));exact q t2 Dn ο f1 f8 f6 (B2.trans (But.of a0)) (nr T2 a0) υ g3 ψ h7
end
section
variable {P:px} {w:wq} {K:a'} {mg:G'} {base:zx} {a:Ad}
local macro_rules | `(tactic| walk_at "l2step") =>`(tactic| first | ((with_reducible refine' iM ?e ?_);(case e=>walk_at "l2kind")) | ((with_reducible refine' lg ?e ?_);(case e=>walk_at "l2kind")) | (with_reducible refine gL ?_) | (with_reducible refine i7 ?_))
theorem nX (T:Tx K mg a):FnOk P w K mg base CX0 1 a.cn a.j0 ["_law_mask","_law_at","_law_many","_law_way"] v5:=by
 refine T.fm.1.okA ny λI A outer s H vs Q E L h=>?_;obtain⟨x,i,n,J,rfl,hi,hn,q⟩:=h
 refine⟨_,((ae (dz (PW.pt (r8 (aK jh (ar fO (ar nS (pv 0) (pv 1)) ag) ag (aQ _)) (nL (aK jh (ar cu (pv 3) ag) ag (aQ _))))) (aj (aI (ar Fl (ar jg (pv 0) (ar cE ag (pv 1))) (ar cE ag (pv 2))))) be)
  (aj (aI (pv 0))))),aD (σ':=[aT _,aT _,aT _,aT _]) rfl ?_⟩
 lia;dsimp only;refine ite2 (λh1=>?_) (λh1=>?_)
 ·lia;dsimp only;refine ite2 (λh2=>?_) (λh2=>?_)
  ·lia;have e1:(1:Int) * 2 ^ ((i:Int).toNat)=((2 ^ i:Nat):Int):=shl1 i;have G:(1:Int) * 2 ^ ((n:Int).toNat)=((2 ^ n:Nat):Int):=shl1 n;rw[e1,G,cG,oX];exact q _ (.inr rfl)
  ·lia;exact q _ (.inl rfl)
 ·rw[nk @C];lia;exact q _ (.inl rfl)
end
local macro_rules | `(tactic| walk_at "l2step") =>`(tactic| first | ((with_reducible refine' oW ?e ?a ?_);(case e=>walk_at "l2hp");(case a=>walk_at "l2side")) | ((with_reducible refine' w9 ?a ?b ?_);(case a=>walk_at "l2side");(case b=>walk_at "l2side");(with_reducible intro _ _)))
section
variable {P:px} {w:wq} {K:a'} {mg:G'} {base:zx} {a:Ad}
local macro_rules | `(tactic| walk_at "l2step") =>`(tactic| first | ((with_reducible refine' iM ?e ?_);(case e=>walk_at "l2kind")) | ((with_reducible refine' lg ?e ?_);(case e=>walk_at "l2kind")) | (with_reducible refine gL ?_) | (with_reducible refine i7 ?_))
local macro_rules | `(tactic| walk_at "l2step") =>`(tactic| first | ((with_reducible refine' w9 ?a ?b ?_);(case a=>omega);(case b=>omega);(with_reducible intro _ _)) | (with_reducible refine xV ?_))
theorem qW (T:Tx K mg a):FnOk P w K mg base CX0 3 a.dj a.mE ["_law_tables","_law_cell_here"] ub:=by
 refine T.gW.1.okA bO λf9 A outer s H vs Q E hr h=>?_;obtain⟨t,n,o,m,nx,os,c,rfl,tt,b3,q⟩:=h;have et:=tt.t;have en:=tt.tab.n;have eo:=tt.tab.o
 refine⟨_,((ae (vo (pv 0) (nM rfl (aG (aw (i:=2) bO.nd rfl @D) (aG (aw (i:=3) bO.nd rfl @D) (aG (aw (i:=4) bO.nd rfl @D) dA)))))
  (ae (ay (i:=5) bO.nd rfl @D (bF (dk (K:=K) rfl) (by rfl) T.n6 IC (!j 3 af)))
  (ae (dz (PW.pt (mH (aK jh (pv 5) ag (aQ _)) (jU (aK nT (pv 5) ag (aQ _))))) (aj (aI (pv 0))) be)
  (ae (ay (i:=6) bO.nd rfl @D (ar cu (pv 1) (pv 5)))
  (ae (ay (i:=7) bO.nd rfl @D (c3 (aa (ar cu (ai (b9 T) hr T.bq T.aW (!j 1 (aa ag af))) (ar cE ag (ar cw (pv 5) ag))) (aa (ar cu (ai (b9 T) hr T.bq T.aW (!j 1 (aa ag af))) (ar cE ag (pv 2))) af))))
  (ae (dz (aK jh (ar cu (ar g6 (pv 1) ag) ag) ag (aQ _)) (aj (aI (c3 (!j 2 (aa (ar ji (pv 3) (d9 (!j 7 af))) (!j 4 af)))))) be)
  (ae (dz (aK jh (ar cu (ar g6 (pv 1) ag) ag) ag (aQ _)) (ae (b8 (osc:=ah fz) (ON:=n23) (N:=n13) (n:=3) (fx:=[1,5]) (i:=8) bO.nd rfl rfl rfl rfl rfl rfl (by decide +kernel) (lM (K:=K) rfl (by rfl) T.c7 (pv 4)) (jW (bL (aF @C) (bL (jW (bL (aF @C) (bL (aF @C) g9))) g9))) (λ_ _ _ _ _=>⟨(g5 (K:=K) (n:=2) rfl rfl (aG (aw (i:=0) (show mu (n13:C') from by decide +kernel) rfl @D) (aG (g5 (K:=K) (n:=2) rfl rfl (aG (aw (i:=1) (show mu (n13:C') from by decide +kernel) rfl @D) (aG (aw (i:=2) (show mu (n13:C') from by decide +kernel) rfl @D) dA))) dA))),aZ,(c3 (aa (ar Fl (pv 1) (ar cE (ar fO (ai (b9 T) hr T.bq T.aW (!j 3 (aa (ar cw ag (pv 0)) af))) ag) (pv 4))) (!j 2 af)))⟩))
  (aj (aI (c3 (!j 2 (aa (ar ji (pv 3) (d9 (aa (c3 (aa (ar cE ag (pv 5)) (aa ag af))) af))) (!j 8 af))))))) be)
  (ae (b8 (osc:=ah fz) (ON:=n23) (N:=n14) (n:=3) (fx:=[6,5,1]) (i:=9) bO.nd rfl rfl rfl rfl rfl rfl (by decide +kernel) (lM (K:=K) rfl (by rfl) T.c7 (ar ji (pv 3) (pv 4))) (jW (bL (aF @C) (bL (jW (bL (aF @C) (bL (aF @C) g9))) g9))) (λ_ _ _ _ _=>⟨(g5 (K:=K) (n:=2) rfl rfl (aG (aw (i:=0) (show mu (n14:C') from by decide +kernel) rfl @D) (aG (g5 (K:=K) (n:=2) rfl rfl (aG (aw (i:=1) (show mu (n14:C') from by decide +kernel) rfl @D) (aG (aw (i:=2) (show mu (n14:C') from by decide +kernel) rfl @D) dA))) dA))),aZ,(c3 (aa (ai (nX T) hr T.pX T.fm (!j 1 (!j 3 (!j 4 (aa (ai (b9 T) hr T.bq T.aW (!j 5 (aa (ar cw ag (pv 0)) af))) af))))) (!j 2 af)))⟩))
  (aj (aI (c3 (!j 2 (aa (ar ji (iD (iA (K:=K) rfl) (pv 9) lL (je (pv 5))) (d9 (aa (bg (cJ (K:=K) rfl) (pv 9) (pv 6) (λ_ _=>rfl)) af))) (aa (iD (iA (K:=K) rfl) (pv 9) (je (pv 5)) lL) af))))))))))))))),aD (σ':=[aT _,aT _,eH,eH,eH,eH,eH,eH,eH,eH]) rfl ?_⟩
 lia;rw[aR];dsimp only;refine ite2 (λh1=>?_) (λh1=>?_)
 ·rw[pe rfl];lia;exact q t n o H nx os (Same.refl _) tt b3 rfl (M.AlkM.refl _ _)
 have h1:nx.length≠0:=λz=>h1 (gB (by rw[z];rfl));lia;refine ite2 (λh2=>?_) (λh2=>?_)
 ·lia;exact q t n o H nx os (Same.refl _) tt b3 rfl (M.AlkM.refl _ _)
 have h2:nx.length<=12:=LS λz=>h2 (gB (show(12:Int) < nx.length by omega))
 obtain⟨i,ei,hi⟩:∃i:Nat,(c:Int) % (nx.length:Int)=(i:Int)/\i < nx.length/\True:=by
  have h3:=Kg (c:Int) (show(nx.length:Int)≠0 by omega);have h4:=JS (c:Int) (show(0:Int) < nx.length by omega);exact⟨((c:Int) % (nx.length:Int)).toNat,@A,@A,trivial⟩
 lia;rename_i r1 L;have ew:(1:Int) * 2 ^ (((nx.length:Int) + 1).toNat)=((2 ^ (nx.length + 1):Nat):Int):=by rw[show((nx.length:Int) + 1)=((nx.length + 1:Nat):Int) by omega];exact shl1 _
 rw[ew,ei];obtain⟨d1,θ,a3⟩:=iI (c:=(r1:Int)) (m:=((2 ^ (nx.length + 1):Nat):Int)) (L3.mpr (lz _));have a3:=Int.ofNat_lt.mp a3;refine⟨_,_,rfl,rfl,L3.mpr (lz _),?_⟩;dsimp only;rw[θ];have m6:=tt.tab.m6;lia;rename_i r2 c1;have ζ:(1:Int) * 2 ^ ((m:Int).toNat)=((2 ^ m:Nat):Int):=shl1 m;rw[ζ];obtain⟨d2,η,a0⟩:=iI (c:=(r2:Int)) (m:=((2 ^ m:Nat):Int)) (L3.mpr (lz _));have a0:=Int.ofNat_lt.mp a0;refine⟨_,_,rfl,rfl,L3.mpr (lz _),?_⟩;dsimp only;rw[η];have ε:=NT a3 a0;clear θ η L c1 ew ζ a3 a0;lia;intro τ H1 f1 s1 e1;have Z:=s1.get en;have φ:=s1.get eo;have Y:=tt.tab.pn.same s1;have a5:=tt.tab.po.same s1;have g:=tt.tab.g;lia;refine ite2 (λh3=>?_) (λh3=>?_)
 ·lia;intro χ H2 f2 s2 e2;refine nK (s2.get Z) e2 (by rw[aR,mc];show nx.length + 1<=_;omega) λDn G ψ s3 e3=>?_;lia;intro t2 H4 f4 ξ e4;have ρ:=s2.trans (s3.trans ξ);obtain⟨x1,x2⟩:=G0 g h2 e4 (ξ.get e3) (ρ.get e1) (ρ.get φ) (Y.same ρ) (a5.same ρ) ε.1 ε.2;exact q t2 Dn o H4 _ os (s1.trans ρ) x1 (by rw[eZ];show nx.length + 1<=16;omega) rfl x2
 ·lia;dsimp only;refine ite2 (λh4=>?_) (λh4=>?_)
  ·lia;intro Dz υ;refine ip (xs:=refs os) (λj ys H'=>Cp (λzs=>∀(j:Nat) (q:Pr3),zs[j]? =aT q->∃(b:Nat) (r:Pr3),os[j]? =aT r/\b<=1/\q.2=(r.2.1||| b <<< nx.length,r.2.2)) H1 Dz j ys H') (rD υ λj q h=>by simp at h) (λj ys H' _ ⟨_,_,_,_,_,s',_⟩=>SqL.of (s'.get φ)) (λj x ys H' pz H2 hx c fp s2 e2=>?_) (λys H2 c=>?_)
   ·obtain⟨zs,rfl,π,pv,I,sz,ez⟩:=c;obtain⟨r,ν,rfl⟩:=aO hx;have er:=s2.get (sz.get (a5 r (eO ν)));have hj:=NT (b'.mp ν).1 trivial;have b5:=g.lo;have c2:j<=6:=by omega
    lia;rename_i rm c0;have eb:Je (rm:Int) 1=((rm&&&1:Nat):Int):=bt _ 1;have ι:rm&&&1<=1:=Kt;rw[eb];have e0:CPow ((rm&&&1:Nat):Int) ((nx.length:Nat):Int):=⟨@A,@A,@A⟩;lia
    have J:((rm&&&1:Nat):Int) * 2 ^ ((nx.length:Int).toNat)=(((rm&&&1) <<< nx.length:Nat):Int):=by
     rw[oe,Jc];push_cast;rfl
    rw[J,oX];intro tz G ψ s3 e3;exact vI υ π I sz ez (s2.trans s3) e3 @A (Bx pv ⟨_,r,by rw[π];exact ν,ι,rfl⟩)
   ·obtain⟨zs,rfl,π,pv,I,sz,ez⟩:=c;rw[aR] at π;lia;intro De G ψ s3 e3;rw[show(1:Int) * 2 ^ ((nx.length:Int).toNat)=((2 ^ nx.length:Nat):Int) from shl1 _] at e3;lia;intro χ H4 f4 ξ e4;have a6:=s3.trans ξ;have ρ:=sz.trans a6;refine nK (ρ.get Z) e4 (by rw[aR,mc];show nx.length + 1<=_;omega) λDn H5 f5 s5 e5=>?_;lia;intro t2 H6 f6 s6 e6;have a4:=s5.trans s6;have ω:=ρ.trans a4;have δ:=a6.trans a4;obtain⟨x1,x2⟩:=GZ g h2 e6 (s6.get e5) (a4.get (ξ.get e3)) (δ.get ez) (Y.same ω) (I.same δ) π pv;exact q t2 Dn Dz H6 _ zs (s1.trans ω) x1 (by rw[eZ];show nx.length + 1<=16;omega) π x2
  ·lia;refine nK Z φ (by rw[aR,aR,mc];have:=g.lo;omega) λDc H2 f2 s2 e2=>?_;rw[show refs nx++refs os=refs (nx++os) from(hu ..).symm] at e2;have b4:Prt H2 (nx++os):=(uo Y a5).same s2;lia;intro Dz υ;refine ip (xs:=refs (nx++os)) (λj ys H'=>Cp (λzs=>∀(j:Nat) (q:Pr3),zs[j]? =aT q->∃(b:Nat) (r:Pr3),(nx++os)[j]? =aT r/\q.2=(b,r.2.2)/\(b=r.2.1∨b=(r.2.1^^^2 ^ i)||| 2 ^ nx.length)) H2 Dz j ys H') (rD υ λj q h=>by simp at h) (λj ys H' _ ⟨_,_,_,_,_,s',_⟩=>SqL.of (s'.get e2)) (λj x ys H' pz G hx c fp s3 e3=>?_) (λys G c=>?_)
   ·obtain⟨zs,rfl,π,pv,I,sz,ez⟩:=c;obtain⟨r,ν,rfl⟩:=aO hx;have er:=s3.get (sz.get (b4 r (eO ν)));have hj:=NT (b'.mp ν).1 trivial;rw[eZ] at hj;have b5:=g.lo;have c2:j<=22:=by omega
    lia;rename_i rm c0;refine⟨r.2.1,i,nx.length,rm,rfl,@A,@A,λb hb=>?_⟩;lia;intro tz H4 f4 ξ e4;exact vI υ π I sz ez (s3.trans ξ) e4 @A (Bx pv ⟨b,r,by rw[π];exact ν,rfl,hb⟩)
   ·obtain⟨zs,rfl,π,pv,I,sz,ez⟩:=c;rw[aR,eZ] at π;have b6:zs[i]? =aT (zs.getD i (0,0,0)):=by rw[bx,cP @A];rfl
    have e9:atI (refs zs) (i:Int)=aT (V.ref (zs.getD i (0,0,0)).1):=d5 (by unfold refs;rw[fk,b6];rfl);lia;intro Dt H4 f4 ξ e4;rw[rB _ _ (by rw[aR];omega)] at e4;have c4:=ξ.get ez;lia;intro χ H5 f5 s5 e5;refine nK (s5.get e4) e5 (by rw[Ho,mc];show _ + 1<=_;omega) λDn H6 f6 s6 e6=>?_;have f0:=s6.get (s5.get c4);lia;intro ο H7 f7 s7 α;rw[rC _ _ (by rw[aR];omega)] at α;lia;intro t2 H8 f8 s8 J;have β:=s7.trans s8;have γ:=ξ.trans (s5.trans (s6.trans β));obtain⟨x1,x2⟩:=GY g h2 hi.1 J (β.get e6) (s8.get α) (I.same γ) π pv;exact q t2 Dn ο H8 _ _ (s1.trans (s2.trans (sz.trans γ))) x1 (by rw[eZ,Ho];show _ + 1<=16;omega) (by rw[Jq];omega) x2
end
section
variable {P:px} {w:wq} {K:a'} {mg:G'} {base:zx} {a:Ad}
local macro_rules | `(tactic| walk_at "l2step") =>`(tactic| first | ((with_reducible refine' iM ?e ?_);(case e=>walk_at "l2kind")) | ((with_reducible refine' lg ?e ?_);(case e=>walk_at "l2kind")) | (with_reducible refine gL ?_) | (with_reducible refine i7 ?_))
theorem wC (T:Tx K mg a):FnOk P w K mg base CX0 3 a.gE a.sX ["thing","stores","inputs"] zW:=by
 have π:FnOk P w K mg base CX0 2 a.fE a.oO ["thing","width"] (tX K):=lQ T;refine T.lC.1.okA we λL A outer s H vs Q E G h=>?_;obtain⟨t,x,y,n,m,rfl,ht,J,I,q⟩:=h
 refine⟨_,((ae (dz (PW.pt (mH (hX (gv (bF (jx (K:=K) rfl) (by rfl) T.fA IL (!j 0 (aa (nO (v:= .ty "tuple") (by rfl) T.uw Kl rfl) af))))) (jU (aK qO (bF (dk (K:=K) rfl) (by rfl) T.n6 IC (!j 0 af)) ag (aQ _))))) (aj (aI yn)) be)
  (aj (aI (sf (ai π G T.kZ T.gI (aa (bg (aE (K:=K) rfl) (pv 0) ag (λ_ _=>rfl)) (!j 1 af))) (vv (ai π G T.kZ T.gI (aa (bg (aE (K:=K) rfl) (pv 0) ag (λ_ _=>rfl)) (!j 2 af))))))))),aD (σ':=[aT _,aT _,aT _]) rfl ?_⟩
 lia;refine xU (bK J) ?_;lia;rw[bK I];exact q
theorem pB (T:Tx K mg a):FnOk P w K mg base CX0 4 a.cK a.k8 ["inputs","nexts","outs"] Cf:=by
 have π:FnOk P w K mg base CX0 1 a.dy a.jL ["thing"] (mY K):=ki T;refine T.fV.1.okA ph fun δ A outer s H vs Q E Y h=>?_;obtain⟨n,o,m,nx,os,rfl,t,q⟩:=h
 refine⟨_,((ae (dz (PW.pt (mH (hX (gv (ai π Y T.mh T.gc (!j 0 af)))) (mH (aK C3 (pv 0) ag (aQ _)) (jU (aK nT (pv 0) (ur (v:= .int 6) (by rfl) T.rl ⟨_,rfl⟩) (aQ _)))))) (aj (iC HX T.dR thr0 rfl (by rfl) T.jJ (aa gN af))) be)
  (ae (dz (PW.pt (mH (hX (gv (bF (jx (K:=K) rfl) (by rfl) T.fA IL (!j 1 (aa (nO (v:= .ty "list") (by rfl) T.n0 Jd rfl) af))))) (jU (aK nT (bF (dk (K:=K) rfl) (by rfl) T.n6 IC (!j 1 af)) (ur (v:= .int 120) (by rfl) T.rj ⟨_,rfl⟩) (aQ _))))) (aj (iC HX T.dR thr0 rfl (by rfl) T.jJ (aa gN af))) be)
  (ae (dz (PW.pt (mH (hX (gv (bF (jx (K:=K) rfl) (by rfl) T.fA IL (!j 2 (aa (nO (v:= .ty "list") (by rfl) T.n0 Jd rfl) af))))) (jU (aK nT (bF (dk (K:=K) rfl) (by rfl) T.n6 IC (!j 2 af)) (ur (v:= .int 6) (by rfl) T.uL ⟨_,rfl⟩) (aQ _))))) (aj (iC HX T.dR thr0 rfl (by rfl) T.jJ (aa gN af))) be)
  (aj (dz (hX (gv (bF (zu (K:=K) rfl rfl) (by rfl) T.GV PyProof.Rows.boot_all (aa (eG (osc:=ah fT) (ON:=["inputs","nexts","outs"]) (N:=["pair","nexts","inputs"]) (n:=1) (fx:=[1,0]) rfl rfl rfl (by decide +kernel) (aX (K:=K) rfl (ar ji (pv 1) (pv 2))) (aF @C) (λ_ _ _ _ _=>⟨(aw (i:=0) (show mu (["pair","nexts","inputs"]:C') from by decide +kernel) rfl @D),aZ,(ai (wC T) Y T.yY T.lC (!j 0 (aa (bF (dk (K:=K) rfl) (by rfl) T.n6 IC (!j 1 af)) (!j 2 af))))⟩)) af)))) (aj (iC HX T.dR thr0 rfl (by rfl) T.jJ (aa gN af))) be)))))),aD (σ':=[aT _,aT _,aT _]) rfl ?_⟩
 lia;have m6:=t.m6;have ln:=t.ln;have lo:=t.lo;have hn:=t.n;have ho:=t.o;have γ:(refs nx).length=nx.length:=cY ..
 have ε:(refs os).length=os.length:=cY ..
 refine r0 (eP @A) ?_;lia;refine r0 (eP @A) ?_;lia;refine r0 (eP @A) ?_;lia;refine nK hn ho (by rw[mc];omega) λp H2 η L β=>?_;lia;intro D ι;refine bf (xs:=refs nx++refs os) (λi ys H'=>Cs (λi ys=>ys=(lA i true).map V.bl) H2 D i ys H') (Cs.zero ι rfl) (λi ys H' _ c=>SqL.of (c.same.get β)) (λi x ys H' J c=>?_) (λys H' c=>?_)
 ·have J:(refs (nx++os))[i]? =aT x:=by unfold refs at J ⊢;rw[hu];exact J
  obtain⟨G,I,rfl⟩:=aO J;have hm:=eO I;have hi:=(b'.mp I).1;rw[eZ] at hi;have hb:=t.bn G hm;have ht:H G.1=aT (.tup [nat G.2.1,nat G.2.2]):=(lx.mp hm).elim (t.pn G) (t.po G);have α:=c.same.get (L.get hn);lia;rw[γ];refine⟨G.1,G.2.1,G.2.2,nx.length,m,rfl,c.same.get (L.get ht),hb.1,hb.2,?_⟩;refine Cs.put ι c.same c.at' c.len @A ?_;rw[c.pv,L7,hu];rfl
 ·have Z:=c.at';rw[c.pv] at Z;lia;refine E2 (SqL.of Z) ?_;lia;refine r0 (by rw[List.all_replicate];simp) ?_;lia;exact q H' (L.trans c.same)
theorem gw (T:Tx K mg a):FnOk P w K mg base CX0 5 a.aN a.gR ["self","inputs","nexts","outs"] (Cc a.ao):=by
 refine T.b7.1.okA j7 λa0 A outer s H vs Q E τ h=>?_;obtain⟨x,dx,n,o,m,nx,os,rfl,Z,t,q⟩:=h
 refine⟨_,((ae (eE (ai (pB T) τ T.rg T.fV (!j 1 (!j 2 (!j 3 af)))))
  (ae (lK (K:=K) rfl (pv 0) (pv 1) rfl)
  (ae (lK (K:=K) rfl (pv 0) (nN (oV (K:=K) rfl) (by rfl) T.uw Kl (!j 2 af)) rfl)
  (aj (lK (K:=K) rfl (pv 0) (nN (oV (K:=K) rfl) (by rfl) T.uw Kl (!j 3 af)) rfl)))))),aD (σ':=[aT _,aT _,aT _,aT _]) rfl ?_⟩
 lia;refine⟨n,o,m,nx,os,rfl,t,λH1 ε=>?_⟩;have β:=ie t.n Z @E;have ν:=ie t.o Z @E;lia;refine lG (ε.get Z) T.aq T.aL @C rfl λH2 I=>?_;have Y:=I.oth _ _ β (ε.get t.n);have ζ:=I.oth _ _ ν (ε.get t.o);lia;intro ο G ψ θ e3;have J:ο≠x:=λz=>by rw[z,I.at'] at ψ;cases ψ
 lia;refine lG (θ.get I.at') T.aq T.cF (by show 1 < 1000;decide) rfl fun γ χ=>?_;have υ:=χ.oth _ _ ν (θ.get ζ);have ω:=χ.oth _ _ J e3;lia;intro to H5 π η φ;have α:to≠x:=λz=>by rw[z,χ.at'] at π;cases π
 lia;refine lG (η.get χ.at') T.aq T.dD (by show 2 < 1000;decide) rfl fun ρ δ=>?_;have k:∀b ι,b≠x->H b=aT ι->ρ b=aT ι:=λb ι ξ e=>δ.oth _ _ ξ (η.get (χ.oth _ _ ξ (θ.get (I.oth _ _ ξ (ε.get e)))));lia;refine q ρ k ⟨⟨dx,ο,to,δ.at',δ.oth _ _ J (η.get ω),δ.oth _ _ α φ⟩,λL h=>k _ _ ?_ (t.pn L h),λL h=>k _ _ ?_ (t.po L h)⟩
 ·exact ie (t.pn L h) Z @E
 ·exact ie (t.po L h) Z @E
theorem aM (T:Tx K mg a):FnOk P w K mg base CX0 1 a.bb a.iV ["self"] (xK a.ao):=by
 refine T.ax.1.okA lF λG A outer s H vs Q E J h=>?_;obtain⟨p,m,nx,os,rfl,ma,q⟩:=h;obtain⟨dx,I,to,ho,hn,ζ⟩:=ma.ho;refine⟨_,((aj (aI (bF (dk (K:=K) rfl) (by rfl) T.n6 IC (aa (bw (K:=K) rfl (pv 0) rfl) af))))),aD (σ':=[aT _]) rfl ?_⟩;lia;refine bu ho T.aq T.cF rfl ?_;lia;unfold refs;rw[cY];exact q
theorem yp (T:Tx K mg a):FnOk P w K mg base CX0 2 a.iH a.vH ["pair","state","row"] Aa:=by
 refine T.ng.1.okA xT λI A outer s H vs Q E G h=>?_;obtain⟨t,a1,b1,x,r,rfl,ht,ha,hb,q⟩:=h;refine⟨_,((aj (aI (ke qO (ai (qT T) G T.vF T.o4 (aa (ar fO (bg (aE (K:=K) rfl) (pv 0) ag (λ_ _=>rfl)) (pv 1)) af)) (ai (qT T) G T.vF T.o4 (aa (ar fO (bg (aE (K:=K) rfl) (pv 0) ag (λ_ _=>rfl)) (pv 2)) af)) (aQ _))))),aD (σ':=[aT _,aT _,aT _]) rfl ?_⟩;lia;rw[bt];refine⟨a1&&&x,rfl,Hf Js ha,?_⟩;lia;rw[bt];refine⟨b1&&&r,rfl,Hf Js hb,?_⟩;lia;rw[xw];exact q
theorem kM (T:Tx K mg a):FnOk P w K mg base CX0 3 a.dc a.my ["pairs","state","row"] (Cb K):=by
 refine T.fH.1.okA qC fun θ A outer s H vs Q E γ h=>?_;obtain⟨r,ps,x,y,rfl,δ,pt,ν,hb,q⟩:=h;refine⟨_,((aj (aI (ai (jG T) γ T.kX T.gH (aa (eG (osc:=ah gK) (ON:=["pairs","state","row"]) (N:=n19) (n:=2) (fx:=[1,2]) rfl rfl rfl (by decide +kernel) (vt (K:=K) rfl (by rfl) T.c7 (pv 0)) (jW (bL (aF @C) (bL (aF @C) g9))) (λ_ _ _ _ _=>⟨(g5 (K:=K) (n:=2) rfl rfl (aG (aw (i:=0) (show mu (n19:C') from by decide +kernel) rfl @D) (aG (aw (i:=1) (show mu (n19:C') from by decide +kernel) rfl @D) dA))),(um (gv (ai (yp T) γ T.AR T.ng (!j 1 (!j 2 (!j 3 af)))))),(pv 0)⟩)) af))))),aD (σ':=[aT _,aT _,aT _]) rfl ?_⟩;lia;refine .inr ⟨⟨_,δ⟩,?_⟩;intro D ι;refine wX (xs:=refs ps) (λi ys H'=>Cs (λi ys=>∃J:D7,ys=J.map nat/\(∀p∈J,p < i)/\M.xm J=M.tr2 (prs (ps.take i)) x y) H D i ys H') (Cs.zero ι ⟨[],rfl,λ_ h=>hE h @E,rfl⟩) (λi ys H' _ c=>Same.tup c.same δ) (λi v ys H' p υ η c ξ L α=>?_) (λys H' c=>?_)
 ·obtain⟨I,Y,rfl⟩:=aO η;obtain⟨J,G,Z,ρ⟩:=c.pv;have hm:=eO Y;have hi:=(b'.mp Y).1;have ht:=L.get (c.same.get (pt I hm));have β:=zS x y Y;lia;refine⟨I.1,I.2.1,I.2.2,x,y,rfl,ht,(hb I hm).1,(hb I hm).2,?_⟩;cases ε:(M.od (I.2.1&&&x)^^M.od (I.2.2&&&y)) with
  | true=>
    rw[ε,pe rfl] at β;lia;refine Cs.put ι (c.same.trans L) (L.get c.at') c.len @A ⟨J++[i],?_,λk hk=>?_,?_⟩
    ·rw[G,hu];rfl
    ·rcases lx.mp hk with h | h
     ·have:=Z k h;omega
     ·rw[fy.mp h];omega
    ·rw[M.xm_snoc,ρ,β]
  | false=>
    rw[ε,nk gn,IJ] at β;lia;refine Cs.skip (c.same.trans L) (L.get c.at') c.len ⟨J,G,λk hk=>?_,?_⟩
    ·have:=Z k hk;omega
    ·rw[ρ,β]
 ·obtain⟨J,G,Z,ρ⟩:=c.pv;rw[aR] at Z ρ;have ζ:=c.at';rw[G] at ζ;lia;refine⟨D,J,rfl,ζ,λk hk=>by have:=Z k hk;omega,?_⟩;rw[ρ,Hw];exact q _ c.same
theorem cX (T:Tx K mg a):FnOk P w K mg base (CX1 P w) 3 a.aH a.fG ["self","state"] (Ey K a.ao a.cQ):=by
 refine T.aP.1.okX iX (λvs H Q E h=>?_) (λI A outer s H vs Q E G h=>?_)
 ·obtain⟨p,m,nx,os,x,k,rfl,_⟩:=h;rfl
 ·obtain⟨p,m,nx,os,x,k,rfl,ma,hk,π,L⟩:=h;obtain⟨dx,J,to,ho,hn,ζ⟩:=ma.ho;refine⟨_,((aj (dz (hX (gv (ai (lQ T) G T.kZ T.gI (!j 1 (aa (bF (dk (K:=K) rfl) (by rfl) T.n6 IC (aa (bw (K:=K) rfl (pv 0) rfl) af)) af))))) (aj (iC HX T.gi fQ rfl (by rfl) T.oF (aa gN af))) be))),aD (σ':=[aT _,aT _]) rfl ?_⟩;lia;refine bu ho T.aq T.cF rfl ?_;lia;rw[aR];cases hm:jR x (nx.length:Int) with
  | false=>
    lia;exact⟨by rw[mc];decide,L hm⟩
  | true=>
    lia;exact π hm
theorem c5 (T:Tx K mg a):FnOk P w K mg base (CX1 P w) 4 a.bG a.j2 ["self","state","row"] (zY K a.ao a.cQ):=by
 refine T.bJ.1.okX nC (λvs H Q E h=>?_) (fun θ A outer s H vs Q E Y h=>?_)
 ·obtain⟨p,m,nx,os,x,y,kx,δ,rfl,_⟩:=h;rfl
 ·obtain⟨p,m,nx,os,x,y,kx,δ,rfl,ma,g,α,ε,π,L⟩:=h;obtain⟨dx,Z,to,ho,hn,ζ⟩:=ma.ho;have ln:=g.ln;have lo:=g.lo
  refine⟨_,((ae (eE (cy (pv 0) T.aq T.c9 (cX T) (Y.mono @C) T.aP.2 .nil fQ (!j 1 af)))
   (ae (dz (hX (gv (ai (lQ T) Y T.kZ T.gI (!j 2 (aa (bw (K:=K) rfl (pv 0) rfl) af))))) (aj (iC HX T.gi fQ rfl (by rfl) T.oF (aa gN af))) be)
   (aj (aI (c3 (aa (ai (kM T) Y T.mx T.fH (aa (bw (K:=K) rfl (pv 0) rfl) (!j 1 (!j 2 af)))) (aa (ai (kM T) Y T.mx T.fH (aa (bw (K:=K) rfl (pv 0) rfl) (!j 1 (!j 2 af)))) af)))))))),aD (σ':=[aT _,aT _,aT _]) rfl ?_⟩
  lia;refine bN ho rfl ?_;lia;refine⟨p,m,nx,os,x,kx,rfl,ma,α,λhm=>?_,λhm=>L (.inl hm)⟩;lia;refine bu ho T.aq T.aL rfl ?_;lia;cases I:jR y (m:Int) with
  | false=>
    lia;exact⟨by rw[mc];decide,L (.inr I)⟩
  | true=>
    obtain⟨a1,rfl,ha⟩:=m8 hm;obtain⟨b1,rfl,hb⟩:=m8 I;lia;refine bu ho T.aq T.dD rfl ?_;lia;refine⟨to,os,a1,b1,rfl,SqT.of ζ,ma.hs,@A,g.b2,λH2 J=>?_⟩;lia;refine bu (J.get ho) T.aq T.cF rfl ?_;lia;refine⟨Z,nx,a1,b1,rfl,SqT.of (J.get hn),ma.hn.same J,@A,g.b1,fun ι β=>?_⟩;lia;intro t γ G ξ η;exact π a1 b1 rfl rfl ha hb t γ (J.trans (β.trans ξ)) η
theorem lR (T:Tx K mg a):FnOk P w K mg base (CX1 P w) 5 a.a9 a.iU ["self","rows","state"] (zU K a.ao a.cQ):=by
 refine T.cS.1.okX cA (λvs H Q E h=>?_) (λa5 A outer s H vs Q E φ h=>?_)
 ·obtain⟨p,ν,m,nx,os,x,xs,rfl,_⟩:=h;rfl
 ·obtain⟨p,ν,m,nx,os,x,xs,rfl,G,ω,τ⟩:=h;obtain⟨dx,tn,to,ho,hn,ζ⟩:=G.ma.ho;obtain⟨kx,ι⟩:=G.kx;have ln:=G.ln;have a4:=G.sq
  refine⟨_,((ae (eE (cy (pv 0) T.aq T.c9 (cX T) (φ.mono @C) T.aP.2 .nil fQ (!j 2 af)))
   (ae (ay (i:=3) cA.nd rfl @D (d9 af))
   (ae (gM (nQ ⟨rfl,rfl⟩) rfl (aX (K:=K) rfl (pv 1)) (aw (i:=4) cA.nd rfl @D) (ae (ay (i:=5) cA.nd rfl @D (cy (pv 0) T.aq T.dE (c5 T) (φ.mono @C) T.bJ.2 .nil fQ (!j 2 (!j 4 af))))
   (ae (eE (mr (K:=K) rfl HU II IH fB (pv 3) (aa (bg (aE (K:=K) rfl) (pv 5) ag (λ_ _=>rfl)) af)))
   (aj (ay (i:=2) cA.nd rfl @D (bg (aE (K:=K) rfl) (pv 5) ag (λ_ _=>rfl)))))))
   (aj (aI (c3 (!j 3 (!j 2 af))))))))),aD (σ':=[aT _,aT _,aT _,eH,eH,eH]) rfl ?_⟩
  lia;refine bN ho rfl ?_;lia;refine⟨p,m,nx,os,x,kx,rfl,G.ma,ι,λhm=>?_,λhm=>τ (.inl hm) H (Same.refl _)⟩;obtain⟨Y,rfl,θ⟩:=m8 hm;lia;intro D H1 χ ψ e1;lia;refine jK (xs:=xs) (λi σ H'=>∃(rs:D7) (v η:ry V),σ=[aT (.ref p),aT (.ref ν),aT (nat (M.wst (prs nx) Y rs)),aT (.ref D),v,η]/\Same H H'/\H' D=aT (.lst ((M.wan (prs nx) (prs os) Y rs).map nat))/\xs.take i=rs.map nat/\∀r∈rs,r < 2 ^ m) ⟨[],eH,eH,rfl,ψ,e1,rfl,λ_ h=>hE h @E⟩ (λi σ H' _ ⟨_,_,_,_,e,_⟩=>Same.seq e G.sq) ?_ ?_
  ·rintro i y σ H' δ ⟨rs,v,η,rfl,I,ε,Z,β⟩;obtain⟨ky,ξ⟩:=G.ks y (eO δ);have hi:=(b'.mp δ).1;have a3:rs.length=i:=by have:=Hm KC Z;rw[Ho,cY] at this;omega
   have ο:M.wst (prs nx) Y rs < 2 ^ nx.length:=by have:=M.wst_lt (ps:=prs nx) (rs:=rs) (x:=Y) (by rw[av];exact θ);rwa [av] at this
   lia;refine bN (I.get ho) rfl ?_;lia;refine⟨p,m,nx,os,nat (M.wst (prs nx) Y rs),y,"int",ky,rfl,G.ma.same I,G.g,rfl,yO ξ I,λa1 b1 ea eb ha hb t υ L α=>?_,fun π=>?_⟩
   ·have ea:=c6 ea;subst ea;subst eb;lia;refine jF (L.get ε) (by rw[cY,M.wan_len,mc];omega) λH8 γ=>?_;have J:=γ.oth _ _ (ie α (L.get ε) @E) α;lia;refine⟨rs++[b1],?_⟩;rw[M.wst_snoc,M.wan_snoc,hu];refine⟨_,_,rfl,λb o e=>γ.oth _ _ (au e χ) (L.get (I.get e)),γ.at',?_,λr ρ=>?_⟩
    ·rw[Kp,Z,δ,hu];rfl
    ·rcases lx.mp ρ with h | h
     ·exact β r h
     ·rw[fy.mp h];exact hb
   ·rcases π with h | h
    ·rw[bK ο] at h;cases h
    ·exact τ (.inr ⟨y,eO δ,h⟩) H' I
  ·rintro σ H' ⟨rs,v,η,rfl,I,ε,Z,β⟩;rw[Hw] at Z;lia;intro t υ f7 L α;exact ω Y rs ⟨rfl,Z,θ,β⟩ t D υ χ (I.trans L) α (L.get ε)
theorem g7 (T:Tx K mg a):FnOk P w K mg base (CX1 P w) 6 a.bH a.iL ["self","rows","state"] (Es K a.ao a.cQ):=by
 refine T.d7.okX pj (λvs H Q E h=>?_) (fun α A outer s H vs Q E Y h=>?_)
 ·obtain⟨p,G,m,nx,os,x,xs,rfl,_⟩:=h;rfl
 ·obtain⟨p,G,m,nx,os,x,xs,rfl,I,π,L⟩:=h;obtain⟨dx,γ,to,ho,hn,ζ⟩:=I.ma.ho;refine⟨_,((aj (aI (bg (aE (K:=K) rfl) (cy (pv 0) T.aq T.mM (lR T) (Y.mono @C) T.cS.2 .nil fQ (!j 1 (!j 2 af))) ag (λ_ _=>rfl))))),aD (σ':=[aT _,aT _,aT _]) rfl ?_⟩;lia;refine bN ho rfl ?_;lia;refine⟨p,G,m,nx,os,x,xs,rfl,I,λa1 rs g t D H2 Z J δ β=>?_,L⟩;lia;exact π a1 rs g D H2 Z J β
theorem ib (T:Tx K mg a):FnOk P w K mg base (CX1 P w) 7 a.bc a.iW ["self","which","turns"] (xM K a.ao a.cQ):=by
 refine T.b0.1.okX hV (λvs H Q E h=>?_) (λa0 A outer s H vs Q E ε h=>?_)
 ·obtain⟨p,m,nx,os,x,k,I,rfl,_⟩:=h;rfl
 ·obtain⟨p,m,nx,os,x,k,I,rfl,ma,g,hk,hT,π,L⟩:=h;obtain⟨dx,tn,to,ho,hn,ζ⟩:=ma.ho;have m6:=g.m6
  refine⟨_,((ae (dz (PW.pt (mH (hX (gv (ai (ki T) ε T.mh T.gc (!j 1 af)))) (mH (aK C3 (pv 1) ag (aQ _)) (jU (aK Fo (pv 1) (bw (K:=K) rfl (pv 0) rfl) (aQ _)))))) (aj (iC HX T.gi fQ rfl (by rfl) T.oF (aa gN af))) be)
   (ae (ay (i:=3) hV.nd rfl @D (ar ji (d9 (aa (ar cE ag (pv 1)) af)) (ar Fk (d9 (aa ag af)) (pv 2))))
   (aj (aI (cy (dvs:=[.int 0]) (pv 0) T.aq T.iF (g7 T) (ε.mono @C) T.d8 (.cons T.iw .nil) fQ (aa (iD (iA (K:=K) rfl) (pv 3) lL (je (pv 2))) af))))))),aD (σ':=[aT _,aT _,aT _,eH]) rfl ?_⟩
  lia;cases x with
  | int i=>
    have hk:k="int":=hk;subst hk;lia;by_cases θ:i < 0
    ·refine xU (gB θ) ?_;lia;exact⟨by rw[mc];decide,L (by show(decide ((0:Int)<=i)&&decide (i < (m:Int)))=false;rw[eP @A];rfl)⟩
    ·refine r0 (eP θ) ?_;lia;refine bu ho T.aq T.aL rfl ?_;lia;by_cases h1:(m:Int)<=i
     ·refine xU (gB h1) ?_;lia;exact⟨by rw[mc];decide,L (by show(decide ((0:Int)<=i)&&decide (i < (m:Int)))=false;rw[eP (show ¬i < (m:Int) by omega),ID])⟩
     ·refine r0 (eP h1) ?_;obtain⟨j,rfl⟩:=Jk (show 0<=i by omega);lia;rw[shl1];intro D1 H1 f1 α e1;lia;intro D2 H2 η Y e2;lia;refine Gy e2 @A @A (by rw[mc,oe];simp;omega) fun τ H3 f3 J ν=>?_;rw[oe,List.flatten_replicate_singleton] at ν;refine nK (J.get (Y.get e1)) ν (by rw[Iu,mc];simp;omega) λD4 H4 G ξ e4=>?_;have er:[nat (2 ^ j)]++lA I (V.int 0)=(2 ^ j::lA I 0).map nat:=by rw[IE,List.map_replicate];rfl
      rw[er] at e4;lia;refine bN (ξ.get (J.get (Y.get (α.get ho)))) rfl ?_;lia;intro D5 H5 f5 υ ι;rw[rB _ I (by rw[cY,Ir,Iu];omega),<-LI,M.pulse_eq] at ι;have ψ:=α.trans (Y.trans (J.trans (ξ.trans υ)));lia;refine⟨p,D5,m,nx,os,nat 0,(M.pulse j I).map nat,rfl,⟨ma.same ψ,g,⟨"int",rfl⟩,SqL.of ι,uZ.nats _ _ _,by rw[cY,M.pulse_len];omega⟩,λa1 rs ω D H6 fD ο β=>?_,λZ=>?_⟩
      ·obtain⟨ea,γ,_,_⟩:=ω;have ea:=c6 ea;subst ea
       have γ:rs=M.pulse j I:=by
        have:=Hm (O2 λv:V=>match v with | .int i=>i.toNat | _=>0) γ;rw[Iv,Iv] at this;exact(this.symm.trans (LW _)) ▸ (LW _).symm ▸ rfl
       subst γ
       have δ:H D=none:=by
        cases χ:H D with
        | none=>rfl
        | some v=>have:=ψ.get χ;rw[fD] at this;cases this
       exact π j rfl @A D H6 δ (ψ.trans ο) β
      ·rcases Z with h | ⟨y,φ,h⟩
       ·rw[show jR (nat 0) (nx.length:Int)=true from bK (lz _)] at h;cases h
       ·obtain⟨r,ρ,rfl⟩:=qE.mp φ;rw[bK (M.pulse_lt (show j < m by omega) I r ρ)] at h;cases h
  | bl b=>have hk:k="bool":=hk;subst hk;lia;exact⟨by rw[mc];decide,L rfl⟩
  | non=>have hk:k="NoneType":=hk;subst hk;lia;exact⟨by rw[mc];decide,L rfl⟩
  | str z=>have hk:k="str":=hk;subst hk;lia;exact⟨by rw[mc];decide,L rfl⟩
  | ref p2=>
    rcases hk with ⟨rfl,_⟩ | ⟨rfl,_⟩ | ⟨rfl,_⟩<;>lia<;>exact⟨by rw[mc];decide,L rfl⟩
  | _=>exact Hr hk
theorem jl (T:Tx K mg a):FnOk P w K mg base (CX1 P w) 4 a.bI a.j3 ["self","mask"] (zZ K a.ao a.cQ):=by
 refine T.cV.1.okX cB (λvs H Q E h=>?_) (fun φ A outer s H vs Q E β h=>?_)
 ·obtain⟨p,m,nx,os,x,k,rfl,_⟩:=h;rfl
 ·obtain⟨p,m,nx,os,x,k,rfl,ma,g,hk,π,L⟩:=h;obtain⟨dx,χ,to,ho,hn,ζ⟩:=ma.ho;have ln:=g.ln
  refine⟨_,((ae (eE (cy (pv 0) T.aq T.c9 (cX T) (β.mono @C) T.aP.2 .nil fQ (!j 1 af)))
   (ae (ay (i:=2) cB.nd rfl @D ag)
   (ae (ay (i:=3) cB.nd rfl @D ag)
   (ae (gM (nQ ⟨rfl,rfl⟩) rfl (aX (K:=K) rfl (ai (qg T) β T.sM T.jy (!j 1 af))) (aw (i:=4) cB.nd rfl @D) (ae (ay (i:=2) cB.nd rfl @D (ar jg (pv 2) (bg (aE (K:=K) rfl) (bg (aE (K:=K) rfl) (bw (K:=K) rfl (pv 0) rfl) (pv 4) (λ_ _=>rfl)) ag (λ_ _=>rfl))))
   (aj (ay (i:=3) cB.nd rfl @D (ar jg (pv 3) (bg (aE (K:=K) rfl) (bg (aE (K:=K) rfl) (bw (K:=K) rfl (pv 0) rfl) (pv 4) (λ_ _=>rfl)) ag (λ_ _=>rfl)))))))
   (aj (aI (c3 (!j 2 (!j 3 af)))))))))),aD (σ':=[aT _,aT _,eH,eH,eH]) rfl ?_⟩
  lia;refine bN ho rfl ?_;lia;refine⟨p,m,nx,os,x,k,rfl,ma,hk,λhm=>?_,L⟩;obtain⟨J,rfl,θ⟩:=m8 hm;lia;refine⟨J,rfl,hZ θ @A,λD H1 ψ Z e1=>?_⟩;rw[M.pl_up θ @A] at e1;generalize hA:nx.map (λq=>q.2.1)=As at π;generalize I:nx.map (λq=>q.2.2)=Bs at π;have ι:As.length=nx.length:=by rw[<-hA,cY]
  have δ:Bs.length=nx.length:=by rw[<-I,cY]
  lia;refine jK (xs:=(M.pl nx.length J).map nat) (λi σ H'=>∃v,σ=[aT (.ref p),aT (nat J),aT (nat (((M.pl nx.length J).take i).foldl (λa p=>a^^^As.getD p 0) 0)),aT (nat (((M.pl nx.length J).take i).foldl (λa p=>a^^^Bs.getD p 0) 0)),v]/\H'=H1) ⟨eH,rfl,rfl⟩ (λi σ H' _ ⟨_,_,e⟩=>by rw[e];exact SqL.of e1) ?_ ?_
  ·rintro i y σ H' ν ⟨v,rfl,rfl⟩;obtain⟨k,α,rfl⟩:=aO ν;have ε:k < nx.length:=Iq.mp (JV.mp (eO α)).1;obtain⟨Y,G⟩:∃Y,nx[k]? =aT Y:=⟨_,cP ε⟩;have ο:atI (refs nx) (k:Int)=aT (.ref Y.1):=d5 (by unfold refs;rw[fk,G];rfl);have ht:=Z.get (ma.hn Y (eO G));have ξ:=Z.get hn;have τ:As.getD k 0=Y.2.1:=by rw[<-hA,bx,fk,G];rfl
   have ρ:Bs.getD k 0=Y.2.2:=by rw[<-I,bx,fk,G];rfl
   lia;refine bu (Z.get ho) T.aq T.cF rfl ?_;lia;refine bu (Z.get ho) T.aq T.cF rfl ?_;lia;refine⟨aT (nat k),?_,rfl⟩;rw[cG,cG,take_succ α,K0,K0];show _=[_,_,aT (nat (_^^^As.getD k 0)),aT (nat (_^^^Bs.getD k 0)),_];rw[τ,ρ]
  ·rintro σ H' ⟨v,rfl,rfl⟩;rw[cY,Hw,M.sm_places As J (by rw[ι];exact θ) nx.length @A,M.sm_places Bs J (by rw[δ];exact θ) nx.length @A];lia;intro t H2 η γ υ;exact π J rfl θ t H2 (Z.trans γ) υ
theorem d0 (T:Tx K mg a):FnOk P w K mg base CX0 1 a.aU a.ik ["self"] (v3 a.ao):=by
 refine T.bC.1.okA kH λG A outer s H vs Q E J h=>?_;obtain⟨p,m,nx,os,rfl,ma,q⟩:=h;obtain⟨dx,I,to,ho,hn,ζ⟩:=ma.ho;refine⟨_,((aj (aI (bF (dk (K:=K) rfl) (by rfl) T.n6 IC (aa (bw (K:=K) rfl (pv 0) rfl) af))))),aD (σ':=[aT _]) rfl ?_⟩;lia;refine bu ho T.aq T.dD rfl ?_;lia;unfold refs;rw[cY];exact q
end
local macro_rules | `(tactic| walk_at "l2step") =>`(tactic| first | ((with_reducible refine' oW ?e ?a ?_);(case e=>walk_at "l2hp");(case a=>walk_at "l2side")) | ((with_reducible refine' w9 ?a ?b ?_);(case a=>walk_at "l2side");(case b=>walk_at "l2side");(with_reducible intro _ _)))
section
variable {P:px} {w:wq} {K:a'} {mg:G'} {base:zx} {a:Ad}
local macro_rules | `(tactic| walk_at "l2step") =>`(tactic| first | ((with_reducible refine' iM ?e ?_);(case e=>walk_at "l2kind")) | ((with_reducible refine' lg ?e ?_);(case e=>walk_at "l2kind")) | (with_reducible refine gL ?_) | (with_reducible refine i7 ?_))
theorem jj (T:Tx K mg a):FnOk P w K mg base CX0 7 a.dN a.oQ ["_law_tables"] (v8 a.ao):=by
 refine T.eW.1.okA rY λY A outer s H vs Q E J h=>?_;obtain⟨t,n,o,m,nx,os,rfl,tt,q⟩:=h;have α:=tt.t;refine⟨_,((aj (aI (qK T.tQ (gw T) (J.mono @C) (by rfl) T.sQ T.b7.2 .nil dZ (aa (bg (aE (K:=K) rfl) (pv 0) ag (λ_ _=>rfl)) (aa (bg (aE (K:=K) rfl) (pv 0) ag (λ_ _=>rfl)) (aa (bg (aE (K:=K) rfl) (pv 0) ag (λ_ _=>rfl)) af))))))),aD (σ':=[aT _]) rfl ?_⟩;lia;intro x dx H1 L G e1;refine⟨x,dx,n,o,m,nx,os,rfl,e1,tt.tab.same G,λZ k ma=>⟨rfl,?_⟩⟩;exact q x Z (λb I e=>k b I (au e L) (G.get e)) ma
theorem qV (T:Tx K mg a) (PT:ee) (φ:K.In base) (I:LM.LamB mg base a.a7 PT):FnOk P w K mg base CX0 7 a.dh a.mC ["_law_tables","_law_cell_here"] (tZ lpos PT):=by
 have rN:=@pC P w K mg base a T PT φ I;refine T.gU.1.okA fS λa5 A outer s H vs Q E Y h=>?_;obtain⟨t,n,o,m,nx,os,c,rfl,tt,ξ,TL,q⟩:=h
 refine⟨_,((ae (gM Hq rfl (cD (by rfl) T.dI (aa (ar cu (pv 1) ag) af)) (aw (i:=2) fS.nd rfl @D) (ae (ay (i:=0) fS.nd rfl @D (ai (qW T) Y T.sP T.gW (!j 0 (aa (ai (b9 T) Y T.bq T.aW (!j 1 (!j 2 af))) af))))
  (aj (ay (i:=0) fS.nd rfl @D (ym rN (Y.mono @C) (by rfl) T.rh T.rf T.iN .nil dZ (!j 0 (aa (ai (b9 T) Y T.bq T.aW (!j 1 (aa (ar cw ag (pv 2)) af))) af)))))))
  (aj (aI (pv 0))))),aD (σ':=[aT _,aT _,eH]) rfl ?_⟩
 lia;obtain⟨θ,ι,a4⟩:∃θ:Nat,c % 4=(θ:Int)/\θ < 4:=⟨(c % 4).toNat,@A,@A⟩;rw[ι];refine ij (λi σ H'=>∃(t' ν o':ee) (J os':ef Pr3) (ζ:ry V),σ=[aT (.ref t'),aT (.int c),ζ]/\But PT H H'/\LM.TabL lpos lamQ PT H'/\TabT H' t' ν o' m J os'/\J.length<=16/\os'.length=os.length/\M.AlkM (prs nx) (prs os) (prs J) (prs os')) ⟨t,n,o,nx,os,eH,rfl,λb ob _ e=>e,TL,tt,ξ,rfl,M.AlkM.refl _ _⟩ ?_ ?_
 ·rintro i σ H' hi ⟨t',ν,o',J,os',ζ,rfl,B',δ,tt',ο,τ,al'⟩;have hi:i < 4:=by omega
  lia;rename_i r1 L;refine⟨t',ν,o',m,J,os',r1,rfl,tt',ο,λZ n2 o2 H2 γ β χ α l2 a0 ε=>?_⟩;lia;rename_i r2 a3;refine⟨Z,n2,o2,m,γ,β,r2,rfl,α,l2,nr δ χ,λt3 n3 o3 G η ω B3 ρ υ l3 ψ π=>?_⟩;lia;exact⟨t3,n3,o3,η,ω,_,rfl,B'.trans ((But.of χ).trans B3),ρ,υ,@A,@A,al'.trans (ε.trans π)⟩
 ·rintro σ H' ⟨t',ν,o',J,os',ζ,rfl,B',δ,tt',ο,τ,al'⟩;lia;exact q t' ν o' H' J os' B' δ tt' ο τ al'
theorem qU (T:Tx K mg a):FnOk P w K mg base CX0 1 a.df a.mB ["_law_tables","_law_cell_here"] tY:=by
 refine T.gT.1.okA cI λa6 A outer s H vs Q E hr h=>?_;obtain⟨t,n,o,m,nx,os,c,rfl,tt,a3,a0,q⟩:=h;have et:=tt.t;have γ:=tt.tab.n;have eo:=tt.tab.o;have po:=tt.tab.po;have g:=tt.tab.g;have ω:=g.lo;have m6:=g.m6
 obtain⟨i,ei,hi⟩:∃i:Nat,c % (os.length:Int)=(i:Int)/\i < os.length:=by
  have h3:=Kg c (show(os.length:Int)≠0 by omega);have θ:=JS c (show(0:Int) < os.length by omega);exact⟨(c % (os.length:Int)).toNat,@A,@A⟩
 obtain⟨k,G,hk⟩:∃k:Nat,c / 8 % (m:Int)=(k:Int)/\k < m:=by
  have h3:=Kg (c / 8) (show(m:Int)≠0 by omega);have θ:=JS (c / 8) (show(0:Int) < m by omega);exact⟨(c / 8 % (m:Int)).toNat,@A,@A⟩
 obtain⟨r,L⟩:∃r,os[i]? =aT r:=⟨_,cP hi⟩;have er:=po r (eO L)
 refine⟨_,((ae (vo (pv 0) (nM rfl (aG (aw (i:=2) cI.nd rfl @D) (aG (aw (i:=3) cI.nd rfl @D) (aG (aw (i:=4) cI.nd rfl @D) dA)))))
  (ae (ay (i:=5) cI.nd rfl @D (ar cu (pv 1) (bF (dk (K:=K) rfl) (by rfl) T.n6 IC (!j 4 af))))
  (ae (vo (bg (cJ (K:=K) rfl) (pv 4) (pv 5) (λ_ _=>rfl)) (nM rfl (aG (aw (i:=6) cI.nd rfl @D) (aG (aw (i:=7) cI.nd rfl @D) dA))))
  (aj (aI (c3 (!j 2 (!j 3 (aa (ar ji (ar ji (iD (iA (K:=K) rfl) (pv 4) lL (je (pv 5))) (d9 (aa (c3 (!j 6 (aa (ar jg (pv 7) (ar cE ag (ar cu (ar g6 (pv 1) ag) (pv 2)))) af))) af))) (iD (iA (K:=K) rfl) (pv 4) (je (ar cw (pv 5) ag)) lL)) af)))))))))),aD (σ':=[aT _,aT _,eH,eH,eH,eH,eH,eH]) rfl ?_⟩
 lia;rw[aR];refine⟨_,_,rfl,rfl,@A,?_⟩;dsimp only;rw[ei];have a4:atI (refs os) (i:Int)=aT (.ref r.1):=d5 (by unfold refs;rw[fk,L];rfl);lia;intro Da H1 f1 ζ e1;rw[rB _ _ (by rw[aR];omega)] at e1;have φ:=ζ.get eo;lia;intro ε H2 η δ π;rw[G,show(1:Int) * 2 ^ ((k:Int).toNat)=((2 ^ k:Nat):Int) from shl1 k,cG] at π;lia;intro χ H3 ψ J e3;refine nK (J.get (δ.get e1)) e3 (by rw[Ho,mc];show _ + 1<=_;omega) λDm H4 f4 ξ e4=>?_;have ρ:=δ.trans (J.trans ξ);have a5:=ρ.get φ;lia;intro Dr H5 f5 β ν;rw[show((i:Int) + 1)=((i + 1:Nat):Int) by omega,rC _ _ (by rw[aR];omega)] at ν;refine nK (β.get e4) ν (by rw[eZ,Ho,Jq,aR,mc];show _ + 1 + _<=_;omega) fun ο H6 ι τ e6=>?_;lia;intro Z H7 f7 Y α;have υ:=β.trans (τ.trans Y);have I:=ζ.trans (ρ.trans υ);have x1:=Cm g L hk α (I.get γ) (Y.get e6) ((J.trans (ξ.trans υ)).get π) (tt.tab.pn.same I) (po.same I);exact q Z n ο H7 _ i k I x1 hi hk ⟨r.2,by rw[fk,L];rfl,by show O2 _ _=_;rw[List.map_set]⟩
end
section
variable {P:px} {w:wq} {K:a'} {mg:G'} {base:zx} {a:Ad}
theorem iQ (T:Tx K mg a):FnOk P w K mg base CX0 1 a.bj a.jv ["self","mask"] (Eu a.aV):=by
 refine T.cH.1.okA cO λa0 A outer s H vs Q E χ h=>?_;obtain⟨p,d,f,n,G,x,rfl,st,q⟩:=h;have β:=AM χ;obtain⟨dx,ho⟩:=st.ho;obtain⟨es,hd,ht,g,l⟩:=st.he
 refine⟨_,((ae (ay (i:=2) cO.nd rfl @D ag)
  (ae (vn Hq (E9 (Fj β (ar kL (kg (K:=K) rfl Iz HR Hz km (pv 1)) ag) (bw (K:=K) rfl (pv 0) rfl))) (ae (ay (i:=3) cO.nd rfl @D (yl β (bw (K:=K) rfl (pv 0) rfl) (ar kL (kg (K:=K) rfl Iz HR Hz km (pv 1)) ag) (λ_ _=>rfl)))
  (ae (ay (i:=1) cO.nd rfl @D (ar jg (pv 1) (bg (aE (K:=K) rfl) (pv 3) ag (λ_ _=>rfl))))
  (aj (ay (i:=2) cO.nd rfl @D (ar jg (pv 2) (bg (aE (K:=K) rfl) (pv 3) ag (λ_ _=>rfl))))))))
  (aj (aI (c3 (!j 1 (!j 2 af)))))))),aD (σ':=[aT _,aT _,eH,eH]) rfl ?_⟩
 lia;refine⟨fun μ σ' H'=>∃J v,σ'=[aT (.ref p),aT (nat (x^^^M.sm G J)),aT (nat J),v]/\H'=H/\J < 2 ^ G.length/\μ=x^^^M.sm G J/\M.Frs G J,⟨x,0,eH,?_,rfl,lz _,?_,M.Frs.zero _⟩,?_⟩
 ·rw[M.sm_zero,IJ];rfl
 ·rw[M.sm_zero,IJ]
 rintro μ σ' H' ⟨J,v,rfl,rfl,ι,rfl,Z⟩;lia;refine bu ho T.dQ T.cU rfl ?_;refine EX hd ?_;lia;generalize hm:x^^^M.sm G J=m;refine iteB (fun α=>?_) (fun α=>?_)
 ·rcases nj es ((vu (m:Int):Nat) - 1:Int) with ⟨e,he,δ,ev⟩ | ⟨_,ζ⟩
  ·have Y:m≠0:=λz=>by rw[z,tE] at δ;omega
   have hl2:m.log2=e.m.log2:=by rw[jN Y] at δ;omega
   have I:(e.m,e.p)∈es.map (λe=>(e.m,e.p)):=qE.mpr ⟨e,he,rfl⟩;have υ:=g.nz _ I;refine⟨λL H2=>∃ν v,L=[aT (.ref p),aT (nat (x^^^M.sm G ν)),aT (nat ν),v]/\H2=H'/\ν < 2 ^ G.length/\x^^^M.sm G ν < m/\M.Frs G ν,λL H2 ⟨ν,v,h1,h2,ω,θ,ψ⟩=>⟨_,θ,ν,v,h1,h2,ω,rfl,ψ⟩,?_⟩;lia;refine bu ho T.dQ T.cU rfl ?_;lia;refine xX hd ev ?_;have φ:=ht e he;lia;refine⟨J^^^e.p,aT (.ref e.a),?_,rfl,M.xor_lt_pow ι (g.lt _ I),?_,Z.xor (g.sub _ I)⟩
   ·rw[M.sm_xor,g.sm _ I,<-Ip,hm,cG,cG]
   ·rw[M.sm_xor,g.sm _ I,<-Ip,hm];exact M.xor_less Y υ hl2
  ·rw[ζ] at α;cases α
 ·lia;intro t H2 η ο e2;subst hm;refine q t H2 J η ο e2 ι (fun π y ρ ξ hl2=>?_) Z;rcases nj es ((vu ((x^^^M.sm G J:Nat):Int):Nat) - 1:Int) with ⟨e,he,δ,ev⟩ | ⟨h1,ζ⟩
  ·rw[ev] at α;cases α
  ·obtain⟨e,he,ε⟩:=g.all y ρ ξ;obtain⟨τ,γ,rfl⟩:=qE.mp he;refine h1 τ γ ?_;have ε:τ.m.log2=y.log2:=ε;rw[jN π,ε,hl2];omega
theorem si (T:Tx K mg a):FnOk P w K mg base CX0 2 a.cL a.oS ["self","place","row"] (Ew a.aV):=by
 refine T.gJ.1.okA i6 fun ω A outer s H vs Q E ν h=>?_;obtain⟨p,d,f,n,I,r,rfl,st,hl,q⟩:=h;have β:=AM ν;obtain⟨dx,ho⟩:=st.ho
 refine⟨_,((ae (ay (i:=3) i6.nd rfl @D (qJ (pv 0) T.dQ T.jm (iQ T) (ν.mono @C) T.cH.2 .nil dZ (!j 2 af)))
  (ae (ay (i:=4) i6.nd rfl @D (ar jg (bg (aE (K:=K) rfl) (pv 3) ag (λ_ _=>rfl)) (ar cE ag (pv 1))))
  (aj (dz (aK jh (bg (aE (K:=K) rfl) (pv 3) ag (λ_ _=>rfl)) ag (aQ _)) (aj (eE (mr (K:=K) rfl HU II IH fB (bw (K:=K) rfl (pv 0) rfl) (!j 4 af)))) (ae (eE (mr (K:=K) rfl HU II IH fB (bw (K:=K) rfl (pv 0) rfl) (!j 1 af)))
  (aj (CL β (bw (K:=K) rfl (pv 0) rfl) (ar kL (kg (K:=K) rfl Iz HR Hz km (bg (aE (K:=K) rfl) (pv 3) ag (λ_ _=>rfl))) ag) (c3 (aa (bg (aE (K:=K) rfl) (pv 3) ag (λ_ _=>rfl)) (!j 4 af))) rfl)))))))),aD (σ':=[aT _,aT _,aT _,eH,eH]) rfl ?_⟩
 lia;refine bh ho rfl ?_;lia;refine⟨p,d,f,n,I,r,rfl,st,λt H2 α η Z υ π hn ι=>?_⟩;lia;rw[shl1,cG];have ζ:=Z.get ho;have J:=st.same Z;have lf:=M.fr_len I;refine iteB (fun δ=>?_) (fun δ=>?_)
 ·have hz:r^^^M.sm I α=0:=by have:=V.int.inj (Ji δ);omega
  obtain⟨nms,Y,τ⟩:=J.hn;have ln:=τ.len;lia;refine bu ζ T.dQ T.gP rfl ?_;lia;refine jF Y (by rw[cY];exact dU @A) λG L=>?_;lia;exact q G (λb o h1 h2 ρ e=>L.oth _ _ ρ (Z.get e)) (J.null π hz τ Y L)
 ·have hz:r^^^M.sm I α≠0:=λz=>by rw[z] at δ;exact hE δ @C
  obtain⟨es,hd,ht,g,le⟩:=J.he;have φ:=J.hf;lia;refine bu ζ T.dQ T.dJ rfl ?_;lia;refine jF J.hf (by rw[cY];exact dU @A) λG L=>?_;have e3:=L.oth _ _ (ie υ J.hf @E) υ;have θ:=L.oth _ _ (ie ζ J.hf @E) ζ;have ο:=L.oth _ _ (ie hd J.hf @E) hd;lia;intro t' γ f4 ξ ψ;lia;refine bu (ξ.get θ) T.dQ T.cU rfl ?_;lia;refine CB (ξ.get ο) (by unfold kW;rw[cY];exact dU @A) λH5 ε=>?_;lia;refine q H5 (λb o h1 h2 ρ e=>ε.oth _ _ h1 (ξ.get (L.oth _ _ h2 (Z.get e)))) (J.more π hz (hn hz) ι L ξ ψ hd ht g le ?_);have χ:(((r^^^M.sm I α).log2 + 1:Nat):Int) - 1=(((r^^^M.sm I α).log2:Nat):Int):=by omega
  rw[jN hz,χ] at ε;exact ε
theorem ia (T:Tx K mg a):FnOk P w K mg base CX0 3 a.a8 a.iT ["self","rows"] (B9 a.aV):=by
 refine T.cR.1.okA eg λa4 A outer s H vs Q E hr h=>?_;obtain⟨x,dx,r,Y,rfl,hw,hl,φ,q⟩:=h;have β:=AM hr;have rx:r≠x:=ie hw φ @E
 refine⟨_,((ae (lK (K:=K) rfl (pv 0) Ax rfl)
  (ae (lK (K:=K) rfl (pv 0) (d9 af) rfl)
  (ae (lK (K:=K) rfl (pv 0) (d9 af) rfl)
  (aj (gM Hq rfl (lM (K:=K) rfl (by rfl) T.c7 (pv 1)) (nM rfl (aG (aw (i:=2) eg.nd rfl @D) (aG (aw (i:=3) eg.nd rfl @D) dA))) (aj (eE (qJ (pv 0) T.dQ T.uz (si T) (hr.mono @C) T.gJ.2 .nil dZ (!j 2 (!j 3 af))))))))))),aD (σ':=[aT _,aT _,eH,eH]) rfl ?_⟩
 lia;intro d H1 f1 s1 e1;lia;have Z:d≠x:=λz=>by rw[z,φ] at f1;cases f1
 refine lG (s1.get φ) T.dQ T.cU @C rfl λH2 θ=>?_;lia;intro f G f3 ξ e3;lia;have ε:f≠x:=λz=>by rw[z,θ.at'] at f3;cases f3
 refine lG (ξ.get θ.at') T.dQ T.dJ (by show 1 < 1000;decide) rfl fun γ χ=>?_;lia;intro n H5 ν ι e5;lia;have ο:n≠x:=λz=>by rw[z,χ.at'] at ν;cases ν
 refine lG (ι.get χ.at') T.dQ T.gP (by show 2 < 1000;decide) rfl λH6 δ=>?_;have k1:∀b o,b≠x->H b=aT o->H2 b=aT o:=λb o I e=>θ.oth _ _ I (s1.get e);have k2:∀b o,b≠x->H b=aT o->γ b=aT o:=λb o I e=>χ.oth _ _ I (ξ.get (k1 b o I e));have k3:∀b o,b≠x->H b=aT o->H6 b=aT o:=λb o I e=>δ.oth _ _ I (ι.get (k2 b o I e));have nd:∀b o,H b=aT o->b≠d:=λb o e=>au e f1;have nf:∀b o,b≠x->H b=aT o->b≠f:=λb o I e=>au (k1 b o I e) f3;have nn:∀b o,b≠x->H b=aT o->b≠n:=λb o I e=>au (k2 b o I e) ν;have ψ:=χ.oth _ _ ε e3;have fn:f≠n:=au ψ ν;have ω:H6 d=aT (.dK (kW [])):=δ.oth _ _ Z (ι.get (χ.oth _ _ Z (ξ.get (θ.oth _ _ Z e1))));have a0:=k3 _ _ rx hw;lia;refine vG (xs:=Y.map nat) (λi σ H'=>∃v η,σ=[aT (.ref x),aT (.ref r),v,η]/\StA H' a.aV x d f n (Y.take i)/\∀b o,b≠x->H b=aT o->H' b=aT o) ?_ ?_ ?_ ?_
 ·refine⟨eH,eH,rfl,⟨⟨dx,δ.at'⟩,⟨[],ω,λ_ h=>hE h @E,M.Ech.nil,rfl⟩,δ.oth _ _ ε (ι.get ψ),⟨[],δ.oth _ _ ο e5,M.Nul.nil⟩,fn⟩,k3⟩
 ·rintro i σ H' _ ⟨v,η,_,_,k⟩;exact SqL.of (k _ _ rx hw)
 ·rintro i y σ H' p υ hy ⟨v,η,rfl,st,k⟩ fp L α;obtain⟨ri,ζ,rfl⟩:=aO hy;obtain⟨a3,ρ⟩:=(st.same L).ho;lia;refine bh ρ rfl ?_;lia;have tl:=vg ζ;refine⟨x,d,f,n,Y.take i,ri,by rw[tl],st.same L,by rw[tl];have:=(b'.mp ζ).1;omega,λJ τ π=>?_⟩;lia;refine⟨_,_,rfl,by rw[take_succ ζ];exact π,λb o I e=>τ b o (nd b o e) (nf b o I e) (nn b o I e) (L.get (k b o I e))⟩
 ·rintro σ H' ⟨v,η,rfl,st,k⟩;rw[cY,Hw] at st;lia;exact q H' d f n k st
theorem uv (T:Tx K mg a):FnOk P w K mg base CX0 5 a.oK a.BL ["rows"] Ci:=by
 refine T.qr.1.okA Ct fun β A outer s H vs Q E L h=>?_;obtain⟨r,I,rfl,hw,Y,q⟩:=h;refine⟨_,((aj (aI (nN (w6 (K:=K) rfl) (by rfl) T.n0 Jd (aa (bw (K:=K) rfl (qK T.zI (ia T) (L.mono @C) (by rfl) T.y1 T.cR.2 .nil dZ (!j 0 af)) rfl) af))))),aD (σ':=[aT _]) rfl ?_⟩;lia;intro x dx H2 η J α;refine⟨x,dx,r,I,rfl,J.get hw,Y,α,fun δ d f n k st=>⟨rfl,?_⟩⟩;obtain⟨υ,ho⟩:=st.ho;refine bu ho T.dQ T.dJ rfl ?_;have hf:=st.hf;lia;intro D γ G ξ Z;have hs:Same H δ:=λb o e=>k b o (au e η) (J.get e);exact q D γ (hs.free G) (hs.trans ξ) Z
theorem lP (T:Tx K mg a):FnOk P w K mg base CX0 5 a.gz a.sU ["rows","wish"] vZ:=by
 refine T.ir.1.okA lE λa0 A outer s H vs Q E δ h=>?_;obtain⟨r,I,x,rfl,hw,hl,L,ν,ρ,qA,qB⟩:=h
 refine⟨_,((ae (ay (i:=2) lE.nd rfl @D (qK T.zI (ia T) (δ.mono @C) (by rfl) T.y1 T.cR.2 .nil dZ (!j 0 af)))
  (ae (ay (i:=3) lE.nd rfl @D (qJ (pv 2) T.dQ T.jm (iQ T) (δ.mono @C) T.cH.2 .nil dZ (!j 1 af)))
  (ae (dz (aK jh (bg (aE (K:=K) rfl) (pv 3) ag (λ_ _=>rfl)) ag (aQ _)) (aj (aI (c3 (aa gN (aa (ai (qg T) δ T.sM T.jy (aa (bg (aE (K:=K) rfl) (pv 3) ag (λ_ _=>rfl)) af)) af))))) be)
  (aj (aI (c3 (aa gN (aa (qJ (pv 2) T.dQ T.n8 (mJ T) (δ.mono @C) T.du.2 .nil dZ (aa (ar kL (kg (K:=K) rfl Iz HR Hz km (bg (aE (K:=K) rfl) (pv 3) ag (λ_ _=>rfl))) ag) af)) af))))))))),aD (σ':=[aT _,aT _,eH,eH]) rfl ?_⟩
 lia;intro p dx H2 η ψ e2;refine⟨p,dx,r,I,rfl,ψ.get hw,hl,e2,λG d f n k st=>⟨rfl,?_⟩⟩;obtain⟨υ,ho⟩:=st.ho;have hs:Same H G:=λb o e=>k b o (au e η) (ψ.get e);lia;refine bh ho rfl ?_;lia;refine⟨p,d,f,n,I,x,rfl,st,λt γ J f4 ξ e4 hq hn π=>?_⟩;lia;refine iteB (fun ε=>?_) (fun ε=>?_)
 ·have hz:x^^^M.sm I J=0:=by have:=V.int.inj (Ji ε);omega
  have θ:M.sm I J=x:=by
   have:=Hm (x^^^·) hz;simp only[<-Ip,Jm,JO,IJ] at this;exact this
  lia;refine⟨J,rfl,eu hq (hD @C hl),λD H5 f5 ζ e5=>?_⟩;lia;intro t' χ ι β τ;exact qA t' D χ J (k6 (hs.trans ξ) f5) (hs.trans (ξ.trans (ζ.trans β))) τ (β.get e5) ⟨hq,θ,π⟩
 ·have hz:x^^^M.sm I J≠0:=λz=>by rw[z] at ε;exact hE ε @C
  have ω:x^^^M.sm I J < 2 ^ 1000:=M.xor_lt_pow ν (M.span_lt L (M.sm_span I J));have Z:=M.log2_under hz ω;have Y:¬M.Span I x:=fun ο=>hn hz _ (M.span_xor ο (M.sm_span I J)) hz rfl;have α:(M.fr I).length < 64:=ρ.resolve_left Y;have ez:(((x^^^M.sm I J).log2 + 1:Nat):Int) - 1=(((x^^^M.sm I J).log2:Nat):Int):=by omega
  lia;refine bh (ξ.get ho) rfl ?_;lia;rw[jN hz,ez];refine⟨p,d,f,n,I,(x^^^M.sm I J).log2,rfl,st.same ξ,Z,L,α,hn hz,λm H5 ζ B=>?_⟩;lia;intro t' χ ι β τ;refine qB t' χ m (hs.trans (ξ.trans (ζ.trans β))) τ ⟨Y,⟨M.sm I J,M.sm_span _ _,hz,hn hz,B⟩,B.ev,B.odd hz rfl Z,λW hW φ=>B.lt W hW ?_⟩;exact M.log2_under hz (M.xor_lt_pow φ (M.span_lt hW (M.sm_span I J)))
end
section
variable {P:px} {w:wq} {K:a'} {mg:G'} {base:zx} {a:Ad}
local macro_rules | `(tactic| walk_at "l2step") =>`(tactic| first | ((with_reducible refine' iM ?e ?_);(case e=>walk_at "l2kind")) | ((with_reducible refine' lg ?e ?_);(case e=>walk_at "l2kind")) | (with_reducible refine gL ?_) | (with_reducible refine i7 ?_))
theorem uu (T:Tx K mg a):FnOk P w K mg base CX0 1 a.eK a.qj ["whole","width","count"] xJ:=by
 refine T.jP.1.okA ug λY A outer s H vs Q E α h=>?_;obtain⟨J,Z,ψ,rfl,hw,hT,q⟩:=h;have I:=lz Z;have L:(1:Int) * 2 ^ ((Z:Int).toNat) - 1=((2 ^ Z - 1:Nat):Int):=by rw[shl1];omega
 refine⟨_,((aj (aI (eG (osc:=ah jD) (ON:=["whole","width","count"]) (N:=["place","whole","width"]) (n:=1) (fx:=[0,1]) rfl rfl rfl (by decide +kernel) (cD (by rfl) T.dI (!j 2 af)) (aF @C) (λ_ _ _ _ _=>⟨(aw (i:=0) (show mu (["place","whole","width"]:C') from by decide +kernel) rfl @D),aZ,(ar fO (ar nS (pv 1) (ar mw (pv 0) (pv 2))) (ar kL (ar cE ag (pv 2)) ag))⟩))))),aD (σ':=[aT _,aT _,aT _]) rfl ?_⟩;lia;intro D ι;refine eQ (λi ys H'=>Cs (λi ys=>ys=((ko i).map λt=>(J>>>(t * Z))&&&(2 ^ Z - 1)).map nat) H D i ys H') (Cs.zero ι rfl) (λi ys H' hi c=>?_) (λys H' c=>?_)
 ·have G:((0:Int) + (i:Int)) * (Z:Int)=((i * Z:Nat):Int):=by rw[Jt];push_cast;rfl
  lia;rw[G];lia;rw[uf,L,bt];refine Cs.put ι c.same c.at' c.len @A ?_;rw[c.pv,Jf,hu,hu];rfl
 ·have G:=c.at';rw[c.pv,oe] at G;exact q D H' ι c.same G
theorem Az (T:Tx K mg a):FnOk P w K mg base CX0 5 a.kr a.zi ["machine","turns"] (zV a.ao):=by
 refine T.rO.1.okA jB λa0 A outer s H vs Q E π h=>?_;obtain⟨p,m,nx,os,T',rfl,ma,g,hT,q⟩:=h;obtain⟨dx,tn,to,ho,hn,ζ⟩:=ma.ho;have m6:=g.m6;have ln:=g.ln
 refine⟨_,((ae (b8 (osc:=ah nG) (ON:=["machine","turns","states","told","turn"]) (N:=["which","machine"]) (n:=1) (fx:=[0]) (i:=2) jB.nd rfl rfl rfl rfl rfl rfl (by decide +kernel) (cD (by rfl) T.dI (aa (bw (K:=K) rfl (pv 0) rfl) af)) (aF @C) (λ_ _ _ _ _=>⟨(aw (i:=0) (show mu (["which","machine"]:C') from by decide +kernel) rfl @D),aZ,(bg (aE (K:=K) rfl) (cy (pv 1) T.aq T.dE (c5 T) (π.mono @C) T.bJ.2 .nil thr0 (aa ag (aa (ar cE ag (pv 0)) af))) ag (λ_ _=>rfl))⟩))
  (ae (ay (i:=3) jB.nd rfl @D (d9 af))
  (ae (gM Hq rfl (cD (by rfl) T.dI (!j 1 af)) (aw (i:=4) jB.nd rfl @D) (ae (ay (i:=3) jB.nd rfl @D (ar ji (pv 2) (pv 3)))
  (aj (b8 (osc:=ah nG) (ON:=["machine","turns","states","told","turn"]) (N:=["state","machine"]) (n:=1) (fx:=[0]) (i:=2) jB.nd rfl rfl rfl rfl rfl rfl (by decide +kernel) (aX (K:=K) rfl (pv 2)) (aF @C) (λ_ _ _ _ _=>⟨(aw (i:=0) (show mu (["state","machine"]:C') from by decide +kernel) rfl @D),aZ,(bg (aE (K:=K) rfl) (cy (pv 1) T.aq T.dE (c5 T) (π.mono @C) T.bJ.2 .nil thr0 (!j 0 (aa ag af))) ag (λ_ _=>rfl))⟩)))))
  (aj (aI (pv 3))))))),aD (σ':=[aT _,aT _,eH,eH,eH]) rfl ?_⟩
 lia;refine bu ho T.aq T.aL rfl ?_;lia;intro D ι;refine eQ (λi ys H'=>Cs (λi ys=>ys=((ko i).map λw=>M.tr2 (prs nx) 0 (2 ^ w)).map nat) H D i ys H') (Cs.zero ι rfl) (λi ys H' hi c=>?_) (λys H1 c=>?_)
 ·have χ:i < m:=by omega
  have ei:(0:Int) + (i:Int)=(i:Int):=Jt _;lia;refine bN (c.same.get ho) rfl ?_;lia;rw[ei];lia;rw[shl1];refine⟨p,m,nx,os,nat 0,nat (2 ^ i),"int","int",rfl,ma.same c.same,g,rfl,rfl,λa1 b1 ea J _ _ t6 H6 G e6=>?_,λY=>?_⟩
  ·have ea:=c6 ea;have J:=c6 J;subst ea J;lia;refine Cs.put ι (c.same.trans G) (G.get c.at') c.len @A ?_;rw[c.pv,Jf,hu,hu];rfl
  ·rcases Y with h | h
   ·rw[bK (lz _)] at h;cases h
   ·rw[bK (ra @C χ)] at h;cases h
 ·have e1:=c.at';rw[c.pv,oe] at e1;have ξ:=c.same;lia;intro D0 H2 η ν e2;lia;refine ij (λi σ H'=>∃(v:ry V) (ε Dt:ee),σ=[aT (.ref p),aT (nat T'),aT (.ref ε),aT (.ref Dt),v]/\Same H H'/\H' ε=aT (.lst ((M.stj (prs nx) (M.sg0 (prs nx) m) i).map nat))/\H' Dt=aT (.lst ((M.rch (prs nx) m i).map nat))/\H Dt=eH) ⟨eH,D,D0,rfl,ξ.trans ν,ν.get e1,e2,k6 ξ η⟩ ?_ ?_
  ·rintro i σ H' hi ⟨v,ε,Dt,rfl,G,es,δ,ft⟩;have ls:(M.stj (prs nx) (M.sg0 (prs nx) m) i).length=m:=by rw[M.stj_len,M.sg0_len]
   have lr:=M.rch_len (prs nx) m i;have ρ:i * m<=100 * 6:=JU @A m6;lia;refine nK es δ (by rw[cY,cY,mc];omega) fun ω υ ο L α=>?_;rw[<-hu] at α;have ψ:=L.get es;lia;intro φ γ;refine bf (xs:=(M.stj (prs nx) (M.sg0 (prs nx) m) i).map nat) (λj ys H'=>Cs (λj ys=>ys=(((M.stj (prs nx) (M.sg0 (prs nx) m) i).take j).map λx=>M.tr2 (prs nx) x 0).map nat) υ φ j ys H') (Cs.zero γ rfl) (λj ys H' _ c=>SqL.of (c.same.get ψ)) (λj x ys H' hx c=>?_) (λys H' c=>?_)
   ·obtain⟨x0,I,rfl⟩:=aO hx;have hj:=(b'.mp I).1;have θ:=M.stj_lt (prs nx) m i x0 (eO I);rw[av] at θ;have β:=G.trans (L.trans c.same);lia;refine bN (β.get ho) rfl ?_;lia;refine⟨p,m,nx,os,nat x0,nat 0,"int","int",rfl,ma.same β,g,rfl,rfl,λa1 b1 ea J _ _ t6 H6 Z e6=>?_,λY=>?_⟩
    ·have ea:=c6 ea;have J:=c6 J;subst ea J;lia;refine Cs.put γ (c.same.trans Z) (Z.get c.at') c.len @A ?_;rw[c.pv,take_succ I,hu,hu];rfl
    ·rcases Y with h | h
     ·rw[bK θ] at h;cases h
     ·rw[bK (lz _)] at h;cases h
   ·have τ:=c.at';rw[c.pv,cY,Hw] at τ;exact⟨_,φ,ω,rfl,G.trans (L.trans c.same),τ,c.same.get α,k6 G ο⟩
  ·rintro σ H' ⟨v,ε,Dt,rfl,G,es,δ,ft⟩;rw[oe] at δ;lia;exact q Dt H' ft G δ
theorem wB (T:Tx K mg a):FnOk P w K mg base CX0 2 a.gC a.sV ["machine","places","turns"] (xN a.ao):=by
 refine T.lj.1.okA wc λY A outer s H vs Q E I h=>?_;obtain⟨p,D,m,nx,os,G,ψ,rfl,ma,g,ι,J,hT,q⟩:=h;obtain⟨dx,Z,to,ho,hn,ζ⟩:=ma.ho;have m6:=g.m6;refine⟨_,((aj (aI (ai (uu T) I T.wM T.jP (aa (ai (jG T) I T.kX T.gH (!j 1 af)) (aa (bw (K:=K) rfl (pv 0) rfl) (!j 2 af))))))),aD (σ':=[aT _,aT _,aT _]) rfl ?_⟩;lia;refine⟨D,M.pl 1000 G,rfl,ι,λx L=>M.pl_lt J x L,?_⟩;rw[Ee J];lia;refine bu ho T.aq T.aL rfl ?_;lia;exact⟨G,m,ψ,rfl,@A,hT,q⟩
theorem qR (T:Tx K mg a):FnOk P w K mg base CX0 5 a.de a.mz ["machine"] (z7 a.ao):=by
 refine T.gS.1.okA dW λa3 A outer s H vs Q E γ h=>?_;obtain⟨p,m,nx,os,rfl,ma,g,a0,q⟩:=h;obtain⟨dx,tn,to,ho,hn,ζ⟩:=ma.ho;have lo:=g.lo;have ln:=g.ln
 have hA:∀x∈(prs nx).map (·.1),x < 2 ^ nx.length:=λx θ=>by
  obtain⟨q,χ,rfl⟩:=qE.mp θ;obtain⟨r,γ,rfl⟩:=qE.mp χ;exact(g.bn r (n' _ γ)).1
 have hO:∀x∈(prs os).map (·.1),x < 2 ^ nx.length:=λx θ=>by
  obtain⟨q,χ,rfl⟩:=qE.mp θ;obtain⟨r,γ,rfl⟩:=qE.mp χ;exact(g.bn r (hH _ γ)).1
 have eA:(nx.map λq=>q.2.1)=(prs nx).map (·.1):=by rw[Iv];rfl
 have lO:((prs os).map (·.1)).length=os.length:=by rw[cY,cY]
 refine⟨_,((ae (b8 (osc:=ah fw) (ON:=["machine","masks","told","turn"]) (N:=["pair"]) (n:=1) (fx:=[]) (i:=1) dW.nd rfl rfl rfl rfl rfl rfl (by decide +kernel) (yk (K:=K) rfl (bw (K:=K) rfl (pv 0) rfl)) (aF @C) (λ_ _ _ _ _=>⟨(aw (i:=0) (show mu (["pair"]:C') from by decide +kernel) rfl @D),aZ,(bg (aE (K:=K) rfl) (pv 0) ag (λ_ _=>rfl))⟩))
  (ae (ay (i:=2) dW.nd rfl @D (d9 af))
  (ae (gM Hq rfl (cD (by rfl) T.dI (aa (bP (pv 0) T.aq T.aA (aM T) (γ.mono @C) T.ax.2 .nil dZ) af)) (aw (i:=3) dW.nd rfl @D) (ae (eE (mr (K:=K) rfl HU M8 M7 sj (pv 2) (!j 1 af)))
  (aj (b8 (osc:=ah fw) (ON:=["machine","masks","told","turn"]) (N:=["mask","machine"]) (n:=1) (fx:=[0]) (i:=1) dW.nd rfl rfl rfl rfl rfl rfl (by decide +kernel) (aX (K:=K) rfl (pv 1)) (aF @C) (λ_ _ _ _ _=>⟨(aw (i:=0) (show mu (["mask","machine"]:C') from by decide +kernel) rfl @D),aZ,(bg (aE (K:=K) rfl) (cy (pv 1) T.aq T.jV (jl T) (γ.mono @C) T.cV.2 .nil thr0 (!j 0 af)) ag (λ_ _=>rfl))⟩)))))
  (aj (aI (pv 2))))))),aD (σ':=[aT _,eH,eH,eH]) rfl ?_⟩
 lia;refine bu ho T.aq T.dD rfl ?_;lia;intro D ι;refine vJ (xs:=refs os) (λi ys H'=>Cs (λi ys=>ys=(((prs os).map (·.1)).take i).map nat) H D i ys H') (Cs.zero ι rfl) (λi ys H' _ c=>SqT.of (c.same.get ζ)) (λi v ys H' φ c=>?_) (λys H1 c=>?_)
 ·obtain⟨pr,Z,rfl⟩:=aO φ;have hi:=(b'.mp Z).1;have ht:=c.same.get (ma.hs pr (eO Z));lia;refine Cs.put ι c.same c.at' c.len @A ?_;rw[c.pv,take_succ (show((prs os).map (·.1))[i]? =aT pr.2.1 by rw[fk,fk,Z];rfl),hu];rfl
 ·have e1:=c.at';rw[c.pv,aR,show os.length=((prs os).map (·.1)).length from lO.symm,Hw] at e1;have ε:=c.same;clear c;lia;intro ξ H2 π ο e2;lia;refine bh ((ε.trans ο).get ho) rfl ?_;lia;refine⟨p,m,nx,os,rfl,ma.same (ε.trans ο),?_⟩;lia;refine ij (λi σ H'=>∃(v:ry V) (η:ee),σ=[aT (.ref p),aT (.ref η),aT (.ref ξ),v]/\Same H H'/\H' η=aT (.lst ((M.lk1 ((prs nx).map (·.1)) ((prs os).map (·.1)) i).map nat))/\H' ξ=aT (.lst ((M.lkm ((prs nx).map (·.1)) ((prs os).map (·.1)) i).map nat))/\η≠ξ) ⟨eH,D,rfl,ε.trans ο,?_,e2,?_⟩ ?_ ?_
  ·rw[ο.get e1];unfold M.lk1;rw[show(λs=>M.bkI ((prs nx).map (·.1)) s 0)=id from rfl,LW]
  ·exactλz=>by rw[<-z,e1] at π;cases π
  ·rintro i σ H' hi ⟨v,η,rfl,s',J,ψ,nm⟩;have ll:=M.lkm_len ((prs nx).map (·.1)) ((prs os).map (·.1)) i;have l1:=M.lk1_len ((prs nx).map (·.1)) ((prs os).map (·.1)) i;have b6:i * ((prs os).map (·.1)).length<=60 * 6:=JU @A @A;lia;refine vm ψ J (by rw[cY,cY,ll,l1];exact Jn (dU @A)) nm.symm λH5 ρ=>?_;have f0:H ξ=none:=ε.free π;have s5:=ρ.same f0 s';have ω:=ρ.oth _ _ nm J;have β:=ρ.at';rw[<-hu] at β
   have bm:∀x∈M.lk1 ((prs nx).map (·.1)) ((prs os).map (·.1)) i,x < 2 ^ nx.length:=λx θ=>by
    obtain⟨y,G,rfl⟩:=qE.mp θ;exact M.bkI_lt hA (hO y G) i
   lia;intro D5 Y;refine bf (xs:=(M.lk1 ((prs nx).map (·.1)) ((prs os).map (·.1)) i).map nat) (λj ys H'=>Cs (λj ys=>ys=((M.lk1 ((prs nx).map (·.1)) ((prs os).map (·.1)) (i + 1)).take j).map nat) H5 D5 j ys H') (Cs.zero Y rfl) (λj ys H' _ c=>SqL.of (c.same.get ω)) (λj v ys H6 φ c=>?_) (λys H6 c=>?_)
   ·obtain⟨y,G,rfl⟩:=aO φ;have hj:=(b'.mp G).1;have τ:=bm y (eO G);have δ:=s5.trans c.same;lia;refine bN (δ.get ho) rfl ?_;lia;refine⟨p,m,nx,os,nat y,"int",rfl,ma.same δ,g,rfl,λa1 ea ha I υ L α=>?_,fun ν=>?_⟩
    ·have ea:=c6 ea;subst ea;lia;refine Cs.put Y (c.same.trans L) (L.get c.at') c.len @A ?_;rw[c.pv,take_succ (show(M.lk1 ((prs nx).map (·.1)) ((prs os).map (·.1)) (i + 1))[j]? =aT (M.sm ((prs nx).map (·.1)) y) from ?_),hu,eA];rfl;unfold M.lk1 at G ⊢;rw[fk] at G ⊢;cases e:((prs os).map (·.1))[j]? with
     | none=>rw[e] at G;cases G
     | some z=>rw[e] at G;rw[<-iv G,M.bkI_succ];rfl
    ·rw[bK τ] at ν;cases ν
   ·have e6:=c.at';rw[c.pv,cY,l1,<-M.lk1_len ((prs nx).map (·.1)) ((prs os).map (·.1)) (i + 1),Hw] at e6;have s6:=c.same;clear c;lia;exact⟨_,D5,rfl,s5.trans s6,e6,s6.get β,λz=>by rw[z,β] at Y;cases Y⟩
  ·rintro σ H' ⟨v,η,rfl,s',J,ψ,nm⟩;lia;refine q ξ H' (ε.free π) s' ?_;unfold M.msk;rw[av];exact ψ
theorem iE (T:Tx K mg a):FnOk P w K mg base CX0 3 a.eL a.qk ["mask","others"] Ca:=by
 refine T.eV.1.okA uh fun ξ A outer s H vs Q E δ h=>?_;obtain⟨r,x,L,rfl,ζ,ο,θ,q⟩:=h;refine⟨_,((aj (aI (ai (jG T) δ T.kX T.gH (aa (eG (osc:=ah jE) (ON:=["mask","others"]) (N:=n20) (n:=2) (fx:=[0]) rfl rfl rfl (by decide +kernel) (vt (K:=K) rfl (by rfl) T.c7 (pv 1)) (jW (bL (aF @C) (bL (aF @C) g9))) (λ_ _ _ _ _=>⟨(g5 (K:=K) (n:=2) rfl rfl (aG (aw (i:=0) (show mu (n20:C') from by decide +kernel) rfl @D) (aG (aw (i:=1) (show mu (n20:C') from by decide +kernel) rfl @D) dA))),(um (hX (gv (ai (qT T) δ T.vF T.o4 (aa (ar fO (pv 2) (pv 1)) af))))),(pv 0)⟩)) af))))),aD (σ':=[aT _,aT _]) rfl ?_⟩;lia;refine .inl ⟨⟨_,SqL.of ζ⟩,?_⟩;intro D ι;refine ip (xs:=L.map nat) (λi ys H'=>Cs (λi ys=>∃J:D7,ys=J.map nat/\(∀p∈J,p < i)/\M.xm J=M.ow x (L.take i)) H D i ys H') (Cs.zero ι ⟨[],rfl,λ_ h=>hE h @E,rfl⟩) (λi ys H' _ c=>Same.seq c.same (SqL.of ζ)) (λi v ys H' p υ ν c π β α=>?_) (λys H' c=>?_)
 ·obtain⟨γ,Y,rfl⟩:=aO ν;obtain⟨J,G,I,ρ⟩:=c.pv;have hi:=(b'.mp Y).1;have Z:=CW (x:=x) Y;lia;rw[bt];refine⟨x&&&γ,rfl,Hf Js θ,?_⟩;cases ε:M.od (x&&&γ) with
  | true=>
    rw[ε,pe rfl] at Z;refine⟨false,rfl,?_⟩;dsimp only;rw[pe (show(!false)=true from rfl)];lia;refine Cs.put ι (c.same.trans β) (β.get c.at') c.len @A ⟨J++[i],?_,λk hk=>?_,?_⟩
    ·rw[G,hu];rfl
    ·rcases lx.mp hk with h | h
     ·have:=I k h;omega
     ·rw[fy.mp h];omega
    ·rw[M.xm_snoc,ρ,Z]
  | false=>
    rw[ε,nk gn,IJ] at Z;refine⟨true,rfl,?_⟩;dsimp only;rw[nk @C];refine Cs.skip (c.same.trans β) (β.get c.at') c.len ⟨J,G,λk hk=>?_,?_⟩
    ·have:=I k hk;omega
    ·rw[ρ,Z]
 ·obtain⟨J,G,I,ρ⟩:=c.pv;rw[cY] at I ρ;have η:=c.at';rw[G] at η;lia;refine⟨D,J,rfl,η,λk hk=>by have:=I k hk;omega,?_⟩;rw[ρ,Hw];exact q _ c.same
theorem iP (T:Tx K mg a):FnOk P w K mg base CX0 7 a.bU a.jt ["pair","states","seen"] Er:=by
 refine T.dq.1.okA mG fun π A outer s H vs Q E L h=>?_;obtain⟨t,ψ,χ,x,b,S,Z,rfl,ht,h1,h2,β,α,τ,ρ,sp,q⟩:=h;refine⟨_,((aj (aI (c3 (aa (ai (jG T) L T.kX T.gH (aa (bg (aE (K:=K) rfl) (ai (lP T) L T.oC T.ir (!j 2 (aa (ai (iE T) L T.jI T.eV (aa (bg (aE (K:=K) rfl) (pv 0) ag (λ_ _=>rfl)) (!j 1 af))) af))) ag (λ_ _=>rfl)) af)) (aa (bg (aE (K:=K) rfl) (pv 0) ag (λ_ _=>rfl)) af)))))),aD (σ':=[aT _,aT _,aT _]) rfl ?_⟩;lia;refine⟨ψ,x,S,rfl,h1,β,ρ,λH3 I=>?_⟩;lia;refine⟨χ,Z,_,rfl,I.get h2,α,τ,eu (M.ow_lt _ _) (hD @C β),.inl sp,fun ζ φ γ J ω ξ ο Y sd=>?_,fun ζ γ mk ξ ο bd=>hE sp bd.ns⟩;have δ:J < 2 ^ 1000:=eu sd.lt (hD @C α);have G:=ξ.get (I.get ht);lia;refine⟨φ,M.pl 1000 J,rfl,Y,λx θ=>M.pl_lt δ x θ,?_⟩;rw[Ee δ];lia;intro ε υ ι η ν;exact q ε υ J (I.free (ξ.free ι)) (I.trans (ξ.trans η)) ν sd
theorem qS (T:Tx K mg a):FnOk P w K mg base CX0 9 a.ku a.zj ["machine"] (z9 a.ao):=by
 refine T.mq.1.okA fg λu1 A outer s H vs Q E hr h=>?_;obtain⟨p,m,nx,os,rfl,ma,g,f5,q⟩:=h;obtain⟨dx,tn,to,ho,hn,ζ⟩:=ma.ho;have lo:=g.lo;have m6:=g.m6
 refine⟨_,((ae (ay (i:=1) fg.nd rfl @D (ai (Az T) hr T.DJ T.rO (!j 0 (aa (bP (pv 0) T.aq T.aA (aM T) (hr.mono @C) T.ax.2 .nil dZ) af))))
  (ae (ay (i:=2) fg.nd rfl @D (ai (qR T) hr T.sL T.gS (!j 0 af)))
  (ae (ay (i:=3) fg.nd rfl @D (ai (uv T) hr T.yZ T.qr (aa (eG (osc:=ah gm) (ON:=n10) (N:=["state","masks"]) (n:=1) (fx:=[2]) rfl rfl rfl (by decide +kernel) (aX (K:=K) rfl (pv 1)) (aF @C) (λ_ _ _ _ _=>⟨(aw (i:=0) (show mu (["state","masks"]:C') from by decide +kernel) rfl @D),aZ,(ai (iE T) hr T.jI T.eV (!j 0 (!j 1 af)))⟩)) af)))
  (ae (ay (i:=4) fg.nd rfl @D (eG (osc:=ah gm) (ON:=n10) (N:=["place","leads"]) (n:=1) (fx:=[1]) rfl rfl rfl (by decide +kernel) (aX (K:=K) rfl (pv 3)) (aF @C) (λ_ _ _ _ _=>⟨(aw (i:=0) (show mu (["place","leads"]:C') from by decide +kernel) rfl @D),aZ,(bg (cJ (K:=K) rfl) (pv 1) (pv 0) (λ_ _=>rfl))⟩)))
  (ae (ay (i:=5) fg.nd rfl @D (ai (uv T) hr T.yZ T.qr (aa (eG (osc:=ah gm) (ON:=n10) (N:=["mask","states"]) (n:=1) (fx:=[4]) rfl rfl rfl (by decide +kernel) (aX (K:=K) rfl (pv 2)) (aF @C) (λ_ _ _ _ _=>⟨(aw (i:=0) (show mu (["mask","states"]:C') from by decide +kernel) rfl @D),aZ,(ai (iE T) hr T.jI T.eV (!j 0 (!j 1 af)))⟩)) af)))
  (ae (ay (i:=6) fg.nd rfl @D (eG (osc:=ah gm) (ON:=n10) (N:=["place","masks","states"]) (n:=1) (fx:=[2,4]) rfl rfl rfl (by decide +kernel) (aX (K:=K) rfl (pv 5)) (aF @C) (λ_ _ _ _ _=>⟨(aw (i:=0) (show mu (["place","masks","states"]:C') from by decide +kernel) rfl @D),aZ,(ai (iE T) hr T.jI T.eV (aa (bg (cJ (K:=K) rfl) (pv 1) (pv 0) (λ_ _=>rfl)) (!j 2 af)))⟩)))
  (ae (b8 (osc:=ah gm) (ON:=n10) (N:=["place","machine","masks","states","seen"]) (n:=1) (fx:=[0,2,4,6]) (i:=7) fg.nd rfl rfl rfl rfl rfl rfl (by decide +kernel) (aX (K:=K) rfl (pv 5)) (aF @C) (λ_ _ _ _ _=>⟨(aw (i:=0) (show mu (["place","machine","masks","states","seen"]:C') from by decide +kernel) rfl @D),aZ,(ai (iP T) hr T.jr T.dq (aa (cy (pv 1) T.aq T.jV (jl T) (hr.mono @C) T.cV.2 .nil thr0 (aa (bg (cJ (K:=K) rfl) (pv 2) (pv 0) (λ_ _=>rfl)) af)) (!j 3 (!j 4 af))))⟩))
  (ae (b8 (osc:=ah gm) (ON:=n10) (N:=["pair","states","seen"]) (n:=1) (fx:=[4,6]) (i:=8) fg.nd rfl rfl rfl rfl rfl rfl (by decide +kernel) (yk (K:=K) rfl (bw (K:=K) rfl (pv 0) rfl)) (aF @C) (λ_ _ _ _ _=>⟨(aw (i:=0) (show mu (["pair","states","seen"]:C') from by decide +kernel) rfl @D),aZ,(ai (iP T) hr T.jr T.dq (!j 0 (!j 1 (!j 2 af))))⟩))
  (ae (b8 (osc:=ah gm) (ON:=n10) (N:=n15) (n:=1) (fx:=[0]) (i:=9) fg.nd rfl rfl rfl rfl rfl rfl (by decide +kernel) (aX (K:=K) rfl (pv 3)) (aF @C) (λ_ _ _ _ _=>⟨(aw (i:=0) (show mu (n15:C') from by decide +kernel) rfl @D),aZ,(ai (wB T) hr T.yX T.lj (!j 1 (aa (d9 (!j 0 af)) (aa (bP (pv 1) T.aq T.aA (aM T) (hr.mono @C) T.ax.2 .nil dZ) af))))⟩))
  (aj (aI (c3 (aa (qK T.tQ (gw T) (hr.mono @C) (by rfl) T.sQ T.b7.2 .nil dZ (aa (bw (K:=K) rfl (pv 0) rfl) (!j 7 (!j 8 af)))) (!j 9 (aa (eG (osc:=ah gm) (ON:=n10) (N:=n15) (n:=1) (fx:=[0]) rfl rfl rfl (by decide +kernel) (aX (K:=K) rfl (pv 5)) (aF @C) (λ_ _ _ _ _=>⟨(aw (i:=0) (show mu (n15:C') from by decide +kernel) rfl @D),aZ,(bF w8 (by rfl) T.AC PyProof.Rows.boot_divmod (!j 0 (aa (bP (pv 1) T.aq T.eI (d0 T) (hr.mono @C) T.bC.2 .nil dZ) af)))⟩)) af)))))))))))))))),aD (σ':=[aT _,eH,eH,eH,eH,eH,eH,eH,eH,eH]) rfl ?_⟩
 lia;refine bh ho rfl ?_;lia;refine⟨p,m,nx,os,rfl,ma,?_⟩;lia;refine⟨p,m,nx,os,_,rfl,ma,g,@A,λDl H1 f1 s1 e1=>?_⟩;lia;refine⟨p,m,nx,os,rfl,ma.same s1,g,f5,fun η H2 f2 s2 e2=>?_⟩;have ι:=s2.get e1;have q0:=s1.trans s2
 have γ:M.Fit (prs nx) (prs os) m:=⟨by rw[av];omega,λq hq=>by
  rw[show prs nx++prs os=prs (nx++os) from(hu ..).symm] at hq;obtain⟨r,hr,rfl⟩:=qE.mp hq;rw[av];exact(g.bn r hr).1⟩
 obtain⟨X,eX⟩:∃X,X=M.rch (prs nx) m (prs nx).length:=⟨_,rfl⟩;obtain⟨Y,eY⟩:∃Y,Y=M.msk (prs nx) (prs os):=⟨_,rfl⟩;have lX:X.length=nx.length * m:=by rw[eX,M.rch_len,av]
 have lY:Y.length=nx.length * os.length:=by rw[eY];unfold M.msk;rw[M.lkm_len,av,cY,av]
 have t1:nx.length * m<=60 * 6:=JU f5 m6;have s8:nx.length * os.length<=60 * 6:=JU f5 lo;have pw:2 ^ nx.length<=2 ^ 1000:=hD @C @A;have bX:∀x∈X,x < 2 ^ nx.length:=λx hx=>by rw[eX] at hx;have:=M.rch_lt (prs nx) m _ x hx;rwa [av] at this
 have bY:∀x∈Y,x < 2 ^ nx.length:=λx hx=>by
  rw[eY] at hx;obtain⟨s,t,hs,ht,rfl⟩:=M.lkm_of hx;have:=M.bkI_lt γ.A (γ.O s hs) t;rwa [av] at this
 rw[<-av nx,<-eX] at ι;rw[<-eY] at e2;have b4:=e2;clear e1;lia;intro D3 l9;refine bf (xs:=X.map nat) (λj ys H'=>Cs (λj ys=>ys=((X.map (M.ow · Y)).take j).map nat) H2 D3 j ys H') (Cs.zero l9 rfl) (λj ys H' _ c=>SqL.of (c.same.get ι)) (λj v ys H6 hv c=>?_) (λys H3 c=>?_)
 ·obtain⟨y,hy,rfl⟩:=aO hv;have hj:=(b'.mp hy).1;have a0:=bX y (eO hy);lia;refine⟨η,y,Y,rfl,c.same.get e2,@A,eu a0 pw,λH7 L=>?_⟩;refine Cs.put l9 (c.same.trans L) (L.get c.at') c.len @A ?_;rw[c.pv,take_succ (show(X.map (M.ow · Y))[j]? =aT (M.ow y Y) by rw[fk,hy];rfl),hu];rfl
 have e3:=c.at';rw[c.pv,cY,<-cY (as:=X) (f:=(M.ow · Y)),Hw] at e3;have p9:=q0.trans c.same;have n7:=c.same.get ι;have n5:=c.same.get e2;clear c b4 ι e2;lia;refine⟨D3,X.map (M.ow · Y),rfl,e3,by rw[cY];omega,λDd H4 f4 s4 e4=>?_⟩;obtain⟨led,a3⟩:∃led,led=M.ldp (prs nx) (prs os) m:=⟨_,rfl⟩;have e4:H4 Dd=aT (.lst (led.map nat)):=by rw[e4,a3,eX,eY];rfl
 have c4:∀i∈led,i < X.length:=λi hi=>by rw[a3] at hi;have:=M.ldp_lt i hi;rw[eX];exact this
 have s6:led.length<=360:=by
  have:=M.fr_len (X.map (M.ow · Y));rw[a3];unfold M.ldp;rw[<-eX,<-eY];rw[cY] at this;omega
 have ω:=s4.get n7;have n4:=s4.get n5;have p8:=p9.trans s4;clear n7 n5 e3;lia;intro D5 l8;refine bf (xs:=led.map nat) (λj ys H'=>Cs (λj ys=>ys=((led.map λi=>X.getD i 0).take j).map nat) H4 D5 j ys H') (Cs.zero l8 rfl) (λj ys H' _ c=>SqL.of (c.same.get e4)) (λj v ys H6 hv c=>?_) (λys H5 c=>?_)
 ·obtain⟨y,hy,rfl⟩:=aO hv;have hj:=(b'.mp hy).1;have a0:=c4 y (eO hy);have t6:=c.same.get ω;have gx:atI (X.map nat) (y:Int)=aT (nat (X.getD y 0)):=d5 (by rw[fk,M.getD_at' (d:=0) a0];rfl);lia;refine Cs.put l8 c.same c.at' c.len @A ?_;rw[c.pv,take_succ (show(led.map λi=>X.getD i 0)[j]? =aT (X.getD y 0) by rw[fk,hy];rfl),hu];rfl
 obtain⟨S,ξ⟩:∃S,S=M.lst_ (prs nx) (prs os) m:=⟨_,rfl⟩;have e5:=c.at';rw[c.pv,cY,<-cY (as:=led) (f:=λi=>X.getD i 0),Hw] at e5;have e5:H5 D5=aT (.lst (S.map nat)):=by rw[e5,ξ,a3,eX];rfl
 have lS:S.length=led.length:=by rw[ξ,a3,M.lst_len]
 have bS:∀x∈S,x < 2 ^ nx.length:=λx hx=>by rw[ξ] at hx;have:=M.lst_in x hx;rw[<-eX] at this;exact bX x this
 have p7:=p8.trans c.same;have q9:=c.same.get ω;have ψ:=c.same.get n4;have m7:=c.same.get e4;clear c ω n4 e4;lia;intro D6 l7;refine bf (xs:=Y.map nat) (λj ys H'=>Cs (λj ys=>ys=((Y.map (M.ow · S)).take j).map nat) H5 D6 j ys H') (Cs.zero l7 rfl) (λj ys H' _ c=>SqL.of (c.same.get ψ)) (λj v ys H6 hv c=>?_) (λys H6 c=>?_)
 ·obtain⟨y,hy,rfl⟩:=aO hv;have hj:=(b'.mp hy).1;have a0:=bY y (eO hy);lia;refine⟨D5,y,S,rfl,c.same.get e5,@A,eu a0 pw,λH7 L=>?_⟩;refine Cs.put l7 (c.same.trans L) (L.get c.at') c.len @A ?_;rw[c.pv,take_succ (show(Y.map (M.ow · S))[j]? =aT (M.ow y S) by rw[fk,hy];rfl),hu];rfl
 have e6:=c.at';rw[c.pv,cY,<-cY (as:=Y) (f:=(M.ow · S)),Hw] at e6;have p6:=p7.trans c.same;have n3:=c.same.get ψ;have o3:=c.same.get e5;have m5:=c.same.get m7;clear c q9 ψ e5 m7;lia;refine⟨D6,Y.map (M.ow · S),rfl,e6,by rw[cY];omega,λDk H7 f7 L α=>?_⟩;obtain⟨π,ε⟩:∃π,π=M.lkp (prs nx) (prs os) m:=⟨_,rfl⟩;have α:H7 Dk=aT (.lst (π.map nat)):=by rw[α,ε,eY,ξ];rfl
 have b5:∀i∈π,i < Y.length:=λi hi=>by rw[ε] at hi;have:=M.lkp_lt i hi;rw[eY];exact this
 have s5:π.length<=nx.length:=by rw[ε,<-av nx];exact M.many_le
 have χ:=L.get n3;have h3:=L.get o3;have m4:=L.get m5;have p5:=p6.trans L;clear n3 o3 m5 e6;lia;intro D8 l6;refine bf (xs:=π.map nat) (λj ys H'=>Cs (λj ys=>ys=((π.map λi=>M.ow (Y.getD i 0) S).take j).map nat) H7 D8 j ys H') (Cs.zero l6 rfl) (λj ys H' _ c=>SqL.of (c.same.get α)) (λj v ys H8 hv c=>?_) (λys H8 c=>?_)
 ·obtain⟨y,hy,rfl⟩:=aO hv;have hj:=(b'.mp hy).1;have a0:=b5 y (eO hy);have φ:=c.same.get χ;have gy:atI (Y.map nat) (y:Int)=aT (nat (Y.getD y 0)):=d5 (by rw[fk,M.getD_at' (d:=0) a0];rfl);lia;refine⟨D5,Y.getD y 0,S,rfl,c.same.get h3,@A,eu (bY _ (M.getD_mem a0)) pw,λH9 δ=>?_⟩;refine Cs.put l6 (c.same.trans δ) (δ.get c.at') c.len @A ?_;rw[c.pv,take_succ (show(π.map λi=>M.ow (Y.getD i 0) S)[j]? =aT (M.ow (Y.getD y 0) S) by rw[fk,hy];rfl),hu];rfl
 obtain⟨Z,υ⟩:∃Z,Z=M.sen (prs nx) (prs os) m:=⟨_,rfl⟩;have e8:=c.at';rw[c.pv,cY,<-cY (as:=π) (f:=λi=>M.ow (Y.getD i 0) S),Hw] at e8
 have e8:H8 D8=aT (.lst (Z.map nat)):=by
  rw[e8,υ,ε,eY,ξ];unfold M.sen M.lkL;rw[Iv (l:=M.lkp _ _ _) (g:=λx=>M.ow x _)];rfl
 have lZ:Z.length=π.length:=by rw[υ,ε,M.sen_len]
 have bZ:∀x∈Z,x < 2 ^ 1000:=λx hx=>by
  rw[υ] at hx;obtain⟨y,_,rfl⟩:=qE.mp hx;exact eu (M.ow_lt _ _) (hD @C (by rw[<-ξ];omega))
 have h6:=p5.trans c.same;have φ:=c.same.get χ;have h0:=c.same.get h3;have β:=c.same.get m4;have τ:=c.same.get α;clear c χ h3 m4 α;have eA:(nx.map λq=>q.2.1)=(prs nx).map (·.1):=by rw[Iv];rfl
 have eB:(nx.map λq=>q.2.2)=(prs nx).map (·.2):=by rw[Iv];rfl
 have bA:∀y,M.sm ((prs nx).map (·.1)) y < 2 ^ nx.length:=λy=>by have:=M.sm_lt y γ.A;rwa [av] at this
 have bB:∀y,M.sm ((prs nx).map (·.2)) y < 2 ^ m:=λy=>M.sm_lt y λx hx=>by
  obtain⟨q,hq,rfl⟩:=qE.mp hx;obtain⟨r,hr,rfl⟩:=qE.mp hq;exact(g.bn r (n' _ hr)).2
 lia;intro D9 l5;refine bf (xs:=π.map nat) (λj ys H'=>Cp (λJ=>∀(j:Nat) (q:Pr3),J[j]? =aT q->q.2.1 < 2 ^ π.length/\M.sm Z q.2.1=M.ow (M.sm ((prs nx).map (·.1)) (Y.getD (π.getD j 0) 0)) S/\q.2.2=M.sm ((prs nx).map (·.2)) (Y.getD (π.getD j 0) 0)) H8 D9 j ys H') (rD l5 λj q h=>by simp at h) (λj ys H' _ ⟨_,_,_,_,_,s',_⟩=>SqL.of (s'.get τ)) (λj v ys H9 hv c=>?_) (λys H9 c=>?_)
 ·obtain⟨y,hy,rfl⟩:=aO hv;obtain⟨J,rfl,lq,pv,pt,δ,r3⟩:=c;have hj:=(b'.mp hy).1;have a0:=b5 y (eO hy);have ο:=M.getD_mem a0;have t5:=δ.get φ;have a4:=h6.trans δ;have gy:atI (Y.map nat) (y:Int)=aT (nat (Y.getD y 0)):=d5 (by rw[fk,M.getD_at' (d:=0) a0];rfl);lia;refine bN (a4.get ho) rfl ?_;lia;refine⟨p,m,nx,os,nat (Y.getD y 0),"int",rfl,ma.same a4,g,rfl,λa1 ea ha p3 u2 e0 o7=>?_,λo8=>?_⟩
  ·have ea:=c6 ea;subst ea;rw[eA,eB] at o7;lia;refine⟨p3,D5,D8,_,_,S,Z,rfl,o7,e0.get (δ.get h0),e0.get (δ.get e8),@A,@A,bZ,eu (bA _) pw,?_,fun θ s3 qq I d2 h4 sd=>?_⟩
   ·rw[υ,ξ];rw[eY] at ο;exact M.span_sen (γ.back (by rw[eY];exact ο))
   ·refine vI l5 lq pt δ r3 (e0.trans d2) h4 @A λk q hk=>?_;by_cases f9:k < J.length
    ·rw[kA f9] at hk;exact pv k q hk
    ·rw[lB @A] at hk
     have hz:k - J.length=0:=by
      cases e:k - J.length with
      | zero=>rfl
      | succ m=>rw[e] at hk;simp at hk
     rw[hz] at hk;have hk:q=(θ,qq,M.sm ((prs nx).map (·.2)) (Y.getD y 0)):=(iv hk).symm;have f8:k=j:=by omega
     have a5:π.getD k 0=y:=by rw[f8,bx,hy];rfl
     rw[hk,a5];exact⟨by have:=sd.lt;rwa [lZ] at this,sd.sm,rfl⟩
  ·rw[bK (bY _ ο)] at o8;cases o8
 obtain⟨c2,rfl,f3,k4,h8,δ,e9⟩:=c;rw[cY] at f3;have a4:=h6.trans δ;have n9:=δ.get h0;have n2:=δ.get e8;have m3:=δ.get β;have m1:=δ.get τ;clear φ h0 e8 β τ;lia;refine bu (a4.get ho) T.aq T.dD rfl ?_;have q4:=a4.get ζ;lia;intro DA l4;refine vJ (xs:=refs os) (λj ys H'=>Cp (λJ=>∀(j:Nat) (q:Pr3),J[j]? =aT q->q.2.1 < 2 ^ π.length/\M.sm Z q.2.1=M.ow ((prs os).getD j (0,0)).1 S/\q.2.2=((prs os).getD j (0,0)).2) H9 DA j ys H') (rD l4 λj q h=>by simp at h) (λj ys H' _ ⟨_,_,_,_,_,s',_⟩=>SqT.of (s'.get q4)) (λj v ys HA hv c=>?_) (λys HA c=>?_)
 ·obtain⟨pr,f6,rfl⟩:=aO hv;obtain⟨J,rfl,lq,pv,pt,sA,r2⟩:=c;have hj:=(b'.mp f6).1;have hm:=eO f6;have ρ:=a4.trans sA;have l3:(prs os)[j]? =aT pr.2:=CN f6;lia;refine⟨pr.1,D5,D8,pr.2.1,pr.2.2,S,Z,rfl,ρ.get (ma.hs pr hm),sA.get n9,sA.get n2,@A,@A,bZ,eu (g.bn pr (hH _ hm)).1 pw,?_,fun θ s3 qq I d2 h4 sd=>?_⟩
  ·rw[υ,ξ];exact M.span_sen (γ.out (qE.mpr ⟨pr.2,eO l3,rfl⟩))
  ·refine vI l4 lq pt sA r2 d2 h4 @A λk q hk=>?_;by_cases f9:k < J.length
   ·rw[kA f9] at hk;exact pv k q hk
   ·rw[lB @A] at hk
    have hz:k - J.length=0:=by
     cases e:k - J.length with
     | zero=>rfl
     | succ m=>rw[e] at hk;simp at hk
    rw[hz] at hk;have hk:q=(θ,qq,pr.2.2):=(iv hk).symm;have f8:k=j:=by omega
    have a5:(prs os).getD k (0,0)=pr.2:=by rw[f8,bx,l3];rfl
    rw[hk,a5];exact⟨by have:=sd.lt;rwa [lZ] at this,sd.sm,rfl⟩
 obtain⟨c1,rfl,l0,j4,q1,sA,o6⟩:=c;rw[aR] at l0;have ρ:=a4.trans sA;have m2:=sA.get m3;have m0:=sA.get m1;have G:=sA.get e9;have h7:=h8.same sA;clear n9 n2 m3 m1 e9 h8;lia;intro DB g3;refine bf (xs:=led.map nat) (λj ys H'=>Co (λj=> .lst ((M.upk m (2 ^ led.getD j 0) nx.length).map nat)) HA DB j ys H') (kB g3) (λj ys H' _ ⟨_,_,_,_,_,s',_⟩=>SqL.of (s'.get m2)) (λj v ys HB hv c=>?_) (λys HB c=>?_)
 ·obtain⟨y,hy,rfl⟩:=aO hv;have c':=c;obtain⟨J,q6,lq,pa,pf,sB,t9⟩:=c';have hj:=(b'.mp hy).1;have a0:=c4 y (eO hy);have c0:=ρ.trans sB;lia;intro Dq HC fC sC eC;have ν:=c0.trans sC;lia;refine bh (ν.get ho) rfl ?_;lia;refine⟨p,m,nx,os,rfl,ma.same ν,?_⟩;lia;refine⟨p,Dq,m,nx,os,2 ^ y,_,rfl,ma.same ν,g,by rw[Fd (show y < 1000 by omega)];exact eC,ra @C @A,@A,λD2 r7 g4 d1 b4=>?_⟩;refine oU g3 c (sC.trans d1) (sC.free g4) ?_ @A;rw[b4];have a5:led.getD j 0=y:=by rw[bx,hy];rfl
  rw[a5]
 obtain⟨ds,rfl,l2,o9,q5,sB,o5⟩:=c;rw[cY] at l2;have c0:=ρ.trans sB
 have tabB:Tab HB D9 DA m c2 c1:=⟨m6,sB.get G,sB.get o6,h7.same sB,q1.same sB,@A,@A,λq hq=>by
  rw[f3];rcases lx.mp hq with h | h
  ·obtain⟨j,hj,ej⟩:=Ht.mp h;have:=k4 j q (by rw[cP hj,ej]);exact⟨this.1,by rw[this.2.2];exact bB _⟩
  ·obtain⟨j,hj,ej⟩:=Ht.mp h;have:=j4 j q (by rw[cP hj,ej]);refine⟨this.1,?_⟩;rw[this.2.2,bx];cases e:(prs os)[j]? with
   | none=>exact lz m
   | some r=>
     obtain⟨r',q3,rfl⟩:=qE.mp (eO e);exact(g.bn r' (hH _ q3)).2⟩
 have q8:=sB.get m0;clear m0 m2 G o6;lia;refine bu (c0.get ho) T.aq T.aL rfl ?_;lia;intro x r4 HC fC sC eC;refine⟨x,r4,D9,DA,m,c2,c1,rfl,eC,tabB.same sC,λHD kD q2=>⟨rfl,?_⟩⟩;have b3:Same HB HD:=λb ob e=>kD _ _ (au e fC) (sC.get e);have q7:=b3.get q8;have f0:=c0.trans b3;lia;intro DE a6;refine bf (xs:=π.map nat) (λj ys H'=>Co (λj=> .tup [nat (π.getD j 0 / os.length),nat (π.getD j 0 % os.length)]) HD DE j ys H') (kB a6) (λj ys H' _ ⟨_,_,_,_,_,s',_⟩=>SqL.of (s'.get q7)) (λj v ys HE hv c=>?_) (λys HE c=>?_)
 ·obtain⟨y,hy,rfl⟩:=aO hv;have c':=c;obtain⟨J,q6,lq,pa,pf,sE,t7⟩:=c';have hj:=(b'.mp hy).1;have a0:=b5 y (eO hy);have b6:=f0.trans sE;have t3:0 < os.length:=Nu λz=>by rw[lY,z,Nat.mul_zero] at a0;omega
  lia;refine bh (b6.get ho) rfl ?_;lia;refine⟨p,m,nx,os,rfl,ma.same b6,?_⟩;lia;refine EW @A @A λt2 r7 g4 d1 b4=>?_;refine oU a6 c d1 g4 ?_ @A;have a5:π.getD j 0=y:=by rw[bx,hy];rfl
  rw[b4,a5];rfl
 obtain⟨es,rfl,l1,r5,t4,sE,r1⟩:=c;rw[cY] at l1;have b6:=f0.trans sE;have p4:=b3.trans sE;lia;intro t HF fF sF eF;have h5:=p4.trans sF;have gl:∀(l:D7) (j k:Nat),l[j]? =aT k->l.getD j 0=k:=λl j k h=>by rw[bx,h];rfl
 refine q t x DB DE ds es HF c2 c1 (b6.trans sF) eF ((q2.same sE).same sF) ⟨m6,by omega,by omega,tabB.bn⟩ ?_ ⟨h5.get o5,sF.get r1,by rw[l2,a3],by rw[l1,ε],λj d k h1 h2=>?_,λj d k h1 h2=>?_⟩ (ρ.free g3) (f0.free a6) ?_ λd hd=>?_
 ·refine⟨by rw[av,f3,ε],by rw[av,av,l0],λj q hq=>?_,λj q hq=>?_⟩
  ·rw[fk] at hq;cases e:c2[j]? with
   | none=>rw[e] at hq;cases hq
   | some r=>
     rw[e] at hq;have hq:=iv hq;have hj:=(b'.mp e).1;have h:=k4 j r e
     have hL:(M.lkL (prs nx) (prs os) m).getD j 0=Y.getD (π.getD j 0) 0:=by
      unfold M.lkL;rw[<-eY,<-ε,bx,fk,M.getD_at' (d:=0) (show j < π.length by omega)];rfl
     rw[<-hq,hL,<-ε,<-υ,<-ξ];exact h
  ·rw[fk] at hq;cases e:c1[j]? with
   | none=>rw[e] at hq;cases hq
   | some r=>
     rw[e] at hq;have hq:=iv hq;have h:=j4 j r e;rw[<-hq,<-ε,<-υ,<-ξ];exact h
 ·rw[<-a3] at h2;rw[<-gl _ _ _ h2];exact h5.get (o9 j d h1)
 ·rw[<-ε] at h2;rw[<-gl _ _ _ h2];exact sF.get (r5 j d h1)
 ·exactλz=>by rw[<-z,b3.get o5] at a6;cases a6
 ·have h:=q5 d hd;refine⟨ρ.free h.1,h.2,λz=>?_⟩;obtain⟨j,hj,ej⟩:=Ht.mp hd;have:=b3.get (o9 j d (by rw[cP hj,ej]));rw[z,a6] at this;cases this
end
section
variable {P:px} {w:wq} {K:a'} {mg:G'} {base:zx} {a:Ad}
local macro_rules | `(tactic| walk_at "l2step") =>`(tactic| first | ((with_reducible refine' iM ?e ?_);(case e=>walk_at "l2kind")) | ((with_reducible refine' lg ?e ?_);(case e=>walk_at "l2kind")) | (with_reducible refine gL ?_) | (with_reducible refine i7 ?_))
local macro_rules | `(tactic| walk_at "l2step") =>`(tactic| first | (with_reducible refine EM ?_))
theorem gO (T:Tx K mg a):FnOk P w K mg base CX0 6 a.dM a.oN ["one","other","pair","row"] (zX a.ao):=by
 refine T.dP.1.okA i4 λa3 A outer s H vs Q E ε h=>?_;obtain⟨p1,p2,m,I,β,L,δ,x,r,rfl,J,ι,ρ,q⟩:=h;obtain⟨a0,υ,ξ,ο,ω,χ⟩:=J.a1.ho;obtain⟨τ,π,ν,ζ,ψ,Y⟩:=J.a2.ho;have η:=M.lo_lt I.length x;have θ:=M.hi_lt ι;have ll:=J.l;have e6:(1:Int) * 2 ^ ((I.length:Int).toNat) - 1=((2 ^ I.length - 1:Nat):Int):=by rw[shl1];have:=lz I.length;omega
 have G:M.tr2 (jnp I L) x r=M.tr2 (prs I) (M.lo I.length x) r^^^(M.tr2 (prs L) (x>>>I.length) r * 2 ^ I.length):=by
  have:=J.jo.tr' (x:=x) (r:=r) (by rw[av,av];exact ι);rw[av,Jc] at this;exact this
 have cp:CPow ((M.tr2 (prs L) (x>>>I.length) r:Nat):Int) (I.length:Int):=⟨@A,@A,by
  rw[Ny];refine eu (M.tr2_lt _ _ _) (hD @C ?_);rw[av];omega⟩
 refine⟨_,((ae (ay (i:=4) i4.nd rfl @D (bP (pv 0) T.aq T.aA (aM T) (ε.mono @C) T.ax.2 .nil dZ))
  (ae (ay (i:=5) i4.nd rfl @D (ar fO (pv 2) (ar kL (ar cE ag (pv 4)) ag)))
  (aj (aI (ar jg (bg (aE (K:=K) rfl) (cy (pv 0) T.aq T.dE (c5 T) (ε.mono @C) T.bJ.2 .nil thr0 (!j 5 (!j 3 af))) ag (λ_ _=>rfl)) (ar cE (bg (aE (K:=K) rfl) (cy (pv 1) T.aq T.dE (c5 T) (ε.mono @C) T.bJ.2 .nil thr0 (aa (ar nS (pv 2) (pv 4)) (!j 3 af))) ag (λ_ _=>rfl)) (pv 4)))))))),aD (σ':=[aT _,aT _,aT _,aT _,eH,eH]) rfl ?_⟩
 lia;refine bh ο rfl ?_;lia;refine⟨p1,m,I,β,rfl,J.a1,?_⟩;lia;rw[e6,bt];lia;refine bN ο rfl ?_;lia;refine⟨p1,m,I,β,nat (M.lo I.length x),nat r,"int","int",rfl,J.a1,J.g1,rfl,rfl,λa1 b1 ea α ha hb Z H2 γ e2=>?_,λbad=>?_⟩
 ·have ea:=c6 ea;have α:=c6 α;subst ea;subst α;lia;refine bN (γ.get ζ) rfl ?_;lia;rw[uf];refine⟨p2,m,L,δ,nat (x>>>I.length),nat r,"int","int",rfl,J.a2.same γ,J.g2,rfl,rfl,λa1 b1 ea α ha hb t3 H3 φ e3=>?_,λbad=>?_⟩
  ·have ea:=c6 ea;have α:=c6 α;subst ea;subst α;lia;rw[Cn,cG,<-G];exact q H3 (γ.trans φ)
  ·rw[bK θ,bK ρ] at bad;rcases bad with bad | bad<;>cases bad
 ·rw[bK η,bK ρ] at bad;rcases bad with bad | bad<;>cases bad
theorem nV (T:Tx K mg a):FnOk P w K mg base CX0 8 a.cj a.jY ["one","other"] (Cd a.ao):=by
 refine T.fi.1.okA bQ λg4 A outer s H vs Q E hr h=>?_;obtain⟨p1,p2,m,L,θ,α,ξ,rfl,tw,q1,ν⟩:=h;obtain⟨g3,f3,f0,ο,f6,f4⟩:=tw.a1.ho;obtain⟨f8,f2,e8,ζ,f5,Y⟩:=tw.a2.ho;have ll:=tw.l;have m6:=tw.g1.m6;obtain⟨ψ,e3⟩:∃ψ,ψ=L.length + α.length + 1:=⟨_,rfl⟩;have eT:(L.length:Int) + (α.length:Int) + 1=(ψ:Int):=by omega
 refine⟨_,((ae (ay (i:=2) bQ.nd rfl @D (ar cw (ar cw (bP (pv 0) T.aq T.aA (aM T) (hr.mono @C) T.ax.2 .nil dZ) (bP (pv 1) T.aq T.aA (aM T) (hr.mono @C) T.ax.2 .nil dZ)) ag))
  (ae (ay (i:=3) bQ.nd rfl @D (se rfl (by rfl) (by rfl) T.n0 T.dI (bw (K:=K) rfl (pv 0) rfl)))
  (ae (b8 (osc:=ah dC) (ON:=n24) (N:=["which","one","turns"]) (n:=1) (fx:=[0,2]) (i:=4) bQ.nd rfl rfl rfl rfl rfl rfl (by decide +kernel) (aX (K:=K) rfl (pv 3)) (aF @C) (λ_ _ _ _ _=>⟨(aw (i:=0) (show mu (["which","one","turns"]:C') from by decide +kernel) rfl @D),aZ,(cy (pv 1) T.aq T.iR (ib T) (hr.mono @C) T.b0.2 .nil thr0 (!j 0 (!j 2 af)))⟩))
  (ae (b8 (osc:=ah dC) (ON:=n24) (N:=["which","other","turns"]) (n:=1) (fx:=[1,2]) (i:=5) bQ.nd rfl rfl rfl rfl rfl rfl (by decide +kernel) (aX (K:=K) rfl (pv 3)) (aF @C) (λ_ _ _ _ _=>⟨(aw (i:=0) (show mu (["which","other","turns"]:C') from by decide +kernel) rfl @D),aZ,(cy (pv 1) T.aq T.iR (ib T) (hr.mono @C) T.b0.2 .nil thr0 (!j 0 (!j 2 af)))⟩))
  (ae (gM Hq rfl (cD (by rfl) T.dI (!j 2 af)) (aw (i:=6) bQ.nd rfl @D) (aj (gM Hq rfl (aX (K:=K) rfl (pv 3)) (aw (i:=7) bQ.nd rfl @D) (aj (dz (aK qO (bg (cJ (K:=K) rfl) (bg (cJ (K:=K) rfl) (pv 4) (pv 7) (λ_ _=>rfl)) (pv 6) (λ_ _=>rfl)) (bg (cJ (K:=K) rfl) (bg (cJ (K:=K) rfl) (pv 5) (pv 7) (λ_ _=>rfl)) (pv 6) (λ_ _=>rfl)) (aQ _)) (aj (aI (c3 (aa gN (!j 7 (!j 6 af)))))) be)))))
  (aj (aI By)))))))),aD (σ':=[aT _,aT _,eH,eH,eH,eH,eH,eH]) rfl ?_⟩
 lia;refine bh ο rfl ?_;lia;refine⟨p1,m,L,θ,rfl,tw.a1,?_⟩;lia;refine bh ζ rfl ?_;lia;refine⟨p2,m,α,ξ,rfl,tw.a2,?_⟩;lia;rw[eT];refine bu ο T.aq T.aL rfl ?_;lia;refine⟨m,rfl,@A,λD H1 f1 s1 e1=>?_⟩;have e1:H1 D=aT (.lst ((ko m).map nat)):=e1;lia;intro D1 c0;refine bf (xs:=(ko m).map nat) (λj ys H'=>Co (λj=> .lst ((M.wan (prs L) (prs θ) 0 (M.pulse j ψ)).map nat)) H1 D1 j ys H') (kB c0) (λj ys H' _ ⟨_,_,_,_,_,s',_⟩=>SqL.of (s'.get e1)) (λj v ys J hv c=>?_) (λys H2 c=>?_)
 ·obtain⟨χ,τ,rfl⟩:=aO hv;have hj:=(b'.mp τ).1;rw[pT] at hj;rw[HZ hj] at τ;cases τ;have c':=c;obtain⟨_,_,_,_,_,sB,_⟩:=c';have φ:=s1.trans sB;lia;refine bN (φ.get ο) rfl ?_;lia;refine⟨p1,m,L,θ,nat j,"int",ψ,rfl,tw.a1.same φ,tw.g1,rfl,@A,λi ei hi Dn π ρ δ e9=>?_,fun ω=>?_⟩
  ·have ei:=c6 ei;subst ei;exact oU c0 c δ ρ e9 @A
  ·unfold idxB at ω;simp at ω;omega
 obtain⟨a5,rfl,e2,a1,e5,υ,c1⟩:=c;rw[cY,pT] at e2;have b3:=s1.trans υ;have ι:=υ.get e1;lia;intro D2 b6;refine bf (xs:=(ko m).map nat) (λj ys H'=>Co (λj=> .lst ((M.wan (prs α) (prs ξ) 0 (M.pulse j ψ)).map nat)) H2 D2 j ys H') (kB b6) (λj ys H' _ ⟨_,_,_,_,_,s',_⟩=>SqL.of (s'.get ι)) (λj v ys J hv c=>?_) (λys G c=>?_)
 ·obtain⟨χ,τ,rfl⟩:=aO hv;have hj:=(b'.mp τ).1;rw[pT] at hj;rw[HZ hj] at τ;cases τ;have c':=c;obtain⟨_,_,_,_,_,sB,_⟩:=c';have φ:=b3.trans sB;lia;refine bN (φ.get ζ) rfl ?_;lia;refine⟨p2,m,α,ξ,nat j,"int",ψ,rfl,tw.a2.same φ,tw.g2,rfl,@A,λi ei hi Dn π ρ δ e9=>?_,fun ω=>?_⟩
  ·have ei:=c6 ei;subst ei;exact oU b6 c δ ρ e9 @A
  ·unfold idxB at ω;simp at ω;omega
 obtain⟨c2,rfl,e0,a2,e4,a3,e6⟩:=c;rw[cY,pT] at e0;have c4:=b3.trans a3;have e7:=a3.get ι;have c1:=a3.get c1;have a1:∀(j:Nat) d,a5[j]? =aT d->G d=aT (.lst ((M.wan (prs L) (prs θ) 0 (M.pulse j ψ)).map nat)):=λj d h=>a3.get (a1 j d h);clear ι e1 s1 υ b3 e5 e4 c0 b6 f1;lia;refine ij (λi σ H'=>∃v6 v7,σ=[aT (.ref p1),aT (.ref p2),aT (nat ψ),aT (.ref D),aT (.ref D1),aT (.ref D2),v6,v7]/\Same G H'/\M.Al (prs L) (prs θ) (prs α) (prs ξ) m i) ⟨eH,eH,rfl,Same.refl _,λt h=>hE h @A⟩ ?_ ?_
 ·rintro i σ H' hi ⟨v6,v7,rfl,s',al⟩;have hi:i < ψ:=by omega
  have ei:(0:Int) + (i:Int)=(i:Int):=Jt _;lia;rw[ei];refine jK (xs:=(ko m).map nat) (λj σ a6=>∃v7,σ=[aT (.ref p1),aT (.ref p2),aT (nat ψ),aT (.ref D),aT (.ref D1),aT (.ref D2),aT (nat i),v7]/\Same G a6/\∀χ,χ < j->M.sgl (prs L) (prs θ) χ i=M.sgl (prs α) (prs ξ) χ i) ⟨v7,rfl,s',fun χ h=>hE h @A⟩ (λj σ a6 _ ⟨_,_,I,_⟩=>SqL.of (I.get e7)) ?_ ?_
  ·rintro j y σ a6 hy ⟨v7,rfl,I,a0⟩;obtain⟨χ,τ,rfl⟩:=aO hy;have hj:=(b'.mp τ).1;rw[pT] at hj;rw[HZ hj] at τ;cases τ;have b5:=cP (l:=a5) (i:=j) @A;have b4:=cP (l:=c2) (i:=j) @A;generalize a5[j]=d1 at b5;generalize c2[j]=d2 at b4;have ε:=I.get c1;have f7:=I.get e6;have γ:=I.get (a1 j d1 b5);have β:=I.get (a2 j d2 b4);have t1:atI (a5.map V.ref) (j:Int)=aT (.ref d1):=d5 (by rw[fk,b5];rfl);have Z:atI (c2.map V.ref) (j:Int)=aT (.ref d2):=d5 (by rw[fk,b4];rfl)
   have sg:∀(p o:A'),atI ((M.wan p o 0 (M.pulse j ψ)).map nat) (i:Int)=aT (nat (M.sgl p o j i)):=λp o=>d5 (by
    have hl:i < (M.wan p o 0 (M.pulse j ψ)).length:=by rw[M.wan_len,M.pulse_len];exact hi
    rw[fk,cP hl,<-M.pulse_sgl p o j hi,bx,cP hl];rfl)
   have t3:=sg (prs L) (prs θ);have t4:=sg (prs α) (prs ξ);lia;by_cases hs:M.sgl (prs L) (prs θ) j i=M.sgl (prs α) (prs ξ) j i
   ·refine r0 (by rw[hs];simp) ?_;lia;refine⟨I,fun η h2=>?_⟩;by_cases a4:η=j
    ·rw[a4];exact hs
    ·exact a0 η @A
   ·refine xU (by rw[Ly,decide_eq_false_iff_not];intro e;exact hs (c6 e)) ?_;lia;intro tt π ρ δ e9;exact ν j i ⟨hj,by rw[av,av];omega,al,a0,hs⟩ tt π (c4.trans (I.trans δ)) e9
  ·rintro σ a6 ⟨v7,rfl,I,a0⟩;rw[cY,pT] at a0;lia;refine⟨_,_,rfl,I,λt ht η a4=>?_⟩;by_cases h:t=i
   ·rw[h];exact a0 η a4
   ·exact al t @A η a4
 ·rintro σ H' ⟨v6,v7,rfl,s',al⟩;rw[oe,e3] at al;lia;exact q1 al H' (c4.trans s')
theorem mI (T:Tx K mg a):FnOk P w K mg base CX0 8 a.bW a.ju ["one","other"] (Et a.ao):=by
 refine T.d6.1.okA cN λe4 A outer s H vs Q E hr h=>?_;obtain⟨p1,p2,m,I,π,G,ξ,rfl,ν,q⟩:=h;obtain⟨e3,c0,b4,ο,d1,c2⟩:=ν.a1.ho;obtain⟨τ,b5,b3,ζ,c4,Y⟩:=ν.a2.ho;have ll:=ν.l;have m6:=ν.g1.m6;obtain⟨ψ,χ⟩:∃ψ,ψ=I.length + G.length:=⟨_,rfl⟩;have eT:(I.length:Int) + (G.length:Int)=(ψ:Int):=by omega
 have lJ:(jnp I G).length=ψ:=by rw[yR,χ]
 have θ:=M.sg0_len (jnp I G) m
 refine⟨_,((ae (b8 (osc:=ah cC) (ON:=n21) (N:=["which","one","other"]) (n:=1) (fx:=[0,1]) (i:=2) cN.nd rfl rfl rfl rfl rfl rfl (by decide +kernel) (cD (by rfl) T.dI (aa (bw (K:=K) rfl (pv 0) rfl) af)) (aF @C) (λ_ _ _ _ _=>⟨(aw (i:=0) (show mu (["which","one","other"]:C') from by decide +kernel) rfl @D),aZ,(ai (gO T) hr T.iG T.dP (!j 1 (!j 2 (aa ag (aa (ar cE ag (pv 0)) af)))))⟩))
  (ae (ay (i:=3) cN.nd rfl @D (d9 af))
  (ae (gM Hq rfl (cD (by rfl) T.dI (aa (ar cw (bP (pv 0) T.aq T.aA (aM T) (hr.mono @C) T.ax.2 .nil dZ) (bP (pv 1) T.aq T.aA (aM T) (hr.mono @C) T.ax.2 .nil dZ)) af)) (aw (i:=4) cN.nd rfl @D) (ae (eE (mr (K:=K) rfl HU M8 M7 sj (pv 3) (!j 2 af)))
  (aj (b8 (osc:=ah cC) (ON:=n21) (N:=["pair","one","other"]) (n:=1) (fx:=[0,1]) (i:=2) cN.nd rfl rfl rfl rfl rfl rfl (by decide +kernel) (aX (K:=K) rfl (pv 2)) (aF @C) (λ_ _ _ _ _=>⟨(aw (i:=0) (show mu (["pair","one","other"]:C') from by decide +kernel) rfl @D),aZ,(ai (gO T) hr T.iG T.dP (!j 1 (!j 2 (!j 0 (aa ag af)))))⟩)))))
  (aj (aI (eG (osc:=ah cC) (ON:=n21) (N:=["place","told"]) (n:=1) (fx:=[3]) rfl rfl rfl (by decide +kernel) (aX (K:=K) rfl (ai (uv T) hr T.yZ T.qr (!j 3 af))) (aF @C) (λ_ _ _ _ _=>⟨(aw (i:=0) (show mu (["place","told"]:C') from by decide +kernel) rfl @D),aZ,(bg (cJ (K:=K) rfl) (pv 1) (pv 0) (λ_ _=>rfl))⟩)))))))),aD (σ':=[aT _,aT _,eH,eH,eH]) rfl ?_⟩
 lia;refine bu ο T.aq T.aL rfl ?_;lia;rw[oe];intro D ι;refine eQ (λi ys H'=>Cs (λi ys=>ys=((ko i).map λw=>M.tr2 (jnp I G) 0 (2 ^ w)).map nat) H D i ys H') (Cs.zero ι rfl) (λi ys H' hi c=>?_) (λys H1 c=>?_)
 ·lia;rw[Jt,shl1];refine⟨p1,p2,m,I,π,G,ξ,0,2 ^ i,rfl,ν.same c.same,lz _,ra @C hi,λH6 s6=>?_⟩;refine Cs.put ι (c.same.trans s6) (s6.get c.at') c.len @A ?_;rw[c.pv,Jf,hu,hu];rfl
 have e1:=c.at';rw[c.pv] at e1;have e1:H1 D=aT (.lst ((M.stj (jnp I G) (M.sg0 (jnp I G) m) 0).map nat)):=e1;have s1:=c.same;clear c;lia;intro D0 H2 f2 s2 e2;have β:=s1.trans s2;lia;refine bh (β.get ο) rfl ?_;lia;refine⟨p1,m,I,π,rfl,ν.a1.same β,?_⟩;lia;refine bh (β.get ζ) rfl ?_;lia;refine⟨p2,m,G,ξ,rfl,ν.a2.same β,?_⟩;lia;rw[eT];have f0:H D0=none:=s1.free f2;refine ij (λi σ H'=>∃(v:ry V) (η:ee),σ=[aT (.ref p1),aT (.ref p2),aT (.ref η),aT (.ref D0),v]/\Same H H'/\H' η=aT (.lst ((M.stj (jnp I G) (M.sg0 (jnp I G) m) i).map nat))/\H' D0=aT (.lst ((M.rcf (jnp I G) m i).map nat))/\η≠D0) ⟨eH,D,rfl,β,s2.get e1,e2,λz=>by rw[<-z,e1] at f2;cases f2⟩ ?_ ?_
 ·rintro i σ H' hi ⟨v,η,rfl,s',J,et,ρ⟩;have hi:i < ψ:=by omega
  have lr:=M.rcf_len (jnp I G) m i;have a0:(M.stj (jnp I G) (M.sg0 (jnp I G) m) i).length=m:=by rw[M.stj_len,θ]
  have b6:i * m<=60 * 6:=JU @A m6;lia;refine vm et J (by rw[cY,cY,lr,a0];exact Jn (dU @A)) ρ.symm λH5 u5=>?_;have s5:=u5.same f0 s';have a6:=u5.oth _ _ ρ J;have δ:=u5.at';rw[<-hu] at δ;have δ:H5 D0=aT (.lst ((M.rcf (jnp I G) m (i + 1)).map nat)):=δ;lia;intro D5 ε;refine bf (xs:=(M.stj (jnp I G) (M.sg0 (jnp I G) m) i).map nat) (λj ys H'=>Cs (λj ys=>ys=(((M.stj (jnp I G) (M.sg0 (jnp I G) m) i).take j).map λx=>M.tr2 (jnp I G) x 0).map nat) H5 D5 j ys H') (Cs.zero ε rfl) (λj ys H' _ c=>SqL.of (c.same.get a6)) (λj v ys H6 hv c=>?_) (λys H6 c=>?_)
  ·obtain⟨y,φ,rfl⟩:=aO hv;have hj:=(b'.mp φ).1;have a3:=M.stj_lt (jnp I G) m i y (eO φ);rw[lJ,χ] at a3;lia;refine⟨p1,p2,m,I,π,G,ξ,y,0,rfl,ν.same (s5.trans c.same),a3,lz _,fun υ L=>?_⟩;refine Cs.put ε (c.same.trans L) (L.get c.at') c.len @A ?_;rw[c.pv,take_succ φ,hu,hu];rfl
  have e6:=c.at';rw[c.pv,cY,Hw] at e6;have s6:=c.same;clear c;lia;exact⟨_,D5,rfl,s5.trans s6,e6,s6.get δ,λz=>by rw[z,δ] at ε;cases ε⟩
 ·rintro σ H' ⟨v,η,rfl,s',J,et,ρ⟩;rw[oe] at et;have lr:=M.rcf_len (jnp I G) m ψ;have b6:ψ * m<=60 * 6:=JU @A m6;obtain⟨Z,γ⟩:∃Z,Z=M.rcf (jnp I G) m ψ:=⟨_,rfl⟩;rw[<-γ] at et lr;lia;refine⟨D0,Z,rfl,et,@A,λB υ f7 L α=>?_⟩;have a5:=L.get et;lia;intro D8 ω;refine bf (xs:=(M.fr Z).map nat) (λj ys H'=>Cs (λj ys=>ys=(((M.fr Z).take j).map λi=>Z.getD i 0).map nat) υ D8 j ys H') (Cs.zero ω rfl) (λj ys H' _ c=>SqL.of (c.same.get α)) (λj v ys H8 hv c=>?_) (λys H8 c=>?_)
  ·obtain⟨y,φ,rfl⟩:=aO hv;have hj:=(b'.mp φ).1;have a4:=M.fr_lt y (eO φ);have e0:=c.same.get a5;have d2:atI (Z.map nat) (y:Int)=aT (nat (Z.getD y 0)):=d5 (by rw[fk,bx,cP a4];rfl);have c1:=M.fr_len Z;lia;refine Cs.put ω c.same c.at' c.len @A ?_;rw[c.pv,take_succ φ,hu,hu];rfl
  have e8:=c.at';rw[c.pv,cY,Hw] at e8;refine q D8 H8 ((s'.trans L).free ω) ((s'.trans L).trans c.same) ?_;unfold M.prs2 M.fR;rw[av,av,<-χ,<-γ];exact e8
theorem kj (T:Tx K mg a):FnOk P w K mg base CX0 10 a.eM a.ql ["one","other"] (Ex a.ao):=by
 refine T.gh.1.okA dH λl7 A outer s H vs Q E hr h=>?_;obtain⟨p1,p2,m,Z,ε,β,a0,rfl,θ,q1,q2⟩:=h;obtain⟨l6,j4,h7,ο,l2,l0⟩:=θ.a1.ho;obtain⟨l5,h8,h6,ζ,l1,Y⟩:=θ.a2.ho;have ll:=θ.l;have f5:=θ.lo;have m6:=θ.g1.m6;obtain⟨φ,ν⟩:∃φ,φ=M.prs2 (prs Z) (prs β) m:=⟨_,rfl⟩;have k4:φ.length<=60:=by rw[ν];have:=M.prs2_few (prs Z) (prs β) m;rw[av,av] at this;omega
 have f1:∀x∈φ,x < 2 ^ (Z.length + β.length):=λx hx=>by
  rw[ν] at hx;have:=M.prs2_lt hx;rwa [av,av] at this
 have a3:∀x∈φ,x < 2 ^ 1000:=λx hx=>eu (f1 x hx) (hD @C @A);have L:∀x r,M.tr2 (jnp Z β) x r < 2 ^ 1000:=λx r=>eu (M.tr2_lt _ _ _) (hD @C (by rw[yR];omega))
 have a4:∀{x r:Nat},(x=0∨x∈φ)->r < 2 ^ m->M.Span φ (M.tr2 (jnp Z β) x r):=λhx f8=>by
  rw[ν] at hx ⊢;exact yh (q:=0) hx f8
 have e6:(1:Int) * 2 ^ ((Z.length:Int).toNat) - 1=((2 ^ Z.length - 1:Nat):Int):=by rw[shl1];have:=lz Z.length;omega
 refine⟨_,((ae (dz (PW.pt (mH (aK qO (bw (K:=K) rfl (pv 0) rfl) (bw (K:=K) rfl (pv 1) rfl) (aQ _)) (jU (aK qO (bP (pv 0) T.aq T.eI (d0 T) (hr.mono @C) T.bC.2 .nil dZ) (bP (pv 1) T.aq T.eI (d0 T) (hr.mono @C) T.bC.2 .nil dZ) (aQ _))))) (aj CM) be)
  (ae (ay (i:=2) dH.nd rfl @D (ai (nV T) hr T.pV T.fi (!j 0 (!j 1 af))))
  (ae (dz (aK C0 (pv 2) By (aQ _)) (aj (aI (pv 2))) be)
  (ae (ay (i:=3) dH.nd rfl @D (ai (mI T) hr T.oE T.d6 (!j 0 (!j 1 af))))
  (ae (b8 (osc:=ah fY) (ON:=n22) (N:=["which","pairs","one","other"]) (n:=1) (fx:=[3,0,1]) (i:=4) dH.nd rfl rfl rfl rfl rfl rfl (by decide +kernel) (cD (by rfl) T.dI (aa (bw (K:=K) rfl (pv 0) rfl) af)) (aF @C) (λ_ _ _ _ _=>⟨(aw (i:=0) (show mu (["which","pairs","one","other"]:C') from by decide +kernel) rfl @D),aZ,(bg (aE (K:=K) rfl) (ai (lP T) hr T.oC T.ir (!j 1 (aa (ai (gO T) hr T.iG T.dP (!j 2 (!j 3 (aa ag (aa (ar cE ag (pv 0)) af))))) af))) ag (λ_ _=>rfl))⟩))
  (ae (b8 (osc:=ah fY) (ON:=n22) (N:=["pair","pairs","one","other"]) (n:=1) (fx:=[3,0,1]) (i:=5) dH.nd rfl rfl rfl rfl rfl rfl (by decide +kernel) (aX (K:=K) rfl (pv 3)) (aF @C) (λ_ _ _ _ _=>⟨(aw (i:=0) (show mu (["pair","pairs","one","other"]:C') from by decide +kernel) rfl @D),aZ,(bg (aE (K:=K) rfl) (ai (lP T) hr T.oC T.ir (!j 1 (aa (ai (gO T) hr T.iG T.dP (!j 2 (!j 3 (!j 0 (aa ag af))))) af))) ag (λ_ _=>rfl))⟩))
  (ae (ay (i:=6) dH.nd rfl @D (bP (pv 0) T.aq T.aA (aM T) (hr.mono @C) T.ax.2 .nil dZ))
  (ae (b8 (osc:=ah fY) (ON:=n22) (N:=["pair","width"]) (n:=1) (fx:=[6]) (i:=7) dH.nd rfl rfl rfl rfl rfl rfl (by decide +kernel) (aX (K:=K) rfl (pv 3)) (aF @C) (λ_ _ _ _ _=>⟨(aw (i:=0) (show mu (["pair","width"]:C') from by decide +kernel) rfl @D),aZ,(c3 (aa (ar fO (pv 0) (ar kL (ar cE ag (pv 1)) ag)) (aa (ar nS (pv 0) (pv 1)) af)))⟩))
  (aj (aI (c3 (aa gN (!j 7 (!j 4 (!j 5 af)))))))))))))))),aD (σ':=[aT _,aT _,eH,eH,eH,eH,eH,eH]) rfl ?_⟩
 lia;refine bu ο T.aq T.aL rfl ?_;lia;refine bu ζ T.aq T.aL rfl ?_;lia;dsimp only;rw[nk @E];lia;refine bh ο rfl ?_;lia;refine⟨p1,m,Z,ε,rfl,θ.a1,?_⟩;lia;refine bh ζ rfl ?_;lia;refine⟨p2,m,β,a0,rfl,θ.a2,?_⟩;lia;dsimp only;rw[nk (by rw[f5];simp)];lia;refine⟨p1,p2,m,Z,ε,β,a0,rfl,θ,λal H1 s1=>?_,fun χ t' fu tt H1 s1 e1=>?_⟩
 ·lia;refine⟨p1,p2,m,Z,ε,β,a0,rfl,θ.same s1,λD H2 η s2 e2=>?_⟩;rw[<-ν] at e2;have b6:=s1.trans s2;lia;refine bu (b6.get ο) T.aq T.aL rfl ?_;lia;rw[oe];intro τ f0;refine eQ (λj ys H'=>Co (λj=> .lst ((M.pl 1000 (sfq φ (M.tr2 (jnp Z β) 0 (2 ^ j)))).map nat)) H2 τ j ys H') (kB f0) (λi ys H' hi c=>?_) (λys H3 c=>?_)
  ·have c':=c;obtain⟨_,_,_,_,_,sB,_⟩:=c';have b4:=b6.trans sB;have c2:2 ^ i < 2 ^ m:=ra @C hi;lia;rw[Jt,shl1];refine⟨p1,p2,m,Z,ε,β,a0,0,2 ^ i,rfl,θ.same b4,lz _,c2,λH6 ψ=>?_⟩;lia;refine⟨D,φ,_,rfl,ψ.get (sB.get e2),@A,a3,L _ _,.inl (a4 (.inl rfl) c2),λI ω υ qq f7 s7 α c4 sd=>?_,λI υ mk s7 α bd=>hE (a4 (.inl rfl) c2) bd.ns⟩;lia;exact oU f0 c (ψ.trans s7) (ψ.free f7) (by rw[c4,Bp sd]) @A
  obtain⟨bs,rfl,G,f3,l4,d2,J⟩:=c;have b5:=b6.trans d2;have d1:=d2.get e2;lia;intro D4 e8;refine bf (xs:=φ.map nat) (λj ys H'=>Co (λj=> .lst ((M.pl 1000 (sfq φ (M.tr2 (jnp Z β) (φ.getD j 0) 0))).map nat)) H3 D4 j ys H') (kB e8) (λj ys H' _ ⟨_,_,_,_,_,s',_⟩=>SqL.of (s'.get d1)) (λj v ys H' hv c=>?_) (λys γ c=>?_)
  ·obtain⟨y,hy,rfl⟩:=aO hv;have hj:=(b'.mp hy).1;have c0:=eO hy;have c1:φ.getD j 0=y:=by rw[bx,hy];rfl
   have c':=c;obtain⟨_,_,_,_,_,sB,_⟩:=c';have b4:=b5.trans sB;lia;refine⟨p1,p2,m,Z,ε,β,a0,y,0,rfl,θ.same b4,f1 y c0,lz _,λH6 ψ=>?_⟩;lia;refine⟨D,φ,_,rfl,ψ.get (sB.get d1),@A,a3,L _ _,.inl (a4 (.inr c0) (lz _)),λI ω υ qq f7 s7 α c4 sd=>?_,λI υ mk s7 α bd=>hE (a4 (.inr c0) (lz _)) bd.ns⟩;lia;exact oU e8 c (ψ.trans s7) (ψ.free f7) (by rw[c4,Bp sd,c1]) @A
  obtain⟨us,rfl,e3,h4,l3,b3,g4⟩:=c;rw[cY] at e3;have e0:=b5.trans b3;have h3:=b3.get d1;lia;refine bh (e0.get ο) rfl ?_;lia;refine⟨p1,m,Z,ε,rfl,θ.a1.same e0,?_⟩;lia;intro D5 e5;refine bf (xs:=φ.map nat) (λj ys H'=>Co (λj=> .tup [nat (M.lo Z.length (φ.getD j 0)),nat (φ.getD j 0>>>Z.length)]) γ D5 j ys H') (kB e5) (λj ys H' _ ⟨_,_,_,_,_,s',_⟩=>SqL.of (s'.get h3)) (λj v ys H' hv c=>?_) (λys H5 c=>?_)
  ·obtain⟨y,hy,rfl⟩:=aO hv;have hj:=(b'.mp hy).1;have c1:φ.getD j 0=y:=by rw[bx,hy];rfl
   lia;rw[e6,bt,uf];intro t9 π ρ δ e9;exact oU e5 c δ ρ (by rw[e9,c1];rfl) @A
  obtain⟨ts,rfl,e4,h5,ξ,f4,g3⟩:=c;rw[cY] at e4;lia;intro tt H6 ι ψ h0;have a5:=f4.trans ψ;have a6:=b3.trans a5;subst ν;exact q1 al tt D5 τ D4 ts bs us H6 (b5.trans a6) ⟨h0,ψ.get g3,e4,λj d h=>by rw[av];exact ψ.get (h5 j d h),a6.get J,G,λj d h=>a6.get (f3 j d h),a5.get g4,e3,λj d h=>a5.get (h4 j d h)⟩
 ·lia;exact q2 χ t' fu tt H1 s1 e1
end
local macro_rules | `(tactic| walk_at "l2step") =>`(tactic| first | ((with_reducible refine' oW ?e ?a ?_);(case e=>walk_at "l2hp");(case a=>walk_at "l2side")) | ((with_reducible refine' w9 ?a ?b ?_);(case a=>walk_at "l2side");(case b=>walk_at "l2side");(with_reducible intro _ _)))
section
variable {P:px} {w:wq} {K:a'} {mg:G'} {base:zx} {a:Ad}
local macro_rules | `(tactic| walk_at "l2step") =>`(tactic| first | ((with_reducible refine' iM ?e ?_);(case e=>walk_at "l2kind")) | ((with_reducible refine' lg ?e ?_);(case e=>walk_at "l2kind")) | (with_reducible refine gL ?_) | (with_reducible refine i7 ?_))
theorem Fp (T:Tx K mg a) (PT:ee) (kb:K.In base) (hB:LM.LamB mg base a.a7 PT):FnOk P w K mg base CX0 14 a.wO a.FX ["_law_script"] (qy lpos PT K):=by
 have tR:=@qV P w K mg base a T PT kb hB;have bM:=@aM P w K mg base a T;refine T.Be.okA i5 λcdv A outer s H vs Q E hr h=>?_;obtain⟨p0,ns,rfl,hS,z3,TL,q⟩:=h;have u8:=FL hr;have u7:=CG hr
 refine⟨_,((ae (ay (i:=1) i5.nd rfl @D (ai (nY T) hr T.pZ T.fq (!j 0 (aa ag (aa ag af)))))
  (ae (ay (i:=2) i5.nd rfl @D (ai tR hr T.sO T.gU (!j 1 (aa (ai (jk T) hr T.cf T.bz (!j 0 (aa ag af))) af))))
  (ae (ay (i:=3) i5.nd rfl @D (ai (jj T) hr T.kq T.eW (!j 1 af)))
  (ae (ay (i:=4) i5.nd rfl @D (ai (jj T) hr T.kq T.eW (!j 2 af)))
  (ae (ay (i:=5) i5.nd rfl @D (bg (aE (K:=K) rfl) (ai (qS T) hr T.uK T.mq (!j 3 af)) ag (λ_ _=>rfl)))
  (ae (ay (i:=6) i5.nd rfl @D (bg (aE (K:=K) rfl) (ai (qS T) hr T.uK T.mq (!j 4 af)) ag (λ_ _=>rfl)))
  (ae (dz (PW.pt (mH (aK qO (bP (pv 5) T.aq T.aA bM (hr.mono @C) T.ax.2 .nil dZ) (bP (pv 6) T.aq T.aA bM (hr.mono @C) T.ax.2 .nil dZ) (aQ _)) (jU (aK nT (bP (pv 5) T.aq T.aA bM (hr.mono @C) T.ax.2 .nil dZ) (bF (zr rfl) (by rfl) T.GT PyProof.Rows.boot_min (aa (bP (pv 3) T.aq T.aA bM (hr.mono @C) T.ax.2 .nil dZ) (aa (bP (pv 4) T.aq T.aA bM (hr.mono @C) T.ax.2 .nil dZ) af))) (aQ _))))) (aj (aI yn)) be)
  (ae (b8 (osc:=ah uj) (ON:=["_law_script","_law_tables","_law_others","_law_one","_law_other_here","_law_first","_law_second","_law_rows","_law_answers","_law_machine_here","_law_far"]) (N:=["_law_cell_here","_law_tables"]) (n:=1) (fx:=[1]) (i:=7) i5.nd rfl rfl rfl rfl rfl rfl (by decide +kernel) (aX (K:=K) rfl (iD (iA (K:=K) rfl) (pv 0) (je ag) (je ag))) (aF @C) (λ_ _ _ _ _=>⟨(aw (i:=0) (show mu (["_law_cell_here","_law_tables"]:C') from by decide +kernel) rfl @D),aZ,(ar cu (pv 0) (ar cE ag (bg (aE (K:=K) rfl) (pv 1) ag (λ_ _=>rfl))))⟩))
  (ae (ay (i:=8) i5.nd rfl @D (cy (dvs:=[.int 0]) (pv 3) T.aq T.iF (g7 T) (hr.mono @C) T.d8 (.cons T.iw .nil) thr0 (!j 7 af)))
  (ae (gM Hq rfl (aX (K:=K) rfl (d9 (!j 4 (!j 5 (!j 6 af))))) (aw (i:=9) i5.nd rfl @D) (aj (dz (PW.pt (mH (aK (C1 (K:=K) rfl u8) (cy (dvs:=[.int 0]) (pv 9) T.aq T.iF (g7 T) (hr.mono @C) T.d8 (.cons T.iw .nil) thr0 (!j 7 af)) (pv 8) (aQ _)) (jU (aK qO (bg (aE (K:=K) rfl) (ai (kj T) hr T.mi T.gh (!j 3 (!j 9 af))) ag (λ_ _=>rfl)) gN (aQ _))))) (aj (aI yn)) be)))
  (ae (dz (PW.pt (mH (aK qO (bg (aE (K:=K) rfl) (ai (kj T) hr T.mi T.gh (!j 6 (!j 5 af))) ag (λ_ _=>rfl)) gN (aQ _)) (jU (aK qO (bP (bg (aE (K:=K) rfl) (ai (qS T) hr T.uK T.mq (!j 5 af)) ag (λ_ _=>rfl)) T.aq T.aA bM (hr.mono @C) T.ax.2 .nil dZ) (bP (pv 5) T.aq T.aA bM (hr.mono @C) T.ax.2 .nil dZ) (aQ _))))) (aj (aI yn)) be)
  (ae (dz (PW.pt (r8 (aK nT (bg (aE (K:=K) rfl) (pv 1) ag (λ_ _=>rfl)) ag (aQ _)) (nL (aK (C2 (K:=K) rfl u7) (bg (aE (K:=K) rfl) (pv 1) ag (λ_ _=>rfl)) (d9 af) (aQ _))))) (ae (ay (i:=10) i5.nd rfl @D (ai (kj T) hr T.mi T.gh (!j 3 (aa (ai (jj T) hr T.kq T.eW (aa (ai (qU T) hr T.sN T.gT (!j 1 (aa (ai (jk T) hr T.cf T.bz (!j 0 (aa ag af))) af))) af)) af))))
  (aj (aI (sf (ke jh (bg (aE (K:=K) rfl) (pv 10) ag (λ_ _=>rfl)) gN (aQ _)) (vv (ke jh (bg (aE (K:=K) rfl) (pv 10) ag (λ_ _=>rfl)) ag (aQ _))))))) be)
  (aj (aI yn))))))))))))))),aD (σ':=[aT _,eH,eH,eH,eH,eH,eH,eH,eH,eH,eH]) rfl ?_⟩
 lia;refine⟨p0,ns,1,6,rfl,hS,@C,@C,λt n o H1 m nx os s1 fn fo tt u4=>?_⟩;have π:=Same.seq s1 hS;have f8:=nr TL s1;lia;refine⟨t,n,o,m,nx,os,_,rfl,tt,u4,f8,λt2 n2 o2 H2 a5 a4 B2 y7 h5 l2 u1 y5=>?_⟩;have p6:=B2.seq f8 π;have f0:=B2.tab f8 tt;clear TL f8 hS π tt B2 s1 fn fo;have g1:=f0.tab.g;have g2:=h5.tab.g;have f1:M.Fit (prs nx) (prs os) m:=⟨by rw[av];omega,g1.hA⟩;have f2:M.Fit (prs a5) (prs a4) m:=⟨by rw[av];omega,g2.hA⟩;lia;refine⟨t,n,o,m,nx,os,rfl,f0,λx1 H3 s3 n9=>?_⟩;lia;refine⟨t2,n2,o2,m,a5,a4,rfl,h5.same s3,λx2 H4 s4 n7=>?_⟩;have e4:=n9.same s4;have h6:=s3.trans s4;have m3:=f0.same h6;have ο:=Same.seq h6 p6;clear f0 h5 s3 s4 h6 n9 p6 y7;lia;refine⟨x1,m,nx,os,rfl,e4,g1,@A,λtl xf Dr Dl ds es H5 a0 a3 s5 w1 n5 gf l5 _ _ _ _ _=>?_⟩;have o6:a0.length=(M.lkp (prs nx) (prs os) m).length:=by have:=l5.ln;rwa [av] at this
 have u2:a3.length=os.length:=by have:=l5.lo;rwa [av,av] at this
 have v6:=M.many_le (ps:=prs nx) (os:=prs os) (m:=m);rw[av] at v6;have e3:=n7.same s5;have γ:=e4.same s5;have m2:=m3.same s5;have p5:=Same.seq s5 ο;clear e4 n7 m3 ο s5;lia;refine⟨x2,m,a5,a4,rfl,e3,g2,@A,λtl' xs Dr' Dl' ds' es' H6 d2 f3 s6 etl' f5 gs l4 _ _ _ _ _=>?_⟩;have t6:d2.length=(M.lkp (prs a5) (prs a4) m).length:=by have:=l4.ln;rwa [av] at this
 have lso:f3.length=a4.length:=by have:=l4.lo;rwa [av,av] at this
 have v4:=M.many_le (ps:=prs a5) (os:=prs a4) (m:=m);rw[av] at v4;have m0:M.AlkB m (prs nx) (prs os) (prs a5) (prs a4):=y5.b;have f6:=M.many_one f1 f2 m0;have l9:M.AlkB m (prs nx) (prs os) (prs a0) (prs a3):=λrs h=>(l5.alike f1 h).symm;have q3:M.AlkB m (prs nx) (prs os) (prs d2) (prs f3):=λrs h=>(m0 rs h).trans (l4.alike f2 h).symm;have c1:=e3.same s6;have c4:=γ.same s6;have a6:=n5.same s6;have h4:=m2.same s6;have p4:=Same.seq s6 p5;clear γ e3 n5 m2 p5 s6 w1;lia;obtain⟨y0,r2,q9,e9,_⟩:=c4.ho;obtain⟨dx2,tn2,to2,ι,_⟩:=c1.ho;obtain⟨x7,r1,q8,e8,_⟩:=a6.ho;obtain⟨dxs,tns,tos,o7,_⟩:=f5.ho;refine bh e8 rfl ?_;lia;refine⟨xf,_,a0,a3,rfl,a6,?_⟩;lia;refine bh o7 rfl ?_;lia;refine⟨xs,_,d2,f3,rfl,f5,?_⟩;lia;dsimp only;rw[nk (by rw[gB (show nat a0.length=nat d2.length by rw[o6,t6,f6])];decide)];lia;refine bh e8 rfl ?_;lia;refine⟨xf,_,a0,a3,rfl,a6,?_⟩;lia;refine bh e9 rfl ?_;lia;refine⟨x1,_,nx,os,rfl,c4,?_⟩;lia;refine bh ι rfl ?_;lia;refine⟨x2,_,a5,a4,rfl,c1,?_⟩;lia;refine⟨_,_,rfl,?_⟩;refine⟨_,_,rfl,rfl,?_⟩;refine⟨_,rfl,?_⟩;rw[eP (show ¬(min (nx.length:Int) (a5.length:Int) < (a0.length:Int)) by omega)];dsimp only;rw[nk @C];lia;intro Ds H7 f7 L e7;obtain⟨cs,q0,u3⟩:=A6 ns (aT 8) (aT 48);rw[q0] at e7;have p8:=L.get h4.t;have m6:=g1.m6;have hp0:=lz m;lia;intro Dw l7;refine bf (xs:=cs.map V.int) (λi ys H'=>∃rs:D7,ys=rs.map nat/\Same H7 H'/\H' Dw=aT (.lst ys)/\rs.length=i/\∀r∈rs,r < 2 ^ m) ⟨[],rfl,fh l7,aJ,rfl,λ_ h=>hE h @E⟩ (λi ys H' _ ⟨_,_,s',_⟩=>SqL.of (s'.get e7)) ?_ ?_
 ·rintro i y ys H' hy ⟨r5,rfl,s',eD,lr,hb⟩;obtain⟨cc,hc,rfl⟩:=aO hy;have hlt:=(b'.mp hc).1;have et':=s'.get p8;lia;rw[shl1];lia;obtain⟨z,hz,hzl⟩:=iI (c:=cc) (m:=((2 ^ m:Nat):Int)) @A;rw[hz];refine⟨eD,by rw[cY];exact dU @A,r5++[z],by rw[hu];rfl,λb ob e=>?_,aJ,by rw[eZ,lr];rfl,λr v0=>?_⟩
  ·rw[aC (au e l7)];exact s'.get e
  ·rcases lx.mp v0 with h | h
   ·exact hb r h
   ·rw[fy.mp h];omega
 ·rintro ys H8 ⟨rs,rfl,s8,er,lr,l6⟩;rw[cY] at lr;have l63:rs.length<=63:=by omega
  have b3:=L.trans s8;have c2:=c4.same b3;have β:=c1.same b3;have α:=a6.same b3;have Z:=f5.same b3;have m1:=h4.same b3;have p3:=Same.seq b3 p4;clear e7 p8 q0 u3 lr L s8 f7 l7 c4 c1 a6 f5 h4 p4 e9 ι e8 o7 b3;obtain⟨y0,r2,q9,e9,_⟩:=c2.ho;lia;refine bN e9 rfl ?_;lia;refine⟨x1,Dw,m,nx,os,nat 0,rs.map nat,rfl,⟨c2,g1,⟨"int",rfl⟩,SqL.of er,uZ.nats _ _ _,by rw[cY];omega⟩,λa1 r7 gd Da H9 f9 s9 ea=>?_,λl8=>Hr (yv (lz _) l6 l8)⟩;obtain⟨rfl,rfl⟩:=sJ gd;lia;intro Dl q4 f10 h7 q1;have G:=s9.trans h7;have b6:=c2.same G;have J:=α.same G;have b4:=Z.same G;have h3:=m1.same G;have ζ:=Same.seq G p3;have η:=G.get er;have θ:=h7.get ea
  have h8:∀(i:Nat) (v:V),[V.ref x2,V.ref xf,V.ref xs][i]? =aT v->∃y,v= .ref y/\Ok62 q4 a.ao y m nx os:=λi v hv=>by
   match i,hv with
   | 0,hv=>cases iv hv;exact⟨x2,rfl,_,_,β.same G,g2,l2,u1,m0⟩
   | 1,hv=>cases iv hv;exact⟨xf,rfl,_,_,J,gf,@A,u2,l9⟩
   | 2,hv=>cases iv hv;exact⟨xs,rfl,_,_,b4,gs,@A,@A,q3⟩
   | i + 3,hv=>simp at hv
  clear c2 β α Z m1 p3 er ea s9 h7 G f9 e9;lia;refine jK (xs:=[V.ref x2,V.ref xf,V.ref xs]) (λi σ H'=>∃v9,σ=[aT (V.ref p0),aT (V.ref t),aT (V.ref t2),aT (V.ref x1),aT (V.ref x2),aT (V.ref xf),aT (V.ref xs),aT (V.ref Dw),aT (V.ref Da),v9,eH]/\Same q4 H') ⟨eH,rfl,Same.refl _⟩ (λi σ H' _ ⟨_,_,s'⟩=>SqL.of (s'.get q1)) ?_ ?_
  ·rintro i v σ H' hv ⟨v9,rfl,s'⟩;obtain⟨y,rfl,m7,m5,Y,gy,ly,t7,q2⟩:=h8 i v hv;have l0:=Y.same s';have w3:=s'.get η;have n4:=b6.same s';have x3:=s'.get θ;clear h8 Y;obtain⟨dxy,tny,toy,u5,_⟩:=l0.ho;lia;refine bN u5 rfl ?_;lia;refine⟨y,Dw,m,m7,m5,nat 0,rs.map nat,rfl,⟨l0,gy,⟨"int",rfl⟩,SqL.of w3,uZ.nats _ _ _,by rw[cY];omega⟩,λa1 r7 gd Db z2 f11 ξ eb=>?_,λl8=>Hr (yv (lz _) l6 l8)⟩;obtain⟨rfl,rfl⟩:=sJ gd;rw[<-q2 rs l6] at eb;lia;refine ET (SqL.of eb) (SqL.of (ξ.get x3)) ?_;refine⟨_,rfl,?_⟩;dsimp only;rw[nk @C];have k4:=l0.same ξ;have f4:=n4.same ξ;lia;refine⟨x1,y,m,nx,os,m7,m5,rfl,⟨f4,g1,k4,gy,t7.symm,@A⟩,λ_ tc q6 q7 Du ts bs us z1 υ ak=>?_,λw2 t3 fu=>?_⟩
   ·have w5:=ak.t;lia;exact s'.trans (ξ.trans υ)
   ·exact hE (M.AlkB.sgl q2 fu.hw t3) fu.un
  ·rintro σ z2 ⟨v9,rfl,ξ⟩;have I:=J.same ξ;have e0:=b4.same ξ;have h0:=h3.same ξ;have e6:=b6.same ξ;have ε:=Same.seq ξ ζ;clear h8 J b4 h3 b6 ζ η θ q1;lia;refine⟨xs,xf,m,d2,f3,a0,a3,rfl,⟨e0,gs,I,gf,@A,@A⟩,λ_ tc q6 q7 Du ts bs us z1 υ ak=>?_,λw2 t3 fu=>hE (M.AlkB.sgl (q3.symm.trans l9) fu.hw t3) fu.un⟩;have w5:=ak.t;have b5:=I.same υ;have g4:=h0.same υ;have e5:=e6.same υ;have δ:=Same.seq υ ε;clear I e0 h0 e6 ε ξ υ ak;have ff:M.Fit (prs a0) (prs a3) m:=⟨by rw[av];omega,gf.hA⟩;lia;refine⟨xf,m,a0,a3,rfl,b5,gf,@A,λtl2 xt Dr2 Dl2 ds2 es2 H13 j4 s2 d1 z5 mat gt o5 _ _ _ _ _=>?_⟩;have t5:j4.length=(M.lkp (prs a0) (prs a3) m).length:=by have:=o5.ln;rwa [av] at this
   have w7:=M.many_one f1 ff l9;have e2:=b5.same d1;have c0:=g4.same d1;have l3:=e5.same d1;have p7:=Same.seq d1 δ;clear b5 g4 e5 δ d1;obtain⟨x7,r1,q8,e8,_⟩:=e2.ho;obtain⟨dxt,χ,τ,u6,_⟩:=mat.ho;lia;refine bh u6 rfl ?_;lia;refine⟨xt,_,j4,s2,rfl,mat,?_⟩;lia;refine bh e8 rfl ?_;lia;refine⟨xf,_,a0,a3,rfl,e2,?_⟩;lia;rw[gB (show nat j4.length=nat a0.length by rw[t5,o6,w7])];have et13:=c0.t;have ν:=c0.tab.o;lia;dsimp only;refine ite2 (λo9=>?_) (λo9=>?_)
   ·have v7:0 < m:=by have:=Ji o9;omega
    lia;intro De H14 f14 ρ x4;refine Ae (ρ.get ν) (c0.tab.po.same ρ) x4 ?_;refine⟨_,rfl,?_⟩;have m4:=c0.same ρ;have l1:=l3.same ρ;have z4:=Same.seq ρ p7;dsimp only;refine ite2 (λo8=>?_) (λo8=>?_)
    ·have φ:0 < os.length:=by
      cases os with
      | nil=>simp at o8
      | cons q l=>simp
     lia;refine⟨t,n,o,m,nx,os,_,rfl,m4,v7,φ,λt3 n3 o3 H15 ω i k ψ g3 hi hk hq=>?_⟩;obtain⟨q5,v2,p9⟩:=hq;lia;refine⟨t3,n3,o3,m,nx,ω,rfl,g3,λx5 H16 r4 t1=>?_⟩;have ap:=M.shown_apart (p:=prs nx) v2 (show k < 1000 by omega);rw[<-p9] at ap;have t9:ω.length=os.length:=by have:=Hm KC p9;rwa [av,Lw,av] at this
     lia;refine⟨x1,x5,m,nx,os,nx,ω,rfl,⟨l1.same (ψ.trans r4),g1,t1,g3.tab.g,t9.symm,@A⟩,λal tc q6 q7 Du ts bs us z0 r3 ak=>hE (al 0 @A k hk) ap,λw2 t4 fu tt3 z0 r3 e17=>?_⟩
     have u9:t4=0:=by
      rcases Nat.eq_zero_or_pos t4 with h | h
      ·exact h
      ·exact hE (fu.al 0 h k hk) ap
     subst u9;lia;rw[gB (show nat 0=V.int 0 from rfl)];exact q _
    ·lia;exact q _
   ·rw[nk @C];lia;exact q _
end
open PySem.W in
theorem all_mk {l:MG} {w:wq} {K:Frag} {h:zx} {mg:G'} {fa:ee} (X:K.In h) (G:h.Ns Ia mg) (hfa:mg "law"=aT (.ref fa)){dy fE oJ gF gD eK gE cK iH dc aN bb aU aH bG a9 lh:ee}{o8:hG}{o7:HL}{o6:Nat}{o5:HH}{jX:Tok}{pE p8:HL}{pd:HH}{pG pU p4 pA j4 p6:hG}{bH bc bI a8 bj cL bo oK gz kr gC de eL bU ku dM cj bW eM dO eN di ck cq:ee}{pD p7:HL}{o9:HH}{pF pS p3 pq p5:hG}{gG PT a7 dj cn dN dh df:ee}{Fs F0:HL}{EA:HH}{Ft FA FW Fc BN FY:hG}{wO ao:ee}(zF:NI K "Machine" ao){aV:ee}(DV:NI K "Steps" aV)(xg:NI K "is_whole" dy)(wI:FR K "is_whole" "is_whole" lH dy)(zD:NI K "is_mask" fE)(yM:FR K "is_mask" "is_mask" nJ fE)(F2:NI K "even" oJ)(Fy:FR K "even" "even" xW oJ)(zE:NI K "bits_of" gF)(yN:FR K "bits_of" "bits_of" kI gF)(zB:NI K "mask_of" gD)(yK:FR K "mask_of" "mask_of" nH gD)(xa:NI K "unpacked" eK)(wG:FR K "unpacked" "unpacked" jD eK)(zC:NI K "is_pair" gE)(yL:FR K "is_pair" "is_pair" nI gE)(rJ:NI K "check_table" cK)(qY:FR K "check_table" "check_table" fT cK)(Bc:NI K "is_odd" iH)(AG:FR K "is_odd" "is_odd" qD iH)(tK:NI K "odd_places" dc)(su:FR K "odd_places" "odd_places" gK dc)(vb:FI K ao "__init__" aN)(kU:FR K "__init__" "Machine.__init__" dY aN)(xq:FI K ao "stores" bb)(mU:FR K "stores" "Machine.stores" fM bb)(vP:FI K ao "outputs" aU)(me:FR K "outputs" "Machine.outputs" eh aU)(rR:FI K ao "check_state" aH)(jq:FR K "check_state" "Machine.check_state" cZ aH)(zL:FI K ao "step" bG)(pQ:FR K "step" "Machine.step" gZ bG)(xp:FI K ao "walked" a9)(mT:FR K "walked" "Machine.walked" fL a9)(zQ:FI K ao "run" bH)(qZ:K.lookup bH=aT ⟨pG,pE,.func (fnOf "run" "Machine.run" (d4 dw) (cM dw) (ah dw) (.ref lh) pU p4 pA p8 j4 p6),pd⟩)(pL:K.lookup lh=aT ⟨o8,o7,.seq #[.int 0 jX] o6,o5⟩)(rH:codeIn K j4 "Machine.run"=true)(kK:keepIn K (.ref bH)=true)(xr:FI K ao "single" bc)(mV:FR K "single" "Machine.single" fN bc)(zM:FI K ao "back" bI)(pR:FR K "back" "Machine.back" g0 bI)(xo:FI K aV "__init__" a8)(mS:FR K "__init__" "Steps.__init__" fK a8)(xx:FI K aV "lowered" bj)(ox:FR K "lowered" "Steps.lowered" gq bj)(B4:FI K aV "lay" cL)(uH:FR K "lay" "Steps.lay" kc cL)(xy:FI K aV "barring" bo)(oy:FR K "barring" "Steps.barring" gu bo)(F3:NI K "base" oK)(Fz:FR K "base" "base" xZ oK)(zz:NI K "sum_for" gz)(yI:FR K "sum_for" "sum_for" nE gz)(DT:NI K "reach" kr)(Dj:FR K "reach" "reach" nG kr)(zA:NI K "rows_at" gC)(yJ:FR K "rows_at" "rows_at" nF gC)(tL:NI K "look_masks" de)(sv:FR K "look_masks" "look_masks" fw de)(xc:NI K "odd_with" eL)(wH:FR K "odd_with" "odd_with" jE eL)(oY:NI K "told_by_looks" bU)(ot:FR K "told_by_looks" "told_by_looks" gj bU)(DU:NI K "least" ku)(Dx:FR K "least" "least" gm ku)(uV:NI K "next_pair" dM)(uE:FR K "next_pair" "next_pair" j8 dM)(p9:NI K "first_unlike" cj)(pM:FR K "first_unlike" "first_unlike" dC cj)(oZ:NI K "pairs_come_to" bW)(ou:FR K "pairs_come_to" "pairs_come_to" cC bW)(xh:NI K "compared" eM)(wJ:FR K "compared" "compared" fY eM)(uX:NI K "_law_cell" dO)(uG:FR K "_law_cell" "_law_cell" ka dO)(xi:NI K "_law_mix" eN)(wK:FR K "_law_mix" "_law_mix" lI eN)(tO:NI K "_law_masks" di)(sD:FR K "_law_masks" "_law_masks" jb di)(qa:NI K "_law_thinned" ck)(pN:FR K "_law_thinned" "_law_thinned" gX ck)(qc:NI K "_law_machine" cq)(pP:FR K "_law_machine" "_law_machine" cT cq)(rK:NI K "_law_turned" a7)(kT:K.lookup a7=aT ⟨pF,pD,.func (fnOf "_law_turned" "_law_turned" (d4 bE) (cM bE) (ah bE) .none pS p3 pq p7 (.ref gG) p5),o9⟩)(rG:codeIn K (.ref gG) "_law_turned"=true)(kJ:keepIn K (.ref a7)=true)(tP:NI K "_law_grown" dj)(sG:FR K "_law_grown" "_law_grown" fz dj)(qb:NI K "_law_swapped" cn)(pO:FR K "_law_swapped" "_law_swapped" gY cn)(uW:NI K "_law_made" dN)(uF:FR K "_law_made" "_law_made" j9 dN)(tN:NI K "_law_other" dh)(sy:FR K "_law_other" "_law_other" ja dh)(tM:NI K "_law_shown" df)(sx:FR K "_law_shown" "_law_shown" i9 df)(G5:NI K "law" wO)(GW:K.lookup wO=aT ⟨Ft,Fs,.func (fnOf "law" "law" (d4 uj) (cM uj) (ah uj) .none FA FW Fc F0 BN FY),EA⟩)(G3:codeIn K BN "law"=true)(GN:keepIn K (.ref wO)=true)(wt:plainGet K ao NS=true)(wo:hasDictIn K ao=true)(wm:plainOver K ao=true)(wk:findIn K (.ref ao) "__setattr__"=aT (aT (.builtin "object.__setattr__")))(wW:makesIn K ao=true)(wV:FI K ao "__init__" aN)(wU:isFn K (.ref aN)=true)(wR:keepIn K (.ref ao)=true)(l9:FI K ao "stores" bb)(lW:isFn K (.ref bb)=true)(kR:FI K ao "outputs" aU)(kQ:isFn K (.ref aU)=true)(iZ:FI K ao "check_state" aH)(iY:isFn K (.ref aH)=true)(og:FI K ao "step" bG)(n9:isFn K (.ref bG)=true)(l8:FI K ao "walked" a9)(lV:isFn K (.ref a9)=true)(pK:FI K ao "run" bH)(pJ:isFn K (.ref bH)=true)(md:FI K ao "single" bc)(l6:isFn K (.ref bc)=true)(oh:FI K ao "back" bI)(oa:isFn K (.ref bI)=true)(mK:FN K ao "inputs")(nZ:FN K ao "nexts")(pI:FN K ao "outs")(Ar:plainGet K aV NS=true)(Aq:hasDictIn K aV=true)(Ap:plainOver K aV=true)(Ao:findIn K (.ref aV) "__setattr__"=aT (aT (.builtin "object.__setattr__")))(AZ:makesIn K aV=true)(AY:FI K aV "__init__" a8)(AX:isFn K (.ref a8)=true)(AW:keepIn K (.ref aV)=true)(mQ:FI K aV "lowered" bj)(mO:isFn K (.ref bj)=true)(so:FI K aV "lay" cL)(sk:isFn K (.ref cL)=true)(mR:FI K aV "barring" bo)(mP:isFn K (.ref bo)=true)(pH:FN K aV "by_top")(kl:FN K aV "free_places")(kO:FN K aV "null_masks"){mm:ee}(Ea:NI K "BadSizes" mm){cQ:ee}(zG:NI K "BadMask" cQ){gb:ee}(xj:NI K "BadTable" gb)(gi:excIn K cQ [.type "ValueError",.type "Exception",.type "BaseException",.type "object"] "ValueError.__new__"=true)(dR:excIn K gb [.type "ValueError",.type "Exception",.type "BaseException",.type "object"] "ValueError.__new__"=true){iy:Tok}(rM:nsIn K Ia "MOST_INPUTS"=aT (aT (.int 6 iy))){j5:Tok}(uY:nsIn K Ia "MOST_OUTS"=aT (aT (.int 6 j5))){ix:Tok}(rL:nsIn K Ia "MOST_STORES"=aT (aT (.int 120 ix)))(Gh:NN K "all")(Ed:NN K "bool")(zO:NN K "divmod")(tT:NN K "enumerate")(Gg:NN K "int")(rQ:NN K "isinstance")(Gf:NN K "len")(Ec:NN K "list")(Ge:NN K "min")(BX:NN K "range")(zN:NN K "sorted")(Gd:NN K "sum")(BW:NN K "tuple")(Gb:NN K "zip")(hdc:codeHdIn K gG PT=true):∃fd:kv,(∀(s:f') (v:hG),BindsTo s fd ⟨[v],[]⟩ [("_law_script",v)])/\(∃c,CodeHd h c PT)/\∀base:zx,K.In base->base.Ns Ia mg->LM.LamM mg base->FnOk l.prog w K mg base CX0 14 fa fd ["_law_script"] (qy lpos PT K):=by
 have e:=hfa.symm.trans (IF X G G5);cases e;obtain⟨_,gc⟩:=wI.ok (ps:=["thing"]) (by walk_at "b");obtain⟨_,gI⟩:=yM.ok (ps:=["thing","width"]) (by walk_at "b");obtain⟨_,o4⟩:=Fy.ok (ps:=["number"]) (by walk_at "b");obtain⟨_,jy⟩:=yN.ok (ps:=["mask"]) (by walk_at "b");obtain⟨_,gH⟩:=yK.ok (ps:=["places"]) (by walk_at "b");obtain⟨_,jP⟩:=wG.ok (ps:=["whole","width","count"]) (by walk_at "b");obtain⟨_,lC⟩:=yL.ok (ps:=["thing","stores","inputs"]) (by walk_at "b");obtain⟨_,fV⟩:=qY.ok (ps:=["inputs","nexts","outs"]) (by walk_at "b");obtain⟨_,ng⟩:=AG.ok (ps:=["pair","state","row"]) (by walk_at "b");obtain⟨_,fH⟩:=su.ok (ps:=["pairs","state","row"]) (by walk_at "b");obtain⟨_,b7⟩:=kU.ok (ps:=["self","inputs","nexts","outs"]) (by walk_at "b");obtain⟨_,ax⟩:=mU.ok (ps:=["self"]) (by walk_at "b");obtain⟨_,bC⟩:=me.ok (ps:=["self"]) (by walk_at "b");obtain⟨_,aP⟩:=jq.ok (ps:=["self","state"]) (by walk_at "b");obtain⟨_,bJ⟩:=pQ.ok (ps:=["self","state","row"]) (by walk_at "b");obtain⟨_,cS⟩:=mT.ok (ps:=["self","rows","state"]) (by walk_at "b");have d7:=DL (st:=dw) qZ pL rH kK;have b_Machine_run:=d7.binds (ps:=["self","rows","state"]) (ds:=[]) λ_ _ _ _ _ _ _ us hl=>match us,hl with | [_,_,_],_=>⟨_,rfl,rfl⟩
 have d8:=d7.binds (ps:=["self","rows","state"]) (ds:=[.int 0 jX]) λ_ _ _ _ _ _ _ us hl=>match us,(show us.length=2 by simpa using hl) with | [_,_],_=>⟨_,rfl,rfl⟩
 obtain⟨_,b0⟩:=mV.ok (ps:=["self","which","turns"]) (by walk_at "b");obtain⟨_,cV⟩:=pR.ok (ps:=["self","mask"]) (by walk_at "b");obtain⟨_,cR⟩:=mS.ok (ps:=["self","rows"]) (by walk_at "b");obtain⟨_,cH⟩:=ox.ok (ps:=["self","mask"]) (by walk_at "b");obtain⟨_,gJ⟩:=uH.ok (ps:=["self","place","row"]) (by walk_at "b");obtain⟨_,du⟩:=oy.ok (ps:=["self","bit"]) (by walk_at "b");obtain⟨_,qr⟩:=Fz.ok (ps:=["rows"]) (by walk_at "b");obtain⟨_,ir⟩:=yI.ok (ps:=["rows","wish"]) (by walk_at "b");obtain⟨_,rO⟩:=Dj.ok (ps:=["machine","turns"]) (by walk_at "b");obtain⟨_,lj⟩:=yJ.ok (ps:=["machine","places","turns"]) (by walk_at "b");obtain⟨_,gS⟩:=sv.ok (ps:=["machine"]) (by walk_at "b");obtain⟨_,eV⟩:=wH.ok (ps:=["mask","others"]) (by walk_at "b");obtain⟨_,dq⟩:=ot.ok (ps:=["pair","states","seen"]) (by walk_at "b");obtain⟨_,mq⟩:=Dx.ok (ps:=["machine"]) (by walk_at "b");obtain⟨_,dP⟩:=uE.ok (ps:=["one","other","pair","row"]) (by walk_at "b");obtain⟨_,fi⟩:=pM.ok (ps:=["one","other"]) (by walk_at "b");obtain⟨_,d6⟩:=ou.ok (ps:=["one","other"]) (by walk_at "b");obtain⟨_,gh⟩:=wJ.ok (ps:=["one","other"]) (by walk_at "b");obtain⟨_,bz⟩:=uG.ok (ps:=["_law_script","_law_k"]) (by walk_at "b");obtain⟨_,aW⟩:=wK.ok (ps:=["_law_cell_here","_law_k"]) (by walk_at "b");obtain⟨_,dr⟩:=sD.ok (ps:=["_law_cell_here","_law_start","_law_many","_law_width","_law_digits"]) (by walk_at "b");obtain⟨_,fj⟩:=pN.ok (ps:=["_law_masks_here","_law_cell_here","_law_start","_law_way"]) (by walk_at "b");obtain⟨_,fq⟩:=pP.ok (ps:=["_law_script","_law_start","_law_most"]) (by walk_at "b");have fW:=y2 (st:=bE) kT rG kJ;have iN:=fW.binds (ps:=["_law_tables","_law_cell_here"]) λ_ _ _ _ _ _ us hl=>match us,hl with | [_,_],_=>rfl
 obtain⟨_,gW⟩:=sG.ok (ps:=["_law_tables","_law_cell_here"]) (by walk_at "b");obtain⟨_,fm⟩:=pO.ok (ps:=["_law_mask","_law_at","_law_many","_law_way"]) (by walk_at "b");obtain⟨_,eW⟩:=uF.ok (ps:=["_law_tables"]) (by walk_at "b");obtain⟨_,gU⟩:=sy.ok (ps:=["_law_tables","_law_cell_here"]) (by walk_at "b");obtain⟨_,gT⟩:=sx.ok (ps:=["_law_tables","_law_cell_here"]) (by walk_at "b");have Be:=y2 (st:=uj) GW G3 GN;have b_law:=Be.binds (ps:=["_law_script"]) λ_ _ _ _ _ _ us hl=>match us,hl with | [_],_=>rfl
 have T:Tx K mg ⟨dy,_,fE,_,oJ,_,gF,_,gD,_,eK,_,gE,_,cK,_,iH,_,dc,_,aN,_,bb,_,aU,_,aH,_,bG,_,a9,_,bH,_,_,bc,_,bI,_,a8,_,bj,_,cL,_,bo,_,oK,_,gz,_,kr,_,gC,_,de,_,eL,_,bU,_,ku,_,dM,_,cj,_,bW,_,eM,_,dO,_,eN,_,di,_,ck,_,cq,_,a7,_,dj,_,cn,_,dN,_,dh,_,df,_,fa,_,ao,aV,mm,cQ,gb,_,_,_⟩:=⟨gc,IF X G xg,gI,IF X G zD,o4,IF X G F2,jy,IF X G zE,gH,IF X G zB,jP,IF X G xa,lC,IF X G zC,fV,IF X G rJ,ng,IF X G Bc,fH,IF X G tK,b7,ax,bC,aP,bJ,cS,d7,d8,⟨_,rfl⟩,b0,cV,cR,cH,gJ,du,qr,IF X G F3,ir,IF X G zz,rO,IF X G DT,lj,IF X G zA,gS,IF X G tL,eV,IF X G xc,dq,IF X G oY,mq,IF X G DU,dP,IF X G uV,fi,IF X G p9,d6,IF X G oZ,gh,IF X G xh,bz,IF X G uX,aW,IF X G xi,dr,IF X G tO,fj,IF X G qa,fq,IF X G qc,fW,kJ,iN,IF X G rK,gW,IF X G tP,fm,IF X G qb,eW,IF X G uW,gU,IF X G tN,gT,IF X G tM,Be,IF X G zF,⟨wt,wo,wm,wk⟩,⟨wW,wV,wU,wR⟩,⟨l9,lW,ax.1.2⟩,⟨kR,kQ,bC.1.2⟩,⟨iZ,iY,aP.1.2⟩,⟨og,n9,bJ.1.2⟩,⟨l8,lV,cS.1.2⟩,⟨pK,pJ,kK⟩,⟨md,l6,b0.1.2⟩,⟨oh,oa,cV.1.2⟩,mK,nZ,pI,IF X G DV,⟨Ar,Aq,Ap,Ao⟩,⟨AZ,AY,AX,AW⟩,⟨mQ,mO,cH.1.2⟩,⟨so,sk,gJ.1.2⟩,⟨mR,mP,du.1.2⟩,pH,kl,kO,IF X G zG,gi,IF X G xj,dR,IF X G rM,IF X G uY,IF X G rL,IZ X G Gh,IZ X G Ed,IZ X G zO,IZ X G tT,IZ X G Gg,IZ X G rQ,IZ X G Gf,IZ X G Ec,IZ X G Ge,IZ X G BX,IZ X G zN,IZ X G Gd,IZ X G BW,IZ X G Gb⟩;exact⟨_,λs v=> .of_eq rfl,⟨_,codeHd_of_K X hdc⟩,λbase kb _ hM=>Fp T _ kb (LM.LamB.mk2 kb kT rfl hdc hM)⟩
open PySem.W in
theorem walk {l:MG} {q:px} {loose:C'} {XP:G'->zx->Prop} {YP:wq->zx->Prop} {d:DefRec} {K:Params->Frag} {PT:ee} (hn:l.most=aT 63) (hdf:d.params.defaults=[])
  (hY:∀(w:wq) (h:zx),YP w h->(K w.params).In h) (hT:∀(w:wq) (h:zx),YP w h->h.get? PT=aT (tabObj #[])) (hnt:∀w:wq,noTabs (K w.params)=true)
  (F:∀(w:wq) (mg:G') (fa:ee) (h:zx),(K w.params).In h->h.Ns Ia mg->mg d.name=aT (.ref fa)->
   ∃fd:kv,(∀(s:f') (u:hG),BindsTo s fd ⟨[u],[]⟩ [("_law_script",u)])/\(∃c,CodeHd h c PT)/\∀base:zx,(K w.params).In base->base.Ns Ia mg->LM.LamM mg base->FnOk l.prog w (K w.params) mg base CX0 14 fa fd ["_law_script"] (qy lpos PT (K w.params))):
  WalkO q loose XP YP l.row.toRowW d [] (λf vs=>N7 f vs):=
 LM.walk_ofT (n:=63) (k:=14) (x:="_law_script") (CX:=λ_=>CX0) (sp:=λw=>qy lpos PT (K w.params)) hn @C hdf ⟨rfl,@C,@C⟩ hY hT hnt F (λ_ _ a ns hl hS hT=>⟨a,ns,rfl,hS,hl,.inl hT,λ_=>rfl⟩) λ_ _ _ _ _ z=>z
end My
structure PySem.W.Fast:Prop where(tw1000435493205810434 tw10025889463112211993 tw10053582756779203430 tw10054398888720160414 tw10115161895417725284 tw10115404525243278119 tw10116184835045169464 tw10258017174692830397 tw10271973942028505101 tw10308739350825933968 tw10316518129729300977 tw10376431800957477555 tw1039043163853940422 tw10489114856691893344 tw10685429906876530545 tw10686609170473303003 tw10687011916387087413 tw10778989596980294921 tw10831268288276674911 tw10853880473376411160 tw10950066346891733265 tw10958982727995351520 tw10996290359224753726 tw11019667224652023524 tw11063808568402034111 tw11189663427773369975 tw11237011656053541473 tw11298574957789460753 tw11357332420876943607 tw11411303801372638617 tw11505640066506138627 tw11543620880619734299 tw11572629236848053548 tw1164687328067379144 tw11661914402189126190 tw11668757490745309898 tw11690908329033369866 tw11711291000843120091 tw1188151497490806702 tw12073102137567641918 tw12079949617353433070 tw12139158401768605157 tw12260103298524688186 tw12324700079033147905 tw12330601273127453361 tw12357341138462613594 tw12409019615342940918 tw12436889118059623706 tw12460446456993742771 tw12530995833701814738 tw1254851859336475965 tw1256821483578021758 tw12579826926994530646 tw12735834509147192964 tw12803451864690062024 tw12912922777875965734 tw1308428719077336854 tw13167443508967280723 tw13211013160621088864 tw13443816574976413531 tw13480749738470550709 tw13507353150509779164 tw13518117059657013276 tw13564482699220954522 tw13675166520054265147 tw13726601222874278033 tw13760438909231902294 tw13810548275665868042 tw13860255904276027635 tw14062306866926939219 tw14064288470136314811 tw14082014456613482784 tw14138732212921953483 tw14239262967887125754 tw14254046491835467177 tw14321954693206832968 tw14503537266667568640 tw14536418879634627903 tw14552922248375967365 tw14575333098165598061 tw14682310605238874524 tw14911541129096925562 tw14918367860493196824 tw15016428354931429974 tw150377873890662812 tw15043357883408506376 tw15127479167490532673 tw15129996478270830984 tw15130095918577620154 tw15140352633555178573 tw15190062470196327534 tw15207574556661492489 tw15209352888523128361 tw15292211659436884671 tw15343230098341958096 tw15373574115137506210 tw15407501876423582562 tw1543180244428022281 tw15452839255584338121 tw15499686501872591801 tw15592230052371684221 tw15609680778950755356 tw15635468304588915877 tw15714670224963697825 tw15926712604992906173 tw15974203220474064314 tw16121240919966025303 tw162563609157501463 tw16311932400921070478 tw16347233285486048398 tw16349640722729910118 tw16509616854308454079 tw16525416813678194845 tw16673674289515145212 tw16702518344945229712 tw16728117198663687238 tw16812934427923448891 tw16860515016870482743 tw16862952303646618822 tw1693783108769746261 tw16960517197040328568 tw16981095474148623932 tw17080024588569852015 tw1724901377351515291 tw17353229703058611039 tw17403518541946104793 tw1745869494247313499 tw17513683034022854263 tw17535897403091108084 tw17646742614433394408 tw17650882002194717071 tw1791516136310373381 tw1808145679661024181 tw1824024424309656459 tw18269973200093705082 tw18291157284481208942 tw18332898916349528476 tw18363115366357540566 tw2009693152264463772 tw2094280897597021553 tw21467383426769737 tw217110693407489079 tw2183759932984294830 tw2210218729372754418 tw2273708642166030341 tw2307797118421068246 tw2342069173990782237 tw241942362470463181 tw252926579675869211 tw2663300873002993686 tw2833977123321725397 tw2840702381260041214 tw2859619900339237243 tw285980707564501081 tw2931079111500705816 tw2987344731993940256 tw3024941033386050511 tw3124808827047043232 tw314644145963997190 tw3152131392324381521 tw3179715087578455208 tw3240342139999762413 tw3256823253141571718 tw3266417221504169005 tw3411057211063006272 tw3468204655345352929 tw3497504090100557881 tw3544864842611563234 tw3669313043437458951 tw3669595347587998120 tw3675041428005028055 tw3688382606835930774 tw3702307642562511185 tw371429744875302857 tw3791962598535289421 tw3922086801805385209 tw395266802159691659 tw3995512638084842562 tw4018112787547200665 tw4057433997083289347 tw4140825013745307692 tw4284096916613364364 tw4495722222550623797 tw4521278502402944903 tw4572248682873003058 tw4742385081367974960 tw4813838627257173977 tw4882626906245246335 tw4941949667551760322 tw4981727541041624324 tw5011652358231811007 tw5018643996851991414 tw5035969176013835052 tw5119328253332202551 tw5148623267693826173 tw5165635353359454038 tw5178468112564053048 tw5207777795556889451 tw5265489731797617453 tw5275456470050077689 tw5755365424566449629 tw5776303068823102264 tw5801624983127390805 tw5949256085499734131 tw6039050985099330450 tw6071634273422692305 tw6112395373911277287 tw619740524720068381 tw6220491701847562108 tw6243668162702706752 tw625612164031178973 tw6324901348458384961 tw6441414809802448158 tw6464124582709135740 tw6486028129617505436 tw6531350549066229769 tw6610680870540961238 tw6627496652425194747 tw6686397035117866414 tw6771960421507829142 tw6833287442015802398 tw7004324701311887242 tw7011359697784562449 tw7078345996995107082 tw7256035239530356645 tw728641810031607766 tw7316890292945857480 tw7331396434106609624 tw7389499241045765709 tw7415767560474516887 tw7432562035231417695 tw747756706276421277 tw7519834450020902256 tw7739721403815199997 tw7746573474452579909 tw7787850911803404716 tw7789788488900129408 tw7802001167109817073 tw7912094630691626926 tw792917917671676801 tw7969104137319748272 tw8002239271571608975 tw8014371194223742449 tw8184684058234010204 tw8196597316603105876 tw8231166057616263068 tw8341118441985534249 tw8369091456351962191 tw8375336112767075130 tw8413337480176067884 tw849791867345381638 tw8557314999227222664 tw8610645787702496351 tw8650648271198353595 tw8911683825774763904 tw8945908675064830273 tw8960362659321143432 tw8981604905296819416 tw9000588252256701060 tw9004167571479941033 tw9055956920211895362 tw9094604796164658077 tw9102870287393930135 tw9164560258071443350 tw9356473993495143105 tw9404185987660498387 tw965453797842020380 tw9687037392338310486 tw973027187060452744 tw9745563584977861295 tw9937754651423275001 tw9956304025794410736 tw9965749243361951356 tw9977700380455043907 tw9993969343606040376:True)
open PySem PySem.W PyProof.Rows
set_option maxRecDepth 100000 in
set_option maxHeartbeats 0 in
theorem PySem.Challenge.cw_sumwires_k62_whole_alike_ones_have_one_l_holds : PySem.Challenge.rw_sumwires_k62_whole_alike_ones_have_one_l.Holds := by
 w_on;o_law;k_head;(case hw=>w_witness2)
 k_fill
 refine My.walk (l:=PySem.Challenge.rw_sumwires_k62_whole_alike_ones_have_one_l) rfl rfl (λw h Y=>PySem.W.km_in_of Y) (λw h Y=>PySem.W.km_tabs_of Y _ (fy.mpr rfl)) ?nt ?F
 case nt=>exactλw=>by kernel_rfl
 case F=>
  intro w mg fa h KX G hmg;refine' My.all_mk KX G hmg _ _ _ _ _ _ _ _ _ _ _ _ _ _ _ _ _ _ _ _ _ _ _ _ _ _ _ _ _ _ _ _ _ _ _ _ _ _ _ _ _ _ _ _ _ _ _ _ _ _ _ _ _ _ _ _ _ _ _ _ _ _ _ _ _ _ _ _ _ _ _ _ _ _ _ _ _ _ _ _ _ _ _ _ _ _ _ _ _ _ _ _ _ _ _ _ _ _ _ _ _ _ _ _ _ _ _ _ _ _ _ _ _ _ _ _ _ _ _ _ _ _ _ _ _ _ _ _ _ _ _ _ _ _ _ _ _ _ _ _ _ _ _ _ _ _ _ _ _ _ ?gi ?dR _ _ _ _ _ _ _ _ _ _ _ _ _ _ _ _ _ ?hdc
  any_goals ((with_reducible show _=_);k_is)
  any_goals (refine' My.FR.mk ?u ?v ?w;(case u=>k_is);(case v=>k_is);(case w=>k_is))
  (case hdc=>kernel_rfl)
  (case gi=>k_exc)
  (case dR=>k_exc)
