import PyProof.Rows.All
import Wide.FinOn
import Lean
import KE.KDictOf
import KE.KFromBytes
import KE.KIsAll
import KE.KItem
import KE.KItemsList
import KE.KRevIter
import PySem.Challenge.RW_sumwires_k16_whole_any_text_read
section
variable {α β γ δ ε ζ η θ ι : Sort _}{G:Prop}
theorem exx2{P:α→β→Prop}(h:∃a b,P a b)(k:∀a b,P a b→G):G:=h.elim fun a h=>Exists.elim h (k a)
theorem eyy2{P:α→β→Prop}(a:α)(b:β)(h:P a b):∃a b,P a b:=⟨a,b,h⟩
theorem exx3{P:α→β→γ→Prop}(h:∃a b c,P a b c)(k:∀a b c,P a b c→G):G:=h.elim fun a h=>exx2 h (k a)
theorem eyy3{P:α→β→γ→Prop}(a:α)(b:β)(c:γ)(h:P a b c):∃a b c,P a b c:=⟨a,b,c,h⟩
theorem exx4{P:α→β→γ→δ→Prop}(h:∃a b c d,P a b c d)(k:∀a b c d,P a b c d→G):G:=h.elim fun a h=>exx3 h (k a)
theorem eyy4{P:α→β→γ→δ→Prop}(a:α)(b:β)(c:γ)(d:δ)(h:P a b c d):∃a b c d,P a b c d:=⟨a,b,c,d,h⟩
theorem exx5{P:α→β→γ→δ→ε→Prop}(h:∃a b c d e,P a b c d e)(k:∀a b c d e,P a b c d e→G):G:=h.elim fun a h=>exx4 h (k a)
theorem eyy5{P:α→β→γ→δ→ε→Prop}(a:α)(b:β)(c:γ)(d:δ)(e:ε)(h:P a b c d e):∃a b c d e,P a b c d e:=⟨a,b,c,d,e,h⟩
theorem exx6{P:α→β→γ→δ→ε→ζ→Prop}(h:∃a b c d e f,P a b c d e f)(k:∀a b c d e f,P a b c d e f→G):G:=h.elim fun a h=>exx5 h (k a)
theorem eyy6{P:α→β→γ→δ→ε→ζ→Prop}(a:α)(b:β)(c:γ)(d:δ)(e:ε)(f:ζ)(h:P a b c d e f):∃a b c d e f,P a b c d e f:=⟨a,b,c,d,e,f,h⟩
theorem exx7{P:α→β→γ→δ→ε→ζ→η→Prop}(h:∃a b c d e f g,P a b c d e f g)(k:∀a b c d e f g,P a b c d e f g→G):G:=h.elim fun a h=>exx6 h (k a)
theorem eyy7{P:α→β→γ→δ→ε→ζ→η→Prop}(a:α)(b:β)(c:γ)(d:δ)(e:ε)(f:ζ)(g:η)(h:P a b c d e f g):∃a b c d e f g,P a b c d e f g:=⟨a,b,c,d,e,f,g,h⟩
theorem exx8{P:α→β→γ→δ→ε→ζ→η→θ→Prop}(h:∃a b c d e f g i,P a b c d e f g i)(k:∀a b c d e f g i,P a b c d e f g i→G):G:=h.elim fun a h=>exx7 h (k a)
theorem eyy8{P:α→β→γ→δ→ε→ζ→η→θ→Prop}(a:α)(b:β)(c:γ)(d:δ)(e:ε)(f:ζ)(g:η)(i:θ)(h:P a b c d e f g i):∃a b c d e f g i,P a b c d e f g i:=⟨a,b,c,d,e,f,g,i,h⟩
theorem exx9{P:α→β→γ→δ→ε→ζ→η→θ→ι→Prop}(h:∃a b c d e f g i j,P a b c d e f g i j)(k:∀a b c d e f g i j,P a b c d e f g i j→G):G:=h.elim fun a h=>exx8 h (k a)
theorem eyy9{P:α→β→γ→δ→ε→ζ→η→θ→ι→Prop}(a:α)(b:β)(c:γ)(d:δ)(e:ε)(f:ζ)(g:η)(i:θ)(j:ι)(h:P a b c d e f g i j):∃a b c d e f g i j,P a b c d e f g i j:=⟨a,b,c,d,e,f,g,i,j,h⟩
end
section
variable {G A B C D E F H I J K L M:Prop}
theorem axx3(h:A∧B∧C)(k:A→B→C→G):G:=k h.1 h.2.1 h.2.2
theorem ayy3(a:A)(b:B)(c:C):A∧B∧C:=⟨a,b,c⟩
theorem axx4(h:A∧B∧C∧D)(k:A→B→C→D→G):G:=axx3 h.2 (k h.1)
theorem ayy4(a:A)(b:B)(c:C)(d:D):A∧B∧C∧D:=⟨a,b,c,d⟩
theorem axx5(h:A∧B∧C∧D∧E)(k:A→B→C→D→E→G):G:=axx4 h.2 (k h.1)
theorem ayy5(a:A)(b:B)(c:C)(d:D)(e:E):A∧B∧C∧D∧E:=⟨a,b,c,d,e⟩
theorem axx6(h:A∧B∧C∧D∧E∧F)(k:A→B→C→D→E→F→G):G:=axx5 h.2 (k h.1)
theorem ayy6(a:A)(b:B)(c:C)(d:D)(e:E)(f:F):A∧B∧C∧D∧E∧F:=⟨a,b,c,d,e,f⟩
theorem axx7(h:A∧B∧C∧D∧E∧F∧H)(k:A→B→C→D→E→F→H→G):G:=axx6 h.2 (k h.1)
theorem ayy7(a:A)(b:B)(c:C)(d:D)(e:E)(f:F)(g:H):A∧B∧C∧D∧E∧F∧H:=⟨a,b,c,d,e,f,g⟩
theorem axx8(h:A∧B∧C∧D∧E∧F∧H∧I)(k:A→B→C→D→E→F→H→I→G):G:=axx7 h.2 (k h.1)
theorem ayy8(a:A)(b:B)(c:C)(d:D)(e:E)(f:F)(g:H)(i:I):A∧B∧C∧D∧E∧F∧H∧I:=⟨a,b,c,d,e,f,g,i⟩
theorem axx9(h:A∧B∧C∧D∧E∧F∧H∧I∧J)(k:A→B→C→D→E→F→H→I→J→G):G:=axx8 h.2 (k h.1)
theorem ayy9(a:A)(b:B)(c:C)(d:D)(e:E)(f:F)(g:H)(i:I)(j:J):A∧B∧C∧D∧E∧F∧H∧I∧J:=⟨a,b,c,d,e,f,g,i,j⟩
theorem axx10(h:A∧B∧C∧D∧E∧F∧H∧I∧J∧K)(k:A→B→C→D→E→F→H→I→J→K→G):G:=axx9 h.2 (k h.1)
theorem ayy10(a:A)(b:B)(c:C)(d:D)(e:E)(f:F)(g:H)(i:I)(j:J)(l:K):A∧B∧C∧D∧E∧F∧H∧I∧J∧K:=⟨a,b,c,d,e,f,g,i,j,l⟩
theorem axx11(h:A∧B∧C∧D∧E∧F∧H∧I∧J∧K∧L)(k:A→B→C→D→E→F→H→I→J→K→L→G):G:=axx10 h.2 (k h.1)
theorem ayy11(a:A)(b:B)(c:C)(d:D)(e:E)(f:F)(g:H)(i:I)(j:J)(l:K)(m:L):A∧B∧C∧D∧E∧F∧H∧I∧J∧K∧L:=⟨a,b,c,d,e,f,g,i,j,l,m⟩
theorem axx12(h:A∧B∧C∧D∧E∧F∧H∧I∧J∧K∧L∧M)(k:A→B→C→D→E→F→H→I→J→K→L→M→G):G:=axx11 h.2 (k h.1)
theorem ayy12(a:A)(b:B)(c:C)(d:D)(e:E)(f:F)(g:H)(i:I)(j:J)(l:K)(m:L)(n:M):A∧B∧C∧D∧E∧F∧H∧I∧J∧K∧L∧M:=⟨a,b,c,d,e,f,g,i,j,l,m,n⟩
end
open Lean in
local macro_rules
  | `(tactic| obtain ⟨$ps,*⟩ := $t:term) => do
    let ps := ps.getElems
    let n := ps.size
    if n < 3 then Macro.throwUnsupported
    -- what a pattern is bound to, and what is done behind
    let one (i : Nat) (p : TSyntax `Lean.Parser.Tactic.rcasesPatLo) : MacroM (TSyntax `term × Option (TSyntax `tactic)) := do
      let z := mkIdent (Name.mkSimple s!"zz{i}")
      match p with
      | `(Lean.Parser.Tactic.rcasesPatLo| $x:ident) => if x.getId == `rfl then return (z, some (← `(tactic| subst $z:term))) else return (x, none)
      | `(Lean.Parser.Tactic.rcasesPatLo| _) => return (← `(_), none)
      | `(Lean.Parser.Tactic.rcasesPatLo| $q:rcasesPatMed) => return (z, some (← `(tactic| obtain $q:rcasesPatMed := $z:term)))
      | _ => Macro.throwUnsupported
    let mut alts : Array (TSyntax ``Lean.Parser.Tactic.tacticSeq) := #[]
    let clr : TSyntax `tactic ← if t.raw.isIdent then `(tactic| try clear $(⟨t.raw⟩):ident) else `(tactic| skip)
    let w := mkIdent `ww
    for ex in [true, false] do
      for k in [0:n] do
        let i := if ex then n - 1 - k else n - k
        if i < 1 || i > (if ex then 9 else 12) || (!ex && i < 3) then continue
        let f := mkIdent (if ex then if i == 1 then `Exists.elim else Name.mkSimple s!"exx{i}" else Name.mkSimple s!"axx{i}")
        let m := if ex then i else if i == n then i else i - 1
        let mut bs : Array (TSyntax `term) := #[]
        let mut post : Array (TSyntax `tactic) := #[]
        for j in [0:m] do
          let (b, q) ← one j ps[j]!
          bs := bs.push b
          if let some q := q then post := post.push q
        if m < n then
          if m + 1 == n then
            let (b, q) ← one m ps[m]!
            bs := bs.push b
            if let some q := q then post := post.push q
          else
            bs := bs.push w
            let rest := ps.extract m n
            post := post.push (← `(tactic| obtain ⟨$rest,*⟩ := $w:term))
        alts := alts.push (← `(Lean.Parser.Tactic.tacticSeq| refine $f $t ?_; $clr:tactic; intro $bs*; $post;*))
    alts := alts.push (← `(Lean.Parser.Tactic.tacticSeq| rcases $t:term with ⟨$ps,*⟩))
    `(tactic| first $[| $alts]*)
open Lean in
local macro_rules
  | `(tactic| rintro $rs:rintroPat*) => do
    let mut out : Array (TSyntax `tactic) := #[]
    let mut any := false
    for r in rs do
      match r with
      | `(rintroPat| $x:ident) => if x.getId == `rfl then out := out.push (← `(tactic| (intro zz; subst zz))) else out := out.push (← `(tactic| intro $x:ident))
      | `(rintroPat| _) => out := out.push (← `(tactic| intro _))
      | `(rintroPat| ⟨$ps,*⟩) =>
        if ps.getElems.size ≥ 3 then any := true
        out := out.push (← `(tactic| (intro zz; obtain ⟨$ps,*⟩ := zz)))
      | _ => Macro.throwUnsupported
    if !any then Macro.throwUnsupported
    `(tactic| ($[$out:tactic];*))
open Lean in
local macro_rules
  | `(tactic| refine ⟨$xs,*⟩) => do
    let xs := xs.getElems
    let n := xs.size
    if n < 4 then Macro.throwUnsupported
    let mut alts : Array (TSyntax ``Lean.Parser.Tactic.tacticSeq) := #[]
    for k in [0:n] do
      let i := n - 1 - k
      if i > 9 then continue
      let ws := xs.extract 0 i
      let rs := xs.extract i n
      let m := n - i
      let cs : List (TSyntax `term) ← if m == 1 then pure [rs[0]!] else if m == 2 || m > 12 then pure [← `(⟨$rs,*⟩)] else pure [← `($(mkIdent (Name.mkSimple s!"ayy{m}")) $rs*), ← `(⟨$rs,*⟩)]
      for c in cs do
        if i == 0 then
          if m > 2 then alts := alts.push (← `(Lean.Parser.Tactic.tacticSeq| refine ($c)))
        else if i == 1 then alts := alts.push (← `(Lean.Parser.Tactic.tacticSeq| refine Exists.intro $(ws[0]!) $c))
        else alts := alts.push (← `(Lean.Parser.Tactic.tacticSeq| refine $(mkIdent (Name.mkSimple s!"eyy{i}")) $ws* $c))
    alts := alts.push (← `(Lean.Parser.Tactic.tacticSeq| refine (⟨$xs,*⟩)))
    `(tactic| first $[| $alts]*)
  | `(tactic| exact ⟨$xs,*⟩) => do
    let xs := xs.getElems
    if xs.size < 4 then Macro.throwUnsupported
    `(tactic| (refine ⟨$xs,*⟩))
open Option renaming some→ag,none→gs,map_eq_some_iff→Nn,isSome_map→QG,map_some→QQ,getD_some→QW,getD_none→RO,map→RY
open List renaming length_map→ak,getElem?_eq_some_iff→b',getElem?_eq_getElem→c',map_append→hh,mem_of_getElem?→hA,getD_eq_getElem?_getD→hB,mem_singleton→hC,length_append→hE,getElem?_map→hH,mem_append→lx,take_length→mu,mem_map→mw,Nodup→oe,mem_cons_self→ox,mem_cons_of_mem→px,mem_append_left→pT,mem_append_right→p',map_map→qa,length_take→qo,size_toArray→sv,getElem?_append_right→u',mem_cons→v9,getElem?_append_left→vr,length_cons→y1,replicate→z1,append_nil→z5,length_singleton→M0,filter_cons→M5,filter_append→M6,mem_iff_getElem→M9,map_cons→MU,length_drop→MX,getElem?_eq_none→M',range→Na,mem_filter→Nj,all_eq_true→Nr,length_filter_le→Nu,getElem_mem→Ny,length→Nz,length_pos_iff→NL,nodup_append→NU,flatten_cons→NW,replicate_succ→Oa,not_mem_nil→Oc,mem_range→Oh,lookup→Ot,nodup_cons→Ov,drop_length→Ox,any_eq_true→Oy,map_eq_nil_iff→OA,ext_getElem?→OC,take_append_drop→OD,find?_cons→OI,filter_eq_nil_iff→OL,map→OW,getElem?_drop→P1,any_cons→P3,lookup_cons→P4,append_assoc→Pb,length_nil→Pk,cons_append→Pu,map_id→Py,sum_cons→PF,getElem?_set_self→PM,nil_append→PV,mem_range'→PX,length_replicate→PZ,range'→Q4,take_succ→Q5,getElem?_set_ne→Q6,map_drop→Qe,all_cons→Qf,getElem?_range→Qk,filterMap_cons→Ql,map_nil→Qo,all_map→Qp,of_mem_zip→QE,length_set→QF,forIn_cons→QH,getElem_take→QI,any_eq_false→QJ,isEmpty_eq_false_iff→Rh,findIdx?_eq_none_iff→Ri,map_take→Rl,length_eq_zero_iff→RB,getElem?_replicate→RC,getElem?_cons_succ→RD,filter_append_perm→RE,take_of_length_le→RJ,length_pos_of_mem→RK,perm_append_comm→RT,getElem?_toArray→RU,map_set→RX,map_congr_left→S7,length_reverse→S8,foldl→S9,set_cons_succ→Sg,mem_filterMap→Sh,reverse_cons→Sn,length_range→So,mem_toArray→SA,filter_nil→SH,filter_map→SJ,append_inj→SK,any_map→T6
open PySem.W renaming Frag→a',findIn→wq,mroIn→MZ,mg_of→N4,keepIn→Nv,emptyDict→NB,instObj→NM,fnOf→NO,mg_none_of→NQ,callWith_K→O6,specialIn→Oe,hasDictIn→Of,looks_findIn→Oj,codeIn→OG,excIn→OQ,Looks→OR,looks_mroIn→OX,lookIn→P6,InstAt→P7,plainGet→Pn,handedIn→Po,isClsIn→Pz,methodCall_KW→PD,typeIn→PQ,plainGet_of→Q0,looks_clsIn→Q1,tail_of_in→Q8,isFn→Qq,methodObj→Qt,takesIn→QM,takerIn→QN,tailIn→QT,clsIn→R1,cellsFrom_some→Rg,looks_typeIn→RA,findObj_own→RI,method_cls→RQ,check_slot→RS,set_plain→RZ,plainOver→R',cls_value→S0,readsIn→Sd,makesIn→Se,findCls→Sf,OpenLaw→Si,nsIn→SD
open _root_ renaming List→cc,decide_eq_false→fy,decide_eq_true→fZ,if_neg→hQ,absurd→ik,if_pos→kn,Option→ov,decide_eq_true_eq→wh,beq_eq_false_iff_ne→z4,congrArg→K',of_decide_eq_true→M3,Bool→N1,String→Np,beq_self_eq_true→Od,beq_iff_eq→OP,ne_true_of_eq_false→Pl,or_false→P',Array→Qb,if_true→QD,if_false→QY,decide_eq_false_iff_not→Sb
open PySem renaming Addr→eH,wpAny_bind→fI,sizeLine_eq→hJ,Shared→hN,Str→ic,Value→iv,wpAny_pure→ix,sizeLine→jF,boot_len→kf,wpAny→ll,FuncData→lM,starEach→oD,model→ph,Program→ry,Expr→z3,World→zt,Around→zx,Heap→MT,mainGlobals→MV,mem_of_lookup→N9,wpAny_mono→Nk,Value→Nq,wpAny_holding→Nx,wpAny_Call_Name_kw→NC,wpAny_truthy_bool→NF,Scope→NT,wpAny_field→O0,wpAny_pyIter_enum→O1,call_meets→O4,wpAny_standAt→O5,codeAny_mono→Oi,Spec→Oo,wpAny_passesOwn→Oq,Stmt→OE,excClassObj→OJ,codeAny_builtin→OK,wpAny_call→OO,wpAny_getItem_str_slice→OS,wpAny_setField→OT,wpAny_pyIter_list→OU,wpAny_loadPart_at→OV,typeIs_str→P5,codeAny_call_builtin→P9,wpAny_loadPart'→Pg,wpAny_pyIter_tuple→Pw,tupleKind_room_in1→Px,wpAny_newObj_type→PL,plainId_quiet→PP,wpAny_execs_nil→Qh,builtinLookup_eq_fast→Qr,wpAny_of_eq→Qy,wpAny_seqItems→Qz,Str→QL,Addr→Q',plainObj_wpAny_Assign_Attribute→R9,wpAny_execs_cons→Rf,Obj→Rk,wpAny_specialOf→Ru,typeLookup_type→Rv,codeAny_of_tree→Rx,Within→Ry,Shared→Rz,wpAny_loadPart→RN,call→S5,wpAny_comprehension_free→S6,wpAny_callSpecial?_slot→Sa,wpAny_typeOf→Sj,seqIndex_neg→Sk,wpAny_isTrue_Compare1→Su,codeAny_handlers_test→Sw,seqIndex_of→SC,SetTable→SE,wpAny_isSubtype_exc→SM,wpAny_handleBy_cons→SN,call_enumerate_list→SO,wpAny_Name→SU,typeIs_int→SV,wpAny_assign_Name→T1
open PySem.Heap renaming get?_push_of_some→eW,lt_size→hL,get?_push_size→kv,get?_update_other→NG,get?_update_self→NJ,size_push→O3,get?_none_of_le→OY,SameBut→PJ,get?_update_ne→Qm,MadeExcOf→R8,get?_push_at→Sq
open Bool renaming false_ne_true→hV,and_eq_true→wb,eq_iff_iff→Nl,and_false→Ou,or_true→P8,false_and→Pc,false_eq_true→Pe,true_and→Rp,or_eq_false_iff→S2,not_eq_true'→Sr,or_eq_true→SL,or_false→SZ
open Sum renaming inr→n',inl→Qd
open Nat renaming le_refl→qb,lt_of_lt_of_le→uj,ne_of_lt→y2,zero_le→N2,le_trans→NK,lt_irrefl→NS,lt_succ_self→NV,ne_of_gt→P2,le_succ→Pa,le_of_lt→Pj,lt_succ_of_lt→Pp,le_of_ble_eq_true→Q2,mul_le_mul_right→Q9,lt_of_le_of_lt→QB,lt_trans→QR,mod_eq_of_lt→SG,min_eq_left→SR
open PyProof.Rows renaming boot_list→qR,boot_isinstance→L',boot_tuple→M4,callWith_type1→N3,split_pos→NX,boot_dict→NY,boot_str→Pm,callWith_builtin1→Q7,boot_any→QU,boot_all→QV,subscriptTail_builtinR→Sm,Call_→SB,Subscript_→SW
open PySem.F renaming plainAttrs_str→ri,plainAttrs_list→rx,excBase_ValueError→N6,type_str_split→N7,slot_str_split→N8,type_str_join→Nb,slot_str_join→Nc,type_list_extend→Nf,type_list_append→Ng,slot_list_extend→Nh,slot_list_append→Ni
open PySem.Value renaming ref→sb,none→ND,type→OF,str→Pt,isStrOf→Qi,builtin→Qj,int→Rn,bool→S4,isInt→T3,float→T4,bytes→T5
open Option.some renaming inj→ui
open PySem.Str renaming ofString→vl,join→OM,empty→PB
open Ne renaming symm→J5
open False renaming elim→LI
open PySem.Txt renaming split→M7,partition→NH,words→OH,join→OZ,slice→Qg
open Int renaming emod_nonneg→M8,emod_lt_of_pos→MS,toNat_natCast→MW,eq_ofNat_of_zero_le→O7
open PySem.PassesOwn renaming never→MY
open PySem.NameKind renaming free→N5,cell→Oz
open Array renaming getElem?_eq_some_iff→Nw,length_toList→Qa,toList_inj→QO,getElem?_eq_getElem→Re,getElem?_eq_none→RG,toList_append→S3,toList→S'
open PySem.Builtin.Str renaming occurrences→NR,spaceWords→Ph,strSliceIndices→Qx,strKind→Rb,strSub→Rj
open PySem.Obj renaming mapFields→NZ,mapSeq→Pf,data_mapFields→QA,isFreed_of_fields→S1,cls_mapFields→Sy
open Sum.inr renaming inj→O2
open PySem.Builtin.SmallTypes renaming nextOf→O8
open PySem.Builtin.List renaming listExtendWith→O9,listTooLong→On,listSameRef→QK,listItems→QS
open Decidable renaming not_not→Ob
open PySem.WalksT renaming enumerateD→Og,zip2→SX
open Nat.succ renaming inj→Ol
open PySem.Around renaming under_plainId→Om,under→Rq
open True renaming intro→Os
open ForInStep renaming yield→OB
open PySem.StrLaws renaming found_one→Pd,join_split→RP
open List.Perm renaming trans→Pq,append_left→Ra
open PySem.Builtin.BaseException renaming bexcPut→Pr
open PySem.EntryCells renaming newEntry→PN
open List.Pairwise renaming map→PR
open Or renaming inl→PU,inr→Qc
open List.cons renaming inj→PY
open Prod renaming fst→Q3
open List.Nodup renaming length_le_of_subset→Qn
open PySem.Calls renaming spliced_cons→Qu,spliced_nil→QC,Name_function_global→R6,callWith_builtin→RF,evalArgs_plain→RW
open PySem.Code renaming quiet_builtin→Qv,isFrame→RH
open PySem.SeqRoads2.EqGives renaming str→Qw
open PySem.Builtin.Dict renaming updateFrom→QP
open Classical renaming propDecidable→QX,epsilon→RM
open PySem.Walks renaming list→QZ
open PySem.W.Looks renaming here→R3
open PySem.Heap.SameBut renaming update→R5
open PySem.Paired renaming length→R7,snoc→SY
open PySem.Builtin.Int renaming intBits→Rc
open PySem.SeqAt.EqAt renaming str_int→Rr,int_str→Rt,same→Ss,of_refs→T7
open PySem.Heap.DictOf renaming new→RL
open PySem.Heap.Ns1 renaming of_empty→RV
open PyProof.Rows.IsTup renaming new→Sl
open Prod.mk renaming inj→SQ
open PySem.W.WShape renaming has→T2
abbrev A3:=cc (Nat×Nat)
abbrev A6:=cc QL
abbrev A':=cc Nat
abbrev B2:=Nq->Rz->Prop
abbrev B':=cc (Q'×PySem.Obj)
abbrev CB:=cc Nq
abbrev CD:=QL->ov Nq
abbrev CL:=Qb Nq
abbrev CM:=Qb (ov Nq)
abbrev CN:=Unit->Rz->Prop
abbrev D':=cc Q'
abbrev Dk:=cc Int
abbrev Dn:=ov Q'
abbrev E':=QL->N1
abbrev F':=PySem.Result->Rz->Prop
abbrev G':=cc (QL×Q')
abbrev J1:=cc (QL×Nq)
abbrev J2:=ov Nq
set_option Elab.async false
set_option hygiene false in
local macro_rules
|`(@A)=>`((by omega))
|`(@E)=>`((by walk_at "o"))
|`(@C)=>`((by decide))
|`(@G)=>`((by decide +kernel))
|`(@F)=>`((by simp))
|`(@D)=>`((by rfl))
set_option hygiene false in
local macro_rules
|`(!j $a $b $c)=>`((aS $a $b $c (λ_ _=>rfl)))
local macro_rules | `(tactic| lia) => `(tactic| walk_at "l2")
set_option linter.all false
set_option maxRecDepth 100000
namespace L2
open PySem PySem.Spec PyProof.Rows
noncomputable abbrev Key:=Sum Int ic
noncomputable def Bd:Key->iv->N1
 | .inl k,v=>T3 k v
 | .inr x,v=>Qi x v
noncomputable def keyH (w:zt):Key->Int
 | .inl k=>hashInt k
 | .inr x=>hashStr w x
theorem cN:∀{k:Key} {v:iv},Bd k v=true->(∃i t,k=Qd i/\v=Rn i t)∨(∃x t,k=n' x/\v=Pt x t)
 | .inl i,v,h=>by
   obtain⟨t,e⟩:=Value.isInt_shape (k:=i) (v:=v) h;exact .inl ⟨i,t,rfl,e⟩
 | .inr x,v,h=>by
   obtain⟨t,e⟩:=Value.isStrOf_shape (x:=x) (v:=v) h;exact .inr ⟨x,t,rfl,e⟩
theorem Er (i:Int) (t:Tok):Bd (.inl i) (.int i t)=true:=by simp[Bd,T3]
theorem Ep (x:ic) (t:Tok):Bd (.inr x) (.str x t)=true:=by simp[Bd,Qi]
theorem Lp (a b:Int):decide ((Qd a:Key)=Qd b)=(a == b):=by
 by_cases e:a=b
 ·subst e;simp
 ·have h:¬(Qd a:Key)=Qd b:=λq=>e (Sum.inl.inj q);rw[fy h];exact(z4.mpr e).symm
theorem Lm (a b:ic):decide ((n' a:Key)=n' b)=decide (a=b):=by
 by_cases e:a=b
 ·subst e;simp
 ·have h:¬(n' a:Key)=n' b:=λq=>e (O2 q);rw[fy h,fy e]
theorem Lo (a:Int) (b:ic):decide ((Qd a:Key)=n' b)=false:=fy (λq=>nomatch q)
theorem Ln (a:ic) (b:Int):decide ((n' a:Key)=Qd b)=false:=fy (λq=>nomatch q)
noncomputable def cZ (prog:ry) (w:zt):PySem.KeyKind prog w Key where
 is:=Bd
 hash:=keyH w
 inj:=λv a b ha hb=>by
  rcases cN ha with ⟨i,t,rfl,rfl⟩ | ⟨x,t,rfl,rfl⟩
  ·rcases cN hb with ⟨j,u,rfl,e⟩ | ⟨y,u,rfl,e⟩
   ·injection e with L _;rw[L]
   ·exact nomatch e
  ·rcases cN hb with ⟨j,u,rfl,e⟩ | ⟨y,u,rfl,e⟩
   ·exact nomatch e
   ·injection e with L _;rw[L]
 byValue:=λk v h=>by
  rcases cN h with ⟨i,t,rfl,rfl⟩ | ⟨x,t,rfl,rfl⟩<;>rfl
 pyHash:=fun ρ h=>by
  rcases cN ρ with ⟨i,t,rfl,rfl⟩ | ⟨x,t,rfl,rfl⟩
  ·exact wpAny_pyHash_int h
  ·exact wpAny_pyHash_str h
 eqBool:=λZ ρ h=>by
  rcases cN Z with ⟨i,t,rfl,rfl⟩ | ⟨x,t,rfl,rfl⟩
  ·rcases cN ρ with ⟨j,u,rfl,rfl⟩ | ⟨y,u,rfl,rfl⟩
   ·rw[Lp] at h;exact wpAny_eqBool_int h
   ·rw[Lo] at h;exact Rt i t y u _ _ _ _ h
  ·rcases cN ρ with ⟨j,u,rfl,rfl⟩ | ⟨y,u,rfl,rfl⟩
   ·rw[Ln] at h;exact Rr x t j u _ _ _ _ h
   ·rw[Lm] at h;exact wpAny_eqBool_str h
 «strs»:=λk x t v h=>by
  rcases cN h with ⟨i,u,rfl,e⟩ | ⟨y,u,rfl,e⟩
  ·exact nomatch e
  ·injection e with L _
   subst L
   cases v<;>rfl
theorem xR (prog:ry) (w:zt) (i:Int) (t:Tok):(cZ prog w).is (.inl i) (.int i t)=true:=Er i t
theorem xQ (prog:ry) (w:zt) (x:ic) (t:Tok):(cZ prog w).is (.inr x) (.str x t)=true:=Ep x t
inductive V where
 | non | bl (b:N1) | int (i:Int) | str (x:ic) | byt (b:Qb UInt8) | flt (b:UInt64) | ref (a:eH) | ty (n:Np)
 deriving DecidableEq
noncomputable def RelV:V->iv->Prop
 | .non,u=>u=ND
 | .bl b,u=>u=S4 b
 | .int i,u=>∃t,u=Rn i t
 | .str x,u=>∃t,u=Pt x t
 | .byt b,u=>∃t,u=T5 b t
 | .flt b,u=>∃t,u=T4 b t
 | .ref a,u=>u=sb a
 | .ty n,u=>u=OF n
noncomputable abbrev Vals:cc V->CB->Prop:=Paired RelV
theorem Vals.length {xs:cc V} {us:CB} (r:Vals xs us):xs.length=us.length:=R7 r
theorem Vals.get:∀{xs:cc V} {us:CB} {i:Nat} {x:V},Vals xs us->xs[i]? =ag x->∃u,us[i]? =ag u/\RelV x u
 | _,_,_,_,.nil,e=>by simp at e
 | _,_,0,_,.cons r _,e=>by simp at e;subst e;exact⟨_,rfl,r⟩
 | _,_,i + 1,x,.cons _ t,e=>by
   obtain⟨u,h1,h2⟩:=Vals.get (i:=i) (x:=x) t (by simpa using e);exact⟨u,by simpa using h1,h2⟩
theorem Vals.set {x:V} {u:iv} (r:RelV x u):∀{xs:cc V} {us:CB} (i:Nat),Vals xs us->Vals (xs.set i x) (us.set i u)
 | _,_,_,.nil=> .nil
 | _,_,0,.cons _ t=> .cons r t
 | _,_,i + 1,.cons q t=> .cons q (Vals.set r i t)
theorem Vals.append:∀{xs ys:cc V} {us ws:CB},Vals xs us->Vals ys ws->Vals (xs++ys) (us++ws)
 | _,_,_,_,.nil,s=>s
 | _,_,_,_,.cons r t,s=> .cons r (Vals.append t s)
theorem Vals.take:∀{xs:cc V} {us:CB} (n:Nat),Vals xs us->Vals (xs.take n) (us.take n)
 | _,_,0,_=> .nil
 | _,_,_ + 1,.nil=> .nil
 | _,_,n + 1,.cons r t=> .cons r (Vals.take n t)
theorem Vals.drop:∀{xs:cc V} {us:CB} (n:Nat),Vals xs us->Vals (xs.drop n) (us.drop n)
 | _,_,0,r=>r
 | _,_,_ + 1,.nil=> .nil
 | _,_,n + 1,.cons _ t=>Vals.drop n t
noncomputable def RelO:ov V->J2->Prop
 | some v,ag u=>RelV v u
 | none,gs=>True
 | _,_=>False
noncomputable def KV {κ:Type}:cc (κ×V)->cc (κ×iv)->Prop:=Paired λ(p:κ×V) (q:κ×iv)=>p.1=q.1/\RelV p.2 q.2
noncomputable def kV:Key->V
 | .inl i=> .int i
 | .inr x=> .str x
inductive HO where
 | lst (xs:cc V)
 | tup (xs:cc V)
 | dK (kvs:cc (Key×V)) | dT (kvs:cc (cc Key×V))
 | set (S:Int->N1) (n:Nat)
 | ins (C dx:eH) (fs:cc (ic×V))
 | own (x:eH)
 | xd (fs:cc (ic×V))
 | met (f x:eH)
 | rng (lo hi:Int)
 | frz (o:Rk) (u:HO)
 | tbl (ps:CL)
 | ext (φ:MT->Prop)
noncomputable abbrev Hp:=eH->ov HO
noncomputable def upd (H:Hp) (a:eH) (o:HO):Hp:=λb=>if b=a then ag o else H b
theorem au {H:Hp} {a:eH} {o:HO}:upd H a o a=ag o:=by unfold upd;rw[kn rfl]
theorem ar {H:Hp} {a b:eH} {o:HO} (h:b≠a):upd H a o b=H b:=by unfold upd;rw[hQ h]
theorem hU {H:Hp} {a b:eH} {o u:HO} (h:H a=ag o) (h':H b=ag u) (d:o≠u):a≠b:=by
 intro e;subst e;rw[h] at h';exact d (ui h')
theorem ao {H:Hp} {a b:eH} {o:HO} (h:H a=ag o) (h':H b=gs):a≠b:=by
 intro e;subst e;rw[h] at h';cases h'
section
variable (P:ry) (w:zt)
noncomputable def eB (H:Hp) (h:MT) (a:eH):HO->Prop
 | .lst xs=>xs.length<=jF/\∃(its:CB) (n:Nat),Vals xs its/\h.get? a=ag {cls:= .type "list",data:= .seq its.toArray n}
 | .tup xs=>xs.length<=jF/\∃its:CB,Vals xs its/\IsTup h a its.toArray
 | .dK L=>L.length<=jF/\(a == sysModules)=false/\∃vs,KV L vs/\h.DictOf (cZ P w) a vs
 | .dT L=>L.length<=jF/\(a == sysModules)=false/\∃xs:cc (cc Key×eH×iv),
   Paired (λ(p:cc Key×V) (q:cc Key×eH×iv)=>p.1=q.1/\H q.2.1=ag (.tup (p.1.map kV))/\RelV p.2 q.2.2) L xs/\
   ∃o es O,h.get? a=ag o/\o.ExactDict/\o.data= .dict es O/\es.toList=xs.map (entryOfKey (tupleKind (cZ P w)))/\(xs.map (·.1)).Nodup
 | .set S n=>h.SetOf (intKind P w) a S n
 | .ins C dx fs=>H dx=ag (.own a)/\fs.length<=1000/\dx≠a/\h.get? a=ag (NM C dx)/\
   ∃mA,h.Ns1 dx mA/\(∀f,RelO (fs.lookup f) (mA f))/\Ry mA (fs.map (·.1))
 | .own _=>∃o,h.get? a=ag o
 | .xd fs=>∃mA,h.Ns1 a mA/\∀f,RelO (fs.lookup f) (mA f)
 | .rng lo hi=>∃t u v,h.get? a=ag {cls:= .type "range",data:= .fields #[.int lo t,.int hi u,.int 1 v]}
 | .frz o u=>h.get? a=ag o/\eB H h a u
 | .tbl ps=>h.get? a=ag {cls:= .none,data:= .fields ps}
 | .met f x=>h.get? a=ag (Qt (.ref f) (.ref x))
 | .ext φ=>φ h/\(∃o,h.get? a=ag o)/\∀h1 h2:MT,φ h1->(∀o,h1.get? a=ag o->h2.get? a=ag o)->φ h2
def HOk (H:Hp) (h:MT):Prop:=∀a o,H a=ag o->eB P w H h a o
end
section
variable {P:ry} {w:zt} {H H':Hp} {h h':MT} {a:eH} {o:HO}
theorem eB.lt (x:eB P w H h a o):a < h.objs.size:=by
 cases o with
 | lst xs=>obtain⟨_,_,_,_,e⟩:=x;exact hL e
 | tup xs=>obtain⟨_,_,_,p⟩:=x;exact p.lt
 | dK L=>obtain⟨_,_,_,_,o,_,_,e,_⟩:=x;exact hL e
 | dT L=>obtain⟨_,_,_,_,o,_,_,e,_⟩:=x;exact hL e
 | set S n=>obtain⟨o,_,_,_,e,_⟩:=x;exact hL e
 | ins C dx fs=>obtain⟨_,_,_,e,_⟩:=x;exact hL e
 | own y=>obtain⟨_,e⟩:=x;exact hL e
 | xd fs=>obtain⟨_,⟨_,_,_,e,_⟩,_⟩:=x;exact hL e
 | rng lo hi=>obtain⟨_,_,_,e⟩:=x;exact hL e
 | frz ob u=>obtain⟨e,_⟩:=x;exact hL e
 | tbl ps=>exact hL (show h.get? a=ag _ from x)
 | met f y=>exact hL (show h.get? a=ag _ from x)
 | ext φ=>obtain⟨_,⟨_,e⟩,_⟩:=x;exact hL e
theorem Paired.mapP {α β:Type} {F G:α->β->Prop}:∀{L:cc α} {l₂:cc β},Paired F L l₂->(∀a b,F a b->G a b)->Paired G L l₂
 | _,_,.nil,_=> .nil
 | _,_,.cons r t,f=> .cons (f _ _ r) (Paired.mapP t f)
theorem eB.stay (x:eB P w H h a o) (k:∀b u,(b=a∨H b=ag (.own a))->h.get? b=ag u->h'.get? b=ag u)
  (ho:∀b,H b=ag (.own a)->H' b=ag (.own a)) (Y:∀b xs,H b=ag (.tup xs)->H' b=ag (.tup xs)):eB P w H' h' a o:=by
 induction o with
 | lst xs=>obtain⟨z,its,n,r,e⟩:=x;exact⟨z,its,n,r,k _ _ (.inl rfl) e⟩
 | tup xs=>obtain⟨z,its,r,ob,e,c⟩:=x;exact⟨z,its,r,ob,k _ _ (.inl rfl) e,c⟩
 | dK O=>obtain⟨z,y,vs,r,ob,es,L,e,c⟩:=x;exact⟨z,y,vs,r,ob,es,L,k _ _ (.inl rfl) e,c⟩
 | dT O=>
   obtain⟨z,y,xs,r,ob,es,L,e,c⟩:=x;exact⟨z,y,xs,Paired.mapP r λp q z=>⟨z.1,Y _ _ z.2.1,z.2.2⟩,ob,es,L,k _ _ (.inl rfl) e,c⟩
 | set S n=>obtain⟨ob,es,L,t,e,c⟩:=x;exact⟨ob,es,L,t,k _ _ (.inl rfl) e,c⟩
 | ins C dx fs=>
   obtain⟨d,z,ne,e,mA,⟨od,es,L,Z,c⟩,r⟩:=x;exact⟨ho _ d,z,ne,k _ _ (.inl rfl) e,mA,⟨od,es,L,k _ _ (.inr d) Z,c⟩,r⟩
 | own y=>obtain⟨ob,e⟩:=x;exact⟨ob,k _ _ (.inl rfl) e⟩
 | xd fs=>obtain⟨mA,⟨od,es,L,e,c⟩,r⟩:=x;exact⟨mA,⟨od,es,L,k _ _ (.inl rfl) e,c⟩,r⟩
 | rng lo hi=>obtain⟨t,u,v,e⟩:=x;exact⟨t,u,v,k _ _ (.inl rfl) e⟩
 | frz ob u ih=>obtain⟨e,q⟩:=x;exact⟨k _ _ (.inl rfl) e,ih q⟩
 | tbl ps=>
   have e:h.get? a=ag {cls:= .none,data:= .fields ps}:=x;show h'.get? a=ag {cls:= .none,data:= .fields ps};exact k a _ (.inl rfl) e
 | met f y=>
   have e:h.get? a=ag (Qt (.ref f) (.ref y)):=x;show h'.get? a=ag (Qt (.ref f) (.ref y));exact k a _ (.inl rfl) e
 | ext φ=>obtain⟨p,⟨o,e⟩,st⟩:=x;exact⟨st _ _ p λo q=>k _ _ (.inl rfl) q,⟨o,k _ _ (.inl rfl) e⟩,st⟩
theorem HOk.lt (x:HOk P w H h) (e:H a=ag o):a < h.objs.size:=(x a o e).lt
theorem HOk.fresh (x:HOk P w H h) (e:h.objs.size<=a):H a=none:=by
 cases q:H a with
 | none=>rfl
 | some u=>exact ik (uj (x.lt q) e) (NS _)
theorem HOk.kept (x:HOk P w H h) (k:∀b u,h.get? b=ag u->h'.get? b=ag u):HOk P w H h':=λa o e=>
 (x a o e).stay (λb u _ q=>k b u q) (λ_ q=>q) λ_ _ q=>q
theorem HOk.laid (x:HOk P w H h) (k:∀b u,h.get? b=ag u->h'.get? b=ag u) (L:h.objs.size<=a) (new:eB P w (upd H a o) h' a o):HOk P w (upd H a o) h':=λb u e=>by
 have hn:=x.fresh L;by_cases hb:b=a
 ·subst hb;rw[au] at e;cases e;exact new
 ·rw[ar hb] at e;exact(x b u e).stay (λc v _ q=>k c v q) (λc q=>by rw[ar (ao q hn)];exact q) λc xs q=>by rw[ar (ao q hn)];exact q
end
def Rd (H:Hp) (a:eH) (u:HO):Prop:=H a=ag u∨∃o,H a=ag (.frz o u)
theorem Rd.ok {P:ry} {w:zt} {H:Hp} {h:MT} {a:eH} {u:HO} (r:Rd H a u) (x:HOk P w H h):eB P w H h a u:=by
 rcases r with r | ⟨o,r⟩
 ·exact x a u r
 ·obtain⟨_,q⟩:=x a _ r;exact q
noncomputable def Mut:ov HO->Prop
 | some (.lst _)=>True
 | some (.dK _)=>True
 | some (.dT _)=>True
 | some (.set _ _)=>True
 | some (.ins _ _ _)=>True
 | some (.ext _)=>True
 | _=>False
section
variable {P:ry} {w:zt} {H:Hp} {h h':MT} {x e:eH} {o':HO}
theorem HOk.write (ok:HOk P w H h) (Y:Mut (H x)) (he:e=x∨H e=ag (.own x)) (k:∀b u,b≠e->h.get? b=ag u->h'.get? b=ag u) (Z:∃u,h'.get? e=ag u)
  (new:eB P w (upd H x o') h' x o'):HOk P w (upd H x o') h':=λb u q=>by
 have L:∀c y,H c=ag (.own y)->c≠x:=λc y r z=>by subst z;rw[r] at Y;exact Y
 have O:∀c xs,H c=ag (.tup xs)->c≠x:=λc xs r z=>by subst z;rw[r] at Y;exact Y
 by_cases hb:b=x
 ·subst hb;rw[au] at q;cases q;exact new
 ·rw[ar hb] at q;by_cases ζ:b=e
  ·have δ:H b=ag (.own x):=by
    rcases he with z | z
    ·exact ik (ζ.trans z) hb
    ·rw[ζ];exact z
   rw[q] at δ;cases δ;obtain⟨v,ρ⟩:=Z;exact⟨v,by rw[ζ];exact ρ⟩
  ·refine(ok b u q).stay (λc v hc r=>k c v ?_ r) (λc r=>by rw[ar (L c b r)];exact r) λc xs r=>by rw[ar (O c xs r)];exact r
   rcases hc with rfl | hc
   ·exact ζ
   ·rintro rfl;rcases he with z | z
    ·exact L c b hc z
    ·rw[hc] at z;cases z;exact hb rfl
end
structure Un (fs ex:D') (H H':Hp) (h h':MT):Prop where
 keep:∀b o,h.get? b=ag o->H b=gs->b∉fs->b∉ex->h'.get? b=ag o
 slot:∀b o,h.get? b=ag o->H b=gs->b∈fs->b∉ex->∃sl,h'.get? b=ag {o with slots:=sl}
 free:∀b o,h.get? b=ag o->H b=gs->b∉ex->H' b=gs
 there:∀b o,h.get? b=ag o->b∉ex->∃o',h'.get? b=ag o'
 tups:∀b xs,H b=ag (.tup xs)->H' b=ag (.tup xs)
 frzs:∀b o u,H b=ag (.frz o u)->H' b=ag (.frz o u)
 tbls:∀b ps,H b=ag (.tbl ps)->∃more,H' b=ag (.tbl (ps++more))
section
variable {fs fs' ex ex':D'} {H H1 H2:Hp} {h h1 h2 h':MT} {a x e:eH} {o:HO}
theorem Un.any (u:Un fs ex H H1 h h1) {b:eH} {ob:Rk} (q:h.get? b=ag ob) (n:H b=gs) (hx:b∉ex):∃L,h1.get? b=ag {ob with slots:=L}:=by
 by_cases hb:b∈fs
 ·exact u.slot b ob q n hb hx
 ·exact⟨ob.slots,u.keep b ob q n hb hx⟩
theorem Un.kept (k:∀b u,h.get? b=ag u->h'.get? b=ag u):Un fs ex H H h h':=
 ⟨λb ob q _ _ _=>k b ob q,λb ob q _ _ _=>⟨ob.slots,k b ob q⟩,λ_ _ _ n _=>n,λb ob q _=>⟨ob,k b ob q⟩,λ_ _ q=>q,λ_ _ _ q=>q,λ_ ps q=>⟨#[],by rw[q];simp⟩⟩
theorem Un.refl:Un fs ex H H h h:=Un.kept λ_ _ q=>q
theorem Un.laid (k:∀b u,h.get? b=ag u->h'.get? b=ag u) (L:h.objs.size<=a) (hn:H a=gs):Un fs ex H (upd H a o) h h' where
 keep:=λb u q _ _ _=>k b u q
 slot:=λb u q _ _ _=>⟨u.slots,k b u q⟩
 free:=λb u q n _=>by rw[ar (y2 (uj (hL q) L))];exact n
 there:=λb u q _=>⟨u,k b u q⟩
 tups:=λb xs q=>by rw[ar (ao q hn)];exact q
 frzs:=λb u xs q=>by rw[ar (ao q hn)];exact q
 tbls:=λb ps q=>⟨#[],by rw[ar (ao q hn),q];simp⟩
theorem Un.write (L:Mut (H x)) (he:e=x∨H e=ag (.own x)) (k:∀b u,b≠e->h.get? b=ag u->h'.get? b=ag u) (O:∃u,h'.get? e=ag u):Un fs ex H (upd H x o) h h':=by
 have Y:∀b,H b=gs->b≠x:=λb n z=>by subst z;rw[n] at L;exact L
 have hb:∀b,H b=gs->b≠e:=λb n z=>by
  subst z;rcases he with r | r
  ·exact Y b n r
  ·rw[n] at r;cases r
 have hm:∀b u,H b=ag u->¬Mut (ag u)->b≠x:=λb u q nm z=>by subst z;rw[q] at L;exact nm L
 refine⟨λb u q n _ _=>k b u (hb b n) q,λb u q n _ _=>⟨u.slots,k b u (hb b n) q⟩,λb u q n _=>by rw[ar (Y b n)];exact n,λb u q _=>?_,
  λb xs q=>by rw[ar (hm b _ q λz=>z)];exact q,λb u xs q=>by rw[ar (hm b _ q λz=>z)];exact q,λb ps q=>⟨#[],by rw[ar (hm b _ q λz=>z),q];simp⟩⟩
 by_cases ζ:b=e
 ·subst ζ;exact O
 ·exact⟨u,k b u ζ q⟩
end
noncomputable def trk (h:MT) (H:Hp):D':=(Na h.objs.size).filter λa=>(H a).isSome
noncomputable def hidT (h:MT) (H:Hp):Heap:=PySem.W.hideAll h (trk h H)
theorem EE (h:MT) (H:Hp):(hidT h H).objs.size=h.objs.size:=PySem.W.hideAll_size _ _
theorem GT {h:MT} {H:Hp} {b:eH} {o:Rk} (e:h.get? b=ag o) (n:H b=gs):(hidT h H).get? b=ag o:=
 PySem.W.hideAll_get _ e λhm=>by
  have q:(H b).isSome=true:=(Nj.mp hm).2;rw[n] at q;simp at q
theorem Je {h:MT} {H:Hp} {b:eH} {o:Rk} (e:(hidT h H).get? b=ag o):h.get? b=ag o/\H b=none:=by
 have L:h.get? b=ag o:=PySem.W.of_hideAll (trk h H) e;refine⟨L,?_⟩;cases q:H b with
 | none=>rfl
 | some x=>
   have hm:b∈trk h H:=Nj.mpr ⟨Oh.mpr (hL L),by simp[q]⟩;have z:(hidT h H).get? b=none:=PySem.W.hideAll_none (trk h H) hm;rw[z] at e;cases e
noncomputable def JK (g h:MT) (L:eH):B':=(Na h.objs.size).filterMap λa=>if a=L∨(g.get? a).isSome=true then gs else (h.get? a).map λo=>(a,o)
noncomputable def rest (g h:MT) (L d:eH):B':=(JK g h L).filter λp=>decide (p.1≠d)
structure Mod (K:a') (mg:CD) (base:MT):Prop where
 kin:K.In base
 glob:base.Ns MV mg
 blt:∃mb,base.Ns builtinsNs mb/\∀x:ic,x≠"__name__"->mb x=bootBuiltins x
 nolimit:base.NoLimit
structure Cx where
 prog:ry
 w:zt
 K:a'
 mg:CD
 base:MT
 A:zx
 N:A6
 s₀:hN
 H₀:Hp
 env:Env
 outer:cc Env
 stack:cc Env
 ex:D'
 fn:E'
 calm:N1
 pn:B'
 xe:B2
noncomputable def frs (l:cc Env):D':=l.filterMap (·.frame)
noncomputable abbrev Cx.fs (X:Cx):D':=frs X.outer
def Vis (L:NT) (x:ic):Prop:=L.names.lookup x=ag .local∨L.names.lookup x=ag .cell∨L.names.lookup x=ag .free
def Loc (L:NT) (x:ic):Prop:=L.names.lookup x=ag .local∨L.names.lookup x=ag .cell
def Look (env:Env) (h:MT) (m:CD) (x:ic) (u:iv):Prop:=
 (env.kindOf x=ag .local/\m x=ag u)∨((env.kindOf x=ag .cell∨env.kindOf x=ag .free)/\∃c,env.cells.lookup x=ag c/\h.IsCell c (ag u))
structure Cx.Ok (X:Cx):Prop where
 mod:Mod X.K X.mg X.base
 kind:X.env.scope.kind= .function
 glob:X.env.globals=MV
 blt:X.env.builtins=builtinsNs
 above:X.s₀.heap.objs.size<=X.env.locals
 inj:∀x y c,X.env.cells.lookup x=ag c->X.env.cells.lookup y=ag c->x=y
 has:∀x,(X.env.kindOf x=ag .cell∨X.env.kindOf x=ag .free)->∃c,X.env.cells.lookup x=ag c
 cab:∀x c,X.fn x=true->X.env.cells.lookup x=ag c->X.s₀.heap.objs.size<=c
 hd:X.calm=true->X.A.handled=gs
 frames:X.A.frames=ag X.stack
 stk:X.stack=X.outer∨(X.stack=X.env::X.outer/\X.env.frame=ag X.env.locals)
 exf:∀b∈X.ex,b≠X.env.locals/\∀x c,X.env.cells.lookup x=ag c->c≠b
 bs:∀b o,X.base.get? b=ag o->X.s₀.heap.get? b=ag o/\X.H₀ b=gs
 bsz:X.base.objs.size<=X.s₀.heap.objs.size
 noex:∀b o,X.base.get? b=ag o->b∉X.ex
 exfs:∀b∈X.ex,b∉X.fs
 funs:X.s₀.heap.FunFrames X.base X.outer
 frf:∀b∈X.fs,X.H₀ b=gs
structure Inv (X:Cx) (pins:B') (σ:cc (ov V)) (H:Hp) (s:hN):Prop where
 ok:X.Ok
 os:s.os=X.s₀.os
 bare:AllBare s.gens
 base:Un X.fs X.ex X.H₀ H X.s₀.heap s.heap
 loc:∃m,s.heap.Ns X.env.locals m/\∀(i:Nat) (x:ic) (v:V),X.N[i]? =ag x->σ[i]? =ag (ag v)->Vis X.env.scope x->∃u,RelV v u/\Look X.env s.heap m x u
 cell:∀x c,X.env.cells.lookup x=ag c->∃v,s.heap.IsCell c v
 free:H X.env.locals=gs
 freeC:∀x c,X.env.cells.lookup x=ag c->H c=gs
 pin:∀p∈X.pn++pins,s.heap.get? p.1=ag p.2/\H p.1=gs/\p.1≠X.env.locals/\p.1∉X.fs/\∀v,p.2.data≠.cell v
 hok:HOk X.prog X.w H s.heap
 len:σ.length=X.N.length
section
variable {X:Cx} {pins:B'} {σ:cc (ov V)} {H H':Hp} {s:hN} {h':MT}
theorem Cx.Ok.nofr (ok:X.Ok) {b:eH} {o:Rk} (e:X.base.get? b=ag o):b∉X.fs:=λhb=>by
 have:=(ok.funs.mem hb).1;rw[e] at this;cases this
theorem Inv.bs (I:Inv X pins σ H s):∀b o,X.base.get? b=ag o->s.heap.get? b=ag o/\H b=none:=λb o e=>
 ⟨I.base.keep b o (I.ok.bs b o e).1 (I.ok.bs b o e).2 (I.ok.nofr e) (I.ok.noex b o e),I.base.free b o (I.ok.bs b o e).1 (I.ok.bs b o e).2 (I.ok.noex b o e)⟩
theorem Inv.bk (I:Inv X pins σ H s):∀b o,X.base.get? b=ag o->s.heap.get? b=ag o:=λb o e=>(I.bs b o e).1
theorem Inv.mod (I:Inv X pins σ H s):Mod X.K X.mg X.base:=I.ok.mod
theorem Inv.kIn (I:Inv X pins σ H s):X.K.In s.heap:=I.ok.mod.kin.keeps I.bk
theorem Inv.lt (I:Inv X pins σ H s):X.env.locals < s.heap.objs.size:=let ⟨_,hn,_⟩:=I.loc;hn.lt
theorem Inv.sz (I:Inv X pins σ H s):X.s₀.heap.objs.size<=s.heap.objs.size:=NK I.ok.above (Pj I.lt)
theorem Inv.nofs (I:Inv X pins σ H s) {a:eH} (h:s.heap.objs.size<=a):a∉X.fs:=λhb=>by
 obtain⟨_,o,ho,_⟩:=I.ok.funs.mem hb;exact ik (uj (hL ho) (NK I.sz h)) (NS _)
theorem Inv.cne (I:Inv X pins σ H s):∀x c,X.env.cells.lookup x=ag c->c≠X.env.locals:=λx c e z=>by
 obtain⟨v,o,ho,hd⟩:=I.cell x c e;obtain⟨m,⟨o',es,Y,L,O,_⟩,_⟩:=I.loc;rw[z,L] at ho;cases ho;rw[O] at hd;cases hd
theorem Inv.funs (I:Inv X pins σ H s):s.heap.FunFrames X.base X.outer:=by
 have all:∀(l:cc Env),(∀b∈frs l,b∈X.fs)->X.s₀.heap.FunFrames X.base l->s.heap.FunFrames X.base l:=by
  intro l
  induction l with
  | nil=>intro _ _;trivial
  | cons env r ih=>
    intro hs hl;obtain⟨hk,⟨L,o,hf,hn,ho,hd⟩,Y⟩:=hl;have O:L∈X.fs:=hs L (by unfold frs;rw[Ql,hf];exact ox);obtain⟨Z,e⟩:=I.base.slot L o ho (I.ok.frf L O) O λz=>I.ok.exfs L z O;exact⟨hk,⟨L,_,hf,hn,e,hd⟩,ih (λb hb=>hs b (by unfold frs;rw[Ql,hf];exact px _ hb)) Y⟩
 exact all X.outer (λ_ hb=>hb) I.ok.funs
theorem Inv.stack (I:Inv X pins σ H s):s.heap.FunFrames X.base X.stack:=by
 rcases I.ok.stk with e | ⟨e,hf⟩
 ·rw[e];exact I.funs
 ·rw[e];obtain⟨m,hn,_⟩:=I.loc;refine .cons (by rw[I.ok.kind];decide) hf hn ?_ I.funs;exact OY (NK I.ok.bsz I.ok.above)
theorem Inv.stkSub (I:Inv X pins σ H s):∀b∈frs X.stack,b∈X.env.locals::X.fs:=λb hb=>by
 rcases I.ok.stk with e | ⟨e,hf⟩
 ·rw[e] at hb;exact px _ hb
 ·rw[e] at hb;unfold frs at hb;rw[Ql,hf] at hb;exact hb
theorem Inv.stkFree (I:Inv X pins σ H s):∀b∈frs X.stack,H b=none:=λb hb=>by
 rcases v9.mp (I.stkSub b hb) with e | hb
 ·rw[e];exact I.free
 ·obtain⟨_,o,ho,_⟩:=I.ok.funs.mem hb;exact I.base.free b o ho (I.ok.frf b hb) λz=>I.ok.exfs b z hb
theorem Inv.step {g':Qb GenState} {t':Nat} {d':Drawn} {ch:D'} (I:Inv X pins σ H s)
  (υ:∀b∈ch,(b∈X.ex∨X.s₀.heap.objs.size<=b)/\b≠X.env.locals/\(∀x c,X.env.cells.lookup x=ag c->c≠b)/\∀p∈X.pn++pins,p.1≠b)
  (keep:∀b o,b≠X.env.locals->b∉X.fs->b∉ch->s.heap.get? b=ag o->H b=gs->h'.get? b=ag o)
  (slot:∀b o,b≠X.env.locals->b∈X.fs->b∉ch->s.heap.get? b=ag o->H b=gs->∃ζ,h'.get? b=ag {o with slots:=ζ}) (free:∀b o,b∉ch->s.heap.get? b=ag o->H b=gs->H' b=gs)
  (there:∀b o,b∉ch->s.heap.get? b=ag o->∃o',h'.get? b=ag o')
  (tups:∀b xs,H b=ag (.tup xs)->H' b=ag (.tup xs)) (frzs:∀b o u,H b=ag (.frz o u)->H' b=ag (.frz o u)) (tbls:∀b ps,H b=ag (.tbl ps)->∃more,H' b=ag (.tbl (ps++more)))
  (ns:∀m,s.heap.Ns X.env.locals m->h'.Ns X.env.locals m) (hok:HOk X.prog X.w H' h') (ν:AllBare g'):
  Inv X pins σ H' {s with heap:=h',gens:=g',drawn:=d',toks:=t'}:=by
 have β:∀b o,X.s₀.heap.get? b=ag o->b≠X.env.locals:=λb o e=>y2 (uj (hL e) I.ok.above)
 have Z:∀b o,X.s₀.heap.get? b=ag o->b∉X.ex->b∉ch:=λb o e L hb=>by
  rcases(υ b hb).1 with z | z
  ·exact L z
  ·exact ik (uj (hL e) z) (NS _)
 have Y:∀x c,X.env.cells.lookup x=ag c->∀v,s.heap.IsCell c v->h'.IsCell c v:=λx c e v ⟨o,ho,hd⟩=>by
  have O:c∉ch:=λz=>(υ c z).2.2.1 x c e rfl;by_cases θ:c∈X.fs
  ·obtain⟨ζ,q⟩:=slot c o (I.cne x c e) θ O ho (I.freeC x c e);exact⟨_,q,hd⟩
  ·exact⟨o,keep c o (I.cne x c e) θ O ho (I.freeC x c e),hd⟩
 refine⟨I.ok,I.os,ν,⟨λb o e n hb L=>?_,λb o e n hb L=>?_,λb o e n L=>?_,λb o e L=>?_,λb xs e=>tups b xs (I.base.tups b xs e),λb o xs e=>frzs b o xs (I.base.frzs b o xs e),λb ps e=>?_⟩,?_,λx c e=>?_,?_,λx c e=>?_,λp η=>?_,hok,I.len⟩
 ·exact keep b o (β b o e) hb (Z b o e L) (I.base.keep b o e n hb L) (I.base.free b o e n L)
 ·obtain⟨ζ,α⟩:=I.base.slot b o e n hb L;obtain⟨ε,δ⟩:=slot b _ (β b o e) hb (Z b o e L) α (I.base.free b o e n L);exact⟨ε,δ⟩
 ·obtain⟨o',α⟩:=I.base.there b o e L;exact free b o' (Z b o e L) α (I.base.free b o e n L)
 ·obtain⟨o',α⟩:=I.base.there b o e L;exact there b o' (Z b o e L) α
 ·obtain⟨γ,α⟩:=I.base.tbls b ps e;obtain⟨ι,δ⟩:=tbls b _ α;exact⟨γ++ι,by rw[δ,Array.append_assoc]⟩
 ·obtain⟨m,hn,hl⟩:=I.loc;refine⟨m,ns m hn,λi x v α δ ξ=>?_⟩;obtain⟨u,r,l⟩:=hl i x v α δ ξ;refine⟨u,r,?_⟩;rcases l with l | ⟨k,c,e,z⟩
  ·exact .inl l
  ·exact .inr ⟨k,c,e,Y x c e _ z⟩
 ·obtain⟨v,z⟩:=I.cell x c e;exact⟨v,Y x c e v z⟩
 ·obtain⟨m,⟨o,_,_,ho,_⟩,_⟩:=I.loc;exact free _ o (λz=>(υ _ z).2.1 rfl) ho I.free
 ·obtain⟨v,o,ho,hd⟩:=I.cell x c e;exact free c o (λz=>(υ c z).2.2.1 x c e rfl) ho (I.freeC x c e)
 ·obtain⟨e,n,ne,nf,d⟩:=I.pin p η;have O:p.1∉ch:=λz=>(υ p.1 z).2.2.2 p η rfl;exact⟨keep p.1 p.2 ne nf O e n,free p.1 p.2 O e n,ne,nf,d⟩
theorem Inv.un {t':Nat} (I:Inv X pins σ H s) (u:Un X.fs [] H H' s.heap h') (hok:HOk X.prog X.w H' h'):Inv X pins σ H' {s with heap:=h',toks:=t'}:=by
 obtain⟨m,⟨o,es,Z,ho,r⟩,_⟩:=id I.loc;obtain⟨Y,O⟩:=u.any ho I.free @F
 exact I.step (g':=s.gens) (d':=s.drawn) (ch:=[]) (λ_ z=>nomatch z) (λb o _ hb _ e n=>u.keep b o e n hb @F) (λb o _ hb _ e n=>u.slot b o e n hb @F) (λb o _ e n=>u.free b o e n @F) (λb o _ e=>u.there b o e @F) u.tups u.frzs u.tbls (fun η hm=>by
  obtain⟨o',ξ,ο,L,r'⟩:=hm;rw[ho] at L;cases L;exact⟨_,ξ,ο,O,r'⟩) hok I.bare
theorem Inv.call {g':Qb GenState} {t':Nat} {d':Drawn} {ch:D'} (I:Inv X pins σ H s) (u:Un (frs X.stack) ch H H' s.heap h') (hok:HOk X.prog X.w H' h') (Z:AllBare g')
  (υ:∀b∈ch,(b∈X.ex∨X.s₀.heap.objs.size<=b)/\b≠X.env.locals/\(∀x c,X.env.cells.lookup x=ag c->c≠b)/\∀p∈X.pn++pins,p.1≠b):
  Inv X pins σ H' {s with heap:=h',gens:=g',drawn:=d',toks:=t'}:=by
 obtain⟨m,⟨o,es,β,ho,r⟩,_⟩:=id I.loc;obtain⟨α,Y⟩:=u.any ho I.free λz=>(υ _ z).2.1 rfl
 exact I.step (ch:=ch) υ (λb o Y hb L e n=>u.keep b o e n (λz=>(v9.mp (I.stkSub b z)).elim Y hb) L) (λb o _ _ L e n=>u.any e n L) (λb o L e n=>u.free b o e n L) (λb o L e=>u.there b o e L) u.tups u.frzs u.tbls (fun η hm=>by
  obtain⟨o',ξ,ο,O,r'⟩:=hm;rw[ho] at O;cases O;exact⟨_,ξ,ο,Y,r'⟩) hok Z
theorem Inv.turned {t':Nat} {L:eH} (I:Inv X pins σ H s) (k:∀b o,b≠L->s.heap.get? b=ag o->h'.get? b=ag o) (hn:H L=gs) (Z:L≠X.env.locals)
  (h1:L∈X.ex∨X.s₀.heap.objs.size<=L) (h2:∀x c,X.env.cells.lookup x=ag c->c≠L) (α:∀p∈X.pn++pins,p.1≠L):Inv X pins σ H {s with heap:=h',toks:=t'}:=by
 have Y:∀b u,H b=ag u->b≠L:=λb u e z=>by rw[z,hn] at e;cases e
 refine I.step (g':=s.gens) (d':=s.drawn) (ch:=[L]) (λb hb=>?_) (λb o _ _ O e _=>k b o (λz=>O (by simp[z])) e) (λb o _ _ O e _=>⟨o.slots,k b o (λz=>O (by simp[z])) e⟩) (λ_ _ _ _ n=>n)
  (λb o O e=>⟨o,k b o (λz=>O (by simp[z])) e⟩) (λ_ _ e=>e) (λ_ _ _ e=>e) (λb ps e=>⟨#[],by rw[e];simp⟩) (λm hm=>?_) (λb u e=>?_) I.bare
 ·have e:b=L:=by simpa using hb
  subst e;exact⟨h1,Z,h2,α⟩
 ·obtain⟨o,es,β,ho,r⟩:=hm;exact⟨o,es,β,k _ o (J5 Z) ho,r⟩
 ·refine(I.hok b u e).stay (λc v O q=>k c v ?_ q) (λ_ q=>q) λ_ _ q=>q;rcases O with z | z
  ·rw[z];exact Y b u e
  ·exact Y c _ z
theorem Inv.tok (I:Inv X pins σ H s) (t:Nat):Inv X pins σ H {s with toks:=t}:=I.un (h':=s.heap) (t':=t) Un.refl I.hok
theorem Inv.kept {t':Nat} (I:Inv X pins σ H s) (k:∀b u,s.heap.get? b=ag u->h'.get? b=ag u):Inv X pins σ H {s with heap:=h',toks:=t'}:=I.un (Un.kept k) (I.hok.kept k)
theorem Inv.laid {a:eH} {o:HO} {t':Nat} (I:Inv X pins σ H s) (k:∀b u,s.heap.get? b=ag u->h'.get? b=ag u) (L:s.heap.objs.size<=a) (new:eB X.prog X.w (upd H a o) h' a o):
  Inv X pins σ (upd H a o) {s with heap:=h',toks:=t'}:=I.un (Un.laid k L (I.hok.fresh L)) (I.hok.laid k L new)
theorem Inv.write {x e:eH} {o:HO} {t':Nat} (I:Inv X pins σ H s) (O:Mut (H x)) (he:e=x∨H e=ag (.own x)) (k:∀b u,b≠e->s.heap.get? b=ag u->h'.get? b=ag u) (L:∃u,h'.get? e=ag u)
  (new:eB X.prog X.w (upd H x o) h' x o):Inv X pins σ (upd H x o) {s with heap:=h',toks:=t'}:=I.un (Un.write O he k L) (I.hok.write O he k L new)
theorem Inv.weak {σ':cc (ov V)} (I:Inv X pins σ H s) (hl:σ'.length=σ.length) (w:∀(i:Nat) v,σ'[i]? =ag (ag v)->σ[i]? =ag (ag v)):Inv X pins σ' H s:=
 ⟨I.ok,I.os,I.bare,I.base,let ⟨m,hn,L⟩:=I.loc;⟨m,hn,λi x v Z Y O=>L i x v Z (w i v Y) O⟩,I.cell,I.free,I.freeC,I.pin,I.hok,hl.trans I.len⟩
theorem Inv.pins_of {pins':B'} (I:Inv X pins σ H s) (h:∀p∈pins',s.heap.get? p.1=ag p.2/\H p.1=gs/\p.1≠X.env.locals/\p.1∉X.fs/\∀v,p.2.data≠.cell v):Inv X pins' σ H s:=
 ⟨I.ok,I.os,I.bare,I.base,I.loc,I.cell,I.free,I.freeC,λp L=>(lx.mp L).elim (λz=>I.pin p (pT _ z)) (h p),I.hok,I.len⟩
theorem tV {N:A6} (Z:N.Nodup) {i j:Nat} {x:ic} (a:N[i]? =ag x) (b:N[j]? =ag x):i=j:=by
 obtain⟨h1,O⟩:=b'.mp a;obtain⟨h2,L⟩:=b'.mp b;exact(List.getElem_inj Z).mp (O.trans L.symm)
theorem uW {M:Model} {A:zx} {E:B2} {i:Nat} {x:ic} {v:V} {u:iv} {Q:CN} (I:Inv X pins σ H s) (Z:X.N.Nodup) (hi:X.N[i]? =ag x) (hx:Loc X.env.scope x) (r:RelV v u)
  (h:∀s',Inv X pins (σ.set i (ag v)) H s'->(∃a,PJ a s.heap s'.heap/\(a=X.env.locals∨X.env.cells.lookup x=ag a))->Q () s') (hf:X.fn x=true∨X.env.scope.names.lookup x=ag .local:=by first | exact .inl rfl | exact .inr rfl | assumption):ll M A (storeName X.env x u) Q E s:=by
 obtain⟨m,hn,hl⟩:=id I.loc;have η:(X.env.scope.kind == .class||(X.env.scope.kind == .module&&X.env.locals != X.env.globals))=false:=by rw[I.ok.kind];rfl
 have β:i < σ.length:=by rw[I.len];exact(b'.mp hi).1
 have cne:=I.cne
 have L:∀{a:eH} {h':MT},(∃o,s.heap.get? a=ag o/\H a=gs)->PJ a s.heap h'->HOk X.prog X.w H h':=λ{a h'} ha hs b ob e=>by
  obtain⟨_,_,Y⟩:=ha;refine(I.hok b ob e).stay (λc ν hc q=>(hs.2 c ?_).trans q) (λ_ q=>q) λ_ _ q=>q;rintro rfl;rcases hc with rfl | hc
  ·rw[Y] at e;cases e
  ·rw[Y] at hc;cases hc
 rcases hx with hk | hk
 ·refine wpAny_storeName_local hk hn (λh' χ hs=>?_) η;obtain⟨oL,_,_,φ,_⟩:=id hn;refine h _ ⟨I.ok,I.os,I.bare,⟨λb o e n hb hx=>?_,λb o e n hb hx=>?_,I.base.free,λb o e hx=>?_,I.base.tups,I.base.frzs,I.base.tbls⟩,⟨_,χ,λj y ο O α ψ=>?_⟩,λy c e=>?_,I.free,I.freeC,λp υ=>?_,L ⟨oL,φ,I.free⟩ hs,by simpa using I.len⟩ ⟨_,hs,.inl rfl⟩
  ·exact(hs.2 b (y2 (uj (hL e) I.ok.above))).trans (I.base.keep b o e n hb hx)
  ·obtain⟨τ,O⟩:=I.base.slot b o e n hb hx;exact⟨τ,(hs.2 b (y2 (uj (hL e) I.ok.above))).trans O⟩
  ·obtain⟨o',O⟩:=I.base.there b o e hx;exact⟨o',(hs.2 b (y2 (uj (hL e) I.ok.above))).trans O⟩
  ·by_cases γ:j=i
   ·subst γ;rw[hi] at O;cases O;rw[PM β] at α;cases α;exact⟨u,r,.inl ⟨hk,by simp⟩⟩
   ·rw[Q6 (J5 γ)] at α;obtain⟨ρ,r',q⟩:=hl j y ο O α ψ;refine⟨ρ,r',?_⟩;rcases q with ⟨k,e⟩ | ⟨k,c,e,z⟩
    ·refine .inl ⟨k,?_⟩;have:y≠x:=λe=>γ (tV Z O (e ▸ hi));simp[this,e]
    ·exact .inr ⟨k,c,e,z.sameBut hs (cne y c e)⟩
  ·obtain⟨ν,z⟩:=I.cell y c e;exact⟨ν,z.sameBut hs (cne y c e)⟩
  ·obtain⟨e,n,ne,nf,d⟩:=I.pin p υ;exact⟨(hs.2 p.1 ne).trans e,n,ne,nf,d⟩
 ·have π:X.fn x=true:=by
   rcases hf with z | z
   ·exact z
   ·rw[z] at hk;cases hk
  obtain⟨c,hc⟩:=I.ok.has x (.inl hk);obtain⟨ν,z⟩:=I.cell x c hc;refine wpAny_storeName_cell I.ok.kind hk hc z (λh' ι hs=>?_);obtain⟨ω,ζ,ε⟩:=id z;refine h {s with heap:=h'} ⟨I.ok,I.os,I.bare,⟨λb o e n hb hx=>?_,λb o e n hb hx=>?_,I.base.free,λb o e hx=>?_,I.base.tups,I.base.frzs,I.base.tbls⟩,⟨m,hn.sameBut hs (J5 (cne x c hc)),λj y ο O α ψ=>?_⟩,λy ξ e=>?_,I.free,I.freeC,λp υ=>?_,L ⟨ω,ζ,I.freeC x c hc⟩ hs,by simpa using I.len⟩ ⟨c,hs,.inr hc⟩
  ·exact(hs.2 b (y2 (uj (hL e) (I.ok.cab x c π hc)))).trans (I.base.keep b o e n hb hx)
  ·obtain⟨τ,O⟩:=I.base.slot b o e n hb hx;exact⟨τ,(hs.2 b (y2 (uj (hL e) (I.ok.cab x c π hc)))).trans O⟩
  ·obtain⟨o',O⟩:=I.base.there b o e hx;exact⟨o',(hs.2 b (y2 (uj (hL e) (I.ok.cab x c π hc)))).trans O⟩
  ·by_cases γ:j=i
   ·subst γ;rw[hi] at O;cases O;rw[PM β] at α;cases α;exact⟨u,r,.inr ⟨.inl hk,c,hc,ι⟩⟩
   ·rw[Q6 (J5 γ)] at α;obtain⟨ρ,r',q⟩:=hl j y ο O α ψ;refine⟨ρ,r',?_⟩;rcases q with q | ⟨k,ξ,e,z'⟩
    ·exact .inl q
    ·refine .inr ⟨k,ξ,e,z'.sameBut hs ?_⟩;rintro rfl;exact γ (tV Z O (I.ok.inj _ _ _ e hc ▸ hi))
  ·by_cases θ:ξ=c
   ·subst θ;exact⟨_,ι⟩
   ·obtain⟨w2,z2⟩:=I.cell y ξ e;exact⟨w2,z2.sameBut hs θ⟩
  ·obtain⟨e,n,ne,nf,d⟩:=I.pin p υ;refine⟨(hs.2 p.1 ?_).trans e,n,ne,nf,d⟩;intro q;rw[q,ζ] at e;have δ:ω=p.2:=ui e;exact d ν (by rw[<-δ];exact ε)
theorem tE {M:Model} {A:zx} {E:B2} {i:Nat} {x:ic} {v:V} {u:iv} {Q:CN} (I:Inv X pins σ H s) (Z:X.N.Nodup) (hi:X.N[i]? =ag x) (hx:Loc X.env.scope x) (r:RelV v u)
  (h:∀s',Inv X pins (σ.set i (ag v)) H s'->Q () s') (hf:X.fn x=true∨X.env.scope.names.lookup x=ag .local:=by first | exact .inl rfl | exact .inr rfl | assumption):ll M A (storeName X.env x u) Q E s:=
 uW I Z hi hx r (λs' L _=>h s' L) hf
theorem Inv.call' {s':hN} {ch:D'} (I:Inv X pins σ H s) (ho:s'.os=s.os) (u:Un (frs X.stack) ch H H' s.heap s'.heap) (hok:HOk X.prog X.w H' s'.heap) (L:AllBare s'.gens)
  (υ:∀b∈ch,(b∈X.ex∨X.s₀.heap.objs.size<=b)/\b≠X.env.locals/\(∀x c,X.env.cells.lookup x=ag c->c≠b)/\∀p∈X.pn++pins,p.1≠b):Inv X pins σ H' s':=by
 obtain⟨h',g',d',t',o'⟩:=s';have e:o'=s.os:=ho;subst e;exact I.call (g':=g') (t':=t') (d':=d') u hok L υ
end
noncomputable abbrev XK:=iv->Dn->Hp->Prop
noncomputable abbrev St:=cc (ov V)
noncomputable abbrev VK:=V->Hp->Prop
noncomputable abbrev TE:=St->Hp->VK->Prop
noncomputable abbrev TT:=St->Hp->(N1->Hp->Prop)->Prop
noncomputable abbrev TA:=St->Hp->(cc V->Hp->Prop)->Prop
structure Ends where
 nx:St->Hp->Prop
 rt:VK
 bk:St->Hp->Prop:=λ_ _=>False
 ct:St->Hp->Prop:=λ_ _=>False
noncomputable abbrev TS:=Ends->St->Hp->Prop
def EP (X:Cx) (pins:B') (σ:St) (Q:VK) (u:iv) (s':hN):Prop:=∃v H',Inv X pins σ H' s'/\RelV v u/\Q v H'
def TP (X:Cx) (pins:B') (σ:St) (Q:N1->Hp->Prop) (b:N1) (s':hN):Prop:=∃H',Inv X pins σ H' s'/\Q b H'
def AP (X:Cx) (pins:B') (σ:St) (Q:cc V->Hp->Prop) (us:CB) (s':hN):Prop:=∃vs H',Inv X pins σ H' s'/\Vals vs us/\Q vs H'
def SP (X:Cx) (pins:B') (D:Ends) (f:Flow) (s':hN):Prop:=
 match f with
 | .next=>∃σ' H',Inv X pins σ' H' s'/\D.nx σ' H'
 | .brk=>∃σ' H',Inv X pins σ' H' s'/\D.bk σ' H'
 | .cont=>∃σ' H',Inv X pins σ' H' s'/\D.ct σ' H'
 | .ret u=>∃v σ' H',Inv X pins σ' H' s'/\RelV v u/\D.rt v H'
def PE (X:Cx) (e:z3) (t:TE):Prop:=
 ∀(pins:B') (s:hN) (σ:St) (H:Hp) (Q:VK),Inv X pins σ H s->t σ H Q->ll (ph X.prog X.w) X.A (eval e X.env) (EP X pins σ Q) X.xe s
def PT (X:Cx) (e:z3) (t:TT):Prop:=
 ∀(pins:B') (s:hN) (σ:St) (H:Hp) (Q:N1->Hp->Prop),Inv X pins σ H s->t σ H Q->ll (ph X.prog X.w) X.A (isTrue e X.env (eval e X.env)) (TP X pins σ Q) X.xe s
def PW (X:Cx) (e:z3) (t:TT):Prop:=
 ∀(η:Sem iv) (pins:B') (s:hN) (σ:St) (H:Hp) (Q:N1->Hp->Prop),Inv X pins σ H s->t σ H Q->ll (ph X.prog X.w) X.A (isTrue e X.env η) (TP X pins σ Q) X.xe s
theorem PW.pt {X:Cx} {e:z3} {t:TT} (h:PW X e t):PT X e t:=h _
def PA (X:Cx) (es:cc z3) (t:TA):Prop:=
 ∀(pos:Pos) (pins:B') (s:hN) (σ:St) (H:Hp) (Q:cc V->Hp->Prop),Inv X pins σ H s->t σ H Q->ll (ph X.prog X.w) X.A (spliced (backTo pos (oD es X.env))) (AP X pins σ Q) X.xe s
def PS (X:Cx) (st:OE) (t:TS):Prop:=
 ∀(pins:B') (s:hN) (σ:St) (H:Hp) (D:Ends),Inv X pins σ H s->t D σ H->ll (ph X.prog X.w) X.A (exec st X.env) (SP X pins D) X.xe s
def PSs (X:Cx) (st:cc OE) (t:TS):Prop:=
 ∀(pins:B') (s:hN) (σ:St) (H:Hp) (D:Ends),Inv X pins σ H s->t D σ H->ll (ph X.prog X.w) X.A (execs st X.env) (SP X pins D) X.xe s
theorem thn {α:Type} {t:Sem α} {Q L:α->hN->Prop} {M:Model} {A:zx} {E:B2} {s:hN} (h:ll M A t Q E s) (O:∀a s,Q a s->L a s):ll M A t L E s:=Nk h O λ_ _ x=>x
section
variable {X:Cx}
noncomputable def tVar (i:Nat):TE:=fun σ H Q=>∃v,σ[i]? =ag (ag v)/\Q v H
noncomputable abbrev tC (v:V):TE:=λ_ H Q=>Q v H
theorem K1 {i:Nat} {x:ic} {pos:Pos} (Z:X.N[i]? =ag x) (hv:Vis X.env.scope x) (hd:(x == ("__debug__":ic))=false:=by decide) (O:(x == ("__classdict__":ic))=false:=by decide):PE X (.Name x pos) (tVar i):=by
 intro pins s σ H Q I h;obtain⟨v,e,h⟩:=h;obtain⟨m,hn,hl⟩:=I.loc;obtain⟨u,r,l⟩:=hl i x v Z e hv;have fin:EP X pins σ Q u s:=⟨v,H,I,r,h⟩;rcases l with ⟨hk,hm⟩ | ⟨hk,c,Y,L⟩
 ·exact SU (wpAny_loadName_local I.ok.kind hk hn hm fin) hd
 ·rcases hk with hk | hk
  ·exact SU (wpAny_loadName_cell I.ok.kind hk Y L fin) hd
  ·exact SU (wpAny_loadName_free I.ok.kind hk Y L fin O) hd
theorem ah {i j pos}:PE X (.Constant (.int i) j pos) (tC (.int i)):=λ_ _ _ H _ I h=>wpAny_Constant_int ⟨.int i,H,I.tok _,⟨_,rfl⟩,h⟩
theorem p7 {b j pos}:PE X (.Constant (.bool b) j pos) (tC (.bl b)):=λ_ _ _ H _ I h=>Constant_bool ⟨.bl b,H,I,rfl,h⟩
theorem gw {j pos}:PE X (.Constant .none j pos) (tC .non):=λ_ _ _ H _ I h=>Constant_none ⟨.non,H,I,rfl,h⟩
theorem aD {x j pos}:PE X (.Constant (.str x) j pos) (tC (.str x)):=λ_ _ _ H _ I h=>Calls.Constant_str ⟨.str x,H,I.tok _,⟨_,rfl⟩,h⟩
def Gl (X:Cx) (x:ic):Prop:=X.env.kindOf x=ag .globalImplicit
theorem h9 {E:B2} {pins:B'} {s:hN} {σ:St} {H:Hp} {x:ic} {u:iv} {pos:Pos} {Q:B2} (I:Inv X pins σ H s) (L:Gl X x) (hm:X.mg x=ag u) (h:Q u s)
  (hd:(x == ("__debug__":ic))=false:=by decide):ll (ph X.prog X.w) X.A (eval (.Name x pos) X.env) Q E s:=
 R6 I.ok.kind L (Calls.loadGlobal_global (by rw[I.ok.glob];exact I.mod.glob.keeps I.bk) hm h) hd
theorem kh {E:B2} {pins:B'} {s:hN} {σ:St} {H:Hp} {x:ic} {u:iv} {pos:Pos} {Q:B2} (I:Inv X pins σ H s) (L:Gl X x) (hm:X.mg x=gs) (hv:bootBuiltins x=ag u) (h:Q u s)
  (hn:x≠"__name__":=by decide) (hd:(x == ("__debug__":ic))=false:=by decide):ll (ph X.prog X.w) X.A (eval (.Name x pos) X.env) Q E s:=by
 obtain⟨O,h1,h2⟩:=I.mod.blt;exact R6 I.ok.kind L (Calls.loadGlobal_builtin (by rw[I.ok.glob];exact I.mod.glob.keeps I.bk) hm (by rw[I.ok.blt];exact h1.keeps I.bk) ((h2 x hn).trans hv) h) hd
theorem g8 {x:ic} {v:V} {u:iv} {pos:Pos} (L:Gl X x) (hm:X.mg x=ag u) (r:RelV v u) (hd:(x == ("__debug__":ic))=false:=by decide):PE X (.Name x pos) (tC v):=
 λ_ _ _ H _ I h=>h9 I L hm ⟨v,H,I,r,h⟩ hd
theorem jv {x:ic} {v:V} {u:iv} {pos:Pos} (L:Gl X x) (hm:X.mg x=gs) (hv:bootBuiltins x=ag u) (r:RelV v u) (hn:x≠"__name__":=by decide) (hd:(x == ("__debug__":ic))=false:=by decide):PE X (.Name x pos) (tC v):=
 λ_ _ _ H _ I h=>kh I L hm hv ⟨v,H,I,r,h⟩ hn hd
variable {a b:z3} {ta tb:TE} {pos:Pos}
def PC (X:Cx) (Y:CmpOp) (a b:z3) (t:TE):Prop:=
 ∀(pins:B') (s:hN) (σ:St) (H:Hp) (Q:VK),Inv X pins σ H s->t σ H Q->
  ll (ph X.prog X.w) X.A (eval a X.env) (λv O=>ll (ph X.prog X.w) X.A (eval b X.env) (λu L=>ll (ph X.prog X.w) X.A (compareOp Y v u) (EP X pins σ Q) X.xe L) X.xe O) X.xe s
noncomputable abbrev tB (t:TE):TT:=fun σ H Q=>t σ H λx H1=>∃c,x= .bl c/\Q c H1
theorem K4 {L:CmpOp} {t:TE} (h:PC X L a b t) (h1:behindInMarks L b=false:=by first | exact nobehind _ (by decide) (by decide) | rfl):PE X (.Compare a [L] [b] pos) t:=λpins s σ H Q I O=>wpAny_Compare1 (h pins s σ H Q I O) h1
theorem DN {L:CmpOp} {t:TE} (h:PC X L a b t) (h1:behindInMarks L b=false:=by first | exact nobehind _ (by decide) (by decide) | rfl):PT X (.Compare a [L] [b] pos) (tB t):=by
 intro pins s σ H Q I α;refine Su (thn (h pins s σ H _ I α) λv δ h1=>thn h1 λu γ h2=>thn h2 λc β ⟨x,H1,O,Y,Z⟩=>?_) h1;obtain⟨d,rfl,q⟩:=Z;cases Y;exact NF ⟨H1,O,q⟩
theorem dE {e:z3} {t:TE} (h:PE X e t) (he:∀η,isTrue e X.env η=(do let v <-η;standAt e.pos;holding [v] (truthy v)):=by intro _;rfl):PT X e (tB t):=by
 intro pins s σ H Q I Z;refine isTrue_plain (thn (h pins s σ H _ I Z) λv α ⟨x,H1,O,L,Y⟩=>?_) (he _);obtain⟨d,rfl,q⟩:=Y;cases L;exact NF ⟨H1,O,q⟩
variable {tA tB':TT} {rest:cc z3}
noncomputable abbrev tAnd (t u:TT):TT:=fun σ H Q=>t σ H λc H1=>if c=true then u σ H1 Q else Q false H1
noncomputable abbrev tOr (t u:TT):TT:=fun σ H Q=>t σ H λc H1=>if c=true then Q true H1 else u σ H1 Q
noncomputable abbrev tNot (t:TT):TT:=fun σ H Q=>t σ H λc H1=>Q (!c) H1
theorem mh (ha:PT X a tA):PW X (.BoolOp .And [a] pos) tA:=by
 intro L pins s σ H Q I h;refine isTrue_and (thn (ha pins s σ H Q I h) λc O e=>?_);cases c with
 | true=>exact isTrue_and_nil e
 | false=>exact e
theorem j4 (ha:PT X a tA):PW X (.BoolOp .Or [a] pos) tA:=by
 intro L pins s σ H Q I h;refine isTrue_or (thn (ha pins s σ H Q I h) λc O e=>?_);cases c with
 | false=>exact isTrue_or_nil e
 | true=>exact e
theorem oK (ha:PT X a tA) (hb:PW X (.BoolOp .And (b::rest) pos) tB'):PW X (.BoolOp .And (a::b::rest) pos) (tAnd tA tB'):=by
 intro Y pins s σ H Q I h;refine isTrue_and (thn (ha pins s σ H _ I h) λc Z ⟨H1,O,L⟩=>?_);cases c with
 | true=>exact hb Y pins Z σ H1 Q O L
 | false=>exact⟨H1,O,L⟩
theorem j5 (ha:PT X a tA) (hb:PW X (.BoolOp .Or (b::rest) pos) tB'):PW X (.BoolOp .Or (a::b::rest) pos) (tOr tA tB'):=by
 intro Y pins s σ H Q I h;refine isTrue_or (thn (ha pins s σ H _ I h) λc Z ⟨H1,O,L⟩=>?_);cases c with
 | true=>exact⟨H1,O,L⟩
 | false=>exact hb Y pins Z σ H1 Q O L
theorem j6 (ha:PT X a tA):PT X (.UnaryOp .Not a pos) (tNot tA):=by
 intro pins s σ H Q I h;exact isTrue_not (ha pins s σ H (λc H1=>Q (!c) H1) I h)
noncomputable abbrev Md (ta tb:TE):TE:=fun σ H Q=>ta σ H λx H1=>∃c,x= .bl c/\if c=true then tb σ H1 Q else Q (.bl false) H1
theorem DQ {op} {t:TE} (h:PE X a t):PE X (.BoolOp op [a] pos) t:=λpins s σ H Q I L=>BoolOp_one (h pins s σ H Q I L)
theorem DS (ha:PE X a ta) (hb:PE X (.BoolOp .And (b::rest) pos) tb):PE X (.BoolOp .And (a::b::rest) pos) (Md ta tb):=by
 intro pins s σ H Q I h;refine BoolOp_and (thn (ha pins s σ H _ I h) λv Y ⟨x,H1,O,Z,L⟩=>?_);obtain⟨c,rfl,L⟩:=L;cases Z;refine NF ?_;cases c with
 | true=>exact hb pins Y σ H1 Q O L
 | false=>exact⟨.bl false,H1,O,rfl,L⟩
noncomputable abbrev tIf (t:TT) (ta tb:TE):TE:=fun σ H Q=>t σ H λc H1=>if c=true then ta σ H1 Q else tb σ H1 Q
theorem GH {c:z3} (hc:PT X c tA) (ha:PE X a ta) (hb:PE X b tb):PE X (.IfExp c a b pos) (tIf tA ta tb):=by
 intro pins s σ H Q I h;refine wpAny_IfExp (thn (hc pins s σ H _ I h) λd L ⟨H1,O,Y⟩=>?_);cases d with
 | true=>exact ha pins L σ H1 Q O Y
 | false=>exact hb pins L σ H1 Q O Y
end
def SqL (K:a') (H:Hp) (a:eH) (xs:cc V):Prop:=
 Rd H a (.lst xs)∨
  ∃(o:Rk) (its:CL) (n:Nat),K.lookup a=ag o/\o.cls= .type "list"/\o.dict=gs/\o.data= .seq its n/\its.size<=jF/\Vals xs its.toList
def SqT (K:a') (H:Hp) (a:eH) (xs:cc V):Prop:=
 Rd H a (.tup xs)∨
  ∃(o:Rk) (its:CL) (n:Nat),K.lookup a=ag o/\o.cls= .type "tuple"/\o.data= .seq its n/\its.size<=jF/\Vals xs its.toList
noncomputable def absV:iv->ov V
 | .none=>ag .non
 | .bool b=>ag (.bl b)
 | .int i _=>ag (.int i)
 | .str x _=>ag (.str x)
 | .bytes b _=>ag (.byt b)
 | .float b _=>ag (.flt b)
 | .ref a=>ag (.ref a)
 | .type n=>ag (.ty n)
 | _=>gs
theorem RelV.abs {x:V} {u:iv} (r:RelV x u):absV u=ag x:=by
 cases x with
 | non=>cases r;rfl
 | bl _=>cases r;rfl
 | int _=>obtain⟨t,rfl⟩:=r;rfl
 | str _=>obtain⟨t,rfl⟩:=r;rfl
 | byt _=>obtain⟨t,rfl⟩:=r;rfl
 | flt _=>obtain⟨t,rfl⟩:=r;rfl
 | ref _=>cases r;rfl
 | ty _=>cases r;rfl
theorem RelV.inj {x y:V} {u:iv} (r:RelV x u) (q:RelV y u):x=y:=ui (r.abs.symm.trans q.abs)
theorem Vals.inj:∀{xs ys:cc V} {us:CB},Vals xs us->Vals ys us->xs=ys
 | _,_,_,.nil,.nil=>rfl
 | _,_,_,.cons r t,.cons r' t'=>by rw[r.inj r',Vals.inj t t']
section
variable {X:Cx} {pins:B'} {σ:St} {H:Hp} {s:hN} {a:eH} {xs ys:cc V}
theorem SqL.of {K:a'} (h:H a=ag (.lst xs)):SqL K H a xs:= .inl (.inl h)
theorem SqT.of {K:a'} (h:H a=ag (.tup xs)):SqT K H a xs:= .inl (.inl h)
theorem Inv.list (I:Inv X pins σ H s) (h:SqL X.K H a xs):∃its:CB,Vals xs its/\PlainL s.heap a its.toArray/\xs.length<=sizeLine:=by
 rcases h with h | ⟨o,its,n,hk,L,hd,hs,hz,r⟩
 ·obtain⟨z,its,n,r,e⟩:=h.ok I.hok;exact⟨its,r,⟨_,n,e,rfl,rfl,rfl⟩,z⟩
 ·refine⟨its.toList,r,⟨o,n,I.kIn a o hk,L,hd,by simpa using hs⟩,?_⟩;have e:=r.length;simp only[Qa] at e;omega
theorem Inv.tuple (I:Inv X pins σ H s) (h:SqT X.K H a xs):∃its:CB,Vals xs its/\IsTup s.heap a its.toArray/\xs.length<=sizeLine:=by
 rcases h with h | ⟨o,its,n,hk,L,hs,hz,r⟩
 ·obtain⟨z,its,r,p⟩:=h.ok I.hok;exact⟨its,r,p,z⟩
 ·refine⟨its.toList,r,⟨o,I.kIn a o hk,L,n,by simpa using hs⟩,?_⟩;have e:=r.length;simp only[Qa] at e;omega
theorem Inv.list_inj (I:Inv X pins σ H s) (h:SqL X.K H a xs) (h':SqL X.K H a ys):xs=ys:=by
 obtain⟨its,r,⟨o,n,e,_,_,d⟩,_⟩:=I.list h;obtain⟨its',r',⟨o',O,L,_,_,d'⟩,_⟩:=I.list h';rw[e] at L;cases L;rw[d] at d';injection d' with θ _
 have:its=its':=by simpa using K' S' θ
 subst this;exact r.inj r'
theorem Inv.tuple_inj (I:Inv X pins σ H s) (h:SqT X.K H a xs) (h':SqT X.K H a ys):xs=ys:=by
 obtain⟨its,r,⟨o,e,_,n,d⟩,_⟩:=I.tuple h;obtain⟨its',r',⟨o',L,_,O,d'⟩,_⟩:=I.tuple h';rw[e] at L;cases L;rw[d] at d';injection d' with θ _
 have:its=its':=by simpa using K' S' θ
 subst this;exact r.inj r'
end
noncomputable abbrev Cx.wish (X:Cx) (E:B2):Cx:={X with xe:=E}
noncomputable abbrev Cx.nox (X:Cx):Cx:=X.wish λ_ _=>False
theorem Cx.Ok.wish {X:Cx} (ok:X.Ok) (E:B2):(X.wish E).Ok:=
 ⟨ok.mod,ok.kind,ok.glob,ok.blt,ok.above,ok.inj,ok.has,ok.cab,ok.hd,ok.frames,ok.stk,ok.exf,ok.bs,ok.bsz,ok.noex,ok.exfs,ok.funs,ok.frf⟩
theorem Cx.Ok.unwish {X:Cx} {E:B2} (ok:(X.wish E).Ok):X.Ok:=
 ⟨ok.mod,ok.kind,ok.glob,ok.blt,ok.above,ok.inj,ok.has,ok.cab,ok.hd,ok.frames,ok.stk,ok.exf,ok.bs,ok.bsz,ok.noex,ok.exfs,ok.funs,ok.frf⟩
section
variable {X:Cx} {pins:B'} {σ:St} {H:Hp} {s:hN} {E:B2}
theorem Inv.wish (I:Inv X pins σ H s) (E:B2):Inv (X.wish E) pins σ H s:=⟨I.ok.wish E,I.os,I.bare,I.base,I.loc,I.cell,I.free,I.freeC,I.pin,I.hok,I.len⟩
theorem Inv.unwish (I:Inv (X.wish E) pins σ H s):Inv X pins σ H s:=⟨I.ok.unwish,I.os,I.bare,I.base,I.loc,I.cell,I.free,I.freeC,I.pin,I.hok,I.len⟩
theorem SP.unwish {D:Ends} {f:Flow} {s':hN} (h:SP (X.wish E) pins D f s'):SP X pins D f s':=by
 cases f with
 | next=>obtain⟨σ',H',I,q⟩:=h;exact⟨σ',H',I.unwish,q⟩
 | brk=>obtain⟨σ',H',I,q⟩:=h;exact⟨σ',H',I.unwish,q⟩
 | cont=>obtain⟨σ',H',I,q⟩:=h;exact⟨σ',H',I.unwish,q⟩
 | ret u=>obtain⟨v,σ',H',I,r,q⟩:=h;exact⟨v,σ',H',I.unwish,r,q⟩
theorem PSs.nox {st:cc OE} {t:TS} (h:PSs X.nox st t):PSs X st t:=λpins s σ H D I L=>
 Nk (h pins s σ H D (I.wish _) L) (λ_ _ q=>q.unwish) λ_ _ z=>LI z
end
section
variable {X:Cx} {st:OE} {rest:cc OE} {t u:TS} {e:z3} {te:TE} {pos:Pos}
noncomputable def Kb:TS:=λD σ H=>D.nx σ H
noncomputable def tSeq (t u:TS):TS:=λD σ H=>t {D with nx:=u D} σ H
theorem aH:PSs X [] Kb:=λ_ _ σ H _ I h=>Qh ⟨σ,H,I,h⟩
theorem af (h1:PS X st t) (h2:PSs X rest u):PSs X (st::rest) (tSeq t u):=by
 intro pins s σ H D I h;refine Rf (thn (h1 pins s σ H {D with nx:=u D} I h) λf L q=>?_);cases f with
 | next=>
   obtain⟨σ',H',O,q⟩:=q;exact h2 pins L σ' H' D O q
 | ret v=>exact q
 | brk=>exact q
 | cont=>exact q
theorem aq (h1:PS X st t):PSs X [st] t:=by
 intro pins s σ H D I h;refine Rf (thn (h1 pins s σ H D I h) λf L q=>?_);cases f with
 | next=>exact Qh q
 | ret v=>exact q
 | brk=>exact q
 | cont=>exact q
theorem Inv.quiet {pins:B'} {σ:St} {H:Hp} {s:hN} (I:Inv X pins σ H s):interactive X.env=false:=by simp[interactive,I.ok.kind]
noncomputable abbrev Mc (te:TE):TS:=λD σ H=>te σ H λ_ H1=>D.nx σ H1
theorem bB (he:PE X e te) (hs:swapsWith e gs pos.line X.env=pure false:=by rfl):PS X (.Expr e pos) (Mc te):=by
 intro pins s σ H D I h;exact wpAny_Expr_any (thn (he pins s σ H _ I h) λv Y ⟨x,H1,O,Z,L⟩=>⟨σ,H1,O,L⟩) I.quiet hs
noncomputable abbrev tRet (te:TE):TS:=λD σ H=>te σ H D.rt
theorem aJ (he:PE X e te):PS X (.Return (ag e) pos) (tRet te):=by
 intro pins s σ H D I h;exact wpAny_Return_some (thn (he pins s σ H _ I h) λv Z ⟨x,H1,O,L,Y⟩=>⟨x,σ,H1,O,L,Y⟩)
noncomputable abbrev tIfS (c:TT) (t u:TS):TS:=λD σ H=>c σ H λb H1=>if b=true then t D σ H1 else u D σ H1
theorem bE {c:z3} {a b:cc OE} {tc:TT} (hc:PT X c tc) (ha:PSs X a t) (hb:PSs X b u):PS X (.If c a b pos) (tIfS tc t u):=by
 intro pins s σ H D I h;refine wpAny_If (thn (hc pins s σ H _ I h) λd L ⟨H1,O,Y⟩=>?_);cases d with
 | true=>exact ha pins L σ H1 D O Y
 | false=>exact hb pins L σ H1 D O Y
end
noncomputable abbrev TG:=V->St->Hp->(St->Hp->Prop)->Prop
noncomputable abbrev TGs:=cc V->St->Hp->(St->Hp->Prop)->Prop
def PG (X:Cx) (L:z3) (t:TG):Prop:=
 ∀(pins:B') (s:hN) (σ:St) (H:Hp) (v:V) (u:iv) (Q:St->Hp->Prop),Inv X pins σ H s->RelV v u->t v σ H Q->
  ll (ph X.prog X.w) X.A (assign L X.env u) (λ_ s'=>∃σ' H',Inv X pins σ' H' s'/\Q σ' H') X.xe s
def PGs (X:Cx) (ts:cc z3) (t:TGs):Prop:=
 ∀(pins:B') (s:hN) (σ:St) (H:Hp) (vs:cc V) (us:CB) (Q:St->Hp->Prop),Inv X pins σ H s->Vals vs us->t vs σ H Q->
  ll (ph X.prog X.w) X.A (assignInOrder ((assignEach ts X.env).map (·.2)) us) (λ_ s'=>∃σ' H',Inv X pins σ' H' s'/\Q σ' H') X.xe s
noncomputable abbrev TSet:=V->V->V->Hp->(Hp->Prop)->Prop
def PSet (X:Cx) (t:TSet):Prop:=
 ∀(pins:B') (s:hN) (σ:St) (H:Hp) (o i v:V) (L O u:iv) (Q:Hp->Prop),Inv X pins σ H s->RelV o L->RelV i O->RelV v u->t o i v H Q->
  ll (ph X.prog X.w) X.A (setItem L O u) (λ_ s'=>∃H',Inv X pins σ H' s'/\Q H') X.xe s
section
variable {X:Cx} {pos:Pos}
noncomputable def ES (i:Nat):TG:=λv σ H Q=>Q (σ.set i (ag v)) H
theorem av {i:Nat} {x:ic} (Z:X.N.Nodup) (hi:X.N[i]? =ag x) (hx:Loc X.env.scope x) (hf:X.fn x=true∨X.env.scope.names.lookup x=ag .local:=by first | exact .inl rfl | exact .inr rfl | assumption):PG X (.Name x pos) (ES i):=by
 intro pins s σ H v u Q I r h;exact T1 (tE I Z hi hx r (λs' L=>⟨_,H,L,h⟩) hf)
noncomputable def gNil:TGs:=λvs σ H Q=>vs=[]/\Q σ H
noncomputable def JA (t:TG) (u:TGs):TGs:=λvs σ H Q=>∃v r,vs=v::r/\t v σ H fun σ' H'=>u r σ' H' Q
theorem fO:PGs X [] gNil:=by
 intro pins s σ H vs us Q I r h;obtain⟨e,h⟩:=h;subst e;cases r;exact assignInOrder_nil ⟨σ,H,I,h⟩
theorem a9 {e:z3} {es:cc z3} {t:TG} {u:TGs} (h1:PG X e t) (h2:PGs X es u)
  (hs:(assignEach (e::es) X.env).map (·.2)=assign e X.env::(assignEach es X.env).map (·.2):=by rfl):PGs X (e::es) (JA t u):=by
 intro pins s σ H vs us Q I r h;obtain⟨v,γ,β,h⟩:=h;subst β;cases r with
 | cons r Y=>
   rw[hs];refine assignInOrder_cons (thn (h1 pins s σ H _ _ _ I r h) λ_ L ⟨α,H1,O,Z⟩=>?_);exact h2 pins L α H1 _ _ Q O Y Z
noncomputable def gTup (K:a') (n:Nat) (t:TGs):TG:=λv σ H Q=>∃a xs,v= .ref a/\SqT K H a xs/\xs.length=n/\t xs σ H Q
theorem kW {es:cc z3} {k:Nat} {t:TGs} {n:Nat} (hc:X.calm=true) (h:PGs X es t)
  (hn:(assignEach es X.env).length=n:=by rfl) (ι:(assignEach es X.env).findIdx? (·.1)=none:=by rfl):PG X (.Tuple es k pos) (gTup X.K n t):=by
 intro pins s σ H v u Q I r L;obtain⟨a,xs,β,α,hl,L⟩:=L;subst β;cases r;obtain⟨its,rv,Z,hz⟩:=I.tuple α;refine assign_Tuple_tuple (I.ok.hd hc) Z (by simp[hn,<-hl,rv.length]) ι λh' Y=>?_;have O:Inv X pins σ H {s with heap:=h'}:=I.kept (t':=s.toks) λb o e=>Y b o (y2 (hL e)) e;exact h pins _ σ H xs _ Q O (by simpa using rv) L
noncomputable def gSub (to ti:TE) (t:TSet):TG:=λv σ H Q=>to σ H λo H1=>ti σ H1 λi H2=>t o i v H2 λL=>Q σ L
theorem DP {o i:z3} {to ti:TE} {t:TSet} (ho:PE X o to) (hi:PE X i ti) (hs:PSet X t)
  (ha:∀v,assign (.Subscript o i pos) X.env v=(do
   let L <-holding [v] (eval o X.env)
   let Y <-holding [v,L] (eval i X.env)
   standAt pos
   holding [v,L,Y] (setItem L Y v)
   release [v,L,Y] []):=by intro _;rfl):PG X (.Subscript o i pos) (gSub to ti t):=by
 intro pins s σ H v u Q I r h;rw[ha];refine fI (Nx (thn (ho pins s σ H _ I h) λL α ⟨x,H1,O,β,δ⟩=>?_));refine fI (Nx (thn (hi pins α σ H1 _ O δ) λY Z ⟨y,H2,ζ,υ,φ⟩=>?_));refine fI (O5 (fI (Nx (thn (hs pins Z σ H2 x y v L Y u _ ζ β υ r φ) λ_ θ ⟨η,ε,γ⟩=>?_))));exact wpAny_release ⟨σ,η,ε,γ⟩
noncomputable abbrev tAsg (te:TE) (g:TG):TS:=λD σ H=>te σ H λx H1=>g x σ H1 D.nx
theorem sF {tg e:z3} {te:TE} {g:TG} (he:PE X e te) (α:PG X tg g) (hs:swapsWithSole [tg] e pos.line X.env=pure false:=by rfl) (hw:swappedStores [tg] e X.env=pure none:=by rfl)
  (h1:(assignEach [tg] X.env).map (·.2)=[assign tg X.env]:=by rfl):PS X (.Assign [tg] e pos) (tAsg te g):=by
 intro pins s σ H D I h;refine wpAny_Assign_stores (thn (he pins s σ H _ I h) λv L ⟨x,H1,O,Y,Z⟩=>?_) hs hw;rw[h1];exact thn (α pins L σ H1 x v _ O Y Z) λ_ β q=>q
theorem aO {i:Nat} {x:ic} {e:z3} {te:TE} {pos':Pos} (Z:X.N.Nodup) (hi:X.N[i]? =ag x) (hx:Loc X.env.scope x) (he:PE X e te) (hs:swapsWith e (ag (.Name x pos')) pos.line X.env=pure false:=by rfl) (hf:X.fn x=true∨X.env.scope.names.lookup x=ag .local:=by first | exact .inl rfl | exact .inr rfl | assumption):
  PS X (.Assign [.Name x pos'] e pos) (tAsg te (ES i)):=by
 intro pins s σ H D I h;refine wpAny_Assign_Name (thn (he pins s σ H _ I h) λv γ ⟨y,H1,O,L,Y⟩=>?_) hs;exact tE O Z hi hx L (fun β α=>⟨_,H1,α,Y⟩) hf
end
section
variable {X:Cx} {pos:Pos}
noncomputable def J9 (c:TT) (tb:TS):TS:=λD σ H=>∃W:Nat->St->Hp->Prop,(∃m,W m σ H)/\∀m σ H,W m σ H->
 c σ H λb H1=>if b=true then ∃N:St->Hp->Prop,(∀σ' H',N σ' H'->∃η,η < m/\W η σ' H')/\tb {D with nx:=N,ct:=N,bk:=D.nx} σ H1 else D.nx σ H1
theorem yR {c:z3} {body:cc OE} {tc:TT} {tb:TS} (ζ:PassesOwn (ph X.prog X.w) X.A X.env X.xe) (hc:PT X c tc) (hb:PSs X body tb):PS X (.While c body [] pos) (J9 tc tb):=by
 intro pins s σ H D I h;obtain⟨W,⟨ρ,w0⟩,Y⟩:=h;refine wpAny_While (codeAny_whileLoop (λn s'=>∃σ' H',Inv X pins σ' H' s'/\W n σ' H') ?_ ρ ⟨σ,H,I,w0⟩);rintro n ξ ⟨α,H1,O,ι⟩;refine Oq ζ (thn (hc pins ξ α H1 _ O (Y n α H1 ι)) λb ν ⟨H2,θ,φ⟩=>?_);cases b with
 | true=>
   obtain⟨N,Z,φ⟩:=φ;rw[kn rfl];refine Oq ζ (thn (hb pins ν α H2 _ θ φ) λf ο γ=>?_);cases f with
   | next=>
     obtain⟨L,β,ε,n3⟩:=γ;obtain⟨η,hm,δ⟩:=Z L β n3;exact⟨η,hm,L,β,ε,δ⟩
   | cont=>
     obtain⟨L,β,ε,n3⟩:=γ;obtain⟨η,hm,δ⟩:=Z L β n3;exact⟨η,hm,L,β,ε,δ⟩
   | brk=>exact γ
   | ret v=>exact γ
 | false=>
   rw[hQ hV];exact Qh ⟨α,H2,θ,φ⟩
end
structure It where
 go:Nat->Hp->Prop
 yld:Nat->Hp->V->Hp->Prop
 stop:Nat->Hp->Prop
def FpOk (X:Cx) (pins:B') (H:Hp) (b:eH):Prop:=
 H b=gs/\b≠X.env.locals/\b∉X.fs/\(b∈X.ex∨X.s₀.heap.objs.size<=b)/\(∀x c,X.env.cells.lookup x=ag c->c≠b)/\∀p∈X.pn++pins,p.1≠b
theorem Inv.fpOk {X:Cx} {pins:B'} {σ:St} {H H':Hp} {s:hN} {b:eH} (I:Inv X pins σ H s) (hb:s.heap.objs.size<=b) (hn:H' b=gs):FpOk X pins H' b:=by
 refine⟨hn,P2 (uj I.lt hb),I.nofs hb,.inr (NK I.sz hb),λx c e z=>?_,λp L z=>?_⟩
 ·obtain⟨v,q⟩:=I.cell x c e;exact ik (uj q.lt (by rw[z];exact hb)) (NS _)
 ·exact ik (uj (hL (I.pin p L).1) (by rw[z];exact hb)) (NS _)
structure Turn (P:ry) (w:zt) (K:a') (tg:z3) (J:It) (fp:D') (it:eH) (tn:Nat->MT->Prop):Prop where
 mem:it∈fp
 obj:∀i h,tn i h->∀b∈fp,∃o,h.get? b=ag o/\∀v,o.data≠.cell v
 keep:∀i h h',tn i h->(∀b∈fp,∀o,h.get? b=ag o->h'.get? b=ag o)->tn i h'
 item:∀(X:Cx),X.prog=P->X.w=w->X.K=K->X.calm=true->∀(i:Nat) (pins:B') (s:hN) (σ:St) (H:Hp) (E:B2),Inv X pins σ H s->(∀b∈fp,FpOk X pins H b)->tn i s.heap->J.go i H->
  ll (ph P w) X.A (pyNext (.ref it)) (λr s1=>∃u,r=ag u/\
   ll (ph P w) X.A (letOwnedTupleGo tg (.ref it) u) (λ_ s2=>∃x H',Inv X pins σ H' s2/\RelV x u/\J.yld i H x H'/\tn (i + 1) s2.heap/\∀b∈fp,H' b=gs) E s1) E s
 done:∀(X:Cx),X.prog=P->X.w=w->X.K=K->X.calm=true->∀(i:Nat) (pins:B') (s:hN) (σ:St) (H:Hp) (E:B2),Inv X pins σ H s->(∀b∈fp,FpOk X pins H b)->tn i s.heap->J.stop i H->
  ll (ph P w) X.A (pyNext (.ref it)) (λr s1=>r=gs/\Inv X pins σ H s1) E s
 self:∀(A:zx) (i:Nat) (s:hN) (Q:B2) (E:B2),tn i s.heap->Q (.ref it) s->ll (ph P w) A (pyIter (.ref it)) Q E s
noncomputable abbrev TI:=St->Hp->(It->Hp->Prop)->Prop
def PIE (X:Cx) (pins:B') (σ:St) (tg:z3) (R:It->Hp->Prop) (L:iv) (O:hN):Prop:=
 ∃(Y:eH) (fp:D') (tn:Nat->MT->Prop) (J:It) (H':Hp),L= .ref Y/\Inv X pins σ H' O/\Turn X.prog X.w X.K tg J fp Y tn/\tn 0 O.heap/\(∀b∈fp,FpOk X pins H' b)/\R J H'
def PI (X:Cx) (tg iter:z3) (ζ:TI):Prop:=
 ∀(pins:B') (s:hN) (σ:St) (H:Hp) (R:It->Hp->Prop),Inv X pins σ H s->ζ σ H R->
  ll (ph X.prog X.w) X.A (eval iter X.env) (λv L=>ll (ph X.prog X.w) X.A (pyIter v) (PIE X pins σ tg R) X.xe L) X.xe s
theorem GW {M:Model} {A:zx} {E:B2} {s:hN} {tg:z3} {O:eH} {u:iv} {o:Rk} {n:Np} {vs:CL} {Q:CN} (ho:s.heap.get? O=ag o) (hc:o.cls= .type n) (hd:o.data= .fields vs)
  (hn:["enumerate","zip","dict_itemiterator","dict_reverseitemiterator","odict_iterator","itertools.zip_longest","itertools.pairwise"].contains n=false) (L:Q () s):ll M A (letOwnedTupleGo tg (.ref O) u) Q E s:=by
 unfold letOwnedTupleGo
 cases tg<;>first
  | exact ix L
  | (cases u<;>first
    | exact ix L
    | (refine fI (wpAny_load ho ?_)
       rw[hc,hd];show ll M A (if (["enumerate","zip","dict_itemiterator","dict_reverseitemiterator","odict_iterator","itertools.zip_longest","itertools.pairwise"].contains n&&vs[0]? == ag (rawInt _))=true then _ else _) Q E s;rw[hQ (by intro h;rw[hn,Pc] at h;cases h)];exact ix L))
noncomputable def Itl (K:a') (a:eH):It:=
 ⟨λi H=>∃xs x,SqL K H a xs/\xs[i]? =ag x,λi H x H'=>H'=H/\∀xs,SqL K H a xs->xs[i]? =ag x,λi H=>∃xs,SqL K H a xs/\xs.length<=i⟩
noncomputable def Itt (K:a') (a:eH):It:=
 ⟨λi H=>∃xs x,SqT K H a xs/\xs[i]? =ag x,λi H x H'=>H'=H/\∀xs,SqT K H a xs->xs[i]? =ag x,λi H=>∃xs,SqT K H a xs/\xs.length<=i⟩
noncomputable def Itr (lo:Int) (n:Nat):It:=⟨λi _=>i < n,λi H x H'=>H'=H/\x= .int (lo + i),λi _=>n<=i⟩
theorem CF {P:ry} {w:zt} {K:a'} {tg:z3} (a Y:eH):Turn P w K tg (Itl K a) [Y] Y (λi h=>h.IsListIter Y a i) where
 mem:=by simp
 obj:=λi h st b hb=>by
  have e:b=Y:=by simpa using hb
  subst e;obtain⟨o,e,c,d⟩:=st;exact⟨o,e,λv z=>by rw[d] at z;cases z⟩
 keep:=λi h h' st k=>st.at λo e=>k Y @F o e
 item:=by
  intro X ρ δ η θ i pins s σ H E I hf st ε;subst ρ δ η;obtain⟨xs,x,β,γ⟩:=ε;obtain⟨its,rv,p,hz⟩:=I.list β;obtain⟨u,Z,τ⟩:=rv.get γ;obtain⟨O,ζ,π,L,ξ,ν⟩:=hf Y @F;refine wpAny_pyNext_list_item st p.isList (x:=u) (by simpa using Z) λh' α ι=>?_;have φ:Inv X pins σ H {s with heap:=h'}:=I.turned (t':=s.toks) (λb o hb e=>(ι.2 b hb).trans e) O ζ L ξ ν;obtain⟨o,e,c,d⟩:=id α;exact⟨u,rfl,GW (s:={s with heap:=h'}) e c d @C ⟨x,H,φ,τ,⟨rfl,λys ο=>by rw[I.list_inj ο β];exact γ⟩,α,λb hb=>(hf b hb).1⟩⟩
 done:=by
  intro X ρ δ η θ i pins s σ H E I hf st ε;subst ρ δ η;obtain⟨xs,β,γ⟩:=ε;obtain⟨its,rv,p,hz⟩:=I.list β;obtain⟨O,ζ,π,L,ξ,ν⟩:=hf Y @F;have hl:=rv.length;exact wpAny_pyNext_list_end (I.ok.hd θ) st p.isList (by simp;omega) λh' υ=>⟨rfl,I.turned (t':=s.toks) (λb o hb e=>υ b o hb e) O ζ L ξ ν⟩
 self:=λ_ _ _ _ _ st h=>wpAny_pyIter_listiter st h
theorem zK {P:ry} {w:zt} {K:a'} {tg:z3} (a Y:eH):Turn P w K tg (Itt K a) [Y] Y (λi h=>h.IsTupleIter Y a i) where
 mem:=by simp
 obj:=λi h st b hb=>by
  have e:b=Y:=by simpa using hb
  subst e;obtain⟨o,e,c,d⟩:=st;exact⟨o,e,λv z=>by rw[d] at z;cases z⟩
 keep:=λi h h' st k=>st.at λo e=>k Y @F o e
 item:=by
  intro X ρ δ η θ i pins s σ H E I hf st ε;subst ρ δ η;obtain⟨xs,x,β,γ⟩:=ε;obtain⟨its,rv,p,hz⟩:=I.tuple β;obtain⟨u,Z,τ⟩:=rv.get γ;obtain⟨O,ζ,π,L,ξ,ν⟩:=hf Y @F;refine wpAny_pyNext_tuple_item st (show s.heap.IsTuple a its.toArray from p) (x:=u) (by simpa using Z) λh' α ι=>?_;have φ:Inv X pins σ H {s with heap:=h'}:=I.turned (t':=s.toks) (λb o hb e=>(ι.2 b hb).trans e) O ζ L ξ ν;obtain⟨o,e,c,d⟩:=id α;exact⟨u,rfl,GW (s:={s with heap:=h'}) e c d @C ⟨x,H,φ,τ,⟨rfl,λys ο=>by rw[I.tuple_inj ο β];exact γ⟩,α,λb hb=>(hf b hb).1⟩⟩
 done:=by
  intro X ρ δ η θ i pins s σ H E I hf st ε;subst ρ δ η;obtain⟨xs,β,γ⟩:=ε;obtain⟨its,rv,p,hz⟩:=I.tuple β;obtain⟨O,ζ,π,L,ξ,ν⟩:=hf Y @F;have hl:=rv.length;exact wpAny_pyNext_tuple_end (I.ok.hd θ) st (show s.heap.IsTuple a its.toArray from p) (by simp;omega) λh' υ=>⟨rfl,I.turned (t':=s.toks) (λb o hb e=>υ b o hb e) O ζ L ξ ν⟩
 self:=λ_ _ _ _ _ st h=>wpAny_pyIter_tupleiter st h
theorem zL {P:ry} {w:zt} {K:a'} {tg:z3} (Y:eH) (lo:Int) (n:Nat):Turn P w K tg (Itr lo n) [Y] Y (λi h=>IsRangeIter h Y (lo + (i:Nat) * 1) ((n:Int) - (i:Nat)) 1) where
 mem:=by simp
 obj:=λi h st b hb=>by
  have e:b=Y:=by simpa using hb
  subst e
  exact⟨_,st,λv z=>by
   have ε:Data.fields _=Data.cell v:=z;cases ε⟩
 keep:=λi h h' st k=>k Y @F _ st
 item:=by
  intro X ρ α η γ i pins s σ H E I hf st β;subst ρ α η;obtain⟨O,δ,ι,L,ξ,ν⟩:=hf Y @F;have W:=Walks.range (prog:=X.prog) (w:=X.w) (I.ok.hd γ) Y lo 1 n;refine W.item i s _ _ β st λv h' tk θ Z ζ=>?_;obtain⟨t,rfl⟩:=θ;have π:Inv X pins σ H {s with heap:=h',toks:=tk}:=I.turned (λb o hb e=>ζ b o (by simpa using hb) e) O δ L ξ ν;refine⟨_,rfl,GW (s:={s with heap:=h',toks:=tk}) (n:="range_iterator") Z rfl rfl @C ⟨.int (lo + i),H,π,⟨t,?_⟩,⟨rfl,rfl⟩,Z,λb hb=>(hf b hb).1⟩⟩;rw[Int.mul_one]
 done:=by
  intro X ρ α η γ i pins s σ H E I hf st β;subst ρ α η;obtain⟨O,δ,ι,L,ξ,ν⟩:=hf Y @F;exact wpAny_pyNext_range_end (I.ok.hd γ) st (by have:n<=i:=β;omega) λh' ο=>⟨rfl,I.turned (t':=s.toks) (λb o hb e=>ο b o hb e) O δ L ξ ν⟩
 self:=λ_ _ _ _ _ st h=>wpAny_pyIter_rangeiter st h
section
variable {X:Cx} {tg:z3}
noncomputable abbrev Lr (K:a') (tl:TE):TI:=fun σ H R=>tl σ H λx H1=>∃a,x= .ref a/\(∃xs,SqL K H1 a xs)/\R (Itl K a) H1
noncomputable abbrev iTup (K:a') (tl:TE):TI:=fun σ H R=>tl σ H λx H1=>∃a,x= .ref a/\(∃xs,SqT K H1 a xs)/\R (Itt K a) H1
theorem IY {l:z3} {tl:TE} (hl:PE X l tl):PI X tg l (Lr X.K tl):=by
 intro pins s σ H R I h;refine thn (hl pins s σ H _ I h) λv L ⟨x,H1,I1,O,Y⟩=>?_;obtain⟨a,e,⟨xs,Z⟩,q⟩:=Y;subst e;cases O;obtain⟨its,rv,p,hz⟩:=I1.list Z;refine OU p.isList ?_;refine⟨L.heap.objs.size,[L.heap.objs.size],_,_,H1,rfl,I1.kept (t':=L.toks) λb o e=>eW _ e,CF a _,⟨_,kv _ rfl,rfl,rfl⟩,λb hb=>?_,q⟩;have e:b=L.heap.objs.size:=by simpa using hb
 subst e;exact I1.fpOk (qb _) (I1.hok.fresh (qb _))
theorem K0 {l:z3} {tl:TE} (hl:PE X l tl):PI X tg l (iTup X.K tl):=by
 intro pins s σ H R I h;refine thn (hl pins s σ H _ I h) λv L ⟨x,H1,I1,O,Y⟩=>?_;obtain⟨a,e,⟨xs,Z⟩,q⟩:=Y;subst e;cases O;obtain⟨its,rv,p,hz⟩:=I1.tuple Z;refine Pw (show L.heap.IsTuple a its.toArray from p) ?_;refine⟨L.heap.objs.size,[L.heap.objs.size],_,_,H1,rfl,I1.kept (t':=L.toks) λb o e=>eW _ e,zK a _,⟨_,kv _ rfl,rfl,rfl⟩,λb hb=>?_,q⟩;have e:b=L.heap.objs.size:=by simpa using hb
 subst e;exact I1.fpOk (qb _) (I1.hok.fresh (qb _))
theorem GA {pins:B'} {σ:St} {H:Hp} {s:hN} {R:It->Hp->Prop} {E:B2} {lo hi:Int} {t u v:Tok} {tk:Nat} (I:Inv X pins σ H s) (h1: -(2 ^ 62)<=lo) (h2:lo < 2 ^ 62) (h3: -(2 ^ 62)<=hi) (ε:hi < 2 ^ 62)
  (q:R (Itr lo (hi - lo).toNat) H):ll (ph X.prog X.w) X.A (pyIter (.ref s.heap.objs.size)) (PIE X pins σ tg R) E {s with heap:=s.heap.push {cls:= .type "range",data:= .fields #[.int lo t,.int hi u,.int 1 v]},toks:=tk}:=by
 refine wpAny_pyIter_range (IsRange.new ..) (small_one h1 h2 h3 ε) ?_;have I1:Inv X pins σ H {s with heap:=s.heap.push {cls:= .type "range",data:= .fields #[.int lo t,.int hi u,.int 1 v]},toks:=tk}:=I.kept λb o e=>eW _ e
 refine⟨(s.heap.push {cls:= .type "range",data:= .fields #[.int lo t,.int hi u,.int 1 v]}).objs.size,[(s.heap.push {cls:= .type "range",data:= .fields #[.int lo t,.int hi u,.int 1 v]}).objs.size],_,_,H,rfl,
  I1.kept (t':=tk) λb o e=>eW _ e,zL _ lo (hi - lo).toNat,?_,λb hb=>?_,q⟩
 ·have O:lo + ((0:Nat):Int) * 1=lo:=by simp
  have L:(((hi - lo).toNat:Nat):Int) - ((0:Nat):Int)=Builtin.Range.rangeSize lo hi 1:=by rw[rangeSize_one];split<;>omega
  show IsRangeIter _ _ (lo + ((0:Nat):Int) * 1) ((((hi - lo).toNat:Nat):Int) - ((0:Nat):Int)) 1;rw[O,L];exact kv _ rfl
 ·have e:b=(s.heap.push {cls:= .type "range",data:= .fields #[.int lo t,.int hi u,.int 1 v]}).objs.size:=by simpa using hb
  subst e;exact I1.fpOk (qb _) (I1.hok.fresh (qb _))
noncomputable abbrev MG (ta:TA):TI:=fun σ H R=>ta σ H λvs H1=>∃j:Int,vs=[.int j]/\-(2 ^ 62)<=j/\j < 2 ^ 62/\R (Itr 0 j.toNat) H1
theorem eQ {a:z3} {ta:TA} {p pos:Pos} (α:Gl X "range") (hm:X.mg "range"=gs) (ha:PA X [a] ta) (hs:oD [a] X.env=[(false,eval a X.env)]:=by rfl):PI X tg (.Call (.Name "range" p) [a] [] pos) (MG ta):=by
 intro pins s σ H R I h;refine SB (kh I α hm boot_range (N3 (thn (ha pos pins s σ H _ I h) λus β ⟨vs,H1,O,Z,L⟩=>?_) hs rfl));obtain⟨j,e,L,φ,q⟩:=L;subst e;cases Z with
 | cons r Y=>
   cases Y;obtain⟨t,rfl⟩:=r;exact call_range_1 (GA O @A @A L φ (by simpa using q))
noncomputable def tFor (ζ:TI) (g:TG) (tb:TS):TS:=λD σ H=>ζ σ H λJ H1=>∃W:Nat->Nat->St->Hp->Prop,(∃m,W 0 m σ H1)/\∀i m σ H,W i m σ H->
 (J.stop i H/\D.nx σ H)∨(J.go i H/\∃N:St->Hp->Prop,(∀σ' H',N σ' H'->∃η,η < m/\W (i + 1) η σ' H')/\∀x H',J.yld i H x H'->g x σ H' λL H2=>tb {D with nx:=N,ct:=N,bk:=D.nx} L H2)
noncomputable def vt (fp:D') (h:MT):B':=fp.filterMap λb=>(h.get? b).map λo=>(b,o)
theorem kH {fp:D'} {h:MT} {b:eH} {o:Rk} (hb:b∈fp) (e:h.get? b=ag o):(b,o)∈vt fp h:=Sh.mpr ⟨b,hb,by rw[e];rfl⟩
theorem DY {fp:D'} {h:MT} {p:eH×Rk} (L:p∈vt fp h):p.1∈fp/\h.get? p.1=ag p.2:=by
 obtain⟨b,hb,e⟩:=Sh.mp L;cases q:h.get? b with
 | none=>rw[q] at e;cases e
 | some o=>
   rw[q] at e;have O:(b,o)=p:=ui e;subst O;exact⟨hb,q⟩
theorem Inv.pinned {pins:B'} {σ:St} {H:Hp} {s:hN} {fp:D'} (I:Inv X pins σ H s) (hf:∀b∈fp,FpOk X pins H b) (ho:∀b∈fp,∃o,s.heap.get? b=ag o/\∀v,o.data≠.cell v):Inv X (pins++vt fp s.heap) σ H s:=
 I.pins_of λp Y=>(lx.mp Y).elim (λz=>I.pin p (p' _ z)) λz=>by
  obtain⟨hb,e⟩:=DY z;obtain⟨O,α,Z,_⟩:=hf p.1 hb;obtain⟨o,L,d⟩:=ho p.1 hb;rw[e] at L;cases L;exact⟨e,O,α,Z,d⟩
theorem Inv.unpinned {pins pl:B'} {σ:St} {H:Hp} {s:hN} (I:Inv X (pins++pl) σ H s):Inv X pins σ H s:=I.pins_of λp L=>I.pin p (p' _ (pT _ L))
theorem eO {iter:z3} {body:cc OE} {ζ:TI} {g:TG} {tb:TS} {pos:Pos} (ι:PassesOwn (ph X.prog X.w) X.A X.env X.xe) (hc:X.calm=true) (hi:PI X tg iter ζ) (hg:PG X tg g) (hb:PSs X body tb)
  (hs:∀x,foldedSetIterable iter X.env x=pure x:=by intro _;rfl):PS X (.For tg iter body [] pos) (tFor ζ g tb):=by
 intro pins s σ H D I h;refine wpAny_For (thn (hi pins s σ H _ I h) λv s1 h1=>thn h1 λa0 s2 h2=>?_) hs;obtain⟨it,fp,tn,J,H2,e,I2,T,π,f2,W,⟨ρ,w0⟩,γ⟩:=h2;subst e;have α:∀{H':Hp},(∀b∈fp,H' b=gs)->∀b∈fp,FpOk X pins H' b:=λhn b hb=>⟨hn b hb,(f2 b hb).2⟩;refine codeAny_forLoop_any (λn s'=>∃i σ' H',Inv X pins σ' H' s'/\tn i s'.heap/\(∀b∈fp,H' b=gs)/\W i n σ' H') ?_ ρ ⟨0,σ,H2,I2,π,λb hb=>(f2 b hb).1,w0⟩;rintro n s3 ⟨i,Y,ξ,I3,δ,ν,w3⟩;rcases γ i n Y ξ w3 with ⟨stop,qn⟩ | ⟨go,N,Z,step⟩
 ·refine Oq ι (thn (T.done X rfl rfl rfl hc i pins s3 Y ξ X.xe I3 (α ν) δ stop) λr s4 ⟨υ,I4⟩=>?_);subst υ;exact Qh ⟨Y,ξ,I4,qn⟩
 ·refine Oq ι (thn (T.item X rfl rfl rfl hc i pins s3 Y ξ X.xe I3 (α ν) δ go) λr s4 ⟨u,υ,ε⟩=>?_);subst υ;refine Oq ι (thn ε λ_ χ ⟨x,H5,I5,r5,y5,O,φ⟩=>?_);have ψ:=I5.pinned (α φ) (T.obj _ _ O);refine Oq ι (thn (hg _ χ Y H5 x u _ ψ r5 (step x H5 y5)) λ_ s6 ⟨ο,H6,I6,q6⟩=>?_);refine Oq ι (thn (hb _ s6 ο H6 _ I6 q6) λf τ β=>?_)
  have again:∀{L:St} {H7:Hp},Inv X (pins++vt fp χ.heap) L H7 τ->N L H7->∃m,m < n/\∃i σ' H',Inv X pins σ' H' τ/\tn i τ.heap/\(∀b∈fp,H' b=gs)/\W i m σ' H':=λ{L H7} I7 θ=>by
   obtain⟨η,hm,w7⟩:=Z L H7 θ;refine⟨η,hm,i + 1,L,H7,I7.unpinned,T.keep _ _ _ O λb hb o e=>(I7.pin (b,o) (p' _ (p' _ (kH hb e)))).1,λb hb=>?_,w7⟩;obtain⟨o,e,d⟩:=T.obj _ _ O b hb;exact(I7.pin (b,o) (p' _ (p' _ (kH hb e)))).2.1
  cases f with
  | next=>obtain⟨L,H7,I7,θ⟩:=β;exact again I7 θ
  | cont=>obtain⟨L,H7,I7,θ⟩:=β;exact again I7 θ
  | brk=>obtain⟨L,H7,I7,β⟩:=β;exact⟨L,H7,I7.unpinned,β⟩
  | ret v=>obtain⟨x7,L,H7,I7,ω,β⟩:=β;exact⟨x7,L,H7,I7.unpinned,ω,β⟩
end
theorem kJ {K:a'} {a:eH} {xs:cc V} {g:TG} {tb:TS} {D:Ends} {σ:St} {H:Hp} (L:Nat->St->Hp->Prop) (α:L 0 σ H) (hl:∀i σ H,i<=xs.length->L i σ H->SqL K H a xs)
  (hs:∀i x σ H,xs[i]? =ag x->L i σ H->g x σ H λO H2=>tb {D with nx:=L (i + 1),ct:=L (i + 1),bk:=D.nx} O H2) (hd:∀σ H,L xs.length σ H->D.nx σ H):
  ∃W:Nat->Nat->St->Hp->Prop,(∃m,W 0 m σ H)/\∀i m σ H,W i m σ H->
    ((Itl K a).stop i H/\D.nx σ H)∨((Itl K a).go i H/\∃N:St->Hp->Prop,(∀σ' H',N σ' H'->∃η,η < m/\W (i + 1) η σ' H')/\∀x H',(Itl K a).yld i H x H'->g x σ H' λO H2=>tb {D with nx:=N,ct:=N,bk:=D.nx} O H2):=by
 refine⟨λi m σ H=>m=xs.length - i/\i<=xs.length/\L i σ H,⟨xs.length,@F,N2 _,α⟩,?_⟩;rintro i m σ H ⟨rfl,hi,p⟩;have q:=hl i σ H hi p;by_cases Y:i < xs.length
 ·refine .inr ⟨⟨xs,xs[i],q,by simp[Y]⟩,L (i + 1),fun σ' H' Z=>⟨xs.length - (i + 1),by omega,rfl,Y,Z⟩,λx H' y=>?_⟩;obtain⟨e,y⟩:=y;subst e;exact hs i x σ _ (y xs q) p
 ·have e:i=xs.length:=by omega
  subst e;exact .inl ⟨⟨xs,q,qb _⟩,hd σ H p⟩
theorem uk {K:a'} {a:eH} {xs:cc V} {g:TG} {tb:TS} {D:Ends} {σ:St} {H:Hp} (L:Nat->St->Hp->Prop) (α:L 0 σ H) (hl:∀i σ H,i<=xs.length->L i σ H->SqT K H a xs)
  (hs:∀i x σ H,xs[i]? =ag x->L i σ H->g x σ H λO H2=>tb {D with nx:=L (i + 1),ct:=L (i + 1),bk:=D.nx} O H2) (hd:∀σ H,L xs.length σ H->D.nx σ H):
  ∃W:Nat->Nat->St->Hp->Prop,(∃m,W 0 m σ H)/\∀i m σ H,W i m σ H->
    ((Itt K a).stop i H/\D.nx σ H)∨((Itt K a).go i H/\∃N:St->Hp->Prop,(∀σ' H',N σ' H'->∃η,η < m/\W (i + 1) η σ' H')/\∀x H',(Itt K a).yld i H x H'->g x σ H' λO H2=>tb {D with nx:=N,ct:=N,bk:=D.nx} O H2):=by
 refine⟨λi m σ H=>m=xs.length - i/\i<=xs.length/\L i σ H,⟨xs.length,@F,N2 _,α⟩,?_⟩;rintro i m σ H ⟨rfl,hi,p⟩;have q:=hl i σ H hi p;by_cases Y:i < xs.length
 ·refine .inr ⟨⟨xs,xs[i],q,by simp[Y]⟩,L (i + 1),fun σ' H' Z=>⟨xs.length - (i + 1),by omega,rfl,Y,Z⟩,λx H' y=>?_⟩;obtain⟨e,y⟩:=y;subst e;exact hs i x σ _ (y xs q) p
 ·have e:i=xs.length:=by omega
  subst e;exact .inl ⟨⟨xs,q,qb _⟩,hd σ H p⟩
theorem ib {lo:Int} {n:Nat} {g:TG} {tb:TS} {D:Ends} {σ:St} {H:Hp} (Y:Nat->St->Hp->Prop) (α:Y 0 σ H)
  (hs:∀i σ H,i < n->Y i σ H->g (.int (lo + i)) σ H λL H2=>tb {D with nx:=Y (i + 1),ct:=Y (i + 1),bk:=D.nx} L H2) (hd:∀σ H,Y n σ H->D.nx σ H):
  ∃W:Nat->Nat->St->Hp->Prop,(∃m,W 0 m σ H)/\∀i m σ H,W i m σ H->
    ((Itr lo n).stop i H/\D.nx σ H)∨((Itr lo n).go i H/\∃N:St->Hp->Prop,(∀σ' H',N σ' H'->∃η,η < m/\W (i + 1) η σ' H')/\∀x H',(Itr lo n).yld i H x H'->g x σ H' λL H2=>tb {D with nx:=N,ct:=N,bk:=D.nx} L H2):=by
 refine⟨λi m σ H=>m=n - i/\i<=n/\Y i σ H,⟨n,@F,N2 _,α⟩,?_⟩;rintro i m σ H ⟨rfl,hi,p⟩;by_cases O:i < n
 ·refine .inr ⟨O,Y (i + 1),fun σ' H' Z=>⟨n - (i + 1),by omega,rfl,O,Z⟩,λx H' y=>?_⟩;obtain⟨e,y⟩:=y;subst e y;exact hs i σ _ O p
 ·have e:i=n:=by omega
  subst e;exact .inl ⟨qb _,hd σ H p⟩
noncomputable abbrev R2:=V->V->Hp->VK->Prop
def OpR (X:Cx) (f:iv->iv->Sem iv) (r:R2):Prop:=
 ∀(pins:B') (s:hN) (σ:St) (H:Hp) (x y:V) (v u:iv) (Q:VK),Inv X pins σ H s->RelV x v->RelV y u->r x y H Q->
  ll (ph X.prog X.w) X.A (f v u) (EP X pins σ Q) X.xe s
def nO (X:Cx) (f:iv) (r:cc V->Hp->VK->Prop):Prop:=
 ∀(pins:B') (s:hN) (σ:St) (H:Hp) (xs:cc V) (us:CB) (Q:VK),Inv X pins σ H s->Vals xs us->r xs H Q->
  ll (ph X.prog X.w) X.A (call f us) (EP X pins σ Q) X.xe s
noncomputable abbrev tOp (r:R2) (ta tb:TE):TE:=fun σ H Q=>ta σ H λx H1=>tb σ H1 λy H2=>r x y H2 Q
noncomputable def rI (C:Int->Int->Prop) (g:Int->Int->V):R2:=λx y H Q=>∃i j,x= .int i/\y= .int j/\C i j/\Q (g i j) H
noncomputable def rI0 (g:Int->Int->V):R2:=λx y H Q=>∃i j,x= .int i/\y= .int j/\Q (g i j) H
section
variable {X:Cx} {a b c:z3} {ta tb tc:TE} {pos:Pos}
theorem binT (ha:PE X a ta) (hb:PE X b tb) {pins:B'} {s:hN} {σ:St} {H:Hp} {R:V->V->Hp->Prop} (I:Inv X pins σ H s)
  (h:ta σ H λx H1=>tb σ H1 λy H2=>R x y H2) {Q:B2} {f:iv->iv->Sem iv}
  (hf:∀v u Z x y H2,Inv X pins σ H2 Z->RelV x v->RelV y u->R x y H2->ll (ph X.prog X.w) X.A (f v u) Q X.xe Z):
  ll (ph X.prog X.w) X.A (eval a X.env) (λv Y=>ll (ph X.prog X.w) X.A (eval b X.env) (λu L=>ll (ph X.prog X.w) X.A (f v u) Q X.xe L) X.xe Y) X.xe s:=by
 refine thn (ha pins s σ H _ I h) λv α ⟨x,H1,O,β,γ⟩=>?_;refine thn (hb pins α σ H1 _ O γ) λu Z ⟨y,H2,δ,υ,φ⟩=>?_;exact hf v u Z x y H2 δ β υ φ
theorem aE {L:Operator} {r:R2} (ho:OpR X (binaryOp L) r) (ha:PE X a ta) (hb:PE X b tb):PE X (.BinOp a L b pos) (tOp r ta tb):=by
 intro pins s σ H Q I h;exact wpAny_BinOp (binT ha hb I h λv u O x y H2 α Z Y q=>ho pins O σ H2 x y v u Q α Z Y q)
theorem opI {f:iv->iv->Sem iv} {C:Int->Int->Prop} {g:Int->Int->Int}
  (rule:∀(i j:Int) (t u:Tok) (s:hN) (Q:B2) (E:B2),C i j->Q (.int (g i j) s.toks) {s with toks:=s.toks + 1}->ll (ph X.prog X.w) X.A (f (.int i t) (.int j u)) Q E s):
  OpR X f (rI C λi j=> .int (g i j)):=by
 intro pins s σ H x y v u Q I O L h;obtain⟨i,j,rfl,rfl,Y,q⟩:=h;obtain⟨t,rfl⟩:=O;obtain⟨t',rfl⟩:=L;exact rule i j t t' s _ _ Y ⟨.int (g i j),H,I.tok _,⟨_,rfl⟩,q⟩
theorem opI0 {f:iv->iv->Sem iv} {g:Int->Int->Int}
  (rule:∀(i j:Int) (t u:Tok) (s:hN) (Q:B2) (E:B2),Q (.int (g i j) s.toks) {s with toks:=s.toks + 1}->ll (ph X.prog X.w) X.A (f (.int i t) (.int j u)) Q E s):
  OpR X f (rI0 λi j=> .int (g i j)):=by
 intro pins s σ H x y v u Q I O L h;obtain⟨i,j,rfl,rfl,q⟩:=h;obtain⟨t,rfl⟩:=O;obtain⟨t',rfl⟩:=L;exact rule i j t t' s _ _ ⟨.int (g i j),H,I.tok _,⟨_,rfl⟩,q⟩
theorem opB0 {f:iv->iv->Sem iv} {g:Int->Int->N1}
  (rule:∀(i j:Int) (t u:Tok) (s:hN) (Q:B2) (E:B2),Q (.bool (g i j)) s->ll (ph X.prog X.w) X.A (f (.int i t) (.int j u)) Q E s):
  OpR X f (rI0 λi j=> .bl (g i j)):=by
 intro pins s σ H x y v u Q I O L h;obtain⟨i,j,rfl,rfl,q⟩:=h;obtain⟨t,rfl⟩:=O;obtain⟨t',rfl⟩:=L;exact rule i j t t' s _ _ ⟨.bl (g i j),H,I,rfl,q⟩
def CDiv (i j:Int):Prop:=0 < j/\j < 1073741824
def MO (i j:Int):Prop:=j≠0/\j.natAbs < 1073741824
def CPow (i j:Int):Prop:=0<=j/\j<=1000000/\i.natAbs < 2 ^ 64
def CMul (i j:Int):Prop:=(-(2 ^ 64) < i/\i < 2 ^ 64)∨(-(2 ^ 64) < j/\j < 2 ^ 64)
theorem CMul.ok {i j:Int} (h:CMul i j):IntMulOk i j:=by
 rcases h with ⟨h1,h2⟩ | ⟨h1,h2⟩
 ·exact .of_left (intBits_le_64 h1 h2)
 ·exact .of_right (intBits_le_64 h1 h2)
theorem cn:OpR X (binaryOp .Add) (rI0 λi j=> .int (i + j)):=opI0 λ_ _ _ _ _ _ _ q=>add_int q
theorem vx:OpR X (binaryOp .Sub) (rI0 λi j=> .int (i - j)):=opI0 λ_ _ _ _ _ _ _ q=>sub_int q
theorem p8:OpR X (binaryOp .Mult) (rI CMul λi j=> .int (i * j)):=opI λ_ _ _ _ _ _ _ hc q=>mul_int q hc.ok
theorem g9:OpR X (binaryOp .FloorDiv) (rI CDiv λi j=> .int (i / j)):=opI λi j _ _ _ _ _ hc q=>by
 have h1:(0:Int) < j:=hc.1;have h2:j < 1073741824:=hc.2;exact floordiv_int @A (by rw[Int.fdiv_eq_ediv_of_nonneg i @A];exact q) (.inl (PyProof.noPylong_small @A))
theorem bJ:OpR X (binaryOp .Mod) (rI (λ_ j=>0 < j) λi j=> .int (i % j)):=opI λi j _ _ _ _ _ hc q=>by
 have h1:(0:Int) < j:=hc;exact mod_int' @A (by rw[Int.fmod_eq_emod_of_nonneg i @A];exact q)
theorem yS:OpR X (binaryOp .Pow) (rI CPow λi j=> .int (i ^ j.toNat)):=opI λ_ _ _ _ _ _ _ hc q=>pow_int_small hc.1 hc.2.1 hc.2.2 q
end
noncomputable def scal:V->V->N1
 | .non,.non=>true | .non,.int _=>true | .int _,.non=>true | .non,.bl _=>true | .bl _,.non=>true | .non,.str _=>true | .str _,.non=>true
 | .int _,.int _=>true | .bl _,.bl _=>true | .str _,.str _=>true | .byt _,.byt _=>true
 | .int _,.str _=>true | .str _,.int _=>true | .bl _,.str _=>true | .str _,.bl _=>true
 | _,_=>false
noncomputable def rEq:R2:=λx y H Q=>scal x y=true/\Q (.bl (decide (x=y))) H
noncomputable def rNe:R2:=λx y H Q=>scal x y=true/\Q (.bl (!decide (x=y))) H
theorem E9 {i j:Int}:decide (V.int i=V.int j)=(i == j):=by
 rw[Nl];simp
theorem HF {i j:N1}:decide (V.bl i=V.bl j)=(i == j):=by
 rw[Nl];simp
theorem E8 {i j:ic}:decide (V.str i=V.str j)=(i == j):=by
 rw[Nl];simp
theorem Fb {i j:Qb UInt8}:decide (V.byt i=V.byt j)=(i.toList == j.toList):=by
 rw[Nl];cases i;cases j;simp
section
variable {X:Cx} {a b c:z3} {ta tb tc:TE} {pos:Pos}
theorem bT {pins:B'} {σ:St} {H:Hp} {s:hN} {Q:VK} {k L:N1} (I:Inv X pins σ H s) (q:Q (.bl k) H) (e:k=L):EP X pins σ Q (.bool L) s:=by
 subst e;exact⟨.bl k,H,I,rfl,q⟩
theorem gN:OpR X (compareOp .Eq) rEq:=by
 intro pins s σ H x y v u Q I O L h;obtain⟨hs,q⟩:=h;cases x with
 | non=>
   cases O;cases y with
   | non=>cases L;exact PySem.EqNone.eq_none_none (bT I q @F)
   | bl j=>cases L;exact PySem.EqNone.eq_none_bool (bT I q @F)
   | int j=>obtain⟨t',rfl⟩:=L;exact PySem.EqNone.eq_none_int (bT I q @F)
   | str j=>obtain⟨t',rfl⟩:=L;exact PySem.EqNone.eq_none_str (bT I q @F)
   | _=>exact ik (show false=true from hs) hV
 | bl i=>
   cases O;cases y with
   | non=>cases L;exact PySem.EqNone.eq_bool_none (bT I q @F)
   | bl j=>cases L;exact eq_bool (bT I q HF)
   | str j=>obtain⟨t',rfl⟩:=L;exact PySem.EqMixed.eq_bool_str (bT I q @F)
   | _=>exact ik (show false=true from hs) hV
 | int i=>
   obtain⟨t,rfl⟩:=O;cases y with
   | non=>cases L;exact PySem.EqNone.eq_int_none (bT I q @F)
   | int j=>obtain⟨t',rfl⟩:=L;exact eq_int (bT I q E9)
   | str j=>obtain⟨t',rfl⟩:=L;exact PySem.EqMixed.eq_int_str (bT I q @F)
   | _=>exact ik (show false=true from hs) hV
 | str i=>
   obtain⟨t,rfl⟩:=O;cases y with
   | non=>cases L;exact PySem.EqNone.eq_str_none (bT I q @F)
   | bl j=>cases L;exact PySem.EqMixed.eq_str_bool (bT I q @F)
   | int j=>obtain⟨t',rfl⟩:=L;exact PySem.EqMixed.eq_str_int (bT I q @F)
   | str j=>obtain⟨t',rfl⟩:=L;exact eq_str (bT I q E8)
   | _=>exact ik (show false=true from hs) hV
 | byt i=>
   obtain⟨t,rfl⟩:=O;cases y with
   | byt j=>obtain⟨t',rfl⟩:=L;exact PySem.W.eq_bytes (bT I q Fb)
   | _=>exact ik (show false=true from hs) hV
 | _=>cases y<;>exact ik (show false=true from hs) hV
theorem xC:OpR X (compareOp .NotEq) rNe:=by
 intro pins s σ H x y v u Q I O L h;obtain⟨hs,q⟩:=h;cases x with
 | non=>
   cases O;cases y with
   | non=>cases L;exact PySem.EqNone.ne_none_none (bT I q @F)
   | bl j=>cases L;exact PySem.EqNone.ne_none_bool (bT I q @F)
   | int j=>obtain⟨t',rfl⟩:=L;exact PySem.EqNone.ne_none_int (bT I q @F)
   | str j=>obtain⟨t',rfl⟩:=L;exact PySem.EqNone.ne_none_str (bT I q @F)
   | _=>exact ik (show false=true from hs) hV
 | bl i=>
   cases O;cases y with
   | non=>cases L;exact PySem.EqNone.ne_bool_none (bT I q @F)
   | bl j=>cases L;exact ne_bool (bT I q (K' not HF))
   | str j=>obtain⟨t',rfl⟩:=L;exact PySem.EqMixed.ne_bool_str (bT I q @F)
   | _=>exact ik (show false=true from hs) hV
 | int i=>
   obtain⟨t,rfl⟩:=O;cases y with
   | non=>cases L;exact PySem.EqNone.ne_int_none (bT I q @F)
   | int j=>obtain⟨t',rfl⟩:=L;exact ne_int (bT I q (K' not E9))
   | str j=>obtain⟨t',rfl⟩:=L;exact PySem.EqMixed.ne_int_str (bT I q @F)
   | _=>exact ik (show false=true from hs) hV
 | str i=>
   obtain⟨t,rfl⟩:=O;cases y with
   | non=>cases L;exact PySem.EqNone.ne_str_none (bT I q @F)
   | bl j=>cases L;exact PySem.EqMixed.ne_str_bool (bT I q @F)
   | int j=>obtain⟨t',rfl⟩:=L;exact PySem.EqMixed.ne_str_int (bT I q @F)
   | str j=>obtain⟨t',rfl⟩:=L;exact ne_str (bT I q (K' not E8))
   | _=>exact ik (show false=true from hs) hV
 | byt i=>
   obtain⟨t,rfl⟩:=O;cases y with
   | byt j=>obtain⟨t',rfl⟩:=L;exact PySem.W.ne_bytes (bT I q (K' not Fb))
   | _=>exact ik (show false=true from hs) hV
 | _=>cases y<;>exact ik (show false=true from hs) hV
theorem Aw:OpR X (compareOp .Lt) (rI0 λi j=> .bl (decide (i < j))):=opB0 λ_ _ _ _ _ _ _ q=>lt_int q
theorem K7:OpR X (compareOp .LtE) (rI0 λi j=> .bl (decide (i<=j))):=opB0 λ_ _ _ _ _ _ _ q=>le_int q
theorem nY:OpR X (compareOp .Gt) (rI0 λi j=> .bl (decide (j < i))):=opB0 λ_ _ _ _ _ _ _ q=>gt_int q
theorem p9:OpR X (compareOp .In) (λx y H Q=>∃i j,x= .str i/\y= .str j/\Q (.bl (!(NR j i 0 j.length 1).isEmpty)) H):=by
 intro pins s σ H x y v u Q I O L h;obtain⟨i,j,rfl,rfl,q⟩:=h;obtain⟨t,rfl⟩:=O;obtain⟨t',rfl⟩:=L;exact in_str (bT I q rfl)
theorem Hy:OpR X (compareOp .Is) (λx y H Q=>y= .non/\Q (.bl (decide (x= .non))) H):=by
 intro pins s σ H x y v u Q I L O h;obtain⟨rfl,q⟩:=h;cases O;refine is_none_gen (bT I q ?_)
 cases x<;>first
  | (cases L;rfl)
  | (obtain⟨t,rfl⟩:=L;rfl)
theorem Jc:OpR X (compareOp .IsNot) (λx y H Q=>y= .non/\Q (.bl (!decide (x= .non))) H):=by
 intro pins s σ H x y v u Q I L O h;obtain⟨rfl,q⟩:=h;cases O;refine isnot_none_gen (bT I q ?_)
 cases x<;>first
  | (cases L;rfl)
  | (obtain⟨t,rfl⟩:=L;rfl)
theorem aP (b:z3) {L:CmpOp} (h:L≠.In:=by decide) (h2:L≠.NotIn:=by decide):behindInMarks L b=false:=by
 have Y:(L == CmpOp.In)=false:=by cases L<;>first | rfl | exact ik rfl h
 have O:(L == CmpOp.NotIn)=false:=by cases L<;>first | rfl | exact ik rfl h2
 cases b<;>simp[behindInMarks,Y,O]
theorem ju {L:CmpOp} {r:R2} (ho:OpR X (compareOp L) r) (ha:PE X a ta) (hb:PE X b tb) (hm:behindInMarks L b=false):PE X (.Compare a [L] [b] pos) (tOp r ta tb):=by
 intro pins s σ H Q I h;exact wpAny_Compare1 (binT ha hb I h λv u O x y H2 α Z Y q=>ho pins O σ H2 x y v u Q α Z Y q) hm
noncomputable abbrev Ka (t:TE):TT:=fun σ H Q=>t σ H λx H'=>∃k,x= .bl k/\Q k H'
theorem ax {L:CmpOp} {r:R2} (ho:OpR X (compareOp L) r) (ha:PE X a ta) (hb:PE X b tb) (hm:behindInMarks L b=false):PT X (.Compare a [L] [b] pos) (Ka (tOp r ta tb)):=by
 intro pins s σ H Q I h
 refine Su (thn (ha pins s σ H _ I h) λv Z ⟨x,H1,O,β,δ⟩=>thn (hb pins Z σ H1 _ O δ) λu Y ⟨y,H2,ζ,υ,φ⟩=>
  thn (ho pins Y σ H2 x y v u _ ζ β υ φ) λc θ ⟨z,η,ε,α,k,e,γ⟩=>?_) hm
 subst e;cases α;exact NF ⟨η,ε,γ⟩
noncomputable abbrev Kh (r r':R2) (ta tb tc:TE):TE:=fun σ H Q=>ta σ H λx H1=>tb σ H1 λy H2=>r x y H2 λz L=>∃k,z= .bl k/\
 (if k=true then tc σ L λO Y=>r' y O Y Q else Q (.bl false) L)
theorem GC {L τ:CmpOp} {r r':R2} (ho:OpR X (compareOp L) r) (Y:OpR X (compareOp τ) r') (ha:PE X a ta) (hb:PE X b tb) (hc:PE X c tc)
  (hm:lastMarks [L,τ] [b,c]=false:=by with_unfolding_all rfl):PT X (.Compare a [L,τ] [b,c] pos) (Ka (Kh r r' ta tb tc)):=by
 intro pins s σ H Q I h
 refine isTrue_chain (thn (ha pins s σ H _ I h) λv ι ⟨x,H1,O,ο,ρ⟩=>test_link (thn (hb pins ι σ H1 _ O ρ) λu θ ⟨y,H2,I2,υ,φ⟩=>
  thn (ho pins θ σ H2 x y v u _ I2 ο υ φ) λd η ⟨z,β,α,ξ,k,e,Z⟩=>?_)) hm
 subst e;cases ξ;refine NF ?_;cases k with
 | false=>
   obtain⟨k',ω,χ⟩:=Z;cases ω;exact ite_ff ⟨β,α,χ⟩
 | true=>
   refine ite_tt (test_last (thn (hc pins η σ β _ α Z) fun ε ζ ⟨γ,H4,I4,r4,π⟩=>thn (Y pins ζ σ H4 y γ u ε _ I4 υ r4 π) λd' s5 ⟨z2,H5,I5,ν,k2,ψ,δ⟩=>?_));subst ψ;cases ν;exact NF ⟨H5,I5,δ⟩
theorem vJ:(jF:Nat) < 2 ^ 63:=by rw[hJ];decide
theorem cH:OpR X (binaryOp .Add) (λx y H Q=>∃i j,x= .str i/\y= .str j/\i.length + j.length<=jF/\Q (.str (i++j)) H):=by
 intro pins s σ H x y v u Q I O L h;obtain⟨i,j,rfl,rfl,hz,q⟩:=h;obtain⟨t,rfl⟩:=O;obtain⟨t',rfl⟩:=L;exact add_str (λt' tk=>⟨.str (i++j),H,I.tok _,⟨_,rfl⟩,q⟩) hz
theorem rK {x:V} {us:CB} (r:Vals [x] us):∃u,us=[u]/\RelV x u:=by
 cases r with
 | cons L υ=>cases υ;exact⟨_,rfl,L⟩
theorem J7 {x y:V} {us:CB} (r:Vals [x,y] us):∃u L,us=[u,L]/\RelV x u/\RelV y L:=by
 cases r with
 | cons Y υ=>
   cases υ with
   | cons O r4=>cases r4;exact⟨_,_,rfl,Y,O⟩
theorem wD:nO X (.type "str") (λxs H Q=>∃i,xs=[.int i]/\i.natAbs.log2 < 1920/\Q (.str (toString i)) H):=by
 intro pins s σ H xs us Q I r h;obtain⟨i,rfl,hz,q⟩:=h;obtain⟨u,rfl,t,rfl⟩:=rK r;exact PySem.P.str_of_int hz ⟨.str _,H,I.tok _,⟨_,rfl⟩,q⟩
def LenV (K:a') (x:V) (H:Hp) (n:Nat):Prop:=
 match x with
 | .str y=>y.length<=jF/\n=y.length
 | .byt y=>y.size<=jF/\n=y.size
 | .ref p=>(∃xs,SqL K H p xs/\n=xs.length)∨∃xs,SqT K H p xs/\n=xs.length
 | _=>False
theorem G6:nO X (.builtin "len") (λxs H Q=>∃x n,xs=[x]/\LenV X.K x H n/\Q (.int n) H):=by
 intro pins s σ H xs us Q I r h;obtain⟨x,n,rfl,e,q⟩:=h;obtain⟨u,rfl,Y⟩:=rK r;have hl:=vJ;have hs:jF=16777216:=hJ;cases x with
 | str y=>
   obtain⟨t,rfl⟩:=Y;obtain⟨α,O⟩:y.length<=jF/\n=y.length:=e;subst O;exact len_str @A ⟨.int _,H,I.tok _,⟨_,rfl⟩,q⟩
 | byt y=>
   obtain⟨t,rfl⟩:=Y;obtain⟨α,O⟩:y.size<=jF/\n=y.size:=e;subst O;exact PySem.W.len_bytes @A ⟨.int _,H,I.tok _,⟨_,rfl⟩,q⟩
 | ref p=>
   cases Y;have O:(∃xs,SqL X.K H p xs/\n=xs.length)∨∃xs,SqT X.K H p xs/\n=xs.length:=e;rcases O with ⟨xs,Z,O⟩ | ⟨xs,Z,O⟩
   ·subst O;obtain⟨its,r',pl,hz⟩:=I.list Z;have L:=r'.length;exact Calls.call_len_list pl.isList (by simp only[sv];omega) ⟨.int xs.length,H,I.tok _,⟨_,by simp only[sv];rw[L]⟩,q⟩
   ·subst O;obtain⟨its,r',pl,hz⟩:=I.tuple Z;have L:=r'.length;exact len_tuple pl (by simp only[sv];omega) ⟨.int xs.length,H,I.tok _,⟨_,by simp only[sv];rw[L]⟩,q⟩
 | _=>exact(show False from e).elim
end
structure ObjM (h:MT) (x dx C:eH) (mA:CD):Prop where
 obj:h.get? x=ag (NM C dx)
 ns:h.Ns1 dx mA
 ne:dx≠x
theorem vI {h:MT} {dx:eH} {mA:CD} (n:h.Ns1 dx mA):∃od,h.get? dx=ag od/\∀name,P6 name od=ag (mA name):=by
 obtain⟨o,es,Z,ho,hd,hk,_,hm⟩:=n;refine⟨o,ho,λname=>?_⟩;have e:=hm name;unfold nsFind findBy at e;rw[<-Array.find?_toList] at e;unfold P6;rw[hd];dsimp only;split
 ·rename_i y q;rw[q] at e;exact K' ag e
 ·rename_i q;rw[q] at e
  have a:es.toList.any (·.refKey)=false:=by
   rw[QJ];intro y O;obtain⟨z,t,L⟩:=hk y (Array.mem_toList_iff.mp O);simp[DictEntry.refKey,L]
  have Y:¬es.toList.any (·.refKey)=true:=by rw[a];exact hV
  rw[hQ Y];exact K' ag e
theorem ObjM.look {h:MT} {x dx C:eH} {mA:CD} (I:ObjM h x dx C mA):∃od,P7 h x (NM C dx) C (ag od)/\∀name,P6 name od=ag (mA name):=
 let ⟨od,ho,hl⟩:=vI I.ns
 ⟨od,⟨I.obj,rfl,rfl,ho⟩,hl⟩
section
variable {prog:ry} {w:zt} {A:zx} {E:B2} {s:hN} {K:a'} {x dx C f:eH} {mA:CD} {name:ic} {v:iv}
theorem aR {L:N1} {Q:B2} (X:K.In s.heap) (I:ObjM s.heap x dx C mA) (Y:Pn K C name=true) (θ:Of K C=true)
  (ha:wq K (.ref C) name=ag gs) (ρ:mA name=ag v) (O:Po v=true) (h:Q v {s with toks:=s.toks + 1}):
  ll (ph prog w) A (getAttr (.ref x) name L) Q E s:=by
 obtain⟨od,J,hl⟩:=I.look;exact PySem.W.get_value X J (Q0 Y).1 (RI θ ha rfl (by rw[hl,ρ])) O h
theorem GX {pl:Sem N1} {Q:iv×cc iv->hN->Prop} (X:K.In s.heap) (I:ObjM s.heap x dx C mA) (L:Pn K C name=true)
  (hf:wq K (.ref C) name=ag (ag (.ref f))) (O:Qq K (.ref f)=true) (ρ:mA name=gs) (h:Q (.ref f,[.ref x]) s):
  ll (ph prog w) A (getMethod (.ref x) name pl) Q E s:=by
 obtain⟨od,J,hl⟩:=I.look;exact PySem.W.method_fn X J (Q0 L).1 (Q0 L).2 hf (OP.mp O) (by show(P6 name od).map (·.isSome)=ag false;rw[hl,ρ];rfl) h
theorem Iy {ns:A6} {Q:CN} (X:K.In s.heap) (I:ObjM s.heap x dx C mA)
  (hs:wq K (.ref C) "__setattr__"=ag (ag (.builtin "object.__setattr__"))) (δ:R' K C=true) (γ:QN K C name=ag gs) (θ:Of K C=true)
  (β:Ry mA ns) (hsz:ns.length<=jF)
  (h:∀h',ObjM h' x dx C (λy=>if y=name then ag v else mA y)->PJ dx s.heap h'->Q () {s with heap:=h',toks:=s.toks + 2}):
  ll (ph prog w) A (setAttr (.ref x) name v) Q E s:=by
 obtain⟨od,J,hl⟩:=I.look;refine RZ X J hs (PySem.W.osa_open (s:={s with toks:=s.toks + 1}) (r:=gs) X J δ γ λb=>?_);obtain⟨ν,ε,Z⟩:=PySem.W.any_some θ;have α:s.heap.get? x=ag ⟨.ref C,ag dx,.plain,#[]⟩:=I.obj;refine fI (ix (fI (fI (RN α (fI (R3 (s:={s with toks:=s.toks + 1}) (Q1 X ε) ?_))))));rw[Z];refine ix (a:=ag dx) (fI (ix (fI ?_)));refine wpAny_nsSet1 (s:={s with toks:=s.toks + 1}) I.ns λh' O L=>?_;obtain⟨ι,ζ,η,Y,υ,φ⟩:=O.count (PySem.Within.cons name v β);refine fI (wpAny_lookBehind Y (by rw[υ];exact pastItsLine_dict (NK φ (by rw[y1];omega))) ?_);exact ix (h _ ⟨(L.2 _ (J5 I.ne)).trans I.obj,O,I.ne⟩ L)
theorem yW {R:F'} {vs:CB} {kw:J1} (X:K.In s.heap) (hm:Se K C=true)
  (hi:wq K (.ref C) "__init__"=ag (ag (.ref f))) (hf:PQ K (.ref f)=ag (.type "function"))
  (h:codeAny (ph prog w) (A.under (.builtin "type.__call__" ⟨.ref C::vs,kw⟩)) (.call (.ref f) ⟨.ref (s.heap.objs.size + 1)::vs,kw⟩) (PySem.W.InitBack (s.heap.objs.size + 1) R)
   {s with heap:=(s.heap.push NB).push (NM C s.heap.objs.size)}):
  codeAny (ph prog w) A (.call (.ref C) ⟨vs,kw⟩) R s:=by
 obtain⟨θ,g,d,t,os⟩:=s;exact PySem.W.make_core (PySem.W.makes_of X hm) (Oj X hi) (λself=>PySem.W.bind_fn X self hf) (.inl rfl) h
end
noncomputable def putF (f:ic) (v:V):cc (ic×V)->cc (ic×V)
 | []=>[(f,v)]
 | (g,x)::r=>if g=f then (g,v)::r else (g,x)::putF f v r
theorem qI (f g:ic) (v:V):∀fs:cc (ic×V),(putF f v fs).lookup g=if g=f then ag v else fs.lookup g
 | []=>by
   show Ot g [(f,v)]=_;by_cases h:g=f
   ·have hb:(g == f)=true:=OP.mpr h;simp only[Ot,hb,kn h]
   ·have hb:(g == f)=false:=z4.mpr h;simp only[Ot,hb,hQ h]
 | (k,x)::r=>by
   have ih:=qI f g v r;rw[show putF f v ((k,x)::r)=(if k=f then (k,v)::r else (k,x)::putF f v r) from rfl];by_cases hk:k=f
   ·rw[kn hk];by_cases h:g=k
    ·have hb:(g == k)=true:=OP.mpr h;simp only[Ot,hb,kn (h.trans hk)]
    ·have hb:(g == k)=false:=z4.mpr h;simp only[Ot,hb,hQ (λe:g=f=>h (e.trans hk.symm))]
   ·rw[hQ hk];by_cases h:g=k
    ·have hb:(g == k)=true:=OP.mpr h;simp only[Ot,hb,hQ (λe:g=f=>hk (h.symm.trans e))]
    ·have hb:(g == k)=false:=z4.mpr h;simp only[Ot,hb];exact ih
theorem qS (f:ic) (v:V):∀fs:cc (ic×V),f∈(putF f v fs).map (·.1)/\∀g,g∈fs.map (·.1)->g∈(putF f v fs).map (·.1)
 | []=>⟨by simp[putF],λg h=>by simp at h⟩
 | (k,x)::r=>by
   obtain⟨i1,i2⟩:=qS f v r;rw[show putF f v ((k,x)::r)=(if k=f then (k,v)::r else (k,x)::putF f v r) from rfl];by_cases hk:k=f
   ·rw[kn hk];subst hk;exact⟨@F,λg h=>by simpa using h⟩
   ·rw[hQ hk];refine⟨?_,λg h=>?_⟩
    ·rw[MU];exact px _ i1
    ·rw[MU] at h ⊢;rcases v9.mp h with e | e
     ·exact v9.mpr (.inl e)
     ·exact px _ (i2 g e)
theorem qJ (f:ic) (v:V):∀fs:cc (ic×V),(putF f v fs).length<=fs.length + 1
 | []=>by simp[putF]
 | (k,x)::r=>by
   have ih:=qJ f v r;rw[show putF f v ((k,x)::r)=(if k=f then (k,v)::r else (k,x)::putF f v r) from rfl];by_cases hk:k=f
   ·rw[kn hk,y1,y1];omega
   ·rw[hQ hk,y1,y1];omega
theorem RelO.some_of {v:V} {o:J2} (r:RelO (ag v) o):∃u,o=ag u/\RelV v u:=by
 cases o with
 | none=>exact(show False from r).elim
 | some u=>exact⟨u,rfl,r⟩
theorem RelO.none_of {o:J2} (r:RelO gs o):o=none:=by
 cases o with
 | none=>rfl
 | some u=>exact(show False from r).elim
theorem vS {v:V} {u:iv} (r:RelV v u):Po u=true:=by
 cases v with
 | non=>cases(show u=ND from r);rfl
 | bl b=>cases(show u=S4 b from r);rfl
 | int i=>obtain⟨t,e⟩:=(show ∃t,u=Rn i t from r);cases e;rfl
 | str x=>obtain⟨t,e⟩:=(show ∃t,u=Pt x t from r);cases e;rfl
 | byt b=>obtain⟨t,e⟩:=(show ∃t,u=T5 b t from r);cases e;rfl
 | flt b=>obtain⟨t,e⟩:=(show ∃t,u=T4 b t from r);cases e;rfl
 | ref a=>cases(show u=sb a from r);rfl
 | ty n=>cases(show u=OF n from r);rfl
section
variable {P:ry} {w:zt} {H H':Hp} {h h':MT} {a C dx:eH} {fs fs':cc (ic×V)}
theorem x5 (hok:HOk P w H h) (e:H a=ag (.ins C dx fs)):∃mA,ObjM h a dx C mA/\(∀f,RelO (fs.lookup f) (mA f))/\Ry mA (fs.map (·.1))/\fs.length<=1000/\H dx=ag (.own a):=by
 obtain⟨d,z,ne,ob,mA,n,r,q⟩:=(show eB P w H h a (.ins C dx fs) from hok a _ e);exact⟨mA,⟨ob,n,ne⟩,r,q,z,d⟩
end
structure Cls (K:a') (C:eH):Prop where
 pg:Pn K C PB=true
 hd:Of K C=true
 po:R' K C=true
 sa:wq K (.ref C) "__setattr__"=ag (ag (.builtin "object.__setattr__"))
theorem Cls.get {K:a'} {C:eH} (c:Cls K C) (f:ic):Pn K C f=true:=c.pg
def bH (K:a') (C:eH) (f:ic):Prop:=wq K (.ref C) f=ag gs
theorem bH.taker {K:a'} {C:eH} {f:ic} (n:bH K C f):QN K C f=ag none:=by
 unfold QN;rw[show wq K (.ref C) f=ag gs from n];rfl
structure Con (K:a') (C:eH) (f:ic) (v:V) (u:iv):Prop where
 at_:wq K (.ref C) f=ag (ag u)
 rel:RelV v u
 get:Oe K u "__get__"=ag gs
 cp:PySem.W.copiedNames.contains f=false
structure Meth (K:a') (C:eH) (m:ic) (f:eH):Prop where
 at_:wq K (.ref C) m=ag (ag (.ref f))
 fn:Qq K (.ref f)=true
 kp:Nv K (.ref f)=true
section
variable {X:Cx} {pins:B'} {σ:St} {H:Hp} {s:hN} {a C dx:eH} {fs:cc (ic×V)} {f:ic} {v:V} {A:zx} {E:B2}
theorem BC {b:N1} {Q:B2} (I:Inv X pins σ H s) (e:H a=ag (.ins C dx fs)) (c:Cls X.K C) (n:bH X.K C f) (l:fs.lookup f=ag v)
  (h:∀u s',Inv X pins σ H s'->RelV v u->Q u s'):ll (ph X.prog X.w) A (getAttr (.ref a) f b) Q E s:=by
 obtain⟨mA,O,r,_,_,_⟩:=x5 I.hok e;obtain⟨u,Z,τ⟩:=RelO.some_of (v:=v) (o:=mA f) (by rw[<-l];exact r f);exact aR I.kIn O (c.get f) c.hd n Z (vS τ) (h u _ (I.tok _) τ)
theorem BB {m:ic} {g:eH} {pl:Sem N1} {Q:iv×cc iv->hN->Prop} (I:Inv X pins σ H s) (e:H a=ag (.ins C dx fs)) (c:Cls X.K C) (k:Meth X.K C m g) (l:fs.lookup m=gs)
  (h:Q (.ref g,[.ref a]) s):ll (ph X.prog X.w) A (getMethod (.ref a) m pl) Q E s:=by
 obtain⟨mA,O,r,_,_,_⟩:=x5 I.hok e;have hn:mA m=none:=RelO.none_of (by rw[<-l];exact r m);exact GX I.kIn O (c.get m) k.at_ k.fn hn h
theorem Ab {y:V} {u:iv} {Q:CN} (I:Inv X pins σ H s) (e:H a=ag (.ins C dx fs)) (c:Cls X.K C) (n:bH X.K C f) (hl:fs.length < 1000) (Y:RelV y u)
  (h:∀s',Inv X pins σ (upd H a (.ins C dx (putF f y fs))) s'->Q () s'):ll (ph X.prog X.w) A (setAttr (.ref a) f u) Q E s:=by
 obtain⟨mA,O,r,ζ,_,ho⟩:=x5 I.hok e;have hz:(fs.map (·.1)).length<=sizeLine:=by rw[ak,hJ];omega
 refine Iy I.kIn O c.sa c.po n.taker c.hd ζ hz λh' O' L=>h _ ?_;have hd:∃o,h'.get? dx=ag o:=let ⟨o,_,_,α,_⟩:=O'.ns;⟨o,α⟩
 refine I.write (x:=a) (e:=dx) (by rw[e];exact Os) (.inr ho) (λb q hb z=>(L.2 b hb).trans z) hd ?_;refine⟨by rw[ar O.ne];exact ho,?_,O.ne,O'.obj,_,O'.ns,λg=>?_,λg Z=>?_⟩
 ·have:=qJ f y fs;omega
 ·show RelO ((putF f y fs).lookup g) (if g=f then ag u else mA g);rw[qI];by_cases q:g=f
  ·rw[kn q,kn q];exact Y
  ·rw[hQ q,hQ q];exact r g
 ·by_cases q:g=f
  ·rw[q];exact(qS f y fs).1
  ·refine(qS f y fs).2 g (ζ g λz=>Z ?_);show(if g=f then ag u else mA g)=gs;rw[hQ q];exact z
theorem Inv.made (I:Inv X pins σ H s):Inv X pins σ (upd (upd H s.heap.objs.size (.own (s.heap.objs.size + 1))) (s.heap.objs.size + 1) (.ins C s.heap.objs.size []))
  {s with heap:=(s.heap.push NB).push (NM C s.heap.objs.size)}:=by
 have L:(s.heap.push NB).get? s.heap.objs.size=ag PySem.W.emptyDict:=kv s.heap rfl
 have Z:((s.heap.push NB).push (NM C s.heap.objs.size)).get? (s.heap.objs.size + 1)=ag (NM C s.heap.objs.size):=by
  have:=kv (s.heap.push NB) (o:=NM C s.heap.objs.size) rfl;rwa [O3] at this
 have Y:(s.heap.push NB).Ns s.heap.objs.size (λ_=>gs):=⟨NB,#[],_,L,rfl,(λe he=>ik he @F),λ_=>rfl⟩;have I1:=I.laid (a:=s.heap.objs.size) (o:= .own (s.heap.objs.size + 1)) (h':=s.heap.push NB) (t':=s.toks) (λb u q=>eW _ q) (qb _) ⟨_,L⟩;refine I1.laid (a:=s.heap.objs.size + 1) (o:= .ins C s.heap.objs.size []) (t':=s.toks) (λb u q=>eW _ q) (Nat.le_of_eq (O3 _ _)) ?_;have ne:s.heap.objs.size≠s.heap.objs.size + 1:=y2 (NV _);refine⟨by rw[ar ne,au],N2 _,ne,Z,λ_=>gs,(RV Y).at λo q=>eW _ q,λ_=>Os,λy O=>ik rfl O⟩
theorem Fk {prog:ry} {w:zt} {env:Env} {e:z3} {f:ic} {pos:Pos} {s:hN} {Q:B2} (hb:attributeBase e f env (eval e env)=eval e env)
  (h:ll (ph prog w) A (eval e env) (λo L=>ll (ph prog w) A (getAttr o f true) Q E L) E s):ll (ph prog w) A (eval (.Attribute e f pos) env) Q E s:=
 Attribute_any_ h (by rw[arm_eval_Attribute,hb])
end
noncomputable def tFld (K:a') (ta:TE) (f:ic):TE:=fun σ H Q=>ta σ H λx H1=>∃a C dx fs v,x= .ref a/\H1 a=ag (.ins C dx fs)/\Cls K C/\bH K C f/\fs.lookup f=ag v/\Q v H1
noncomputable def sFld (K:a') (ta tv:TE) (f:ic):TS:=λD σ H=>tv σ H λy H1=>ta σ H1 λx H2=>∃a C dx fs,x= .ref a/\H2 a=ag (.ins C dx fs)/\Cls K C/\bH K C f/\fs.length < 1000/\
 D.nx σ (upd H2 a (.ins C dx (putF f y fs)))
section
variable {X:Cx} {o e value:z3} {f:ic} {pos pos' tpos:Pos} {ta tv:TE}
theorem K3 (he:PE X e ta) (hb:attributeBase e f X.env (eval e X.env)=eval e X.env):PE X (.Attribute e f pos) (tFld X.K ta f):=by
 intro pins s σ H Q I h;refine Fk hb (thn (he pins s σ H _ I h) λu β ⟨x,H1,O,L,a,C,dx,fs,v,ex,ea,c,n,l,q⟩=>?_);subst ex;obtain rfl:u=sb a:=L;exact BC O ea c n l λZ α Y τ=>⟨v,H1,Y,τ,q⟩
theorem KW (ha:PE X o ta) (hv:PE X value tv) (hs:swapsWith value (ag (.Attribute o f pos')) pos.line X.env=pure false):PS X (.Assign [.Attribute o f pos'] value pos) (sFld X.K ta tv f):=by
 intro pins s σ H D I h;refine R9 (thn (hv pins s σ H _ I h) λu L ⟨y,H1,O,Y,q⟩=>thn (ha pins L σ H1 _ O q) fun α ε ⟨x,H2,γ,Z,a,C,dx,fs,ex,ea,c,n,l,φ⟩=>?_) hs;subst ex;obtain rfl:α=sb a:=Z;exact Ab γ ea c n l Y fun δ β=>⟨σ,_,β,φ⟩
end
section
variable {X:Cx} {pins:B'} {σ:St} {H:Hp} {s:hN} {A:zx} {E:B2} {Q:B2} {c:iv} {b:N1}
inductive TyOf (K:a') (H:Hp):V->iv->Prop where
 | non:TyOf K H .non (.type "NoneType")
 | bl (x:N1):TyOf K H (.bl x) (.type "bool")
 | int (i:Int):TyOf K H (.int i) (.type "int")
 | str (x:ic):TyOf K H (.str x) (.type "str")
 | flt (x:UInt64):TyOf K H (.flt x) (.type "float")
 | lst {a:eH} {xs:cc V} (e:H a=ag (.lst xs)):TyOf K H (.ref a) (.type "list")
 | frz {a:eH} {o:Rk} {xs:cc V} (e:H a=ag (.frz o (.lst xs))):TyOf K H (.ref a) (.type "list")
 | tup {a:eH} {xs:cc V} (e:H a=ag (.tup xs)):TyOf K H (.ref a) (.type "tuple")
 | dK {a:eH} {kvs:cc (Key×V)} (e:H a=ag (.dK kvs)):TyOf K H (.ref a) (.type "dict")
 | dT {a:eH} {kvs:cc (cc Key×V)} (e:H a=ag (.dT kvs)):TyOf K H (.ref a) (.type "dict")
 | ins {a C dx:eH} {fs:cc (ic×V)} (e:H a=ag (.ins C dx fs)) (cl:Cls K C) (ha:wq K (.ref C) "__class__"=ag (ag (.builtin "object.__class__")))
   (hn:Oe K (.builtin "object.__class__") "__get__"=ag (ag (.builtin "getset_descriptor.__get__"))) (htk:QM K (.builtin "object.__class__")=ag true)
   (hm:MZ K C (.type "object")=ag true):TyOf K H (.ref a) (.ref C)
end
structure Room (k:Nat) (A:zx):Prop where
 hd:A.handled=gs
 dp:A.depth + 3 * k + 5 < recursionLimit
 un:A.units + 16 * k + 200 < cLine
theorem Room.mono {j k:Nat} {A:zx} (r:Room k A) (h:j<=k):Room j A:=⟨r.hd,by have:=r.dp;omega,by have:=r.un;omega⟩
theorem Room.deeper {k:Nat} {A:zx} (r:Room (k + 1) A) (env:Env):Room k (A.deeper env):=
 ⟨r.hd,by have:=r.dp;show A.depth + 1 + 3 * k + 5 < _;omega,by have:=r.un;show A.units + 3 + 16 * k + 200 < _;omega⟩
theorem AM {A:zx} {C:eH} {us:CB} {kw:J1}:(A.under (.builtin "type.__call__" ⟨.ref C::us,kw⟩)).depth=A.depth + 1:=by
 first | rfl | simp[Rq,Code.weight,Code.isCreation,Code.isGuard,Code.isCaller,Code.frames,RH,guardIds]
theorem AL {A:zx} {C:eH} {us:CB} {kw:J1}:(A.under (.builtin "type.__call__" ⟨.ref C::us,kw⟩)).units=A.units + 1:=by
 first | rfl | simp[Rq,Code.cUnits,Code.frames,RH]
theorem Room.make {k:Nat} {A:zx} (r:Room (k + 1) A) (C:eH) (us:CB) (kw:J1):Room k (A.under (.builtin "type.__call__" ⟨.ref C::us,kw⟩)):=
 ⟨r.hd,by have:=r.dp;rw[AM];omega,by have:=r.un;rw[AL];omega⟩
theorem Room.depth {k:Nat} {A:zx} (r:Room k A):A.depth < recursionLimit:=by have:=r.dp;omega
theorem Room.units {k:Nat} {A:zx} (r:Room k A):A.units + 64 < cLine:=by have:=r.un;omega
noncomputable abbrev tNil:TA:=λ_ H Q=>Q [] H
noncomputable abbrev Ik (ta:TE) (tr:TA):TA:=fun σ H Q=>ta σ H λx H1=>tr σ H1 λxs H2=>Q (x::xs) H2
section
variable {X:Cx} {e:z3} {es:cc z3} {te:TE} {t:TA} {pos:Pos}
theorem ae:PA X [] tNil:=λ_ _ _ _ H Q I h=>QC ⟨[],H,I,.nil,h⟩
theorem aa (ha:PE X e te) (hr:PA X es t) (hs:oD (e::es) X.env=(false,eval e X.env)::oD es X.env:=by rfl):PA X (e::es) (Ik te t):=by
 intro pos pins s σ H Q I h;rw[hs];show ll _ _ (spliced ((false,eval e X.env)::backTo pos (oD es X.env))) _ _ s;refine Qu (thn (ha pins s σ H _ I h) λu L ⟨x,H1,O,Y,Z⟩=>?_);exact thn (hr pos pins L σ H1 _ O Z) λus β ⟨xs,H2,α,υ,φ⟩=>⟨x::xs,H2,α,.cons Y υ,φ⟩
noncomputable def tTup (t:TA):TE:=fun σ H Q=>t σ H λxs H1=>xs.length<=jF/\∀p,H1 p=gs->Q (.ref p) (upd H1 p (.tup xs))
noncomputable def tLst (t:TA):TE:=fun σ H Q=>t σ H λxs H1=>xs.length<=jF/\∀p,H1 p=gs->Q (.ref p) (upd H1 p (.lst xs))
theorem bN {x1} (h:PA X es t):PE X (.Tuple es x1 pos) (tTup t):=by
 intro pins s σ H Q I O;refine wpAny_Tuple_spliced (thn (h pos pins s σ H _ I O) λus L ⟨xs,H1,I1,r,z,q⟩=>⟨by rw[<-r.length];exact z,?_⟩);have hf:H1 L.heap.objs.size=none:=I1.hok.fresh (qb _);refine⟨.ref L.heap.objs.size,upd H1 L.heap.objs.size (.tup xs),I1.laid (t':=L.toks) (λb u e=>eW _ e) (qb _) ?_,rfl,q _ hf⟩;exact⟨z,us,r,⟨_,kv _ rfl,rfl,_,rfl⟩⟩
theorem bC (h:PA X es t):PE X (.List es pos) (tLst t):=by
 intro pins s σ H Q I O;refine wpAny_List_spliced (thn (h pos pins s σ H _ I O) λus L ⟨xs,H1,I1,r,z,q⟩=>⟨by rw[<-r.length];exact z,?_⟩);have hf:H1 L.heap.objs.size=none:=I1.hok.fresh (qb _);refine⟨.ref L.heap.objs.size,upd H1 L.heap.objs.size (.lst xs),I1.laid (t':=L.toks) (λb u e=>eW _ e) (qb _) ?_,rfl,q _ hf⟩;exact⟨z,us,0,r,kv _ rfl⟩
end
noncomputable abbrev Sp:=cc V->Hp->VK->XK->Prop
noncomputable abbrev CXT:=cc Env->Hp->hN->XK->B2
structure Env0 (P:ry) (w:zt) (K:a') (mg:CD) (base:MT) (A:zx) (outer:cc Env) (s:hN) (H:Hp):Prop where
 frames:A.frames=ag outer
 mod:Mod K mg base
 bs:∀b o,base.get? b=ag o->s.heap.get? b=ag o/\H b=gs
 bsz:base.objs.size<=s.heap.objs.size
 funs:s.heap.FunFrames base outer
 frf:∀b∈frs outer,H b=gs
 hok:HOk P w H s.heap
 bare:AllBare s.gens
def CE (outer:cc Env) (P:ry) (w:zt) (H:Hp) (s:hN) (Q:VK) (u:iv) (s':hN):Prop:=
 ∃v H',s'.os=s.os/\AllBare s'.gens/\Un (frs outer) [] H H' s.heap s'.heap/\HOk P w H' s'.heap/\RelV v u/\Q v H'
def CR (CX:CXT) (outer:cc Env) (P:ry) (w:zt) (H:Hp) (s:hN) (Q:VK) (E:XK) (r:Result) (s':hN):Prop:=
 match r with
 | .ok (.ret u)=>CE outer P w H s Q u s'
 | .ok _=>False
 | .error e=>CX outer H s E e s'
structure FnOk (P:ry) (w:zt) (K:a') (mg:CD) (base:MT) (CX:CXT) (k:Nat) (f:eH) (fd:lM) (ps:A6) (sp:Sp):Prop where
 len:∀vs H Q E,sp vs H Q E->vs.length=ps.length
 run:∀(A:zx) (outer:cc Env) (s:hN) (H:Hp) (args:Args) (us:CB) (vs:cc V) (Q:VK) (E:XK),Room k A->Env0 P w K mg base A outer s H->BindsTo s fd args (ps.zip us)->Vals vs us->sp vs H Q E->
  codeAny (ph P w) A (.call (.ref f) args) (CR CX outer P w H s Q E) s
theorem FnOk.imp {P:ry} {w:zt} {K:a'} {mg:CD} {base:MT} {CX:CXT} {k:Nat} {f:eH} {fd:lM} {ps:A6} {sp L:Sp} (F:FnOk P w K mg base CX k f fd ps sp)
  (h:∀vs H Q E,L vs H Q E->sp vs H Q E):FnOk P w K mg base CX k f fd ps L:=
 ⟨λvs H Q E q=>F.len vs H Q E (h _ _ _ _ q),λA outer s H args us vs Q E O he hb ρ hs=>F.run A outer s H args us vs Q E O he hb ρ (h _ _ _ _ hs)⟩
theorem Env0.make {P:ry} {w:zt} {K:a'} {mg:CD} {base:MT} {A:zx} {outer:cc Env} {s:hN} {H:Hp} (e:Env0 P w K mg base A outer s H) (C:eH) (us:CB) (kw:J1):
  Env0 P w K mg base (A.under (.builtin "type.__call__" ⟨.ref C::us,kw⟩)) outer s H:=⟨by first | exact e.frames | (simpa[Rq,Code.envs,RH,pushEnvs] using e.frames),e.mod,e.bs,e.bsz,e.funs,e.frf,e.hok,e.bare⟩
section
variable {X:Cx} {pins:B'} {σ:St} {H:Hp} {s s':hN}
theorem Inv.env0 (I:Inv X pins σ H s):Env0 X.prog X.w X.K X.mg X.base X.A X.stack s H:=
 ⟨I.ok.frames,I.ok.mod,I.bs,NK I.ok.bsz I.sz,I.stack,I.stkFree,I.hok,I.bare⟩
theorem Inv.after {Q:VK} {u:iv} (I:Inv X pins σ H s) (h:CE X.stack X.prog X.w H s Q u s'):EP X pins σ Q u s':=by
 obtain⟨v,H',os,bare,un,hok,r,q⟩:=h;obtain⟨θ,g,d,t,ι⟩:=s';obtain rfl:ι=s.os:=os;exact⟨v,H',I.call (h':=θ) (g':=g) (d':=d) (t':=t) (ch:=[]) un hok bare (λb z=>ik z @F),r,q⟩
end
noncomputable def CU (sp:Sp) (dvs:cc V) (E:XK) (t:TA):TE:=fun σ H Q=>t σ H λvs H1=>sp (vs++dvs) H1 Q E
noncomputable def Kc (C:eH) (m:ic) (sp:Sp) (dvs:cc V) (E:XK) (ta:TE) (t:TA):TE:=fun σ H Q=>ta σ H λx H1=>∃a dx fs,x= .ref a/\H1 a=ag (.ins C dx fs)/\fs.lookup m=gs/\
 t σ H1 λvs H2=>sp (x::(vs++dvs)) H2 Q E
noncomputable def Kd (C:eH) (sp:Sp) (dvs:cc V) (E:XK) (t:TA):TE:=fun σ H Q=>t σ H λvs H1=>∀x dx,H1 x=gs->H1 dx=gs->dx≠x->
 sp (.ref x::(vs++dvs)) (upd (upd H1 dx (.own x)) x (.ins C dx [])) (λv H2=>v= .non/\Q (.ref x) H2) E
def my (K:a') (fd:lM) (ps:A6) (ds:CB):Prop:=
 ∀(s:hN) (us:CB),K.In s.heap->(us++ds).length=ps.length->BindsTo s fd ⟨us,[]⟩ (ps.zip (us++ds))
theorem my.all {K:a'} {fd:lM} {ps:A6} (h:∀us:CB,us.length=ps.length->bindArgs fd ⟨us,[]⟩=pure (ps.zip us)):my K fd ps []:=λs us _ hl=>by
 rw[z5] at hl ⊢;exact .of_eq (h us hl)
def nM (CX:CXT) (X:Cx) (E:XK):Prop:=∀(pins:B') (σ:St) (H:Hp) (s:hN) (e:iv) (s':hN),Inv X pins σ H s->CX X.stack H s E e s'->X.xe e s'
section
variable {X:Cx} {CX:CXT} {k:Nat} {f C:eH} {fd:lM} {ps:A6} {sp:Sp} {dvs:cc V} {ds:CB} {E:XK} {x m:ic} {p pos apos:Pos} {e o:z3} {es:cc z3} {ta:TE} {t:TA}
theorem DA {pins:B'} {σ:St} {H:Hp} {s:hN} {Q:VK} {us:CB} {vs:cc V} (F:FnOk X.prog X.w X.K X.mg X.base CX k f fd ps sp) (hr:Room k X.A) (hb:my X.K fd ps ds) (hd:Vals dvs ds) (hx:nM CX X E)
  (I:Inv X pins σ H s) (r:Vals vs us) (h:sp (vs++dvs) H Q E):ll (ph X.prog X.w) X.A (call (.ref f) us) (EP X pins σ Q) X.xe s:=by
 have υ:Vals (vs++dvs) (us++ds):=r.append hd;have hl:(us++ds).length=ps.length:=by rw[<-υ.length];exact F.len _ _ _ _ h
 refine OO (Oi (F.run X.A X.stack s H ⟨us,[]⟩ (us++ds) (vs++dvs) Q E hr I.env0 (hb s us I.kIn hl) υ h) λr s' L=>?_);cases r with
 | error e=>exact hx pins σ H s e s' I L
 | ok O=>
   cases O with
   | ret u=>exact I.after L
   | next=>exact LI L
   | brk=>exact LI L
   | cont=>exact LI L
theorem Ja (F:FnOk X.prog X.w X.K X.mg X.base CX k f fd ps sp) (hr:Room k X.A) (O:Gl X x) (hm:X.mg x=ag (.ref f)) (hk:Nv X.K (.ref f)=true) (hb:my X.K fd ps ds) (hd:Vals dvs ds) (hx:nM CX X E)
  (ha:PA X (e::es) t) (ω:(x == ("__debug__":ic))=false:=by decide) (he:oD (e::es) X.env=(false,eval e X.env)::oD es X.env:=by rfl) (L:(backTo pos (oD es X.env)).any (·.1)=false:=by rfl):
  PE X (.Call (.Name x p) (e::es) [] pos) (CU sp dvs E t):=by
 intro pins s σ H Q I h;refine NC (h9 I O hm ?_ ω);refine O6 (h₀:=X.base) I.ok.mod.kin hk (thn (ha pos pins s σ H _ I h) λus Y ⟨vs,H1,I1,r,q⟩=>⟨I1.kIn,?_⟩) he L;exact DA F hr hb hd hx I1 r q
theorem gi {pl:Sem N1} (he:PE X o ta) (c:Cls X.K C) (hm:Meth X.K C m f) (F:FnOk X.prog X.w X.K X.mg X.base CX k f fd ps sp) (hr:Room k X.A) (hb:my X.K fd ps ds) (hd:Vals dvs ds) (hx:nM CX X E)
  (Y:eval (.Call (.Attribute o m apos) [] [] pos) X.env=(do
   let L <-eval o X.env
   standAt apos.atName
   let (f,first) <-holding [L] (getMethod L m pl)
   callWith pos f first (backTo pos (oD [] X.env)) (backToKw pos (keywordEach [] X.env))):=by rfl):
  PE X (.Call (.Attribute o m apos) [] [] pos) (Kc C m sp dvs E ta tNil):=by
 intro pins s σ H Q I h;refine PD (pl:=pl) (thn (he pins s σ H _ I h) λu Z ⟨x,H1,I1,O,a,dx,fs,ex,ea,l,q⟩=>?_) Y;subst ex;obtain rfl:u=sb a:=O;refine BB I1 ea c hm l ?_;exact PySem.W.callWith_K0 (first:=[.ref a]) I1.kIn hm.kp (DA (us:=[.ref a]) (vs:=[.ref a]) F hr hb hd hx I1 (.cons rfl .nil) q)
structure Mk (K:a') (C f:eH):Prop where
 makes:Se K C=true
 init:wq K (.ref C) "__init__"=ag (ag (.ref f))
 fn:Qq K (.ref f)=true
 kp:Nv K (.ref C)=true
theorem Gs {pins:B'} {σ:St} {H:Hp} {s:hN} {Q:VK} {us:CB} {vs:cc V} (M:Mk X.K C f) (F:FnOk X.prog X.w X.K X.mg X.base CX k f fd ps sp) (hr:Room (k + 1) X.A) (hb:my X.K fd ps ds) (hd:Vals dvs ds)
  (Y:nM CX X E) (I:Inv X pins σ H s) (r:Vals vs us)
  (h:∀x dx,H x=gs->H dx=gs->dx≠x->sp (.ref x::(vs++dvs)) (upd (upd H dx (.own x)) x (.ins C dx [])) (λv H2=>v= .non/\Q (.ref x) H2) E):
  ll (ph X.prog X.w) X.A (call (.ref C) us) (EP X pins σ Q) X.xe s:=by
 have L:=h (s.heap.objs.size + 1) s.heap.objs.size (I.hok.fresh (Pa _)) (I.hok.fresh (qb _)) (y2 (NV _));have I2:=Inv.made (C:=C) I;have υ:Vals (V.ref (s.heap.objs.size + 1)::(vs++dvs)) (sb (s.heap.objs.size + 1)::(us++ds)):= .cons rfl (r.append hd)
 have hl:(sb (s.heap.objs.size + 1)::us++ds).length=ps.length:=by
  have e:=υ.length;rw[F.len _ _ _ _ L] at e;exact e.symm
 refine OO (yW (f:=f) I.kIn M.makes M.init (OP.mp M.fn) (Oi (F.run _ X.stack _ _ ⟨sb (s.heap.objs.size + 1)::us,[]⟩ (sb (s.heap.objs.size + 1)::(us++ds)) _ _ E (hr.make C us [])
  (I2.env0.make C us []) (hb _ (sb (s.heap.objs.size + 1)::us) I2.kIn hl) υ L) λr s' α=>?_))
 cases r with
 | error e=>exact Y pins σ _ _ e s' I2 α
 | ok Z=>
   cases Z with
   | ret u=>
     obtain⟨v,H',β,rv,ev,O⟩:=I2.after α;subst ev;exact⟨rv,⟨V.ref (s.heap.objs.size + 1),H',β,rfl,O⟩⟩
   | next=>exact LI α
   | brk=>exact LI α
   | cont=>exact LI α
theorem xB (M:Mk X.K C f) (F:FnOk X.prog X.w X.K X.mg X.base CX k f fd ps sp) (hr:Room (k + 1) X.A) (O:Gl X x) (hm:X.mg x=ag (.ref C)) (hb:my X.K fd ps ds) (hd:Vals dvs ds) (hx:nM CX X E)
  (ha:PA X (e::es) t) (ω:(x == ("__debug__":ic))=false:=by decide) (he:oD (e::es) X.env=(false,eval e X.env)::oD es X.env:=by rfl) (L:(backTo pos (oD es X.env)).any (·.1)=false:=by rfl):
  PE X (.Call (.Name x p) (e::es) [] pos) (Kd C sp dvs E t):=by
 intro pins s σ H Q I h;refine NC (h9 I O hm ?_ ω);refine O6 (h₀:=X.base) I.ok.mod.kin M.kp (thn (ha pos pins s σ H _ I h) λus Y ⟨vs,H1,I1,r,q⟩=>⟨I1.kIn,?_⟩) he L;exact Gs M F hr hb hd hx I1 r q
end
section
variable {X:Cx} {CX:CXT} {k:Nat} {f C:eH} {fd:lM} {ps ks:A6} {sp:Sp} {E:XK} {x m:ic} {p pos apos kpos:Pos} {e o:z3} {es:cc z3} {kws:cc Keyword} {te ta:TE} {t tk:TA} {nm:ov ic}
structure MP (K:a') (fd:lM) (ps ks:A6) (g:CB->CB->CB) (gV:cc V->cc V->cc V):Prop where
 to:∀(s:hN) (us ws:CB),K.In s.heap->(g us ws).length=ps.length->BindsTo s fd ⟨us,ks.zip ws⟩ (ps.zip (g us ws))
 rel:∀{vs:cc V} {us:CB} {zs:cc V} {ws:CB},Vals vs us->Vals zs ws->Vals (gV vs zs) (g us ws)
variable {g:CB->CB->CB} {gV:cc V->cc V->cc V}
end
structure aK (N P:A6) (sc:NT):Prop where
 kind:sc.kind= .function
 co:sc.isCoroutine=false
 gen:sc.isGenerator=false
 nd:N.Nodup
 pre:N.take P.length=P
 par:∀x∈P,sc.names.lookup x=ag .local∨sc.names.lookup x=ag .cell
 nofree:∀y∈sc.names,y.2≠.free
theorem wJ {kindOf:ic->ov NameKind} {x:ic}:∀{binds:J1} {m:CD},(∀v,(x,v)∉binds)->bindL kindOf binds m x=m x
 | [],_,_=>rfl
 | (n,v)::r,m,h=>by
   unfold bindL;rw[wJ λw L=>h w (px _ L)];split
   ·have:x≠n:=by rintro rfl;exact h v ox
    simp[this]
   ·rfl
theorem wL {kindOf:ic->ov NameKind} {x:ic}:∀{binds:J1} {m:CD},(∀v,(x,v)∉binds)->bindC kindOf binds m x=m x
 | [],_,_=>rfl
 | (n,v)::r,m,h=>by
   unfold bindC;rw[wL λw L=>h w (px _ L)];split
   ·rfl
   ·have:x≠n:=by rintro rfl;exact h v ox
    simp[this]
theorem wK {kindOf:ic->ov NameKind} {x:ic} {v:iv}:∀{P:A6} {vs:CB} {i:Nat} {m:CD},P.Nodup->P[i]? =ag x->vs[i]? =ag v->kindOf x=ag .local->
  bindL kindOf (P.zip vs) m x=ag v
 | [],_,_,_,_,h,_,_=>by simp at h
 | _::_,[],_,_,_,_,h,_=>by simp at h
 | p::P,w::vs,0,m,nd,h1,h2,hk=>by
   simp at h1 h2;subst h1;subst h2;show bindL kindOf ((p,w)::P.zip vs) m p=_;unfold bindL;rw[wJ λv ρ=>(Ov.mp nd).1 (QE ρ).1,kn hk];simp
 | p::P,w::vs,i + 1,m,nd,h1,h2,hk=>by
   show bindL kindOf ((p,w)::P.zip vs) m x=_;unfold bindL;exact wK (i:=i) (Ov.mp nd).2 (by simpa using h1) (by simpa using h2) hk
theorem wM {kindOf:ic->ov NameKind} {x:ic} {v:iv}:∀{P:A6} {vs:CB} {i:Nat} {m:CD},P.Nodup->P[i]? =ag x->vs[i]? =ag v->kindOf x≠ag .local->
  bindC kindOf (P.zip vs) m x=ag v
 | [],_,_,_,_,h,_,_=>by simp at h
 | _::_,[],_,_,_,_,h,_=>by simp at h
 | p::P,w::vs,0,m,nd,h1,h2,hk=>by
   simp at h1 h2;subst h1;subst h2;show bindC kindOf ((p,w)::P.zip vs) m p=_;unfold bindC;rw[wL λv ρ=>(Ov.mp nd).1 (QE ρ).1,hQ hk];simp
 | p::P,w::vs,i + 1,m,nd,h1,h2,hk=>by
   show bindC kindOf ((p,w)::P.zip vs) m x=_;unfold bindC;exact wM (i:=i) (Ov.mp nd).2 (by simpa using h1) (by simpa using h2) hk
noncomputable def start (N:A6) (vs:cc V):St:=vs.map ag++z1 (N.length - vs.length) gs
noncomputable def cxOf (CX:CXT) (P:ry) (w:zt) (K:a') (mg:CD) (base:MT) (N:A6) (L:ic) (scope:NT) (f:eH) (Y:iv) (A:zx) (outer:cc Env) (s:hN) (H:Hp) (E:XK):Cx where
 prog:=P
 w:=w
 K:=K
 mg:=mg
 base:=base
 A:=A.deeper (envOfC L scope s.heap.objs.size f Y)
 N:=N
 s₀:=s
 H₀:=H
 env:=envOfC L scope s.heap.objs.size f Y
 outer:=outer
 stack:=envOfC L scope s.heap.objs.size f Y::outer
 ex:=[]
 calm:=true
 fn:=λ_=>true
 pn:=[]
 xe:=λe s'=>ll (ph P w) (A.deeper (envOfC L scope s.heap.objs.size f Y)) (leaving (envOfC L scope s.heap.objs.size f Y) e) (λ_ O=>CX outer H s E e O) (λZ O=>CX outer H s E Z O) s'
theorem zg {sc:NT} {n:Nat} {x:ic} (h:sc.names.lookup x=ag .cell):∃c,(cellsFrom n sc.names []).lookup x=ag c:=by
 have q:=Rg sc.names n [] (.inl h);exact Option.isSome_iff_exists.mp q
theorem EC {CX:CXT} {P:ry} {w:zt} {K:a'} {mg:CD} {base:MT} {N ps:A6} {L:ic} {scope:NT} {f:eH} {β:iv} {A:zx} {outer:cc Env} {s γ:hN} {H:Hp} {E:XK} {us:CB} {vs:cc V}
  (S:aK N ps scope) (hd:A.handled=gs) (ι:Env0 P w K mg base A outer s H) (hl:vs.length=ps.length) (r:Vals vs us)
  (x:InCallC s s.heap.objs.size (bindL (envOfC L scope s.heap.objs.size f β).kindOf (ps.zip us) λ_=>gs) (cellsFrom (s.heap.objs.size + 1) scope.names []) (bindC (envOfC L scope s.heap.objs.size f β).kindOf (ps.zip us) λ_=>gs) γ):
  Inv (cxOf CX P w K mg base N L scope f β A outer s H E) [] (start N vs) H γ:=by
 have δ:ps.length<=N.length:=by have:=K' Nz S.pre;rw[qo] at this;omega
 obtain⟨h1,tk,rfl,hk⟩:=x.done;have O:∀b:eH,b∉(cxOf CX P w K mg base N L scope f β A outer s H E).ex:=λb z=>ik (show b∈([]:D') from z) @F
 refine⟨⟨ι.mod,S.kind,rfl,rfl,qb _,λy z c h1 h2=>?_,λy hy=>?_,λy c _ h=>?_,λ_=>hd,Around.frames_deeper ι.frames,.inr ⟨rfl,rfl⟩,λb z=>ik z (O b),ι.bs,ι.bsz,λb _ _=>O b,λb z=>ik z (O b),ι.funs,ι.frf⟩,
  rfl,ι.bare,Un.kept hk,⟨_,x.toInCall.ns,λi y v h1 h2 ε=>?_⟩,λy c h=>⟨_,x.cell y c h⟩,ι.hok.fresh (qb _),λy c h=>?_,λp α=>ik (show p∈([]:B') from α) @F,ι.hok.kept hk,?_⟩
 ·exact name_of_addr x.apart (N9 h1) (N9 h2)
 ·have hy:scope.names.lookup y=ag .cell∨scope.names.lookup y=ag .free:=hy;rcases hy with hy | hy
  ·exact zg hy
  ·exact ik rfl (S.nofree _ (N9 hy))
 ·exact Pj (x.above y c (N9 h))
 ·have hi:i < vs.length:=by
   unfold start at h2;by_cases hi:i < vs.length
   ·exact hi
   ·rw[u' (by simpa using hi)] at h2;rw[RC] at h2;split at h2<;>cases h2
  have ha:vs[i]? =ag v:=by
   unfold start at h2;rw[vr (by simpa using hi),hH] at h2;cases e:vs[i]? with
   | none=>rw[e] at h2;cases h2
   | some a=>rw[e] at h2;cases h2;rfl
  obtain⟨u,Z,rv⟩:=r.get ha
  have α:ps[i]? =ag y:=by
   rw[<-S.pre,List.getElem?_take_of_lt @A];exact h1
  have Y:ps.Nodup:=by rw[<-S.pre];exact S.nd.sublist (List.take_sublist _ _)
  refine⟨u,rv,?_⟩;rcases S.par y (hA α) with k | k
  ·exact .inl ⟨k,wK Y α Z k⟩
  ·obtain⟨c,e⟩:=zg (n:=s.heap.objs.size + 1) k;refine .inr ⟨.inl k,c,e,?_⟩;have q:=x.cell y c e;rw[wM Y α Z (by show scope.names.lookup y≠_;rw[k];decide)] at q;exact q
 ·exact ι.hok.fresh (Pj (x.above y c (N9 h)))
 ·unfold start;show _=N.length;rw[hE,ak,PZ];omega
theorem Lv {CX:CXT} {P:ry} {w:zt} {K:a'} {mg:CD} {base:MT} {k:Nat} {f:eH} {name L:ic} {Z:Arguments} {body:cc OE} {scope:NT} {dV kV β θ Y ct ξ:iv} {an od:Dn}
  {γ:CM} {N ps:A6} {sp:Sp} (lk:K.lookup f=ag ⟨ξ,od,.func (NO name L Z body scope dV kV β θ an Y ct),γ⟩) (ζ:OG K Y L=true) (S:aK N ps scope)
  (len:∀vs H Q E,sp vs H Q E->vs.length=ps.length)
  (α:∀(A:zx) (outer:cc Env) (s:hN) (H:Hp) (vs:cc V) (Q:VK) (E:XK),Room k (A.deeper (envOfC L scope s.heap.objs.size f Y))->sp vs H Q E->
   ∃t,PSs (cxOf CX P w K mg base N L scope f Y A outer s H E) body t/\t {nx:=λ_ H'=>Q .non H',rt:=Q} (start N vs) H):
  FnOk P w K mg base CX (k + 1) f (NO name L Z body scope dV kV β θ an Y ct) ps sp:=by
 refine⟨len,λA outer s H args us vs Q E ε ι hb r O=>?_⟩;have hl:=len _ _ _ _ O;have ν:K.In s.heap:=ι.mod.kin.keeps λb o e=>(ι.bs b o e).1;have δ:s.heap.NoLimit:=ι.mod.nolimit.keeps λb o e=>(ι.bs b o e).1
 have χ:∀y∈ps.zip us,scope.names.lookup y.1=ag .local∨(scope.names.lookup y.1=ag .cell/\((cellsFrom (s.heap.objs.size + 1) scope.names []).lookup y.1).isSome=true):=λ⟨n,v⟩ ο=>by
  rcases S.par n (QE ο).1 with q | q
  ·exact .inl q
  ·exact .inr ⟨q,Rg _ _ _ (.inl q)⟩
 refine codeAny_call_function ε.depth (ν _ _ lk) rfl S.co S.gen rfl (PySem.W.codeRec_of ν ζ) (hb _ _ _ _ ?_);refine wpAny_newFunctionEnv_cells S.kind χ λenv he η x=>?_;subst he;refine⟨δ.keeps x.toInCall.keep,codeAny_func ?_⟩;obtain⟨t,π,ρ⟩:=α A outer s H vs Q E (ε.deeper _) O;have I:Inv (cxOf CX P w K mg base N L scope f Y A outer s H E) [] (start N vs) H η:=EC S ε.hd ι hl r x;refine Nk (π [] η (start N vs) H _ I ρ) (fun τ s' hs=>?_) λe s' hs=>hs
 have fin:∀{σ':St} {H':Hp} {v:V} {u:iv},Inv (cxOf CX P w K mg base N L scope f Y A outer s H E) [] σ' H' s'->RelV v u->Q v H'->CE outer P w H s Q u s':=
  λ{σ' H' v u} J rv q=>⟨v,H',J.os,J.bare,J.base,J.hok,rv,q⟩
 cases τ with
 | ret u=>
   obtain⟨v,σ',H',J,rv,q⟩:=hs;exact fin J rv q
 | next=>
   obtain⟨σ',H',J,q⟩:=hs;exact fin (v:=V.non) (u:=ND) J rfl q
 | brk=>
   obtain⟨_,_,_,q⟩:=hs;exact LI q
 | cont=>
   obtain⟨_,_,_,q⟩:=hs;exact LI q
section
variable {X:Cx} {x:ic} {p pos:Pos} {e:z3} {es:cc z3} {t:TA} {id T:Np} {r:cc V->Hp->VK->Prop}
noncomputable abbrev tCB (r:cc V->Hp->VK->Prop) (t:TA):TE:=fun σ H Q=>t σ H λvs H1=>r vs H1 Q
theorem aB (hc:nO X (.builtin id) r) (β:Gl X x) (hm:X.mg x=gs) (hv:bootBuiltins x=ag (.builtin id)) (ha:PA X (e::es) t) (hn:x≠"__name__":=by decide) (ω:(x == ("__debug__":ic))=false:=by decide)
  (he:oD (e::es) X.env=(false,eval e X.env)::oD es X.env:=by rfl) (L:(backTo pos (oD es X.env)).any (·.1)=false:=by rfl):PE X (.Call (.Name x p) (e::es) [] pos) (tCB r t):=by
 intro pins s σ H Q I h;refine NC (kh I β hm hv ?_ hn ω);exact Q7 (thn (ha pos pins s σ H _ I h) λus Y ⟨vs,H1,O,Z,α⟩=>hc pins Y σ H1 vs us Q O Z α) he L
theorem aX (hc:nO X (.type T) r) (β:Gl X x) (hm:X.mg x=gs) (hv:bootBuiltins x=ag (.type T)) (ha:PA X (e::es) t) (hn:x≠"__name__":=by decide) (ω:(x == ("__debug__":ic))=false:=by decide)
  (he:oD (e::es) X.env=(false,eval e X.env)::oD es X.env:=by rfl) (L:(backTo pos (oD es X.env)).any (·.1)=false:=by rfl):PE X (.Call (.Name x p) (e::es) [] pos) (tCB r t):=by
 intro pins s σ H Q I h;refine NC (kh I β hm hv ?_ hn ω);exact N3 (thn (ha pos pins s σ H _ I h) λus Y ⟨vs,H1,O,Z,α⟩=>hc pins Y σ H1 vs us Q O Z α) he L
end
end L2
namespace HT
open PySem PyProof.Rows
section
variable {prog:ry} {w:zt} {A:zx} {E:B2} {s:hN}
noncomputable def sIx (n d:Nat):ov Int->Nat
 | none=>d
 | some v=>if v < 0 then (v + (n:Int)).toNat else min v.toNat n
theorem sIx_none (n d:Nat):sIx n d gs=d:=rfl
theorem sIx_nat (n d k:Nat):sIx n d (ag (k:Int))=min k n:=by
 show(if (k:Int) < 0 then ((k:Int) + (n:Int)).toNat else min (k:Int).toNat n)=min k n;rw[hQ @A,MW]
end
end HT
namespace L2
open PySem PySem.Spec PyProof.Rows
noncomputable abbrev TO:=St->Hp->(ov Int->Hp->Prop)->Prop
def PO (X:Cx) (e:ov z3) (t:TO):Prop:=
 ∀(pins:B') (s:hN) (σ:St) (H:Hp) (Q:ov Int->Hp->Prop),Inv X pins σ H s->t σ H Q->
  ll (ph X.prog X.w) X.A (evalPart e X.env) (λu s'=>∃o H',Inv X pins σ H' s'/\IsPart u o/\Q o H') X.xe s
noncomputable abbrev Ii:TO:=λ_ H Q=>Q gs H
noncomputable abbrev Mb (t:TE):TO:=fun σ H Q=>t σ H λx H1=>∃i,x= .int i/\Q (ag i) H1
section
variable {X:Cx} {e:z3} {te:TE} {lo hi:ov z3} {tl th:TO} {pos p2:Pos}
theorem cG:PO X gs Ii:=by
 intro pins s σ H Q I h;rw[evalPart_none];exact ix ⟨gs,H,I,.none,h⟩
theorem cF (h:PE X e te):PO X (ag e) (Mb te):=by
 intro pins s σ H Q I Z;rw[evalPart_some];refine thn (h pins s σ H _ I Z) λu α ⟨x,H1,O,L,Y⟩=>?_;obtain⟨i,rfl,q⟩:=Y;obtain⟨t,rfl⟩:=L;exact⟨ag i,H1,O,.int i t,q⟩
def SlR (X:Cx) (r:V->ov Int->ov Int->Hp->VK->Prop):Prop:=
 ∀(pins:B') (s:hN) (σ:St) (H:Hp) (x:V) (v O L:iv) (lo hi:ov Int) (Y:eH) (Q:VK),Inv X pins σ H s->RelV x v->s.heap.IsSliceOf Y O L .none->IsPart O lo->IsPart L hi->r x lo hi H Q->
  ∃T id,typeLookup (.type T) "__getitem__"=pure (ag (.builtin id))/\s.TypeIs v T/\ll (ph X.prog X.w) X.A (getItem v (.ref Y)) (EP X pins σ Q) X.xe s
noncomputable abbrev tSl (r:V->ov Int->ov Int->Hp->VK->Prop) (te:TE) (tl th:TO):TE:=fun σ H Q=>te σ H λx H1=>tl σ H1 λl H2=>th σ H2 λu L=>r x l u L Q
theorem bQ {r:V->ov Int->ov Int->Hp->VK->Prop} (hr:SlR X r) (he:PE X e te) (hl:PO X lo tl) (hu:PO X hi th):PE X (.Subscript e (.Slice lo hi gs p2) pos) (tSl r te tl th):=by
 intro pins s σ H Q I h;refine SW (thn (he pins s σ H _ I h) λv γ ⟨x,H1,O,δ,ζ⟩=>?_);refine wpAny_Slice (thn (hl pins γ σ H1 _ O ζ) λZ β ⟨l,H2,ξ,pl,φ⟩=>thn (hu pins β σ H2 _ ξ φ) λY L ⟨u,α,I3,η,ε⟩=>?_);rw[evalPart_none];refine ix ?_;have ν:Inv X pins σ α {L with heap:=L.heap.push {cls:= .type "slice",data:= .fields #[Z,Y,.none]}}:=I3.kept (t':=L.toks) λb ob q=>eW _ q;obtain⟨T,id,hT,θ,ι⟩:=hr pins {L with heap:=L.heap.push {cls:= .type "slice",data:= .fields #[Z,Y,.none]}} σ α x v Z Y l u L.heap.objs.size Q ν δ (Heap.IsSliceOf.new ..) pl η ε;show ll (ph X.prog X.w) X.A (subscriptTail e (.Slice lo hi gs p2) v (.ref L.heap.objs.size)) (EP X pins σ Q) X.xe {L with heap:=L.heap.push {cls:= .type "slice",data:= .fields #[Z,Y,.none]}};exact tail_any (ops:=[.ref L.heap.objs.size,v]) θ hT ι (by with_unfolding_all rfl)
noncomputable def cutV (xs:cc V) (lo hi:ov Int):cc V:=(xs.drop (HT.sIx xs.length 0 lo)).take (HT.sIx xs.length xs.length hi - HT.sIx xs.length 0 lo)
theorem yk (xs:cc V) (lo hi:ov Int):(cutV xs lo hi).length<=xs.length:=by
 unfold cutV;rw[qo,MX];omega
end
noncomputable def ixN (n:Nat) (i:Int):ov Nat:=if 0<=i then (if i < n then ag i.toNat else gs) else if -(n:Int)<=i then ag (i + n).toNat else gs
noncomputable def atI {α:Type} (xs:cc α) (i:Int):ov α:=(ixN xs.length i).bind λj=>xs[j]?
theorem Ez {n:Nat} {i:Int} {j:Nat} (h:ixN n i=ag j):seqIndex? i n=ag j/\j < n/\-(n:Int)<=i/\i < n:=by
 unfold ixN at h;by_cases L:0<=i
 ·rw[kn L] at h;by_cases h1:i < n
  ·rw[kn h1] at h;have e:i.toNat=j:=ui h;exact⟨by rw[SC L h1,e],@A,@A,h1⟩
  ·rw[hQ h1] at h;cases h
 ·rw[hQ L] at h;by_cases h1: -(n:Int)<=i
  ·rw[kn h1] at h;have e:(i + n).toNat=j:=ui h;exact⟨by rw[Sk @A h1,e],@A,h1,@A⟩
  ·rw[hQ h1] at h;cases h
theorem yo {α:Type} {xs:cc α} {i:Int} {v:α} (h:atI xs i=ag v):∃j,seqIndex? i xs.length=ag j/\xs[j]? =ag v/\j < xs.length/\-(xs.length:Int)<=i/\i < xs.length:=by
 unfold atI at h;cases e:ixN xs.length i with
 | none=>rw[e] at h;cases h
 | some j=>
   rw[e] at h;obtain⟨h1,h2,L,ε⟩:=Ez e;exact⟨j,h1,h,h2,L,ε⟩
theorem c6 {α:Type} {xs:cc α} {j:Nat} {v:α} (h:xs[j]? =ag v):atI xs (j:Int)=ag v:=by
 have L:j < xs.length:=(b'.mp h).1
 have e:ixN xs.length (j:Int)=ag j:=by
  unfold ixN;rw[kn @A,kn @A];simp
 unfold atI;rw[e];exact h
def JP (b:z3):Prop:=∀o i,subscripted b false o i=operate [o,i] (getItem o i)
def IxR (X:Cx) (r:R2):Prop:=
 ∀(value L:z3) (pins:B') (s:hN) (σ:St) (H:Hp) (x y:V) (v u:iv) (Q:VK),Inv X pins σ H s->RelV x v->RelV y u->r x y H Q->
  subscripted L false v u=operate [v,u] (getItem v u)->ll (ph X.prog X.w) X.A (subscriptTail value L v u) (EP X pins σ Q) X.xe s
def MtR (X:Cx) (id:Np) (r:V->cc V->Hp->VK->Prop):Prop:=
 ∀(pins:B') (s:hN) (σ:St) (H:Hp) (x:V) (xs:cc V) (v:iv) (us:CB) (Q:VK),Inv X pins σ H s->RelV x v->Vals xs us->r x xs H Q->
  ll (ph X.prog X.w) X.A (call (.builtin id) (v::us)) (EP X pins σ Q) X.xe s
section
variable {X:Cx} {a b:z3} {ta tb:TE} {pos:Pos}
theorem aS {r:R2} (hr:IxR X r) (ha:PE X a ta) (hb:PE X b tb) (hs:JP b):PE X (.Subscript a b pos) (tOp r ta tb):=by
 intro pins s σ H Q I h;exact SW (binT ha hb I h λv u L x y H2 Z Y O q=>hr a b pins L σ H2 x y v u Q Z Y O q (hs _ _))
noncomputable def rIxL (K:a'):R2:=λx y H Q=>∃p xs i v,x= .ref p/\y= .int i/\SqL K H p xs/\atI xs i=ag v/\Q v H
noncomputable def rIxT (K:a'):R2:=λx y H Q=>∃p xs i v,x= .ref p/\y= .int i/\SqT K H p xs/\atI xs i=ag v/\Q v H
noncomputable def rIxS:R2:=λx y H Q=>∃z i c,x= .str z/\y= .int i/\z.length<=jF/\atI z.cps.toList i=ag c/\Q (.str ⟨#[c]⟩) H
theorem Jv:IxR X (rIxL X.K):=by
 intro value L pins s σ H x y v u Q I γ β h hs;obtain⟨p,xs,i,z,rfl,rfl,δ,he,q⟩:=h;cases γ;obtain⟨t,rfl⟩:=β;obtain⟨its,r,pl,hz⟩:=I.list δ;obtain⟨j,h1,h2,η,ε,ζ⟩:=yo he;obtain⟨w,α,O⟩:=r.get h2;have hl:=r.length;have hn:=vJ;have fin:EP X pins σ Q w s:=⟨z,H,I,O,q⟩;by_cases Z:0<=i
 ·have Y:i.toNat=j:=by
   rw[SC Z ζ] at h1;exact ui h1
  exact item_listR pl.isList Z @A (by rw[Y];simpa using α) fin hs
 ·have Y:(i + (its.toArray.size:Int)).toNat=j:=by
   rw[Sk @A ε] at h1;rw[sv,<-hl];exact ui h1
  exact Sm (x:=w) pl.isList.typeIs slot_list_getitem.lookup
   (wpAny_getItem_list_neg (Q:=λr s'=>r=w/\EP X pins σ Q r s') pl.isList @A (by rw[sv]<;>omega) @A (by rw[Y];simpa using α) ⟨rfl,fin⟩) hs
theorem Lq:IxR X (rIxT X.K):=by
 intro value L pins s σ H x y v u Q I Z Y h hs;obtain⟨p,xs,i,z,rfl,rfl,α,he,q⟩:=h;cases Z;obtain⟨t,rfl⟩:=Y;obtain⟨its,r,pl,hz⟩:=I.tuple α;obtain⟨j,h1,h2,δ,ε,γ⟩:=yo he;obtain⟨w,β,O⟩:=r.get h2;have hl:=r.length;have hn:=vJ;have fin:EP X pins σ Q w s:=⟨z,H,I,O,q⟩
 exact Sm (x:=w) pl.typeIs slot_tuple_getitem.lookup
  (getItem_tuple (j:=j) (Q:=λr s'=>r=w/\EP X pins σ Q r s') pl @A @A (by rw[sv,<-hl];exact h1) (by simpa using β) ⟨rfl,fin⟩) hs
theorem yY:IxR X rIxS:=by
 intro value L pins s σ H x y v u Q I Y O h hs;obtain⟨z,i,c,rfl,rfl,hz,he,q⟩:=h;obtain⟨t,rfl⟩:=Y;obtain⟨t',rfl⟩:=O;obtain⟨j,h1,h2,γ,ε,Z⟩:=yo he;have hl:z.cps.toList.length=z.length:=by simp[Str.length]
 rw[hl] at h1 ε Z;have hn:=vJ
 exact tail_any (P5 s z t) slot_str_getitem.lookup (getItem_str (c:=c) (by
  have β:decide (i < -(2 ^ 63:Int))=false:=fy @A;have α:decide (i≥2 ^ 63)=false:=fy @A;rw[β,α,SZ]) (by rw[h1];simpa using h2) ⟨.str ⟨#[c]⟩,H,I.tok _,⟨_,rfl⟩,q⟩) hs
theorem AK (its:CB) (n j:Nat) (u:iv):Pf (·.setIfInBounds j u) {cls:= .type "list",data:= .seq its.toArray n}={cls:= .type "list",data:= .seq (its.set j u).toArray n}:=by
 simp[Pf]
theorem Inv.lst {pins:B'} {σ:St} {H:Hp} {s:hN} {p:eH} {xs:cc V} (I:Inv X pins σ H s) (h:H p=ag (.lst xs)):
  ∃(its:CB) (n:Nat),Vals xs its/\s.heap.get? p=ag {cls:= .type "list",data:= .seq its.toArray n}/\xs.length<=sizeLine:=by
 obtain⟨z,its,n,r,e⟩:=I.hok p _ h;exact⟨its,n,r,e,z⟩
theorem Inv.lstUpd {pins:B'} {σ:St} {H:Hp} {s:hN} {p:eH} {xs ys:cc V} {its its':CB} {n L:Nat} {f:Rk->Rk} (I:Inv X pins σ H s) (h:H p=ag (.lst xs))
  (ho:s.heap.get? p=ag {cls:= .type "list",data:= .seq its.toArray n}) (hf:f {cls:= .type "list",data:= .seq its.toArray n}={cls:= .type "list",data:= .seq its'.toArray L}) (r:Vals ys its') (hz:ys.length<=jF) (t:Nat):
  Inv X pins σ (upd H p (.lst ys)) {s with heap:=s.heap.update p f,toks:=t}:=by
 have e:(s.heap.update p f).get? p=ag {cls:= .type "list",data:= .seq its'.toArray L}:=by
  rw[NJ f ho (by rw[hf]<;>rfl),hf]
 refine I.write (x:=p) (e:=p) (by rw[h];trivial) (.inl rfl) (λb u hb q=>(NG _ _ (J5 hb)).trans q) ⟨_,e⟩ ?_;exact⟨hz,its',L,r,e⟩
noncomputable def KM:V->V->V->Hp->(Hp->Prop)->Prop:=λo i v H Q=>∃p xs k j,o= .ref p/\i= .int k/\H p=ag (.lst xs)/\ixN xs.length k=ag j/\Q (upd H p (.lst (xs.set j v)))
theorem tG:PSet X KM:=by
 intro pins s σ H o i v γ δ u Q I φ α rv h;obtain⟨p,xs,k,j,rfl,rfl,L,β,q⟩:=h;cases φ;obtain⟨t,rfl⟩:=α;obtain⟨its,n,r,ho,hz⟩:=I.lst L;obtain⟨h1,h2,O,ε⟩:=Ez β;have hl:=r.length;have hn:=vJ
 have Z:Inv X pins σ (upd H p (.lst (xs.set j v))) {s with heap:=s.heap.update p (Pf (·.setIfInBounds j u))}:=
  I.lstUpd L ho (AK its n j u) (r.set rv j) (by rw[QF];exact hz) s.toks
 by_cases Y:0<=k
 ·have hk:k.toNat=j:=by
   rw[SC Y ε] at h1;exact ui h1
  exact PySem.W.ki_setAt ho Y @A (by rw[sv,<-hl];exact ε) (by rw[hk];exact⟨_,Z,q⟩)
 ·have hk:(k + (its.toArray.size:Int)).toNat=j:=by
   rw[Sk @A O] at h1;rw[sv,<-hl];exact ui h1
  exact PySem.W.ki_setBack ho @A (by rw[sv,<-hl];exact O) @A (by rw[hk];exact⟨_,Z,q⟩)
theorem vb (lo hi:ov Int) (n:Nat):(sliceBounds lo hi gs n).1=((HT.sIx n 0 lo:Nat):Int)/\(sliceBounds lo hi gs n).2.1=((HT.sIx n n hi:Nat):Int)/\(sliceBounds lo hi gs n).2.2=1:=by
 refine⟨?_,?_,rfl⟩
 ·cases lo with
  | none=>simp[sliceBounds,HT.sIx]
  | some i=>
    simp only[sliceBounds,HT.sIx,RO,show(1:Int) > 0 by decide,QD];by_cases h:i < 0
    ·simp only[h,QD]<;>omega
    ·simp only[h,QY]<;>omega
 ·cases hi with
  | none=>simp[sliceBounds,HT.sIx]
  | some i=>
    simp only[sliceBounds,HT.sIx,RO,show(1:Int) > 0 by decide,QD];by_cases h:i < 0
    ·simp only[h,QD]<;>omega
    ·simp only[h,QY]<;>omega
theorem tF (its:CB) (lo hi:ov Int):slicePick its.toArray lo hi gs=((its.drop (HT.sIx its.length 0 lo)).take (HT.sIx its.length its.length hi - HT.sIx its.length 0 lo)).toArray:=by
 obtain⟨h1,h2,L⟩:=vb lo hi its.toArray.size;unfold slicePick;rw[h1,h2,L];simp only[sliceRange_one,pick_run,sv]<;>rfl
noncomputable def rSlL (K:a'):V->ov Int->ov Int->Hp->VK->Prop:=λx lo hi H Q=>∃a xs,x= .ref a/\SqL K H a xs/\∀p,H p=gs->Q (.ref p) (upd H p (.lst (cutV xs lo hi)))
theorem Iw:SlR X (rSlL X.K):=by
 intro pins s σ H x v γ β lo hi δ Q I Y hs pl Z h;obtain⟨a,xs,rfl,α,q⟩:=h;cases Y;obtain⟨its,r,O,hz⟩:=I.list α;have L:=r.length;refine⟨"list",_,slot_list_getitem.lookup,O.isList.typeIs,?_⟩;refine wpAny_getItem_list_slice O.isList hs pl Z .none @F ?_ (by rw[sv]<;>omega);rw[tF,<-L];refine⟨.ref s.heap.objs.size,_,I.laid (t':=s.toks) (o:= .lst (cutV xs lo hi)) (λb ob q=>eW _ q) (qb _) ?_,rfl,q _ (I.hok.fresh (qb _))⟩;exact⟨NK (yk xs lo hi) hz,_,0,(r.drop (HT.sIx xs.length 0 lo)).take (HT.sIx xs.length xs.length hi - HT.sIx xs.length 0 lo),kv _ rfl⟩
noncomputable def uq:V->N1
 | .non=>true
 | .bl _=>true
 | .int _=>true
 | .str _=>true
 | _=>false
noncomputable def eqV:V->V->N1
 | .non,.non=>true
 | .bl a,.bl b=>a == b
 | .bl a,.int b=>(if a then 1 else 0) == b
 | .int a,.bl b=>a == (if b then 1 else 0)
 | .int a,.int b=>a == b
 | .str a,.str b=>a == b
 | _,_=>false
theorem Lw {A:zx} {s:hN} {y x:V} {u v:iv} (O:RelV y u) (L:RelV x v) (Y:uq y=true) (fx:uq x=true):SeqAt.EqAt A s u v (eqV y x):=by
 cases y with
 | non=>
   cases O;cases x with
   | non=>cases L;exact SeqAt.EqAt.same _
   | bl b=>cases L;exact SeqAt.EqAt.none_bool b
   | int b=>obtain⟨t,rfl⟩:=L;exact SeqAt.EqAt.none_int b t
   | str b=>obtain⟨t,rfl⟩:=L;exact SeqAt.EqAt.none_str b t
   | _=>exact ik (show false=true from fx) hV
 | bl a=>
   cases O;cases x with
   | non=>cases L;exact SeqAt.EqAt.bool_none a
   | bl b=>cases L;exact SeqAt.EqAt.bool_bool a b
   | int b=>obtain⟨t,rfl⟩:=L;exact SeqAt.EqAt.bool_int a b t
   | str b=>obtain⟨t,rfl⟩:=L;exact SeqAt.EqAt.bool_str a b t
   | _=>exact ik (show false=true from fx) hV
 | int a=>
   obtain⟨t',rfl⟩:=O;cases x with
   | non=>cases L;exact SeqAt.EqAt.int_none a t'
   | bl b=>cases L;exact SeqAt.EqAt.int_bool a t' b
   | int b=>obtain⟨t,rfl⟩:=L;exact SeqAt.EqAt.int_int a t' b t
   | str b=>obtain⟨t,rfl⟩:=L;exact Rt a t' b t
   | _=>exact ik (show false=true from fx) hV
 | str a=>
   obtain⟨t',rfl⟩:=O;cases x with
   | non=>cases L;exact SeqAt.EqAt.str_none a t'
   | bl b=>cases L;exact SeqAt.EqAt.str_bool a t' b
   | int b=>obtain⟨t,rfl⟩:=L;exact Rr a t' b t
   | str b=>obtain⟨t,rfl⟩:=L;exact SeqAt.EqAt.str_str a t' b t
   | _=>exact ik (show false=true from fx) hV
 | _=>exact ik (show false=true from Y) hV
noncomputable def eqU (x:V) (u:iv):Bool:=match u with
 | .none=>eqV .non x
 | .bool b=>eqV (.bl b) x
 | .int i _=>eqV (.int i) x
 | .str z _=>eqV (.str z) x
 | _=>false
theorem HC {x y:V} {u:iv} (r:RelV y u) (f:uq y=true):eqU x u=eqV y x:=by
 cases y with
 | non=>cases r;rfl
 | bl b=>cases r;rfl
 | int i=>obtain⟨t,rfl⟩:=r;rfl
 | str z=>obtain⟨t,rfl⟩:=r;rfl
 | _=>exact ik (show false=true from f) hV
theorem rB {x:V}:∀{xs:cc V} {us:CB},Vals xs us->xs.all uq=true->us.any (eqU x)=xs.any λy=>eqV y x
 | _,_,.nil,_=>rfl
 | y::xs,u::us,.cons r t,f=>by
   rw[Qf,wb] at f;rw[P3,P3,HC r f.1,rB t f.2]
theorem nj {A:zx} {s:hN} {x:V} {v:iv} (L:RelV x v) (fx:uq x=true):∀{xs:cc V} {us:CB},Vals xs us->xs.all uq=true->∀u∈us,SeqAt.EqAt A s u v (eqU x u)
 | _,_,.nil,_=>λu hu=>by cases hu
 | y::xs,u::us,.cons r t,f=>λO hu=>by
   rw[Qf,wb] at f;rcases v9.mp hu with rfl | hu
   ·rw[HC r f.1];exact Lw r L f.1 fx
   ·exact nj L fx t f.2 O hu
noncomputable def inV (x:V) (xs:cc V):Bool:=xs.any λy=>eqV y x
noncomputable def rIn (K:a') (neg:N1):R2:=λx y H Q=>∃p xs,y= .ref p/\(SqL K H p xs∨SqT K H p xs)/\uq x=true/\xs.all uq=true/\Q (.bl (if neg then !inV x xs else inV x xs)) H
theorem DX:OpR X (compareOp .In) (rIn X.K false):=by
 intro pins s σ H x y v u Q I O Y h;obtain⟨p,xs,rfl,hq,fx,fs,q⟩:=h;cases Y;rcases hq with hq | hq
 ·obtain⟨its,r,pl,hz⟩:=I.list hq;refine SeqAt.in_listAt (eqU x) pl.isList (λw L=>nj O fx r fs w (by simpa using L)) ⟨.bl _,H,I,rfl,?_⟩;rw[show its.toArray.any (eqU x)=its.any (eqU x) by simp,rB r fs];exact q
 ·obtain⟨its,r,pl,hz⟩:=I.tuple hq;refine SeqAt.in_tupleAt (eqU x) pl (λw L=>nj O fx r fs w (by simpa using L)) ⟨.bl _,H,I,rfl,?_⟩;rw[show its.toArray.any (eqU x)=its.any (eqU x) by simp,rB r fs];exact q
theorem vz:OpR X (compareOp .NotIn) (rIn X.K true):=by
 intro pins s σ H x y v u Q I O Y h;obtain⟨p,xs,rfl,hq,fx,fs,q⟩:=h;cases Y;rcases hq with hq | hq
 ·obtain⟨its,r,pl,hz⟩:=I.list hq;refine SeqAt.notIn_listAt (eqU x) pl.isList (λw L=>nj O fx r fs w (by simpa using L)) ⟨.bl _,H,I,rfl,?_⟩;rw[show its.toArray.any (eqU x)=its.any (eqU x) by simp,rB r fs];exact q
 ·obtain⟨its,r,pl,hz⟩:=I.tuple hq;refine SeqAt.notIn_tupleAt (eqU x) pl (λw L=>nj O fx r fs w (by simpa using L)) ⟨.bl _,H,I,rfl,?_⟩;rw[show its.toArray.any (eqU x)=its.any (eqU x) by simp,rB r fs];exact q
theorem vy:OpR X (compareOp .NotIn) (λx y H Q=>∃i j,x= .str i/\y= .str j/\Q (.bl (!(!(NR j i 0 j.length 1).isEmpty))) H):=by
 intro pins s σ H x y v u Q I O L h;obtain⟨i,j,rfl,rfl,q⟩:=h;obtain⟨t,rfl⟩:=O;obtain⟨t',rfl⟩:=L;exact notIn_str ⟨.bl _,H,I,rfl,q⟩
theorem wF:nO X (.type "list") (λxs H Q=>∃p ys,xs=[.ref p]/\(SqL X.K H p ys∨SqT X.K H p ys)/\∀l,H l=gs->Q (.ref l) (upd H l (.lst ys))):=by
 intro pins s σ H xs us Q I r h;obtain⟨p,ys,rfl,hq,q⟩:=h;obtain⟨u,rfl,Z⟩:=rK r;cases Z
 have fin:∀(its:CB),Vals ys its->ys.length<=jF->∀(h':MT) (L:Nat),(∀b o',s.heap.get? b=ag o'->h'.get? b=ag o')->
   h'.get? s.heap.objs.size=ag {cls:= .type "list",dict:=gs,data:= .seq its.toArray L,slots:=#[]}->EP X pins σ Q (.ref s.heap.objs.size) {s with heap:=h'}:=λits r' hz h' L kp e=>
  ⟨.ref s.heap.objs.size,_,I.laid (t':=s.toks) kp (qb _) (show eB X.prog X.w _ h' _ (.lst ys) from⟨hz,its,L,r',e⟩),rfl,q _ (I.hok.fresh (qb _))⟩
 rcases hq with hq | hq
 ·obtain⟨its,r',pl,hz⟩:=I.list hq;have O:=r'.length;obtain⟨o,ho,Y,n,hd⟩:=pl.isList;exact call_list_seq p (.inl rfl) ho Y hd (λh' L kp e=>fin its r' hz h' L kp e) (by simp only[sv]<;>omega)
 ·obtain⟨its,r',pl,hz⟩:=I.tuple hq;have O:=r'.length;obtain⟨o,ho,Y,n,hd⟩:=pl;exact call_list_seq p (.inr rfl) ho Y hd (λh' L kp e=>fin its r' hz h' L kp e) (by simp only[sv]<;>omega)
theorem uB:nO X (.type "tuple") (λxs H Q=>∃p ys,xs=[.ref p]/\((SqL X.K H p ys/\∀l,H l=gs->Q (.ref l) (upd H l (.tup ys)))∨(SqT X.K H p ys/\Q (.ref p) H))):=by
 intro pins s σ H xs us Q I r h;obtain⟨p,ys,rfl,h⟩:=h;obtain⟨u,rfl,Y⟩:=rK r;cases Y;rcases h with ⟨L,q⟩ | ⟨L,q⟩
 ·obtain⟨its,r',pl,hz⟩:=I.list L;have O:=r'.length;refine call_tuple_list pl.isList (λh' kp=>?_) (by simp only[sv]<;>omega);have I1:Inv X pins σ H {s with heap:=h'}:=I.kept (t':=s.toks) kp
  have Z:Inv X pins σ (upd H h'.objs.size (.tup ys)) {s with heap:=h'.push {cls:= .type "tuple",data:= .seq its.toArray}}:=
   I1.laid (t':=s.toks) (λb o e=>eW _ e) (qb _) (show eB X.prog X.w _ _ _ (.tup ys) from⟨hz,its,r',Sl _ _⟩)
  exact⟨.ref h'.objs.size,_,Z,rfl,q _ (I1.hok.fresh (qb _))⟩
 ·obtain⟨its,r',pl,hz⟩:=I.tuple L;exact call_tuple_same pl ⟨.ref p,H,I,rfl,q⟩
def tyV (K:a') (T:Np) (x:V) (H:Hp):Prop:=match x with
 | .str _=>T="str"
 | .int _=>T="int"
 | .ref p=>(T="list"/\∃xs,SqL K H p xs)∨(T="tuple"/\∃o,K.lookup p=ag o/\o.cls= .type "tuple"/\o.dict=gs)∨
   (T="dict"/\((∃L,H p=ag (.dK L))∨∃L,H p=ag (.dT L)))∨(T="set"/\∃S n,H p=ag (.set S n))
 | _=>False
theorem Hg {pins:B'} {σ:St} {H:Hp} {s:hN} {T:Np} {x:V} {v:iv} (I:Inv X pins σ H s) (r:RelV x v) (ty:tyV X.K T x H):
  s.TypeIs v T/\∀a,v= .ref a->∃ob,s.heap.get? a=ag ob/\ob.dict=none:=by
 cases x with
 | str z=>
   obtain⟨t,rfl⟩:=r;cases(show T="str" from ty);exact⟨P5 s z t,λ_ e=>nomatch e⟩
 | int i=>
   obtain⟨t,rfl⟩:=r;cases(show T="int" from ty);exact⟨SV s i t,λ_ e=>nomatch e⟩
 | ref p=>
   cases r;rcases ty with ⟨rfl,xs,Y⟩ | ⟨rfl,o,hk,Z,hd⟩ | ⟨rfl,hk⟩ | ⟨rfl,S,n,hk⟩
   ·obtain⟨its,_,pl,_⟩:=I.list Y;refine⟨pl.isList.typeIs,λa e=>?_⟩;cases e;obtain⟨o,n,e,c,hd,_⟩:=pl;exact⟨o,e,hd⟩
   ·refine⟨⟨o,I.kIn p o hk,Z⟩,λa e=>?_⟩;cases e;exact⟨o,I.kIn _ o hk,hd⟩
   ·have z:∃o,s.heap.get? p=ag o/\o.ExactDict:=by
     rcases hk with ⟨L,hk⟩ | ⟨L,hk⟩
     ·obtain⟨_,_,_,_,o,_,_,e,ex,_⟩:=I.hok p _ hk;exact⟨o,e,ex⟩
     ·obtain⟨_,_,_,_,o,_,_,e,ex,_⟩:=I.hok p _ hk;exact⟨o,e,ex⟩
    obtain⟨o,e,ex⟩:=z;refine⟨⟨o,e,ex.1⟩,λa O=>?_⟩;cases O;exact⟨o,e,ex.2.1⟩
   ·obtain⟨o,_,_,_,e,ex,_⟩:=I.hok p _ hk;refine⟨⟨o,e,ex.1⟩,λa O=>?_⟩;cases O;exact⟨o,e,ex.2.1⟩
 | _=>exact LI ty
noncomputable abbrev tBM0 (K:a') (T:Np) (r:V->cc V->Hp->VK->Prop) (to:TE):TE:=fun σ H Q=>to σ H λx H1=>tyV K T x H1/\r x [] H1 Q
noncomputable abbrev tBM (K:a') (T:Np) (r:V->cc V->Hp->VK->Prop) (to:TE) (t:TA):TE:=fun σ H Q=>to σ H λx H1=>tyV K T x H1/\t σ H1 λxs H2=>r x xs H2 Q
variable {o e:z3} {es:cc z3} {to:TE} {t:TA} {name:ic} {apos cpos:Pos} {T id:Np} {r:V->cc V->Hp->VK->Prop}
theorem K5 (γ:PlainAttrs T) (slot:Slot T name id) (η:typeOf (.builtin id)=pure (.type "method_descriptor")) (hm:MtR X id r) (ho:PE X o to)
  (Y:attributeBase o name X.env (eval o X.env)=eval o X.env:=by rfl) (L:(apos.endLine == cpos.line)=true:=by rfl):PE X (.Call (.Attribute o name apos) [] [] cpos) (tBM0 X.K T r to):=by
 intro pins s σ H Q I h;refine wpAny_Call_method0_late Y L (thn (ho pins s σ H _ I h) λv α ⟨x,H1,O,Z,ty,β⟩=>?_);obtain⟨h1,h2⟩:=Hg O Z ty;exact⟨T,id,γ,slot,η,h1,h2,RF rfl (PySem.evalArgs_none (hm pins α σ H1 x [] v [] Q O Z .nil β))⟩
theorem Mx (ζ:PlainAttrs T) (slot:Slot T name id) (η:typeOf (.builtin id)=pure (.type "method_descriptor")) (hm:MtR X id r) (ho:PE X o to) (ha:PA X (e::es) t)
  (Y:attributeBase o name X.env (eval o X.env)=eval o X.env:=by rfl)
  (Z:((backTo cpos (oD (e::es) X.env)).all (λx=> !x.1)&&(backToKw cpos (keywordEach [] X.env)).all (λx=>x.1.isSome)
   &&decide ((e::es).length + ([]:cc Keyword).length + (if ([]:cc Keyword).isEmpty then 0 else 1) < 30))=true:=by rfl)
  (L:(apos.endLine == cpos.line)=true:=by rfl) (hs:oD (e::es) X.env=(false,eval e X.env)::oD es X.env:=by rfl) (ν:(backTo cpos (oD es X.env)).any (·.1)=false:=by rfl):
  PE X (.Call (.Attribute o name apos) (e::es) [] cpos) (tBM X.K T r to t):=by
 intro pins s σ H Q I h;refine wpAny_Call_method_late Y Z L rfl (thn (ho pins s σ H _ I h) λv δ ⟨x,H1,O,α,ty,ε⟩=>?_);obtain⟨h1,h2⟩:=Hg O α ty;refine⟨T,id,ζ,slot,η,h1,h2,?_⟩;have β:=ha cpos pins δ σ H1 _ O ε;rw[hs] at β ⊢;refine RF (by show(false||(backTo cpos (oD es X.env)).any (·.1))=false;rw[ν]<;>rfl) (RW ?_);exact thn β λus γ ⟨vs,H2,θ,υ,φ⟩=>hm pins γ σ H2 x vs v us Q θ α υ φ
end
def MtM (X:Cx) (id:Np) (r:V->cc V->Hp->VK->Prop):Prop:=
 ∀(pins:B') (s:hN) (σ:St) (H:Hp) (x:V) (xs:cc V) (v:iv) (us:CB) (Q:VK),Inv X pins σ H s->RelV x v->Vals xs us->r x xs H Q->
  ll (ph X.prog X.w) X.A (call (.builtin id) (v::us)) (EP X pins σ Q) X.xe s
theorem Vals.one:∀{x:V} {us:CB},Vals [x] us->∃u,us=[u]/\RelV x u
 | _,_,.cons r .nil=>⟨_,rfl,r⟩
theorem Vals.two:∀{x y:V} {us:CB},Vals [x,y] us->∃u v,us=[u,v]/\RelV x u/\RelV y v
 | _,_,_,.cons r (.cons q .nil)=>⟨_,_,rfl,r,q⟩
theorem Vals.eraseIdx:∀{xs:cc V} {us:CB} (i:Nat),Vals xs us->Vals (xs.eraseIdx i) (us.eraseIdx i)
 | _,_,_,.nil=> .nil
 | _,_,0,.cons _ t=>t
 | _,_,i + 1,.cons r t=> .cons r (Vals.eraseIdx i t)
theorem Vals.reverse {xs:cc V} {us:CB} (h:Vals xs us):Vals xs.reverse us.reverse:=by
 induction h with
 | nil=>exact .nil
 | cons r t ih=>rw[Sn,Sn];exact Vals.append ih (.cons r .nil)
theorem Vals.rep {xs:cc V} {us:CB} (h:Vals xs us):∀k:Nat,Vals (z1 k xs).flatten (z1 k us).flatten
 | 0=> .nil
 | k + 1=>by
   rw[Oa,Oa,NW,NW];exact Vals.append h (Vals.rep h k)
theorem vK {α:Type}:∀(l:cc α) (i:Nat),(l.eraseIdx i).length<=l.length
 | [],_=>qb _
 | _::_,0=>Pa _
 | _::r,i + 1=>Nat.succ_le_succ (vK r i)
theorem wg (its:CB):∀(k:Nat) (L:CB),
  S9 (λx1 x2=>x1++x2) L.toArray (z1 k its.toArray)=(L++(z1 k its).flatten).toArray
 | 0,L=>by simp
 | k + 1,L=>by
   have e:L.toArray++its.toArray=(L++its).toArray:=by simp
   have O:(L++its)++(z1 k its).flatten=L++(z1 (k + 1) its).flatten:=by
    rw[Oa,NW,Pb]
   rw[<-O,<-wg its k (L++its),<-e,Oa,List.foldl_cons]
section
variable {X:Cx} {pins:B'} {σ:St} {H:Hp} {s:hN} {l b:eH} {xs ys zs:cc V}
theorem Inv.lset {its its':CB} {n:Nat} {f:CL->CL} {t':Nat} (I:Inv X pins σ H s) (L:H l=ag (.lst xs))
  (e:s.heap.get? l=ag {cls:= .type "list",data:= .seq its.toArray n}) (hf:f its.toArray=its'.toArray) (ρ:Vals ys its') (hz:ys.length<=jF):
  Inv X pins σ (upd H l (.lst ys)) {s with heap:=s.heap.update l (Pf f),toks:=t'}:=by
 have q:=PySem.IsL.update e f;rw[hf] at q;refine I.write (x:=l) (e:=l) (by rw[L];exact trivial) (.inl rfl) (λO u hb Z=>(NG s.heap (Pf f) (J5 hb)).trans Z) ⟨_,q⟩ ?_;exact⟨hz,its',_,ρ,q⟩
theorem Inv.lnew {its:CB} {t':Nat} (I:Inv X pins σ H s) (hv:Vals ys its) (hz:ys.length<=jF):
  Inv X pins σ (upd H s.heap.objs.size (.lst ys)) {s with heap:=s.heap.push {cls:= .type "list",data:= .seq its.toArray},toks:=t'}:=
 I.laid (λ_ _ q=>eW _ q) (qb _) ⟨hz,its,0,hv,kv _ rfl⟩
theorem Inv.fresh (I:Inv X pins σ H s):H s.heap.objs.size=none:=I.hok.fresh (qb _)
theorem Inv.lstM (I:Inv X pins σ H s) (L:H l=ag (.lst xs)):xs.length<=jF/\∃(its:CB) (n:Nat),Vals xs its/\xs.length=its.length/\s.heap.get? l=ag {cls:= .type "list",data:= .seq its.toArray n}:=by
 obtain⟨z,its,n,r,e⟩:=I.hok l _ L;exact⟨z,its,n,r,r.length,e⟩
theorem yU {n:Nat} (h:n<=jF):On n=false:=by
 unfold On;exact fy @A
end
section
variable {X:Cx}
noncomputable def DH:V->cc V->Hp->VK->Prop:=λx vs H Q=>∃l xs y,x= .ref l/\vs=[y]/\H l=ag (.lst xs)/\xs.length < jF/\Q .non (upd H l (.lst (xs++[y])))
theorem gy:MtM X "list.append" DH:=by
 intro pins s σ H x vs v us Q I O rv h;obtain⟨l,xs,y,rfl,rfl,L,hz,q⟩:=h;cases O;obtain⟨u,rfl,τ⟩:=rv.one;obtain⟨z,its,n,r,hl,e⟩:=I.lstM L;refine O4 F.slot_list_append ⟨_,e,rfl⟩ F.entry_list_append (F.args_list_append_2 _ _) (PySem.list_append l its.toArray n u (by rw[sv];omega)) ⟨e,?_⟩;refine⟨.non,_,I.lset (its':=its++[u]) L e @F (r.append (.cons τ .nil)) ?_,rfl,q⟩;rw[hE,M0];omega
noncomputable def DG:V->cc V->Hp->VK->Prop:=λx vs H Q=>∃l b xs zs,x= .ref l/\vs=[.ref b]/\H l=ag (.lst xs)/\H b=ag (.lst zs)/\xs.length + zs.length<=jF/\Q .non (upd H l (.lst (xs++zs)))
theorem hZ:MtM X "list.extend" DG:=by
 intro pins s σ H x vs v us Q I Y rv h;obtain⟨l,b,xs,zs,rfl,rfl,O,Z,hz,q⟩:=h;cases Y;obtain⟨u,rfl,τ⟩:=rv.one;cases τ;obtain⟨z,its,n,r,hl,e⟩:=I.lstM O;obtain⟨β,L,n2,υ,hl2,α⟩:=I.lstM Z;have hsz:its.toArray.size + L.toArray.size<=sizeLine:=by rw[sv,sv];omega
 have θ:¬(!its.toArray.isEmpty&&On (its.toArray.size + L.toArray.size))=true:=by
  rw[yU hsz,Ou];exact hV
 refine O4 F.slot_list_extend ⟨_,e,rfl⟩ F.entry_list_extend (F.args_list_extend_2 _ _)
  (AutoSeq1.list_extend_list_list_0 l its.toArray n b L.toArray n2 θ (by rw[sv];omega) @A) ⟨e,α,?_⟩
 refine⟨.non,_,I.lset (its':=its++L) O e @F (r.append υ) ?_,rfl,q⟩;rw[hE];omega
noncomputable def rCat:R2:=λx y H Q=>∃l b xs zs,x= .ref l/\y= .ref b/\H l=ag (.lst xs)/\H b=ag (.lst zs)/\xs.length + zs.length<=jF/\∀p,H p=gs->Q (.ref p) (upd H p (.lst (xs++zs)))
theorem dM:OpR X (binaryOp .Add) rCat:=by
 intro pins s σ H x y v u Q I Y O h;obtain⟨l,b,xs,zs,rfl,rfl,Z,α,hz,q⟩:=h;cases Y;cases O;obtain⟨z,its,n,r,hl,e⟩:=I.lstM Z;obtain⟨γ,L,n2,υ,hl2,β⟩:=I.lstM α;refine PySem.P.add_list e β ?_ (by rw[sv,sv];omega);have ea:its.toArray++L.toArray=(its++L).toArray:=by simp
 rw[ea];exact⟨.ref _,_,I.lnew (t':=s.toks) (r.append υ) (by rw[hE];omega),rfl,q _ I.fresh⟩
noncomputable def rRep:R2:=λx y H Q=>∃l k xs,x= .ref l/\y= .int k/\H l=ag (.lst xs)/\-(2 ^ 63)<=k/\k < 2 ^ 63/\xs.length * k.toNat<=jF/\
 ∀p,H p=gs->Q (.ref p) (upd H p (.lst (z1 k.toNat xs).flatten))
theorem Jm {α:Type} (xs:cc α) (k:Nat):(z1 k xs).flatten.length=k * xs.length:=by
 induction k with
 | zero=>simp
 | succ k ih=>rw[Oa,NW,hE,ih,Nat.succ_mul,Nat.add_comm]
theorem K6:OpR X (binaryOp .Mult) rRep:=by
 intro pins s σ H x y v u Q I γ β h;obtain⟨l,k,xs,rfl,rfl,δ,h1,h2,hz,q⟩:=h;cases γ;obtain⟨t,rfl⟩:=β;obtain⟨z,its,n,r,hl,e⟩:=I.lstM δ;have Y:its.toArray.size * k.toNat<=sizeLine:=by rw[sv,<-hl];exact hz
 have α:¬its.toArray.size * k.toNat > (2 ^ 63 - 1) / 8:=by
  have:(jF:Nat)<=(2 ^ 63 - 1) / 8:=by decide
  omega
 have Z:¬(!Builtin.List.listFitsIndex k)=true:=by
  rw[fitsIndex_both h1 h2];exact hV
 have θ:¬On (its.toArray.size * k.toNat)=true:=by
  rw[yU Y];exact hV
 have L:S9 (λx1 x2=>x1++x2) #[] (z1 (if its.toArray.isEmpty=true then 0 else k.toNat) its.toArray)=(z1 k.toNat its).flatten.toArray:=by
  have O:∀m:Nat,S9 (λx1 x2=>x1++x2) #[] (z1 m its.toArray)=(z1 m its).flatten.toArray:=λm=>by
   have:=wg its m [];rw[PV] at this;exact this
  rw[O];cases its with
  | nil=>simp
  | cons a r'=>rw[hQ @F]
 refine wpAny_binaryOp_repeat_ref (T:="list") (U:="int") @C ⟨_,e,rfl⟩ (λs'=>SV s' k t) noFill_list_mul F.fills_int_mul F.slot_int_rmul repeat_list F.slot_int_index.lookup
  (O4 F.slot_int_rmul (SV s k t) F.entry_int_rmul (F.args_int_rmul_2 _ _) (int___rmul___int_list k t l its.toArray n)
   ⟨e,rfl,⟨_,e,rfl⟩,O4 F.slot_list_mul ⟨_,e,rfl⟩ F.entry_list_mul (F.args_list_mul_2 _ _) (AutoListH.list___mul___list_int_3 l its.toArray n k t Z α θ) ⟨e,?_⟩⟩)
 rw[L];exact⟨.ref _,_,I.lnew (t':=s.toks) (r.rep k.toNat) (by rw[Jm,Nat.mul_comm];exact hz),rfl,q _ I.fresh⟩
end
end L2
namespace Att
open PySem PySem.W PySem.Calls PyProof.Rows
theorem qT {P:Params} {h:MT}:∀(ns:Dk) (vs:CB),WellAll P h vs (ns.map WData.int)->IntsAre vs ns:=by
 intro ns
 induction ns with
 | nil=>
   intro vs w;rw[Qo] at w;cases w;exact .nil
 | cons n ns ih=>
   intro vs w;rw[MU] at w;cases w with
   | cons a b=>
     cases a;exact .cons _ _ (ih _ b)
theorem Df {l:Si} {n:Nat} (hn:l.most=ag n) {P:Params} {h:MT} {args:cc WData} {L:CB}
  (O:l.row.toRowW.claim.pre args=true) (ψ:WellAll P h L args):
  ∃a vs ns,L=[sb a]/\args=[WData.list (ns.map WData.int)]/\h.get? a=ag {cls:= .type "list",data:= .seq vs.toArray}/\IntsAre vs ns/\ns.length<=n:=by
 have β:WShape.hasAll [] args [.list .int]=true:=(pre_splitW O).1;have γ:l.pre.holds [] {args:=args}=true:=(pre_splitW O).2;obtain⟨d,r,rfl,h1,h2⟩:=hasAllW_cons β;obtain rfl:=hasAllW_nil h2;obtain⟨xs,rfl,θ⟩:=hasW_list h1;obtain⟨ns,rfl⟩:=items_int θ
 have Y:ns.length<=n:=by
  unfold OpenLaw.pre at γ
  have ε:(WTm.not (.lt (.lit (.int (n:Int))) (.len (.arg 0)))).holds [] {args:=[.list (ns.map .int)]}=true:=by
   have ε:=(holds_andW γ).1;rw[hn] at ε;exact ε
  have α:=condW_of ε (w_not (w_lt w_lit (w_len_list (w_arg rfl))));rw[ak] at α;refine Nat.le_of_not_lt λq=>?_;have δ:(n:Int) < ((ns.length:Nat):Int):=by omega
  first
   | (rw[fZ δ] at α;exact ik α @C)
   | (simp at α;omega)
 cases ψ with
 | cons η ζ=>
   cases ζ;cases η with
   | list ho Z=>exact⟨_,_,ns,rfl,rfl,ho,qT ns _ Z,Y⟩
theorem DO (l:Si) (args:cc WData):l.row.toRowW.claim.post args (.bool true) args=true:=
 postW_of (r:=l.row.toRowW) (X:=(true == true))
  (show T2 [] (.bool true) .bool=true by first | rfl | decide | simp[T2,WShape.arms,WShape.armsAll])
  (show(WTm.eq .res (.lit (.bool true))).value [] {args:=args,res:=ag (.bool true),after:=args}=ag (.bool (true == true)) from w_eq_bool (w_res rfl) w_lit) rfl
theorem attach_call {l:Si} {n:Nat} {q:ry} {ξ:A6} {ε:CD->MT->Prop} {τ:zt->MT->Prop} {d:DefRec}
  (hn:l.most=ag n) (θ:d.params.defaults=[])
  (call:∀(w:zt) (s₀ L:hN) (mg η:CD) (γ:eH) (o:Rk) (ζ δ O:iv) (a:eH) (vs:CB) (ns:Dk),
   Ground q ξ [] ε w s₀ mg η L.heap->τ w L.heap->
   L.heap.get? γ=ag o->o.data= .func (docDef d.name d.params d.body d.scope ζ δ O)->L.heap.CodeRec δ d.name->mg d.name=ag (.ref γ)->
   L.heap.get? a=ag {cls:= .type "list",data:= .seq vs.toArray}->IntsAre vs ns->ns.length<=n->L.gens=#[]->
   codeAny (ph l.prog w) callerA (.call (.ref γ) ⟨[.ref a],[]⟩) (λr s'=>r= .ok (.ret (.bool true))/\OldK L.heap s'.heap/\s'.os=L.os/\AllBare s'.gens) L):
  WalkO q ξ ε τ l.row.toRowW d [] (λf vs=>S5 f vs):=by
 intro w s₀ L mg η G Y γ o ζ δ O dV kV ho hd ν ρ ω hg args ο as Z π υ ψ χ;obtain rfl:dV= .none:=Dflts.none ρ θ;obtain rfl:kV= .none:=Dflts.noKw ρ;obtain⟨a,vs,ns,rfl,rfl,α,ι,β⟩:=Df hn Z ψ;refine enter_call (Oi (call w s₀ L mg η γ o ζ δ O a vs ns G Y ho (fd_plain hd) ν ω α ι β hg) λr s' φ=>?_);obtain⟨rfl,h2,h3,h4⟩:=φ;exact⟨.inl ⟨.bool true,.bool true,[],rfl,λ_=>rfl,.bool true,DO l _,λ_=>⟨List.Pairwise.nil,λ_ hm=>(nomatch hm)⟩⟩,h2,h3,h4⟩
end Att
namespace L2
open PySem PySem.Spec PyProof.Rows
theorem uR:∀{vs:CB} {ns:Dk},IntsAre vs ns->Vals (ns.map V.int) vs
 | _,_,.nil=> .nil
 | _,_,.cons n t h=> .cons ⟨t,rfl⟩ (uR h)
def Only (H:Hp):Prop:=∀b,H b=gs∨∃o xs,H b=ag (.frz o (.lst xs))
theorem GQ {P:ry} {w:zt} {K:a'} {mg ρ:CD} {CX:CXT} {k:Nat} {φ a:eH} {fd:lM} {x:ic} {sp:Sp} {L:hN} {vs:CB} {ns:Dk}
  (KX:K.In L.heap) (θ:L.heap.Ns MV mg) (hb:L.heap.Ns builtinsNs ρ) (τ:∀x:ic,x≠"__name__"->ρ x=bootBuiltins x) (ν:L.heap.NoLimit) (hg:L.gens=#[])
  (ha:L.heap.get? a=ag {cls:= .type "list",data:= .seq vs.toArray}) (hi:IntsAre vs ns) (hl:ns.length<=jF) (hr:Room k callerA)
  (F:∀base:MT,K.In base->base.Ns MV mg->FnOk P w K mg base CX k φ fd [x] sp) (β:∀(s:hN) (u:iv),BindsTo s fd ⟨[u],[]⟩ [(x,u)])
  (O:∀H:Hp,Only H->SqL K H a (ns.map V.int)->sp [.ref a] H (λv _=>v= .bl true) λ_ _ _=>False)
  (υ:∀H e s',CX [] H L (λ_ _ _=>False) e s'->False):
  codeAny (ph P w) callerA (.call (.ref φ) ⟨[.ref a],[]⟩) (λr s'=>r= .ok (.ret (.bool true))/\OldK L.heap s'.heap/\s'.os=L.os/\AllBare s'.gens) L:=by
 have rv:=uR hi;have ε:=hi.length
 have α:∀H:Hp,Only H->SqL K H a (ns.map V.int)->HOk P w H L.heap->(∀b,H b≠gs->b=a)->(H a≠gs->K.lookup a=gs)->
   codeAny (ph P w) callerA (.call (.ref φ) ⟨[.ref a],[]⟩) (λr s'=>r= .ok (.ret (.bool true))/\OldK L.heap s'.heap/\s'.os=L.os/\AllBare s'.gens) L:=by
  intro H hO hS hok ψ η;have Y:∀{b:eH} {o:Rk},L.heap.get? b=ag o->H b=gs->(hidT L.heap H).get? b=ag o:=λe n=>GT e n
  have π:∀{b:eH} {o:Rk} {es:Qb DictEntry} {ο:Nat},L.heap.get? b=ag o->o.data= .dict es ο->H b=none:=λ{b o es ο} e d=>by
   cases q:H b with
   | none=>rfl
   | some u=>
     have χ:b=a:=ψ b (by rw[q];simp);subst χ;rw[ha] at e;cases e;have d':Data.seq vs.toArray _=Data.dict es ο:=d;cases d'
  have Z:∀{b:eH} {m:CD},L.heap.Ns b m->(hidT L.heap H).Ns b m:=λ{b m} ⟨o,es,ο,e,d,r⟩=>⟨o,es,ο,Y e (π e d),d,r⟩
  have ξ:K.In (hidT L.heap H):=λb o e=>Y (KX b o e) (by
   cases q:H b with
   | none=>rfl
   | some u=>
     have χ:b=a:=ψ b (by rw[q];simp);subst χ;rw[η (by rw[q];simp)] at e;cases e)
  have hM:Mod K mg (hidT L.heap H):=⟨ξ,Z θ,⟨ρ,Z hb,τ⟩,let ⟨mc,h1,h2⟩:=ν;⟨mc,Z h1,h2⟩⟩;have ι:Env0 P w K mg (hidT L.heap H) callerA [] L H:=⟨rfl,hM,λb o e=>Je e,Nat.le_of_eq (EE _ _),trivial,λb hb=>ik (show b∈([]:D') from hb) @F,hok,.of_eq hg⟩;refine Oi ((F _ ξ (Z θ)).run callerA [] L H ⟨[.ref a],[]⟩ [.ref a] [.ref a] _ _ hr ι (β L (.ref a)) (.cons rfl .nil) (O H hO hS)) λr s' h=>?_;cases r with
  | error e=>exact(υ H e s' h).elim
  | ok fl=>
    cases fl with
    | next=>exact LI h
    | brk=>exact LI h
    | cont=>exact LI h
    | ret u=>
      obtain⟨v,H',os,bare,un,ζ,r',q⟩:=h;have δ:v= .bl true:=q;subst δ;obtain rfl:u=S4 true:=r';refine⟨rfl,OldK.of_keep λb o e=>?_,os,bare⟩;cases q:H b with
      | none=>exact un.keep b o e q (by intro z;exact ik (show b∈([]:D') from z) @F) @F
      | some u=>
        rcases hO b with z | ⟨ob,xs,z⟩
        ·rw[q] at z;cases z
        ·have z2:=un.frzs b ob _ z;obtain⟨ω,_⟩:=hok b _ z;obtain⟨e2,_⟩:=ζ b _ z2;rw[e] at ω;cases ω;exact e2
 cases hk:K.lookup a with
 | some o=>
   have e:=KX a o hk;rw[ha] at e;cases e;refine α (λ_=>gs) (λ_=> .inl rfl) (.inr ⟨_,vs.toArray,_,hk,rfl,rfl,rfl,by rw[sv,ε];exact hl,by simpa using rv⟩) (λb u z=>by have γ:(gs:ov HO)=ag u:=z;cases γ) (λb z=>ik rfl z) λz=>ik rfl z
 | none=>
   refine α (λb=>if b=a then ag (.frz {cls:= .type "list",data:= .seq vs.toArray} (.lst (ns.map V.int))) else gs) (λb=>?_) (.inl (.inr ⟨{cls:= .type "list",data:= .seq vs.toArray},kn rfl⟩)) (λb u z=>?_) (λb z=>?_) λ_=>hk
   ·by_cases hb:b=a
    ·exact .inr ⟨_,_,kn hb⟩
    ·exact .inl (hQ hb)
   ·by_cases hb:b=a
    ·have γ:=(kn hb).symm.trans z;cases γ;subst hb;exact⟨ha,by rw[ak];exact hl,vs,_,rv,ha⟩
    ·have γ:=(hQ hb).symm.trans z;cases γ
   ·by_cases hb:b=a
    ·exact hb
    ·exact ik (hQ hb) z
theorem walk_of {l:PySem.W.OpenLaw} {n k:Nat} {q:ry} {ξ:A6} {ε:CD->MT->Prop} {θ:zt->MT->Prop} {d:DefRec} {K:Params->a'} {CX:zt->CXT} {sp:zt->Sp} {x:ic}
  (hn:l.most=ag n) (γ:n<=jF) (δ:d.params.defaults=[]) (ο:Room k callerA)
  (τ:∀(w:zt) (h:MT),θ w h->(K w.params).In h)
  (F:∀(w:zt) (mg:CD) (β:eH) (h:MT),(K w.params).In h->h.Ns MV mg->mg d.name=ag (.ref β)->
   ∃fd:lM,(∀(s:hN) (u:iv),BindsTo s fd ⟨[u],[]⟩ [(x,u)])/\
     ∀base:MT,(K w.params).In base->base.Ns MV mg->FnOk l.prog w (K w.params) mg base (CX w) k β fd [x] (sp w))
  (O:∀(w:zt) (H:Hp) (a:eH) (ns:Dk),ns.length<=n->Only H->SqL (K w.params) H a (ns.map V.int)->sp w [.ref a] H (λv _=>v= .bl true) λ_ _ _=>False)
  (η:∀(w:zt) (H:Hp) (s:hN) (e:iv) (s':hN),CX w [] H s (λ_ _ _=>False) e s'->False):
  PySem.W.WalkO q ξ ε θ l.row.toRowW d [] (λf vs=>S5 f vs):=by
 refine Att.attach_call hn δ λw s₀ Z mg ψ β o χ cd φ a vs ns G Y ho hd ρ ω α ι L π=>?_;have ν:=τ w _ Y;obtain⟨fd,hb,ζ⟩:=F w mg β _ ν G.T.g ω;exact GQ ν G.T.g G.T.b G.T.builtins G.T.nolimit π α ι (NK L γ) ο ζ hb (λH hO υ=>O w H a ns L hO υ) λH e s'=>η w H Z e s'
noncomputable def dU (s:OE) (j:Nat):Stmt:=match s with
 | .ClassDef _ _ _ body _ _ _ _ _ _ _=>body.getD j (.Pass ⟨0,0,0,0⟩)
 | _=> .Pass ⟨0,0,0,0⟩
noncomputable def jC (s:OE):Arguments:=match s with
 | .FunctionDef _ a _ _ _ _ _ _ _ _=>a
 | _=>{posonlyargs:=[],args:=[],vararg:=gs,kwonlyargs:=[],kw_defaults:=[],kwarg:=gs,defaults:=[]}
noncomputable def dI (s:OE):cc Stmt:=match s with
 | .FunctionDef _ _ b _ _ _ _ _ _ _=>b
 | _=>[]
noncomputable def ai (s:OE):Scope:=match s with
 | .FunctionDef _ _ _ _ _ _ L _ _ _=>L
 | _=>{kind:= .function,names:=[],isGenerator:=false,isCoroutine:=false}
noncomputable abbrev CX0:CXT:=λ_ _ _ _ _ _=>False
noncomputable abbrev E0:XK:=λ_ _ _=>False
theorem ip {X:Cx}:nM CX0 X E0:=λ_ _ _ _ _ _ _ h=>h.elim
structure Fun (K:a') (x qual:ic) (st:OE) (f:eH) (fd:lM):Prop where
 ex:∃(oc:iv) (od:Dn) (kV doc pm:iv) (an:Dn) (cdv ct:iv) (osl:CM),
  fd=NO x qual (jC st) (dI st) (ai st) .none kV doc pm an cdv ct/\K.lookup f=ag ⟨oc,od,.func fd,osl⟩/\OG K cdv qual=true
 kp:Nv K (.ref f)=true
section
variable {P:ry} {w:zt} {K:a'} {mg:CD} {base:MT}
theorem Fun.ok {x L:ic} {st:OE} {f:eH} {fd:lM} {N ps:A6} {k:Nat} {sp:Sp} (F:Fun K x L st f fd) (S:aK N ps (ai st)) (len:∀vs H Q E,sp vs H Q E->vs.length=ps.length)
  (Z:∀(Y:iv) (A:zx) (outer:cc Env) (s:hN) (H:Hp) (vs:cc V) (Q:VK) (E:XK),Room k (A.deeper (envOfC L (ai st) s.heap.objs.size f Y))->sp vs H Q E->
   ∃t,PSs (cxOf CX0 P w K mg base N L (ai st) f Y A outer s H E).nox (dI st) t/\t {nx:=λ_ H'=>Q .non H',rt:=Q} (start N vs) H):FnOk P w K mg base CX0 (k + 1) f fd ps sp:=by
 obtain⟨ζ,od,kV,δ,ε,an,Y,ct,β,rfl,lk,α⟩:=F.ex;refine Lv lk α S len λA outer s H vs Q E γ O=>?_;obtain⟨t,h,q⟩:=Z Y A outer s H vs Q E γ O;exact⟨t,h.nox,q⟩
theorem Fun.okA {x L:ic} {st:OE} {f:eH} {fd:lM} {N ps:A6} {k:Nat} {sp:Sp} (F:Fun K x L st f fd) (S:aK N ps (ai st))
  (O:∀(Y:iv) (A:zx) (outer:cc Env) (s:hN) (H:Hp) (vs:cc V) (Q:VK) (E:XK),Room k (A.deeper (envOfC L (ai st) s.heap.objs.size f Y))->sp vs H Q E->
   ∃t,PSs (cxOf CX0 P w K mg base N L (ai st) f Y A outer s H E).nox (dI st) t/\t {nx:=λ_ H'=>Q .non H',rt:=Q} (start N vs) H) (len:∀vs H Q E,sp vs H Q E->vs.length=ps.length:=by walk_at "n"):FnOk P w K mg base CX0 (k + 1) f fd ps sp:=F.ok S len O
theorem Fun.binds {x L:ic} {st:OE} {f:eH} {fd:lM} {ps:A6} (F:Fun K x L st f fd)
  (h:∀(kV O Z:iv) (an:Dn) (Y ct:iv) (us:CB),us.length=ps.length->bindArgs (NO x L (jC st) (dI st) (ai st) .none kV O Z an Y ct) ⟨us,[]⟩=pure (ps.zip us)):my K fd ps []:=by
 obtain⟨γ,od,kV,O,Z,an,Y,ct,α,rfl,lk,β⟩:=F.ex;exact .all (h kV O Z an Y ct)
theorem HB {x L:ic} {st:OE} {f:eH} {β:iv} {od an:Dn} {Z:CM} {kV Y α O ct:iv} (l:K.lookup f=ag ⟨β,od,.func (NO x L (jC st) (dI st) (ai st) .none kV Y α an O ct),Z⟩)
  (c:OG K O L=true) (k:Nv K (.ref f)=true):Fun K x L st f (NO x L (jC st) (dI st) (ai st) .none kV Y α an O ct):=⟨⟨β,od,kV,Y,α,an,O,ct,Z,rfl,l,c⟩,k⟩
end
theorem ED {A:zx} {k:Nat} (hr:Room k A):A.units + 1 < cLine:=QB (Nat.add_le_add_left (by decide:1<=64) _) hr.units
theorem bG {n:Nat} (h:n<=1000):n < sizeLine:=QB h @C
section
variable {X:Cx}
theorem pv (i:Nat) {x:ic} {pos:Pos} (Z:X.N[i]? =ag x:=by rfl) (hv:Vis X.env.scope x:=by first | exact PU rfl | exact Qc (PU rfl) | exact Qc (Qc rfl)) (hd:(x == ("__debug__":ic))=false:=by decide)
  (L:(x == ("__classdict__":ic))=false:=by decide):PE X (.Name x pos) (tVar i):=K1 Z hv hd L
end
theorem ite2 {c A B:Prop} [Decidable c] (h1:c->A) (h2:¬c->B):if c then A else B:=by
 by_cases h:c
 ·rw[kn h];exact h1 h
 ·rw[hQ h];exact h2 h
def Same (H H':Hp):Prop:=∀b o,H b=ag o->H' b=ag o
theorem Same.refl (H:Hp):Same H H:=λ_ _ h=>h
theorem Same.trans {H H1 H2:Hp} (a:Same H H1) (b:Same H1 H2):Same H H2:=λc o h=>b c o (a c o h)
theorem Same.free {H H':Hp} (e:Same H H') {l:eH} (h:H' l=Option.none):H l=Option.none:=by
 cases q:H l with
 | none=>rfl
 | some o=>
   rw[e l o q] at h;cases h
theorem Same.seq {K:a'} {H H':Hp} {a:eH} {xs:cc V} (e:Same H H') (h:SqL K H a xs):SqL K H' a xs:=by
 rcases h with (h | ⟨o,h⟩) | h
 ·exact .inl (.inl (e _ _ h))
 ·exact .inl (.inr ⟨o,e _ _ h⟩)
 ·exact .inr h
section
variable {κ:Type} [DecidableEq κ]
noncomputable def valV (L:cc (κ×V)) (k:κ):ov V:=(L.find? fun θ=>decide (θ.1=k)).map (·.2)
noncomputable def putK (L:cc (κ×V)) (k:κ) (v:V):cc (κ×V):=
 if (L.any fun θ=>decide (θ.1=k))=true then L.map (fun θ=>if θ.1=k then (θ.1,v) else θ) else L++[(k,v)]
theorem iu {p:κ×V} {r:cc (κ×V)} {k:κ} (e:p.1=k):valV (p::r) k=ag p.2:=by simp[valV,OI,e]
theorem gK {p:κ×V} {r:cc (κ×V)} {k:κ} (e:¬p.1=k):valV (p::r) k=valV r k:=by simp[valV,OI,e]
theorem mG (k:κ):∀L:cc (κ×V),(L.any fun θ=>decide (θ.1=k))=(valV L k).isSome
 | []=>rfl
 | p::r=>by
   rw[P3];by_cases e:p.1=k
   ·simp only[iu e,fZ e,Bool.true_or,Option.isSome_some]
   ·rw[gK e,fy e,Bool.false_or];exact mG k r
theorem mq (L:cc (κ×V)) (k:κ) (v:V):(putK L k v).length<=L.length + 1:=by
 unfold putK;split
 ·rw[ak];omega
 ·rw[hE,y1,Pk];omega
theorem RelO.isSome_eq {o:ov V} {u:J2} (r:RelO o u):o.isSome=u.isSome:=by
 cases o with
 | none=>cases u with
   | none=>rfl
   | some _=>exact(show False from r).elim
 | some _=>cases u with
   | none=>exact(show False from r).elim
   | some _=>rfl
theorem KV.val {L:cc (κ×V)} {vs:cc (κ×iv)} (r:KV L vs) (k:κ):RelO (valV L k) (valueAt vs k):=by
 unfold KV at r
 induction r with
 | nil=>exact Os
 | @cons p q ps qs h t ih=>
   obtain⟨h1,h2⟩:=h;by_cases e:p.1=k
   ·have O:q.1=k:=h1.symm.trans e;have b:valueAt (q::qs) k=ag q.2:=by simp[valueAt,OI,O]
    rw[iu e,b];exact h2
   ·have O:¬q.1=k:=λz=>e (h1.trans z);have b:valueAt (q::qs) k=valueAt qs k:=by simp[valueAt,OI,O]
    rw[gK e,b];exact ih
theorem KV.any {L:cc (κ×V)} {vs:cc (κ×iv)} (r:KV L vs) (k:κ):(L.any fun θ=>decide (θ.1=k))=vs.any fun θ=>decide (θ.1=k):=by
 unfold KV at r
 induction r with
 | nil=>rfl
 | cons h t ih=>rw[P3,P3,ih,h.1]
theorem KV.repl {L:cc (κ×V)} {vs:cc (κ×iv)} (r:KV L vs) (k:κ) {y:V} {u:iv} (O:RelV y u):
  KV (L.map fun θ=>if θ.1=k then (θ.1,y) else θ) (vs.map fun θ=>if θ.1=k then (θ.1,u) else θ):=by
 unfold KV at r ⊢
 induction r with
 | nil=>exact .nil
 | @cons p q ps qs h t ih=>
   rw[MU,MU];refine .cons ?_ ih;obtain⟨h1,h2⟩:=h;by_cases e:p.1=k
   ·rw[kn e,kn (h1.symm.trans e)];exact⟨h1,O⟩
   ·rw[hQ e,hQ (λz=>e (h1.trans z))];exact⟨h1,h2⟩
theorem KV.put {L:cc (κ×V)} {vs:cc (κ×iv)} (r:KV L vs) (k:κ) {y:V} {u:iv} (O:RelV y u):KV (putK L k y) (stored vs k u):=by
 unfold putK stored;rw[r.any k];by_cases e:(vs.any fun θ=>decide (θ.1=k))=true
 ·rw[kn e,kn e];exact r.repl k O
 ·rw[hQ e,hQ e];exact SY r ⟨rfl,O⟩
theorem KV.length {L:cc (κ×V)} {vs:cc (κ×iv)} (r:KV L vs):L.length=vs.length:=R7 r
end
theorem x4 {P:ry} {w:zt} {k:Key} {u:iv} (r:RelV (kV k) u):(cZ P w).is k u=true:=by
 cases k with
 | inl i=>obtain⟨t,e⟩:=(show ∃t,u=Rn i t from r);subst e;exact xR P w i t
 | inr x=>obtain⟨t,e⟩:=(show ∃t,u=Pt x t from r);subst e;exact xQ P w x t
theorem vR {P:ry} {w:zt}:∀{ks:cc Key} {us:CB},Vals (ks.map kV) us->ItemsAre (cZ P w) ks us
 | [],_,r=>by rw[Qo] at r;cases r;exact .nil
 | k::ks,_,r=>by
   rw[MU] at r;cases r with
   | cons h t=>exact .cons (x4 h) (vR t)
noncomputable abbrev KT (H:Hp):cc (cc Key×V)->cc (cc Key×eH×iv)->Prop:=Paired λp q=>p.1=q.1/\H q.2.1=ag (.tup (p.1.map kV))/\RelV p.2 q.2.2
theorem KT.val {H:Hp} {L:cc (cc Key×V)} {xs:cc (cc Key×eH×iv)} (r:KT H L xs) (k:cc Key):RelO (valV L k) ((atKey xs k).map (·.2)):=by
 induction r with
 | nil=>exact Os
 | @cons p q ps qs h t ih=>
   obtain⟨h1,_,h2⟩:=h;by_cases e:p.1=k
   ·have O:q.1=k:=h1.symm.trans e;have b:atKey (q::qs) k=ag q.2:=by simp[atKey,OI,O]
    rw[iu e,b];exact h2
   ·have O:¬q.1=k:=λz=>e (h1.trans z);have b:atKey (q::qs) k=atKey qs k:=by simp[atKey,OI,O]
    rw[gK e,b];exact ih
theorem KT.repl {H:Hp} {L:cc (cc Key×V)} {xs:cc (cc Key×eH×iv)} (r:KT H L xs) (k:cc Key) {y:V} {u:iv} (O:RelV y u):
  KT H (L.map fun θ=>if θ.1=k then (θ.1,y) else θ) (xs.map (putAt k u)):=by
 induction r with
 | nil=>exact .nil
 | @cons p q ps qs h t ih=>
   rw[MU,MU];refine .cons ?_ ih;obtain⟨h1,h2,Y⟩:=h;unfold putAt;by_cases e:p.1=k
   ·rw[kn e,kn (h1.symm.trans e)];exact⟨h1,h2,O⟩
   ·rw[hQ e,hQ (λz=>e (h1.trans z))];exact⟨h1,h2,Y⟩
theorem KT.put {H:Hp} {L:cc (cc Key×V)} {xs:cc (cc Key×eH×iv)} (r:KT H L xs) (k:cc Key) {b:eH} {y:V} {u:iv} (hb:H b=ag (.tup (k.map kV))) (O:RelV y u):
  KT H (putK L k y) (storedH xs k b u):=by
 have e:(L.any fun θ=>decide (θ.1=k))=(atKey xs k).isSome:=by
  rw[mG,(r.val k).isSome_eq,QG]
 unfold putK storedH;rw[e];by_cases q:(atKey xs k).isSome=true
 ·rw[kn q,kn q];exact r.repl k O
 ·rw[hQ q,hQ q];exact SY r ⟨rfl,hb,O⟩
theorem KT.keeps {H H':Hp} {L:cc (cc Key×V)} {xs:cc (cc Key×eH×iv)} (r:KT H L xs) (O:∀b ys,H b=ag (.tup ys)->H' b=ag (.tup ys)):KT H' L xs:=
 Paired.mapP r λ_ _ z=>⟨z.1,O _ _ z.2.1,z.2.2⟩
section
variable {P:ry} {w:zt} {H:Hp} {h:MT} {a:eH}
theorem KL {u:HO} (ok:HOk P w H h) (e:Rd H a u):eB P w H h a u:=e.ok ok
theorem E5 {L:cc (Key×V)} (ok:HOk P w H h) (e:Rd H a (.dK L)):L.length<=jF/\(a == sysModules)=false/\∃vs,KV L vs/\h.DictOf (cZ P w) a vs:=
 show eB P w H h a (.dK L) from KL ok e
theorem LC {L:cc (Key×V)} (ok:HOk P w H h) (e:H a=ag (.dK L)):L.length<=jF/\(a == sysModules)=false/\∃vs,KV L vs/\h.DictOf (cZ P w) a vs:=E5 ok (.inl e)
theorem vQ {ks:cc Key} (ok:HOk P w H h) (e:H a=ag (.tup (ks.map kV))):(tupleKind (cZ P w)).is h ks a:=by
 obtain⟨_,its,r,o,h1,h2,n,L⟩:=(show eB P w H h a (.tup (ks.map kV)) from ok a _ e);exact⟨o,its.toArray,n,h1,h2,L,by simpa using vR r⟩
theorem EZ {L:cc (cc Key×V)} (ok:HOk P w H h) (e:Rd H a (.dT L)):L.length<=jF/\(a == sysModules)=false/\
  ∃xs,KT H L xs/\h.DictOfH (tupleKind (cZ P w)) a xs:=by
 obtain⟨z,y,xs,r,o,es,α,h1,h2,Z,ε,Y⟩:=(show eB P w H h a (.dT L) from KL ok e);refine⟨z,y,xs,r,o,es,α,h1,h2,Z,ε,λx hx=>?_,Y⟩
 have all:∀{l:cc (cc Key×V)} {m:cc (cc Key×eH×iv)},KT H l m->∀x∈m,(tupleKind (cZ P w)).is h x.1 x.2.1:=by
  intro l m q
  induction q with
  | nil=>intro x hx;exact nomatch hx
  | @cons p q ps qs O t ih=>
    intro x hx;rcases v9.mp hx with e | hx
    ·subst e;exact vQ ok (by rw[<-O.1];exact O.2.1)
    ·exact ih x hx
 exact all r x hx
theorem MI {L:cc (cc Key×V)} (ok:HOk P w H h) (e:H a=ag (.dT L)):L.length<=jF/\(a == sysModules)=false/\
  ∃xs,KT H L xs/\h.DictOfH (tupleKind (cZ P w)) a xs:=EZ ok (.inl e)
end
def DGet (H:Hp) (a:eH) (y:V) (r:ov V):Prop:=
 (∃L k,Rd H a (.dK L)/\y=kV k/\r=valV L k)∨∃L k b,Rd H a (.dT L)/\y= .ref b/\H b=ag (.tup (k.map kV))/\r=valV L k
def DPut (H:Hp) (a:eH) (y v:V) (H':Hp):Prop:=
 (∃L k,H a=ag (.dK L)/\y=kV k/\L.length < jF/\H'=upd H a (.dK (putK L k v)))∨
 ∃L k b,H a=ag (.dT L)/\y= .ref b/\H b=ag (.tup (k.map kV))/\L.length < jF/\H'=upd H a (.dT (putK L k v))
theorem DGet.k {H:Hp} {a:eH} {L:cc (Key×V)} {k:Key} (e:H a=ag (.dK L)):DGet H a (kV k) (valV L k):= .inl ⟨L,k,.inl e,rfl,rfl⟩
theorem DPut.k {H:Hp} {a:eH} {L:cc (Key×V)} {k:Key} {v:V} (e:H a=ag (.dK L)) (hl:L.length < jF):DPut H a (kV k) v (upd H a (.dK (putK L k v))):= .inl ⟨L,k,e,rfl,hl,rfl⟩
section
variable {X:Cx} {pins:B'} {σ:St} {H:Hp} {s:hN} {a:eH} {y v:V} {u r:iv} {o:ov V} {A:zx} {E:B2}
theorem Inv.big (I:Inv X pins σ H s):sysModules < s.heap.objs.size:=by
 have h:MV < s.heap.objs.size:=(I.mod.glob.keeps I.bk).lt;exact QR @C h
theorem Ff {Q:B2} (hu:A.units + 1 < cLine) (I:Inv X pins σ H s) (g:DGet H a y (ag v)) (β:RelV y u) (h:∀O s',Inv X pins σ H s'->RelV v O->Q O s'):
  ll (ph X.prog X.w) A (getItem (.ref a) u) Q E s:=by
 rcases g with ⟨Y,k,e,ey,l⟩ | ⟨Y,k,b,e,ey,δ,l⟩
 ·subst ey;obtain⟨z,hd,vs,rel,dd⟩:=E5 I.hok e;obtain⟨O,Z,L⟩:=RelO.some_of (v:=v) (o:=valueAt vs k) (by rw[l];exact rel.val k);exact wpAny_getItem_of (x4 β) dd.mapOf Z (h O _ (I.tok _) L)
 ·subst ey;cases(show u=sb b from β);obtain⟨z,hd,xs,rel,dd⟩:=EZ I.hok e;obtain⟨O,Z,L⟩:=RelO.some_of (v:=v) (o:=(atKey xs k).map (·.2)) (by rw[l];exact rel.val k);obtain⟨p,γ,α⟩:=Nn.mp Z;refine wpAny_getItem_heap (Px hu) (vQ I.hok δ) dd γ ?_;rw[α];exact h O _ (I.tok _) L
theorem d_in {Q:B2} (hu:A.units + 1 < cLine) (I:Inv X pins σ H s) (g:DGet H a y o) (O:RelV y u) (h:∀s',Inv X pins σ H s'->Q (.bool o.isSome) s'):
  ll (ph X.prog X.w) A (compareOp .In u (.ref a)) Q E s:=by
 rcases g with ⟨L,k,e,ey,l⟩ | ⟨L,k,b,e,ey,Y,l⟩
 ·subst ey;obtain⟨z,hd,vs,rel,dd⟩:=E5 I.hok e;refine wpAny_in_of (x4 O) hd dd.mapOf ?_;rw[<-(rel.val k).isSome_eq,<-l];exact h _ (I.tok _)
 ·subst ey;cases(show u=sb b from O);obtain⟨z,hd,xs,rel,dd⟩:=EZ I.hok e;refine wpAny_in_heap (Px hu) (vQ I.hok Y) hd dd ?_;have q:=(rel.val k).isSome_eq;rw[QG] at q;rw[<-q,<-l];exact h _ (I.tok _)
theorem JH {Q:B2} (hu:A.units + 1 < cLine) (I:Inv X pins σ H s) (g:DGet H a y o) (O:RelV y u) (h:∀s',Inv X pins σ H s'->Q (.bool (!o.isSome)) s'):
  ll (ph X.prog X.w) A (compareOp .NotIn u (.ref a)) Q E s:=by
 rcases g with ⟨L,k,e,ey,l⟩ | ⟨L,k,b,e,ey,Y,l⟩
 ·subst ey;obtain⟨z,hd,vs,rel,dd⟩:=E5 I.hok e;refine wpAny_notIn_of (x4 O) hd dd.mapOf ?_;rw[<-(rel.val k).isSome_eq,<-l];exact h _ (I.tok _)
 ·subst ey;cases(show u=sb b from O);obtain⟨z,hd,xs,rel,dd⟩:=EZ I.hok e;refine wpAny_notIn_heap (Px hu) (vQ I.hok Y) hd dd ?_;have q:=(rel.val k).isSome_eq;rw[QG] at q;rw[<-q,<-l];exact h _ (I.tok _)
theorem yj {h':MT} {t':Nat} {ob:HO} (I:Inv X pins σ H s) (L:Mut (H a)) (hs:PJ a s.heap h') (he:∃q,h'.get? a=ag q) (new:eB X.prog X.w (upd H a ob) h' a ob):
  Inv X pins σ (upd H a ob) {s with heap:=h',toks:=t'}:=
 I.write (x:=a) (e:=a) L (.inl rfl) (λb q hb z=>(hs.2 b hb).trans z) he new
theorem HE {P:ry} {w:zt} {H':Hp} {h':MT} {L:cc (Key×V)} {vs:cc (Key×iv)} (z:L.length<=jF) (hd:(a == sysModules)=false) (rel:KV L vs) (dd:h'.DictOf (cZ P w) a vs):
  eB P w H' h' a (.dK L):=⟨z,hd,vs,rel,dd⟩
theorem Fe {H':Hp} {Q:CN} (hu:A.units + 1 < cLine) (I:Inv X pins σ H s) (g:DPut H a y v H') (α:RelV y u) (rv:RelV v r) (h:∀s',Inv X pins σ H' s'->Q () s'):
  ll (ph X.prog X.w) A (setItem (.ref a) u r) Q E s:=by
 rcases g with ⟨L,k,e,ey,l,Z⟩ | ⟨L,k,b,e,ey,γ,l,Z⟩
 ·subst ey Z;obtain⟨z,hd,vs,rel,dd⟩:=LC I.hok e;have hz:vs.length<=sizeLine:=by rw[<-rel.length];exact z
  have hl:(putK L k v).length<=sizeLine:=by have:=mq L k v;omega
  refine wpAny_setItem_pairs (hsz:=hz) (x4 α) dd λh' O hs=>h _ ?_;have he:∃q,h'.get? a=ag q:=let ⟨q,_,_,Y,_⟩:=O;⟨q,Y⟩
  exact yj I (by rw[e];exact Os) hs he (HE hl hd (rel.put k rv) O)
 ·subst ey Z;cases(show u=sb b from α);obtain⟨z,hd,xs,rel,dd⟩:=MI I.hok e;have hz:xs.length<=sizeLine:=by rw[<-R7 rel];exact z
  have hl:(putK L k v).length<=sizeLine:=by have:=mq L k v;omega
  refine wpAny_setItem_heap (hsz:=hz) (Px hu) (vQ I.hok γ) dd λh' O hs=>h _ ?_;obtain⟨q,es,η,Y,h2,ζ,ε,_,δ⟩:=O;refine yj I (by rw[e];exact Os) hs ⟨q,Y⟩ ⟨hl,hd,_,(rel.put k γ rv).keeps λc ys β=>?_,q,es,η,Y,h2,ζ,ε,δ⟩;rw[ar (hU β e (λz=>nomatch z))];exact β
end
def NoSl (i:z3):Prop:=∀L O,subscripted i false L O=operate [L,O] (getItem L O)
theorem Io {prog:ry} {w:zt} {A:zx} {E:B2} {s:hN} {env:Env} {value O:z3} {pos:Pos} {T id:Np} {Q:B2}
  (hl:typeLookup (.type T) "__getitem__"=pure (ag (.builtin id))) (hs:NoSl O)
  (h:ll (ph prog w) A (eval value env) (λo β=>ll (ph prog w) A (eval O env) (λi Y=>Y.TypeIs o T/\ll (ph prog w) A (getItem o i) Q E Y) E β) E s):
  ll (ph prog w) A (eval (.Subscript value O pos) env) Q E s:=by
 refine SW (Nk h (λo β L=>Nk L (λi Y Z=>?_) λ_ _ x=>x) λ_ _ x=>x);obtain⟨hT,Z⟩:=Z;unfold subscriptTail;refine fI ?_;rw[getitemInPython_of_ne hT.not_modules];refine fI (Ru hT hl ?_)
 have fin:ll (ph prog w) A (subscripted O false o i) (λr α=>ll (ph prog w) A (letTemporaryGo value o r >>=λ_=>pure r) Q E α) E Y:=by
  rw[hs o i];exact wpAny_operating (Nk Z (λr α γ=>fI (wpAny_letTemporaryGo (ix γ))) λ_ _ x=>x)
 first
  | exact ix (fI fin)
  | exact fI (ix (fI fin))
  | exact fI fin
theorem yh {X:Cx} {pins:B'} {σ:St} {H:Hp} {s:hN} {a:eH} {y:V} {o:ov V} (I:Inv X pins σ H s) (g:DGet H a y o):s.TypeIs (.ref a) "dict":=by
 rcases g with ⟨L,k,e,_,_⟩ | ⟨L,k,b,e,_,_,_⟩
 ·obtain⟨_,_,vs,_,dd⟩:=E5 I.hok e;exact dd.typeIs
 ·obtain⟨_,_,xs,_,dd⟩:=EZ I.hok e;exact dd.typeIs
noncomputable def Kg (td ty:TE):TE:=fun σ H Q=>td σ H λx H1=>ty σ H1 λy H2=>∃a v,x= .ref a/\DGet H2 a y (ag v)/\Q v H2
noncomputable def tDIn (ty td:TE):TE:=fun σ H Q=>ty σ H λy H1=>td σ H1 λx H2=>∃a o,x= .ref a/\DGet H2 a y o/\Q (.bl o.isSome) H2
noncomputable def CP (ty td:TE):TE:=fun σ H Q=>ty σ H λy H1=>td σ H1 λx H2=>∃a o,x= .ref a/\DGet H2 a y o/\Q (.bl (!o.isSome)) H2
noncomputable def KH (td ty tv:TE):TS:=λD σ H=>tv σ H λv H1=>td σ H1 λx H2=>ty σ H2 λy O=>∃a L,x= .ref a/\DPut O a y v L/\D.nx σ L
section
variable {X:Cx} {o i e value:z3} {pos pos' tpos:Pos} {td ty tv:TE}
theorem nX (hu:X.A.units + 1 < cLine) (ho:PE X o td) (hi:PE X i ty) (hs:NoSl i):PE X (.Subscript o i pos) (Kg td ty):=by
 intro pins s σ H Q I h;refine Io PySem.F.slot_dict_getitem.lookup hs (thn (ho pins s σ H _ I h) λu Z ⟨x,H1,O,β,γ⟩=>thn (hi pins Z σ H1 _ O γ) fun θ η ⟨y,H2,Y,α,a,v,ex,g,φ⟩=>?_);subst ex;obtain rfl:u=sb a:=β;exact⟨yh Y g,Ff hu Y g α fun ε ζ δ L=>⟨v,H2,δ,L,φ⟩⟩
theorem DU (hu:X.A.units + 1 < cLine) (hi:PE X i ty) (ho:PE X o td):PC X .In i o (tDIn ty td):=by
 intro pins s σ H Q I h;refine thn (hi pins s σ H _ I h) fun η L ⟨y,H1,O,Y,α⟩=>thn (ho pins L σ H1 _ O α) λu ζ ⟨x,H2,δ,Z,a,β,ex,g,φ⟩=>?_;subst ex;obtain rfl:u=sb a:=Z;exact d_in hu δ g Y fun ε γ=>⟨.bl β.isSome,H2,γ,rfl,φ⟩
theorem DT (hu:X.A.units + 1 < cLine) (hi:PE X i ty) (ho:PE X o td):PC X .NotIn i o (CP ty td):=by
 intro pins s σ H Q I h;refine thn (hi pins s σ H _ I h) fun η L ⟨y,H1,O,Y,α⟩=>thn (ho pins L σ H1 _ O α) λu ζ ⟨x,H2,δ,Z,a,β,ex,g,φ⟩=>?_;subst ex;obtain rfl:u=sb a:=Z;exact JH hu δ g Y fun ε γ=>⟨.bl (!β.isSome),H2,γ,rfl,φ⟩
theorem IW (hu:X.A.units + 1 < cLine) (ho:PE X o td) (hi:PE X i ty) (hv:PE X value tv) (hs:swapsWith value (ag (.Subscript o i pos')) pos.line X.env=pure false):
  PS X (.Assign [.Subscript o i pos'] value pos) (KH td ty tv):=by
 intro pins s σ H D I h;refine wpAny_Assign_Subscript (thn (hv pins s σ H _ I h) λr Y ⟨v,H1,O,rv,γ⟩=>thn (ho pins Y σ H1 _ O γ) λu L ⟨x,H2,ζ,α,φ⟩=>thn (hi pins L σ H2 _ ζ φ) fun ν ι ⟨y,ξ,ε,Z,a,η,ex,g,β⟩=>?_) hs;subst ex;obtain rfl:u=sb a:=α;exact Fe hu ε g Z rv fun θ δ=>⟨σ,η,δ,β⟩
end
theorem y9 {P:ry} {w:zt} {H:Hp} (h:MT) (hb:sysModules < h.objs.size):eB P w H (h.push {cls:= .type "dict",data:= .dict #[]}) h.objs.size (.dK []):=
 ⟨N2 _,z4.mpr (J5 (y2 hb)),[],.nil,RL h⟩
noncomputable def Hm:TE:=λ_ H Q=>∀p,H p=gs->Q (.ref p) (upd H p (.dK []))
section
variable {X:Cx} {pos:Pos}
theorem GI:PE X (.Dict [] [] pos) Hm:=λpins s σ H Q I h=>
 wpAny_Dict_empty ⟨.ref s.heap.objs.size,_,I.laid (a:=s.heap.objs.size) (o:= .dK []) (t':=s.toks) (λ_ _ q=>eW _ q) (qb _) (y9 s.heap I.big),rfl,h _ (I.hok.fresh (qb _))⟩
end
noncomputable def CO:cc (TE×TE)->St->Hp->(cc (V×V)->Hp->Prop)->Prop
 | [],_,H,Q=>Q [] H
 | (tk,tv)::r,σ,H,Q=>tk σ H λx H1=>tv σ H1 λy H2=>CO r σ H2 λps L=>Q ((x,y)::ps) L
noncomputable abbrev VV:cc (V×V)->cc (iv×iv)->Prop:=Paired λp q=>RelV p.1 q.1/\RelV p.2 q.2
def PPs (X:Cx) (pos:Pos) (O:cc (ov z3)) (L:cc z3) (ο:cc (TE×TE)):Prop:=
 ∀(pins:B') (s:hN) (σ:St) (H:Hp) (Q:cc (V×V)->Hp->Prop),Inv X pins σ H s->CO ο σ H Q->
  ll (ph X.prog X.w) X.A (evalPairs (pairTrees O L X.env pos)) (λvs s'=>∃ps H',Inv X pins σ H' s'/\VV ps vs/\Q ps H') X.xe s
theorem IX {X:Cx} {pos:Pos}:PPs X pos [] [] []:=λpins s σ H Q I h=>pairTrees_nil_walk ⟨[],H,I,.nil,h⟩
theorem GE {X:Cx} {pos:Pos} {k v:z3} {ks:cc (ov z3)} {vs:cc z3} {tk tv:TE} {ο:cc (TE×TE)} (hk:PE X k tk) (hv:PE X v tv) (hr:PPs X pos ks vs ο):
  PPs X pos (ag k::ks) (v::vs) ((tk,tv)::ο):=λpins s σ H Q I h=>
 pairTrees_cons_walk (thn (hk pins s σ H _ I h) λu Y ⟨x,H1,O,α,γ⟩=>thn (hv pins Y σ H1 _ O γ) fun η L ⟨y,H2,ε,Z,φ⟩=>
  thn (hr pins L σ H2 _ ε φ) λws θ ⟨ps,ζ,δ,rel,β⟩=>⟨(x,y)::ps,ζ,δ,.cons ⟨α,Z⟩ rel,β⟩)
noncomputable def qz (L more:cc (Key×V)):cc (Key×V):=more.foldl (λO θ=>putK O θ.1 θ.2) L
theorem KV.merge:∀{more:cc (Key×V)} {rs:cc (Key×iv)} {L:cc (Key×V)} {vs:cc (Key×iv)},KV more rs->KV L vs->KV (qz L more) (merged vs rs):=by
 intro more rs L vs r;unfold KV at r
 induction r generalizing L vs with
 | nil=>intro q;exact q
 | @cons p q ps qs h t ih=>
   intro ν
   have e:KV (putK L p.1 p.2) (stored vs q.1 q.2):=by
    have:=ν.put p.1 h.2;rw[<-h.1];exact this
   exact ih e
theorem nq:∀(more L:cc (Key×V)),(qz L more).length<=L.length + more.length
 | [],L=>by show L.length<=L.length + 0;omega
 | p::r,L=>by
   have h1:=nq r (putK L p.1 p.2);have h2:=mq L p.1 p.2;show(qz (putK L p.1 p.2) r).length<=_;rw[y1];omega
theorem tf {P:ry} {w:zt}:∀{L:cc (Key×V)} {ws:cc (iv×iv)},VV (L.map fun θ=>(kV θ.1,θ.2)) ws->∃rs,Carries (cZ P w) ws rs/\KV L rs
 | [],_,r=>by rw[Qo] at r;cases r;exact⟨[],Os,.nil⟩
 | p::L,_,r=>by
   rw[MU] at r;cases r with
   | @cons a b Z bs h t=>
     obtain⟨rs,c,q⟩:=tf (P:=P) (w:=w) t;obtain⟨Y,O⟩:=b;exact⟨(p.1,O)::rs,⟨x4 h.1,rfl,c⟩,.cons ⟨rfl,h.2⟩ q⟩
noncomputable def Ij (ο:cc (TE×TE)):TE:=fun σ H Q=>∀p,H p=gs->CO ο σ (upd H p (.dK [])) λps H2=>H2 p=ag (.dK [])/\∃L:cc (Key×V),ps=L.map (fun θ=>(kV θ.1,θ.2))/\L.length<=15/\Q (.ref p) (upd H2 p (.dK (qz [] L)))
theorem I0 {X:Cx} {pos:Pos} {L:cc (ov z3)} {Y:cc z3} {ο:cc (TE×TE)} (h:PPs X pos L Y ο) (α:L.all (·.isSome)=true) (hl:L.length=Y.length) (ζ:L≠[])
  (γ:L.length<=15):PE X (.Dict L Y pos) (Ij ο):=by
 intro pins s σ H Q I q;have hn:=I.hok.fresh (qb s.heap.objs.size);have O:=I.laid (a:=s.heap.objs.size) (o:= .dK []) (h':=s.heap.push {cls:= .type "dict",data:= .dict #[]}) (t':=s.toks) (λ_ _ q=>eW _ q) (qb _) (y9 s.heap I.big);refine wpAny_Dict_walk (knd:=cZ X.prog X.w) α hl ζ γ (thn (h pins _ σ _ _ O (q _ hn)) λws θ ⟨ps,H2,I2,rel,e,Z,η,lk,φ⟩=>?_);subst η;obtain⟨rs,c,rk⟩:=tf (P:=X.prog) (w:=X.w) rel;obtain⟨z,hd,δ,ν,dd⟩:=LC I2.hok e;cases ν;refine⟨rs,c,dd,λh' β hs=>⟨.ref s.heap.objs.size,_,?_,rfl,φ⟩⟩
 have hz:(qz [] Z).length<=sizeLine:=by
  have h1:=nq Z [];rw[Pk] at h1;rw[hJ];omega
 have he:∃q,h'.get? s.heap.objs.size=ag q:=let ⟨q,_,_,ε,_⟩:=β;⟨q,ε⟩
 exact yj I2 (by rw[e];exact Os) hs he (HE hz hd (rk.merge .nil) β)
structure M1 (X:Cx) (o:z3) (m:ic) (apos:Pos) (e:z3) (cpos:Pos):Prop where
 base:attributeBase o m X.env (eval o X.env)=eval o X.env
 few:((backTo cpos (oD [e] X.env)).all (λx=> !x.1)&&(backToKw cpos (keywordEach [] X.env)).all (λx=>x.1.isSome)
  &&decide (([e]:cc z3).length + ([]:cc Keyword).length + (if ([]:cc Keyword).isEmpty then 0 else 1) < 30))=true
 line:(apos.endLine == cpos.line)=true
 trees:backTo cpos (oD [e] X.env)=[(false,eval e X.env)]
structure M2 (X:Cx) (o:z3) (m:ic) (apos:Pos) (e f:z3) (cpos:Pos):Prop where
 base:attributeBase o m X.env (eval o X.env)=eval o X.env
 few:((backTo cpos (oD [e,f] X.env)).all (λx=> !x.1)&&(backToKw cpos (keywordEach [] X.env)).all (λx=>x.1.isSome)
  &&decide (([e,f]:cc z3).length + ([]:cc Keyword).length + (if ([]:cc Keyword).isEmpty then 0 else 1) < 30))=true
 line:(apos.endLine == cpos.line)=true
 trees:backTo cpos (oD [e,f] X.env)=[(false,eval e X.env),(false,eval f X.env)]
section
variable {κ:Type} [DecidableEq κ]
theorem FX {L:cc (κ×V)} {k:κ} (h:valV L k=gs):¬k∈L.map (·.1):=by
 intro m;obtain⟨p,O,e⟩:=mw.mp m;have q:(L.any fun θ=>decide (θ.1=k))=true:=Oy.mpr ⟨p,O,fZ e⟩;rw[mG,h] at q;exact ik q @F
theorem Ig {L:cc (κ×V)} {k:κ} {v:V} (h:valV L k=ag v):k∈L.map (·.1):=by
 have q:(L.any fun θ=>decide (θ.1=k))=true:=by
  rw[mG,h]
  all_goals rfl
 obtain⟨p,O,e⟩:=Oy.mp q;exact mw.mpr ⟨p,O,M3 e⟩
end
end L2
set_option maxHeartbeats 4000000
namespace L2
open PySem PySem.Spec PyProof.Rows
section
variable {P0:ry} {w0:zt} {A0:zx} {R0:F'} {t0:hN}
theorem BV {ζ tg iter:z3} {τ:cc z3} {sc:NT} {pos:Pos} {ρ θ:iv} {η:Env} (J:Nat->hN->Prop)
  (ι:∀n s,J n s->ll (ph P0 w0) A0 (pyNext ρ) (λr Y=>match r with
   | none=>R0 (.ok .next) Y
   | some v=>ll (ph P0 w0) A0 (letOwnedTupleGo tg ρ v) (λ_ ε=>ll (ph P0 w0) A0 (assign tg η v) (λ_ δ=>
     ll (ph P0 w0) A0 (forIn τ true λc r=>if r=true then do let ok <-isTrue c η (eval c η);pure (OB ok) else pure (OB r)) (λok O=>
      if ok=true then ll (ph P0 w0) A0 (eval ζ η) (λx γ=>
       ll (ph P0 w0) A0 (call (.builtin "list.append") [θ,x]) (λ_ β=>∃m,m < n/\J m β) (λ_ _=>False) γ) (λ_ _=>False) O
      else ∃m,m < n/\J m O) (λ_ _=>False) δ) (λ_ _=>False) ε) (λ_ _=>False) Y) (λ_ _=>False) s)
  (n:Nat) (h:J n t0):
  codeAny (ph P0 w0) A0 (.compLoop (.ListComp ζ [⟨tg,iter,τ,0⟩] sc pos) 0 ρ θ η) R0 t0:=by
 have no:∀{α:Type} {t:Sem α} {Q:α->hN->Prop} {E:B2} {s:hN},ll (ph P0 w0) A0 t Q (λ_ _=>False) s->ll (ph P0 w0) A0 t Q E s:=
  λh=>Nk h (λ_ _ q=>q) λ_ _ z=>z.elim
 refine codeAny_loop rfl J (λn s υ=>?_) n h;show ll _ A0 ((compTurn (.ListComp ζ [⟨tg,iter,τ,0⟩] sc pos) 0 ρ θ η).onRaise (λx=>do noteFrame x η;theTreesLotGoes x)) _ _ s;refine wpAny_noted ?_;rw[compTurn_list];refine fI (O5 (fI (thn (no (ι n s υ)) λr Y L=>?_)));cases r with
 | none=>exact ix L
 | some v=>
   refine fI (thn (no L) λ_ ε π=>?_);refine fI (thn (no π) λ_ δ ο=>fI (thn (no ο) λok O Z=>?_));cases ok with
   | false=>exact ix ⟨rfl,Z⟩
   | true=>
     rw[kn rfl] at Z;refine fI (fI (thn (no Z) λx γ ξ=>?_));refine fI (thn (no ξ) λ_ β ν=>?_);exact ix (ix ⟨rfl,ν⟩)
end
theorem oC (env:Env):∀(l:cc (ic×NameKind)) (O:G'),(∀y∈l,y.2= .free->∃c,env.cells.lookup y.1=ag c)->
  ∃r:G',(forIn l O (λ(x:ic×NameKind) (r:G')=>if x.2 == N5 then (do let c <-cellOf env x.1;pure (OB ((x.1,c)::r))) else pure (OB r)):Sem G')=pure r/\
   (∀p∈r,p∈O∨env.cells.lookup p.1=ag p.2)/\(∀p∈O,p∈r)/\(∀y∈l,y.2= .free->∃c,(y.1,c)∈r)
 | [],O,_=>⟨O,rfl,λp Y=> .inl Y,λp Y=>Y,λy L=>nomatch L⟩
 | (x,k)::l,O,h=>by
   by_cases hk:k= .free
   ·subst hk;obtain⟨c,α⟩:=h (x,.free) ox rfl;obtain⟨r,e,h1,h2,Z⟩:=oC env l ((x,c)::O) λy L=>h y (px _ L);refine⟨r,?_,λp Y=>?_,λp Y=>h2 p (px _ Y),λy L hf=>?_⟩
    ·rw[QH];have β:cellOf env x=pure c:=by unfold cellOf;rw[α]
     simp only[Od,QD,β,pure_bind];exact e
    ·rcases h1 p Y with q | q
     ·rcases v9.mp q with z | z
      ·subst z;exact .inr α
      ·exact .inl z
     ·exact .inr q
    ·rcases v9.mp L with z | z
     ·subst z;exact⟨c,h2 _ ox⟩
     ·exact Z y z hf
   ·obtain⟨r,e,h1,h2,Z⟩:=oC env l O λy L=>h y (px _ L);refine⟨r,?_,h1,h2,λy L hf=>?_⟩
    ·rw[QH];have hb:(k == N5)=false:=by cases k<;>first | rfl | exact ik rfl hk
     simp only[hb,Pe,QY,pure_bind];exact e
    ·rcases v9.mp L with z | z
     ·subst z;exact ik hf hk
     ·exact Z y z hf
theorem sZ (sc:NT) (env:Env) (h:∀y∈sc.names,y.2= .free->∃c,env.cells.lookup y.1=ag c):
  ∃υ,closureFor sc env=pure υ/\(∀p∈υ,env.cells.lookup p.1=ag p.2)/\∀y∈sc.names,y.2= .free->∃c,(y.1,c)∈υ:=by
 obtain⟨r,e,h1,h2,O⟩:=oC env sc.names [] h;refine⟨r,?_,λp L=>(h1 p L).resolve_left (λz=>nomatch z),O⟩;unfold closureFor;have:=e;simp only[bind_pure] at *
 exact e
theorem tY {κ β:Type} [BEq κ] [LawfulBEq κ]:∀{l:cc (κ×β)} {x:κ} {c:β},(x,c)∈l->∃L,l.lookup x=ag L
 | [],_,_,h=>nomatch h
 | (y,d)::l,x,c,h=>by
   by_cases e:x=y
   ·subst e;exact⟨d,by simp[P4]⟩
   ·have hb:(x == y)=false:=z4.mpr e;rcases v9.mp h with z | z
    ·exact ik (K' Q3 z) e
    ·obtain⟨L,q⟩:=tY z;exact⟨L,by rw[P4,hb];exact q⟩
theorem mR {env:Env}:∀{names:cc (ic×NameKind)} {x:ic} {O:NameKind},
  (names.map λ(n,k)=>if (k == N5&&env.scope.kind == .function&&env.kindOf n == ag .cell) then (n,Oz) else (n,k)).lookup x=ag O->∃k,(x,k)∈names/\(O=k∨k= .free)
 | [],_,_,h=>by cases h
 | (y,k)::l,x,O,h=>by
   rw[MU,P4] at h;by_cases e:x=y
   ·subst e;by_cases L:(k == N5&&env.scope.kind == .function&&env.kindOf x == ag .cell)=true
    ·refine⟨k,ox,.inr ?_⟩;rw[wb,wb] at L;exact eq_of_beq L.1.1
    ·refine⟨k,ox,.inl ?_⟩;simp only[hQ L,Od] at h;exact(ui h).symm
   ·have hb:(x == y)=false:=z4.mpr e
    have h':(l.map λ(n,k)=>if (k == N5&&env.scope.kind == .function&&env.kindOf n == ag .cell) then (n,Oz) else (n,k)).lookup x=ag O:=by
     by_cases L:(k == N5&&env.scope.kind == .function&&env.kindOf y == ag .cell)=true
     ·simp only[kn L,hb] at h;exact h
     ·simp only[hQ L,hb] at h;exact h
    obtain⟨q,hm,z⟩:=mR h';exact⟨q,px _ hm,z⟩
theorem oJ {env:Env}:∀{names:cc (ic×NameKind)} {x:ic},names.lookup x=ag .free->
  (names.map λ(n,k)=>if (k == N5&&env.scope.kind == .function&&env.kindOf n == ag .cell) then (n,Oz) else (n,k)).lookup x=ag .cell∨
  (names.map λ(n,k)=>if (k == N5&&env.scope.kind == .function&&env.kindOf n == ag .cell) then (n,Oz) else (n,k)).lookup x=ag .free
 | [],_,h=>by cases h
 | (y,k)::l,x,h=>by
   rw[P4] at h;rw[MU,P4];by_cases e:x=y
   ·subst e;simp only[Od] at h;cases h;by_cases L:(N5 == N5&&env.scope.kind == .function&&env.kindOf x == ag .cell)=true
    ·refine .inl ?_;rw[kn L];simp only[Od]
    ·refine .inr ?_;rw[hQ L];simp only[Od]
   ·have hb:(x == y)=false:=z4.mpr e;simp only[hb] at h;have q:=oJ (env:=env) h;by_cases L:(k == N5&&env.scope.kind == .function&&env.kindOf y == ag .cell)=true
    ·simp only[kn L,hb];exact q
    ·simp only[hQ L,hb];exact q
structure jf (osc:NT) (ON N:A6) (n:Nat) (fx:A') (sc:NT):Prop where
 kind:sc.kind= .function
 noc:∀y∈sc.names,y.2≠.cell
 own:∀y∈sc.names,y.2= .local->sc.names.lookup y.1=ag .local
 fre:∀y∈sc.names,y.2= .free->osc.names.lookup y.1=ag .cell∨osc.names.lookup y.1=ag .free
 len:N.length=n + fx.length
 frn:∀k,k < fx.length->∃x j,N[n + k]? =ag x/\fx[k]? =ag j/\ON[j]? =ag x/\sc.names.lookup x=ag .free
noncomputable def GZ (ON:A6) (L:NT):A6->A'->N1
 | [],[]=>true
 | x::xs,j::js=>decide (ON[j]? =ag x)&&decide (L.names.lookup x=ag .free)&&GZ ON L xs js
 | _,_=>false
theorem we {ON:A6} {sc:NT}:∀{xs:A6} {L:A'},GZ ON sc xs L=true->xs.length=L.length/\∀k,k < L.length->∃x j,xs[k]? =ag x/\L[k]? =ag j/\ON[j]? =ag x/\sc.names.lookup x=ag .free
 | [],[],_=>⟨rfl,λk h=>ik h (Nat.not_lt_zero k)⟩
 | [],_::_,h=>by cases h
 | _::_,[],h=>by cases h
 | x::xs,j::L,h=>by
   simp only[GZ,wb,wh] at h;obtain⟨l,q⟩:=we h.2;refine⟨K' Nat.succ l,λk hk=>?_⟩;cases k with
   | zero=>exact⟨x,j,rfl,rfl,h.1.1,h.1.2⟩
   | succ k=>
     obtain⟨O,Y,a,b,c⟩:=q k (Nat.lt_of_succ_lt_succ hk);exact⟨O,Y,by simpa using a,by simpa using b,c⟩
noncomputable def zf (osc:NT) (ON N:A6) (n:Nat) (fx:A') (L:NT):Bool:=
 decide (L.kind= .function)&&decide (∀y∈L.names,y.2≠.cell)&&decide (∀y∈L.names,y.2= .local->L.names.lookup y.1=ag .local)&&
 decide (∀y∈L.names,y.2= .free->osc.names.lookup y.1=ag .cell∨osc.names.lookup y.1=ag .free)&&decide (n<=N.length)&&GZ ON L (N.drop n) fx
theorem jf.of {osc:NT} {ON N:A6} {n:Nat} {fx:A'} {sc:NT} (h:zf osc ON N n fx sc=true):jf osc ON N n fx sc:=by
 simp only[zf,wb,wh] at h;obtain⟨⟨⟨⟨⟨h1,h2⟩,O⟩,ε⟩,Y⟩,L⟩:=h;obtain⟨l,q⟩:=we L;refine⟨h1,h2,O,ε,?_,λk hk=>?_⟩
 ·rw[MX] at l;omega
 ·obtain⟨x,j,a,b⟩:=q k hk;exact⟨x,j,by rw[P1] at a;exact a,b⟩
noncomputable def je (X:Cx) (N:A6) (L:NT) (υ:G') (C:eH) (fp:D') (s:hN) (H:Hp):Cx where
 prog:=X.prog
 w:=X.w
 K:=X.K
 mg:=X.mg
 base:=X.base
 A:=X.A
 N:=N
 s₀:=s
 H₀:=H
 env:=compEnvC L υ C X.env
 outer:=X.stack
 stack:=X.stack
 ex:=fp
 fn:=λ_=>false
 calm:=X.calm
 pn:=[]
 xe:=λ_ _=>False
noncomputable def dF (n:Nat) (fx:A') (σ:St):St:=z1 n gs++fx.map λj=>(σ[j]?).join
def Ci (n:Nat) (g:TG):Prop:=∀v σ H (Q L:St->Hp->Prop),(∀σ' H',Q σ' H'->σ'.drop n=σ.drop n->σ'.length=σ.length->L σ' H')->g v σ H Q->g v σ H L
def zm (n:Nat) (g:TGs):Prop:=∀vs σ H (Q L:St->Hp->Prop),(∀σ' H',Q σ' H'->σ'.drop n=σ.drop n->σ'.length=σ.length->L σ' H')->g vs σ H Q->g vs σ H L
theorem aQ {n i:Nat} (h:i < n):Ci n (ES i):=λv σ H Q L k q=>k _ _ q (by rw[List.drop_set_of_lt h]) (by rw[QF])
theorem ud {n:Nat}:zm n gNil:=λvs σ H Q L k ⟨e,q⟩=>⟨e,k _ _ q rfl rfl⟩
theorem iG {n:Nat} {t:TG} {u:TGs} (β:Ci n t) (hu:zm n u):zm n (JA t u):=λvs σ H Q ε k ⟨v,r,e,q⟩=>
 ⟨v,r,e,β v σ H _ _ (fun α H1 O δ Z=>hu r α H1 Q ε (λL H2 φ γ Y=>k L H2 φ (γ.trans δ) (Y.trans Z)) O) q⟩
theorem yZ {K:a'} {n m:Nat} {t:TGs} (h:zm n t):Ci n (gTup K m t):=λv σ H Q L k ⟨a,xs,e,hs,hl,q⟩=>⟨a,xs,e,hs,hl,h xs σ H Q L k q⟩
def PTs (X:Cx) (τ:cc z3) (t:TT):Prop:=
 ∀(pins:B') (s:hN) (σ:St) (H:Hp) (Q:N1->Hp->Prop),Inv X pins σ H s->t σ H Q->
  ll (ph X.prog X.w) X.A (forIn τ true λc r=>if r=true then do let ok <-isTrue c X.env (eval c X.env);pure (OB ok) else pure (OB r)) (TP X pins σ Q) X.xe s
noncomputable def tYes:TT:=λ_ H Q=>Q true H
theorem bp {X:Cx}:PTs X [] tYes:=λ_ _ _ H _ I h=>wpAny_tests_nil ⟨H,I,h⟩
theorem eN {X:Cx} {c:z3} {t:TT} (h:PT X c t):PTs X [c] t:=λpins s σ H Q I q=>wpAny_tests_one (h pins s σ H Q I q)
noncomputable def FZ (n:Nat) (fx:A') (ζ:TI) (g:TG) (tc:TT) (te:TE):TE:=fun σ H Q=>ζ σ H λJ H1=>∀D,H1 D=gs->
 ∃W:Nat->Nat->cc V->Hp->Prop,(∃m,W 0 m [] (upd H1 D (.lst [])))/\∀i m ys H2,W i m ys H2->(J.stop i H2/\Q (.ref D) H2)∨
   (J.go i H2/\∃N:cc V->Hp->Prop,(∀L H',N L H'->∃η,η < m/\W (i + 1) η L H')/\∀x Y,J.yld i H2 x Y->g x (dF n fx σ) Y fun β Z=>tc β Z λb O=>
    if b=true then te β O λv H6=>H6 D=ag (.lst ys)/\ys.length < jF/\N (ys++[v]) (upd H6 D (.lst (ys++[v]))) else N ys O)
section
variable {X:Cx} {pins:B'} {σ:St} {H:Hp} {s:hN}
theorem BW {n:Nat} {fx:A'}:(dF n fx σ).length=n + fx.length:=by unfold dF;simp
theorem sY {n:Nat} {fx:A'} {i:Nat} {v:V} (e:(dF n fx σ)[i]? =ag (ag v)):∃k j,i=n + k/\fx[k]? =ag j/\σ[j]? =ag (ag v):=by
 unfold dF at e;by_cases h:i < n
 ·rw[vr (by simpa using h),RC,kn h] at e;cases e
 ·rw[u' (by simpa using h),PZ,hH] at e;cases q:fx[i - n]? with
  | none=>rw[q] at e;cases e
  | some j=>
    rw[q] at e;have L:(σ[j]?).join=ag v:=ui e;refine⟨i - n,j,@A,q,?_⟩;cases z:σ[j]? with
    | none=>rw[z] at L;cases L
    | some o=>rw[z] at L;have:o=ag v:=L;rw[this]
theorem G3 {osc:NT} {ON N:A6} {n:Nat} {fx:A'} {sc:NT} {υ:G'} {fp:D'} {ε:MT} {tk:Nat}
  (ho:X.env.scope=osc) (Z:X.N=ON) (S:jf osc ON N n fx sc)
  (ο:∀p∈υ,X.env.cells.lookup p.1=ag p.2) (ξ:∀y∈sc.names,y.2= .free->∃c,(y.1,c)∈υ)
  (I:Inv X pins σ H s) (hf:∀b∈fp,FpOk X pins H b) (θ:∀b∈fp,b < s.heap.objs.size)
  (α:∃m,ε.Ns s.heap.objs.size m) (Y:∀b o,s.heap.get? b=ag o->ε.get? b=ag o):
  Inv (je X N sc υ s.heap.objs.size fp s H) [] (dF n fx σ) H {s with heap:=ε,toks:=tk}:=by
 have look:∀{x:ic} {c:eH},υ.lookup x=ag c->X.env.cells.lookup x=ag c:=λ{x c} e=>ο (x,c) (N9 e)
 have ok:(je X N sc υ s.heap.objs.size fp s H).Ok:=by
  refine⟨I.ok.mod,S.kind,I.ok.glob,I.ok.blt,qb _,λx y c h1 h2=>I.ok.inj x y c (look h1) (look h2),λx hx=>?_,λx c z=>(by cases z),I.ok.hd,I.ok.frames,.inl rfl,λb hb=>⟨y2 (θ b hb),λx c e=>(hf b hb).2.2.2.2.1 x c (look e)⟩,
   I.bs,NK I.ok.bsz I.sz,λb o e hb=>?_,λb hb z=>?_,I.stack,I.stkFree⟩
  ·have ζ:∃γ,(γ=Oz∨γ=N5)/\(sc.names.map λ(n,k)=>if (k == N5&&X.env.scope.kind == .function&&X.env.kindOf n == ag .cell) then (n,Oz) else (n,k)).lookup x=ag γ:=by
    rcases hx with hx | hx
    ·exact⟨_,.inl rfl,hx⟩
    ·exact⟨_,.inr rfl,hx⟩
   obtain⟨γ,hk,e⟩:=ζ;obtain⟨k,hm,z⟩:=mR e
   have χ:k= .free:=by
    rcases z with z | z
    ·subst z;rcases hk with q | q
     ·exact ik q (S.noc _ hm)
     ·exact q
    ·exact z
   subst χ;obtain⟨c,hc⟩:=ξ _ hm rfl;exact tY hc
  ·rcases(hf b hb).2.2.2.1 with z | z
   ·exact I.ok.noex b o e z
   ·exact ik (uj (hL (I.ok.bs b o e).1) z) (NS _)
  ·rcases v9.mp (I.stkSub b z) with q | q
   ·exact(hf b hb).2.1 q
   ·exact(hf b hb).2.2.1 q
 obtain⟨m,α⟩:=α;refine⟨ok,rfl,I.bare,Un.kept Y,⟨m,α,λi x v e1 e2 e3=>?_⟩,λx c e=>?_,I.hok.fresh (qb _),λx c e=>I.freeC x c (look e),λp ω=>ik (show p∈([]:B') from ω) @F,I.hok.kept Y,?_⟩
 ·obtain⟨k,j,rfl,φ,ρ⟩:=sY e2;obtain⟨β,τ,a1,a2,L,ν⟩:=S.frn k (b'.mp φ).1;have ex:β=x:=ui (a1.symm.trans e1);have ej:τ=j:=ui (a2.symm.trans φ);subst ex;subst ej;obtain⟨η,_,hl⟩:=I.loc;have hk:X.env.scope.names.lookup β=ag .cell∨X.env.scope.names.lookup β=ag .free:=by rw[ho];exact S.fre _ (N9 ν) rfl
  have δ:Vis X.env.scope β:=by rcases hk with z | z;exact .inr (.inl z);exact .inr (.inr z)
  obtain⟨u,r,q⟩:=hl τ β v (by rw[Z];exact L) ρ δ;rcases q with ⟨z,_⟩ | ⟨_,c,ec,ψ⟩
  ·have π:X.env.scope.names.lookup β=ag .local:=z;rcases hk with q | q<;>(rw[q] at π;cases π)
  ·refine⟨u,r,.inr ⟨oJ ν,c,?_,ψ.keeps Y⟩⟩;obtain⟨c0,ι⟩:=ξ _ (N9 ν) rfl;obtain⟨c1,O⟩:=tY ι;have:=look O;rw[ec] at this;cases this;exact O
 ·obtain⟨v,q⟩:=I.cell x c (look e);exact⟨v,q.keeps Y⟩
 ·show _=N.length;rw[BW,S.len]
theorem wC {osc:NT} {ON N:A6} {n:Nat} {fx:A'} {sc:NT} {υ:G'} {b3 tg iter:z3} {τ:cc z3} {pos:Pos} {ζ:TI} {g:TG} {tc:TT} {te:TE} {Q:VK} {RR:iv->eH->F'}
  (b2:X.calm=true) (ho:X.env.scope=osc) (Z:X.N=ON) (S:jf osc ON N n fx sc)
  (ο:∀p∈υ,X.env.cells.lookup p.1=ag p.2) (ξ:∀y∈sc.names,y.2= .free->∃c,(y.1,c)∈υ)
  (hi:PI X tg iter ζ) (gk:Ci n g) (hb:∀υ C fp s H,PG (je X N sc υ C fp s H) tg g/\PTs (je X N sc υ C fp s H) τ tc/\PE (je X N sc υ C fp s H) b3 te)
  (I:Inv X pins σ H s) (h:FZ n fx ζ g tc te σ H Q)
  (d2:∀D C H' s',Inv X pins σ H' s'->(∃m,s'.heap.Ns C m)->FpOk X pins H' C->Q (.ref D) H'->RR (.ref D) C (.ok .next) s'):
  ll (ph X.prog X.w) X.A (eval iter X.env) (λx s₁=>ll (ph X.prog X.w) X.A (pyIter x) (λit s₂=>ll (ph X.prog X.w) X.A (newList []) (λc2 s₃=>
   ll (ph X.prog X.w) X.A (newFunctionEnv sc X.env.globals υ [] X.env.qual gs .none (ag X.env)) (λa7 s₄=>
    codeAny (ph X.prog X.w) X.A (.compStart (.ListComp b3 [⟨tg,iter,τ,0⟩] sc pos) 0 it c2 {a7 with scope:=relabel sc X.env}) (RR c2 a7.locals) s₄) X.xe s₃) X.xe s₂) X.xe s₁) X.xe s:=by
 refine thn (hi pins s σ H _ I h) λv s1 h1=>thn h1 λe8 α h2=>?_;obtain⟨it,fp,tn,J,H2,e2,I2,T,b5,f2,hW⟩:=h2;subst e2;obtain⟨W,⟨ρ,w0⟩,b1⟩:=hW α.heap.objs.size I2.fresh;refine PL ?_;have I3:Inv X pins σ (upd H2 α.heap.objs.size (.lst [])) {α with heap:=α.heap.push {cls:= .type "list",data:= .seq ([]:CB).toArray}}:=I2.lnew (t':=α.toks) (its:=[]) .nil (N2 _)
 have L:∀b∈fp,FpOk X pins (upd H2 α.heap.objs.size (.lst [])) b/\b < α.heap.objs.size:=λb hb=>by
  obtain⟨o,e,_⟩:=T.obj _ _ b5 b hb;have l:=hL e;obtain⟨a1,a2⟩:=f2 b hb;exact⟨⟨by rw[ar (y2 l)];exact a1,a2⟩,l⟩
 have sz:({α with heap:=α.heap.push {cls:= .type "list",data:= .seq ([]:CB).toArray}}:hN).heap.objs.size=α.heap.objs.size + 1:=O3 ..
 generalize d0:({α with heap:=α.heap.push {cls:= .type "list",data:= .seq ([]:CB).toArray}}:hN)=β at I3 sz ⊢;generalize e9:upd H2 α.heap.objs.size (.lst [])=H3 at I3 L w0;have b7:∀b o,α.heap.get? b=ag o->β.heap.get? b=ag o:=λb o e=>by rw[<-d0];exact eW _ e
 refine wpAny_newFunctionEnv (λy hy=>S.noc y hy) (λy hy=>nomatch hy) (fun ε d1 c5=>?_) S.kind;have ψ:∀b o,β.heap.get? b=ag o->ε.get? b=ag o:=λb o e=>c5.extBut b o (y2 (hL e)) (eW _ e);have I4:=G3 (tk:=β.toks + ([]:J1).length) ho Z S ο ξ I3 (λb hb=>(L b hb).1) (λb hb=>by rw[sz];exact Pp (L b hb).2) ⟨_,d1⟩ ψ;have φ:=hb υ β.heap.objs.size fp β H3;generalize χ:je X N sc υ β.heap.objs.size fp β H3=Y at I4 φ
 have π:∀{H':Hp},(∀b∈fp,H' b=gs)->∀b∈fp,FpOk Y [] H' b:=λ{H'} hn b hb=>by
  subst χ;obtain⟨⟨a1,a2,a3,a4,a5,η⟩,l⟩:=L b hb;refine⟨hn b hb,y2 (show b < β.heap.objs.size by rw[sz];exact Pp l),λz=>?_,.inl hb,λx c e=>a5 x c (ο (x,c) (N9 e)),λp hp=>ik (show p∈([]:B') from hp) @F⟩;rcases v9.mp (I3.stkSub b z) with q | q
  ·exact a2 q
  ·exact a3 q
 have fin:∀{σ6:St} {H6:Hp} {s6:hN},Inv Y [] σ6 H6 s6->Q (.ref α.heap.objs.size) H6->RR (.ref α.heap.objs.size) β.heap.objs.size (.ok .next) s6:=λ{σ6 H6 s6} I6 q=>by
  subst χ;refine d2 _ _ H6 s6 ?_ (let ⟨m,hm,_⟩:=I6.loc;⟨m,hm⟩) (I3.fpOk (qb _) I6.free) q;obtain⟨θ,gg,dd,tt,ι⟩:=s6;obtain rfl:ι=β.os:=I6.os
  exact I3.call (h':=θ) (g':=gg) (d':=dd) (t':=tt) (ch:=fp) I6.base I6.hok I6.bare λb hb=>by
   obtain⟨⟨a1,a2,a3,a4,a5,η⟩,l⟩:=L b hb;exact⟨a4,a2,a5,η⟩
 have pY:Y.prog=X.prog:=by subst χ;rfl
 have wY:Y.w=X.w:=by subst χ;rfl
 have kY:Y.K=X.K:=by subst χ;rfl
 have aY:Y.A=X.A:=by subst χ;rfl
 have cY:Y.calm=true:=by subst χ;exact b2
 have eY:Y.env=compEnvC sc υ β.heap.objs.size X.env:=by subst χ;rfl
 have xY:Y.xe=λ_ _=>False:=by subst χ;rfl
 have T':Turn Y.prog Y.w Y.K tg J fp it tn:=by rw[pY,wY,kY];exact T
 have b4:tn 0 ε:=T.keep _ _ _ b5 λb hb o e=>ψ b o (b7 b o e)
 have a0:codeAny (ph X.prog X.w) X.A (.compLoop (.ListComp b3 [⟨tg,iter,τ,0⟩] sc pos) 0 (.ref it) (.ref α.heap.objs.size) (compEnvC sc υ β.heap.objs.size X.env)) (RR (.ref α.heap.objs.size) β.heap.objs.size)
   {β with heap:=ε,toks:=β.toks + ([]:J1).length}:=by
  rw[<-pY,<-wY,<-aY,<-eY];refine BV (λk s'=>∃i ys σ' H',Inv Y [] σ' H' s'/\σ'.drop n=(dF n fx σ).drop n/\σ'.length=(dF n fx σ).length/\tn i s'.heap/\(∀b∈fp,H' b=gs)/\W i k ys H') ?_ ρ ⟨0,[],_,H3,I4,rfl,rfl,b4,λb hb=>(L b hb).1.1,w0⟩;rintro k s5 ⟨i,ys,σ5,H5,I5,ed,el,O,c1,w5⟩
  have I5:Inv Y [] (dF n fx σ) H5 s5:=I5.weak el.symm λj v e=>by
   obtain⟨k',j',rfl,_,_⟩:=sY e;have q:=K' (λl=>l[k']?) ed;simp only[P1] at q;rw[q];exact e
  rcases b1 i k ys H5 w5 with ⟨stop,q⟩ | ⟨go,N',d3,step⟩
  ·refine Nk (T'.done Y rfl rfl rfl cY i [] s5 _ H5 (λ_ _=>False) I5 (π c1) O stop) (λr s6 ⟨hr,I6⟩=>?_) λ_ _ z=>z;subst hr;exact fin I6 q
  ·rw[<-xY];refine thn (T'.item Y rfl rfl rfl cY i [] s5 _ H5 Y.xe I5 (π c1) O go) λr s6 ⟨u,hr,h6⟩=>?_;subst hr;show ll _ _ _ _ _ _;refine thn h6 λ_ s7 ⟨x,H7,I7,ω,y7,a8,e0⟩=>?_;have e5:=I7.pinned (π e0) (T.obj _ _ a8);refine thn (φ.1 _ s7 _ H7 x u _ e5 ω (gk _ _ _ _ _ (fun σ' H' q e l=>(⟨q,e,l⟩:_/\_/\_)) (step x H7 y7))) λ_ s8 ⟨ν,H8,I8,q8,e3,e1⟩=>?_;refine thn (φ.2.1 _ s8 ν H8 _ I8 q8) λok s9 ⟨H9,I9,q9⟩=>?_
   have again:∀{γ:Hp} {δ:hN} {zs:cc V},Inv Y ([]++vt fp s7.heap) ν γ δ->N' zs γ->
     ∃m,m < k/\∃i ys σ' H',Inv Y [] σ' H' δ/\σ'.drop n=(dF n fx σ).drop n/\σ'.length=(dF n fx σ).length/\tn i δ.heap/\(∀b∈fp,H' b=gs)/\W i m ys H':=λ{γ δ zs} I10 b0=>by
    obtain⟨m',hm,c3⟩:=d3 _ _ b0;refine⟨m',hm,i + 1,zs,ν,γ,I10.unpinned,e3,e1,T.keep _ _ _ a8 λb hb o e=>(I10.pin (b,o) (p' _ (p' _ (kH hb e)))).1,λb hb=>?_,c3⟩;obtain⟨o,e,d⟩:=T.obj _ _ a8 b hb;exact(I10.pin (b,o) (p' _ (p' _ (kH hb e)))).2.1
   cases ok with
   | false=>exact again I9 q9
   | true=>
     rw[kn rfl];refine thn (φ.2.2 _ s9 ν H9 _ I9 q9) λy δ ⟨v',γ,I10,c4,c0,b8,b0⟩=>?_;refine thn (gy (X:=Y) _ δ ν γ (.ref α.heap.objs.size) [v'] (.ref α.heap.objs.size) [y] (λ_ H'=>H'=upd γ α.heap.objs.size (.lst (ys++[v']))) I10 rfl (.cons c4 .nil) ⟨_,ys,v',rfl,rfl,c0,b8,rfl⟩) λ_ e7 ⟨_,f0,e6,_,e4⟩=>?_;subst e4;exact again e6 b0
 exact codeAny_compStart_list a0 (T.self X.A 0 _ _ _ b4 a0)
theorem bq {osc:NT} {ON N:A6} {n:Nat} {fx:A'} {sc:NT} {α tg iter:z3} {τ:cc z3} {pos:Pos} {ζ:TI} {g:TG} {tc:TT} {te:TE}
  (Y:X.calm=true) (ho:X.env.scope=osc) (Z:X.N=ON) (S:zf osc ON N n fx sc=true) (hi:PI X tg iter ζ) (ε:Ci n g)
  (hb:∀υ C fp s H,PG (je X N sc υ C fp s H) tg g/\PTs (je X N sc υ C fp s H) τ tc/\PE (je X N sc υ C fp s H) α te)
  (hs:∀x,foldedSetIterable iter X.env x=pure x:=by intro _;rfl):PE X (.ListComp α [⟨tg,iter,τ,0⟩] sc pos) (FZ n fx ζ g tc te):=by
 intro pins s σ H Q I h;have S:=jf.of S;obtain⟨υ,ι,ο,ξ⟩:=sZ sc X.env λy δ hf=>I.ok.has y.1 (by show X.env.scope.names.lookup y.1=ag .cell∨X.env.scope.names.lookup y.1=ag .free;rw[ho];exact S.fre y δ hf);rw[eval_ListComp];refine S6 (use:=gs) rfl hs ι S.kind S.own (wC (RR:=fun γ C=>compPost (ph X.prog X.w) X.A X.xe gs (EP X pins σ Q) γ C) Y ho Z S ο ξ hi ε hb I h ?_);intro D C H' s' I' hm hf q;obtain⟨m,hm⟩:=hm;obtain⟨O,θ,π,L,η,ν⟩:=hf;exact⟨m,hm,λh' β=>⟨.ref D,H',I'.turned (t':=s'.toks) (λb o hb e=>(β.2 b hb).trans e) O θ L η ν,rfl,q⟩⟩
theorem eP {i:Nat} {x:ic} {γ:Pos} {α:Pos} {osc:NT} {ON N:A6} {n:Nat} {fx:A'} {sc:NT} {Y tg iter:z3} {τ:cc z3} {pos:Pos} {ζ:TI} {g:TG} {tc:TT} {te:TE}
  (hnd:X.N.Nodup) (hx:X.N[i]? =ag x) (hl:X.env.scope.names.lookup x=ag .local) (ε:swapsWith (.ListComp Y [⟨tg,iter,τ,0⟩] sc pos) (ag (.Name x γ)) α.line X.env=pure true)
  (β:X.calm=true) (ho:X.env.scope=osc) (Z:X.N=ON) (S:zf osc ON N n fx sc=true) (hi:PI X tg iter ζ) (gk:Ci n g)
  (hb:∀υ C fp s H,PG (je X N sc υ C fp s H) tg g/\PTs (je X N sc υ C fp s H) τ tc/\PE (je X N sc υ C fp s H) Y te)
  (hs:∀x,foldedSetIterable iter X.env x=pure x:=by intro _;rfl):PS X (.Assign [.Name x γ] (.ListComp Y [⟨tg,iter,τ,0⟩] sc pos) α) (tAsg (FZ n fx ζ g tc te) (ES i)):=by
 intro pins s σ H D I h;have S:=jf.of S;obtain⟨υ,ι,ο,ξ⟩:=sZ sc X.env λy hy hf=>I.ok.has y.1 (by show X.env.scope.names.lookup y.1=ag .cell∨X.env.scope.names.lookup y.1=ag .free;rw[ho];exact S.fre y hy hf);rw[exec_Assign_Name_used _ _ _ _ ε];refine fI (O5 (fI ?_));show ll _ X.A (do let _ <-comprehension (.ListComp Y [⟨tg,iter,τ,0⟩] sc pos) sc X.env _ (newList []) false (eval iter X.env) (ag (assign (.Name x γ) X.env))) _ _ s
 refine fI (thn (S6 (use:=ag (assign (.Name x γ) X.env)) (Q:=λ_ s'=>SP X pins D .next s') rfl hs ι S.kind S.own
  (wC (RR:=fun ρ C=>compPost (ph X.prog X.w) X.A X.xe (ag (assign (.Name x γ) X.env)) (λ_ s'=>SP X pins D .next s') ρ C) β ho Z S ο ξ hi gk hb I h ?_)) λ_ s' q=>ix (ix q))
 intro ψ C H' s' I' hm hf q;obtain⟨m,hm⟩:=hm;obtain⟨O,χ,f2,L,φ,ν⟩:=hf;show ll _ X.A (assign (.Name x γ) X.env (.ref ψ)) _ _ _;refine T1 (uW I' hnd hx (.inl hl) (v:= .ref ψ) rfl (fun ω I2 θ=>?_) (.inr hl));obtain⟨a,η,ha⟩:=θ
 have π:C≠a:=by
  rcases ha with z | z
  ·rw[z];exact χ
  ·exactλe=>φ _ _ z e.symm
 exact⟨m,hm.sameBut η π,λh' δ=>⟨_,H',I2.turned (t':=ω.toks) (λb o hb e=>(δ.2 b hb).trans e) O χ L φ ν,q⟩⟩
end
section
variable {K:a'} {n:Nat} {fx:A'} {g:TG} {tc:TT} {te:TE} {σ:St} {H1:Hp} {D:eH} {Q:Hp->Prop}
theorem kK {lo:Int} {k:Nat} (Y:Nat->cc V->Hp->Prop) (ε:Y 0 [] (upd H1 D (.lst [])))
  (hs:∀i ys H,i < k->Y i ys H->g (.int (lo + i)) (dF n fx σ) H fun β α=>tc β α λb Z=>if b=true then te β Z λv H6=>H6 D=ag (.lst ys)/\ys.length < jF/\Y (i + 1) (ys++[v]) (upd H6 D (.lst (ys++[v]))) else Y (i + 1) ys Z)
  (hd:∀ys H,Y k ys H->Q H):
  ∃W:Nat->Nat->cc V->Hp->Prop,(∃m,W 0 m [] (upd H1 D (.lst [])))/\∀i m ys H2,W i m ys H2->((Itr lo k).stop i H2/\Q H2)∨
    ((Itr lo k).go i H2/\∃N:cc V->Hp->Prop,(∀L H',N L H'->∃η,η < m/\W (i + 1) η L H')/\∀x γ,(Itr lo k).yld i H2 x γ->g x (dF n fx σ) γ fun β α=>tc β α λb Z=>
      if b=true then te β Z λv H6=>H6 D=ag (.lst ys)/\ys.length < jF/\N (ys++[v]) (upd H6 D (.lst (ys++[v]))) else N ys Z):=by
 refine⟨λi m ys H=>m=k - i/\i<=k/\Y i ys H,⟨k,@F,N2 _,ε⟩,?_⟩;rintro i m ys H ⟨rfl,hi,p⟩;by_cases O:i < k
 ·refine .inr ⟨O,Y (i + 1),λL H' δ=>⟨k - (i + 1),by omega,rfl,O,δ⟩,λx H' y=>?_⟩;obtain⟨e,y⟩:=y;subst e;subst y;exact hs i ys _ O p
 ·have e:i=k:=by omega
  subst e;exact .inl ⟨qb _,hd ys H p⟩
theorem aL {a:eH} {xs:cc V} (L:Nat->cc V->Hp->Prop) (ε:L 0 [] (upd H1 D (.lst []))) (hl:∀i ys H,i<=xs.length->L i ys H->SqL K H a xs)
  (hs:∀i x ys H,xs[i]? =ag x->L i ys H->g x (dF n fx σ) H fun β α=>tc β α λb Z=>if b=true then te β Z λv H6=>H6 D=ag (.lst ys)/\ys.length < jF/\L (i + 1) (ys++[v]) (upd H6 D (.lst (ys++[v]))) else L (i + 1) ys Z)
  (hd:∀ys H,L xs.length ys H->Q H):
  ∃W:Nat->Nat->cc V->Hp->Prop,(∃m,W 0 m [] (upd H1 D (.lst [])))/\∀i m ys H2,W i m ys H2->((Itl K a).stop i H2/\Q H2)∨
    ((Itl K a).go i H2/\∃N:cc V->Hp->Prop,(∀O H',N O H'->∃η,η < m/\W (i + 1) η O H')/\∀x γ,(Itl K a).yld i H2 x γ->g x (dF n fx σ) γ fun β α=>tc β α λb Z=>
      if b=true then te β Z λv H6=>H6 D=ag (.lst ys)/\ys.length < jF/\N (ys++[v]) (upd H6 D (.lst (ys++[v]))) else N ys Z):=by
 refine⟨λi m ys H=>m=xs.length - i/\i<=xs.length/\L i ys H,⟨xs.length,@F,N2 _,ε⟩,?_⟩;rintro i m ys H ⟨rfl,hi,p⟩;have q:=hl i ys H hi p;by_cases Y:i < xs.length
 ·refine .inr ⟨⟨xs,xs[i],q,by simp[Y]⟩,L (i + 1),λO H' δ=>⟨xs.length - (i + 1),by omega,rfl,Y,δ⟩,λx H' y=>?_⟩;obtain⟨e,y⟩:=y;subst e;exact hs i x ys _ (y xs q) p
 ·have e:i=xs.length:=by omega
  subst e;exact .inl ⟨⟨xs,q,qb _⟩,hd ys H p⟩
theorem uA {a:eH} {xs:cc V} (L:Nat->cc V->Hp->Prop) (ε:L 0 [] (upd H1 D (.lst []))) (hl:∀i ys H,i<=xs.length->L i ys H->SqT K H a xs)
  (hs:∀i x ys H,xs[i]? =ag x->L i ys H->g x (dF n fx σ) H fun β α=>tc β α λb Z=>if b=true then te β Z λv H6=>H6 D=ag (.lst ys)/\ys.length < jF/\L (i + 1) (ys++[v]) (upd H6 D (.lst (ys++[v]))) else L (i + 1) ys Z)
  (hd:∀ys H,L xs.length ys H->Q H):
  ∃W:Nat->Nat->cc V->Hp->Prop,(∃m,W 0 m [] (upd H1 D (.lst [])))/\∀i m ys H2,W i m ys H2->((Itt K a).stop i H2/\Q H2)∨
    ((Itt K a).go i H2/\∃N:cc V->Hp->Prop,(∀O H',N O H'->∃η,η < m/\W (i + 1) η O H')/\∀x γ,(Itt K a).yld i H2 x γ->g x (dF n fx σ) γ fun β α=>tc β α λb Z=>
      if b=true then te β Z λv H6=>H6 D=ag (.lst ys)/\ys.length < jF/\N (ys++[v]) (upd H6 D (.lst (ys++[v]))) else N ys Z):=by
 refine⟨λi m ys H=>m=xs.length - i/\i<=xs.length/\L i ys H,⟨xs.length,@F,N2 _,ε⟩,?_⟩;rintro i m ys H ⟨rfl,hi,p⟩;have q:=hl i ys H hi p;by_cases Y:i < xs.length
 ·refine .inr ⟨⟨xs,xs[i],q,by simp[Y]⟩,L (i + 1),λO H' δ=>⟨xs.length - (i + 1),by omega,rfl,Y,δ⟩,λx H' y=>?_⟩;obtain⟨e,y⟩:=y;subst e;exact hs i x ys _ (y xs q) p
 ·have e:i=xs.length:=by omega
  subst e;exact .inl ⟨⟨xs,q,qb _⟩,hd ys H p⟩
end
def r8 (K:a') (H:Hp) (x:V) (k:Np):Prop:=match x with
 | .non=>k="NoneType"
 | .bl _=>k="bool"
 | .int _=>k="int"
 | .str _=>k="str"
 | .ref p=>(k="list"/\∃xs,SqL K H p xs)∨(k="tuple"/\∃xs,SqT K H p xs)∨(k="dict"/\∃L,Rd H p (.dK L))
 | _=>False
noncomputable def subB (k T:Np):Bool:=k == T||(k == "bool"&&T == "int")
noncomputable def rIsi (K:a'):cc V->Hp->VK->Prop:=λxs H Q=>∃x k T,xs=[x,.ty T]/\r8 K H x k/\T∈["int","bool","str","list","tuple","dict"]/\Q (.bl (subB k T)) H
section
variable {X:Cx}
theorem G7:nO X (.builtin "isinstance") (rIsi X.K):=by
 intro pins s σ H xs us Q I r h;obtain⟨x,k,T,rfl,hk,hT,q⟩:=h;obtain⟨u,v,rfl,Z,rt⟩:=J7 r;cases rt;have O:∀b,b=subB k T->EP X pins σ Q (.bool b) s:=λb e=>⟨.bl b,H,I,rfl,by rw[e];exact q⟩;have L:∀b,b=subB k T->EP X pins σ Q (.bool b) {s with toks:=s.toks + 1}:=λb e=>⟨.bl b,H,I.tok _,rfl,by rw[e];exact q⟩;simp only[v9,Oc,P'] at hT;cases x with
 | non=>
   cases Z;cases hk;rcases hT with rfl | rfl | rfl | rfl | rfl | rfl
   ·exact IsiPair.NoneType_int (L _ @C)
   ·exact IsiPair.NoneType_bool (L _ @C)
   ·exact IsiPair.NoneType_str (L _ @C)
   ·exact IsiPair.NoneType_list (L _ @C)
   ·exact IsiPair.NoneType_tuple (L _ @C)
   ·exact IsiPair.NoneType_dict (L _ @C)
 | bl b=>
   cases Z;cases hk;rcases hT with rfl | rfl | rfl | rfl | rfl | rfl
   ·exact IsiPair.bool_int (O _ @C)
   ·exact IsiPair.bool_bool (O _ @C)
   ·exact IsiPair.bool_str (L _ @C)
   ·exact IsiPair.bool_list (L _ @C)
   ·exact IsiPair.bool_tuple (L _ @C)
   ·exact IsiPair.bool_dict (L _ @C)
 | int i=>
   obtain⟨t,rfl⟩:=Z;cases hk;rcases hT with rfl | rfl | rfl | rfl | rfl | rfl
   ·exact IsiPair.int_int (O _ @C)
   ·exact IsiPair.int_bool (L _ @C)
   ·exact IsiPair.int_str (L _ @C)
   ·exact IsiPair.int_list (L _ @C)
   ·exact IsiPair.int_tuple (L _ @C)
   ·exact IsiPair.int_dict (L _ @C)
 | str z=>
   obtain⟨t,rfl⟩:=Z;cases hk;rcases hT with rfl | rfl | rfl | rfl | rfl | rfl
   ·exact IsiPair.str_int (L _ @C)
   ·exact IsiPair.str_bool (L _ @C)
   ·exact IsiPair.str_str (O _ @C)
   ·exact IsiPair.str_list (L _ @C)
   ·exact IsiPair.str_tuple (L _ @C)
   ·exact IsiPair.str_dict (L _ @C)
 | ref p=>
   cases Z;rcases hk with ⟨rfl,xs,α⟩ | ⟨rfl,xs,α⟩ | ⟨rfl,β,α⟩
   ·obtain⟨its,_,pl,_⟩:=I.list α;obtain⟨o,ho,Y,_⟩:=pl.isList;rcases hT with rfl | rfl | rfl | rfl | rfl | rfl
    ·exact IsiPair.list_int ho Y (L _ @C)
    ·exact IsiPair.list_bool ho Y (L _ @C)
    ·exact IsiPair.list_str ho Y (L _ @C)
    ·exact IsiPair.list_list ho Y (O _ @C)
    ·exact IsiPair.list_tuple ho Y (L _ @C)
    ·exact IsiPair.list_dict ho Y (L _ @C)
   ·obtain⟨its,_,pl,_⟩:=I.tuple α;obtain⟨o,ho,Y,_⟩:=pl;rcases hT with rfl | rfl | rfl | rfl | rfl | rfl
    ·exact IsiPair.tuple_int ho Y (L _ @C)
    ·exact IsiPair.tuple_bool ho Y (L _ @C)
    ·exact IsiPair.tuple_str ho Y (L _ @C)
    ·exact IsiPair.tuple_list ho Y (L _ @C)
    ·exact IsiPair.tuple_tuple ho Y (O _ @C)
    ·exact IsiPair.tuple_dict ho Y (L _ @C)
   ·obtain⟨_,_,_,_,o,_,_,ho,ex,_⟩:=α.ok I.hok;have Y:o.cls= .type "dict":=ex.1;rcases hT with rfl | rfl | rfl | rfl | rfl | rfl
    ·exact IsiPair.dict_int ho Y (L _ @C)
    ·exact IsiPair.dict_bool ho Y (L _ @C)
    ·exact IsiPair.dict_str ho Y (L _ @C)
    ·exact IsiPair.dict_list ho Y (L _ @C)
    ·exact IsiPair.dict_tuple ho Y (L _ @C)
    ·exact IsiPair.dict_dict ho Y (O _ @C)
 | _=>exact LI hk
theorem tz {xs:cc V} {us:CB} (r:Vals xs us) {j:Nat} (h:j < us.toArray.size):RelV (xs.getD j .non) (us.toArray[j]):=by
 have hl:=r.length;have h':j < us.length:=by simpa using h
 obtain⟨u,e,τ⟩:=r.get (i:=j) (x:=xs.getD j .non) (by rw[hB,c' @A];rfl)
 have L:us.toArray[j]=u:=by
  rw[c' h'] at e;have:=ui e;simpa using this
 rw[L];exact τ
end
theorem Ea:typeLookup (.type "list_reverseiterator") "__len__"=pure none:=by rw[Rv,Qr];kernel_rfl
theorem GS:typeLookup (.type "list_reverseiterator") "__length_hint__"=pure (ag (.builtin "list_reverseiterator.__length_hint__")):=by rw[Rv,Qr];kernel_rfl
section
variable {P0:ry} {w0:zt} {A0:zx} {E0':B2} {t0:hN}
theorem BM {R:F'} {O l:eH} {items:CL} (θ:A0.handled=gs) (Y:l≠O) (ζ:t0.heap.IsRevIter O l ((items.size:Int) - 1)) (hl:t0.heap.IsList l items) (hz:items.size<=jF)
  (S:eH) (res:iv) (Z:Nat) (π:t0.heap.get? S=ag {cls:= .type "list",data:= .seq #[] Z}) (ε:S≠O) (ν:S≠l)
  (ρ:∀h' tk L α,(∀b o,b≠S->b≠O->t0.heap.get? b=ag o->h'.get? b=ag o)->h'.get? S=ag {cls:= .type "list",dict:=gs,data:= .seq L α,slots:=#[]}->
   ItemsOf (λi v=>items[items.size - 1 - i]? =ag v) L items.size->R (.ok (.ret res)) {t0 with heap:=h',toks:=tk}):
  ll (ph P0 w0) A0.in1 (O9 (.ref S) (.ref O) res)
   (λfin s'=>match fin with | .done f=>R (.ok f) s' | .again α=>α.quiet=true/\codeAny (ph P0 w0) A0 α R s') (λe s'=>R (.error e) s') t0:=by
 have W:=(Walks.listRev (prog:=P0) (w:=w0) (A:=A0.in1) θ O l Y items).toS;have η:(0:Nat)<=items.size/\t0.heap.IsRevIter O l ((items.size:Int) - 1 - ((0:Nat):Int))/\t0.heap.IsList l items:=⟨N2 _,by simpa using ζ,hl⟩;have h1:QK (.ref S) (.ref O)=false:=by simp[QK,ε]
 have ξ:S∉[O,l]:=by simp[ε,ν]
 unfold O9;refine fI (Sj ζ.typeIs ?_);rw[hQ (by rw[h1];decide)];refine fI (wpAny_pyIter_revIter ζ ?_);refine fI (Nx ?_);unfold Builtin.List.listLengthHint;refine fI (Ru ζ.typeIs Ea ?_);show ll _ A0.in1 (specialOf (sb O) (vl "__length_hint__") >>=_) _ _ _;refine fI (Ru ζ.typeIs GS ?_)
 (generalize γ:("list_reverseiterator.__length_hint__":Np)=id0;wp_delta;rw[show splitId id0=ag ("list_reverseiterator","__length_hint__") from by subst γ;decide +kernel];subst γ)
 refine fI (wpAny_isInstance (b:=true) ζ.typeIs (by rw[isSubtype_type];kernel_rfl) ?_);refine ix ?_;rw[hQ @C];refine ix ⟨PP F.plain_extend_loop _,codeAny_extend_loopS W hz S ξ res items.size 0 t0 #[] Z rfl (N2 _) η π (ItemsOf.nil _) λs' L α hm ο δ=>?_⟩;rw[Moved.eq_with hm];refine ρ s'.heap s'.toks L α (λb o hb ι e=>hm.heap b o (fun β=>?_) e) ο δ;rcases v9.mp β with z | z
 ·exact hb z
 ·exact ι (hC.mp z)
theorem GR {R:F'} {O l:eH} {items:CL} (θ:A0.handled=gs) (Y:l≠O) (ζ:t0.heap.IsRevIter O l ((items.size:Int) - 1)) (hl:t0.heap.IsList l items) (hz:items.size<=jF)
  (S:eH) (ν:t0.heap.get? S=ag {cls:= .type "list",data:= .seq #[]}) (γ:S≠O) (β:S≠l)
  (ξ:∀h' tk L Z,(∀b o,b≠S->b≠O->t0.heap.get? b=ag o->h'.get? b=ag o)->h'.get? S=ag {cls:= .type "list",dict:=gs,data:= .seq L Z,slots:=#[]}->
   ItemsOf (λi v=>items[items.size - 1 - i]? =ag v) L items.size->R (.ok (.ret .none)) {t0 with heap:=h',toks:=tk}):
  ll (ph P0 w0) A0.in1 (Builtin.«list.__init__» ⟨[.ref S,.ref O],[]⟩)
   (λfin s'=>match fin with | .done f=>R (.ok f) s' | .again Z=>Z.quiet=true/\codeAny (ph P0 w0) A0 Z R s') (λe s'=>R (.error e) s') t0:=by
 show ll _ _ (do let δ <-QS (.ref S);Builtin.List.listUpdate (.ref S) (λ_=>#[]);letGo δ.toList.reverse;O9 (.ref S) (.ref O) .none) _ _ t0;refine fI ?_;unfold QS;refine fI (Qz ν rfl (ix ?_));show ll _ _ (updateSeq S (λ_=>#[]) >>=λ_=>letGo (#[]:CL).toList.reverse >>=λ_=>O9 (.ref S) (.ref O) .none) _ _ t0;refine fI (wpAny_updateSeq ν rfl ?_);have η:=NJ (Pf (λ_=>(#[]:CL))) ν rfl;have oth:∀b o,b≠S->t0.heap.get? b=ag o->(t0.heap.update S (Pf (λ_=>(#[]:CL)))).get? b=ag o:=λb o hb e=>(NG _ _ (J5 hb)).trans e;refine fI (wpAny_letGo ?_);refine BM θ Y (ζ.at λo e=>oth O o (J5 γ) e) (let ⟨o,e,c⟩:=hl;⟨o,oth l o (J5 β) e,c⟩) hz S .none _ η γ β λh' tk L Z hk ι α=>?_;exact ξ h' tk L Z (λb o hb ε e=>hk b o hb ε (oth b o hb e)) ι α
theorem uC {Q:B2} {α l:eH} {items:CL} (θ:A0.handled=gs) (Y:l≠α) (ζ:t0.heap.IsRevIter α l ((items.size:Int) - 1)) (hl:t0.heap.IsList l items) (hz:items.size<=jF)
  (ν:∀h' tk O η,(∀b o,b≠α->t0.heap.get? b=ag o->h'.get? b=ag o)->h'.get? t0.heap.objs.size=ag {cls:= .type "list",dict:=gs,data:= .seq O η,slots:=#[]}->
   ItemsOf (λi v=>items[items.size - 1 - i]? =ag v) O items.size->Q (.ref t0.heap.objs.size) {t0 with heap:=h',toks:=tk}):
  ll (ph P0 w0) A0 (call (.type "list") [.ref α]) Q E0' t0:=by
 have δ:α < t0.heap.objs.size:=let ⟨o,e,_⟩:=ζ;hL e
 have γ:l < t0.heap.objs.size:=let ⟨o,e,_⟩:=hl;hL e
 refine callType_codes (Q₁:=λobj Z=>obj= .ref t0.heap.objs.size/\Z={t0 with heap:=t0.heap.push {cls:= .type "list",data:= .seq #[]}}) F.called_list (F.typeCall_list_1 _) F.entry_list_init (code_list_new _ ⟨rfl,rfl⟩) λobj Z L=>?_;obtain⟨rfl,rfl⟩:=L;have ι:(t0.heap.push {cls:= .type "list",data:= .seq #[]}).get? t0.heap.objs.size=ag {cls:= .type "list",data:= .seq #[]}:=kv _ rfl;refine⟨⟨_,ι,rfl⟩,F.args_list_init_2 _ _,GR (A0:=A0.in1) θ Y (ζ.at λo e=>eW _ e) (let ⟨o,e,c⟩:=hl;⟨o,eW _ e,c⟩) hz _ ι (J5 (y2 δ)) (J5 (y2 γ)) λh' tk O η hk ε β=>?_⟩;exact⟨rfl,ν h' tk O η (λb o hb e=>hk b o (y2 (hL e)) hb (eW _ e)) ε β⟩
end
theorem Inv.laidT {X:Cx} {pins:B'} {σ:St} {H:Hp} {s:hN} {h':MT} {a Z:eH} {o:HO} {t':Nat} (I:Inv X pins σ H s) (k:∀b u,b≠Z->s.heap.get? b=ag u->h'.get? b=ag u) (γ:s.heap.objs.size<=a)
  (new:eB X.prog X.w (upd H a o) h' a o) (fp:FpOk X pins H Z):Inv X pins σ (upd H a o) {s with heap:=h',toks:=t'}:=by
 obtain⟨O,δ,ζ,L,ξ,ν⟩:=fp;have fr:H a=none:=I.hok.fresh γ;have β:∀b u,H b=ag u->b≠Z:=λb u e z=>by rw[z,O] at e;cases e
 have Y:∀{b:eH},b∉[Z]->b≠Z:=λhb z=>hb (by rw[z];exact hC.mpr rfl)
 refine I.step (g':=s.gens) (d':=s.drawn) (ch:=[Z]) (λb hb=>?_) (λb ob _ _ α e _=>k b ob (Y α) e) (λb ob _ _ α e _=>⟨ob.slots,k b ob (Y α) e⟩) (λb ob _ e n=>?_) (λb ob α e=>⟨ob,k b ob (Y α) e⟩)
  (λb xs e=>by rw[ar (ao e fr)];exact e) (λb ob u e=>by rw[ar (ao e fr)];exact e) (λb ps e=>⟨#[],by rw[ar (ao e fr),e];simp⟩) (λm hm=>?_) (λb u e=>?_) I.bare
 ·have e:b=Z:=hC.mp hb;subst e;exact⟨L,δ,ξ,ν⟩
 ·rw[ar (y2 (uj (hL e) γ))];exact n
 ·obtain⟨ob,es,ε,ho,r⟩:=hm;exact⟨ob,es,ε,k _ ob (J5 δ) ho,r⟩
 ·by_cases hb:b=a
  ·subst hb;rw[au] at e;cases e;exact new
  ·rw[ar hb] at e;refine(I.hok b u e).stay (λc v α q=>k c v ?_ q) (λc q=>by rw[ar (ao q fr)];exact q) λc xs q=>by rw[ar (ao q fr)];exact q
   rcases α with z | z
   ·rw[z];exact β b u e
   ·exact β c _ z
theorem EB {its:CB} {L:CL} (h:ItemsOf (λi v=>its.toArray[its.toArray.size - 1 - i]? =ag v) L its.toArray.size):L=its.reverse.toArray:=by
 obtain⟨h1,h2⟩:=h;apply Array.ext_getElem?;intro i;have hs:its.toArray.size=its.length:=by simp
 by_cases hi:i < L.size
 ·have e:=h2 i L[i] (Re hi);rw[Re hi,<-e];rw[RU,RU,List.getElem?_reverse @A,hs]
 ·rw[RG @A,RG (by simp;omega)]
noncomputable def tRev (K:a') (te:TE):TE:=fun σ H Q=>te σ H λx H1=>∃a xs,x= .ref a/\SqL K H1 a xs/\∀l,H1 l=gs->Q (.ref l) (upd H1 l (.lst xs.reverse))
section
variable {X:Cx}
theorem Au {e:z3} {te:TE} {Z p2 γ φ:Pos} (ν:Gl X "list") (ε:Gl X "reversed") (n1:X.mg "list"=gs) (n2:X.mg "reversed"=gs) (hc:X.calm=true) (he:PE X e te)
  (h1:oD [Expr.Call (.Name "reversed" Z) [e] [] p2] X.env=[(false,eval (.Call (.Name "reversed" Z) [e] [] p2) X.env)]:=by rfl) (h2:oD [e] X.env=[(false,eval e X.env)]:=by rfl):
  PE X (.Call (.Name "list" γ) [.Call (.Name "reversed" Z) [e] [] p2] [] φ) (tRev X.K te):=by
 intro pins s σ H Q I h
 have O:∀θ:B2,(∀v L,(∃a xs its H1 r,v= .ref r/\SqL X.K H1 a xs/\Vals xs its/\a≠r/\Inv X pins σ H1 L/\L.heap.IsRevIter r a ((its.toArray.size:Int) - 1)/\L.heap.IsList a its.toArray/\its.length<=jF/\H1 r=gs/\FpOk X pins H1 r/\(∀l,H1 l=gs->Q (.ref l) (upd H1 l (.lst xs.reverse))))->θ v L)->
   ll (ph X.prog X.w) X.A (eval (.Call (.Name "reversed" Z) [e] [] p2) X.env) θ X.xe s:=fun θ η=>by
  refine SB (kh I ε n2 PyProof.Rows.boot_reversed (N3 (thn (aa he ae h2 p2 pins s σ H (λvs H1=>match vs with | [x]=>∃a xs,x= .ref a/\SqL X.K H1 a xs/\∀l,H1 l=gs->Q (.ref l) (upd H1 l (.lst xs.reverse)) | _=>False) I h) λus L ⟨vs,H1,I1,β,γ⟩=>?_) h2 rfl))
  match vs,β,γ with
  | [x],β,⟨a,xs,ξ,δ,q⟩=>
  obtain⟨u,rfl,τ⟩:=β.one;subst ξ;cases τ;obtain⟨its,rv,pl,hz⟩:=I1.list δ;have lt:a < L.heap.objs.size:=let ⟨o,e,_⟩:=pl.isList;hL e
  refine call_reversed_list pl.isList (η _ _ ⟨a,xs,its,H1,L.heap.objs.size,rfl,δ,rv,y2 lt,I1.kept (t':=L.toks) λb o e=>eW _ e,⟨_,kv _ rfl,rfl,rfl⟩,let ⟨o,e,c⟩:=pl.isList;⟨o,eW _ e,c⟩,by rw[<-rv.length];exact hz,I1.fresh,I1.fpOk (qb _) I1.fresh,q⟩)
 refine SB (kh I ν n1 qR (N3 (Q:=EP X pins σ Q) ?_ h1 rfl));rw[h1];show ll _ _ (spliced ((false,eval (.Call (.Name "reversed" Z) [e] [] p2) X.env)::backTo φ [])) _ _ s;refine Qu (O _ λv L ρ=>QC ?_);obtain⟨a,xs,its,H1,r,rfl,δ,rv,Y,I1,ζ,hl,hz,hf,fp,q⟩:=ρ;refine uC (I1.ok.hd hc) Y ζ hl (by simpa using hz) λh' tk ο c hk ι α=>?_;have e:=EB α;subst e;exact⟨.ref L.heap.objs.size,upd H1 L.heap.objs.size (.lst xs.reverse),I1.laidT hk (qb _) ⟨by rw[S8,rv.length];exact hz,its.reverse,c,rv.reverse,ι⟩ fp,rfl,q _ I1.fresh⟩
end
section
variable {X:Cx} {K:a'}
theorem ay (h:X.K=K):IxR X (rIxL K):=by subst h;exact Jv
theorem bt (h:X.K=K):IxR X (rIxT K):=by subst h;exact Lq
theorem cB (h:X.K=K):SlR X (rSlL K):=by subst h;exact Iw
theorem eT (h:X.K=K):nO X (.builtin "isinstance") (rIsi K):=by subst h;exact G7
noncomputable def rLen (K:a'):cc V->Hp->VK->Prop:=λxs H Q=>∃x n,xs=[x]/\LenV K x H n/\Q (.int n) H
theorem aF (h:X.K=K):nO X (.builtin "len") (rLen K):=by subst h;exact G6
noncomputable def xA (K:a'):cc V->Hp->VK->Prop:=λxs H Q=>∃p ys,xs=[.ref p]/\(SqL K H p ys∨SqT K H p ys)/\∀l,H l=gs->Q (.ref l) (upd H l (.lst ys))
theorem bX (h:X.K=K):nO X (.type "list") (xA K):=by subst h;exact wF
noncomputable def DD (K:a'):cc V->Hp->VK->Prop:=λxs H Q=>∃p ys,xs=[.ref p]/\((SqL K H p ys/\∀l,H l=gs->Q (.ref l) (upd H l (.tup ys)))∨(SqT K H p ys/\Q (.ref p) H))
theorem dw (h:X.K=K):nO X (.type "tuple") (DD K):=by subst h;exact uB
theorem aM {tg l:z3} {tl:TE} (h:X.K=K) (hl:PE X l tl):PI X tg l (Lr K tl):=by subst h;exact IY hl
theorem mi {tg l:z3} {tl:TE} (h:X.K=K) (hl:PE X l tl):PI X tg l (iTup K tl):=by subst h;exact K0 hl
theorem Jb {o:z3} {to:TE} {name:ic} {apos cpos:Pos} {T id:Np} {r:V->cc V->Hp->VK->Prop} (h:X.K=K) (Y:PlainAttrs T) (slot:Slot T name id) (η:typeOf (.builtin id)=pure (.type "method_descriptor")) (hm:MtR X id r) (ho:PE X o to)
  (O:attributeBase o name X.env (eval o X.env)=eval o X.env:=by rfl) (L:(apos.endLine == cpos.line)=true:=by rfl):PE X (.Call (.Attribute o name apos) [] [] cpos) (tBM0 K T r to):=by subst h;exact K5 Y slot η hm ho O L
theorem bW {o e:z3} {es:cc z3} {to:TE} {t:TA} {name:ic} {apos cpos:Pos} {T id:Np} {r:V->cc V->Hp->VK->Prop} (h:X.K=K) (Z:PlainAttrs T) (slot:Slot T name id) (η:typeOf (.builtin id)=pure (.type "method_descriptor")) (hm:MtR X id r) (ho:PE X o to) (ha:PA X (e::es) t)
  (O:attributeBase o name X.env (eval o X.env)=eval o X.env:=by rfl)
  (Y:((backTo cpos (oD (e::es) X.env)).all (λx=> !x.1)&&(backToKw cpos (keywordEach [] X.env)).all (λx=>x.1.isSome)
   &&decide ((e::es).length + ([]:cc Keyword).length + (if ([]:cc Keyword).isEmpty then 0 else 1) < 30))=true:=by rfl)
  (L:(apos.endLine == cpos.line)=true:=by rfl) (hs:oD (e::es) X.env=(false,eval e X.env)::oD es X.env:=by rfl) (ν:(backTo cpos (oD es X.env)).any (·.1)=false:=by rfl):
  PE X (.Call (.Attribute o name apos) (e::es) [] cpos) (tBM K T r to t):=by subst h;exact Mx Z slot η hm ho ha O Y L hs ν
end
noncomputable def Its (x:ic):It:=⟨λi _=>i < x.cps.size,λi H v H'=>H'=H/\∃c,x.cps[i]? =ag c/\v= .str ⟨#[c]⟩,λi _=>i=x.cps.size⟩
theorem yI {P:ry} {w:zt} {K:a'} {tg:z3} {Y:eH} {x:ic} {t:Tok} {n:Np}
  (hn:["enumerate","zip","dict_itemiterator","dict_reverseitemiterator","odict_iterator","itertools.zip_longest","itertools.pairwise"].contains n=false)
  (W:∀A:zx,A.handled=gs->Walks P w A Y [Y] [Y] x.cps.size (SignAt x) (λi h=>h.IsStrIter Y n x t i))
  (Z:∀(A:zx) (i:Nat) (s:hN) (Q:B2) (E:B2),s.heap.IsStrIter Y n x t i->Q (.ref Y) s->ll (ph P w) A (pyIter (.ref Y)) Q E s):
  Turn P w K tg (Its x) [Y] Y (λi h=>h.IsStrIter Y n x t i) where
 mem:=by simp
 obj:=λi h st b hb=>by
  have e:b=Y:=by simpa using hb
  subst e;obtain⟨o,e,c,d⟩:=st;exact⟨o,e,λv z=>by rw[d] at z;cases z⟩
 keep:=λi h h' st k=>let ⟨o,e,r⟩:=st;⟨o,k Y @F o e,r⟩
 item:=by
  intro X ρ δ η ε i pins s σ H E I hf st β;subst ρ δ η;obtain⟨O,ζ,ο,L,ξ,ν⟩:=hf Y @F;refine(W X.A (I.ok.hd ε)).item i s _ _ β st λv h' tk ι α γ=>?_;obtain⟨c,u,θ,rfl⟩:=ι;have τ:Inv X pins σ H {s with heap:=h',toks:=tk}:=I.turned (λb o hb e=>γ b o (by simpa using hb) e) O ζ L ξ ν;obtain⟨o,e,π,d⟩:=id α;exact⟨_,rfl,GW (s:={s with heap:=h',toks:=tk}) (n:=n) e π d hn ⟨.str ⟨#[c]⟩,H,τ,⟨u,rfl⟩,⟨rfl,c,θ,rfl⟩,α,λb hb=>(hf b hb).1⟩⟩
 done:=by
  intro X ρ δ η ε i pins s σ H E I hf st β;subst ρ δ η;obtain⟨O,ζ,ο,L,ξ,ν⟩:=hf Y @F;have β:i=x.cps.size:=β;subst β;exact(W X.A (I.ok.hd ε)).done s _ _ st λh' tk γ=>⟨rfl,I.turned (λb o hb e=>γ b o (by simpa using hb) e) O ζ L ξ ν⟩
 self:=Z
noncomputable abbrev iStr (tl:TE):TI:=fun σ H R=>tl σ H λx H1=>∃z,x= .str z/\R (Its z) H1
section
variable {X:Cx} {tg:z3}
theorem Hx {l:z3} {tl:TE} (hl:PE X l tl):PI X tg l (iStr tl):=by
 intro pins s σ H R I h;refine thn (hl pins s σ H _ I h) λv L ⟨x,H1,I1,Y,Z⟩=>?_;obtain⟨z,e,q⟩:=Z;subst e;obtain⟨t,rfl⟩:=Y
 have fp:∀(o:Rk),∀b∈[L.heap.objs.size],FpOk X pins H1 b:=λo b hb=>by
  have e:b=L.heap.objs.size:=by simpa using hb
  subst e;exact I1.fpOk (qb _) (I1.hok.fresh (qb _))
 cases ha:z.cps.all (· < 128)
 ·refine wpAny_pyIter_wide ha ⟨L.heap.objs.size,[L.heap.objs.size],_,_,H1,rfl,I1.kept (t':=L.toks) λb o e=>eW _ e,
   yI (n:="str_iterator") (t:=t) @C (λA O=>Walks.strWide O _ z t) (λ_ _ _ _ _ st h=>wpAny_pyIter_striter_wide st h),⟨_,kv _ rfl,rfl,rfl⟩,fp default,q⟩
 ·refine wpAny_pyIter_ascii ha ⟨L.heap.objs.size,[L.heap.objs.size],_,_,H1,rfl,I1.kept (t':=L.toks) λb o e=>eW _ e,
   yI (n:="str_ascii_iterator") (t:=t) @C (λA O=>Walks.strAscii O _ z t) (λ_ _ _ _ _ st h=>wpAny_pyIter_striter_ascii st h),⟨_,kv _ rfl,rfl,rfl⟩,fp default,q⟩
end
section
variable {n:Nat} {fx:A'} {g:TG} {tc:TT} {te:TE} {σ:St} {H1:Hp} {D:eH} {Q:Hp->Prop}
theorem ze {z:ic} (O:Nat->cc V->Hp->Prop) (ζ:O 0 [] (upd H1 D (.lst [])))
  (hs:∀i c ys H,z.cps[i]? =ag c->O i ys H->g (.str ⟨#[c]⟩) (dF n fx σ) H fun β α=>tc β α λb Z=>if b=true then te β Z λv H6=>H6 D=ag (.lst ys)/\ys.length < jF/\O (i + 1) (ys++[v]) (upd H6 D (.lst (ys++[v]))) else O (i + 1) ys Z)
  (hd:∀ys H,O z.cps.size ys H->Q H):
  ∃W:Nat->Nat->cc V->Hp->Prop,(∃m,W 0 m [] (upd H1 D (.lst [])))/\∀i m ys H2,W i m ys H2->((Its z).stop i H2/\Q H2)∨
    ((Its z).go i H2/\∃N:cc V->Hp->Prop,(∀L H',N L H'->∃η,η < m/\W (i + 1) η L H')/\∀x γ,(Its z).yld i H2 x γ->g x (dF n fx σ) γ fun β α=>tc β α λb Z=>
      if b=true then te β Z λv H6=>H6 D=ag (.lst ys)/\ys.length < jF/\N (ys++[v]) (upd H6 D (.lst (ys++[v]))) else N ys Z):=by
 refine⟨λi m ys H=>m=z.cps.size - i/\i<=z.cps.size/\O i ys H,⟨z.cps.size,@F,N2 _,ζ⟩,?_⟩;rintro i m ys H ⟨rfl,hi,p⟩;by_cases Y:i < z.cps.size
 ·refine .inr ⟨Y,O (i + 1),λL H' δ=>⟨z.cps.size - (i + 1),by omega,rfl,Y,δ⟩,λx H' y=>?_⟩;obtain⟨e,c,ε,y⟩:=y;subst e;subst y;exact hs i c ys _ ε p
 ·have e:i=z.cps.size:=by omega
  subst e;exact .inl ⟨rfl,hd ys H p⟩
end
theorem sy {ns:A6}:∀{us:CB},Vals (ns.map V.str) us->StrsAre us ns:=by
 induction ns with
 | nil=>intro us r;rw[Qo] at r;cases r;exact .nil
 | cons n ns ih=>
   intro us r;rw[MU] at r;cases r with
   | cons L υ=>
     obtain⟨t,e⟩:=L;subst e;exact .cons n t (ih υ)
noncomputable def KN (K:a'):V->cc V->Hp->VK->Prop:=λx xs H Q=>∃z D ys,x= .str z/\xs=[.ref D]/\SqL K H D (ys.map V.str)/\(ys.map (·.length)).sum + ys.length * z.length<=16777216/\Q (.str (OZ z ys)) H
noncomputable def rSlS:V->ov Int->ov Int->Hp->VK->Prop:=λx lo hi H Q=>∃z,x= .str z/\z.length<=jF/\Q (.str (Qg z lo hi)) H
noncomputable def KP (K:a'):cc V->Hp->VK->Prop:=λxs H Q=>∃(a:eH) (bs:cc N1),xs=[.ref a]/\SqL K H a (bs.map V.bl)/\Q (.bl (bs.all id)) H
noncomputable def KO (K:a'):cc V->Hp->VK->Prop:=λxs H Q=>∃(a:eH) (bs:cc N1),xs=[.ref a]/\SqL K H a (bs.map V.bl)/\Q (.bl (bs.any id)) H
section
variable {X:Cx} {K:a'}
theorem iF (h:X.K=K):MtR X "str.join" (KN K):=by
 subst h;intro pins s σ H x xs v us Q I L rs h;obtain⟨z,D,ys,rfl,rfl,O,hz,q⟩:=h;obtain⟨t,rfl⟩:=L;obtain⟨u,rfl,τ⟩:=rK rs;cases τ;obtain⟨its,rv,pl,_⟩:=I.list O;exact join_list pl.isList (sy (by simpa using rv)) hz λt' k=>⟨.str (OZ z ys),H,I.tok k,⟨t',rfl⟩,q⟩
theorem yM:SlR X rSlS:=by
 intro pins s σ H x v ζ ε lo hi η Q I β hs pl α h;obtain⟨z,rfl,hz,q⟩:=h;obtain⟨t,rfl⟩:=β;refine⟨"str",_,slot_str_getitem.lookup,P5 s z t,?_⟩
 have fin:∀l u:ov (Int×Tok),l.map (·.1)=lo->u.map (·.1)=hi->(sliceMade z t l u gs).post (EP X pins σ Q) s:=λl u el γ=>by
  unfold sliceMade slicePicked;rw[el,γ];have δ:=q;unfold Qg at δ;split
  ·rename_i L;have L:((1:Int) == 1&&(Qx lo hi 1 z.length).length == z.length)=true:=L;rw[kn L] at δ;exact⟨.str z,H,I,⟨t,rfl⟩,δ⟩
  ·rename_i L;have L:¬((1:Int) == 1&&(Qx lo hi 1 z.length).length == z.length)=true:=L;rw[hQ L] at δ;refine⟨?_,.str _,H,I.tok _,⟨_,rfl⟩,δ⟩;have O:=Txt.slice_le z lo hi;unfold Qg at O;rw[hQ L] at O;exact NK O hz
 cases pl with
 | none=>
   cases α with
   | none=>exact OS (l:=gs) (u:=gs) (st:=gs) hs rfl (fin _ _ rfl rfl)
   | int j Y=>exact OS (l:=gs) (u:=ag (j,Y)) (st:=gs) hs rfl (fin _ _ rfl rfl)
 | int i Z=>
   cases α with
   | none=>exact OS (l:=ag (i,Z)) (u:=gs) (st:=gs) hs rfl (fin _ _ rfl rfl)
   | int j Y=>exact OS (l:=ag (i,Z)) (u:=ag (j,Y)) (st:=gs) hs rfl (fin _ _ rfl rfl)
theorem Fi {bs:cc N1} {its:CB} (rv:Vals (bs.map V.bl) its) {i:Nat} {v:iv} (h:its.toArray[i]? =ag v):v= .bool (bs.getD i false):=by
 have h':its[i]? =ag v:=by simpa using h
 have hi:i < its.length:=(b'.mp h').1;have hl:=rv.length;rw[ak] at hl;obtain⟨u,e,r⟩:=rv.get (i:=i) (x:= .bl (bs.getD i false)) (by rw[hH,c' @A,hB,c' @A];rfl);rw[h'] at e;cases e;exact r
theorem LJ (bs:cc N1):(Na bs.length).all (λi=>bs.getD i false)=bs.all id:=by
 rw[Nl,Nr,Nr];constructor
 ·intro h x L;obtain⟨i,hi,e⟩:=M9.mp L;have:=h i (Oh.mpr hi);rw[hB,c' hi,e] at this;exact this
 ·intro h i hi;have hi:=Oh.mp hi;rw[hB,c' hi];exact h _ (Ny hi)
theorem wQ (bs:cc N1):(Na bs.length).any (λi=>bs.getD i false)=bs.any id:=by
 rw[Nl,Oy,Oy];constructor
 ·rintro⟨i,hi,h⟩;have hi:=Oh.mp hi;rw[hB,c' hi] at h;exact⟨_,Ny hi,h⟩
 ·rintro⟨x,L,h⟩;obtain⟨i,hi,e⟩:=M9.mp L;refine⟨i,Oh.mpr hi,?_⟩;rw[hB,c' hi,e];exact h
theorem wH (h:X.K=K) (hc:X.calm=true):nO X (.builtin "all") (KP K):=by
 subst h;intro pins s σ H xs us Q I r h;obtain⟨a,bs,rfl,O,q⟩:=h;obtain⟨u,rfl,τ⟩:=rK r;cases τ;obtain⟨its,rv,pl,hz⟩:=I.list O;have lt:a < s.heap.objs.size:=let ⟨o,e,_⟩:=pl.isList;hL e
 have hl:its.toArray.size=bs.length:=by have:=rv.length;rw[ak] at this;simp[this]
 refine call_all_walk (OU pl.isList ⟨s.heap.objs.size,_,_,its.toArray.size,_,_,λi=>bs.getD i false,rfl,QZ (A:=X.A.in1) (I.ok.hd hc) s.heap.objs.size a (y2 lt) its.toArray,⟨⟨_,kv _ rfl,rfl,rfl⟩,let ⟨o,e,c⟩:=pl.isList;⟨o,eW _ e,c⟩⟩,λi v s Q E ρ Y=>by rw[Fi rv ρ];exact NF Y,λh' tk L=>?_⟩);rw[hl,LJ];exact⟨.bl _,H,I.kept (λb o e=>L b o (λhm=>by have:=hL e;rw[hC.mp hm] at this;exact ik this (NS _)) (eW _ e)),rfl,q⟩
theorem wG (h:X.K=K) (hc:X.calm=true):nO X (.builtin "any") (KO K):=by
 subst h;intro pins s σ H xs us Q I r h;obtain⟨a,bs,rfl,O,q⟩:=h;obtain⟨u,rfl,τ⟩:=rK r;cases τ;obtain⟨its,rv,pl,hz⟩:=I.list O;have lt:a < s.heap.objs.size:=let ⟨o,e,_⟩:=pl.isList;hL e
 have hl:its.toArray.size=bs.length:=by have:=rv.length;rw[ak] at this;simp[this]
 refine call_any_walk (OU pl.isList ⟨s.heap.objs.size,_,_,its.toArray.size,_,_,λi=>bs.getD i false,rfl,QZ (A:=X.A.in1) (I.ok.hd hc) s.heap.objs.size a (y2 lt) its.toArray,⟨⟨_,kv _ rfl,rfl,rfl⟩,let ⟨o,e,c⟩:=pl.isList;⟨o,eW _ e,c⟩⟩,λi v s Q E ρ Y=>by rw[Fi rv ρ];exact NF Y,λh' tk L=>?_⟩);rw[hl,wQ];exact⟨.bl _,H,I.kept (λb o e=>L b o (λhm=>by have:=hL e;rw[hC.mp hm] at this;exact ik this (NS _)) (eW _ e)),rfl,q⟩
end
inductive Dt where
 | non | bl (b:N1) | int (i:Int) | str (x:ic) | lst (xs:cc Dt) | tup (xs:cc Dt)
inductive Rep (K:a') (H:Hp):V->Dt->Prop where
 | non:Rep K H .non .non
 | bl (b:N1):Rep K H (.bl b) (.bl b)
 | int (i:Int):Rep K H (.int i) (.int i)
 | str (x:ic):Rep K H (.str x) (.str x)
 | lst {p:eH} {xs:cc V} {ds:cc Dt} (h:SqL K H p xs) (l:xs.length=ds.length) (r:∀(i:Nat) x d,xs[i]? =ag x->ds[i]? =ag d->Rep K H x d):Rep K H (.ref p) (.lst ds)
 | tup {p:eH} {xs:cc V} {ds:cc Dt} (h:SqT K H p xs) (l:xs.length=ds.length) (r:∀(i:Nat) x d,xs[i]? =ag x->ds[i]? =ag d->Rep K H x d):Rep K H (.ref p) (.tup ds)
mutual
noncomputable def eqD:Dt->Dt->N1
 | .non,.non=>true
 | .bl a,.bl b=>a == b
 | .bl a,.int b=>(if a then 1 else 0) == b
 | .int a,.bl b=>a == (if b then 1 else 0)
 | .int a,.int b=>a == b
 | .str a,.str b=>a == b
 | .lst xs,.lst ys=>eqDs xs ys
 | .tup xs,.tup ys=>eqDs xs ys
 | _,_=>false
noncomputable def eqDs:cc Dt->cc Dt->N1
 | [],[]=>true
 | x::xs,y::ys=>eqD x y&&eqDs xs ys
 | _,_=>false
end
mutual
noncomputable def depD:Dt->Nat
 | .lst xs=>dH xs + 1
 | .tup xs=>dH xs + 1
 | _=>0
noncomputable def dH:cc Dt->Nat
 | []=>0
 | x::xs=>max (depD x) (dH xs)
end
theorem E7 {ds:cc Dt} {d:Dt} (h:d∈ds):depD d<=dH ds:=by
 induction ds with
 | nil=>cases h
 | cons x xs ih=>
   rw[dH];rcases v9.mp h with rfl | h
   ·omega
   ·have:=ih h;omega
theorem uu:∀{xs ys:cc Dt},xs.length≠ys.length->eqDs xs ys=false
 | [],[],h=>ik rfl h
 | [],_::_,_=>rfl
 | _::_,[],_=>rfl
 | x::xs,y::ys,h=>by rw[eqDs,uu (λz=>h (by simp[z])),Ou]
theorem uv:∀{xs ys:cc Dt},xs.length=ys.length->eqDs xs ys=(Na xs.length).all λi=>eqD (xs.getD i .non) (ys.getD i .non)
 | [],[],_=>rfl
 | [],_::_,h=>by cases h
 | _::_,[],h=>by cases h
 | x::xs,y::ys,h=>by
   rw[eqDs,uv (by simpa using h),y1,List.range_succ_eq_map,Qf,Qp];rfl
theorem nE:∀d:Dt,eqD d d=true:=by
 intro d;refine Dt.rec (motive_1:=λd=>eqD d d=true) (motive_2:=λds=>eqDs ds ds=true) ?_ ?_ ?_ ?_ ?_ ?_ ?_ ?_ d
 ·rfl
 ·intro b;simp[eqD]
 ·intro b;simp[eqD]
 ·intro b;simp[eqD]
 ·intro xs h;rw[eqD];exact h
 ·intro xs h;rw[eqD];exact h
 ·rfl
 ·intro x xs h1 h2;rw[eqDs,h1,h2];rfl
theorem HD:∀{d e:Dt},d=e->eqD d e=true:=λh=>by subst h;exact nE _
section
variable {X:Cx} {pins:B'} {σ:St} {H:Hp} {s:hN}
theorem Inv.notBoth (I:Inv X pins σ H s) {p:eH} {xs ys:cc V} (h1:SqL X.K H p xs) (h2:SqT X.K H p ys):False:=by
 obtain⟨_,_,pl,_⟩:=I.list h1;obtain⟨_,_,⟨o,ho,Y,_⟩,_⟩:=I.tuple h2;obtain⟨o',n,L,O,_⟩:=pl;rw[ho] at L;cases L;rw[Y] at O;exact ik O @C
theorem Rep.fun (I:Inv X pins σ H s) {x:V} {d:Dt} (r:Rep X.K H x d):∀{e:Dt},Rep X.K H x e->d=e:=by
 induction r with
 | non=>intro e q;cases q;rfl
 | bl b=>intro e q;cases q;rfl
 | int i=>intro e q;cases q;rfl
 | str z=>intro e q;cases q;rfl
 | lst h l r ih=>
   intro e q;cases q with
   | lst h' O r'=>
     have ex:=I.list_inj h h';subst ex;congr 1;refine OC λi=>?_;rename_i xs ds Y;by_cases hi:i < ds.length
     ·rw[c' hi,c' @A];have L:i < xs.length:=by omega
      rw[ih i _ _ (c' L) (c' hi) (r' i _ _ (c' L) (c' @A))]
     ·rw[M' @A,M' @A]
   | tup h' O r'=>exact(I.notBoth h h').elim
 | tup h l r ih=>
   intro e q;cases q with
   | tup h' O r'=>
     have ex:=I.tuple_inj h h';subst ex;congr 1;refine OC λi=>?_;rename_i xs ds Y;by_cases hi:i < ds.length
     ·rw[c' hi,c' @A];have L:i < xs.length:=by omega
      rw[ih i _ _ (c' L) (c' hi) (r' i _ _ (c' L) (c' @A))]
     ·rw[M' @A,M' @A]
   | lst h' O r'=>exact(I.notBoth h' h).elim
open SeqAt in
theorem rc_D (I:Inv X pins σ H s) {x:V} {d:Dt} (r:Rep X.K H x d):∀{A:zx} {e:Dt} {y:V} {u v:iv} (n:Nat),Rep X.K H y e->RelV x u->RelV y v->depD d<=n->A.units + n < cLine->
  EqAt A s u v (eqD d e)/\RcAt A s u v (eqD d e)/\RcNeAt A s u v (!eqD d e):=by
 induction r with
 | non=>
   intro A e y u v n q τ rv hd Z;cases τ;cases q with
   | non=>cases rv;exact⟨Ss _,RcAt.none_none,RcNeAt.none_none⟩
   | bl b=>cases rv;exact⟨EqAt.none_bool b,RcAt.none_bool b,RcNeAt.none_bool b⟩
   | int b=>obtain⟨t,rfl⟩:=rv;exact⟨EqAt.none_int b t,RcAt.none_int b t,RcNeAt.none_int b t⟩
   | str b=>obtain⟨t,rfl⟩:=rv;exact⟨EqAt.none_str b t,RcAt.none_str b t,RcNeAt.none_str b t⟩
   | lst h l r=>cases rv;obtain⟨_,_,pl,_⟩:=I.list h;exact⟨EqAt.none_list pl.isList @A,RcAt.none_list pl.isList @A,RcNeAt.none_list pl.isList @A⟩
   | tup h l r=>cases rv;obtain⟨_,_,pl,_⟩:=I.tuple h;exact⟨EqAt.none_tuple pl @A,RcAt.none_tuple pl @A,RcNeAt.none_tuple pl @A⟩
 | bl a=>
   intro A e y u v n q τ rv hd Z;cases τ;cases q with
   | non=>cases rv;exact⟨EqAt.bool_none a,RcAt.bool_none a,RcNeAt.bool_none a⟩
   | bl b=>cases rv;exact⟨EqAt.bool_bool a b,RcAt.bool_bool a b,RcNeAt.bool_bool a b⟩
   | int b=>obtain⟨t,rfl⟩:=rv;exact⟨EqAt.bool_int a b t,RcAt.bool_int a b t,RcNeAt.bool_int a b t⟩
   | str b=>obtain⟨t,rfl⟩:=rv;exact⟨EqAt.bool_str a b t,RcAt.bool_str a b t,RcNeAt.bool_str a b t⟩
   | lst h l r=>cases rv;obtain⟨_,_,pl,_⟩:=I.list h;exact⟨EqAt.bool_list a pl.isList @A,RcAt.bool_list a pl.isList @A,RcNeAt.bool_list a pl.isList @A⟩
   | tup h l r=>cases rv;obtain⟨_,_,pl,_⟩:=I.tuple h;exact⟨EqAt.bool_tuple a pl @A,RcAt.bool_tuple a pl @A,RcNeAt.bool_tuple a pl @A⟩
 | int a=>
   intro A e y u v n q τ rv hd Z;obtain⟨t',rfl⟩:=τ;cases q with
   | non=>cases rv;exact⟨EqAt.int_none a t',RcAt.int_none a t',RcNeAt.int_none a t'⟩
   | bl b=>cases rv;exact⟨EqAt.int_bool a t' b,RcAt.int_bool a t' b,RcNeAt.int_bool a t' b⟩
   | int b=>obtain⟨t,rfl⟩:=rv;exact⟨EqAt.int_int a t' b t,RcAt.int_int a t' b t,RcNeAt.int_int a t' b t⟩
   | str b=>obtain⟨t,rfl⟩:=rv;exact⟨EqAt.int_str a t' b t,RcAt.int_str a t' b t,RcNeAt.int_str a t' b t⟩
   | lst h l r=>cases rv;obtain⟨_,_,pl,_⟩:=I.list h;exact⟨EqAt.int_list a t' pl.isList @A,RcAt.int_list a t' pl.isList @A,RcNeAt.int_list a t' pl.isList @A⟩
   | tup h l r=>cases rv;obtain⟨_,_,pl,_⟩:=I.tuple h;exact⟨EqAt.int_tuple a t' pl @A,RcAt.int_tuple a t' pl @A,RcNeAt.int_tuple a t' pl @A⟩
 | str a=>
   intro A e y u v n q τ rv hd Z;obtain⟨t',rfl⟩:=τ;cases q with
   | non=>cases rv;exact⟨EqAt.str_none a t',RcAt.str_none a t',RcNeAt.str_none a t'⟩
   | bl b=>cases rv;exact⟨EqAt.str_bool a t' b,RcAt.str_bool a t' b,RcNeAt.str_bool a t' b⟩
   | int b=>obtain⟨t,rfl⟩:=rv;exact⟨EqAt.str_int a t' b t,RcAt.str_int a t' b t,RcNeAt.str_int a t' b t⟩
   | str b=>obtain⟨t,rfl⟩:=rv;exact⟨EqAt.str_str a t' b t,RcAt.str_str a t' b t,RcNeAt.str_str a t' b t⟩
   | lst h l r=>cases rv;obtain⟨_,_,pl,_⟩:=I.list h;exact⟨EqAt.str_list a t' pl.isList @A,RcAt.str_list a t' pl.isList @A,RcNeAt.str_list a t' pl.isList @A⟩
   | tup h l r=>cases rv;obtain⟨_,_,pl,_⟩:=I.tuple h;exact⟨EqAt.str_tuple a t' pl @A,RcAt.str_tuple a t' pl @A,RcNeAt.str_tuple a t' pl @A⟩
 | @lst p xs ds h l r ih=>
   intro A e y u v n q τ rv hd Z;cases τ;obtain⟨its,γ,pl,_⟩:=I.list h;rw[depD] at hd;cases q with
   | non=>cases rv;exact⟨EqAt.list_none pl.isList @A,RcAt.list_none pl.isList @A,RcNeAt.list_none pl.isList @A⟩
   | bl b=>cases rv;exact⟨EqAt.list_bool b pl.isList @A,RcAt.list_bool b pl.isList @A,RcNeAt.list_bool b pl.isList @A⟩
   | int b=>obtain⟨t,rfl⟩:=rv;exact⟨EqAt.list_int b t pl.isList @A,RcAt.list_int b t pl.isList @A,RcNeAt.list_int b t pl.isList @A⟩
   | str b=>obtain⟨t,rfl⟩:=rv;exact⟨EqAt.list_str b t pl.isList @A,RcAt.list_str b t pl.isList @A,RcNeAt.list_str b t pl.isList @A⟩
   | tup h' ι r'=>
     cases rv;obtain⟨_,_,O,_⟩:=I.tuple h';exact⟨EqAt.list_tuple pl.isList O @A,RcAt.list_tuple pl.isList O @A,RcNeAt.list_tuple pl.isList O @A⟩
   | @lst ζ ν L h' ι r'=>
     cases rv;obtain⟨its',β,O,_⟩:=I.list h';have n1:=γ.length;have n2:=β.length
     have α:RcAt A s (.ref p) (.ref ζ) (eqDs ds L)/\RcNeAt A s (.ref p) (.ref ζ) (!eqDs ds L):=by
      by_cases hl:ds.length=L.length
      ·have e:eqDs ds L=(Na its.toArray.size).all λi=>eqD (ds.getD i .non) (L.getD i .non):=by
        rw[uv hl,sv,<-n1,l]
       rw[e];have hz:its.toArray.size=its'.toArray.size:=by simp;omega
       have he:∀j (h1:j < its.toArray.size) (h2:j < its'.toArray.size),EqAt A.in1 s its.toArray[j] its'.toArray[j] (eqD (ds.getD j .non) (L.getD j .non)):=λj h1 h2=>by
        have ρ:j < its.length:=by simpa using h1
        have π:j < its'.length:=by simpa using h2
        have ο:j < xs.length:=by omega
        have η:j < ν.length:=by omega
        have θ:j < ds.length:=by omega
        have δ:j < L.length:=by omega
        have φ:xs[j]? =ag (xs.getD j .non):=by rw[hB,c' ο];rfl
        have ε:ds[j]? =ag (ds.getD j .non):=by rw[hB,c' θ];rfl
        have χ:ν[j]? =ag (ν.getD j .non):=by rw[hB,c' η];rfl
        have υ:L[j]? =ag (L.getD j .non):=by rw[hB,c' δ];rfl
        have hn:n≠0:=by omega
        exact(ih j _ _ φ ε (n - 1) (r' j _ _ χ υ) (tz γ h1) (tz β h2) (by have:=E7 (hA ε);omega) (by show A.units + 1 + (n - 1) < cLine;omega)).1
       exact⟨RcAt.lists pl.isList O.isList hz @A he,RcNeAt.lists pl.isList O.isList hz @A he⟩
      ·rw[uu hl];have hz:(its.toArray.size != its'.toArray.size)=true:=by simp;omega
       exact⟨RcAt.lists_lengths pl.isList O.isList hz @A,RcNeAt.lists_lengths pl.isList O.isList hz @A⟩
     rw[eqD];refine⟨?_,α⟩;by_cases ξ:p=ζ
     ·subst ξ;have e:Dt.lst ds=Dt.lst L:=(Rep.lst h l r).fun I (.lst h' ι r');have ψ:eqDs ds L=true:=by have:=HD e;rw[eqD] at this;exact this
      rw[ψ];exact Ss _
     ·exact T7 ξ α.1
 | @tup p xs ds h l r ih=>
   intro A e y u v n q τ rv hd Z;cases τ;obtain⟨its,γ,pl,_⟩:=I.tuple h;rw[depD] at hd;cases q with
   | non=>cases rv;exact⟨EqAt.tuple_none pl @A,RcAt.tuple_none pl @A,RcNeAt.tuple_none pl @A⟩
   | bl b=>cases rv;exact⟨EqAt.tuple_bool b pl @A,RcAt.tuple_bool b pl @A,RcNeAt.tuple_bool b pl @A⟩
   | int b=>obtain⟨t,rfl⟩:=rv;exact⟨EqAt.tuple_int b t pl @A,RcAt.tuple_int b t pl @A,RcNeAt.tuple_int b t pl @A⟩
   | str b=>obtain⟨t,rfl⟩:=rv;exact⟨EqAt.tuple_str b t pl @A,RcAt.tuple_str b t pl @A,RcNeAt.tuple_str b t pl @A⟩
   | lst h' ι r'=>
     cases rv;obtain⟨_,_,O,_⟩:=I.list h';exact⟨EqAt.tuple_list pl O.isList @A,RcAt.tuple_list pl O.isList @A,RcNeAt.tuple_list pl O.isList @A⟩
   | @tup ζ ν L h' ι r'=>
     cases rv;obtain⟨its',β,O,_⟩:=I.tuple h';have n1:=γ.length;have n2:=β.length
     have α:RcAt A s (.ref p) (.ref ζ) (eqDs ds L)/\RcNeAt A s (.ref p) (.ref ζ) (!eqDs ds L):=by
      have e:eqDs ds L=((Na (min its.toArray.size its'.toArray.size)).all (λi=>eqD (ds.getD i .non) (L.getD i .non))&&its.toArray.size == its'.toArray.size):=by
       by_cases hl:ds.length=L.length
       ·have Y:its.toArray.size=ds.length:=by simp;omega
        have ω:its'.toArray.size=ds.length:=by simp;omega
        rw[uv hl,Y,ω,Nat.min_self,Od,Bool.and_true]
       ·have z:(its.toArray.size == its'.toArray.size)=false:=by rw[z4];simp;omega
        rw[uu hl,z,Ou]
      rw[e]
      have he:∀j (h1:j < its.toArray.size) (h2:j < its'.toArray.size),EqAt A.in1 s its.toArray[j] its'.toArray[j] (eqD (ds.getD j .non) (L.getD j .non)):=λj h1 h2=>by
       have ρ:j < its.length:=by simpa using h1
       have π:j < its'.length:=by simpa using h2
       have ο:j < xs.length:=by omega
       have η:j < ν.length:=by omega
       have θ:j < ds.length:=by omega
       have δ:j < L.length:=by omega
       have φ:xs[j]? =ag (xs.getD j .non):=by rw[hB,c' ο];rfl
       have ε:ds[j]? =ag (ds.getD j .non):=by rw[hB,c' θ];rfl
       have χ:ν[j]? =ag (ν.getD j .non):=by rw[hB,c' η];rfl
       have υ:L[j]? =ag (L.getD j .non):=by rw[hB,c' δ];rfl
       have hn:n≠0:=by omega
       exact(ih j _ _ φ ε (n - 1) (r' j _ _ χ υ) (tz γ h1) (tz β h2) (by have:=E7 (hA ε);omega) (by show A.units + 1 + (n - 1) < cLine;omega)).1
      exact⟨RcAt.tuples pl O @A he,RcNeAt.tuples pl O @A he⟩
     rw[eqD];refine⟨?_,α⟩;by_cases ξ:p=ζ
     ·subst ξ;have e:Dt.tup ds=Dt.tup L:=(Rep.tup h l r).fun I (.tup h' ι r');have ψ:eqDs ds L=true:=by have:=HD e;rw[eqD] at this;exact this
      rw[ψ];exact Ss _
     ·exact T7 ξ α.1
end
noncomputable def rEqD (K:a') (neg:N1):R2:=λx y H Q=>∃d e,Rep K H x d/\Rep K H y e/\depD d<=100/\Q (.bl (if neg then !eqD d e else eqD d e)) H
section
variable {X:Cx} {K:a'}
theorem nZ (h:X.K=K) (hu:X.A.units + 100 < cLine):OpR X (compareOp .Eq) (rEqD K false):=by
 subst h;intro pins s σ H x y v u Q I O L h;obtain⟨d,e,Y,υ,hd,q⟩:=h;exact(rc_D I Y 100 υ O L hd hu).2.1 X.prog X.w X.xe _ ⟨.bl _,H,I,rfl,q⟩
theorem j9 (h:X.K=K) (hu:X.A.units + 100 < cLine):OpR X (compareOp .NotEq) (rEqD K true):=by
 subst h;intro pins s σ H x y v u Q I O L h;obtain⟨d,e,Y,υ,hd,q⟩:=h;exact(rc_D I Y 100 υ O L hd hu).2.2 X.prog X.w X.xe _ ⟨.bl _,H,I,rfl,q⟩
end
inductive Cf:St->Nat->ov V->St->Prop where
 | z {a v:ov V} {l:St}:Cf (a::l) 0 v (v::l)
 | s {a v:ov V} {l l':St} {i:Nat}:Cf l i v l'->Cf (a::l) (i + 1) v (a::l')
theorem Cf.eq {l L:St} {i:Nat} {v:ov V} (h:Cf l i v L):l.set i v=L:=by
 induction h with
 | z=>rfl
 | s _ ih=>rw[Sg,ih]
inductive Cg:St->Nat->V->Prop where
 | z {v:V} {l:St}:Cg (ag v::l) 0 v
 | s {a:ov V} {v:V} {l:St} {i:Nat}:Cg l i v->Cg (a::l) (i + 1) v
theorem Cg.eq {l:St} {i:Nat} {v:V} (h:Cg l i v):l[i]? =ag (ag v):=by
 induction h with
 | z=>rfl
 | s _ ih=>rw[RD];exact ih
section
variable {σ σ':St} {H:Hp} {Q:VK} {D:Ends} {ta tb tc te:TE} {t u:TS} {tt tt':TT} {r r':R2} {x y v:V}
theorem aN {N:A6} {vs:cc V} {t:TS} (e:start N vs=σ') (h:t D σ' H):t D (start N vs) H:=by rw[e];exact h
theorem Mg {i:Nat} (e:Cg σ i v) (h:Q v H):tVar i σ H Q:=⟨v,e.eq,h⟩
theorem s_rI {C:Int->Int->Prop} {g:Int->Int->V} {i j:Int} (c:C i j) (h:Q (g i j) H):rI C g (.int i) (.int j) H Q:=⟨i,j,rfl,rfl,c,h⟩
theorem Mn {g:Int->Int->V} {i j:Int} (h:Q (g i j) H):rI0 g (.int i) (.int j) H Q:=⟨i,j,rfl,rfl,h⟩
theorem Mo (e:scal x y=true) (h:Q (.bl (decide (x=y))) H):rEq x y H Q:=⟨e,h⟩
theorem Mm (e:scal x y=true) (h:Q (.bl (!decide (x=y))) H):rNe x y H Q:=⟨e,h⟩
theorem Ko (h:D.nx σ H):Kb D σ H:=h
theorem IH {i:Nat} {Q:St->Hp->Prop} (e:Cf σ i (ag v) σ') (h:Q σ' H):ES i v σ H Q:=by show Q (σ.set i (ag v)) H;rw[e.eq];exact h
theorem Kz {Q:St->Hp->Prop} (h:Q σ H):gNil [] σ H Q:=⟨rfl,h⟩
theorem II {g:TG} {L:TGs} {vs:cc V} {Q:St->Hp->Prop} (h:g v σ H fun σ' H'=>L vs σ' H' Q):JA g L (v::vs) σ H Q:=⟨v,vs,rfl,h⟩
theorem Ky {K:a'} {n:Nat} {L:TGs} {p:eH} {xs:cc V} {Q:St->Hp->Prop} (e:SqT K H p xs) (l:xs.length=n) (h:L xs σ H Q):gTup K n L (.ref p) σ H Q:=⟨p,xs,rfl,e,l,h⟩
def NewT (Q:VK) (xs:cc V) (H:Hp):Prop:=xs.length<=jF/\∀p,H p=gs->Q (.ref p) (upd H p (.tup xs))
def NewL (Q:VK) (xs:cc V) (H:Hp):Prop:=xs.length<=jF/\∀p,H p=gs->Q (.ref p) (upd H p (.lst xs))
theorem Mh {tr:TA} (h:tr σ H (NewT Q)):tTup tr σ H Q:=h
theorem Mp {tr:TA} (h:tr σ H (NewL Q)):tLst tr σ H Q:=h
theorem bA {H:Hp} {D:eH} {o:HO} (h:H D=gs):Same H (upd H D o):=λb u e=>by rw[ar (ao e h)];exact e
theorem fk {o:HO} (h:∀p H2,H p=gs->Same H H2->H2 p=ag o->Q (.ref p) H2):∀p,H p=gs->Q (.ref p) (upd H p o):=λp L=>h p _ L (bA L) au
theorem Same.get {H H':Hp} (e:Same H H') {b:eH} {o:HO} (h:H b=ag o):H' b=ag o:=e b o h
theorem Kp {xs:cc V} (l:xs.length<=jF) (h:∀p H2,H p=gs->Same H H2->H2 p=ag (.tup xs)->Q (.ref p) H2):NewT Q xs H:=⟨l,fk h⟩
theorem Hq {xs:cc V} (l:xs.length<=jF) (h:∀p H2,H p=gs->Same H H2->H2 p=ag (.lst xs)->Q (.ref p) H2):NewL Q xs H:=⟨l,fk h⟩
theorem IM {sp:Sp} {E:XK} {tr:TA} (h:tr σ H λvs H1=>sp vs H1 Q E):CU sp [] E tr σ H Q:=by unfold CU;simp only[z5];exact h
theorem Mj {K:a'} {p:eH} {xs:cc V} {lo hi:ov Int} (e:SqL K H p xs) (h:∀q H2,H q=gs->Same H H2->H2 q=ag (.lst (cutV xs lo hi))->Q (.ref q) H2):rSlL K (.ref p) lo hi H Q:=⟨p,xs,rfl,e,fk h⟩
theorem Mi {z:ic} {lo hi:ov Int} (e:z.length<=jF) (h:Q (.str (Qg z lo hi)) H):rSlS (.str z) lo hi H Q:=⟨z,rfl,e,h⟩
theorem Gm {K:a'} {p:eH} {xs:cc V} {i:Int} (e:SqL K H p xs) (a:atI xs i=ag v) (h:Q v H):rIxL K (.ref p) (.int i) H Q:=⟨p,xs,i,v,rfl,rfl,e,a,h⟩
theorem Mq {K:a'} {p:eH} {xs:cc V} {i:Int} (e:SqT K H p xs) (a:atI xs i=ag v) (h:Q v H):rIxT K (.ref p) (.int i) H Q:=⟨p,xs,i,v,rfl,rfl,e,a,h⟩
theorem Gk {z:ic} {i:Int} {c:Nat} (e:z.length<=jF) (a:atI z.cps.toList i=ag c) (h:Q (.str ⟨#[c]⟩) H):rIxS (.str z) (.int i) H Q:=⟨z,i,c,rfl,rfl,e,a,h⟩
theorem xU {n:Nat} (h:n<=1000):n<=sizeLine:=Pj (bG h)
theorem lZ {K:a'} {neg:N1} {d e:Dt} (L:Rep K H x d) (υ:Rep K H y e) (hd:depD d<=100) (h:Q (.bl (if neg then !eqD d e else eqD d e)) H):rEqD K neg x y H Q:=⟨d,e,L,υ,hd,h⟩
theorem s_ty {K:a'} {T:Np} {A:Prop} (e:tyV K T x H) (h:A):tyV K T x H/\A:=⟨e,h⟩
theorem oH {K:a'} {z:ic} {p:eH} {ys:A6} (e:SqL K H p (ys.map V.str)) (l:(ys.map (·.length)).sum + ys.length * z.length<=16777216) (h:Q (.str (OZ z ys)) H):KN K (.str z) [.ref p] H Q:=⟨z,p,ys,rfl,rfl,e,l,h⟩
theorem Kv {K:a'} {p:eH} {xs:cc V} (e:SqL K H p xs) (h:Q (.int xs.length) H):rLen K [.ref p] H Q:=⟨_,_,rfl,.inl ⟨xs,e,rfl⟩,h⟩
theorem Kt {K:a'} {p:eH} {xs:cc V} (e:SqT K H p xs) (h:Q (.int xs.length) H):rLen K [.ref p] H Q:=⟨_,_,rfl,.inr ⟨xs,e,rfl⟩,h⟩
theorem Ku {K:a'} {z:ic} (e:z.length<=jF) (h:Q (.int z.length) H):rLen K [.str z] H Q:=⟨_,_,rfl,⟨e,rfl⟩,h⟩
theorem Mr {K:a'} {T k:Np} (e:r8 K H x k) (m:T∈["int","bool","str","list","tuple","dict"]) (h:Q (.bl (subB k T)) H):rIsi K [x,.ty T] H Q:=⟨x,k,T,rfl,e,m,h⟩
theorem KC (h:∀p H2,H p=gs->Same H H2->H2 p=ag (.dK [])->Q (.ref p) H2):Hm σ H Q:=fk h
theorem Mt {ζ:TI} {g:TG} {tb:TS} (h:ζ σ H λJ H1=>∃W:Nat->Nat->St->Hp->Prop,(∃m,W 0 m σ H1)/\∀i m σ H,W i m σ H->(J.stop i H/\D.nx σ H)∨(J.go i H/\∃N:St->Hp->Prop,(∀σ' H',N σ' H'->∃η,η < m/\W (i + 1) η σ' H')/\∀x H',J.yld i H x H'->g x σ H' λL H2=>tb {D with nx:=N,ct:=N,bk:=D.nx} L H2)):tFor ζ g tb D σ H:=h
theorem Mf {Q:N1->Hp->Prop} (h:Q true H):tYes σ H Q:=h
theorem Kl {A B:Prop} (h:A):if true=true then A else B:=by rw[kn rfl];exact h
theorem IJ {A B:Prop} (h:B):if false=true then A else B:=by rw[hQ hV];exact h
theorem eh {c:N1} {A B:Prop} (e:c=true) (h:A):if c=true then A else B:=by rw[kn e];exact h
theorem eA {c:N1} {A B:Prop} (e:c=false) (h:B):if c=true then A else B:=by rw[e,hQ hV];exact h
theorem KF {n:Nat} {fx:A'} {ζ:TI} {g:TG} (h:ζ σ H λJ H1=>∀D,H1 D=gs->
 ∃W:Nat->Nat->cc V->Hp->Prop,(∃m,W 0 m [] (upd H1 D (.lst [])))/\∀i m ys H2,W i m ys H2->(J.stop i H2/\Q (.ref D) H2)∨
   (J.go i H2/\∃N:cc V->Hp->Prop,(∀L H',N L H'->∃η,η < m/\W (i + 1) η L H')/\∀x Y,J.yld i H2 x Y->g x (dF n fx σ) Y fun β Z=>tt β Z λb O=>
    if b=true then te β O λv H6=>H6 D=ag (.lst ys)/\ys.length < jF/\N (ys++[v]) (upd H6 D (.lst (ys++[v]))) else N ys O)):FZ n fx ζ g tt te σ H Q:=h
theorem Ht {K:a'} {p:eH} {bs:cc N1} (e:SqL K H p (bs.map V.bl)) (h:Q (.bl (bs.all id)) H):KP K [.ref p] H Q:=⟨p,bs,rfl,e,h⟩
theorem Hs {K:a'} {p:eH} {bs:cc N1} (e:SqL K H p (bs.map V.bl)) (h:Q (.bl (bs.any id)) H):KO K [.ref p] H Q:=⟨p,bs,rfl,e,h⟩
theorem Gr {j:Int} {A:Prop} (h1: -(2 ^ 62)<=j) (h2:j < 2 ^ 62) (h:A): -(2 ^ 62)<=j/\j < 2 ^ 62/\A:=⟨h1,h2,h⟩
end
noncomputable def tCut (t u:TS):TS:=λD σ H=>∃P:St->Hp->Prop,t {D with nx:=P} σ H/\∀σ' H',P σ' H'->u D σ' H'
theorem nW {X:Cx} {st:OE} {rest:cc OE} {t u:TS} (h1:PS X st t) (h2:PSs X rest u):PSs X (st::rest) (tCut t u):=by
 intro pins s σ H D I ⟨P,a,b⟩;refine Rf (thn (h1 pins s σ H {D with nx:=P} I a) λf L q=>?_);cases f with
 | next=>obtain⟨α,H1,O,Y⟩:=q;exact h2 pins L α H1 D O (b α H1 Y)
 | brk=>exact q
 | cont=>exact q
 | ret v=>exact q
theorem s_cut {t u:TS} {D:Ends} {σ:St} {H:Hp} (P:St->Hp->Prop) (h:t {D with nx:=P} σ H) (k:∀σ' H',P σ' H'->u D σ' H'):tCut t u D σ H:=⟨P,h,k⟩
section
variable {K:a'} {n:Nat} {fx:A'} {g:TG} {tc:TT} {te:TE} {σ:St} {H1:Hp} {D:eH} {Q:Hp->Prop}
structure Cs (Pv:Nat->cc V->Prop) (H1:Hp) (D:eH) (i:Nat) (ys:cc V) (H:Hp):Prop where
 pv:Pv i ys
 same:Same H1 H
 at':H D=ag (.lst ys)
 len:ys.length<=i
theorem Cs.put {L:Nat->cc V->Prop} {i:Nat} {ys:cc V} {v:V} {H6:Hp} (f:H1 D=gs) (s:Same H1 H6) (e:H6 D=ag (.lst ys)) (l:ys.length<=i) (hi:i < 16777216) (p:L (i + 1) (ys++[v])):
  H6 D=ag (.lst ys)/\ys.length < jF/\Cs L H1 D (i + 1) (ys++[v]) (upd H6 D (.lst (ys++[v]))):=
 ⟨e,by rw[hJ];omega,p,λb o h=>by rw[ar (ao h f)];exact s b o h,au,by rw[hE];simpa using l⟩
theorem Cs.skip {L:Nat->cc V->Prop} {i:Nat} {ys:cc V} {H6:Hp} (s:Same H1 H6) (e:H6 D=ag (.lst ys)) (l:ys.length<=i) (p:L (i + 1) ys):Cs L H1 D (i + 1) ys H6:=⟨p,s,e,@A⟩
theorem Cs.zero {L:Nat->cc V->Prop} (f:H1 D=gs) (p:L 0 []):Cs L H1 D 0 [] (upd H1 D (.lst [])):=⟨p,bA f,au,qb _⟩
end
structure HR (K:a') (C:eH) (m:ic) (f:eH):Prop where
 ga:Oe K (.ref C) "__getattribute__"=ag (ag (.builtin "type.__getattribute__"))
 rd:Sd K C (.type "type")=true
 fd:Sf K (.ref C) (.type "type") m=ag (.val (.ref f))
 hd:Po (.ref f)=true
 kp:Nv K (.ref f)=true
section
variable {X:Cx} {CX:CXT} {k:Nat} {f C:eH} {fd:lM} {ps:A6} {sp:Sp} {dvs:cc V} {ds:CB} {E:XK} {x m:ic} {p pos apos:Pos} {e o:z3} {es:cc z3} {ta:TE} {t:TA}
theorem p5 {pl:Sem N1} (α:Gl X x) (hx:X.mg x=ag (.ref C)) (c:HR X.K C m f) (F:FnOk X.prog X.w X.K X.mg X.base CX k f fd ps sp) (hr:Room k X.A) (hb:my X.K fd ps ds) (hd:Vals dvs ds) (L:nM CX X E) (ha:PA X (e::es) t)
  (ω:(x == ("__debug__":ic))=false:=by decide) (ι:oD (e::es) X.env=(false,eval e X.env)::oD es X.env:=by rfl) (O:(backTo pos (oD es X.env)).any (·.1)=false:=by rfl)
  (Z:eval (.Call (.Attribute (.Name x p) m apos) (e::es) [] pos) X.env=(do
   let Y <-eval (.Name x p) X.env
   standAt apos.atName
   let (f,first) <-holding [Y] (getMethod Y m pl)
   callWith pos f first (backTo pos (oD (e::es) X.env)) (backToKw pos (keywordEach [] X.env))):=by rfl):
  PE X (.Call (.Attribute (.Name x p) m apos) (e::es) [] pos) (CU sp dvs E t):=by
 intro pins s σ H Q I h;refine PD (pl:=pl) (h9 I α hx ?_ ω) Z;refine RQ I.kIn c.ga (S0 I.kIn c.rd c.fd c.hd ?_);have I1:=I.tok (s.toks + 1);refine O6 (first:=[]) (h₀:=X.base) I1.ok.mod.kin c.kp (thn (ha pos pins _ σ H _ I1 h) λus β ⟨vs,H2,I2,r,φ⟩=>⟨I2.kIn,?_⟩) ι O;exact DA (us:=us) (vs:=vs) F hr hb hd L I2 r φ
end
structure MQ (K:a') (D:eH):Prop where
 cls:Cls K D
 ha:wq K (.ref D) "__class__"=ag (ag (.builtin "object.__class__"))
 hn:Oe K (.builtin "object.__class__") "__get__"=ag (ag (.builtin "getset_descriptor.__get__"))
 tk:QM K (.builtin "object.__class__")=ag true
 hm:MZ K D (.type "object")=ag true
section
variable {X:Cx} {K:a'}
theorem fP {e:z3} {ta:TE} {f:ic} {pos:Pos} (h:X.K=K) (he:PE X e ta) (hb:attributeBase e f X.env (eval e X.env)=eval e X.env):PE X (.Attribute e f pos) (tFld K ta f):=by subst h;exact K3 he hb
theorem g7 {o value:z3} {ta tv:TE} {f:ic} {pos pos':Pos} (h:X.K=K) (ha:PE X o ta) (hv:PE X value tv) (hs:swapsWith value (ag (.Attribute o f pos')) pos.line X.env=pure false):PS X (.Assign [.Attribute o f pos'] value pos) (sFld K ta tv f):=by subst h;exact KW ha hv hs
end
section
variable {σ:St} {H:Hp} {Q:VK} {D:Ends} {te tv ta:TE} {x y v:V}
def JR (K:a') (f:ic) (Q:VK) (x:V) (H:Hp):Prop:=∃a C dx fs v,x= .ref a/\H a=ag (.ins C dx fs)/\Cls K C/\bH K C f/\fs.lookup f=ag v/\Q v H
theorem Mu {K:a'} {f:ic} (h:te σ H (JR K f Q)):tFld K te f σ H Q:=h
theorem dR {K:a'} {f:ic} {p C dx:eH} {fs:cc (ic×V)} (e:H p=ag (.ins C dx fs)) (c:Cls K C) (n:bH K C f) (l:fs.lookup f=ag v) (h:Q v H):JR K f Q (.ref p) H:=⟨p,C,dx,fs,v,rfl,e,c,n,l,h⟩
structure Upd (H H':Hp) (p:eH) (o:HO):Prop where
 at':H' p=ag o
 oth:∀b u,b≠p->H b=ag u->H' b=ag u
 non:∀b,b≠p->H b=gs->H' b=gs
theorem Upd.of {H:Hp} {p:eH} {o:HO}:Upd H (upd H p o) p o:=⟨au,λb u n h=>by rw[ar n];exact h,λb n h=>by rw[ar n];exact h⟩
def LR (K:a') (f:ic) (y:V) (D:Ends) (σ:St) (x:V) (H:Hp):Prop:=∃a C dx fs,x= .ref a/\H a=ag (.ins C dx fs)/\Cls K C/\bH K C f/\fs.length < 1000/\D.nx σ (upd H a (.ins C dx (putF f y fs)))
theorem Gh {K:a'} {f:ic} (h:tv σ H λy H1=>te σ H1 (LR K f y D σ)):sFld K te tv f D σ H:=h
theorem gX {K:a'} {f:ic} {p C dx:eH} {fs fs':cc (ic×V)} (e:H p=ag (.ins C dx fs)) (c:Cls K C) (n:bH K C f) (l:fs.length < 1000) (L:putF f y fs=fs') (h:∀H2,Upd H H2 p (.ins C dx fs')->D.nx σ H2):
  LR K f y D σ (.ref p) H:=⟨p,C,dx,fs,rfl,e,c,n,l,by rw[L];exact h _ Upd.of⟩
def HL (C:eH) (sp:Sp) (E:XK) (Q:VK) (vs:cc V) (H:Hp):Prop:=∀x dx,H x=gs->H dx=gs->dx≠x->sp (.ref x::(vs++[])) (upd (upd H dx (.own x)) x (.ins C dx [])) (λv H2=>v= .non/\Q (.ref x) H2) E
theorem Kr {C:eH} {sp:Sp} {E:XK} {tr:TA} (h:tr σ H (HL C sp E Q)):Kd C sp [] E tr σ H Q:=h
theorem Gj {C:eH} {sp:Sp} {E:XK} {vs:cc V} (h:∀x dx H2,H x=gs->Same H H2->H2 x=ag (.ins C dx [])->sp (.ref x::vs) H2 (λv H2=>v= .non/\Q (.ref x) H2) E):HL C sp E Q vs H:=by
 intro x dx L O n;rw[z5];exact h x dx _ L (λb o e=>by rw[ar (ao e L),ar (ao e O)];exact e) au
theorem Upd.same {L H2:Hp} {p:eH} {o:HO} (u:Upd H H2 p o) (f:L p=gs) (s:Same L H):Same L H2:=λb q e=>u.oth b q (ao e f) (s b q e)
theorem Upd.trans {H2 L:Hp} {p:eH} {o o':HO} (u:Upd H H2 p o) (w:Upd H2 L p o'):Upd H L p o':=⟨w.at',λb q n e=>w.oth b q n (u.oth b q n e),λb n e=>w.non b n (u.non b n e)⟩
end
theorem Inv.laidCh {X:Cx} {pins:B'} {σ:St} {H:Hp} {s:hN} {h':MT} {a:eH} {o:HO} {t':Nat} {ch:D'} (I:Inv X pins σ H s) (k:∀b u,b∉ch->s.heap.get? b=ag u->h'.get? b=ag u) (α:s.heap.objs.size<=a)
  (new:eB X.prog X.w (upd H a o) h' a o) (fp:∀b∈ch,FpOk X pins H b):Inv X pins σ (upd H a o) {s with heap:=h',toks:=t'}:=by
 have fr:H a=none:=I.hok.fresh α;have Z:∀b u,H b=ag u->b∉ch:=λb u e z=>by rw[(fp b z).1] at e;cases e
 refine I.step (g':=s.gens) (d':=s.drawn) (ch:=ch) (λb hb=>?_) (λb ob _ _ Y e _=>k b ob Y e) (λb ob _ _ Y e _=>⟨ob.slots,k b ob Y e⟩) (λb ob _ e n=>?_) (λb ob Y e=>⟨ob,k b ob Y e⟩)
  (λb xs e=>by rw[ar (ao e fr)];exact e) (λb ob u e=>by rw[ar (ao e fr)];exact e) (λb ps e=>⟨#[],by rw[ar (ao e fr),e];simp⟩) (λm hm=>?_) (λb u e=>?_) I.bare
 ·obtain⟨O,β,δ,L,ξ,ν⟩:=fp b hb;exact⟨L,β,ξ,ν⟩
 ·rw[ar (y2 (uj (hL e) α))];exact n
 ·obtain⟨ob,es,γ,ho,r⟩:=hm;exact⟨ob,es,γ,k _ ob (λz=>(fp _ z).2.1 rfl) ho,r⟩
 ·by_cases hb:b=a
  ·subst hb;rw[au] at e;cases e;exact new
  ·rw[ar hb] at e;refine(I.hok b u e).stay (λc v Y q=>k c v ?_ q) (λc q=>by rw[ar (ao q fr)];exact q) λc xs q=>by rw[ar (ao q fr)];exact q
   rcases Y with z | z
   ·rw[z];exact Z b u e
   ·exact Z c _ z
theorem Inv.turnedCh {X:Cx} {pins:B'} {σ:St} {H:Hp} {s:hN} {h':MT} {t':Nat} {ch:D'} (I:Inv X pins σ H s) (k:∀b u,b∉ch->s.heap.get? b=ag u->h'.get? b=ag u)
  (fp:∀b∈ch,FpOk X pins H b):Inv X pins σ H {s with heap:=h',toks:=t'}:=by
 have Z:∀b u,H b=ag u->b∉ch:=λb u e z=>by rw[(fp b z).1] at e;cases e
 refine I.step (g':=s.gens) (d':=s.drawn) (ch:=ch) (λb hb=>?_) (λb ob _ _ Y e _=>k b ob Y e) (λb ob _ _ Y e _=>⟨ob.slots,k b ob Y e⟩) (λb ob _ e n=>n) (λb ob Y e=>⟨ob,k b ob Y e⟩)
  (λb xs e=>e) (λb ob u e=>e) (λb ps e=>⟨#[],by rw[e];simp⟩) (λm hm=>?_) (λb u e=>?_) I.bare
 ·obtain⟨O,α,γ,L,ξ,ν⟩:=fp b hb;exact⟨L,α,ξ,ν⟩
 ·obtain⟨ob,es,β,ho,r⟩:=hm;exact⟨ob,es,β,k _ ob (λz=>(fp _ z).2.1 rfl) ho,r⟩
 ·refine(I.hok b u e).stay (λc v Y q=>k c v ?_ q) (λc q=>q) λc xs q=>q;rcases Y with z | z
  ·rw[z];exact Z b u e
  ·exact Z c _ z
noncomputable def Ite (K:a') (a:eH):It:=
 ⟨λi H=>∃xs x,SqL K H a xs/\xs[i]? =ag x,λi H x H'=>∃p v,H p=gs/\x= .ref p/\H'=upd H p (.tup [.int i,v])/\∀xs,SqL K H a xs->xs[i]? =ag v,λi H=>∃xs,SqL K H a xs/\xs.length=i⟩
noncomputable def Itz (x:ic):It:=⟨λi _=>i < x.cps.size,λi H v H'=>∃p c,H p=gs/\v= .ref p/\H'=upd H p (.tup [.int i,.str ⟨#[c]⟩])/\x.cps[i]? =ag c,λi _=>i=x.cps.size⟩
theorem yH:(2:Nat)<=sizeLine:=by rw[hJ];decide
theorem sx {P:ry} {w:zt} {K:a'} {β:cc z3} {k:Nat} {pos:Pos} (a e α:eH) (O:e≠α):
  Turn P w K (.Tuple β k pos) (Ite K a) [e,α] e (λi h=>(∃Y,IsEnum h e α i Y)/\h.IsListIter α a i) where
 mem:=by simp
 obj:=λi h st b hb=>by
  obtain⟨⟨Y,he⟩,⟨o,ho,ν,hd⟩⟩:=st;rcases v9.mp hb with z | z
  ·subst z;exact⟨_,he,λv z=>by cases z⟩
  ·rw[hC.mp z];exact⟨o,ho,λv z=>by rw[hd] at z;cases z⟩
 keep:=λi h h' st k=>⟨let ⟨Y,he⟩:=st.1;⟨Y,k e @F _ he⟩,st.2.at λo z=>k α @F o z⟩
 item:=by
  intro X hP ω η ν i pins s σ H E I hf st hg;subst hP ω η;obtain⟨xs,x,θ,ζ⟩:=hg;obtain⟨its,rv,p,hz⟩:=I.list θ;obtain⟨⟨Y,he⟩,hl⟩:=st
  have ξ:a≠α:=λz=>by
   obtain⟨o,ho,ι,_⟩:=hl;obtain⟨o',n,L,χ,_⟩:=p;rw[z,ho] at L;cases L;rw[ι] at χ;exact ik χ @C
  have ο:a≠e:=λz=>by
   obtain⟨o',n,L,χ,_⟩:=p;rw[z,he] at L;cases L;exact ik (show OF "enumerate"= .type "list" from χ) @C
  have W:=Og (prog:=X.prog) (w:=X.w) (A:=X.A) (Draws.list (A:=X.A.in1) (I.ok.hd ν) α a ξ its.toArray) e O (by simp[O,J5 ο]) @F;have hi:i < its.toArray.size:=by have:=rv.length;have:=(b'.mp ζ).1;simp;omega
  refine W.item i s _ _ hi ⟨⟨Y,he⟩,hl,p.isList⟩ λT a2 h' tk ρ hT γ φ hk=>⟨_,rfl,W.go β k pos i T _ _ _ φ λa1 δ ε=>?_⟩;obtain⟨t,υ,ψ,rfl⟩:=ρ;have a0:=W.apart i T h' φ
  have τ:RelV x υ:=by
   obtain⟨u,Z,r⟩:=rv.get ζ;have π:its[i]? =ag υ:=by simpa using ψ
   rw[Z] at π;cases π;exact r
  have kk:∀b u,b∉[e,α]->s.heap.get? b=ag u->a1.get? b=ag u:=λb u hb q=>ε b u hb (hk b u hb q);have fr:H T=none:=I.hok.fresh hT;refine⟨.ref T,upd H T (.tup [.int i,x]),I.laidCh (t':=tk) kk hT ⟨yH,[.int i t,υ],.cons ⟨t,rfl⟩ (.cons τ .nil),?_⟩ hf,rfl,⟨T,x,fr,rfl,rfl,λys hy=>by rw[I.list_inj hy θ];exact ζ⟩,⟨δ.1,δ.2.1⟩,λb hb=>?_⟩
  ·obtain⟨o,ho,r⟩:=γ;exact⟨o,ε T o a0 ho,r⟩
  ·have fb:=(hf b hb);rw[ar (λz=>?_)]
   ·exact fb.1
   ·have lt:b < s.heap.objs.size:=by
     rcases v9.mp hb with z | z
     ·subst z;exact hL he
     ·rw[hC.mp z];obtain⟨o,ho,_⟩:=hl;exact hL ho
    rw[z] at lt;exact ik (uj lt hT) (NS _)
 done:=by
  intro X hP ω η ν i pins s σ H E I hf st hg;subst hP ω η;obtain⟨xs,θ,ζ⟩:=hg;obtain⟨its,rv,p,hz⟩:=I.list θ;obtain⟨⟨Y,he⟩,hl⟩:=st
  have ξ:a≠α:=λz=>by
   obtain⟨o,ho,ι,_⟩:=hl;obtain⟨o',n,L,χ,_⟩:=p;rw[z,ho] at L;cases L;rw[ι] at χ;exact ik χ @C
  have ο:a≠e:=λz=>by
   obtain⟨o',n,L,χ,_⟩:=p;rw[z,he] at L;cases L;exact ik (show OF "enumerate"= .type "list" from χ) @C
  have W:=Og (prog:=X.prog) (w:=X.w) (A:=X.A) (Draws.list (A:=X.A.in1) (I.ok.hd ν) α a ξ its.toArray) e O (by simp[O,J5 ο]) @F;have hn:its.toArray.size=i:=by have:=rv.length;simp;omega
  subst hn;exact W.done s _ _ ⟨⟨Y,he⟩,hl,p.isList⟩ λh' tk hk=>⟨rfl,I.turnedCh hk hf⟩
 self:=λ_ _ _ _ _ st h=>let ⟨_,he⟩:=st.1;O1 he h
theorem zN {P:ry} {w:zt} {K:a'} {β:cc z3} {k:Nat} {pos:Pos} {x:ic} {t:Tok} {n:Np} (e α:eH) (O:e≠α)
  (D:∀A:zx,A.handled=gs->Draws P w A α [α] x.cps.size (λi v=>∃c u,x.cps[i]? =ag c/\v= .str ⟨#[c]⟩ u) (λi h=>h.IsStrIter α n x t i)):
  Turn P w K (.Tuple β k pos) (Itz x) [e,α] e (λi h=>(∃L,IsEnum h e α i L)/\h.IsStrIter α n x t i) where
 mem:=by simp
 obj:=λi h st b hb=>by
  obtain⟨⟨L,he⟩,⟨o,ho,ζ,hd⟩⟩:=st;rcases v9.mp hb with z | z
  ·subst z;exact⟨_,he,λv z=>by cases z⟩
  ·rw[hC.mp z];exact⟨o,ho,λv z=>by rw[hd] at z;cases z⟩
 keep:=λi h h' st k=>⟨let ⟨L,he⟩:=st.1;⟨L,k e @F _ he⟩,let ⟨o,ho,r⟩:=st.2;⟨o,k α @F o ho,r⟩⟩
 item:=by
  intro X ξ ν η ζ i pins s σ H E I hf st ε;subst ξ ν η;obtain⟨⟨L,he⟩,hl⟩:=st;have W:=Og (prog:=X.prog) (w:=X.w) (A:=X.A) (D X.A.in1 (I.ok.hd ζ)) e O (by simp[O]) @F;refine W.item i s _ _ ε ⟨⟨L,he⟩,hl⟩ λT τ h' tk ρ hT γ φ hk=>⟨_,rfl,W.go β k pos i T _ _ _ φ fun ο ι δ=>?_⟩;obtain⟨Y,χ,⟨c,u,θ,rfl⟩,rfl⟩:=ρ;have π:=W.apart i T h' φ;have υ:∀b u,b∉[e,α]->s.heap.get? b=ag u->ο.get? b=ag u:=λb u hb q=>δ b u hb (hk b u hb q);have fr:H T=none:=I.hok.fresh hT;refine⟨.ref T,upd H T (.tup [.int i,.str ⟨#[c]⟩]),I.laidCh (t':=tk) υ hT ⟨yH,[.int i Y,.str ⟨#[c]⟩ u],.cons ⟨Y,rfl⟩ (.cons ⟨u,rfl⟩ .nil),?_⟩ hf,rfl,⟨T,c,fr,rfl,rfl,θ⟩,⟨ι.1,ι.2⟩,λb hb=>?_⟩
  ·obtain⟨o,ho,r⟩:=γ;exact⟨o,δ T o π ho,r⟩
  ·have Z:=(hf b hb);rw[ar (λz=>?_)]
   ·exact Z.1
   ·have lt:b < s.heap.objs.size:=by
     rcases v9.mp hb with z | z
     ·subst z;exact hL he
     ·rw[hC.mp z];obtain⟨o,ho,_⟩:=hl;exact hL ho
    rw[z] at lt;exact ik (uj lt hT) (NS _)
 done:=by
  intro X ξ ν η ζ i pins s σ H E I hf st ε;subst ξ ν η;obtain⟨⟨L,he⟩,hl⟩:=st;have W:=Og (prog:=X.prog) (w:=X.w) (A:=X.A) (D X.A.in1 (I.ok.hd ζ)) e O (by simp[O]) @F;have ε:i=x.cps.size:=ε;subst ε;exact W.done s _ _ ⟨⟨L,he⟩,hl⟩ λh' tk hk=>⟨rfl,I.turnedCh hk hf⟩
 self:=λ_ _ _ _ _ st h=>let ⟨_,he⟩:=st.1;O1 he h
noncomputable def Ls (K:a') (tl:TE):TI:=fun σ H R=>tl σ H λx H1=>(∃a,x= .ref a/\(∃xs,SqL K H1 a xs)/\R (Ite K a) H1)∨∃z,x= .str z/\R (Itz z) H1
section
variable {X:Cx} {K:a'}
theorem IZ {l:z3} {tl:TE} {Y:cc z3} {k:Nat} {tpos p pos:Pos} (h:X.K=K) (δ:Gl X "enumerate") (hm:X.mg "enumerate"=gs) (hl:PE X l tl) (hs:oD [l] X.env=[(false,eval l X.env)]:=by rfl):
  PI X (.Tuple Y k tpos) (.Call (.Name "enumerate" p) [l] [] pos) (Ls K tl):=by
 subst h;intro pins s σ H R I h;refine SB (kh I δ hm boot_enumerate (N3 (thn (aa hl ae hs pos pins s σ H (λvs H1=>match vs with | [x]=>(∃a,x= .ref a/\(∃xs,SqL X.K H1 a xs)/\R (Ite X.K a) H1)∨∃z,x= .str z/\R (Itz z) H1 | _=>False) I h) λus L ⟨vs,H1,I1,Z,α⟩=>?_) hs rfl))
 match vs,Z,α with
 | [x],Z,α=>
 obtain⟨u,rfl,τ⟩:=Z.one;rcases α with ⟨a,rfl,⟨xs,γ⟩,q⟩ | ⟨z,rfl,q⟩
 ·cases τ;obtain⟨its,rv,pl,hz⟩:=I1.list γ;refine SO pl.isList λh' he ζ hsz hk=>O1 he ?_;refine⟨L.heap.objs.size + 1,[L.heap.objs.size + 1,L.heap.objs.size],_,_,H1,rfl,I1.kept (t':=L.toks) hk,sx a _ _ (P2 (NV _)),⟨⟨_,he⟩,ζ⟩,λb hb=>?_,q⟩;have O:L.heap.objs.size<=b:=(v9.mp hb).elim (λz=>by rw[z];exact Pa _) (λz=>by rw[hC.mp z];exact qb _);exact I1.fpOk O (I1.hok.fresh O)
 ·obtain⟨t,rfl⟩:=τ;refine call_enumerate_str λh' he ζ hsz hk=>O1 he ?_
  have fin:∀n,(h'.IsStrIter L.heap.objs.size n z t 0)->(∀A:zx,A.handled=gs->Draws X.prog X.w A L.heap.objs.size [L.heap.objs.size] z.cps.size (λi v=>∃c u,z.cps[i]? =ag c/\v= .str ⟨#[c]⟩ u) (λi h=>h.IsStrIter L.heap.objs.size n z t i))->
    PIE X pins σ (.Tuple Y k tpos) R (.ref (L.heap.objs.size + 1)) {L with heap:=h'}:=λn hn D=>by
   refine⟨L.heap.objs.size + 1,[L.heap.objs.size + 1,L.heap.objs.size],_,_,H1,rfl,I1.kept (t':=L.toks) hk,zN _ _ (P2 (NV _)) D,⟨⟨_,he⟩,hn⟩,λb hb=>?_,q⟩;have O:L.heap.objs.size<=b:=(v9.mp hb).elim (λz=>by rw[z];exact Pa _) (λz=>by rw[hC.mp z];exact qb _);exact I1.fpOk O (I1.hok.fresh O)
  unfold strIterType at ζ;split at ζ
  ·exact fin _ ζ λA β=>Draws.strAscii β _ z t
  ·exact fin _ ζ λA β=>Draws.strWide β _ z t
end
theorem um {K:a'} {a:eH} {xs:cc V} {g:TG} {tb:TS} {D:Ends} {σ:St} {H:Hp} (L:Nat->St->Hp->Prop) (α:L 0 σ H) (hl:∀i σ H,i<=xs.length->L i σ H->SqL K H a xs)
  (hs:∀i x σ H p H',xs[i]? =ag x->L i σ H->H p=gs->Same H H'->H' p=ag (.tup [.int i,x])->g (.ref p) σ H' λO H2=>tb {D with nx:=L (i + 1),ct:=L (i + 1),bk:=D.nx} O H2) (hd:∀σ H,L xs.length σ H->D.nx σ H):
  ∃W:Nat->Nat->St->Hp->Prop,(∃m,W 0 m σ H)/\∀i m σ H,W i m σ H->
    ((Ite K a).stop i H/\D.nx σ H)∨((Ite K a).go i H/\∃N:St->Hp->Prop,(∀σ' H',N σ' H'->∃η,η < m/\W (i + 1) η σ' H')/\∀x H',(Ite K a).yld i H x H'->g x σ H' λO H2=>tb {D with nx:=N,ct:=N,bk:=D.nx} O H2):=by
 refine⟨λi m σ H=>m=xs.length - i/\i<=xs.length/\L i σ H,⟨xs.length,@F,N2 _,α⟩,?_⟩;rintro i m σ H ⟨rfl,hi,p⟩;have q:=hl i σ H hi p;by_cases Y:i < xs.length
 ·refine .inr ⟨⟨xs,xs[i],q,by simp[Y]⟩,L (i + 1),fun σ' H' Z=>⟨xs.length - (i + 1),by omega,rfl,Y,Z⟩,λx H' y=>?_⟩;obtain⟨r,v,f,γ,β,y⟩:=y;subst γ β;exact hs i v σ H r _ (y xs q) p f (bA f) au
 ·have e:i=xs.length:=by omega
  subst e;exact .inl ⟨⟨xs,q,rfl⟩,hd σ H p⟩
section
variable {σ:St} {H:Hp} {te:TE} {R:It->Hp->Prop}
theorem IG {K:a'} (h:te σ H λx H1=>(∃a,x= .ref a/\(∃xs,SqL K H1 a xs)/\R (Ite K a) H1)∨∃z,x= .str z/\R (Itz z) H1):Ls K te σ H R:=h
end
noncomputable def Hv:V->cc V->Hp->VK->Prop:=λx xs H Q=>∃z y,x= .str z/\xs=[.str y]/\y.length≠0/\z.length + 2<=jF/\∀D,H D=gs->Q (.ref D) (upd H D (.lst ((M7 z y).map V.str)))
theorem pL:∀(L:A6) (n:Nat),Vals (L.map V.str) (strsFrom n L)
 | [],_=> .nil
 | x::r,n=> .cons ⟨n,rfl⟩ (pL r (n + 1))
section
variable {X:Cx}
theorem jy:MtR X "str.split" Hv:=by
 intro pins s σ H x xs v us Q I Y rs h;obtain⟨z,y,rfl,rfl,O,hz,q⟩:=h;obtain⟨t,rfl⟩:=Y;obtain⟨u,rfl,τ⟩:=rK rs;obtain⟨t',rfl⟩:=τ;have O:(y.length == 0)=false:=z4.mpr O;have Z:=split_le z y;have fr:=I.hok.fresh (qb s.heap.objs.size)
 have L:M7 z y=[z]->EP X pins σ Q (.ref s.heap.objs.size) {s with heap:=s.heap.push {cls:= .type "list",data:= .seq [Pt z t].toArray}}:=λe=>
  ⟨.ref s.heap.objs.size,_,I.laid (t':=s.toks) (o:= .lst ((M7 z y).map V.str)) (λb o e=>eW _ e) (qb _) ⟨by rw[ak];omega,[.str z t],0,by rw[e];exact .cons ⟨t,rfl⟩ .nil,kv _ rfl⟩,rfl,q _ fr⟩
 cases h1:(decide (z.length < y.length)||decide (Rb z < Rb y)) with
 | true=>exact O4 F.slot_str_split (P5 _ _ _) F.entry_str_split (F.args_str_split_2 _ _) (meets_str_split_cannot_occur z y t t' h1) (L (kn h1))
 | false=>
   cases hf:(NR z y 0 z.length (z.length + 1)).isEmpty with
   | true=>exact O4 F.slot_str_split (P5 _ _ _) F.entry_str_split (F.args_str_split_2 _ _) (meets_str_split_not_found z y t t' h1 O hf) (L ((hQ (Pl h1)).trans (kn hf)))
   | false=>
     have e:M7 z y=Builtin.Str.partsBetween z (NR z y 0 z.length (z.length + 1)) y.length:=(hQ (Pl h1)).trans (hQ (Pl hf));refine O4 F.slot_str_split (P5 _ _ _) F.entry_str_split (F.args_str_split_2 _ _) (meets_str_split_sep z y t t' h1 O hf @A (by rw[<-e];omega)) ?_;refine⟨.ref s.heap.objs.size,_,I.laid (λb o e=>eW _ e) (qb _) (o:= .lst ((M7 z y).map V.str)) ⟨by rw[ak];omega,_,0,?_,kv _ rfl⟩,rfl,q _ fr⟩;rw[e];exact pL _ _
end
section
variable {σ:St} {H:Hp} {Q:VK} {D:Ends} {te ty tv td:TE} {x y v:V}
theorem lY {z w:ic} (hw:w.length≠0) (hz:z.length + 2<=jF) (h:∀p H2,H p=gs->Same H H2->H2 p=ag (.lst ((M7 z w).map V.str))->Q (.ref p) H2):Hv (.str z) [.str w] H Q:=⟨z,w,rfl,rfl,hw,hz,fk h⟩
theorem gf {l:eH} {xs:cc V} (e:H l=ag (.lst xs)) (hz:xs.length < jF) (h:∀H2,Upd H H2 l (.lst (xs++[y]))->Q .non H2):DH (.ref l) [y] H Q:=⟨l,xs,y,rfl,rfl,e,hz,h _ Upd.of⟩
def HN (v:V) (x:V) (D:Ends) (σ:St) (y:V) (H:Hp):Prop:=∃a L,x= .ref a/\DPut H a y v L/\D.nx σ L
theorem KA (h:tv σ H λv H1=>td σ H1 λx H2=>ty σ H2 (HN v x D σ)):KH td ty tv D σ H:=h
theorem IK {p:eH} {L:cc (Key×V)} {z:ic} (e:H p=ag (.dK L)) (hl:L.length < jF) (h:∀H2,Upd H H2 p (.dK (putK L (n' z) v))->D.nx σ H2):HN v (.ref p) D σ (.str z) H:=⟨p,_,rfl,DPut.k (k:=n' z) e hl,h _ Upd.of⟩
def HQ (x:V) (Q:VK) (y:V) (H:Hp):Prop:=∃a v,x= .ref a/\DGet H a y (ag v)/\Q v H
theorem KD (h:td σ H λx H1=>ty σ H1 (HQ x Q)):Kg td ty σ H Q:=h
theorem ji {p:eH} {L:cc (Key×V)} {z:ic} (e:H p=ag (.dK L)) (l:valV L (n' z)=ag v) (h:Q v H):HQ (.ref p) Q (.str z) H:=⟨p,v,rfl,by rw[<-l];exact DGet.k (k:=n' z) e,h⟩
def HK (C:eH) (m:ic) (sp:Sp) (E:XK) (tr:TA) (σ:St) (Q:VK) (x:V) (H:Hp):Prop:=∃a dx fs,x= .ref a/\H a=ag (.ins C dx fs)/\fs.lookup m=gs/\tr σ H λvs H2=>sp (x::(vs++[])) H2 Q E
theorem Kq {C:eH} {m:ic} {sp:Sp} {E:XK} {tr:TA} (h:te σ H (HK C m sp E tr σ Q)):Kc C m sp [] E te tr σ H Q:=h
theorem gc {C dx p:eH} {m:ic} {fs:cc (ic×V)} {sp:Sp} {E:XK} {tr:TA} (e:H p=ag (.ins C dx fs)) (l:fs.lookup m=gs) (h:tr σ H λvs H2=>sp (.ref p::vs) H2 Q E):HK C m sp E tr σ Q (.ref p) H:=⟨p,dx,fs,rfl,e,l,by simp only[z5];exact h⟩
theorem IF {K:a'} {p:eH} {xs:cc V} (e:SqL K H p xs) (h:∀q H2,H q=gs->Same H H2->H2 q=ag (.lst xs)->Q (.ref q) H2):xA K [.ref p] H Q:=⟨p,xs,rfl,.inl e,fk h⟩
theorem IE {K:a'} {p:eH} {xs:cc V} (e:SqT K H p xs) (h:∀q H2,H q=gs->Same H H2->H2 q=ag (.lst xs)->Q (.ref q) H2):xA K [.ref p] H Q:=⟨p,xs,rfl,.inr e,fk h⟩
theorem Kk {K:a'} {p:eH} {xs:cc V} (e:SqL K H p xs) (h:∀q H2,H q=gs->Same H H2->H2 q=ag (.tup xs)->Q (.ref q) H2):DD K [.ref p] H Q:=⟨p,xs,rfl,.inl ⟨e,fk h⟩⟩
theorem Kj {K:a'} {p:eH} {xs:cc V} (e:SqT K H p xs) (h:Q (.ref p) H):DD K [.ref p] H Q:=⟨p,xs,rfl,.inr ⟨e,h⟩⟩
end
def Mv (ch fr:D') (h h':MT):Prop:=(∀b o,b∉ch->b∉fr->h.get? b=ag o->h'.get? b=ag o)/\∀b o,b∉ch->b∈fr->h.get? b=ag o->∃L,h'.get? b=ag {o with slots:=L}
def Cj (h:MT) (e:eH) (C:iv) (dx:Dn) (T:ov (eH×iv)):Prop:=
 ∃ο vs,h.get? e=ag ο/\ο.cls=C/\ο.dict=dx/\ο.data= .fields vs/\1 < vs.size/\
   match T with
   | none=>vs[1]? =ag .none
   | some (t,O)=>vs[1]? =ag (.ref t)/\t≠e/\∃L ts,h.get? t=ag L/\L.data= .fields ts/\ts[3]? =ag O
section
variable {M:Model} {A:zx} {E:B2} {s:hN}
theorem wk {h:MT} {a:eH} {o:Rk} {vs:CL} {i:Nat} {v:iv} (ho:h.get? a=ag o) (hd:o.data= .fields vs):
  ∃o',(h.update a (NZ (·.setIfInBounds i v))).get? a=ag o'/\o'.cls=o.cls/\o'.dict=o.dict/\o'.data= .fields (vs.setIfInBounds i v):=by
 have L:=QA hd (·.setIfInBounds i v);refine⟨_,NJ (NZ (·.setIfInBounds i v)) ho (S1 L),Sy _ _,?_,L⟩;obtain⟨c,d,O,Y⟩:=o;have hd:O= .fields vs:=hd;subst hd;rfl
theorem G2 {base:MT} {env:Env} {outer:cc Env} {L e:eH} {ο:Rk} {vs:CL} {α:iv} {b:N1} {Q:CN}
  (ζ:A.frames=ag (env::outer)) (hl:s.heap.FunFrames base (env::outer)) (hf:env.frame=ag L) (he:s.heap.get? e=ag ο) (hd:ο.data= .fields vs) (hsz:1 < vs.size)
  (h:∀h',Mv [e] (frs (env::outer)) s.heap h'->Cj h' e ο.cls ο.dict (ag (s.heap.objs.size,rawInt L))->Q () {s with heap:=h'}):
  ll M A (do let a <-frameOf env;let pl <-entryPlaceOf L b;let t <-PN α a .none (rawInt L) .none pl;setField (.ref e) 1 t) Q E s:=by
 have ne:e∉frs (env::outer):=λhm=>by
  obtain⟨_,o,ho,ε⟩:=hl.mem hm;rw[he] at ho;cases ho;exact ε vs hd
 refine fI (wpAny_frameOf_fun ζ hl hf λO γ=>?_);refine fI (wpAny_entryPlaceOf λpl Y=>?_);unfold PN newFields;refine fI (PL ?_ (Y.sizeOk5 _ _ _ _ _));have ι:O.get? e=ag ο:=(γ.2.1 e ne).trans he;have sz:O.objs.size=s.heap.objs.size:=γ.1;generalize Z:({cls:= .type "traceback",dict:=gs,data:= .fields ([α,.ref L,.none,rawInt L,.none]++(if pl.isEmpty then z1 6 ND else pl)).toArray}:Rk)=ob;have θ:(O.push ob).get? e=ag ο:=eW ob ι;refine OT θ hd hsz ?_;have lt:e < O.objs.size:=hL ι;obtain⟨o',ρ,φ,π,ξ⟩:=wk (i:=1) (v:= .ref O.objs.size) θ hd;have oth:∀c,c≠e->((O.push ob).update e (NZ (·.setIfInBounds 1 (sb O.objs.size)))).get? c=(O.push ob).get? c:=λc η=>NG _ _ (J5 η);have β:∀c o,c≠e->O.get? c=ag o->((O.push ob).update e (NZ (·.setIfInBounds 1 (sb O.objs.size)))).get? c=ag o:=λc o η q=>(oth c η).trans (eW ob q);refine h _ ⟨λc o n m q=>β c o (λz=>n (by rw[z];exact hC.mpr rfl)) ((γ.2.1 c m).trans q),λc o n m q=>?_⟩ ⟨o',_,ρ,φ,π,ξ,by simpa using hsz,?_⟩
 ·obtain⟨ν,δ⟩:=γ.2.2 c o q;exact⟨ν,β c _ (λz=>n (by rw[z];exact hC.mpr rfl)) δ⟩
 ·have nt:O.objs.size≠e:=P2 lt;refine⟨by rw[<-sz];simp[hsz],by rw[<-sz];exact nt,ob,_,?_,by rw[<-Z],?_⟩
  ·rw[<-sz,oth _ nt];exact kv O (by rw[<-Z];rfl)
  ·first | (simp;done) | (rcases Y with rfl | ⟨_,_,_,_,_,_,_,rfl⟩<;>simp)
theorem ET {e t:eH} {C:iv} {dx:Dn} {fl:iv} {fr:Dn} {Q:CN} (x:Cj s.heap e C dx (ag (t,fl)))
  (h:∀h',(∀b o,b≠t->s.heap.get? b=ag o->h'.get? b=ag o)->Cj h' e C dx (ag (t,fr.elim .none λf=>rawInt f))->Q () {s with heap:=h'}):ll M A (setFlight (.ref e) fr) Q E s:=by
 obtain⟨ο,vs,he,Y,O,hd,hsz,h1,L,ε,ts,hT,α,Z⟩:=x;unfold setFlight;refine fI (O0 he hd h1 ?_);rw[kn (show(sb t != ND)=true from by simp)];refine OT hT α (Nw.mp Z).1 ?_;obtain⟨o',γ,φ,δ,β⟩:=wk (i:=3) (v:=fr.elim .none λf=>rawInt f) hT α;have oth:∀c,c≠t->(s.heap.update t (NZ (·.setIfInBounds 3 (fr.elim ND λf=>rawInt f)))).get? c=s.heap.get? c:=λc Y=>NG _ _ (J5 Y);refine h _ (λb o hb q=>(oth b hb).trans q) ⟨ο,vs,(oth e (J5 L)).trans he,Y,O,hd,hsz,h1,L,o',_,γ,β,?_⟩;have:=(Nw.mp Z).1;simp[this]
end
section
variable {X:Cx} {pins:B'} {σ:St} {H:Hp} {s:hN}
theorem Inv.mv {h':MT} {ch:D'} (I:Inv X pins σ H s) (m:Mv ch (frs X.stack) s.heap h') (fp:∀b∈ch,FpOk X pins H b):Inv X pins σ H {s with heap:=h'}:=by
 have Z:∀b u,H b=ag u->b∉ch:=λb u e z=>by rw[(fp b z).1] at e;cases e
 have α:∀b u,H b=ag u->b∉frs X.stack:=λb u e z=>by rw[I.stkFree b z] at e;cases e
 have any:∀b o,b∉ch->s.heap.get? b=ag o->∃β,h'.get? b=ag {o with slots:=β}:=λb o n e=>by
  by_cases z:b∈frs X.stack
  ·exact m.2 b o n z e
  ·exact⟨o.slots,m.1 b o n z e⟩
 refine I.step (g':=s.gens) (d':=s.drawn) (t':=s.toks) (ch:=ch) (λb hb=>?_) (λb ob γ hb Y e _=>m.1 b ob Y (λz=>(v9.mp (I.stkSub b z)).elim γ hb) e) (λb ob _ _ Y e _=>any b ob Y e) (λb ob _ e n=>n) (λb ob Y e=>let ⟨β,q⟩:=any b ob Y e;⟨_,q⟩)
  (λb xs e=>e) (λb ob u e=>e) (λb ps e=>⟨#[],by rw[e];simp⟩) (fun η hm=>?_) (λb u e=>?_) I.bare
 ·obtain⟨O,δ,ζ,L,ξ,ν⟩:=fp b hb;exact⟨L,δ,ξ,ν⟩
 ·obtain⟨ob,es,ε,ho,r⟩:=hm;obtain⟨β,q⟩:=any _ ob (λz=>(fp _ z).2.1 rfl) ho;exact⟨_,es,ε,q,r⟩
 ·refine(I.hok b u e).stay (λc v Y q=>m.1 c v ?_ ?_ q) (λc q=>q) λc xs q=>q
  ·rcases Y with z | z
   ·rw[z];exact Z b u e
   ·exact Z c _ z
  ·rcases Y with z | z
   ·rw[z];exact α b u e
   ·exact α c _ z
theorem eB.there {P:ry} {w:zt} {h:MT} {a:eH} {o:HO} (x:eB P w H h a o):∃o',h.get? a=ag o':=by
 cases o with
 | lst xs=>obtain⟨_,_,_,_,e⟩:=x;exact⟨_,e⟩
 | tup xs=>obtain⟨_,_,_,_,e,_⟩:=x;exact⟨_,e⟩
 | dK L=>obtain⟨_,_,_,_,o,_,_,e,_⟩:=x;exact⟨_,e⟩
 | dT L=>obtain⟨_,_,_,_,o,_,_,e,_⟩:=x;exact⟨_,e⟩
 | set S n=>obtain⟨o,_,_,_,e,_⟩:=x;exact⟨_,e⟩
 | ins C dx fs=>obtain⟨_,_,_,e,_⟩:=x;exact⟨_,e⟩
 | own y=>obtain⟨_,e⟩:=x;exact⟨_,e⟩
 | xd fs=>obtain⟨_,⟨_,_,_,e,_⟩,_⟩:=x;exact⟨_,e⟩
 | rng lo hi=>obtain⟨_,_,_,e⟩:=x;exact⟨_,e⟩
 | frz ob u=>obtain⟨e,_⟩:=x;exact⟨_,e⟩
 | tbl ps=>exact⟨_,(show h.get? a=ag _ from x)⟩
 | met f y=>exact⟨_,(show h.get? a=ag _ from x)⟩
 | ext φ=>obtain⟨_,⟨_,e⟩,_⟩:=x;exact⟨_,e⟩
theorem HOk.none_ {P:ry} {w:zt} {h:MT} {a:eH} (x:HOk P w H h) (e:h.get? a=gs):H a=none:=by
 cases q:H a with
 | none=>rfl
 | some u=>obtain⟨o,z⟩:=(x a u q).there;rw[e] at z;cases z
def FpN (X:Cx) (pins:B') (H:Hp) (b:eH):Prop:=
 H b=gs/\b≠X.env.locals/\b∉X.fs/\(b∈X.ex∨X.s₀.heap.get? b=gs)/\(∀x c,X.env.cells.lookup x=ag c->c≠b)/\∀p∈X.pn++pins,p.1≠b
theorem FpOk.n {b:eH} (f:FpOk X pins H b):FpN X pins H b:=⟨f.1,f.2.1,f.2.2.1,f.2.2.2.1.imp id OY,f.2.2.2.2⟩
theorem Inv.fpN {H':Hp} {b:eH} (I:Inv X pins σ H s) (hb:s.heap.get? b=gs) (hn:H' b=gs):FpN X pins H' b:=by
 refine⟨hn,λz=>?_,λz=>?_,?_,λx c e z=>?_,λp O z=>?_⟩
 ·obtain⟨m,⟨o,es,Y,ho,r⟩,_⟩:=I.loc;rw[<-z,hb] at ho;cases ho
 ·obtain⟨_,o,ho,_⟩:=I.ok.funs.mem z;obtain⟨o',L⟩:=I.base.there b o ho λy=>I.ok.exfs b y z;rw[hb] at L;cases L
 ·by_cases z:b∈X.ex
  ·exact .inl z
  ·cases q:X.s₀.heap.get? b with
   | none=>exact .inr rfl
   | some o=>obtain⟨o',L⟩:=I.base.there b o q z;rw[hb] at L;cases L
 ·obtain⟨v,o,q,_⟩:=I.cell x c e;rw[z,hb] at q;cases q
 ·have:=(I.pin p O).1;rw[z,hb] at this;cases this
theorem Inv.mvN {h':MT} {ch:D'} (I:Inv X pins σ H s) (m:Mv ch (frs X.stack) s.heap h') (fp:∀b∈ch,FpN X pins H b):Inv X pins σ H {s with heap:=h'}:=by
 have out:∀b o,X.s₀.heap.get? b=ag o->b∉X.ex->b∉ch++X.ex:=λb o e n z=>by
  rcases lx.mp z with z | z
  ·rcases(fp b z).2.2.2.1 with y | y
   ·exact n y
   ·rw[e] at y;cases y
  ·exact n z
 have sub:∀b,b∉ch++X.ex->b∉X.ex:=λb n z=>n (p' _ z)
 have ok:Cx.Ok {X with ex:=ch++X.ex}:=⟨I.ok.mod,I.ok.kind,I.ok.glob,I.ok.blt,I.ok.above,I.ok.inj,I.ok.has,I.ok.cab,I.ok.hd,I.ok.frames,I.ok.stk,
  λb hb=>(lx.mp hb).elim (λz=>⟨(fp b z).2.1,(fp b z).2.2.2.2.1⟩) (I.ok.exf b),I.ok.bs,I.ok.bsz,λb o e=>out b o (I.ok.bs b o e).1 (I.ok.noex b o e),
  λb hb=>(lx.mp hb).elim (λz=>(fp b z).2.2.1) (I.ok.exfs b),I.ok.funs,I.ok.frf⟩
 have U:=I.base
 have J:Inv {X with ex:=ch++X.ex} pins σ H s:=⟨ok,I.os,I.bare,⟨λb o e n f z=>U.keep b o e n f (sub b z),λb o e n f z=>U.slot b o e n f (sub b z),λb o e n z=>U.free b o e n (sub b z),λb o e z=>U.there b o e (sub b z),U.tups,U.frzs,U.tbls⟩,
  I.loc,I.cell,I.free,I.freeC,I.pin,I.hok,I.len⟩
 have J':=J.mv (h':=h') (ch:=ch) m λb hb=>⟨(fp b hb).1,(fp b hb).2.1,(fp b hb).2.2.1,.inl (pT _ hb),(fp b hb).2.2.2.2⟩;have V:=J'.base
 exact⟨I.ok,J'.os,J'.bare,⟨λb o e n f z=>V.keep b o e n f (out b o e z),λb o e n f z=>V.slot b o e n f (out b o e z),λb o e n z=>V.free b o e n (out b o e z),λb o e z=>V.there b o e (out b o e z),V.tups,V.frzs,V.tbls⟩,
  J'.loc,J'.cell,J'.free,J'.freeC,J'.pin,J'.hok,J'.len⟩
structure Fly (X:Cx) (pins:B') (H:Hp) (e:eH) (C:iv) (dx:Dn) (T:ov (eH×iv)) (h:MT):Prop where
 at_:Cj h e C dx T
 fe:FpN X pins H e
 ft:∀t fl,T=ag (t,fl)->FpN X pins H t
def Own (X:Cx):Prop:=X.stack=X.env::X.outer/\X.env.frame=ag X.env.locals
theorem xN {M:Model} {E:B2} {e:eH} {C:iv} {dx:Dn} {T:ov (eH×iv)} {Q:CN} (I:Inv X pins σ H s) (ow:Own X) (f:Fly X pins H e C dx T s.heap)
  (h:∀h' t,Inv X pins σ H {s with heap:=h'}->Fly X pins H e C dx (ag (t,rawInt X.env.locals)) h'->Q () {s with heap:=h'}):ll M X.A (noteFrame (.ref e) X.env) Q E s:=by
 obtain⟨ho,hf⟩:=ow;have π:X.A.frames=ag (X.env::X.outer):=by rw[I.ok.frames,ho]
 have ι:s.heap.FunFrames X.base (X.env::X.outer):=by rw[<-ho];exact I.stack
 obtain⟨⟨ο,vs,he,θ,ε,hd,hsz,hT⟩,fe,ft⟩:=f
 have fin:∀(Y:hN) (O:Rk) (Z:CL) (η:iv) (υ:N1),Inv X pins σ H Y->Y.heap.objs.size=s.heap.objs.size->Y={s with heap:=Y.heap}->Y.heap.get? e=ag O->O.cls=C->O.dict=dx->O.data= .fields Z->1 < Z.size->
   ll M X.A (do let a <-frameOf X.env;let pl <-entryPlaceOf X.env.locals υ;let t <-PN η a .none (rawInt X.env.locals) .none pl;setField (.ref e) 1 t) Q E Y:=by
  intro Y O Z η υ I1 hz ξ q1 φ ω ψ δ;have β:Y.heap.FunFrames X.base (X.env::X.outer):=by rw[<-ho];exact I1.stack
  refine G2 π β hf q1 ψ δ λh' m x=>?_;have χ:Inv X pins σ H {Y with heap:=h'}:=I1.mvN (ch:=[e]) (by rw[ho];exact m) λb hb=>by rw[hC.mp hb];exact fe
  have e2:({Y with heap:=h'}:hN)={s with heap:=h'}:=by rw[ξ]
  rw[e2] at χ ⊢;rw[φ,ω] at x;exact h h' _ χ ⟨x,fe,λt τ z=>by cases z;exact(I1.fpOk (qb _) (I1.hok.fresh (qb _))).n⟩
 unfold noteFrame;simp only[hf];cases T with
 | none=>
   have h1:vs[1]? =ag .none:=hT;refine fI (O0 he hd h1 ?_);rw[hQ @C];exact fin s ο vs _ _ I rfl rfl he θ ε hd hsz
 | some p=>
   obtain⟨t,τ⟩:=p;obtain⟨h1,L,oT,ts,ζ,α,ρ⟩:=hT;refine fI (O0 he hd h1 ?_);rw[kn (show(sb t != ND)=true from by simp)];refine fI (O0 ζ α ρ ?_);by_cases hz:(τ == rawInt X.env.locals)=true
   ·rw[kn hz];have ν:=eq_of_beq hz;subst ν;exact ix (h s.heap t I ⟨⟨ο,vs,he,θ,ε,hd,hsz,h1,L,oT,ts,ζ,α,ρ⟩,fe,ft⟩)
   ·rw[hQ hz];refine fI (OT ζ α (Nw.mp ρ).1 ?_);have oth:∀c,c≠t->(s.heap.update t (NZ (·.setIfInBounds 3 ND))).get? c=s.heap.get? c:=λc θ=>NG _ _ (J5 θ)
    have γ:Mv [t] (frs X.stack) s.heap (s.heap.update t (NZ (·.setIfInBounds 3 ND))):=
     ⟨λb o n _ q=>(oth b (λz=>n (by rw[z];exact hC.mpr rfl))).trans q,λb o n _ q=>⟨o.slots,(oth b (λz=>n (by rw[z];exact hC.mpr rfl))).trans q⟩⟩
    have I1:=I.mvN γ λb hb=>by rw[hC.mp hb];exact ft t τ rfl
    exact fin _ ο vs _ _ I1 (Heap.size_after_update ..) rfl ((oth e (J5 L)).trans he) θ ε hd hsz
theorem sM {M:Model} {A:zx} {E:B2} {e t:eH} {C:iv} {dx:Dn} {fl:iv} {fr:Dn} {Q:CN} (I:Inv X pins σ H s) (f:Fly X pins H e C dx (ag (t,fl)) s.heap)
  (h:∀h',Inv X pins σ H {s with heap:=h'}->Fly X pins H e C dx (ag (t,fr.elim .none λf=>rawInt f)) h'->Q () {s with heap:=h'}):ll M A (setFlight (.ref e) fr) Q E s:=by
 refine ET f.at_ λh' k x=>h h' (I.mvN (ch:=[t]) ⟨λb o n _ q=>k b o (λz=>n (by rw[z];exact hC.mpr rfl)) q,λb o n _ q=>⟨o.slots,k b o (λz=>n (by rw[z];exact hC.mpr rfl)) q⟩⟩ λb hb=>by rw[hC.mp hb];exact f.ft t fl rfl) ⟨x,f.fe,λt' L z=>by cases z;exact f.ft t fl rfl⟩
end
noncomputable abbrev XW:=St->XK
def XE (X:Cx) (W:XW) (e:iv) (s:hN):Prop:=∃pins x C dx T σ H,e= .ref x/\Inv X pins σ H s/\Fly X pins H x C dx T s.heap/\W σ C dx H
def Thr (X:Cx) (W:XW):Prop:=∀e s,XE X W e s->X.xe e s
noncomputable abbrev Cx.thr (X:Cx) (W:XW):Cx:=X.wish (XE X W)
noncomputable abbrev W0:XW:=λ_ _ _ _=>False
section
variable {X:Cx} {W:XW} {pins:B'} {σ:St} {H:Hp} {s:hN}
theorem Fly.wish {E:B2} {e:eH} {C:iv} {dx:Dn} {T:ov (eH×iv)} {h:MT} (f:Fly (X.wish E) pins H e C dx T h):Fly X pins H e C dx T h:=⟨f.at_,f.fe,f.ft⟩
theorem bU:Thr (X.thr W) W:=λe s ⟨pins,x,C,dx,T,σ,H,he,I,f,w⟩=>⟨pins,x,C,dx,T,σ,H,he,I.unwish,f.wish,w⟩
theorem thr0:Thr X W0:=λe s ⟨pins,x,C,dx,T,σ,H,he,I,f,w⟩=>w.elim
theorem Av (ow:Own X):PassesOwn (ph X.prog X.w) X.A X.env (XE X W):=by
 intro e s' ⟨pins,x,C,dx,T,σ,H,he,I,f,w⟩;subst he;unfold notedBy;refine xN I ow f λh' t γ O=>?_;unfold cameBackBy;obtain⟨⟨ο,vs,α,φ,ζ,Z,δ,Y,ε⟩,fe,ft⟩:=id O;refine fI (O0 α Z Y ?_);rw[hQ @F];refine sM γ O λh2 β L=>?_;rw[ow.2] at L;exact⟨pins,x,C,dx,_,σ,H,rfl,β,L,w⟩
theorem dS (ow:Own X):PassesOwn (ph X.prog X.w) X.A X.env (X.thr W).xe:=Av ow
theorem PSs.thr {st:cc OE} {t:TS} (h:PSs (X.thr W) st t) (k:Thr X W):PSs X st t:=λpins s σ H D I L=>
 Nk (h pins s σ H D (I.wish _) L) (λ_ _ q=>q.unwish) k
end
noncomputable def CX1 (P:ry) (w:zt):CXT:=λouter H s E e s'=>∃x C dx t H',e= .ref x/\s'.os=s.os/\AllBare s'.gens/\Un (frs outer) [] H H' s.heap s'.heap/\HOk P w H' s'.heap/\
 Cj s'.heap x C dx (ag (t,.none))/\s.heap.get? x=gs/\s.heap.get? t=gs/\H' x=gs/\H' t=gs/\E C dx H'
section
variable {P:ry} {w:zt} {K:a'} {mg:CD} {base:MT}
theorem GP {N:A6} {L:ic} {scope:NT} {f:eH} {Z:iv} {A:zx} {outer:cc Env} {s:hN} {H:Hp} {E:XK}:
  Thr (cxOf (CX1 P w) P w K mg base N L scope f Z A outer s H E) λ_=>E:=by
 intro e s' ⟨pins,x,C,dx,T,σ,H',he,I,γ,α⟩;subst he;have own:Own (cxOf (CX1 P w) P w K mg base N L scope f Z A outer s H E):=⟨rfl,rfl⟩;show ll _ _ (leaving _ _) _ _ _;unfold leaving;refine fI (xN I own γ λh1 t O β=>?_);refine sM (fr:=gs) O β λh2 I2 Y=>?_;have fx:=Y.fe;have ft:=Y.ft t _ rfl;have no:∀b:eH,(b∈([]:D')∨s.heap.get? b=gs)->s.heap.get? b=none:=λb z=>z.elim (λq=>ik q @F) id;exact⟨x,C,dx,t,H',rfl,I2.os,I2.bare,I2.base,I2.hok,Y.at_,no x fx.2.2.2.1,no t ft.2.2.2.1,fx.1,ft.1,α⟩
theorem Fun.okX {x L:ic} {st:OE} {f:eH} {fd:lM} {N ps:A6} {k:Nat} {sp:Sp} (F:Fun K x L st f fd) (S:aK N ps (ai st)) (len:∀vs H Q E,sp vs H Q E->vs.length=ps.length)
  (Z:∀(Y:iv) (A:zx) (outer:cc Env) (s:hN) (H:Hp) (vs:cc V) (Q:VK) (E:XK),Room k (A.deeper (envOfC L (ai st) s.heap.objs.size f Y))->sp vs H Q E->
   ∃t,PSs ((cxOf (CX1 P w) P w K mg base N L (ai st) f Y A outer s H E).thr λ_=>E) (dI st) t/\t {nx:=λ_ H'=>Q .non H',rt:=Q} (start N vs) H):FnOk P w K mg base (CX1 P w) (k + 1) f fd ps sp:=by
 obtain⟨ζ,od,kV,δ,ε,an,Y,ct,β,rfl,lk,α⟩:=F.ex;refine Lv lk α S len λA outer s H vs Q E γ O=>?_;obtain⟨t,h,q⟩:=Z Y A outer s H vs Q E γ O;exact⟨t,h.thr GP,q⟩
end
section
variable {X:Cx} {W:XW} {pins:B'} {σ:St} {H:Hp} {s s':hN}
theorem Inv.afterX {e:iv} (I:Inv X pins σ H s) (hx:Thr X W) (h:CX1 X.prog X.w X.stack H s (W σ) e s'):X.xe e s':=by
 obtain⟨x,C,dx,t,H',rfl,os,bare,un,hok,ea,L,O,nx,nt,w⟩:=h;refine hx _ _ ⟨pins,x,C,dx,_,σ,H',rfl,I.call' (ch:=[]) os un hok bare (λb z=>ik z @F),⟨ea,I.fpN L nx,λt' Y z=>?_⟩,w⟩;cases z;exact I.fpN O nt
variable {k:Nat} {f C:eH} {fd:lM} {ps:A6} {sp:Sp} {dvs:cc V} {ds:CB} {x m:ic} {p pos apos:Pos} {e o:z3} {es:cc z3} {ta:TE} {t:TA}
theorem IP {Q:VK} {us:CB} {vs:cc V} (F:FnOk X.prog X.w X.K X.mg X.base (CX1 X.prog X.w) k f fd ps sp) (hr:Room k X.A) (hb:my X.K fd ps ds) (hd:Vals dvs ds) (hx:Thr X W)
  (I:Inv X pins σ H s) (r:Vals vs us) (h:sp (vs++dvs) H Q (W σ)):ll (ph X.prog X.w) X.A (call (.ref f) us) (EP X pins σ Q) X.xe s:=by
 have υ:Vals (vs++dvs) (us++ds):=r.append hd;have hl:(us++ds).length=ps.length:=by rw[<-υ.length];exact F.len _ _ _ _ h
 refine OO (Oi (F.run X.A X.stack s H ⟨us,[]⟩ (us++ds) (vs++dvs) Q (W σ) hr I.env0 (hb s us I.kIn hl) υ h) λr s' L=>?_);cases r with
 | error e=>exact I.afterX hx L
 | ok O=>
   cases O with
   | ret u=>exact I.after L
   | next=>exact LI L
   | brk=>exact LI L
   | cont=>exact LI L
noncomputable def CQ (sp:Sp) (dvs:cc V) (W:XW) (t:TA):TE:=fun σ H Q=>t σ H λvs H1=>sp (vs++dvs) H1 Q (W σ)
theorem Dy {σ:St} {H:Hp} {Q:VK} {sp:Sp} {W:XW} {t:TA} (h:t σ H λvs H1=>sp vs H1 Q (W σ)):CQ sp [] W t σ H Q:=by
 unfold CQ;simpa using h
theorem gM (F:FnOk X.prog X.w X.K X.mg X.base (CX1 X.prog X.w) k f fd ps sp) (hr:Room k X.A) (O:Gl X x) (hm:X.mg x=ag (.ref f)) (hk:Nv X.K (.ref f)=true) (hb:my X.K fd ps ds) (hd:Vals dvs ds) (hx:Thr X W)
  (ha:PA X (e::es) t) (ω:(x == ("__debug__":ic))=false:=by decide) (he:oD (e::es) X.env=(false,eval e X.env)::oD es X.env:=by rfl) (L:(backTo pos (oD es X.env)).any (·.1)=false:=by rfl):
  PE X (.Call (.Name x p) (e::es) [] pos) (CQ sp dvs W t):=by
 intro pins s σ H Q I h;refine NC (h9 I O hm ?_ ω);refine O6 (h₀:=X.base) I.ok.mod.kin hk (thn (ha pos pins s σ H _ I h) λus Y ⟨vs,H1,I1,r,q⟩=>⟨I1.kIn,?_⟩) he L;exact IP F hr hb hd hx I1 r q
end
structure XCls (h:MT) (C:eH) (bmB:CB) (newId:Np):Prop where
 obj:∃bm N nm q bs hdct sn sub ab col dd k0 k1 k2 k3 k5 mN,h.get? C=ag (excClassObj nm q C N bs bm hdct sn sub ab col dd k0 k1 k2 k3 k5 newId)/\h.Ns N mN/\mN "__init__"=gs/\OwnTail h bmB bm
theorem Ic {K:a'} {h:MT} {C:eH} {bmB:CB} {newId:Np} (X:K.In h) (q:OQ K C bmB newId=true):XCls h C bmB newId:=by
 refine⟨?_⟩;unfold OQ at q;split at q
 next dd ε Z ho=>
  split at q
  next θ bm k0 k1 k2 k3 n k5 hm hs=>
   simp only[wb,OP,Sr] at q;obtain⟨⟨⟨⟨⟨δ,γ⟩,L⟩,β⟩,hok⟩,Y⟩:=q;subst δ γ;cases ε with
   | mk nm bs mro ns α hd sn sub ab col del=>
   have hm:mro=_:=hm;have L:del=false:=L;subst hm L;have O:Z=#[k0,k1,k2,k3,ag (.builtin n),k5]:=by rw[<-hs]
   subst O;exact⟨bm,ns,nm,α,bs,hd,sn,sub,ab,col,dd,k0,k1,k2,k3,k5,_,X _ _ ho,.of_isNs (PySem.W.isNs_of_in X hok),PySem.W.nsMap_none_of_in X hok Y,Q8 X β⟩
  next=>cases q
 next=>cases q
section
variable {X:Cx} {W:XW} {C:eH} {x:ic} {np cpos pos:Pos} {e:z3} {es:cc z3} {t:TA} {B newId initId:Np} {bmB:CB}
noncomputable def Hk (C:eH) (W:XW) (t:TA):TS:=λ_ σ H=>t σ H λvs H1=>vs.length<=jF/\W σ (.ref C) gs H1
theorem Eh {pins:B'} {σ:St} {H:Hp} {s:hN} {h':MT} {a:eH} {vs:CB} (I:Inv X pins σ H s) (m:R8 s.heap h' a (.ref C) vs):
  Inv X pins σ H {s with heap:=h'}/\Fly X pins H a (.ref C) gs gs h':=by
 obtain⟨tt,L,φ,O⟩:=m.there;exact⟨I.mvN (ch:=[]) ⟨λb o _ _ e=>m.keeps b o e,λb o _ _ e=>⟨o.slots,m.keeps b o e⟩⟩ λb z=>ik z @F,⟨⟨_,_,L,rfl,rfl,rfl,@F,@F⟩,I.fpN m.new (I.hok.none_ m.new),λt Y z=>by cases z⟩⟩
theorem mS (FB:ExcBaseFacts B newId initId bmB) (q:OQ X.K C bmB newId=true) (hx:Thr X W) (hc:X.calm=true) (α:Gl X x) (hm:X.mg x=ag (.ref C)) (ha:PA X (e::es) t)
  (ω:(x == ("__debug__":ic))=false:=by decide) (he:oD (e::es) X.env=(false,eval e X.env)::oD es X.env:=by rfl) (L:(backTo cpos (oD es X.env)).any (·.1)=false:=by rfl):
  PS X (.Raise (ag (.Call (.Name x np) (e::es) [] cpos)) gs pos) (Hk C W t):=by
 intro pins s σ H D I h;obtain⟨tl,N,nm,Y,bs,hdct,sn,sub,ab,col,dd,k0,k1,k2,k3,k5,mN,ρ,Z,O,T⟩:=(Ic I.ok.mod.kin q).obj
 refine wpAny_Raise_call_subT (C:=C) (nm:=nm) (q:=Y) (N:=N) (bs:=bs) (bm:=tl) (hdct:=hdct) (sn:=sn) (sub:=sub) (ab:=ab) (col:=col) (dd:=dd) (k0:=k0) (k1:=k1) (k2:=k2) (k3:=k3) (k5:=k5)
  FB (mN:=mN) (T.hasType FB.hasBase) (I.ok.hd hc) (by rw[he];show(false||(backTo cpos (oD es X.env)).any (·.1))=false;rw[L];rfl) O (h9 I α hm ⟨rfl,?_⟩ ω)
 have γ:=ha cpos pins s σ H _ I h;rw[he] at γ ⊢;refine RW (Nk γ (λus ε ⟨vs,H1,I1,r,z,w⟩=>⟨rfl,?_,I1.bk _ _ ρ,Z.keeps I1.bk,T.keeps I1.bk,λh' a m=>?_⟩) λ_ _ y=>y)
 ·show us.length<=_;rw[<-r.length];exact z
 ·obtain⟨δ,β⟩:=Eh I1 m;exact hx _ _ ⟨pins,a,.ref C,gs,gs,σ,H1,rfl,δ,β,w⟩
end
structure i4 (K:a') (G:eH):Prop where
 ty:PQ K (.ref G)=ag (.type "type")
 cls:Pz K G=true
 base:MZ K G (.type "BaseException")=ag true
theorem vH {K:a'} {M:Model} {h:MT} {G:eH} (X:K.In h) (c:Pz K G=true):OR M h (isType (.ref G)) true:=by
 unfold Pz R1 at c;split at c
 next Y d' O L ho=>
  intro β Z α s' k q;unfold isType loadHead;exact fI (RN (k _ _ (X _ _ ho)) (ix q))
 next=>cases c
theorem kI {K:a'} {M:Model} {A:zx} {E:B2} {s:hN} {a G C:eH} {ο:Rk} {b:N1} {Q:N1->hN->Prop} (X:K.In s.heap) (c:i4 K G) (he:s.heap.get? a=ag ο) (hc:ο.cls= .ref C)
  (hm:MZ K C (.ref G)=ag b) (q:Q b s):ll M A (excMatches (.ref a) (.ref G)) Q E s:=by
 unfold excMatches isInstance;refine fI (fI ((RA X c.ty).here ?_));rw[tc_notTuple];refine ix ?_;simp only[Pe,QY];refine fI (ix ?_);simp only[QH,List.forIn_nil];unfold isExcClass;refine fI (fI (fI (fI ((vH X c.cls).here ?_))));simp only[QD];refine(OX X c.base).here ?_;simp only[Bool.not_true,Pe,QY];refine ix (ix ?_);have L:OR M s.heap (typeOf (.ref a)) (.ref C):=hc ▸ (PySem.W.Looks.ld he).andThen .now;refine fI (L.here ?_);refine fI (fI (fI ((OX X hm).here ?_)));cases b<;>simp only[Pe,QY,QD]
 ·exact ix (ix (ix q))
 ·exact ix (ix (ix q))
section
variable {X:Cx} {pins:B'} {σ:St} {H:Hp} {s:hN}
theorem uc {M:Model} {A:zx} {E:B2} {i:Nat} {n:ic} {pos:Pos} {Q:CN} (I:Inv X pins σ H s) (Z:X.N.Nodup) (hi:X.N[i]? =ag n) (hk:X.env.scope.names.lookup n=ag .local)
  (h:∀s',Inv X pins (σ.set i gs) H s'->Q () s'):ll M A (do bindName X.env n .none;unbindBehindTheSuite X.env n pos) Q E s:=by
 obtain⟨m,hn,hl⟩:=id I.loc;have β:(X.env.scope.kind == .class||(X.env.scope.kind == .module&&X.env.locals != X.env.globals))=false:=by rw[I.ok.kind];rfl
 refine wpAny_nameGoes_keeps hk hn β λh' v δ hs=>h _ ?_;obtain⟨π,_,_,ξ,_⟩:=id hn;have L:∀b o,X.s₀.heap.get? b=ag o->b≠X.env.locals:=λb o e=>y2 (uj (hL e) I.ok.above);have U:=I.base;refine⟨I.ok,I.os,I.bare,⟨λb o e n hb Y=>(hs.2 b (L b o e)).trans (U.keep b o e n hb Y),λb o e n hb Y=>?_,U.free,λb o e Y=>?_,U.tups,U.frzs,U.tbls⟩,⟨_,δ,λj y η O γ ο=>?_⟩,λy c e=>?_,I.free,I.freeC,λp ν=>?_,λb ob e=>?_,by simpa using I.len⟩
 ·obtain⟨ι,O⟩:=U.slot b o e n hb Y;exact⟨ι,(hs.2 b (L b o e)).trans O⟩
 ·obtain⟨o',O⟩:=U.there b o e Y;exact⟨o',(hs.2 b (L b o e)).trans O⟩
 ·by_cases ε:j=i
  ·subst ε;have α:j < σ.length:=by rw[I.len];exact(b'.mp hi).1
   rw[PM α] at γ;cases γ
  ·rw[Q6 (J5 ε)] at γ;obtain⟨θ,r',q⟩:=hl j y η O γ ο;refine⟨θ,r',?_⟩;rcases q with ⟨k,e⟩ | ⟨k,c,e,z⟩
   ·refine .inl ⟨k,?_⟩;have:y≠n:=λe=>ε (tV Z O (e ▸ hi));simp[this,e]
   ·exact .inr ⟨k,c,e,z.sameBut hs (I.cne y c e)⟩
 ·obtain⟨ζ,z⟩:=I.cell y c e;exact⟨ζ,z.sameBut hs (I.cne y c e)⟩
 ·obtain⟨e,n,ne,nf,d⟩:=I.pin p ν;exact⟨(hs.2 p.1 ne).trans e,n,ne,nf,d⟩
 ·refine(I.hok b ob e).stay (λc ζ hc q=>(hs.2 c ?_).trans q) (λ_ q=>q) λ_ _ q=>q;intro z;subst z;rcases hc with hc | hc
  ·rw[<-hc,I.free] at e;cases e
  ·rw[I.free] at hc;cases hc
theorem Inv.track {x:eH} {o:HO} (I:Inv X pins σ H s) (f:FpN X pins H x) (new:eB X.prog X.w (upd H x o) s.heap x o):Inv X pins σ (upd H x o) s:=by
 obtain⟨O,β,γ,L,ξ,ν⟩:=f;have ne:∀b u,H b=ag u->b≠x:=λb u e z=>by rw[z,O] at e;cases e
 have Y:∀b u,H b=ag u->upd H x o b=ag u:=λb u e=>by rw[ar (ne b u e)];exact e
 have U:=I.base;refine⟨I.ok,I.os,I.bare,⟨U.keep,U.slot,λb ob e n Z=>?_,U.there,λb xs e=>Y b _ (U.tups b xs e),λb ob u e=>Y b _ (U.frzs b ob u e),λb ps e=>?_⟩,I.loc,I.cell,?_,λy c e=>?_,λp α=>?_,λb ob e=>?_,I.len⟩
 ·rw[ar (λz=>?_)]
  ·exact U.free b ob e n Z
  ·subst z;rcases L with y | y
   ·exact Z y
   ·rw[e] at y;cases y
 ·obtain⟨m,q⟩:=U.tbls b ps e;exact⟨m,Y b _ q⟩
 ·rw[ar (J5 β)];exact I.free
 ·rw[ar (ξ y c e)];exact I.freeC y c e
 ·obtain⟨e,n,r⟩:=I.pin p α;exact⟨e,by rw[ar (ν p α)];exact n,r⟩
 ·by_cases z:b=x
  ·subst z;rw[au] at e;cases e;exact new
  ·rw[ar z] at e;exact(I.hok b ob e).stay (λ_ _ _ q=>q) (λc q=>Y c _ q) λc xs q=>Y c _ q
end
noncomputable def ExcO (x:eH) (C:iv) (dx:Dn):HO:= .ext λh=>∃ο vs,h.get? x=ag ο/\ο.cls=C/\ο.dict=dx/\ο.data= .fields vs
theorem JD {P:ry} {w:zt} {H:Hp} {h:MT} {x:eH} {C:iv} {dx:Dn} {T:ov (eH×iv)} (e:Cj h x C dx T):eB P w H h x (ExcO x C dx):=by
 obtain⟨ο,vs,L,φ,Y,O,_⟩:=e;exact⟨⟨ο,vs,L,φ,Y,O⟩,⟨ο,L⟩,λh1 h2 ⟨ο,vs,L,φ,Y,O⟩ k=>⟨ο,vs,k _ L,φ,Y,O⟩⟩
noncomputable abbrev Cx.pin (X:Cx) (pins:B'):Cx:={X with pn:=X.pn++pins}
noncomputable abbrev Cx.mark (X:Cx) (pins:B') (e:iv):Cx:={X with A:=X.A.mark (ag e),calm:=false,pn:=X.pn++pins,xe:=λ_ _=>False}
section
variable {X:Cx} {pins pins':B'} {σ:St} {H:Hp} {s:hN} {e:iv}
theorem Inv.toPin (I:Inv X pins σ H s):Inv (X.pin pins) [] σ H s:=
 ⟨⟨I.ok.mod,I.ok.kind,I.ok.glob,I.ok.blt,I.ok.above,I.ok.inj,I.ok.has,I.ok.cab,I.ok.hd,I.ok.frames,I.ok.stk,I.ok.exf,I.ok.bs,I.ok.bsz,I.ok.noex,I.ok.exfs,I.ok.funs,I.ok.frf⟩,I.os,I.bare,I.base,I.loc,I.cell,I.free,I.freeC,
   λp L=>I.pin p (by simpa using L),I.hok,I.len⟩
theorem Inv.ofPin (ok:X.Ok) (I:Inv (X.pin pins) pins' σ H s):Inv X pins σ H s:=
 ⟨ok,I.os,I.bare,I.base,I.loc,I.cell,I.free,I.freeC,λp L=>I.pin p (pT _ L),I.hok,I.len⟩
theorem Inv.toMark (I:Inv X pins σ H s):Inv (X.mark pins e) [] σ H s:=
 ⟨⟨I.ok.mod,I.ok.kind,I.ok.glob,I.ok.blt,I.ok.above,I.ok.inj,I.ok.has,I.ok.cab,(λz=>ik (show false=true from z) @C),I.ok.frames,I.ok.stk,I.ok.exf,I.ok.bs,I.ok.bsz,I.ok.noex,I.ok.exfs,I.ok.funs,I.ok.frf⟩,I.os,I.bare,I.base,I.loc,I.cell,I.free,I.freeC,
   λp L=>I.pin p (by simpa using L),I.hok,I.len⟩
theorem Inv.ofMark (ok:X.Ok) (I:Inv (X.mark pins e) pins' σ H s):Inv X pins σ H s:=
 ⟨ok,I.os,I.bare,I.base,I.loc,I.cell,I.free,I.freeC,λp L=>I.pin p (pT _ L),I.hok,I.len⟩
theorem FpN.ofPin {b:eH} (f:FpN (X.pin pins) pins' H b):FpN X pins H b:=⟨f.1,f.2.1,f.2.2.1,f.2.2.2.1,f.2.2.2.2.1,λp L=>f.2.2.2.2.2 p (pT _ L)⟩
theorem Fly.ofPin {x:eH} {C:iv} {dx:Dn} {T:ov (eH×iv)} {h:MT} (f:Fly (X.pin pins) pins' H x C dx T h):Fly X pins H x C dx T h:=⟨f.at_,f.fe.ofPin,λt fl z=>(f.ft t fl z).ofPin⟩
end
noncomputable def Ends.less (D:Ends) (i:Nat):Ends:={nx:=fun σ H=>D.nx (σ.set i gs) H,rt:=D.rt,bk:=fun σ H=>D.bk (σ.set i gs) H,ct:=fun σ H=>D.ct (σ.set i gs) H}
noncomputable def WTry (K:a') (G:eH) (i:Nat) (Wo:XW) (ts:TS) (D:Ends):XW:=fun σ C dx H=>∃c,C= .ref c/\((MZ K c (.ref G)=ag true/\∀x,H x=gs->ts (D.less i) (σ.set i (ag (.ref x))) (upd H x (ExcO x C dx)))∨
 (MZ K c (.ref G)=ag false/\Wo σ C dx H))
structure XIsi (K:a') (D:eH):Prop where
 cls:Pz K D=true
 ga:wq K (.ref D) "__getattribute__"=ag (ag (.builtin "BaseException.__getattribute__"))
 gr:wq K (.ref D) "__getattr__"=ag gs
 ha:wq K (.ref D) "__class__"=ag (ag (.builtin "object.__class__"))
 hn:Oe K (.builtin "object.__class__") "__get__"=ag (ag (.builtin "getset_descriptor.__get__"))
 tk:QM K (.builtin "object.__class__")=ag true
 hm:MZ K D (.type "object")=ag true
 base:MZ K D (.type "BaseException")=ag true
noncomputable def dV:V->iv
 | .ref a=> .ref a
 | .ty n=> .type n
 | _=> .none
section
variable {σ:St} {H:Hp} {Q:VK} {D:Ends} {W:XW} {t:TA}
theorem IC {C:eH} (h:t σ H λvs H1=>vs.length<=jF/\W σ (.ref C) gs H1):Hk C W t D σ H:=h
theorem mO {K:a'} {G c:eH} {i:Nat} {Wo:XW} {ts:TS} {dx:Dn} (m:MZ K c (.ref G)=ag true) (h:∀x H',H x=gs->Upd H H' x (ExcO x (.ref c) dx)->ts (D.less i) (σ.set i (ag (.ref x))) H'):WTry K G i Wo ts D σ (.ref c) dx H:=
 ⟨c,rfl,.inl ⟨m,λx n=>h x _ n Upd.of⟩⟩
theorem jX {K:a'} {G c:eH} {i:Nat} {Wo:XW} {ts:TS} {dx:Dn} (m:MZ K c (.ref G)=ag false) (h:Wo σ (.ref c) dx H):WTry K G i Wo ts D σ (.ref c) dx H:=⟨c,rfl,.inr ⟨m,h⟩⟩
theorem vf {i:Nat} (h:D.nx (σ.set i gs) H):(D.less i).nx σ H:=h
end
theorem tN {X:Cx} {K:a'} {es:cc z3} {k:Nat} {t:TGs} {n:Nat} {pos:Pos} (h:X.K=K) (hc:X.calm=true) (L:PGs X es t)
  (hn:(assignEach es X.env).length=n:=by rfl) (ι:(assignEach es X.env).findIdx? (·.1)=none:=by rfl):PG X (.Tuple es k pos) (gTup K n t):=by subst h;exact kW hc L hn ι
theorem vw {α β:Type} {F:α->β->Prop}:∀{l:cc α} {m:cc β},l.length=m.length->(∀(i:Nat) (a:α) (b:β),l[i]? =ag a->m[i]? =ag b->F a b)->Paired F l m
 | [],[],_,_=> .nil
 | a::l,b::m,hl,h=> .cons (h 0 a b rfl rfl) (vw (by simpa using hl) λi x y O L=>h (i + 1) x y (by simpa using O) (by simpa using L))
 | [],_::_,hl,_=>by simp at hl
 | _::_,[],hl,_=>by simp at hl
section
variable {σ:St} {H:Hp} {Q:VK} {D:Ends} {te ty tv td:TE} {x y v:V}
def LY (y:V) (Q:VK) (x:V) (H:Hp):Prop:=∃a o,x= .ref a/\DGet H a y o/\Q (.bl o.isSome) H
theorem Mw (h:ty σ H λy H1=>td σ H1 (LY y Q)):tDIn ty td σ H Q:=h
theorem Du {p:eH} {L:cc (Key×V)} {z:ic} (e:H p=ag (.dK L)) (h:Q (.bl (valV L (n' z)).isSome) H):LY (.str z) Q (.ref p) H:=⟨p,_,rfl,DGet.k (k:=n' z) e,h⟩
def HP (y:V) (Q:VK) (x:V) (H:Hp):Prop:=∃a o,x= .ref a/\DGet H a y o/\Q (.bl (!o.isSome)) H
theorem KB (h:ty σ H λy H1=>td σ H1 (HP y Q)):CP ty td σ H Q:=h
theorem IL {p:eH} {L:cc (Key×V)} {z:ic} (e:H p=ag (.dK L)) (h:Q (.bl (!(valV L (n' z)).isSome)) H):HP (.str z) Q (.ref p) H:=⟨p,_,rfl,DGet.k (k:=n' z) e,h⟩
theorem iQ {l b:eH} {xs zs:cc V} (e:H l=ag (.lst xs)) (e':H b=ag (.lst zs)) (hz:xs.length + zs.length<=jF) (h:∀p H2,H p=gs->Same H H2->H2 p=ag (.lst (xs++zs))->Q (.ref p) H2):rCat (.ref l) (.ref b) H Q:=⟨l,b,xs,zs,rfl,rfl,e,e',hz,fk h⟩
end
section
variable {X:Cx}
theorem vG {α β:Type} (f:α->β):∀(l:cc α) (j:Nat),(l.eraseIdx j).map f=(l.map f).eraseIdx j
 | [],_=>rfl
 | a::l,0=>rfl
 | a::l,j + 1=>by simp[List.eraseIdx,vG f l j]
end
noncomputable def JO (K:a') (G:eH) (Wo:XW) (ts:TS) (D:Ends):XW:=fun σ C dx H=>∃c,C= .ref c/\((MZ K c (.ref G)=ag true/\ts D σ H)∨(MZ K c (.ref G)=ag false/\Wo σ C dx H))
section
variable {K:a'} {G:eH} {Wo:XW} {tb:XW->TS} {ts:TS} {D:Ends} {σ:St} {H:Hp}
theorem Dx {c:eH} {dx:Dn} (m:MZ K c (.ref G)=ag true) (h:ts D σ H):JO K G Wo ts D σ (.ref c) dx H:=⟨c,rfl,.inl ⟨m,h⟩⟩
end
section
variable {X:Cx} {W:XW} {k:Nat} {f C:eH} {fd:lM} {ps:A6} {sp:Sp} {dvs:cc V} {ds:CB} {x m:ic} {p pos apos:Pos} {e o:z3} {es:cc z3} {ta:TE} {t:TA}
theorem Dz {pins:B'} {σ:St} {H:Hp} {s:hN} {Q:VK} {us:CB} {vs:cc V} (M:Mk X.K C f) (F:FnOk X.prog X.w X.K X.mg X.base (CX1 X.prog X.w) k f fd ps sp) (hr:Room (k + 1) X.A) (hb:my X.K fd ps ds) (hd:Vals dvs ds)
  (Y:Thr X W) (I:Inv X pins σ H s) (r:Vals vs us)
  (h:∀x dx,H x=gs->H dx=gs->dx≠x->sp (.ref x::(vs++dvs)) (upd (upd H dx (.own x)) x (.ins C dx [])) (λv H2=>v= .non/\Q (.ref x) H2) (W σ)):
  ll (ph X.prog X.w) X.A (call (.ref C) us) (EP X pins σ Q) X.xe s:=by
 have L:=h (s.heap.objs.size + 1) s.heap.objs.size (I.hok.fresh (Pa _)) (I.hok.fresh (qb _)) (y2 (NV _));have I2:=Inv.made (C:=C) I;have υ:Vals (V.ref (s.heap.objs.size + 1)::(vs++dvs)) (sb (s.heap.objs.size + 1)::(us++ds)):= .cons rfl (r.append hd)
 have hl:(sb (s.heap.objs.size + 1)::us++ds).length=ps.length:=by
  have e:=υ.length;rw[F.len _ _ _ _ L] at e;exact e.symm
 refine OO (yW (f:=f) I.kIn M.makes M.init (OP.mp M.fn) (Oi (F.run _ X.stack _ _ ⟨sb (s.heap.objs.size + 1)::us,[]⟩ (sb (s.heap.objs.size + 1)::(us++ds)) _ _ (W σ) (hr.make C us [])
  (I2.env0.make C us []) (hb _ (sb (s.heap.objs.size + 1)::us) I2.kIn hl) υ L) λr s' α=>?_))
 cases r with
 | error e=>exact I2.afterX Y α
 | ok Z=>
   cases Z with
   | ret u=>
     obtain⟨v,H',β,rv,ev,O⟩:=I2.after α;subst ev;exact⟨rv,⟨V.ref (s.heap.objs.size + 1),H',β,rfl,O⟩⟩
   | next=>exact LI α
   | brk=>exact LI α
   | cont=>exact LI α
noncomputable def Hl (C:eH) (sp:Sp) (dvs:cc V) (W:XW) (t:TA):TE:=fun σ H Q=>t σ H λvs H1=>∀x dx,H1 x=gs->H1 dx=gs->dx≠x->sp (.ref x::(vs++dvs)) (upd (upd H1 dx (.own x)) x (.ins C dx [])) (λv H2=>v= .non/\Q (.ref x) H2) (W σ)
theorem GG (M:Mk X.K C f) (F:FnOk X.prog X.w X.K X.mg X.base (CX1 X.prog X.w) k f fd ps sp) (hr:Room (k + 1) X.A) (O:Gl X x) (hm:X.mg x=ag (.ref C)) (hb:my X.K fd ps ds) (hd:Vals dvs ds) (hx:Thr X W)
  (ha:PA X (e::es) t) (ω:(x == ("__debug__":ic))=false:=by decide) (he:oD (e::es) X.env=(false,eval e X.env)::oD es X.env:=by rfl) (L:(backTo pos (oD es X.env)).any (·.1)=false:=by rfl):
  PE X (.Call (.Name x p) (e::es) [] pos) (Hl C sp dvs W t):=by
 intro pins s σ H Q I h;refine NC (h9 I O hm ?_ ω);refine O6 (h₀:=X.base) I.ok.mod.kin M.kp (thn (ha pos pins s σ H _ I h) λus Y ⟨vs,H1,I1,r,q⟩=>⟨I1.kIn,?_⟩) he L;exact Dz M F hr hb hd hx I1 r q
end
open AutoSeq1 (wpAny_loadPart')
section
variable {prog:ry} {w:zt} {A:zx} {E:B2} {s:hN}
theorem oi {L t:eH} {i:Nat} {items:CL} {x:iv} {Q:B2} (ζ:s.heap.IsTupleIter L t i) (O:s.heap.IsTuple t items) (hx:items[i]? =ag x)
  (Z:∀h',h'.IsTupleIter L t (i + 1)->PJ L s.heap h'->Q x {s with heap:=h'}):
  ll (ph prog w) A (O8 (.ref L)) Q E s:=by
 obtain⟨o,ho,Y,hd⟩:=id ζ;obtain⟨α,β,_,ι,γ⟩:=O;unfold O8
 refine fI (Sa (name:=vl "__next__") ζ.typeIs F.slot_tuple_iterator_next
  (wpAny_call_entry F.slot_tuple_iterator_next ζ.typeIs F.entry_tuple_iterator_next ?_ (F.args_tuple_iterator_next_1 _)))
 show ll _ _ (field (.ref L) 0 >>=_) _ _ s;refine fI (O0 ho hd (x:= .ref t) rfl ?_);show ll _ _ (if (sb t == ND)=true then _ else _) _ _ s;rw[hQ (show ¬((sb t == ND)=true) from hV)];show ll _ _ (field (.ref L) 1 >>=_) _ _ s;refine fI (O0 ho hd (x:= .int i 0) rfl ?_);show ll _ _ (seqItems? (.ref t) >>=_) _ _ s;refine fI (Qz β γ ?_);simp only[MW,hx];refine fI (OT ho hd @F (ix ⟨x,rfl,ix (Z _ ?_ (R5 ..))⟩))
 exact⟨_,NJ _ ho (S1 (QA hd _)),(Sy ..).trans Y,by
  rw[QA hd];simp[rawInt]⟩
theorem o7 {L t:eH} {i:Nat} {items:CL} {Q:B2} (θ:A.handled=gs) (ζ:s.heap.IsTupleIter L t i) (O:s.heap.IsTuple t items) (hx:items[i]? =gs)
  (δ:∀h' e,Heap.ExtBut L s.heap h'->(∃o,h'.get? e=ag o/\o.cls= .type "StopIteration")->E (.ref e) {s with heap:=h'}):
  ll (ph prog w) A (O8 (.ref L)) Q E s:=by
 obtain⟨o,ho,Z,hd⟩:=id ζ;obtain⟨Y,β,_,ι,γ⟩:=O;unfold O8
 refine fI (Sa (name:=vl "__next__") ζ.typeIs F.slot_tuple_iterator_next
  (wpAny_call_entry F.slot_tuple_iterator_next ζ.typeIs F.entry_tuple_iterator_next ?_ (F.args_tuple_iterator_next_1 _)))
 show ll _ _ (field (.ref L) 0 >>=_) _ _ s;refine fI (O0 ho hd (x:= .ref t) rfl ?_);show ll _ _ (if (sb t == ND)=true then _ else _) _ _ s;rw[hQ (show ¬((sb t == ND)=true) from hV)];show ll _ _ (field (.ref L) 1 >>=_) _ _ s;refine fI (O0 ho hd (x:= .int i 0) rfl ?_);show ll _ _ (seqItems? (.ref t) >>=_) _ _ s;refine fI (Qz β γ ?_);simp only[MW,hx];refine fI (wpAny_rule (fI (OT ho hd @F ?_)));show ll _ _ (newExc (.type "StopIteration") [] >>=_) _ _ _;refine fI ?_;simp only[newExc,newTuple];refine fI (PL ?_ (by size_fits));refine fI (m:=firstArgMember _ _) (Qy (a:=ND) (by first | rfl | (simp only[firstArgMember];rfl)) ?_);refine PL ?_ (by size_fits);simp only[raiseNew];refine fI (wpAny_handled ?_)
 first | rw[show A.in1.handled=gs from θ] | rw[θ]
 refine fI (ix (wpAny_throw ?_));exact δ _ _ (((R5 ..).extBut.push _).push _) ⟨_,kv _ rfl,rfl⟩
end
theorem Draws.tuple {prog:ry} {w:zt} {A:zx} (θ:A.handled=gs) (L l:eH) (Y:l≠L) (items:CL):
  Draws prog w A L [L,l] items.size (λi v=>items[i]? =ag v) (λi h=>h.IsTupleIter L l i/\h.IsTuple l items) where
 live:=λ_ _ st=>let ⟨o,ho,_⟩:=st.1;⟨o,ho⟩
 frame:=λ_ _ _ st hk=>⟨let ⟨o,ho,r⟩:=st.1;⟨o,hk L @F o ho,r⟩,let ⟨o,ho,r⟩:=st.2;⟨o,hk l @F o ho,r⟩⟩
 item:=λi s Q E hi st Z=>by
  refine oi st.1 st.2 (x:=items[i]) (by simp[hi]) λh' ε O=>?_;exact Z _ h' s.toks (by simp[hi]) ⟨ε,st.2.extBut O.extBut Y⟩ O
 done:=λs Q E st δ=>o7 θ st.1 st.2 @F δ
theorem kS (l:eH) (items:CL) (n:Nat) (O:Dn) (Z:CM):
  Meets (Builtin.«enumerate.__new__» ⟨[.type "enumerate",.ref l],[]⟩) (λ_ R s=>s.heap.get? l=ag {cls:= .type "tuple",dict:=O,data:= .seq items n,slots:=Z}/\
   R (.ok (.ret (.ref (s.heap.push {cls:= .type "tuple_iterator",data:= .fields #[.ref l,.int 0 0]}).objs.size)))
     {s with heap:=(s.heap.push {cls:= .type "tuple_iterator",data:= .fields #[.ref l,.int 0 0]}).push {cls:= .type "enumerate",data:= .fields #[.none,.bool false,.ref s.heap.objs.size,rawInt 0,.none,.none]}}):=
 .of_wp λprog w A R s h=>by
  obtain⟨α,g,d,tk,os⟩:=s;obtain⟨hl,h⟩:=h;have Y:=sub_enumerate;have L:Heap.IsTuple (Shared.heap ⟨α,g,d,tk,os⟩) l items:=⟨_,hl,rfl,n,rfl⟩
  wp_walk using Pg hl
  refine wpAny_stack_any λst=>ix ?_;split
  ·rename_i c _ _ _ _ _;cases(c == OF "enumerate")
   ·wp_walk using Pg hl,Pw L
    exact⟨_,rfl,h⟩
   ·wp_walk using Pg hl,Pw L
    exact⟨_,rfl,h⟩
  ·wp_walk using Pg hl,Pw L
   exact⟨_,rfl,h⟩
theorem kU {prog:ry} {w:zt} {A:zx} {E:B2} {s:hN} {l:eH} {items:CL} {Q:B2} (Z:s.heap.IsTuple l items)
  (h:∀h',IsEnum h' (s.heap.objs.size + 1) s.heap.objs.size 0 .none->h'.IsTupleIter s.heap.objs.size l 0->h'.objs.size=s.heap.objs.size + 2->
   (∀b o,s.heap.get? b=ag o->h'.get? b=ag o)->Q (.ref (s.heap.objs.size + 1)) {s with heap:=h'}):
  ll (ph prog w) A (call (.type "enumerate") [.ref l]) Q E s:=by
 obtain⟨⟨c,O,α,Y⟩,hl,L,n,hd⟩:=Z;replace L:c= .type "tuple":=L;replace hd:α= .seq items n:=hd;subst L hd
 refine callType_new F.called_enumerate @C (F.typeCall_enumerate_1 _) (F.newCall_enumerate_1 _) (λobj=>F.args_object_init_2 obj _) F.entry_enumerate_new
  (kS l items n O Y) ⟨hl,?_⟩
 have hz:(s.heap.push {cls:= .type "tuple_iterator",data:= .fields #[.ref l,.int 0 0]}).objs.size=s.heap.objs.size + 1:=O3 ..
 show _/\_;rw[hz]
 have he:IsEnum ((s.heap.push {cls:= .type "tuple_iterator",data:= .fields #[.ref l,.int 0 0]}).push
   {cls:= .type "enumerate",data:= .fields #[.none,.bool false,.ref s.heap.objs.size,rawInt 0,.none,.none]}) (s.heap.objs.size + 1) s.heap.objs.size 0 .none:=by
  have:=kv (s.heap.push {cls:= .type "tuple_iterator",data:= .fields #[.ref l,.int 0 0]})
   (o:={cls:= .type "enumerate",data:= .fields #[.none,.bool false,.ref s.heap.objs.size,rawInt 0,.none,.none]}) rfl
  rw[hz] at this;exact this
 refine⟨⟨_,he,rfl⟩,h _ he ⟨_,eW _ (kv _ rfl),rfl,rfl⟩ (by rw[O3,hz]) λb o x=>eW _ (eW _ x)⟩
noncomputable def Itet (K:a') (a:eH):It:=
 ⟨λi H=>∃xs x,SqT K H a xs/\xs[i]? =ag x,λi H x H'=>∃p v,H p=gs/\x= .ref p/\H'=upd H p (.tup [.int i,v])/\∀xs,SqT K H a xs->xs[i]? =ag v,λi H=>∃xs,SqT K H a xs/\xs.length=i⟩
theorem zM {P:ry} {w:zt} {K:a'} {β:cc z3} {k:Nat} {pos:Pos} (a e α:eH) (O:e≠α):
  Turn P w K (.Tuple β k pos) (Itet K a) [e,α] e (λi h=>(∃Y,IsEnum h e α i Y)/\h.IsTupleIter α a i) where
 mem:=by simp
 obj:=λi h st b hb=>by
  obtain⟨⟨Y,he⟩,⟨o,ho,υ,hd⟩⟩:=st;rcases v9.mp hb with z | z
  ·subst z;exact⟨_,he,λv z=>by cases z⟩
  ·rw[hC.mp z];exact⟨o,ho,λv z=>by rw[hd] at z;cases z⟩
 keep:=λi h h' st k=>⟨let ⟨Y,he⟩:=st.1;⟨Y,k e @F _ he⟩,(let ⟨o,ho,r⟩:=st.2;⟨o,k α @F o ho,r⟩)⟩
 item:=by
  intro X hP hw η υ i pins s σ H E I hf st hg;subst hP hw η;obtain⟨xs,x,ν,θ⟩:=hg;obtain⟨its,rv,p,hz⟩:=I.tuple ν;have γ:s.heap.IsTuple a its.toArray:=p;obtain⟨⟨Y,he⟩,hl⟩:=st
  have ξ:a≠α:=λz=>by
   obtain⟨o,ho,ι,_⟩:=hl;obtain⟨o',L,χ,_⟩:=γ;rw[z,ho] at L;cases L;rw[ι] at χ;exact ik χ @C
  have ο:a≠e:=λz=>by
   obtain⟨o',L,χ,_⟩:=γ;rw[z,he] at L;cases L;exact ik (show OF "enumerate"= .type "tuple" from χ) @C
  have W:=Og (prog:=X.prog) (w:=X.w) (A:=X.A) (Draws.tuple (A:=X.A.in1) (I.ok.hd υ) α a ξ its.toArray) e O (by simp[O,J5 ο]) @F;have hi:i < its.toArray.size:=by have:=rv.length;have:=(b'.mp θ).1;simp;omega
  refine W.item i s _ _ hi ⟨⟨Y,he⟩,hl,γ⟩ λT a2 h' tk ρ hT δ φ hk=>⟨_,rfl,W.go β k pos i T _ _ _ φ λa1 ε ζ=>?_⟩;obtain⟨t,ψ,ω,rfl⟩:=ρ;have a0:=W.apart i T h' φ
  have τ:RelV x ψ:=by
   obtain⟨u,Z,r⟩:=rv.get θ;have π:its[i]? =ag ψ:=by simpa using ω
   rw[Z] at π;cases π;exact r
  have kk:∀b u,b∉[e,α]->s.heap.get? b=ag u->a1.get? b=ag u:=λb u hb q=>ζ b u hb (hk b u hb q);have fr:H T=none:=I.hok.fresh hT;refine⟨.ref T,upd H T (.tup [.int i,x]),I.laidCh (t':=tk) kk hT ⟨yH,[.int i t,ψ],.cons ⟨t,rfl⟩ (.cons τ .nil),?_⟩ hf,rfl,⟨T,x,fr,rfl,rfl,λys hy=>by rw[I.tuple_inj hy ν];exact θ⟩,⟨ε.1,ε.2.1⟩,λb hb=>?_⟩
  ·obtain⟨o,ho,r⟩:=δ;exact⟨o,ζ T o a0 ho,r⟩
  ·have fb:=(hf b hb);rw[ar (λz=>?_)]
   ·exact fb.1
   ·have lt:b < s.heap.objs.size:=by
     rcases v9.mp hb with z | z
     ·subst z;exact hL he
     ·rw[hC.mp z];obtain⟨o,ho,_⟩:=hl;exact hL ho
    rw[z] at lt;exact ik (uj lt hT) (NS _)
 done:=by
  intro X hP hw η υ i pins s σ H E I hf st hg;subst hP hw η;obtain⟨xs,ν,θ⟩:=hg;obtain⟨its,rv,p,hz⟩:=I.tuple ν;have γ:s.heap.IsTuple a its.toArray:=p;obtain⟨⟨Y,he⟩,hl⟩:=st
  have ξ:a≠α:=λz=>by
   obtain⟨o,ho,ι,_⟩:=hl;obtain⟨o',L,χ,_⟩:=γ;rw[z,ho] at L;cases L;rw[ι] at χ;exact ik χ @C
  have ο:a≠e:=λz=>by
   obtain⟨o',L,χ,_⟩:=γ;rw[z,he] at L;cases L;exact ik (show OF "enumerate"= .type "tuple" from χ) @C
  have W:=Og (prog:=X.prog) (w:=X.w) (A:=X.A) (Draws.tuple (A:=X.A.in1) (I.ok.hd υ) α a ξ its.toArray) e O (by simp[O,J5 ο]) @F;have hn:its.toArray.size=i:=by have:=rv.length;simp;omega
  subst hn;exact W.done s _ _ ⟨⟨Y,he⟩,hl,γ⟩ λh' tk hk=>⟨rfl,I.turnedCh hk hf⟩
 self:=λ_ _ _ _ _ st h=>let ⟨_,he⟩:=st.1;O1 he h
noncomputable def Hz (K:a') (tl:TE):TI:=fun σ H R=>tl σ H λx H1=>∃a,x= .ref a/\(((∃xs,SqL K H1 a xs)/\R (Ite K a) H1)∨((∃xs,SqT K H1 a xs)/\R (Itet K a) H1))
section
variable {X:Cx} {K:a'}
theorem pF {l:z3} {tl:TE} {Z:cc z3} {k:Nat} {tpos p pos:Pos} (h:X.K=K) (γ:Gl X "enumerate") (hm:X.mg "enumerate"=gs) (hl:PE X l tl) (hs:oD [l] X.env=[(false,eval l X.env)]:=by rfl):
  PI X (.Tuple Z k tpos) (.Call (.Name "enumerate" p) [l] [] pos) (Hz K tl):=by
 subst h;intro pins s σ H R I h;refine SB (kh I γ hm boot_enumerate (N3 (thn (aa hl ae hs pos pins s σ H (λvs H1=>match vs with | [x]=>∃a,x= .ref a/\(((∃xs,SqL X.K H1 a xs)/\R (Ite X.K a) H1)∨((∃xs,SqT X.K H1 a xs)/\R (Itet X.K a) H1)) | _=>False) I h) λus L ⟨vs,H1,I1,α,O⟩=>?_) hs rfl))
 match vs,α,O with
 | [x],α,O=>
 obtain⟨u,rfl,τ⟩:=α.one;obtain⟨a,rfl,O⟩:=O;cases τ
 have fin:∀b∈[L.heap.objs.size + 1,L.heap.objs.size],FpOk X pins H1 b:=λb hb=>by
  have Y:L.heap.objs.size<=b:=(v9.mp hb).elim (λz=>by rw[z];exact Pa _) (λz=>by rw[hC.mp z];exact qb _);exact I1.fpOk Y (I1.hok.fresh Y)
 rcases O with ⟨⟨xs,β⟩,q⟩ | ⟨⟨xs,β⟩,q⟩
 ·obtain⟨its,rv,pl,hz⟩:=I1.list β;refine SO pl.isList λh' he ζ hsz hk=>O1 he ?_;exact⟨L.heap.objs.size + 1,[L.heap.objs.size + 1,L.heap.objs.size],_,_,H1,rfl,I1.kept (t':=L.toks) hk,sx a _ _ (P2 (NV _)),⟨⟨_,he⟩,ζ⟩,fin,q⟩
 ·obtain⟨its,rv,pl,hz⟩:=I1.tuple β;refine kU (show L.heap.IsTuple a its.toArray from pl) λh' he ζ hsz hk=>O1 he ?_;exact⟨L.heap.objs.size + 1,[L.heap.objs.size + 1,L.heap.objs.size],_,_,H1,rfl,I1.kept (t':=L.toks) hk,zM a _ _ (P2 (NV _)),⟨⟨_,he⟩,ζ⟩,fin,q⟩
end
theorem sX {K:a'} {n:Nat} {fx:A'} {g:TG} {tc:TT} {te:TE} {σ:St} {H1:Hp} {D:eH} {Q:Hp->Prop} {a:eH} {xs:cc V} (L:Nat->cc V->Hp->Prop) (ε:L 0 [] (upd H1 D (.lst []))) (hl:∀i ys H,i<=xs.length->L i ys H->SqT K H a xs)
  (hs:∀i x ys H p H',xs[i]? =ag x->L i ys H->H p=gs->Same H H'->H' p=ag (.tup [.int i,x])->g (.ref p) (dF n fx σ) H' fun β α=>tc β α λb Z=>if b=true then te β Z λv H6=>H6 D=ag (.lst ys)/\ys.length < jF/\L (i + 1) (ys++[v]) (upd H6 D (.lst (ys++[v]))) else L (i + 1) ys Z)
  (hd:∀ys H,L xs.length ys H->Q H):
  ∃W:Nat->Nat->cc V->Hp->Prop,(∃m,W 0 m [] (upd H1 D (.lst [])))/\∀i m ys H2,W i m ys H2->((Itet K a).stop i H2/\Q H2)∨
    ((Itet K a).go i H2/\∃N:cc V->Hp->Prop,(∀O H',N O H'->∃η,η < m/\W (i + 1) η O H')/\∀x γ,(Itet K a).yld i H2 x γ->g x (dF n fx σ) γ fun β α=>tc β α λb Z=>
      if b=true then te β Z λv H6=>H6 D=ag (.lst ys)/\ys.length < jF/\N (ys++[v]) (upd H6 D (.lst (ys++[v]))) else N ys Z):=by
 refine⟨λi m ys H=>m=xs.length - i/\i<=xs.length/\L i ys H,⟨xs.length,@F,N2 _,ε⟩,?_⟩;rintro i m ys H ⟨rfl,hi,p⟩;have q:=hl i ys H hi p;by_cases Y:i < xs.length
 ·refine .inr ⟨⟨xs,xs[i],q,by simp[Y]⟩,L (i + 1),λO H' δ=>⟨xs.length - (i + 1),by omega,rfl,Y,δ⟩,λx H' y=>?_⟩;obtain⟨r,v,f,θ,ζ,y⟩:=y;subst θ ζ;exact hs i v ys H r _ (y xs q) p f (bA f) au
 ·have e:i=xs.length:=by omega
  subst e;exact .inl ⟨⟨xs,q,rfl⟩,hd ys H p⟩
section
variable {σ:St} {H:Hp} {te:TE} {R:It->Hp->Prop}
theorem bF {K:a'} (h:te σ H λx H1=>∃a,x= .ref a/\(((∃xs,SqL K H1 a xs)/\R (Ite K a) H1)∨((∃xs,SqT K H1 a xs)/\R (Itet K a) H1))):Hz K te σ H R:=h
end
namespace ZP
noncomputable abbrev Busy (h:MT) (z TI TO T:eH) (L:N1):Prop:=h.get? z=ag {cls:= .type "zip",data:= .fields #[rawInt T,.bool L,.bool false,.ref TI,.ref TO]}
section
variable {prog:ry} {w:zt} {A:zx} {E:B2} {s:hN}
structure ZGot (h:MT) (lo:Nat) (xs ys:CL) (as:D'):Prop where
 rise:as.Pairwise (· < ·)
 above:∀a∈as,lo<=a/\a < h.objs.size
 pairs:∀(j:Nat) (a:eH),as[j]? =ag a->∃x y,xs[j]? =ag x/\ys[j]? =ag y/\h.IsTuple a #[x,y]
structure ZSt (h:MT) (z TI TO i1 i2 l1 l2:eH) (lo:Nat) (xs ys:CL) (i:Nat) (as:D'):Prop where
 zp:(i=0/\IsZip h z TI TO .none)∨∃T fl,Busy h z TI TO T fl/\as[0]? =ag T
 hI:IsPair h TI (.ref i1) (.ref i2)
 hO:∃a b,IsPair h TO a b
 h1:h.IsListIter i1 l1 i
 h2:h.IsListIter i2 l2 i
 hl1:h.IsList l1 xs
 hl2:h.IsList l2 ys
 len:as.length=i
 got:ZGot h lo xs ys as
structure Und (z TI TO i1 i2 l1 l2 S:eH) (lo:Nat):Prop where
 ap:ZipApart z TI TO i1 i2 l1 l2
 Sz:S≠z
 STI:S≠TI
 STO:S≠TO
 Si1:S≠i1
 Si2:S≠i2
 Sl1:S≠l1
 Sl2:S≠l2
 z:z < lo
 TO:TO < lo
 i1:i1 < lo
 i2:i2 < lo
 S:S < lo
structure New (h:MT) (z TI TO i1 i2 l1 l2:eH) (xs ys:CL):Prop where
 ap:ZipApart z TI TO i1 i2 l1 l2
 hz:IsZip h z TI TO .none
 hI:IsPair h TI (.ref i1) (.ref i2)
 hO:∃a b,IsPair h TO a b
 h1:h.IsListIter i1 l1 0
 h2:h.IsListIter i2 l2 0
 hl1:h.IsList l1 xs
 hl2:h.IsList l2 ys
end
end ZP
open PySem PySem.Spec PyProof.Rows
structure FunD (K:a') (x qual:ic) (st:OE) (f:eH) (fd:lM) (dv:iv):Prop where
 ex:∃(oc:iv) (od:Dn) (T:eH) (kV doc pm:iv) (an:Dn) (cdv ct:iv) (osl:CM) (tc:iv) (td:Dn) (n:Nat) (tsl:CM),
  fd=NO x qual (jC st) (dI st) (ai st) (.ref T) kV doc pm an cdv ct/\K.lookup f=ag ⟨oc,od,.func fd,osl⟩/\OG K cdv qual=true/\K.lookup T=ag ⟨tc,td,.seq #[dv] n,tsl⟩
 kp:Nv K (.ref f)=true
noncomputable def Itzp (K:a') (a b:eH):It:=
 ⟨λi H=>∃xs ys x y,SqL K H a xs/\SqL K H b ys/\xs[i]? =ag x/\ys[i]? =ag y,
  λi H x H'=>∃p u v,H p=gs/\x= .ref p/\H'=upd H p (.tup [u,v])/\(∀xs,SqL K H a xs->xs[i]? =ag u)/\∀ys,SqL K H b ys->ys[i]? =ag v,
  λi H=>∃xs ys,SqL K H a xs/\SqL K H b ys/\xs.length=ys.length/\xs.length=i⟩
theorem FY {P:ry} {w:zt} {K:a'} {β:cc z3} {k:Nat} {pos:Pos} (a b z TI TO i1 i2:eH) (D:ZipApart z TI TO i1 i2 a b):
  Turn P w K (.Tuple β k pos) (Itzp K a b) [z,TI,TO,i1,i2] z (λi h=>IsZip h z TI TO .none/\IsPair h TI (.ref i1) (.ref i2)/\(∃u v,IsPair h TO u v)/\h.IsListIter i1 a i/\h.IsListIter i2 b i) where
 mem:=by simp
 obj:=λi h st c hb=>by
  obtain⟨hz,Y,⟨u,v,L⟩,⟨o1,ε,_,a3⟩,⟨o2,δ,_,a2⟩⟩:=st;simp only[v9,Oc,P'] at hb;rcases hb with e | e | e | e | e
  ·rw[e];exact⟨_,hz,λv z=>by cases z⟩
  ·rw[e];exact⟨_,Y,λv z=>by cases z⟩
  ·rw[e];exact⟨_,L,λv z=>by cases z⟩
  ·rw[e];exact⟨o1,ε,λv z=>by rw[a3] at z;cases z⟩
  ·rw[e];exact⟨o2,δ,λv z=>by rw[a2] at z;cases z⟩
 keep:=λi h h' st k=>by
  obtain⟨hz,Y,⟨u,v,L⟩,h1,h2⟩:=st;exact⟨k z @F _ hz,k TI @F _ Y,⟨u,v,k TO @F _ L⟩,h1.at λo e=>k i1 @F o e,h2.at λo e=>k i2 @F o e⟩
 item:=by
  intro X hP hw hK hc i pins s σ H E I hf st hg;subst hP hw hK;obtain⟨xs,ys,x,y,ω,ψ,hx,hy⟩:=hg;obtain⟨its,χ,pa,η⟩:=I.list ω;obtain⟨τ,υ,pb,ζ⟩:=I.list ψ;obtain⟨hz,Y,L,h1,h2⟩:=st;have W:=SX (prog:=X.prog) (w:=X.w) (A:=X.A) (I.ok.hd hc) z TI TO i1 i2 a b D its.toArray τ.toArray;have θ:i < its.length:=by have:=χ.length;have:=(b'.mp hx).1;omega
  have a7:i < τ.length:=by have:=υ.length;have:=(b'.mp hy).1;omega
  have O:∀c∈[z,TI,TO,i1,i2],c < s.heap.objs.size:=λc hb=>by
   obtain⟨u,v,L⟩:=L;obtain⟨o1,ε,_⟩:=h1;obtain⟨o2,δ,_⟩:=h2;simp only[v9,Oc,P'] at hb;rcases hb with e | e | e | e | e
   ·rw[e];exact hL hz
   ·rw[e];exact hL Y
   ·rw[e];exact hL L
   ·rw[e];exact hL ε
   ·rw[e];exact hL δ
  refine W.item i s _ _ (by simp;omega) ⟨hz,Y,L,h1,h2,pa.isList,pb.isList⟩ λT a6 h' tk ρ hT ξ φ hk=>⟨_,rfl,W.go β k pos i T _ _ _ φ λa5 ι ο=>?_⟩;obtain⟨x',y',a1,a0,rfl⟩:=ρ;have a4:=W.apart i T h' φ
  have ru:RelV x x':=by
   obtain⟨u,Z,r⟩:=χ.get hx;have π:its[i]? =ag x':=by simpa using a1
   rw[Z] at π;cases π;exact r
  have rv:RelV y y':=by
   obtain⟨u,Z,r⟩:=υ.get hy;have α:τ[i]? =ag y':=by simpa using a0
   rw[Z] at α;cases α;exact r
  have sub:∀c,c∉[z,TI,TO,i1,i2]->c∉[z,TO,i1,i2]:=λc h ν=>h (by
   simp only[v9,Oc,P'] at ν ⊢;rcases ν with e | e | e | e<;>simp[e])
  have kk:∀c u,c∉[z,TI,TO,i1,i2]->s.heap.get? c=ag u->a5.get? c=ag u:=λc u hb q=>ο c u (sub c hb) (hk c u (sub c hb) q);have fr:H T=none:=I.hok.fresh hT;refine⟨.ref T,upd H T (.tup [x,y]),I.laidCh (t':=tk) kk hT ⟨yH,[x',y'],.cons ru (.cons rv .nil),?_⟩ hf,rfl,⟨T,x,y,fr,rfl,rfl,λzs γ=>by rw[I.list_inj γ ω];exact hx,λzs γ=>by rw[I.list_inj γ ψ];exact hy⟩,⟨ι.1,ι.2.1,ι.2.2.1,ι.2.2.2.1,ι.2.2.2.2.1⟩,λc hb=>?_⟩
  ·obtain⟨o,ho,r⟩:=ξ;exact⟨o,ο T o a4 ho,r⟩
  ·rw[ar (λe=>?_)]
   ·exact(hf c hb).1
   ·have:=O c hb;rw[e] at this;exact ik (uj this hT) (NS _)
 done:=by
  intro X hP hw hK hc i pins s σ H E I hf st hg;subst hP hw hK;obtain⟨xs,ys,ω,ψ,hl,hn⟩:=hg;obtain⟨its,χ,pa,η⟩:=I.list ω;obtain⟨τ,υ,pb,ζ⟩:=I.list ψ;obtain⟨hz,Y,L,h1,h2⟩:=st;have W:=SX (prog:=X.prog) (w:=X.w) (A:=X.A) (I.ok.hd hc) z TI TO i1 i2 a b D its.toArray τ.toArray;have e:min its.toArray.size τ.toArray.size=i:=by have:=χ.length;have:=υ.length;simp;omega
  rw[e] at W
  have sub:∀c,c∉[z,TI,TO,i1,i2]->c∉[z,TO,i1,i2]:=λc h ν=>h (by
   simp only[v9,Oc,P'] at ν ⊢;rcases ν with e | e | e | e<;>simp[e])
  exact W.done s _ _ ⟨hz,Y,L,h1,h2,pa.isList,pb.isList⟩ λh' tk hk=>⟨rfl,I.turnedCh (λc u hb q=>hk c u (sub c hb) q) hf⟩
 self:=λ_ _ _ _ _ st h=>wpAny_pyIter_zip st.1 h
def JN (K:a') (R:It->Hp->Prop) (x y:V) (H:Hp):Prop:=∃a b xs ys,x= .ref a/\y= .ref b/\SqL K H a xs/\SqL K H b ys/\xs.length=ys.length/\R (Itzp K a b) H
noncomputable def iZip (K:a') (Y ψ:TE):TI:=fun σ H R=>Y σ H λx H1=>ψ σ H1 λy H2=>JN K R x y H2
theorem Kw {K:a'} {Y ψ:TE} {σ:St} {H:Hp} {R:It->Hp->Prop} (h:Y σ H λx H1=>ψ σ H1 λy H2=>JN K R x y H2):iZip K Y ψ σ H R:=h
section
variable {X:Cx} {K:a'}
theorem KZ {e1 e2:z3} {θ ψ:TE} {Z:cc z3} {k:Nat} {tpos p pos:Pos} (hK:X.K=K) (ε:Gl X "zip") (n2:X.mg "zip"=gs) (δ:PE X e1 θ) (γ:PE X e2 ψ)
  (h2:oD [e1,e2] X.env=(false,eval e1 X.env)::oD [e2] X.env:=by rfl) (ν:oD [e2] X.env=[(false,eval e2 X.env)]:=by rfl):
  PI X (.Tuple Z k tpos) (.Call (.Name "zip" p) [e1,e2] [] pos) (iZip K θ ψ):=by
 subst hK;intro pins s σ H R I h;refine SB (kh I ε n2 PyProof.Rows.boot_zip (N3 (thn (aa δ (aa γ ae ν) h2 pos pins s σ H (λvs H1=>match vs with | [x,y]=>JN X.K R x y H1 | _=>False) I h) λus L ⟨vs,H1,I1,α,β⟩=>?_) h2 (by rw[ν];rfl)))
 match vs,α,β with
 | [x,y],α,β=>
 obtain⟨a,b,xs,ys,ex,ey,sa,φ,hl,q⟩:=β;subst ex ey;cases α with
 | cons ω υ=>
 cases υ with
 | cons χ r3=>
 cases r3;cases ω;cases χ;obtain⟨its,ra,ι,η⟩:=I1.list sa;obtain⟨a0,rb,pb,ζ⟩:=I1.list φ;have τ:a < L.heap.objs.size:=let ⟨o,e,_⟩:=ι.isList;hL e
 have lb:b < L.heap.objs.size:=let ⟨o,e,_⟩:=pb.isList;hL e
 have fin:∀c∈[L.heap.objs.size + 4,L.heap.objs.size + 2,L.heap.objs.size + 3,L.heap.objs.size,L.heap.objs.size + 1],FpOk X pins H1 c:=λc hb=>by
  have O:L.heap.objs.size<=c:=by
   simp only[v9,Oc,P'] at hb;rcases hb with e | e | e | e | e<;>rw[e]<;>omega
  exact I1.fpOk O (I1.hok.fresh O)
 refine call_zip_2 ι.isList pb.isList λh' Y ρ π ο ξ hsz k=>wpAny_pyIter_zip Y ?_;exact⟨L.heap.objs.size + 4,_,_,_,H1,rfl,I1.kept (t':=L.toks) k,FY a b _ _ _ _ _ (zipApart_new τ lb),⟨Y,ρ,⟨_,_,π⟩,ο,ξ⟩,fin,q⟩
end
theorem JB {K:a'} {a b:eH} {xs ys:cc V} {g:TG} {tb:TS} {D:Ends} {σ:St} {H:Hp} (hl:xs.length=ys.length) (L:Nat->St->Hp->Prop) (ε:L 0 σ H) (hq:∀i σ H,i<=xs.length->L i σ H->SqL K H a xs/\SqL K H b ys)
  (hs:∀i x y σ H p H',xs[i]? =ag x->ys[i]? =ag y->L i σ H->H p=gs->Same H H'->H' p=ag (.tup [x,y])->g (.ref p) σ H' λO H2=>tb {D with nx:=L (i + 1),ct:=L (i + 1),bk:=D.nx} O H2) (hd:∀σ H,L xs.length σ H->D.nx σ H):
  ∃W:Nat->Nat->St->Hp->Prop,(∃m,W 0 m σ H)/\∀i m σ H,W i m σ H->
    ((Itzp K a b).stop i H/\D.nx σ H)∨((Itzp K a b).go i H/\∃N:St->Hp->Prop,(∀σ' H',N σ' H'->∃η,η < m/\W (i + 1) η σ' H')/\∀x H',(Itzp K a b).yld i H x H'->g x σ H' λO H2=>tb {D with nx:=N,ct:=N,bk:=D.nx} O H2):=by
 refine⟨λi m σ H=>m=xs.length - i/\i<=xs.length/\L i σ H,⟨xs.length,@F,N2 _,ε⟩,?_⟩;rintro i m σ H ⟨rfl,hi,p⟩;obtain⟨α,Z⟩:=hq i σ H hi p;by_cases Y:i < xs.length
 ·refine .inr ⟨⟨xs,ys,xs[i],ys[i]' @A,α,Z,by simp[Y],by simp[show i < ys.length by omega]⟩,L (i + 1),fun σ' H' δ=>⟨xs.length - (i + 1),by omega,rfl,Y,δ⟩,λx H' y=>?_⟩;obtain⟨r,u,v,f,θ,ζ,γ,β⟩:=y;subst θ ζ;exact hs i u v σ H r _ (γ xs α) (β ys Z) p f (bA f) au
 ·have e:i=xs.length:=by omega
  subst e;exact .inl ⟨⟨xs,ys,α,Z,hl,rfl⟩,hd σ H p⟩
noncomputable abbrev xBM:CB:=[.type "ValueError",.type "Exception",.type "BaseException",.type "object"]
noncomputable abbrev xRec (C:eH) (dx:Dn) (t:eH):Obj:={cls:= .ref C,dict:=dx,data:= .fields #[.ref t,.none,.none,.none,.bool false,.none]}
noncomputable def ExcF (p C:eH) (dx:Dn):HO:= .ext λh=>∃t,h.get? p=ag (xRec C dx t)
theorem yf {P:ry} {w:zt} {H:Hp} {h:MT} {p C t:eH} {dx:Dn} (e:h.get? p=ag (xRec C dx t)):eB P w H h p (ExcF p C dx):=
 ⟨⟨t,e⟩,⟨_,e⟩,λ_ _ ⟨t,e⟩ k=>⟨t,k _ e⟩⟩
def ExcV (H:Hp) (p C:eH) (fs:cc (ic×V)):Prop:=∃dx,H p=ag (ExcF p C dx)/\match dx with | none=>fs=[] | some d=>H d=ag (.xd fs)
structure XOwn (K:a') (C W f:eH):Prop where
 lk:∃nm q N bs sn sub ab col dd k0 k1 k2 k3 k5,K.lookup C=ag (excClassObj nm q C N bs (.ref W::xBM) true sn sub ab col dd k0 k1 k2 k3 k5 "ValueError.__new__")
 up:OQ K W xBM "ValueError.__new__"=true
 init:wq K (.ref C) "__init__"=ag (ag (.ref f))
 fn:Qq K (.ref f)=true
 kp:Nv K (.ref C)=true
 sa:wq K (.ref C) "__setattr__"=ag (ag (.builtin "object.__setattr__"))
 mo:MZ K C (.type "object")=ag true
 mv:MZ K C (.type "ValueError")=ag true
theorem CJ {K:a'} {W:eH} (q:OQ K W xBM "ValueError.__new__"=true):QT K xBM (.ref W::xBM)=true:=by
 unfold OQ at q;unfold QT;split at q
 next dd γ Y ho=>
  split at q
  next θ bm k0 k1 k2 k3 n k5 hm hs=>
   simp only[wb,OP,Sr] at q;obtain⟨⟨⟨⟨⟨β,α⟩,O⟩,Z⟩,hok⟩,L⟩:=q;rw[SL];refine .inr ?_;dsimp only;rw[ho];dsimp only;rw[hok,L];unfold QT;simp
  next=>cases q
 next=>cases q
section
variable {prog:ry} {w:zt} {A:zx} {E:B2} {h:MT} {g:Qb GenState} {d:Drawn} {t:Nat} {os:OsState}
variable {nm q:ic} {C N:eH} {bs bm bmB:CB} {hdct:N1} {sn:A6} {sub:CB} {ab:N1} {col:ov N1} {dd:Dn} {k0 k1 k2 k3 k5:J2} {B newId initId:Np}
theorem rL (F:ExcBaseFacts B newId initId bmB) (T:OwnTail h bmB bm) {K:a'} (X:K.In h) {rest:CB} {β:eH} {Q:Fin->hN->Prop}
  (ρ:h.get? C=ag (excClassObj nm q C N bs bm hdct sn sub ab col dd k0 k1 k2 k3 k5 newId)) (hi:wq K (.ref C) "__init__"=ag (ag (.ref β))) (hf:PQ K (.ref β)=ag (.type "function"))
  (δ:∀h' e,R8 h h' e (.ref C) rest->
   ll (ph prog w) A (call (.ref β) (.ref e::rest)) (λr s'=>r= .none/\Q (.done (.ret (.ref e))) s') E ⟨h',g,d,t,os⟩) (Y:rest.length<=jF):
  ll (ph prog w) A (Builtin.«type.__call__» ⟨.ref C::rest,[]⟩) Q E ⟨h,g,d,t,os⟩:=by
 repeat (first | with_reducible refine OV ρ ?_ | with_reducible refine wpAny_madeBy_exc ρ ?_ | wp_step)
 refine codeAny_call_builtin_code (Qv _ F.quiet) (wpAny_check_new_subT F T ρ ?_);refine codeAny_exc_new_subT F T ρ ?_ Y;show ll _ _ _ _ _ _
 have Z:=eW {cls:= .ref C,data:= .fields #[.ref h.objs.size,.none,.none,.none,.bool false,.none]}
  (eW {cls:= .type "tuple",data:= .seq rest.toArray} ρ)
 have O:K.In ((h.push {cls:= .type "tuple",data:= .seq rest.toArray}).push {cls:= .ref C,data:= .fields #[.ref h.objs.size,.none,.none,.none,.bool false,.none]}):=
  X.keeps λb o e=>eW _ (eW _ e)
 have L:((h.push {cls:= .type "tuple",data:= .seq rest.toArray}).push
   {cls:= .ref C,data:= .fields #[.ref h.objs.size,.none,.none,.none,.bool false,.none]}).get? (h.objs.size + 1)=ag
   {cls:= .ref C,data:= .fields #[.ref h.objs.size,.none,.none,.none,.bool false,.none]}:=by heap_get
 have α:(sb C::bm).contains (.ref C)=true:=by simp
 unfold isInstance
 repeat (first | with_reducible refine OV L ?_ | (with_reducible refine SM Z ?_;rw[α]) | wp_step)
 show ll _ _ (typeLookup (.ref C) _) _ _ _;refine(Oj O hi).at ?_;refine Nx (fI ?_);unfold bindSpecial;refine fI ((RA O hf).at ?_);rw[kn @C];refine ix (fI (Nk (δ _ (h.objs.size + 1) ⟨λb o hb=>eW _ (eW _ hb),OY (Pa _),h.objs.size,L,OY (qb _),?_⟩) (λr s' γ=>?_) λ_ _ x=>x))
 ·exact eW _ (Sq rfl rfl)
 ·obtain⟨rfl,ε⟩:=γ
  wp_walk
  exact ε
theorem Fg (F:ExcBaseFacts B newId initId bmB) (T:OwnTail h bmB bm) {K:a'} (X:K.In h) {rest:CB} {O:eH} {Q:B2}
  (ρ:h.get? C=ag (excClassObj nm q C N bs bm hdct sn sub ab col dd k0 k1 k2 k3 k5 newId)) (hi:wq K (.ref C) "__init__"=ag (ag (.ref O))) (hf:PQ K (.ref O)=ag (.type "function"))
  (Y:∀h' e,R8 h h' e (.ref C) rest->
   ll (ph prog w) (A.under (.builtin "type.__call__" ⟨.ref C::rest,[]⟩)) (call (.ref O) (.ref e::rest)) (λr s'=>r= .none/\Q (.ref e) s') E ⟨h',g,d,t,os⟩) (L:rest.length<=jF):
  ll (ph prog w) A (call (.ref C) rest) Q E ⟨h,g,d,t,os⟩:=by
 have α:=tc_lookup;have Z:=tc_bind (.ref C);have hT:(⟨h,g,d,t,os⟩:hN).TypeIs (.ref C) "type":=⟨_,ρ,rfl⟩;refine OO (Rx ?_);show ll _ _ (callAny (.ref C) _) _ _ _
 repeat (any_goals (first | assumption | with_reducible refine OV ρ ?_ | wp_step))
 refine⟨rfl,?_⟩;refine codeAny_call_builtin_at (Qv _ @G) entry_typeCall (wpAny_check_type_call_sub ρ (rL F T X ρ hi hf (λh' e hm=>?_) L));exact Y h' e hm
end
section
variable {prog:ry} {w:zt} {A:zx} {E:B2} {s:hN} {K:a'} {x C W f:eH} {name:ic} {v:iv}
theorem XOwn.cls {h:MT} (c:XOwn K C W f):∃L,R1 K C=ag L/\L.hasDict=true/\L.mro= .ref C:: .ref W::xBM:=by
 obtain⟨nm,q,N,bs,sn,sub,ab,col,dd,k0,k1,k2,k3,k5,e⟩:=c.lk;refine⟨{name:=nm,bases:=bs,mro:= .ref C:: .ref W::xBM,ns:=N,qualname:=q,hasDict:=true,slotNames:=sn,subclasses:=sub,abstract:=ab,collection:=col,hasDel:=false},?_,rfl,rfl⟩;unfold R1;rw[e]
open Builtin.ObjectAttr in
theorem DW {O:Rk} {od:ov Rk} {tk:Tok} {R:F'} (X:K.In s.heap) (I:P7 s.heap x O C od) (c:XOwn K C W f) (n:bH K C name)
  (h:∀b,ll (ph prog w) A.in1 (storeInOwnDict (.ref x) (.ref C) (.str name tk) name v b)
   (λfin s'=>match fin with | .done f=>R (.ok f) s' | .again L=>L.quiet=true/\codeAny (ph prog w) A L R s') (λe s'=>R (.error e) s') s):
  codeAny (ph prog w) A (.call (.builtin "object.__setattr__") ⟨[.ref x,.str name tk,v],[]⟩) R s:=by
 have SF:=PySem.F.store_object;obtain⟨Z,Y,hd,hm⟩:=c.cls (h:=s.heap);have sub:OR (ph prog w) s.heap (isInstance (.ref x) (.type "object")) true:=I.type.andThen (OX X c.mo);refine P9 SF.slot.plain SF.entry (@RS (ph prog w) _ _ s "object.__setattr__" "object" "__setattr__" (.ref x) [.str name tk,v] [] _ SF.kind SF.split sub (SF.args (.ref x) (.str name tk) v) ?_);have L1:OR (ph prog w) s.heap (mroOf (.ref C)) (.ref C:: .ref W::xBM):=hm ▸ (Q1 X Y).andThen .now;have ha:wq K (.ref C) name=ag none:=n;have L3:OR (ph prog w) s.heap (storeTaker? gs) none:= .now;rw[PySem.W.osa_eq,refuse_eq];refine fI (fI (I.type.here (fI (L1.here ?_))));rw[refuseLoop_ref,refuseLoop_ref,PySem.F.store_ValueError.passes];refine ix (fI (I.type.here (fI ((Oj X ha).here (fI (L3.here ?_))))));exact h _
open Builtin.ObjectAttr in
theorem Iz {t:eH} {Q:CN} (X:K.In s.heap) (c:XOwn K C W f) (n:bH K C name) (e:s.heap.get? x=ag (xRec C gs t))
  (h:∀h',h'.Ns1 s.heap.objs.size (λy=>if y=name then ag v else gs)->h'.get? x=ag (xRec C (ag s.heap.objs.size) t)->(∀b o,b≠x->s.heap.get? b=ag o->h'.get? b=ag o)->Q () {s with heap:=h',toks:=s.toks + 2}):
  ll (ph prog w) A (setAttr (.ref x) name v) Q E s:=by
 have J:P7 s.heap x (xRec C gs t) C none:=⟨e,rfl,rfl,trivial⟩;refine RZ X J c.sa (DW (s:={s with toks:=s.toks + 1}) X J c n λb=>?_);obtain⟨ζ,β,hd,hm⟩:=c.cls (h:=s.heap);refine fI (ix (fI (fI (RN e (fI (R3 (s:={s with toks:=s.toks + 1}) (Q1 X β) ?_))))));rw[hd];have O:(s.heap.push {cls:= .type "dict",data:= .dict #[]}).get? x=ag (xRec C gs t):=eW _ e;have ι:x≠s.heap.objs.size:=y2 (hL e);refine fI (wpAny_alloc' ?_);refine fI (wpAny_update' O ?_);refine ix ?_
 have α:((s.heap.push {cls:= .type "dict",data:= .dict #[]}).update x λo=>{cls:=o.cls,dict:=ag s.heap.objs.size,data:=o.data,slots:=o.slots}).get? s.heap.objs.size
   =ag {cls:= .type "dict",data:= .dict #[]}:=(Qm _ _ _ _ ι.symm).trans (Sq rfl rfl)
 have hnd:((s.heap.push {cls:= .type "dict",data:= .dict #[]}).update x λo=>{cls:=o.cls,dict:=ag s.heap.objs.size,data:=o.data,slots:=o.slots}).Ns s.heap.objs.size (λ_=>gs):=
  ⟨_,#[],_,α,rfl,λe he=>ik he @F,λ_=>rfl⟩
 have L:((s.heap.push {cls:= .type "dict",data:= .dict #[]}).update x λo=>{cls:=o.cls,dict:=ag s.heap.objs.size,data:=o.data,slots:=o.slots}).get? x=ag (xRec C (ag s.heap.objs.size) t):=
  NJ _ O rfl
 show ll _ _ (storeInDict s.heap.objs.size (.str name _) name v) _ _ _;unfold storeInDict newKeyGuard;refine fI (ix (fI (wpAny_nsSet1 (RV hnd) λh' Y hs=>?_)));obtain⟨ε,γ,δ,Z,υ,φ⟩:=Y.count (Within.cons name v Within.nil);refine fI (wpAny_lookBehind Z (by rw[υ];exact pastItsLine_dict (NK φ (by rw[y1,Pk,hJ];omega))) ?_);exact ix (h h' Y ((hs.2 x ι).trans L) λb o hb q=>(hs.2 b (y2 (hL q))).trans ((Qm _ _ _ _ hb).trans (eW _ q)))
theorem Jz {γ:Rk} {Y:ov Rk} {O:N1} {Q:B2} (X:K.In s.heap) (c:XIsi K C) (I:P7 s.heap x γ C Y) (hf:PySem.W.findObj K C Y name=ag (.value v)) (hv:Po v=true)
  (h:Q v {s with toks:=s.toks + 1}):ll (ph prog w) A (getAttr (.ref x) name O) Q E s:=by
 obtain⟨θ,ζ,d,t,os⟩:=s;have L0:=I.type (M:=ph prog w);have L1:=Oj (M:=ph prog w) X c.ga;have L2:=Oj (M:=ph prog w) X c.gr;have L3:=PySem.W.looks_find (M:=ph prog w) X I hf;have ε:OR (ph prog w) θ (isInstance (.ref x) (.type "BaseException")) true:=L0.andThen (OX X c.base);unfold getAttr getAttrBy;refine fI (wpAny_mkText (Nx (fI (L0.at (fI (L1.at ?_))))));dsimp only;have Z:(Qj "BaseException.__getattribute__" == Qj "object.__getattribute__")=false:=by decide +kernel
 rw[hQ (by rw[Z,Ou];exact hV)];unfold getAttrByItsOwn hookBefore;rw[kn @D];refine fI (L2.at (fI (wpAny_attempt (Nx ?_))));unfold callGetattribute;rw[show(O&&onTheHeap (Qj "BaseException.__getattribute__"))=false from Ou _,hQ @F];unfold boundAndCalled;refine fI (Qy (F.attr_ValueError.ga.bind _) ?_);have hk:builtinKind "BaseException.__getattribute__"=ag .slot:=by decide +kernel
 have L:splitId "BaseException.__getattribute__"=ag ("BaseException","__getattribute__"):=by decide +kernel
 have pl:=F.attr_ValueError.ga.plain;have δ:=F.entry_bexc_ga;show ll _ _ (call (.builtin "BaseException.__getattribute__") [.ref x,.str name t]) _ _ _;refine OO (P9 pl δ ?_);have β:=F.args_bexc_ga (.ref x) (.str name t);generalize α:"BaseException.__getattribute__"=id0 at hk L β ⊢;refine RS (self:= .ref x) (rest:=[.str name t]) (kw:=[]) hk L ε β ?_;unfold Builtin.«object.__getattribute__»;refine fI (Qy (a:=(sb x,[Pt name t])) rfl ?_);dsimp only;refine fI (Qy (a:=name) rfl ?_);refine fI (L0.at (fI (L3.at ?_)));refine ix ?_;show ll _ _ (handedOut v) _ _ _;rw[PySem.W.handedOut_of hv];exact ix h
end
theorem yX {α:Type} {x:α}:[x].length<=sizeLine:=by show 1<=_;rw[hJ];decide
section
variable {X:Cx} {pins:B'} {σ:St} {H:Hp} {s:hN} {p C W f:eH} {fs:cc (ic×V)}
noncomputable def KG (K:a') (ta tv:TE) (f:ic):TS:=λD σ H=>tv σ H λy H1=>ta σ H1 λx H2=>∃p C W g,x= .ref p/\H2 p=ag (ExcF p C gs)/\XOwn K C W g/\bH K C f/\
 ∀d,H2 d=gs->d≠p->D.nx σ (upd (upd H2 d (.xd [(f,y)])) p (ExcF p C (ag d)))
def HI (K:a') (f:ic) (y:V) (D:Ends) (σ:St) (x:V) (H:Hp):Prop:=∃p C W g,x= .ref p/\H p=ag (ExcF p C gs)/\XOwn K C W g/\bH K C f/\
 ∀d,H d=gs->d≠p->D.nx σ (upd (upd H d (.xd [(f,y)])) p (ExcF p C (ag d)))
theorem oG {K:a'} {f:ic} {te tv:TE} {D:Ends} (h:tv σ H λy H1=>te σ H1 (HI K f y D σ)):KG K te tv f D σ H:=h
theorem mJ {K:a'} {f:ic} {y:V} {D:Ends} {g:eH} (e:H p=ag (ExcF p C gs)) (c:XOwn K C W g) (n:bH K C f)
  (h:∀H2,ExcV H2 p C [(f,y)]->(∀b u,b≠p->H b=ag u->H2 b=ag u)->D.nx σ H2):HI K f y D σ (.ref p) H:=
 ⟨p,C,W,g,rfl,e,c,n,λd hd ne=>h _ ⟨ag d,au,by show upd _ p _ d=_;rw[ar ne,au]⟩ λb u hb q=>by rw[ar hb,ar (ao q hd)];exact q⟩
theorem p3 {K:a'} {o value:z3} {ta tv:TE} {f:ic} {pos pos':Pos} (h:X.K=K) (ha:PE X o ta) (hv:PE X value tv) (hs:swapsWith value (ag (.Attribute o f pos')) pos.line X.env=pure false):PS X (.Assign [.Attribute o f pos'] value pos) (KG K ta tv f):=by
 subst h;intro pins s σ H D I h;refine R9 (thn (hv pins s σ H _ I h) λu ζ ⟨y,H1,O,η,q⟩=>thn (ha pins ζ σ H1 _ O q) fun ν L ⟨x,H2,I2,θ,p,C,W,g,ex,ea,c,n,φ⟩=>?_) hs;subst ex;obtain rfl:ν=sb p:=θ;obtain⟨⟨t,ι⟩,_⟩:=I2.hok p _ ea;refine Iz I2.kIn c n ι λh' ns δ keep=>?_;have hf:=I2.hok.fresh (qb L.heap.objs.size);have Y:L.heap.objs.size≠p:=P2 (hL ι);obtain⟨α,es,ξ,β,Z⟩:=id ns;have γ:=(Heap.get?_some_iff.mp β).2;have ε:(L.heap.push α).get? L.heap.objs.size=ag α:=kv L.heap γ
 have I3:=I2.laid (a:=L.heap.objs.size) (o:= .xd [(f,y)]) (h':=L.heap.push α) (t':=L.toks) (λb u q=>eW _ q) (qb _)
  ⟨_,⟨α,es,ξ,ε,Z⟩,λk=>by
    by_cases hk:k=f
    ·subst hk;simp only[QD,Ot,Od];exact η
    ·have hb:(k == f)=false:=z4.mpr hk;simp only[hQ hk,Ot,hb];exact trivial⟩
 have ο:=I3.write (x:=p) (e:=p) (o:=ExcF p C (ag L.heap.objs.size)) (h':=h') (t':=L.toks + 2) (by rw[ar Y.symm,ea];exact Os) (.inl rfl) (λb u hb q=>?_) ⟨_,δ⟩ (yf δ)
 ·exact⟨σ,_,ο,φ _ hf Y⟩
 ·by_cases hz:b=L.heap.objs.size
  ·subst hz;have q:(L.heap.push α).get? L.heap.objs.size=ag u:=q;rw[ε] at q;cases q;exact β
  ·refine keep b u hb ?_;have q:(L.heap.push α).get? b=ag u:=q;rw[Heap.get?_push_ne _ _ _ hz] at q;exact q
structure LO (K:a') (W:eH):Prop where
 ga:Oe K (.ref W) "__getattribute__"=ag (ag (.builtin "type.__getattribute__"))
 rd:Sd K W (.type "type")=true
 fd:Sf K (.ref W) (.type "type") "__init__"=ag (.val (.builtin "ValueError.__init__"))
noncomputable def Hi (K:a') (t:TA):TE:=fun σ H Q=>t σ H λvs H1=>∃p C W g dx u,vs=[.ref p,u]/\H1 p=ag (ExcF p C dx)/\XOwn K C W g/\Q .non H1
def FA (K:a') (Q:VK) (vs:cc V) (H:Hp):Prop:=∃p C W g dx u,vs=[.ref p,u]/\H p=ag (ExcF p C dx)/\XOwn K C W g/\Q .non H
theorem jW {K:a'} {t:TA} {Q:VK} (h:t σ H (FA K Q)):Hi K t σ H Q:=h
theorem jV {K:a'} {dx:Dn} {u:V} {Q:VK} (e:H p=ag (ExcF p C dx)) (m:XOwn K C W f) (h:Q .non H):FA K Q [.ref p,u] H:=⟨p,C,W,f,dx,u,rfl,e,m,h⟩
theorem FU {a:iv} {dx:Dn} {Q:VK} (I:Inv X pins σ H s) (e:H p=ag (ExcF p C dx)) (m:XOwn X.K C W f) (h:Q .non H):
  ll (ph X.prog X.w) X.A (call (.builtin "ValueError.__init__") [.ref p,a]) (EP X pins σ Q) X.xe s:=by
 obtain⟨⟨t,ι⟩,_⟩:=I.hok p _ e;have FB:=N6;obtain⟨nm,α,N,bs,sn,sub,ab,col,dd,k0,k1,k2,k3,k5,lk⟩:=m.lk;have ρ:=I.kIn _ _ lk;have T:OwnTail s.heap xBM (.ref W::xBM):=Q8 I.kIn (CJ m.up);obtain⟨θ,g,d,tk,os⟩:=s;refine OO (P9 FB.init.plain FB.initEntry (wpAny_check_init_subT FB T ρ ι rfl ?_));unfold Builtin.«BaseException.__init__»;show ll _ _ (newTuple [a] >>=λtv=>Pr (.ref p) 0 tv >>=λ_=>ret .none) _ _ _;refine fI (wpAny_newTuple ?_ yX);have L:(θ.push {cls:= .type "tuple",data:= .seq [a].toArray}).get? p=ag (xRec C dx t):=eW _ ι;unfold Pr;refine fI (fI (O0 L rfl rfl (fI (OT L rfl (Nat.succ_pos 5) ?_))));have Y:=NJ (NZ (·.setIfInBounds 0 (.ref θ.objs.size))) L rfl
 have O:=(I.kept (t':=tk) (h':=θ.push {cls:= .type "tuple",data:= .seq [a].toArray}) (λb u q=>eW _ q)).write (x:=p) (e:=p) (o:=ExcF p C dx)
  (h':=(θ.push {cls:= .type "tuple",data:= .seq [a].toArray}).update p (NZ (·.setIfInBounds 0 (.ref θ.objs.size)))) (t':=tk) (by rw[e];exact Os) (.inl rfl) (λb u hb q=>(Qm _ _ _ _ hb).trans q) ⟨_,Y⟩ (yf (t:=θ.objs.size) Y)
 have Z:upd H p (ExcF p C dx)=H:=by
  funext b;by_cases hb:b=p
  ·subst hb;rw[au,e]
  ·rw[ar hb]
 rw[Z] at O;unfold letGo letGo;refine fI (Nx (wpAny_point ?_));exact ix (ix ⟨.non,H,O,rfl,h⟩)
theorem mT {x:ic} {np apos pos:Pos} {e:z3} {es:cc z3} {t:TA} {K:a'} {pl:Sem N1} (η:X.K=K) (δ:Gl X x) (hx:X.mg x=ag (.ref W)) (c:LO K W) (ha:PA X (e::es) t)
  (ω:(x == ("__debug__":ic))=false:=by decide) (ι:oD (e::es) X.env=(false,eval e X.env)::oD es X.env:=by rfl) (L:(backTo pos (oD es X.env)).any (·.1)=false:=by rfl)
  (β:eval (.Call (.Attribute (.Name x np) "__init__" apos) (e::es) [] pos) X.env=(do
   let Z <-eval (.Name x np) X.env
   standAt apos.atName
   let (f,first) <-holding [Z] (getMethod Z "__init__" pl)
   callWith pos f first (backTo pos (oD (e::es) X.env)) (backToKw pos (keywordEach [] X.env))):=by rfl):
  PE X (.Call (.Attribute (.Name x np) "__init__" apos) (e::es) [] pos) (Hi K t):=by
 subst η;intro pins s σ H Q I h;refine PD (pl:=pl) (h9 I δ hx ?_ ω) β;refine RQ I.kIn c.ga (S0 I.kIn c.rd c.fd rfl ?_);have O:=I.tok (s.toks + 1);refine Q7 (thn (ha pos pins _ σ H _ O h) λus ν ⟨vs,H1,θ,r,p,C,Y,ε,dx,u,ev,γ,hm,φ⟩=>?_) ι L;subst ev;obtain⟨ζ,ο,rfl,α,ξ⟩:=J7 r;obtain rfl:ζ= .ref p:=α;exact FU θ γ hm φ
theorem tM {st:OE}:PS X st (λ_ _ _=>False):=λ_ _ _ _ _ _ h=>h.elim
end
end L2
namespace PySem
theorem F.entry_dict_update_loop:entryFor table "dict.update.loop"=ag Builtin.«dict.update.loop»:=entryFor_of_tree (by kernel_rfl)
theorem F.plain_dict_update_loop:plainId "dict.update.loop"=true:=by decide +kernel
theorem F.list_keys_none:typeLookup (.type "list") "keys"=pure none:=by rw[Rv,Qr];kernel_rfl
theorem xO {prog:ry} {w:zt} {A:zx} {E:B2} {s:hN} {a:eH} {xs:CL} {k:Nat} {name:ic} {Q:J2->hN->Prop}
  (β:s.heap.get? a=ag {cls:= .type "list",data:= .seq xs k}) (Y:typeLookup (.type "list") name=pure gs) (O:(["__module__","__name__","__qualname__","__doc__","__annotations__"]:A6).contains name=false) (δ:A.handled=gs)
  (h:∀h' tk,(∀b o,s.heap.get? b=ag o->h'.get? b=ag o)->Q gs {s with heap:=h',toks:=tk}) (hsz:name.length + 100<=sizeLine:=by size_fits):
  ll (ph prog w) A (getAttr? (.ref a) name) Q E s:=by
 obtain⟨γ,g,d,tk,os⟩:=s;have hT:∀Z,(⟨γ,g,d,Z,os⟩:hN).TypeIs (.ref a) "list":=λ_=>⟨_,β,rfl⟩;have ζ:=sub_AttributeError;have L:=F.slot_list_getattribute.lookup;have ξ:=F.slot_list_getattribute.bind (.ref a);have ν:=am_list_getattr_none;unfold getAttr? getAttrBy? getAttrBy
 repeat (any_goals (first | assumption | exact hT _ | ((with_reducible show ll _ _ (call (Qj "list.__getattribute__") _ _) _ _ _);refine O4 F.slot_list_getattribute (hT _) am_entry_list_getattribute (F.args_list_getattribute_2 _ _) (meets_getattribute_miss_list a xs k #[] name _ Y O hsz) ⟨β,δ,λh' Z e α=>?_⟩) | wp_step))
 obtain⟨t',ε,he⟩:=α.there;show ll _ _ (getattributeRaised _ _ _ _ _ _ _) _ _ _;unfold getattributeRaised
 repeat (any_goals (first | assumption | wp_step))
 exact h _ _ α.keeps
section
variable {prog:ry} {w:zt} {K:Type} [DecidableEq K] {knd:KeyKind prog w K} {A:zx} {R:F'} {I:eH} {fp wr:D'} {n:Nat} {P:Nat->iv->Prop} {St:Nat->MT->Prop}
def HJ (knd:KeyKind prog w K) (h:MT) (a:eH) (θ:K×iv):Prop:=∃L o n,h.get? a=ag o/\o.cls= .type "tuple"/\o.data= .seq #[L,θ.2] n/\knd.is θ.1 L=true
theorem rf {h h':MT} {d:eH} {L:cc (K×iv)} (hm:h.DictOf knd d L) (f:∀o,h.get? d=ag o->h'.get? d=ag o):h'.DictOf knd d L:=let ⟨o,es,O,ho,r⟩:=hm;⟨o,es,O,f o ho,r⟩
theorem mx (W:Walks prog w A.in1 I fp wr n P St) (d:eH) (ζ:d∉fp) (more:cc (K×iv)) (hn:more.length=n) (hsz:n<=jF) (tup:Nat->eH) (Z:∀i,i < n->tup i∉wr/\tup i≠d) (hP:∀i v,i < n->P i v->v= .ref (tup i)):
  ∀(k j:Nat) (s:hN) (O:Int) (t:Tok),n - j=k->j<=n->St j s.heap->s.heap.DictOf knd d (merged [] (more.take j))->(∀i θ,more[i]? =ag θ->HJ knd s.heap (tup i) θ)->
  (∀h' tk,h'.DictOf knd d (merged [] more)->(∀b o,b∉wr->b≠d->s.heap.get? b=ag o->h'.get? b=ag o)->R (.ok (.ret .none)) {s with heap:=h',toks:=tk})->
  codeAny (ph prog w) A (.builtin "dict.update.loop" ⟨[.ref d,.ref I,.int O t,.none],[]⟩) R s:=by
 have π:d∉wr:=λh=>ζ (W.sub _ h);intro k
 induction k with
 | zero=>
   intro j s O t hk hj ι hd ψ hR;have φ:j=n:=by omega
   subst φ;refine OK F.entry_dict_update_loop ?_;rw[Om F.plain_dict_update_loop _];show ll _ A.in1 (pyNext (.ref I) >>=_) _ _ s;refine fI (W.done s _ _ ι λh' tk υ=>?_);show ll _ A.in1 (Builtin.Dict.addKeywords d [] >>=_) _ _ _;refine fI (ix (ix ?_));rw[<-hn,mu] at hd;exact hR h' tk (rf hd λo e=>υ d o π e) λb o hb _ e=>υ b o hb e
 | succ k ih=>
   intro j s O t hk hj ι hd ψ hR;have Y:j < n:=by omega
   refine OK F.entry_dict_update_loop ?_;rw[Om F.plain_dict_update_loop _];show ll _ A.in1 (pyNext (.ref I) >>=_) _ _ s;refine fI (W.item j s _ _ Y ι λv h' tk a4 ξ υ=>?_);have ev:=hP j v Y a4;subst ev;obtain⟨θ,δ⟩:∃θ,more[j]? =ag θ:=⟨_,c' @A⟩;obtain⟨α,ob,m,ht,a3,a0,ε⟩:=ψ j θ δ;have β:=υ _ _ (Z j Y).1 ht;show ll _ A.in1 (holding [sb (tup j)] _ >>=_) _ _ _;refine fI (Nx (fI (wpAny_tryCatch ?_)));unfold Builtin.Dict.pairItems;refine fI (Sj (T:="tuple") ⟨_,β,a3⟩ ?_);rw[kn @C];refine fI (Qz β a0 ?_);refine ix ?_;show ll _ A.in1 (holding [α,θ.2] (dictSet d α θ.2)) _ _ _;have a2:h'.DictOf knd d (merged [] (more.take j)):=rf hd λo e=>υ d o π e;refine Nx (wpAny_dictSet_pairs (s:={s with heap:=h',toks:=tk}) ε a2 (λh2 τ γ=>?_) (hsz:=by have:=merged_length_le [] (more.take j);rw[Pk,qo] at this;omega));rw[<-merged_take_succ [] more j θ δ] at τ;have kp:∀b o,b∉wr->b≠d->s.heap.get? b=ag o->h2.get? b=ag o:=λb o hb L e=>(γ.2 b L).trans (υ b o hb e);refine ix ⟨PP F.plain_dict_update_loop _,ih (j + 1) _ _ _ @A Y (W.frame _ _ _ ξ λb hb o e=>?_) τ (λi ρ hi=>?_) λh3 χ a1 ω=>?_⟩
   ·exact(γ.2 b λz=>ζ (z ▸ hb)).trans e
   ·obtain⟨ν,o',η,e',x'⟩:=ψ i ρ hi;have ο:i < n:=by rw[<-hn];exact(b'.mp hi).1
    exact⟨ν,o',η,kp _ _ (Z i ο).1 (Z i ο).2 e',x'⟩
   ·exact hR h3 χ a1 λb o hb L e=>ω b o hb L (kp b o hb L e)
end
section
variable {prog:ry} {w:zt} {K:Type} [DecidableEq K] {knd:KeyKind prog w K} {A:zx} {E:B2} {s:hN}
theorem rz {l:eH} {its:CL} {c:Nat} {more:cc (K×iv)} {tup:Nat->eH} {Q:B2} (ο:A.handled=gs) (hl:s.heap.get? l=ag {cls:= .type "list",data:= .seq its c})
  (hn:more.length=its.size) (hsz:its.size<=jF) (ζ:∀(i:Nat) (v:iv),its[i]? =ag v->v= .ref (tup i)) (ξ:∀i θ,more[i]? =ag θ->HJ knd s.heap (tup i) θ) (nd:(more.map (·.1)).Nodup)
  (h:∀h' tk,h'.DictOf knd s.heap.objs.size more->(∀b o,s.heap.get? b=ag o->h'.get? b=ag o)->Q (.ref s.heap.objs.size) {s with heap:=h',toks:=tk}):
  ll (ph prog w) A (call (.type "dict") [.ref l]) Q E s:=by
 refine callType_codes (Q₁:=λobj Z=>obj= .ref s.heap.objs.size/\Z={s with heap:=s.heap.push {cls:= .type "dict",data:= .dict #[]}}) F.kt_called_dict (F.kt_typeCall_dict_1 _) F.entry_dict_init (kt_code_dict_new _ ⟨rfl,rfl⟩) ?_;rintro obj Z ⟨rfl,rfl⟩;have L:(s.heap.push {cls:= .type "dict",data:= .dict #[]}).DictOf knd s.heap.objs.size []:=RL s.heap;have α:(s.heap.push {cls:= .type "dict",data:= .dict #[]}).get? l=ag {cls:= .type "list",data:= .seq its c}:=eW _ hl;refine⟨L.typeIs,F.args_dict_init_2 _ _,?_⟩;unfold Builtin.«dict.__init__»;refine fI ?_;unfold Builtin.Dict.selfAndRest;refine fI (wpAny_notOrdered_dict L.typeIs ?_);show ll _ _ (pure (s.heap.objs.size,[sb l])) _ _ _;refine ix ?_;show ll _ _ (QP "dict.__init__" s.heap.objs.size (.ref l) [] .none) _ _ _;unfold QP;refine fI (Sj (T:="list") ⟨_,α,rfl⟩ ?_);rw[kn @C];refine fI (xO α F.list_keys_none @C ο λh' tk hk=>?_);rw[kn (show(gs:J2).isNone=true from rfl)];have hl2:=hk _ _ α;have γ:l < s.heap.objs.size:=hL hl;have δ:h'.DictOf knd s.heap.objs.size []:=rf L λo e=>hk _ _ e;have Y:s.heap.objs.size < h'.objs.size:=by obtain⟨o,_,_,ho,_⟩:=δ;exact hL ho
 have β:∀i,i < its.size->tup i < s.heap.objs.size:=λi hi=>by
  obtain⟨θ,ι⟩:∃θ,more[i]? =ag θ:=⟨_,c' @A⟩;obtain⟨_,_,_,e,_⟩:=ξ i θ ι;exact hL e
 refine fI (wpAny_rule ?_);refine fI (OU (items:=its) ⟨_,hl2,rfl,c,rfl⟩ ?_);have W:=QZ (prog:=prog) (w:=w) (A:=A.in1.in1) ο h'.objs.size l (y2 (QR γ Y)) its;refine ix ⟨PP F.plain_dict_update_loop _,mx (knd:=knd) (A:=A.in1) W s.heap.objs.size ?_ more hn hsz tup (λi hi=>⟨?_,?_⟩) (λi v _ e=>ζ i v e) _ 0 _ _ _ rfl (N2 _) ⟨⟨_,kv _ rfl,rfl,rfl⟩,?_⟩ ?_ (λi θ hi=>?_) fun π ε O ν=>?_⟩
 ·intro hm;rcases v9.mp hm with e | hm
  ·exact ik e (y2 Y)
  ·exact ik (hC.mp hm).symm (y2 γ)
 ·intro hm;exact ik (hC.mp hm) (y2 (QR (β i hi) Y))
 ·exact y2 (β i hi)
 ·exact⟨_,eW _ hl2,rfl,c,rfl⟩
 ·exact δ.push _
 ·obtain⟨η,ob,m,e,x⟩:=ξ i θ hi;exact⟨η,ob,m,eW _ (hk _ _ (eW _ e)),x⟩
 ·rw[merged_nil_of_nodup more nd] at O;refine⟨rfl,h π ε O λb o e=>ν b o (λhm=>?_) ?_ (eW _ (hk _ _ (eW _ e)))⟩
  ·exact ik (hC.mp hm) (y2 (QR (hL e) Y))
  ·exact y2 (hL e)
end
end PySem
namespace L2
open PySem PySem.Spec PyProof.Rows
noncomputable def Hw:cc V->Hp->VK->Prop:=λxs H Q=>∃(l:eH) (ps:cc (eH×Key×V)),xs=[.ref l]/\H l=ag (.lst (ps.map λq=>V.ref q.1))/\(∀q∈ps,H q.1=ag (.tup [kV q.2.1,q.2.2]))/\(ps.map λq=>q.2.1).Nodup/\
 ∀d,H d=gs->Q (.ref d) (upd H d (.dK (ps.map (·.2))))
section
variable {X:Cx}
theorem oE (hc:X.calm=true):nO X (.type "dict") Hw:=by
 intro pins s σ H xs us Q I r h;obtain⟨l,ps,rfl,hl,χ,nd,q⟩:=h;obtain⟨u,rfl,ν⟩:=rK r;cases ν;obtain⟨z,its,c,rv,τ,el⟩:=I.lstM hl;rw[ak] at z τ
 have get:∀(i:Nat) q,ps[i]? =ag q->its[i]? =ag (.ref q.1)/\∃L v o n,s.heap.get? q.1=ag o/\o.cls= .type "tuple"/\o.data= .seq #[L,v] n/\(cZ X.prog X.w).is q.2.1 L=true/\RelV q.2.2 v:=λi q O=>by
  obtain⟨u,Z,ξ⟩:=Vals.get (x:=V.ref q.1) rv (by rw[hH,O];rfl);cases ξ;refine⟨Z,?_⟩;have e:=χ q (hA O);obtain⟨_,us,rt,φ⟩:=I.hok _ _ e;obtain⟨a,b,rfl,π,ο⟩:=Vals.two rt;obtain⟨o,ho,ι,n,η⟩:=φ;exact⟨a,b,o,n,ho,ι,η,x4 π,ο⟩
 obtain⟨vs,Y⟩:∃vs:cc (Key×iv),vs=(Na ps.length).map λi=>match ps[i]? with
  | some q=>(q.2.1,match s.heap.get? q.1 with | some o=>(match o.data with | .seq xs _=>xs.getD 1 .none | _=> .none) | none=> .none)
  | none=>(.inl 0,.none):=⟨_,rfl⟩
 have ρ:∀(i:Nat) q,ps[i]? =ag q->∃L v o n,vs[i]? =ag (q.2.1,v)/\s.heap.get? q.1=ag o/\o.cls= .type "tuple"/\o.data= .seq #[L,v] n/\(cZ X.prog X.w).is q.2.1 L=true/\RelV q.2.2 v:=λi q O=>by
  obtain⟨_,L,v,o,n,e,β,ζ,k,rv⟩:=get i q O;have hi:=(b'.mp O).1;refine⟨L,v,o,n,?_,e,β,ζ,k,rv⟩;rw[Y,hH,Qk hi];show ag (match ps[i]? with | some q=>_ | none=>_)=_;rw[O];show ag (q.2.1,match s.heap.get? q.1 with | some o=>_ | none=>_)=_;rw[e];show ag (q.2.1,match o.data with | .seq xs _=>_ | _=>_)=_;rw[ζ];rfl
 have ε:vs.length=ps.length:=by rw[Y,ak,So]
 clear Y
 have α:vs.map (·.1)=ps.map λq=>q.2.1:=by
  apply OC;intro i;rw[hH,hH];cases O:ps[i]? with
  | none=>rw[M' (by rw[ε];exact List.getElem?_eq_none_iff.mp O)];rfl
  | some q=>obtain⟨_,v,_,_,e,_⟩:=ρ i q O;rw[e];rfl
 have θ:KV (ps.map (·.2)) vs:=by
  refine vw (by rw[ak,ε]) λi a b ha hb=>?_;rw[hH] at ha;obtain⟨q,O,rfl⟩:=Nn.mp ha;obtain⟨_,v,_,_,e,_,_,_,_,rv⟩:=ρ i q O;rw[e] at hb;cases hb;exact⟨rfl,rv⟩
 refine rz (knd:=cZ X.prog X.w) (its:=its.toArray) (c:=c) (more:=vs) (tup:=λi=>match ps[i]? with | some q=>q.1 | none=>0) (I.ok.hd hc) el (by rw[ε,τ];simp) (by simpa using(τ ▸ z)) (λi v e=>?_) (λi υ e=>?_) (by rw[α];exact nd) λh' tk hd hk=>?_
 ·have hi:i < ps.length:=by rw[τ];have:=(Nw.mp e).1;simpa using this
  obtain⟨δ,O⟩:∃δ,ps[i]? =ag δ:=⟨_,c' hi⟩;have β:=(get i δ O).1;have e:its[i]? =ag v:=by simpa using e
  rw[β] at e;cases e;rw[O]
 ·have hi:i < ps.length:=by rw[<-ε];exact(b'.mp e).1
  obtain⟨δ,O⟩:∃δ,ps[i]? =ag δ:=⟨_,c' hi⟩;obtain⟨L,v,o,n,ω,β,ζ,ψ,γ,_⟩:=ρ i δ O;rw[ω] at e;cases e;rw[O];exact⟨L,o,n,β,ζ,ψ,γ⟩
 ·refine⟨.ref s.heap.objs.size,_,I.laid (t':=tk) hk (qb _) (show eB X.prog X.w _ h' _ (.dK (ps.map (·.2))) from⟨by rw[ak];exact z,z4.mpr λe=>ik e.symm (y2 I.big),vs,θ,hd⟩),rfl,q _ (I.hok.fresh (qb _))⟩
end
section
variable {H:Hp} {Q:VK}
theorem xx {l:eH} {ps:cc (eH×Key×V)} (e:H l=ag (.lst (ps.map λq=>V.ref q.1))) (L:∀q∈ps,H q.1=ag (.tup [kV q.2.1,q.2.2])) (nd:(ps.map λq=>q.2.1).Nodup) (h:∀d H2,H d=gs->Same H H2->H2 d=ag (.dK (ps.map (·.2)))->Q (.ref d) H2):Hw [.ref l] H Q:=⟨l,ps,rfl,e,L,nd,fk h⟩
end
end L2
namespace PySem
section
variable {M:Model} {A:zx} {E:B2} {env:Env} {s:hN}
variable {nm q:ic} {C N:eH} {bs bm:CB} {hdct:N1} {sn:A6} {sub:CB} {ab:N1} {col:ov N1} {dd:Dn} {k0 k1 k2 k3 k5:J2} {newId:Np}
theorem me {x:Sem iv} {Q:Flow->hN->Prop} (Y:bm.contains (.type "BaseException")=true) (θ:A.handled=gs)
  (h:ll M A x (λv O=>∃e t dx,v= .ref e/\O.heap.get? C=ag (excClassObj nm q C N bs bm hdct sn sub ab col dd k0 k1 k2 k3 k5 newId)/\
   O.heap.get? e=ag {cls:= .ref C,dict:=dx,data:= .fields #[.ref t,.none,.none,.none,.bool false,.none]}/\E (.ref e) O) E s):
  ll M A (raiseStmt env (ag x) gs) Q E s:=by
 have Z:(sb C::bm).contains (.type "BaseException")=true:=by rw[List.contains_cons,Y,P8]
 unfold raiseStmt;refine fI (Nk h (λv O L=>?_) λ_ _ x=>x);obtain⟨e,t,dx,rfl,ρ,he,δ⟩:=L;obtain⟨α,g,d,tk,os⟩:=O
 repeat (first | with_reducible refine OV he ?_ | with_reducible refine OV ρ ?_ | (with_reducible refine SM ρ ?_;rw[Z]) | wp_step)
 exact wpAny_raiseNew_none θ δ
theorem yA {x:z3} {pos:Pos} {Q:Flow->hN->Prop} (Y:bm.contains (.type "BaseException")=true) (θ:A.handled=gs)
  (h:ll M A (eval x env) (λv O=>∃e t dx,v= .ref e/\O.heap.get? C=ag (excClassObj nm q C N bs bm hdct sn sub ab col dd k0 k1 k2 k3 k5 newId)/\
   O.heap.get? e=ag {cls:= .ref C,dict:=dx,data:= .fields #[.ref t,.none,.none,.none,.bool false,.none]}/\E (.ref e) O) E s):
  ll M A (exec (.Raise (ag x) gs pos) env) Q E s:=by
 rw[arm_exec_Raise]
 first
  | exact fI (O5 (me Y θ (fI (Nk h (λv O L=>fI (O5 (ix L))) λ_ _ x=>x))))
  | (simp only[evalOpt,RY];exact fI (O5 (me Y θ (fI (Nk h (λv O L=>fI (O5 (ix L))) λ_ _ x=>x)))))
  | (show ll M A (do standAt pos;raiseStmt env (ag (do let v <-eval x env;standAt pos;pure v)) gs) Q E s;exact fI (O5 (me Y θ (fI (Nk h (λv O L=>fI (O5 (ix L))) λ_ _ x=>x)))))
end
end PySem
namespace L2
open PySem PySem.Spec PyProof.Rows
noncomputable def del (H:Hp) (p:eH):Hp:=λb=>if b=p then gs else H b
theorem zc {H:Hp} {p:eH}:del H p p=none:=kn rfl
theorem lC {H:Hp} {p b:eH} (h:b≠p):del H p b=H b:=hQ h
theorem pJ {H:Hp} {p b:eH} (h:H b=gs):del H p b=none:=by unfold del;split;rfl;exact h
theorem nF {H:Hp} {p b:eH} {o u:HO} (e:H p=ag o) (h:H b=ag u) (n:o≠u):del H p b=ag u:=by
 rw[lC λz=>by subst z;rw[e] at h;cases h;exact n rfl];exact h
section
variable {X:Cx} {pins:B'} {σ:St} {H:Hp} {s:hN} {p:eH}
theorem Inv.untrack {φ:MT->Prop} (I:Inv X pins σ H s) (e:H p=ag (.ext φ)):Inv X pins σ (del H p) s:=by
 have U:=I.base;refine⟨I.ok,I.os,I.bare,⟨U.keep,U.slot,λb ob q n O=>pJ (U.free b ob q n O),U.there,λb xs q=>nF e (U.tups b xs q) (λz=>by cases z),λb o u q=>nF e (U.frzs b o u q) (λz=>by cases z),λb ps q=>?_⟩,I.loc,I.cell,pJ I.free,λy c q=>pJ (I.freeC y c q),λL Y=>?_,λb ob q=>?_,I.len⟩
 ·obtain⟨m,δ⟩:=U.tbls b ps q;exact⟨m,nF e δ (λz=>by cases z)⟩
 ·obtain⟨q,n,r⟩:=I.pin L Y;exact⟨q,pJ n,r⟩
 ·by_cases z:b=p
  ·rw[z,zc] at q;cases q
  ·rw[lC z] at q;exact(I.hok b ob q).stay (λ_ _ _ q=>q) (λc q=>nF e q (λz=>by cases z)) λc xs q=>nF e q (λz=>by cases z)
noncomputable def CK (C:eH) (sp:Sp) (E:XK) (L:XW) (t:TA):TS:=λ_ σ H=>t σ H λvs H1=>∃v,vs=[v]/\∀x,H1 x=gs->sp [.ref x,v] (upd H1 x (ExcF x C gs)) (λv H2=>v= .non/\∃dx,H2 x=ag (ExcF x C dx)/\L σ (.ref C) dx (del H2 x)) E
def uK (C:eH) (sp:Sp) (E:XK) (L:XW) (σ:St) (vs:cc V) (H:Hp):Prop:=∃v,vs=[v]/\∀x,H x=gs->sp [.ref x,v] (upd H x (ExcF x C gs)) (λv H2=>v= .non/\∃dx,H2 x=ag (ExcF x C dx)/\L σ (.ref C) dx (del H2 x)) E
theorem iA {C:eH} {sp:Sp} {E:XK} {L:XW} {t:TA} {D:Ends} (h:t σ H (uK C sp E L σ)):CK C sp E L t D σ H:=h
theorem i6 {C:eH} {sp:Sp} {E:XK} {L:XW} {v:V} (h:∀x H2,H x=gs->Same H H2->H2 x=ag (ExcF x C gs)->sp [.ref x,v] H2 (λv H2=>v= .non/\∃dx,H2 x=ag (ExcF x C dx)/\L σ (.ref C) dx (del H2 x)) E):uK C sp E L σ [v] H:=
 ⟨v,rfl,λx f=>h x _ f (λb o e=>by rw[ar (ao e f)];exact e) au⟩
theorem j7 {C W f:eH} {CX:CXT} {k:Nat} {fd:lM} {ps:A6} {sp:Sp} {E:XK} {ι:XW} {x:ic} {np cpos pos:Pos} {e:z3} {es:cc z3} {t:TA} (M:XOwn X.K C W f) (F:FnOk X.prog X.w X.K X.mg X.base CX k f fd ps sp) (hr:Room (k + 1) X.A) (hg:Gl X x) (hm:X.mg x=ag (.ref C))
  (hb:my X.K fd ps []) (ψ:nM CX X E) (ht:Thr X ι) (hc:X.calm=true) (ha:PA X (e::es) t)
  (ω:(x == ("__debug__":ic))=false:=by decide) (he:oD (e::es) X.env=(false,eval e X.env)::oD es X.env:=by rfl) (Y:(backTo cpos (oD es X.env)).any (·.1)=false:=by rfl):
  PS X (.Raise (ag (.Call (.Name x np) (e::es) [] cpos)) gs pos) (CK C sp E ι t):=by
 intro pins s σ H D I h;obtain⟨nm,τ,N,bs,sn,sub,ab,col,dd,k0,k1,k2,k3,k5,lk⟩:=M.lk;refine yA (C:=C) (nm:=nm) (q:=τ) (N:=N) (bs:=bs) (bm:= .ref W::xBM) (hdct:=true) (sn:=sn) (sub:=sub) (ab:=ab) (col:=col) (dd:=dd) (k0:=k0) (k1:=k1) (k2:=k2) (k3:=k3) (k5:=k5) (newId:="ValueError.__new__") @F (I.ok.hd hc) ?_;refine NC (h9 I hg hm ?_ ω);refine O6 (h₀:=X.base) I.ok.mod.kin M.kp (thn (ha cpos pins s σ H _ I h) λus γ ⟨vs,H1,I1,r,v,ev,q⟩=>⟨I1.kIn,?_⟩) he Y;subst ev;have ρ:=I1.kIn _ _ lk;have T:OwnTail γ.heap xBM (.ref W::xBM):=Q8 I1.kIn (CJ M.up);have KI:=I1.kIn;obtain⟨θ,g,d,tk,os⟩:=γ;refine Fg N6 T KI ρ M.init (OP.mp M.fn) (λh' e m=>?_) (by show us.length<=_;rw[<-r.length];exact yX);obtain⟨tt,χ,φ,q3⟩:=m.there;obtain⟨I2,β⟩:=Eh I1 m;have I3:=I2.track β.fe (yf χ);have δ:=q e β.fe.1;have υ:Vals [V.ref e,v] (sb e::us):= .cons rfl r
 have hl:(sb e::us++[]).length=ps.length:=by
  have z:=υ.length;rw[F.len _ _ _ _ δ] at z;rw[z5];exact z.symm
 have bd:=hb _ (sb e::us) I3.kIn hl;rw[z5] at bd;refine OO (Oi (F.run _ X.stack _ _ ⟨sb e::us,[]⟩ (sb e::us) _ _ E (hr.make C us []) (I3.env0.make C us []) bd υ δ) λr s' α=>?_);cases r with
 | error e=>exact ψ pins σ _ _ e s' I3 α
 | ok ζ=>
   cases ζ with
   | ret u=>
     obtain⟨v,H',I4,rv,ev,dx,ε,ο⟩:=I3.after α;subst ev;obtain⟨⟨π,η⟩,_⟩:=I4.hok e _ ε;obtain⟨O,f1,Z,L,ξ,ν⟩:=β.fe;exact⟨rv,e,π,dx,rfl,I4.kIn _ _ lk,η,ht _ _ ⟨pins,e,.ref C,dx,gs,σ,del H' e,rfl,I4.untrack ε,⟨⟨_,_,η,rfl,rfl,rfl,by simp,by simp⟩,⟨zc,f1,Z,L,ξ,ν⟩,λt ζ z=>by cases z⟩,ο⟩⟩
   | next=>exact LI α
   | brk=>exact LI α
   | cont=>exact LI α
end
def ExcC (H:Hp) (p C:eH) (fs:cc (ic×V)):Prop:=∃d,H p=ag (ExcO p (.ref C) (ag d))/\H d=ag (.xd fs)
section
variable {X:Cx} {pins:B'} {σ:St} {H:Hp} {s:hN} {p C:eH} {fs:cc (ic×V)}
theorem ExcC.inst (I:Inv X pins σ H s) (e:ExcC H p C fs):∃(L o:Rk) (mA:CD),P7 s.heap p L C (ag o)/\(∀n,P6 n o=ag (mA n))/\∀n,RelO (fs.lookup n) (mA n):=by
 obtain⟨d,a,b⟩:=e;obtain⟨⟨ο,vs,ι,Z,Y,O⟩,_⟩:=I.hok p _ a;obtain⟨mA,ns,r⟩:=I.hok d _ b;obtain⟨od,ho,hl⟩:=vI ns;exact⟨ο,od,mA,⟨ι,Z,by unfold PySem.W.notCls;rw[O],by rw[Y];exact ho⟩,hl,r⟩
noncomputable def Kf (K:a') (ta:TE) (f:ic):TE:=fun σ H Q=>ta σ H λx H1=>∃p C fs v,x= .ref p/\ExcC H1 p C fs/\XIsi K C/\Of K C=true/\bH K C f/\fs.lookup f=ag v/\Q v H1
def HM (K:a') (f:ic) (Q:VK) (x:V) (H:Hp):Prop:=∃p C fs v,x= .ref p/\ExcC H p C fs/\XIsi K C/\Of K C=true/\bH K C f/\fs.lookup f=ag v/\Q v H
theorem oI {K:a'} {f:ic} {te:TE} {Q:VK} (h:te σ H (HM K f Q)):Kf K te f σ H Q:=h
theorem mL {K:a'} {f:ic} {v:V} {Q:VK} (e:ExcC H p C fs) (c:XIsi K C) (d:Of K C=true) (n:bH K C f) (l:fs.lookup f=ag v) (h:Q v H):HM K f Q (.ref p) H:=⟨p,C,fs,v,rfl,e,c,d,n,l,h⟩
theorem p4 {K:a'} {e:z3} {ta:TE} {f:ic} {pos:Pos} (h:X.K=K) (he:PE X e ta) (hb:attributeBase e f X.env (eval e X.env)=eval e X.env):PE X (.Attribute e f pos) (Kf K ta f):=by
 subst h;intro pins s σ H Q I h;refine Fk hb (thn (he pins s σ H _ I h) λu Y ⟨x,H1,I1,L,p,C,fs,v,ex,ea,c,d,n,l,q⟩=>?_);subst ex;obtain rfl:u=sb p:=L;obtain⟨α,o,mA,J,hl,r⟩:=ea.inst I1;obtain⟨O,Z,τ⟩:=RelO.some_of (v:=v) (o:=mA f) (by rw[<-l];exact r f);exact Jz I1.kIn c J (RI (attr:=gs) d n rfl (by rw[hl,Z])) (vS τ) ⟨v,H1,I1.tok _,τ,q⟩
end
inductive PH (X:Cx) (Wo:XW):cc ExceptHandler->(Ends->XW)->Prop where
 | nil:PH X Wo [] (λ_=>Wo)
 | cons {G:eH} {g n:ic} {i:Nat} {gp hp:Pos} {b₀:OE} {suite:cc OE} {ts:TS} {hs:cc ExceptHandler} {WR:Ends->XW} (cg:i4 X.K G) (hg:Gl X g) (hm:X.mg g=ag (.ref G)) (hi:X.N[i]? =ag n) (hk:X.env.scope.names.lookup n=ag .local)
   (hs':∀pins e,PSs (X.mark pins e) (b₀::suite) ts) (hdb:(g == ("__debug__":ic))=false) (r:PH X Wo hs WR):PH X Wo (.ExceptHandler (ag (.Name g gp)) (ag n) (b₀::suite) hp::hs) (λD=>WTry X.K G i (WR D) ts D)
noncomputable def DF:V->cc V->Hp->VK->Prop:=λx vs H Q=>∃(l:eH) (zs:A6) (z:ic) (j:Nat),x= .ref l/\vs=[.str z]/\H l=ag (.lst (zs.map V.str))/\zs[j]? =ag z/\(∀i,i < j->zs[i]? ≠ag z)/\Q (.int j) H
noncomputable def uV (m:ic):iv->N1
 | .str i _=>i.cps.toList == m.cps.toList
 | _=>false
section
variable {X:Cx}
theorem Ee:MtM X "list.index" DF:=by
 intro pins s σ H x xs v us Q I ε rs h;obtain⟨l,ns,m,j,rfl,rfl,ζ,δ,Y,q⟩:=h;cases ε;obtain⟨u,rfl,τ⟩:=Vals.one rs;obtain⟨t,rfl⟩:=τ;obtain⟨z,its,n,r,hl,e⟩:=I.lstM ζ
 have at':∀i:Nat,∀(h:i < its.length),∃k t,ns[i]? =ag k/\its[i]= .str k t:=λi h=>by
  have hi:i < ns.length:=by rw[ak] at hl;omega
  obtain⟨u,Z,τ⟩:=r.get (i:=i) (x:= .str ns[i]) (by rw[hH,c' hi];rfl);obtain⟨t,rfl⟩:=τ;rw[c' h] at Z;exact⟨ns[i],t,c' hi,ui Z⟩
 have L:j < its.length:=by
  have:=(b'.mp δ).1;rw[ak] at hl;omega
 refine O4 F.slot_list_index ⟨_,e,rfl⟩ F.entry_list_index (F.args_list_index_2 _ _)
  (MeetsSeq.list_index l its.toArray n (.str m t) (uV m) ?_ j (by rw[sv];exact L) (by have:jF=sizeLine:=rfl;rw[hJ] at *;omega) ?_ ?_) ⟨e,?_⟩
 ·intro y γ;rw[SA] at γ;obtain⟨i,hi,rfl⟩:=M9.mp γ;obtain⟨k,ψ,_,O⟩:=at' i hi;rw[O];exact Qw k m ψ t
 ·obtain⟨k,ψ,hk,O⟩:=at' j L;rw[δ] at hk;cases hk;show uV m its[j]=true;rw[O];simp[uV]
 ·intro i hi α;rw[sv] at hi;obtain⟨k,ψ,hk,O⟩:=at' i hi;show uV m its[i]=false;rw[O];show(k.cps.toList == m.cps.toList)=false;rw[z4];intro β;have β:k=m:=by cases k;cases m;congr 1;exact QO.mp β
  rw[β] at hk;exact Y i α hk
 ·exact⟨.int j,H,I.tok _,⟨_,rfl⟩,q⟩
end
theorem Gp {l:eH} {zs:A6} {z:ic} {j:Nat} {H:Hp} {Q:VK} (e:H l=ag (.lst (zs.map V.str))) (L:zs[j]? =ag z) (hn:∀i,i < j->zs[i]? ≠ag z) (h:Q (.int j) H):DF (.ref l) [.str z] H Q:=⟨l,zs,z,j,rfl,rfl,e,L,hn,h⟩
structure JT (osc:NT) (ON N:A6) (n:Nat) (fx:A') (x0:ic) (sc:NT):Prop where
 kind:sc.kind= .function
 one:∃pre post,sc.names=pre++(x0,.cell)::post/\(∀y∈pre,y.2≠.cell)/\∀y∈post,y.2≠.cell
 its:sc.names.lookup x0=ag .cell
 own:∀y∈sc.names,y.2= .local->sc.names.lookup y.1=ag .local
 fre:∀y∈sc.names,y.2= .free->osc.names.lookup y.1=ag .cell∨osc.names.lookup y.1=ag .free
 len:N.length=n + fx.length
 frn:∀k,k < fx.length->∃x j,N[n + k]? =ag x/\fx[k]? =ag j/\ON[j]? =ag x/\sc.names.lookup x=ag .free
section
variable {X:Cx} {pins:B'} {σ:St} {H:Hp} {s:hN}
noncomputable def Gz (osc L:NT):Scope:={L with names:=L.names.map λ(n,k)=>if (k == N5&&osc.kind == .function&&osc.names.lookup n == ag .cell) then (n,Oz) else (n,k)}
theorem JI {osc:NT} {N:A6} {sc:NT} {υ:G'} {C:eH} {fp:D'} (h:X.env.scope=osc):(je X N sc υ C fp s H).env.scope=Gz osc sc:=by subst h;rfl
end
section
variable {σ:St} {H:Hp} {D:Ends} {t u:TS}
theorem Km (h:∀R:St->Hp->Prop,(∀σ H,u D σ H->R σ H)->t {D with nx:=R} σ H):tSeq t u D σ H:=h _ λ_ _ q=>q
theorem s_go {R X:St->Hp->Prop} (e:∀σ H,X σ H->R σ H) (h:X σ H):R σ H:=e _ _ h
end
end L2
namespace ST
open PySem PySem.SetTable
structure Tb (t:SetTable) (hs:Dk):Prop where
 dm:t.dummies=#[]
 pn:t.plain=true
 rs:t.place.toList.Pairwise (· < ·)
 sz:t.place.toList.length=hs.length
 nf:hs.length * 5 < t.mask * 3
 k:(t.mask=7/\∀j∈t.place.toList,j<=7)∨((t.mask=31∨t.mask=127)/\t.place.toList.map (λn:Nat=>(n:Int))=hs)
noncomputable def bm:A'->Nat
 | []=>0
 | j::l=>2 ^ j||| bm l
structure Ow (M:Nat) (owner:Qb (ov Nat)) (pre:Dk):Prop where
 sz:owner.size=M + 1
 at':∀j,j<=M->owner.getD j gs=pre.findIdx? (· == (j:Int))
noncomputable def fin (t:SetTable) (es:Qb (Int×iv)) (h:Int) (x:iv):Qb (Int×iv)×SetTable:=
 if (!(layNew t es h x).2.2.1&&(layNew t es h x).2.1.tooFull)=true then ((relayAll (layNew t es h x).2.1 (layNew t es h x).1 (grown (layNew t es h x).1.size)).1,(relayAll (layNew t es h x).2.1 (layNew t es h x).1 (grown (layNew t es h x).1.size)).2.1) else ((layNew t es h x).1,(layNew t es h x).2.1)
open PyProof.Rows
noncomputable abbrev byT (w:zt):Bool:=w.params.followText "set-order"
structure SI (w:zt) (o:Rk) (ns:Dk) (es:Qb (Int×iv)) (ep:Nat) (t:SetTable):Prop where
 ex:o.ExactSet
 d:o.data= .set es ep t
 v:∀e∈es.toList,∃tk,e.2= .int e.1 tk
 p:(es.toList.map (·.1)).Perm ns
 f:t.fits es.size=true
 l:t.led= !byT w
 tb:byT w=false->Tb t (es.toList.map (·.1))
section
variable {prog:ry} {w:zt} {A:zx} {E:B2} {s:hN}
noncomputable abbrev nso (w:zt):Obj:={cls:= .type "set",dict:=gs,data:= .set #[] 0 (.fresh 0 0 (!byT w))}
theorem G5 (a:iv) {Q:B2} (h:Q (.ref s.heap.objs.size) {s with heap:=s.heap.push (nso w)}):
  codeAny (ph prog w) A (.call (.builtin "set.__new__") ⟨[.type "set",a],[]⟩) (wants Q E) s:=by
 refine Rx (show ll _ A.in1 (checkBuiltinCall "set.__new__" ⟨[.type "set",a],[]⟩ >>=λ_=>again (.builtin "set.__new__" ⟨[.type "set",a],[]⟩)) _ _ s from ?_);refine fI (Qy (F.newCall_set_1 a) (ix ⟨PP F.plain_set_new _,OK F.entry_set_new ?_⟩));rw[Om F.plain_set_new _];unfold Builtin.«set.__new__» Builtin.Frozenset.newClass;have L:=sub_set_self;obtain⟨O,g,d,tk,os⟩:=s;dsimp only
 wp_walk
 refine wpAny_askSetting (ix ?_);dsimp only;simp only[newObj];exact fI (wpAny_alloc (ix (ix h)))
end
open PySem.W PySem.Spec L2
end ST
namespace L2
open PySem PySem.Spec PyProof.Rows
end L2
namespace ST
open PySem PySem.SetTable PyProof.Rows
section
variable {prog:ry} {w:zt} {A:zx} {R:F'} {I:eH} {fp wr:D'} {G:Qb GenState->Qb GenState->Prop} {P:Nat->iv->Prop} {St:Nat->hN->Prop}
def SS (prog:ry) (w:zt) (h:MT) (a:eH) (zs:A6):Prop:=h.SetOf (strKind prog w) a (λk=>decide (k∈zs)) zs.length
theorem SS.at' {h h':MT} {a:eH} {zs:A6} (S:SS prog w h a zs) (hk:∀o,h.get? a=ag o->h'.get? a=ag o):SS prog w h' a zs:=by
 obtain⟨o,es,L,t,ho,rest⟩:=S;exact⟨o,es,L,t,hk _ ho,rest⟩
theorem Ei {zs:A6} (W:WalksS prog w A.in1 I fp wr G zs.length P St) (S:eH) (O:S∉fp) (hv:∀i v,P i v->∃n t,zs[i]? =ag n/\v= .str n t) (nd:zs.Nodup) (hl:zs.length < 1000):
  ∀(k i:Nat) (s:hN),zs.length - i=k->i<=zs.length->St i s->SS prog w s.heap S (zs.take i)->
    (∀s',Moved (S::wr) G s s'->SS prog w s'.heap S zs->R (.ok (.ret .none)) s')->
    codeAny (ph prog w) A (.builtin "set.update.loop" ⟨[.ref S,.ref I],[]⟩) R s:=by
 have υ:S∉wr:=λz=>O (W.sub _ z);have up:∀b∈wr,b∈S::wr:=λ_ z=>px _ z;intro k
 induction k with
 | zero=>
   intro i s ο ξ st Z η;obtain rfl:i=zs.length:=by omega
   rw[mu] at Z;refine OK F.entry_set_update_loop ?_;rw[Om F.plain_set_update_loop _];exact fI (m:=pyNext (.ref I)) (W.done s _ _ st λs' mv=>ix (η s' (mv.mono up) (Z.at' λo e=>mv.heap S _ υ e)))
 | succ k ih=>
   intro i s ο ξ st Z η;have lt:i < zs.length:=by omega
   refine OK F.entry_set_update_loop ?_;rw[Om F.plain_set_update_loop _];refine fI (m:=pyNext (.ref I)) (W.item i s _ _ lt st λv s' ρ α mv=>?_);obtain⟨n,tk,hn,rfl⟩:=hv i v ρ;have ζ:=Z.at' (h':=s'.heap) λo e=>mv.heap S _ υ e;refine fI (m:=holding [Pt n tk] (setAdd S (.str n tk))) (Nx ?_);unfold setAdd;have L:(strKind prog w).is n (.str n tk)=true:=by show Qi n (.str n tk)=true;simp[Qi]
   refine Nx (fI ((strKind prog w).pyHash (k:=n) L ?_))
   have Y:n∉zs.take i:=λz=>by
    obtain⟨j,ν,e⟩:=M9.mp z;rw[qo] at ν;rw[QI] at e;have:=List.pairwise_iff_getElem.mp nd j i @A lt @A;rw[e,(b'.mp hn).2] at this;exact this rfl
   refine wpAny_setAddHashed_of (knd:=strKind prog w) (s:={s' with toks:=s'.toks + 1}) L rfl ζ (by rw[qo];unfold scanBound;omega) λh' θ ε=>?_
   have φ:SS prog w h' S (zs.take (i + 1)):=by
    refine SetOf_congr ε (fun ι=>?_) ?_
    ·rw[List.take_add_one,hn,Option.toList_some];by_cases h1:ι∈zs.take i<;>by_cases h2:ι=n<;>simp[h1,h2]
    ·rw[fy Y,qo,qo];show min i zs.length + 1=min (i + 1) zs.length;omega
   refine ix ⟨PP F.plain_set_update_loop _,ih (i + 1) _ @A lt (W.frame _ s' _ _ α (Pa _) λb hb o e=>?_) φ fun β γ δ=>?_⟩
   ·rw[θ.2 b (λz=>O (z ▸ hb))];exact e
   ·refine η β (Moved.trans W.gtrans ((mv.mono up).then_heap (Pa _) λb o hb e=>?_) γ) δ;rw[θ.2 b (λz=>hb (by rw[z];exact ox))];exact e
end
section
variable {prog:ry} {w:zt} {A:zx} {E:B2} {s:hN}
theorem yJ:∀{vs:CB} {ys:A6},StrsAre vs ys->vs.length=ys.length
 | _,_,.nil=>rfl
 | _,_,.cons y t h=>by rw[y1,y1,yJ h]
theorem CY:∀{vs:CB} {ys:A6},StrsAre vs ys->∀(i:Nat) (v:iv),vs[i]? =ag v->∃n t,ys[i]? =ag n/\v= .str n t
 | _,_,.nil,i,v,h=>by simp at h
 | _,_,.cons y t L,0,v,h=>by simp at h;exact⟨y,t,rfl,h.symm⟩
 | _,_,.cons y t L,i + 1,v,h=>by
   simp only[RD] at h ⊢;exact CY L i v h
theorem SS.new {h:MT} {a:eH} (e:h.get? a=ag (nso w)):SS prog w h a []:=
 SetOf_congr ((setObjOf_fresh (knd:=strKind prog w) (!byT w)).setOf e (by unfold scanBound;omega)) (λk=>by simp) rfl
theorem call_setS {l:eH} {items:CL} {zs:A6} {Q:B2} (θ:A.handled=gs) (hl:s.heap.IsList l items) (hi:StrsAre items.toList zs) (nd:zs.Nodup) (ζ:zs.length < 1000)
  (h:∀(h':MT) (tk:Nat),SS prog w h' s.heap.objs.size zs->s.heap.objs.size < h'.objs.size->(∀b o,s.heap.get? b=ag o->h'.get? b=ag o)->Q (.ref s.heap.objs.size) {s with heap:=h',toks:=tk}):
  ll (ph prog w) A (call (.type "set") [.ref l]) Q E s:=by
 obtain⟨c,tl,Z⟩:=F.called_set.mro;have a4:=F.called_set.made;have a8:=F.called_set.sub;have hsz:items.size=zs.length:=by have:=yJ hi;rw[Qa] at this;exact this
 refine OO (Rx (show ll _ _ (callAny (.type "set") _) _ _ _ from ?_));refine ix ⟨Qv _ @G,OK F.entry_type_call ?_⟩;rw[Around.under_plain (weight_type_call_type "set" [.ref l] []) rfl];have h1:=F.called_set.notType;have h2:=F.called_set.canCreate;have L:=F.typeCall_set_1 (.ref l)
 repeat (any_goals (first | assumption | wp_step))
 refine Oi (G5 (.ref l) (E:=E) (Q:=λobj α=>obj= .ref s.heap.objs.size/\α={s with heap:=s.heap.push (nso w)}) ⟨rfl,rfl⟩) λr α φ=>?_;rcases r with e | fl
 ·exact φ
 cases fl with
 | ret obj=>
   obtain⟨rfl,rfl⟩:=φ;have hS:(s.heap.push (nso w)).get? s.heap.objs.size=ag (nso w):=kv _ rfl;have hT:Shared.TypeIs {s with heap:=s.heap.push (nso w)} (.ref s.heap.objs.size) "set":=⟨_,hS,rfl⟩;have b2:=F.called_set.init.lookup;have b3:=F.called_set.init.bind (.ref s.heap.objs.size)
   repeat (any_goals (first | assumption | wp_step))
   refine Oi (P9 (R:=wants (λr O=>r= .none/\∃h' tk,O={s with heap:=h',toks:=tk}/\SS prog w h' s.heap.objs.size zs/\s.heap.objs.size < h'.objs.size/\(∀b o,s.heap.get? b=ag o->h'.get? b=ag o)) E) F.called_set.init.plain F.entry_set_init (check_set_init_1 hT ?_)) fun δ O χ=>?_
   ·obtain⟨ol,β,ι,nl,γ⟩:=hl;obtain⟨a7,τ,υ,ν⟩:=ol;dsimp only at ι γ;subst ι γ;have ψ:=eW (nso w) β;have b0:=F.sub_list_set;have Y:=F.sub_list_frozenset;have b1:(OF "list" == OF "dict")=false:=by decide
    have hl1:(s.heap.push (nso w)).IsList l items:=⟨_,ψ,rfl,nl,rfl⟩;unfold Builtin.«set.__init__» noKeywords Builtin.Frozenset.updateFrom;generalize a6:pyIter=PI
    wp_walk
    subst a6;refine OU hl1 (fI (wpAny_runValue ?_));have ω:l < s.heap.objs.size:=hL β;have ε:l≠(s.heap.push (nso w)).objs.size:=by rw[O3];exact y2 (Pp ω)
    have W:=(QZ (prog:=prog) (w:=w) (A:=A.in1.in1.in1) (by simp[θ]) (s.heap.push (nso w)).objs.size l ε items).toS;rw[hsz] at W
    have a5:s.heap.objs.size∉[(s.heap.push (nso w)).objs.size,l]:=by
     rw[O3];simp only[v9,Oc,P',not_or];exact⟨y2 (NV _),P2 ω⟩
    refine Ei W s.heap.objs.size a5 (λi v ρ=>CY hi i v (by rw[Array.getElem?_toList];exact ρ)) nd ζ (zs.length - 0) 0 _ @A (N2 _) ⟨⟨_,kv _ rfl,rfl,rfl⟩,hl1.push _⟩ (SS.new (eW _ hS)) λs' mv η=>?_;obtain⟨h',g',d',ξ,π⟩:=s';obtain rfl:g'=s.gens:=mv.gens;obtain rfl:d'=s.drawn:=mv.drawn;obtain rfl:π=s.os:=mv.os;obtain⟨oS,_,_,_,a0,_⟩:=id η;refine ix (ix ⟨rfl,h',ξ,rfl,η,hL a0,λb o e=>?_⟩);have hb:=hL e;exact mv.heap b o (by rw[O3];simp only[v9,Oc,P',not_or];exact⟨y2 hb,y2 (Pp hb)⟩) (eW _ (eW _ e))
   ·rcases δ with e | fl₂
    ·exact χ
    cases fl₂ with
    | ret r=>
      obtain⟨rfl,h',tk,rfl,a1,ο,a3⟩:=χ
      repeat (any_goals (first | assumption | wp_step))
      exact h _ _ a1 ο a3
    | _=>exact χ.elim
 | _=>exact φ.elim
end
end ST
namespace L2
open PySem PySem.Spec PyProof.Rows
section
variable {X:Cx}
def FK (Q:VK) (x:V) (H1:Hp):Prop:=∃(p:eH) (zs:A6),x= .ref p/\H1 p=ag (.lst (zs.map V.str))/\zs.Nodup/\zs.length < 1000/\Q (.int zs.length) H1
noncomputable def Ke (t:TE):TE:=fun σ H Q=>t σ H (FK Q)
theorem Ks {t:TE} {σ:St} {H:Hp} {Q:VK} (h:t σ H (FK Q)):Ke t σ H Q:=h
theorem DR {e:z3} {t:TE} {β p2 Y φ:Pos} (hc:X.calm=true) (ο:Gl X "len") (ε:Gl X "set") (n1:X.mg "len"=gs) (n2:X.mg "set"=gs) (he:PE X e t)
  (h1:oD [Expr.Call (.Name "set" β) [e] [] p2] X.env=[(false,eval (.Call (.Name "set" β) [e] [] p2) X.env)]:=by rfl) (h2:oD [e] X.env=[(false,eval e X.env)]:=by rfl):
  PE X (.Call (.Name "len" Y) [.Call (.Name "set" β) [e] [] p2] [] φ) (Ke t):=by
 intro pins s σ H Q I h;refine NC (kh I ο n1 boot_len (callWith_builtin1 (Q:=EP X pins σ Q) ?_ h1 rfl));rw[h1];refine Qu ?_;refine SB (kh I ε n2 boot_set (callWith_type1 (thn (aa he ae h2 p2 pins s σ H (λvs H1=>match vs with | [x]=>FK Q x H1 | _=>False) I h) λus ζ ⟨vs,H1,I1,α,Y⟩=>?_) h2 rfl))
 match vs,α,Y with
 | [x],α,Y=>
 obtain⟨p,zs,rfl,ν,nd,Z,q⟩:=Y;cases α with
 | cons r θ=>
 cases θ;cases r;obtain⟨z,its,ι,rv,hl,el⟩:=I1.lstM ν;have hi:StrsAre its.toArray.toList zs:=by simpa using sy rv
 refine ST.call_setS (zs:=zs) (I1.ok.hd hc) ⟨_,el,rfl,_,rfl⟩ hi nd Z λh' tk ξ hsz hk=>?_;refine QC ?_;obtain⟨ρ,es,τ,tb,γ,δ,hd,O,η,hb,hf,hn⟩:=ξ;have π:∀L,Inv X pins σ H1 {ζ with heap:=h',toks:=L}:=λL=>I1.kept (t':=L) hk;refine call_len_set (s:={ζ with heap:=h',toks:=tk}) γ δ hd hf @A ?_;exact⟨.int zs.length,H1,π _,⟨_,by rw[hn]⟩,q⟩
end
inductive PH2 (X:Cx) (Wo:XW):cc ExceptHandler->(Ends->XW)->Prop where
 | nil:PH2 X Wo [] (λ_=>Wo)
 | cons {G:eH} {g n:ic} {i:Nat} {gp hp:Pos} {b₀:OE} {suite:cc OE} {ts:TS} {hs:cc ExceptHandler} {WR:Ends->XW} (cg:i4 X.K G) (hg:Gl X g) (hm:X.mg g=ag (.ref G)) (hi:X.N[i]? =ag n) (hk:X.env.scope.names.lookup n=ag .local)
   (hs':∀pins e,PSs (X.mark pins e) (b₀::suite) ts) (hdb:(g == ("__debug__":ic))=false) (r:PH2 X Wo hs WR):PH2 X Wo (.ExceptHandler (ag (.Name g gp)) (ag n) (b₀::suite) hp::hs) (λD=>WTry X.K G i (WR D) ts D)
 | cons0 {G:eH} {g:ic} {gp hp:Pos} {b₀:OE} {suite:cc OE} {ts:TS} {hs:cc ExceptHandler} {WR:Ends->XW} (cg:i4 X.K G) (hg:Gl X g) (hm:X.mg g=ag (.ref G))
   (hs':∀pins e,PSs (X.mark pins e) (b₀::suite) ts) (hdb:(g == ("__debug__":ic))=false) (r:PH2 X Wo hs WR):PH2 X Wo (.ExceptHandler (ag (.Name g gp)) gs (b₀::suite) hp::hs) (λD=>JO X.K G (WR D) ts D)
section
variable {X:Cx} {Wo:XW} {b₀:OE} {body:cc OE} {tb:XW->TS}
theorem GU {hs:cc ExceptHandler} {ξ:Ends->XW} (Y:PH2 X Wo hs ξ) (ow:Own X) (hx:Thr X Wo) (Z:X.N.Nodup):∀{pins:B'} {s:hN} {α:St} {H1:Hp} {x c t:eH} {dx:Dn} {D:Ends},Inv X pins α H1 s->Fly X pins H1 x (.ref c) dx (ag (t,.none)) s.heap->ξ D α (.ref c) dx H1->
  ll (ph X.prog X.w) X.A (handleBy (.ref x) X.env hs) (SP X pins D) X.xe s:=by
 induction Y with
 | nil=>
   intro pins s α H1 x c t dx D J3 χ w;obtain⟨⟨ο,vs,he,β,δ,hd,hsz,hT⟩,fe,ft⟩:=id χ;refine wpAny_handleBy_nil ?_;unfold PySem.passOn;refine fI (O0 he hd hT.1 ?_);rw[hQ @F];refine fI (sM J3 χ fun ε J4 γ=>?_);exact wpAny_throw (hx _ _ ⟨pins,x,.ref c,dx,_,α,H1,rfl,J4,γ,w⟩)
 | cons ζ θ hm hi hk L ω r ih=>
   intro pins s α H1 x c t dx D J3 χ w;have ok:=J3.ok;obtain⟨⟨ο,vs,he,β,δ,hd,hsz,hT⟩,fe,ft⟩:=id χ;obtain⟨τ,ν,w⟩:=w;cases ν;refine SN (Sw (h9 (X:=X.mark pins (.ref x)) J3.toMark θ hm ?_ ω)) (by intro q;cases q);rcases w with ⟨ψ,w⟩ | ⟨ψ,w⟩
   ·refine kI J3.kIn ζ he β ψ (codeAny_handlers_suite_as ?_);refine sM (fr:=gs) J3 χ fun ε J4 γ=>?_;have υ:=J4.track γ.fe (JD (P:=X.prog) (w:=X.w) (H:=upd H1 x (ExcO x (.ref c) dx)) γ.at_);refine tE υ Z hi (.inl hk) (v:= .ref x) rfl (fun ρ J6=>?_) (.inr hk);refine Nk (L pins (.ref x) [] ρ _ _ _ J6.toMark (w x γ.fe.1)) (fun ι π q=>?_) λ_ _ z=>LI z;cases ι with
    | next=>obtain⟨σ',H',I',z⟩:=q;exact uc (I'.ofMark ok) Z hi hk fun η O=>⟨_,H',O,z⟩
    | brk=>obtain⟨σ',H',I',z⟩:=q;exact uc (I'.ofMark ok) Z hi hk fun η O=>⟨_,H',O,z⟩
    | cont=>obtain⟨σ',H',I',z⟩:=q;exact uc (I'.ofMark ok) Z hi hk fun η O=>⟨_,H',O,z⟩
    | ret u=>obtain⟨v,σ',H',I',r,z⟩:=q;exact uc (I'.ofMark ok) Z hi hk fun η O=>⟨v,_,H',O,r,z⟩
   ·refine kI J3.kIn ζ he β ψ ?_;exact ih J3 χ w
 | cons0 ζ θ hm L ω r ih=>
   intro pins s α H1 x c t dx D J3 χ w;have ok:=J3.ok;obtain⟨⟨ο,vs,he,β,δ,hd,hsz,hT⟩,fe,ft⟩:=id χ;obtain⟨τ,ν,w⟩:=w;cases ν;refine SN (Sw (h9 (X:=X.mark pins (.ref x)) J3.toMark θ hm ?_ ω)) (by intro q;cases q);rcases w with ⟨ψ,w⟩ | ⟨ψ,w⟩
   ·refine kI J3.kIn ζ he β ψ (codeAny_handlers_suite ?_);refine sM (fr:=gs) J3 χ fun ε J4 γ=>?_;refine Nk (L pins (.ref x) [] _ _ _ _ J4.toMark w) (fun ι π q=>?_) λ_ _ z=>LI z;cases ι with
    | next=>obtain⟨σ',H',I',z⟩:=q;exact⟨σ',H',I'.ofMark ok,z⟩
    | brk=>obtain⟨σ',H',I',z⟩:=q;exact⟨σ',H',I'.ofMark ok,z⟩
    | cont=>obtain⟨σ',H',I',z⟩:=q;exact⟨σ',H',I'.ofMark ok,z⟩
    | ret u=>obtain⟨v,σ',H',I',r,z⟩:=q;exact⟨v,σ',H',I'.ofMark ok,r,z⟩
   ·refine kI J3.kIn ζ he β ψ ?_;exact ih J3 χ w
noncomputable def Hj (L:Ends->XW) (tb:XW->TS):TS:=λD σ H=>tb (L D) D σ H
theorem IB {L:Ends->XW} {D:Ends} {σ:St} {H:Hp} (h:tb (L D) D σ H):Hj L tb D σ H:=h
theorem GD {h₀:ExceptHandler} {hs:cc ExceptHandler} {L:Ends->XW} {pos:Pos} (ow:Own X) (hx:Thr X Wo) (Z:X.N.Nodup) (Y:PH2 X Wo (h₀::hs) L) (hc:∀D σ C dx H,L D σ C dx H->∃c,C= .ref c)
  (hb:∀pins W,PSs ((X.pin pins).thr W) body (tb W)):PS X (.Try body (h₀::hs) [] [] pos) (Hj L tb):=by
 intro pins s σ H D I h;have ok:=I.ok;refine wpAny_Try_except (Nk (hb pins _ [] s σ H D (I.toPin.wish _) h) (fun γ O q=>?_) λe O q=>?_)
 ·have δ:=q.unwish;cases γ with
  | next=>obtain⟨σ',H',I',z⟩:=δ;exact ix ⟨σ',H',I'.ofPin ok,z⟩
  | brk=>obtain⟨σ',H',I',z⟩:=δ;exact⟨σ',H',I'.ofPin ok,z⟩
  | cont=>obtain⟨σ',H',I',z⟩:=δ;exact⟨σ',H',I'.ofPin ok,z⟩
  | ret u=>obtain⟨v,σ',H',I',r,z⟩:=δ;exact⟨v,σ',H',I'.ofPin ok,r,z⟩
 ·obtain⟨pins',x,C,dx,T,α,H1,rfl,I1,ζ,w⟩:=q;obtain⟨c,rfl⟩:=hc _ _ _ _ _ w;have ι:=I1.ofPin ok;have β:=ζ.ofPin;refine xN ι ow β λh2 t θ ε=>?_;refine sM (fr:=gs) θ ε fun ν η χ=>?_;exact GU Y ow hx Z η χ w
end
noncomputable def yQ:V->cc V->Hp->VK->Prop:=λx vs H Q=>∃(l:eH) (ns:A6) (m:ic) (j:Nat),x= .ref l/\vs=[.str m]/\H l=ag (.lst (ns.map V.str))/\ns[j]? =ag m/\(∀i,i < j->ns[i]? ≠ag m)/\Q .non (upd H l (.lst ((ns.eraseIdx j).map V.str)))
section
variable {X:Cx}
theorem AJ:MtM X "list.remove" yQ:=by
 intro pins s σ H x xs v us Q I ζ rs h;obtain⟨l,ns,m,j,rfl,rfl,ε,δ,Y,q⟩:=h;cases ζ;obtain⟨u,rfl,τ⟩:=Vals.one rs;obtain⟨t,rfl⟩:=τ;obtain⟨z,its,n,r,hl,e⟩:=I.lstM ε
 have at':∀i:Nat,∀(h:i < its.length),∃k t,ns[i]? =ag k/\its[i]= .str k t:=λi h=>by
  have hi:i < ns.length:=by rw[ak] at hl;omega
  obtain⟨u,Z,τ⟩:=r.get (i:=i) (x:= .str ns[i]) (by rw[hH,c' hi];rfl);obtain⟨t,rfl⟩:=τ;rw[c' h] at Z;exact⟨ns[i],t,c' hi,ui Z⟩
 have L:j < its.length:=by
  have:=(b'.mp δ).1;rw[ak] at hl;omega
 refine O4 F.slot_list_remove ⟨_,e,rfl⟩ F.entry_list_remove (F.args_list_remove_2 _ _)
  (MeetsSeq.list_remove l its.toArray n (.str m t) (uV m) ?_ j (by rw[sv];exact L) ?_ ?_ (by rw[sv];omega)) ⟨e,?_⟩
 ·intro y γ;rw[SA] at γ;obtain⟨i,hi,rfl⟩:=M9.mp γ;obtain⟨k,ψ,_,O⟩:=at' i hi;rw[O];exact Qw k m ψ t
 ·obtain⟨k,ψ,hk,O⟩:=at' j L;rw[δ] at hk;cases hk;show uV m its[j]=true;rw[O];simp[uV]
 ·intro i hi α;rw[sv] at hi;obtain⟨k,ψ,hk,O⟩:=at' i hi;show uV m its[i]=false;rw[O];show(k.cps.toList == m.cps.toList)=false;rw[z4];intro β;have β:k=m:=by cases k;cases m;congr 1;exact QO.mp β
  rw[β] at hk;exact Y i α hk
 ·refine⟨.non,_,I.lset (its':=its.eraseIdx j) ε e ?_ (r.eraseIdx j) ?_,rfl,by rw[vG] at q;exact q⟩
  ·show its.toArray.eraseIdxIfInBounds j=(its.eraseIdx j).toArray;rw[List.eraseIdxIfInBounds_toArray]
  ·have:=vK (ns.map V.str) j;omega
end
theorem Dj {l:eH} {zs:A6} {z:ic} {j:Nat} {H:Hp} {Q:VK} (e:H l=ag (.lst (zs.map V.str))) (L:zs[j]? =ag z) (hn:∀i,i < j->zs[i]? ≠ag z) (h:∀H2,Upd H H2 l (.lst ((zs.eraseIdx j).map V.str))->Q .non H2):yQ (.ref l) [.str z] H Q:=⟨l,zs,z,j,rfl,rfl,e,L,hn,h _ Upd.of⟩
noncomputable def DE:V->cc V->Hp->VK->Prop:=λx xs H Q=>∃z,x= .str z/\xs=[]/\z.length + 2<=jF/\∀D,H D=gs->Q (.ref D) (upd H D (.lst ((OH z).map V.str)))
noncomputable def sE:V->cc V->Hp->VK->Prop:=λx xs H Q=>∃z y,x= .str z/\xs=[.str y]/\y.length≠0/\z.length<=jF/\∀D,H D=gs->Q (.ref D) (upd H D (.tup [.str (NH z y).1,.str (NH z y).2.1,.str (NH z y).2.2]))
theorem Hn (z:ic):(Ph z (z.length + 1)).length<=z.length + 1:=by
 have O:=(StrLaws.sw_weight z).1;have L:=StrLaws.len_le_wsum (Ph z (z.length + 1));omega
theorem FV (z:ic):(OH z).length<=z.length + 2:=by
 unfold OH;have h:=Hn z;split
 ·simp
 ·unfold wordsOf;rw[ak];omega
section
variable {X:Cx}
theorem Ed:MtR X "str.split" DE:=by
 intro pins s σ H x xs v us Q I L rs h;obtain⟨z,rfl,rfl,hz,q⟩:=h;obtain⟨t,rfl⟩:=L;cases rs;have Y:=FV z;have O:=Hn z;have fr:=I.hok.fresh (qb s.heap.objs.size);refine O4 F.slot_str_split (P5 _ _ _) F.entry_str_split (F.args_str_split_1 _) (meets_str_split_space z t @A @A) ?_;cases h1:(Ph z (z.length + 1) == [(0,z.length)]) with
 | true=>
   have e:OH z=[z]:=kn h1;exact⟨.ref s.heap.objs.size,_,I.laid (t':=s.toks) (o:= .lst ((OH z).map V.str)) (λb o e=>eW _ e) (qb _) ⟨by rw[ak];omega,[.str z t],0,by rw[e];exact .cons ⟨t,rfl⟩ .nil,kv _ rfl⟩,rfl,q _ fr⟩
 | false=>
   have e:OH z=wordsOf z:=hQ (Pl h1);refine⟨.ref s.heap.objs.size,_,I.laid (λb o e=>eW _ e) (qb _) (o:= .lst ((OH z).map V.str)) ⟨by rw[ak];omega,_,0,?_,kv _ rfl⟩,rfl,q _ fr⟩;rw[e];exact pL _ _
theorem vE:MtR X "str.partition" sE:=by
 intro pins s σ H x xs v us Q I O rs h;obtain⟨z,y,rfl,rfl,L,hz,q⟩:=h;obtain⟨t,rfl⟩:=O;obtain⟨u,rfl,τ⟩:=rK rs;obtain⟨t',rfl⟩:=τ;have L:(y.length == 0)=false:=z4.mpr L;have fr:=I.hok.fresh (qb s.heap.objs.size);refine O4 F.slot_str_partition (P5 _ _ _) F.entry_str_partition (F.args_str_partition_2 _ _) (meets_str_partition z y t t' L hz) ?_;have δ:=q _ fr;unfold NH at δ;revert δ;cases hf:NR z y 0 z.length 1 with
 | nil=>
   intro δ;exact⟨.ref s.heap.objs.size,_,I.laid (λb o e=>eW _ e) (qb _) (o:= .tup [.str z,.str PB,.str PB]) ⟨by show 3<=jF;decide,_,.cons ⟨_,rfl⟩ (.cons ⟨_,rfl⟩ (.cons ⟨_,rfl⟩ .nil)),Sl _ _⟩,rfl,δ⟩
 | cons i r=>
   intro δ;exact⟨.ref s.heap.objs.size,_,I.laid (λb o e=>eW _ e) (qb _) (o:= .tup [.str (Rj z 0 i),.str y,.str (Rj z (i + y.length) z.length)]) ⟨by show 3<=jF;decide,_,.cons ⟨_,rfl⟩ (.cons ⟨_,rfl⟩ (.cons ⟨_,rfl⟩ .nil)),Sl _ _⟩,rfl,δ⟩
end
theorem Gg {z:ic} {H:Hp} {Q:VK} (hz:z.length + 2<=jF) (h:∀p H2,H p=gs->Same H H2->H2 p=ag (.lst ((OH z).map V.str))->Q (.ref p) H2):DE (.str z) [] H Q:=⟨z,rfl,rfl,hz,fk h⟩
theorem xw {z y:ic} {H:Hp} {Q:VK} (hy:y.length≠0) (hz:z.length<=jF) (h:∀p H2,H p=gs->Same H H2->H2 p=ag (.tup [.str (NH z y).1,.str (NH z y).2.1,.str (NH z y).2.2])->Q (.ref p) H2):sE (.str z) [.str y] H Q:=⟨z,y,rfl,rfl,hy,hz,fk h⟩
noncomputable def eStr (q:ic×Pos):Expr:= .Constant (.str q.1) 0 q.2
noncomputable def zO:A6->TA
 | []=>tNil
 | z::r=>Ik (tC (.str z)) (zO r)
theorem DV {X:Cx}:∀l:cc (ic×Pos),PA X (l.map eStr) (zO (l.map Q3))
 | []=>ae
 | q::r=>show PA X (eStr q::r.map eStr) (Ik (tC (.str q.1)) (zO (r.map Q3))) from aa (te:=tC (.str q.1)) (t:=zO (r.map Q3)) (show PE X (.Constant (.str q.1) 0 q.2) _ from aD) (DV r) rfl
theorem GF {X:Cx} {es:cc z3} {pos:Pos} (l:cc (ic×Pos)) (h:es=l.map eStr):PE X (.List es pos) (tLst (zO (l.map Q3))):=by subst h;exact bC (DV l)
theorem Ho {σ:St} {H:Hp} {Q:cc V->Hp->Prop}:∀{zs:A6},Q (zs.map V.str) H->zO zs σ H Q
 | [],h=>h
 | z::r,h=>Ho (zs:=r) (Q:=λxs H2=>Q (.str z::xs) H2) h
noncomputable def eKey (q:ic×Pos×Pos):ov Expr:=ag (.Constant (.str q.1) 0 q.2.1)
noncomputable def eNil (q:ic×Pos×Pos):Expr:= .List [] q.2.2
noncomputable def tKN (q:ic×Pos×Pos):TE×TE:=(tC (.str q.1),tLst tNil)
theorem vq {X:Cx} {pos:Pos}:∀l:cc (ic×Pos×Pos),PPs X pos (l.map eKey) (l.map eNil) (l.map tKN)
 | []=>IX
 | q::r=>GE (k:= .Constant (.str q.1) 0 q.2.1) (v:= .List [] q.2.2) (tk:=tC (.str q.1)) (tv:=tLst tNil) aD (bC ae) (vq r)
theorem GJ {X:Cx} {pos:Pos} (l:cc (ic×Pos×Pos)) (O:l≠[]) (L:l.length<=15):PE X (.Dict (l.map eKey) (l.map eNil) pos) (Ij (l.map tKN)):=
 I0 (vq l) (by rw[Qp];exact Nr.mpr λ_ _=>rfl) (by rw[ak,ak]) (by simpa using O) (by rw[ak];exact L)
theorem Gq {a b c d:ic} {σ:St} {H:Hp} {Q:VK} (hm:∀i s u o:V,qz [] [(n' a,i),(n' b,s),(n' c,u),(n' d,o)]=[(n' a,i),(n' b,s),(n' c,u),(n' d,o)])
  (h:∀(p i s u o:eH) (H2:Hp),H p=gs->H i=gs->H s=gs->H u=gs->H o=gs->p≠i->p≠s->p≠u->p≠o->i≠s->i≠u->i≠o->s≠u->s≠o->u≠o->Same H H2->H2 p=ag (.dK [(n' a,.ref i),(n' b,.ref s),(n' c,.ref u),(n' d,.ref o)])->H2 i=ag (.lst [])->H2 s=ag (.lst [])->H2 u=ag (.lst [])->H2 o=ag (.lst [])->Q (.ref p) H2):
  Ij [(tC (.str a),tLst tNil),(tC (.str b),tLst tNil),(tC (.str c),tLst tNil),(tC (.str d),tLst tNil)] σ H Q:=by
 intro p ν;refine⟨N2 _,λi hi=>⟨N2 _,λs hs=>⟨N2 _,λu Z=>⟨N2 _,λo ho=>?_⟩⟩⟩⟩;have ω:p≠i:=λe=>by rw[<-e,au] at hi;cases hi
 have ι:H i=none:=by rw[ar (J5 ω)] at hi;exact hi
 have ε:p≠s:=λe=>by rw[<-e,ar ω,au] at hs;cases hs
 have O:i≠s:=λe=>by rw[<-e,au] at hs;cases hs
 have η:H s=none:=by rw[ar (J5 O),ar (J5 ε)] at hs;exact hs
 have L:p≠u:=λe=>by rw[<-e,ar ε,ar ω,au] at Z;cases Z
 have β:i≠u:=λe=>by rw[<-e,ar O,au] at Z;cases Z
 have Y:s≠u:=λe=>by rw[<-e,au] at Z;cases Z
 have ζ:H u=none:=by rw[ar (J5 Y),ar (J5 β),ar (J5 L)] at Z;exact Z
 have α:p≠o:=λe=>by rw[<-e,ar L,ar ε,ar ω,au] at ho;cases ho
 have δ:i≠o:=λe=>by rw[<-e,ar β,ar O,au] at ho;cases ho
 have nso:s≠o:=λe=>by rw[<-e,ar Y,au] at ho;cases ho
 have γ:u≠o:=λe=>by rw[<-e,au] at ho;cases ho
 have θ:H o=none:=by rw[ar (J5 γ),ar (J5 nso),ar (J5 δ),ar (J5 α)] at ho;exact ho
 refine⟨by rw[ar α,ar L,ar ε,ar ω,au],[(n' a,.ref i),(n' b,.ref s),(n' c,.ref u),(n' d,.ref o)],rfl,Q2 rfl,?_⟩;rw[hm];refine h p i s u o _ ν ι η ζ θ ω ε L α O β δ Y nso γ (λx ob e=>?_) au ?_ ?_ ?_ ?_
 ·rw[ar (ao e ν),ar (ao e θ),ar (ao e ζ),ar (ao e η),ar (ao e ι),ar (ao e ν)];exact e
 ·rw[ar (J5 ω),ar δ,ar β,ar O,au]
 ·rw[ar (J5 ε),ar nso,ar Y,au]
 ·rw[ar (J5 L),ar γ,au]
 ·rw[ar (J5 α),au]
end L2
set_option autoImplicit false
namespace M
noncomputable def pb:Nat->Nat->N1
 | 0,_=>false
 | w + 1,m=>(m.testBit w)^^(pb w m)
noncomputable def pl (w m:Nat):A':=(Na w).filter m.testBit
noncomputable def Span:A'->Nat->Prop
 | [],x=>x=0
 | r::rs,x=>Span rs x∨Span rs (x^^^r)
noncomputable def sm:A'->Nat->Nat
 | [],_=>0
 | r::rs,p=>(if p.testBit 0 then r else 0)^^^sm rs (p / 2)
def Fre (rows:A') (i:Nat):Prop:=i < rows.length/\¬Span (rows.take i) (rows.getD i 0)
def Frs (rows:A') (q:Nat):Prop:=∀i,q.testBit i=true->Fre rows i
structure Ech (es:A3) (rows:A'):Prop where
 nz:∀e∈es,e.1≠0
 lt:∀e∈es,e.2 < 2 ^ rows.length
 sm:∀e∈es,sm rows e.2=e.1
 nd:(es.map λe=>e.1.log2).Nodup
 all:∀y,Span rows y->y≠0->∃e∈es,e.1.log2=y.log2
 sub:∀e∈es,Frs rows e.2
noncomputable def tt (p:Prop):Bool:=@decide p (QX p)
noncomputable def fr (rows:A'):A':=(Na rows.length).filter λi=> !tt (Span (rows.take i) (rows.getD i 0))
structure Nul (nms rows:A'):Prop where
 lt:∀x∈nms,x < 2 ^ rows.length
 nz:∀x∈nms,x≠0
 sm:∀x∈nms,sm rows x=0
 pw:nms.Pairwise λa b=>a.log2 < b.log2
 len:nms.length + (fr rows).length=rows.length
structure NulF (nms rows:A'):Prop extends Nul nms rows where
 frs:∀x∈nms,Frs rows (x^^^2 ^ x.log2)
def Inj (ws:A'):Prop:=∀p,p < 2 ^ ws.length->sm ws p=0->p=0
structure Sums (ks rows:A'):Prop where
 nd:ks.Nodup
 all:∀x,x∈ks↔Span rows x
end M
namespace Sx
open PySem L2
noncomputable abbrev nat (k:Nat):V:= .int (k:Int)
theorem jq {k:Nat} {A:zx} (r:Room k A):A.units + 100 < cLine:=by have:=r.un;omega
structure En where
 a:eH
 m:Nat
 p:Nat
noncomputable def MF (es:cc En):cc (Key×V):=es.map λe=>(Qd ((e.m.log2:Nat):Int),V.ref e.a)
theorem GB {L:cc (Key×V)} {k:Key} {v:V} (h:valV L k=gs):putK L k v=L++[(k,v)]:=by
 unfold putK;rw[mG,h];rfl
structure StA (H:Hp) (C p d f n:eH) (rows:A'):Prop where
 ho:∃dx,H p=ag (.ins C dx [("by_top",.ref d),("free_places",.ref f),("null_masks",.ref n)])
 he:∃es:cc En,H d=ag (.dK (MF es))/\(∀e∈es,H e.a=ag (.tup [nat e.m,nat e.p]))/\M.Ech (es.map λe=>(e.m,e.p)) rows/\es.length=(M.fr rows).length
 hf:H f=ag (.lst ((M.fr rows).map nat))
 hn:∃nms,H n=ag (.lst (nms.map nat))/\M.NulF nms rows
 ne:f≠n
theorem aR {α:Type} {f:α->V} {ws:cc α} {i:Nat} {x:V} (h:(ws.map f)[i]? =ag x):∃k,ws[i]? =ag k/\x=f k:=by
 rw[hH] at h;cases e:ws[i]? with
 | none=>rw[e] at h;cases h
 | some k=>rw[e] at h;exact⟨k,rfl,(ui h).symm⟩
theorem take_succ {α:Type} {ws:cc α} {i:Nat} {w:α} (h:ws[i]? =ag w):ws.take (i + 1)=ws.take i++[w]:=by rw[Q5,h];rfl
def yK (K:a'):Sp:=λvs H Q _=>∃(a:eH) (ns:Dk),vs=[.ref a]/\SqL K H a (ns.map V.int)/\ns.length<=63/\∀H',Q (.bl true) H'
structure Prs (H:Hp) (ws:A') (D:eH) (ps:cc (eH×Nat)):Prop where
 l:H D=ag (.lst (ps.map λq=>V.ref q.1))
 t:∀q∈ps,H q.1=ag (.tup [nat q.2,nat (M.sm ws q.2)])
 b:∀q∈ps,q.2 < 2 ^ ws.length
end Sx
namespace M
noncomputable def xs (rows ps:A'):Nat:=ps.foldl (λa k=>a^^^rows.getD k 0) 0
end M
namespace Sx
open PySem L2
end Sx
namespace M
noncomputable abbrev od (m:Nat):Bool:=pb 1000 m
structure Bar (rows:A') (b m:Nat):Prop where
 ev:∀y,Span rows y->od (m&&&y)=false
 bit:m.testBit b=true
 low:∀k,k < b->m.testBit k=false
 oth:∀k,k≠b->(∀y,Span rows y->y≠0->y.log2≠k)->m.testBit k=false
 lt:∀W,(∀r∈rows,r < 2 ^ W)->b < W->m < 2 ^ W
structure BarI (es:A3) (ts:A') (b m:Nat):Prop where
 ev:∀e∈es,e.1.log2∈ts->od (m&&&e.1)=false
 bit:m.testBit b=true
 low:∀k,k < b->m.testBit k=false
 oth:∀k,k≠b->(∀e∈es,e.1.log2≠k)->m.testBit k=false
 lt:∀W,(∀e∈es,e.1 < 2 ^ W)->b < W->m < 2 ^ W
end M
namespace Sx
open PySem L2
noncomputable def cell (ns:Dk) (k:Int):Int:=if k < ns.length then ns.getD k.toNat 0 else 41 * k + 3
def yL (K:a'):Sp:=λvs H Q _=>∃(p:eH) (ns:Dk) (k:Int),vs=[.ref p,.int k]/\SqL K H p (ns.map V.int)/\0<=k/\Q (.int (cell ns k)) H
theorem uE {K:a'} {H:Hp} {Q:VK} {E:XK} {p:eH} {ns:Dk} {k:Int} (e:SqL K H p (ns.map V.int)) (L:0<=k) (q:Q (.int (cell ns k)) H):yL K [.ref p,.int k] H Q E:=⟨p,ns,k,rfl,e,L,q⟩
def MM (rows:A') (b:Nat):Prop:=∀y,M.Span rows y->y≠0->y.log2≠b
structure Acr (rows:A') (wd:Nat) (ms:A'):Prop where
 len:ms.length + (M.fr rows).length=wd
 inj:M.Inj ms
 lt:∀m∈ms,m < 2 ^ wd
 ev:∀m∈ms,∀y,M.Span rows y->M.od (m&&&y)=false
 all:∀z,z < 2 ^ wd->(∀y,M.Span rows y->M.od (z&&&y)=false)->M.Span ms z
end Sx
namespace M
noncomputable def cm (a b:Nat):Nat:=if b=0 then 0 else (if b % 2=1 then a else 0)^^^2 * cm a (b / 2)
termination_by b
decreasing_by omega
def Dv (d x:Nat):Prop:=∃q,cm q d=x
structure Rm (d x r:Nat):Prop where
 lt:r < 2 ^ d.log2
 dv:Dv d (x^^^r)
end M
namespace Sx
open PySem L2
noncomputable def dg (m:Nat):Int:=(Rc (m:Int):Int) - 1
noncomputable def tm (a:Nat) (ps:A'):Nat:=ps.foldl (λz k=>z^^^a * 2 ^ k) 0
end Sx
namespace M
structure Ord (d e:Nat):Prop where
 pos:1<=e
 one:Rm d (2 ^ e) 1
 least:∀j,1<=j->j < e->¬Rm d (2 ^ j) 1
 le:e<=2 ^ d.log2
end M
namespace Sx
open PySem L2
noncomputable def Li (x:V) (w:Int):Bool:=match x with
 | .int i=>decide (0<=i)&&decide (((Rc i:Nat):Int)<=w)
 | _=>false
theorem cb {c m:Int} (h:0 < m):∃k:Nat,c % m=(k:Int)/\(k:Int) < m:=by
 obtain⟨k,hk⟩:=O7 (M8 c (Int.ne_of_gt h));exact⟨k,hk,by rw[<-hk];exact MS c h⟩
theorem Ml {H:Hp} {Q:VK} {l:eH} {k:Int} {xs:cc V} (e:H l=ag (.lst xs)) (L: -(2 ^ 63)<=k) (h1:k < 2 ^ 63) (hz:xs.length * k.toNat<=jF) (h:∀p H2,H p=gs->Same H H2->H2 p=ag (.lst (z1 k.toNat xs).flatten)->Q (.ref p) H2):rRep (.ref l) (.int k) H Q:=
 ⟨l,k,xs,rfl,rfl,e,L,h1,hz,fk h⟩
end Sx
namespace M
noncomputable def bn (b:N1):Nat:=if b then 1 else 0
noncomputable def pk (s:Nat->N1) (t:Nat):Nat->Nat
 | 0=>0
 | L + 1=>pk s t L^^^(if s (t + L) then 2 ^ L else 0)
noncomputable def lf (G:Nat):Nat->(Nat->N1)->Nat->N1
 | 0,_,_=>false
 | L + 1,s,t=>lf G L s t^^(G.testBit L&&s (t + L))
noncomputable def tr (L:A') (x:Nat):Nat:=pk (λk=>od (L.getD k 0&&&x)) 0 L.length
noncomputable def stt (L:A') (x:Nat):Nat->Nat
 | 0=>x
 | t + 1=>tr L (stt L x t)
noncomputable def ans (L:A') (o x t:Nat):Bool:=od (o&&&stt L x t)
noncomputable def lm (L G:Nat):A':=(Na (L - 1)).map (λp=>2 ^ (p + 1))++(if 0 < L then [G] else [])
end M
namespace Sx
open PySem L2
noncomputable abbrev Pr3:=eH×Nat×Nat
noncomputable def refs (ps:cc Pr3):cc V:=ps.map λq=>V.ref q.1
def Prt (H:Hp) (ps:cc Pr3):Prop:=∀q∈ps,H q.1=ag (.tup [nat q.2.1,nat q.2.2])
structure MaA (H:Hp) (C p:eH) (m:Nat) (nx os:cc Pr3):Prop where
 ho:∃dx tn to,H p=ag (.ins C dx [("inputs",nat m),("nexts",.ref tn),("outs",.ref to)])/\H tn=ag (.tup (refs nx))/\H to=ag (.tup (refs os))
 hn:Prt H nx
 hs:Prt H os
noncomputable def sq (bs:cc N1):Nat->Bool:=λi=>bs.getD i false
structure Tab (H:Hp) (n o:eH) (m:Nat) (nx os:cc Pr3):Prop where
 m6:m<=6
 n:H n=ag (.lst (refs nx))
 o:H o=ag (.lst (refs os))
 pn:Prt H nx
 po:Prt H os
 ln:nx.length<=120
 lo:os.length<=6
 bn:∀q∈nx++os,q.2.1 < 2 ^ nx.length/\q.2.2 < 2 ^ m
structure Lfsr (nx os:cc Pr3) (L G:Nat):Prop where
 nx:nx.map (λq=>q.2.1)=M.lm L G
 os:∃t,os=[(t,(if 0 < L then 1 else 0),0)]
noncomputable abbrev ms (nx:cc Pr3):A':=nx.map λq=>q.2.1
theorem Jw {n j:Nat} (h:j < n):ixN n (j:Int)=ag j:=by unfold ixN;rw[kn (Int.natCast_nonneg j),kn @A,MW]
theorem Dh {H:Hp} {Q:Hp->Prop} {p:eH} {xs:cc V} {j:Nat} {v:V} (e:H p=ag (.lst xs)) (L:j < xs.length) (h:∀H2,Upd H H2 p (.lst (xs.set j v))->Q H2):KM (.ref p) (.int (j:Int)) v H Q:=
 ⟨p,xs,j,j,rfl,rfl,e,Jw L,h _ Upd.of⟩
theorem Hr {σ:St} {H:Hp} {to ti:TE} {t:TSet} {v:V} {Q:St->Hp->Prop} (h:to σ H λo H1=>ti σ H1 λi H2=>t o i v H2 λL=>Q σ L):gSub to ti t v σ H Q:=h
end Sx
namespace M
noncomputable def tr2 (ps:A3) (x r:Nat):Nat:=pk (λk=>od ((ps.getD k (0,0)).1&&&x)^^od ((ps.getD k (0,0)).2&&&r)) 0 ps.length
noncomputable def wan (ps os:A3):Nat->A'->A'
 | _,[]=>[]
 | x,r::rs=>tr2 os x r::wan ps os (tr2 ps x r) rs
noncomputable def pulse (i T:Nat):A':=(Na T).map λt=>if t=0 then 2 ^ i else 0
end M
namespace Sx
open PySem L2
structure MaG (m:Nat) (nx os:cc Pr3):Prop where
 m6:m<=6
 ln:nx.length<=120
 lo:os.length<=6
 bn:∀q∈nx++os,q.2.1 < 2 ^ nx.length/\q.2.2 < 2 ^ m
noncomputable abbrev prs (nx:cc Pr3):A3:=nx.map (·.2)
def LU (K:a') (H:Hp) (xs:cc V):Prop:=∀x∈xs,∃k,r8 K H x k
theorem uz (xs:cc V) (y:Nat) (hy:y<=xs.length):cutV xs gs (ag (y:Int))=xs.take y:=by
 unfold cutV;rw[HT.sIx_nat,HT.sIx_none,SR hy,Nat.sub_zero,List.drop_zero]
structure MR (K:a') (H:Hp) (C p rr:eH) (m:Nat) (nx os:cc Pr3) (x:V) (xs:cc V):Prop where
 ma:MaA H C p m nx os
 g:MaG m nx os
 kx:∃k,r8 K H x k
 sq:SqL K H rr xs
 ks:LU K H xs
 ln:xs.length<=1000
structure TabT (H:Hp) (t n o:eH) (m:Nat) (nx os:cc Pr3):Prop where
 t:H t=ag (.tup [nat m,.ref n,.ref o])
 tab:Tab H n o m nx os
theorem nJ (xs:cc V) (k:Nat) (h:k<=xs.length):cutV xs (ag (k:Int)) gs=xs.drop k:=by
 unfold cutV;rw[HT.sIx_nat,HT.sIx_none,SR h];exact RJ (by rw[MX];exact qb _)
end Sx
namespace M
noncomputable def bkI (A:A') (s:Nat):Nat->Nat
 | 0=>s
 | i + 1=>sm A (bkI A s i)
end M
namespace Sx
open PySem L2
noncomputable abbrev nA (nx:cc Pr3):A':=nx.map λq=>q.2.1
theorem pZ {K:a'} {H:Hp} {α:Type} (f:α->V) (g:α->Dt) (r:∀x,Rep K H (f x) (g x)) (xs:cc α):∀(i:Nat) x d,(xs.map f)[i]? =ag x->(xs.map g)[i]? =ag d->Rep K H x d:=by
 intro i x d h1 h2;rw[hH] at h1 h2;cases e:xs[i]? with
 | none=>rw[e] at h1;cases h1
 | some y=>rw[e] at h1 h2;cases h1;cases h2;exact r y
theorem jP {H H':Hp} {x:eH} {o:HO} (n:H x=gs) (u:Upd H H' x o):Same H H':=λb o h=>u.oth b o (λz=>by rw[z,n] at h;cases h) h
theorem Kn {K:a'} {te:TE} {σ:St} {H:Hp} {Q:VK} (h:te σ H λx H1=>∃a xs,x= .ref a/\SqL K H1 a xs/\∀l,H1 l=gs->Q (.ref l) (upd H1 l (.lst xs.reverse))):tRev K te σ H Q:=h
noncomputable def low (c:Nat):Bool:=decide (97<=c)&&decide (c<=122)
noncomputable def fig (c:Nat):Bool:=decide (48<=c)&&decide (c<=57)
noncomputable def nm (l:A'):Bool:=match l with
 | []=>false
 | c::r=>decide ((c::r).length<=6)&&low c&&(c::r).all λc=>low c||fig c
noncomputable def AH (x:V):Bool:=match x with
 | .str z=>nm z.cps.toList
 | _=>false
def Nm (z:ic):Prop:=nm z.cps.toList=true
def Iu (K:a'):Sp:=λvs H Q _=>∃x k,vs=[x]/\r8 K H x k/\(∀z,x= .str z->z.length<=1000)/\∀H',Same H H'->Q (.bl (AH x)) H'
theorem memL (c:Nat):decide (c∈("abcdefghijklmnopqrstuvwxyz":ic).cps.toList)=low c:=by
 have e:("abcdefghijklmnopqrstuvwxyz":ic).cps.toList=Q4 97 26:=by decide +kernel
 rw[e];unfold low;rw[Nl,wb,wh,wh,wh,PX];constructor
 ·rintro⟨i,h,rfl⟩;omega
 ·rintro⟨h1,h2⟩;exact⟨c - 97,@A,@A⟩
theorem memN (c:Nat):decide (c∈("abcdefghijklmnopqrstuvwxyz0123456789":ic).cps.toList)=(low c||fig c):=by
 have e:("abcdefghijklmnopqrstuvwxyz0123456789":ic).cps.toList=Q4 97 26++Q4 48 10:=by decide +kernel
 rw[e];unfold low fig;rw[Nl,SL,wb,wb,wh,wh,wh,wh,wh,lx,PX,PX];constructor
 ·rintro(⟨i,h,rfl⟩ | ⟨i,h,rfl⟩)
  ·left;omega
  ·right;omega
 ·rintro(⟨h1,h2⟩ | ⟨h1,h2⟩)
  ·exact .inl ⟨c - 97,by omega,by omega⟩
  ·exact .inr ⟨c - 48,by omega,by omega⟩
theorem cM (z:ic):z.cps.toList.length=z.length:=by simp[Str.length]
theorem xi {z:ic}:z=""↔z.cps.toList=[]:=by
 constructor
 ·rintro rfl;decide +kernel
 ·intro h;cases z with | mk c=>cases c with | mk l=>have h:l=[]:=h;subst h;decide +kernel
theorem Nm.len {z:ic} (h:Nm z):z.length<=6:=by
 have h:nm z.cps.toList=true:=h;have l:=cM z;cases e:z.cps.toList with
 | nil=>rw[e] at l;rw[<-l];decide
 | cons c r=>
   rw[e] at h l;unfold nm at h;rw[wb,wb] at h;have:=M3 h.1.1;omega
def Ge (K:a'):Sp:=λvs H Q _=>∃x C dx nm,vs=[.ref x,nm]/\Cls K C/\bH K C "name"/\H x=ag (.ins C dx [])/\∀H2,Upd H H2 x (.ins C dx [("name",nm)])->Q .non H2
def Gd (C:eH):Sp:=λvs H Q _=>∃x dx nm k,vs=[.ref x,nm,k]/\H x=ag (.ins C dx [])/\∀H2,Upd H H2 x (.ins C dx [("name",nm),("number",k)])->Q .non H2
def Gb (C:eH):Sp:=λvs H Q _=>∃x dx nm w k,vs=[.ref x,nm,w,k]/\H x=ag (.ins C dx [])/\∀H2,Upd H H2 x (.ins C dx [("name",nm),("wire",w),("number",k)])->Q .non H2
structure Nt where
 ins:A6
 sums:cc (ic×cc ic)
 sts:cc (ic×ic)
 outs:A6
noncomputable def Nt.names (N:Nt):A6:=N.ins++N.sums.map (·.1)++N.sts.map (·.1)
structure Gn (N:Nt):Prop where
 li:N.ins.length<=6
 ls:N.sums.length<=40
 lt:N.sts.length<=16
 lo:N.outs.length<=6
 lw:∀r∈N.sums,r.2.length<=24
 nm:∀z∈N.names,Nm z
 nd:N.names.Nodup
 ws:∀r∈N.sums,∀z∈r.2,z∈N.names
 ts:∀r∈N.sts,r.2∈N.names
 os:∀z∈N.outs,z∈N.names
 rk:∃rank:ic->Nat,∀r∈N.sums,∀z∈r.2,z∈N.sums.map (·.1)->rank z < rank r.1
structure Topo (sums:cc (ic×cc ic)) (od:A6):Prop where
 perm:od.Perm (sums.map (·.1))
 need:∀(i:Nat) z,od[i]? =ag z->∀ws,(z,ws)∈sums->∀y∈ws,y∈sums.map (·.1)->y∈od.take i
noncomputable abbrev Rw:=eH×eH×ic×cc ic
noncomputable abbrev Qs:=eH×ic×ic
structure Hnd (H:Hp) (i s t o:eH) (rs:cc Rw) (qs:cc Qs) (N:Nt):Prop where
 i:H i=ag (.lst (N.ins.map V.str))
 s:H s=ag (.lst (rs.map λr=>V.ref r.1))
 sr:∀r∈rs,H r.1=ag (.tup [.str r.2.2.1,.ref r.2.1])/\H r.2.1=ag (.lst (r.2.2.2.map V.str))
 es:rs.map (·.2.2)=N.sums
 t:H t=ag (.lst (qs.map λq=>V.ref q.1))
 tr:∀q∈qs,H q.1=ag (.tup [.str q.2.1,.str q.2.2])
 et:qs.map (·.2)=N.sts
 o:H o=ag (.lst (N.outs.map V.str))
theorem Hnd.same {H H2:Hp} {i s t o:eH} {rs:cc Rw} {qs:cc Qs} {N:Nt} (x:Hnd H i s t o rs qs N) (h:Same H H2):Hnd H2 i s t o rs qs N:=⟨h.get x.i,h.get x.s,λr m=>⟨h.get (x.sr r m).1,h.get (x.sr r m).2⟩,x.es,h.get x.t,λq m=>h.get (x.tr q m),x.et,h.get x.o⟩
structure Kpt (H:Hp) (i s t o:eH) (rs:cc Rw) (qs:cc Qs) (N:Nt):Prop where
 i:H i=ag (.tup (N.ins.map V.str))
 s:H s=ag (.tup (rs.map λr=>V.ref r.1))
 sr:∀r∈rs,H r.1=ag (.tup [.str r.2.2.1,.ref r.2.1])/\H r.2.1=ag (.tup (r.2.2.2.map V.str))
 es:rs.map (·.2.2)=N.sums
 t:H t=ag (.tup (qs.map λq=>V.ref q.1))
 tr:∀q∈qs,H q.1=ag (.tup [.str q.2.1,.str q.2.2])
 et:qs.map (·.2)=N.sts
 o:H o=ag (.tup (N.outs.map V.str))
theorem Kpt.same {H H2:Hp} {i s t o:eH} {rs:cc Rw} {qs:cc Qs} {N:Nt} (x:Kpt H i s t o rs qs N) (h:Same H H2):Kpt H2 i s t o rs qs N:=⟨h.get x.i,h.get x.s,λr m=>⟨h.get (x.sr r m).1,h.get (x.sr r m).2⟩,x.es,h.get x.t,λq m=>h.get (x.tr q m),x.et,h.get x.o⟩
def Knw (H:Hp) (d:eH) (zs:A6):Prop:=∃L:cc (Key×V),H d=ag (.dK L)/\L.map (·.1)=zs.map n'
theorem Knw.same {H H2:Hp} {d:eH} {zs:A6} (x:Knw H d zs) (h:Same H H2):Knw H2 d zs:=let ⟨k,e,f⟩:=x;⟨k,h.get e,f⟩
theorem mF {L:cc (Key×V)} {zs:A6} (e:L.map (·.1)=zs.map n') (z:ic):(valV L (n' z)).isSome=decide (z∈zs):=by
 cases h:valV L (n' z) with
 | none=>
   have:=FX h;rw[e] at this;rw[fy λm=>this (mw.mpr ⟨z,m,rfl⟩)];rfl
 | some v=>
   have:=Ig h;rw[e] at this;obtain⟨y,O,ey⟩:=mw.mp this;cases ey;rw[fZ O];rfl
theorem IV {L:cc (Key×V)} {zs:A6} (e:L.map (·.1)=zs.map n') {z:ic} (h:z∉zs) (v:V):putK L (n' z) v=L++[(n' z,v)]:=by
 refine GB ?_;rw[<-Option.not_isSome_iff_eq_none,mF e z,fy h];exact hV
inductive Wob (H:Hp) (CI CS CT:eH) (N:Nt) (z:ic) (w:eH):Prop where
 | i (k:Nat) (dx:eH) (hk:N.ins[k]? =ag z) (e:H w=ag (.ins CI dx [("name",.str z),("number",nat k)])):Wob H CI CS CT N z w
 | s (ws:A6) (dx tw:eH) (hk:(z,ws)∈N.sums) (e:H w=ag (.ins CS dx [("name",.str z),("wires",.ref tw)])) (et:H tw=ag (.tup (ws.map V.str))):Wob H CI CS CT N z w
 | t (k:Nat) (y:ic) (dx:eH) (hk:N.sts[k]? =ag (z,y)) (e:H w=ag (.ins CT dx [("name",.str z),("wire",.str y),("number",nat k)])):Wob H CI CS CT N z w
theorem Wob.same {H H2:Hp} {Y O L:eH} {N:Nt} {z:ic} {w:eH} (x:Wob H Y O L N z w) (h:Same H H2):Wob H2 Y O L N z w:=by
 cases x with
 | i k dx hk e=>exact .i k dx hk (h.get e)
 | s ws dx tw hk e et=>exact .s ws dx tw hk (h.get e) (h.get et)
 | t k y dx hk e=>exact .t k y dx hk (h.get e)
structure WiA (H:Hp) (CI CS CT d:eH) (N:Nt) (ws:G'):Prop where
 d:H d=ag (.dK (ws.map λq=>(n' q.1,V.ref q.2)))
 nm:ws.map (·.1)=N.names
 ob:∀q∈ws,Wob H CI CS CT N q.1 q.2
theorem WiA.same {H H2:Hp} {Y O L d:eH} {N:Nt} {ws:G'} (x:WiA H Y O L d N ws) (h:Same H H2):WiA H2 Y O L d N ws:=⟨h.get x.d,x.nm,λq m=>(x.ob q m).same h⟩
def sp_wbyname (Y O L:eH):Sp:=λvs H Q _=>∃(i s t o:eH) (rs:cc Rw) (qs:cc Qs) (N:Nt),vs=[.ref i,.ref s,.ref t]/\Kpt H i s t o rs qs N/\Gn N/\∀(d:eH) (H2:Hp) (ws:G'),H d=gs->Same H H2->WiA H2 Y O L d N ws->Q (.ref d) H2
noncomputable def dQ (zs:A6) (ws:A6):Bool:=ws.any λw=>decide (w∈zs)
def F4:Sp:=λvs H Q _=>∃(r:Rw) (d:eH) (zs:A6),vs=[.ref r.1,.ref d]/\H r.1=ag (.tup [.str r.2.2.1,.ref r.2.1])/\H r.2.1=ag (.tup (r.2.2.2.map V.str))/\r.2.2.2.length<=24/\Knw H d zs/\∀H2,Same H H2->Q (.bl (dQ zs r.2.2.2)) H2
theorem jh {H:Hp} {Q:VK} {l b:eH} {xs zs:cc V} (e1:H l=ag (.lst xs)) (e2:H b=ag (.lst zs)) (hl:xs.length + zs.length<=jF) (h:∀H2,Upd H H2 l (.lst (xs++zs))->Q .non H2):DG (.ref l) [.ref b] H Q:=⟨l,b,xs,zs,rfl,rfl,e1,e2,hl,h _ Upd.of⟩
structure WL (H0 H:Hp) (CI CS CT:eH) (N:Nt) (D:eH) (ys:cc V) (zs:A6) (ws:G'):Prop where
 ey:ys=ws.map λq=>V.ref q.2
 nm:ws.map (·.1)=zs
 ob:∀q∈ws,Wob H CI CS CT N q.1 q.2
 same:Same H0 H
 d:H D=ag (.lst ys)
def Dc (K:a') (C:eH):Sp:=λvs H Q _=>∃x dx nm tw ws,vs=[.ref x,nm,.ref tw]/\H tw=ag (.tup ws)/\H x=ag (.ins C dx [])/\
 ∀H2,Upd H H2 x (.ins C dx [("name",nm),("wires",.ref tw)])->Q .non H2
structure Otp (sums:cc (ic×cc ic)) (od:A6) (lf:cc (ic×cc ic)):Prop where
 perm:(od++lf.map (·.1)).Perm (sums.map (·.1))
 sub:∀r∈lf,r∈sums
 need:∀(i:Nat) z,od[i]? =ag z->∀ws,(z,ws)∈sums->∀y∈ws,y∈sums.map (·.1)->y∈od.take i
theorem Otp.start (sums:cc (ic×cc ic)):Otp sums [] sums:=⟨List.Perm.refl _,λ_ h=>h,λi z h=>by simp at h⟩
theorem Otp.done {sums:cc (ic×cc ic)} {od:A6} (o:Otp sums od []):Topo sums od:=⟨by have:=o.perm;rwa [Qo,z5] at this,o.need⟩
theorem Jd {sums:cc (ic×cc ic)} (nd:(sums.map (·.1)).Nodup) {z:ic} {ws ν:A6} (h:(z,ws)∈sums) (h':(z,ν)∈sums):ws=ν:=by
 induction sums with
 | nil=>cases h
 | cons r l ih=>
   rw[MU,Ov] at nd;rcases v9.mp h with e | h
   ·rcases v9.mp h' with L | h'
    ·rw[<-e] at L;exact(SQ L).2.symm
    ·exact ik (mw.mpr ⟨_,h',rfl⟩) (by rw[<-e] at nd;exact nd.1)
   ·rcases v9.mp h' with L | h'
    ·exact ik (mw.mpr ⟨_,h,rfl⟩) (by rw[<-L] at nd;exact nd.1)
    ·exact ih nd.2 h h'
theorem Otp.step {sums:cc (ic×cc ic)} (nd:(sums.map (·.1)).Nodup) {od:A6} {lf:cc (ic×cc ic)} (o:Otp sums od lf):
  Otp sums (od++(lf.filter λr=> !dQ (lf.map (·.1)) r.2).map (·.1)) (lf.filter λr=>dQ (lf.map (·.1)) r.2):=by
 refine⟨?_,λr h=>o.sub r (Nj.mp h).1,λi z hz ws Y y O hs=>?_⟩
 ·refine Pq ?_ o.perm;rw[Pb,<-hh];refine Ra _ (List.Perm.map _ ?_);refine Pq RT ?_;exact RE _ _
 ·by_cases hi:i < od.length
  ·rw[vr hi] at hz;rw[List.take_append_of_le_length (Pj hi)];exact o.need i z hz ws Y y O hs
  ·rw[u' @A] at hz;have hm:=hA hz;obtain⟨r,Z,rfl⟩:=mw.mp hm;obtain⟨ω,L⟩:=Nj.mp Z;have e:ws=r.2:=Jd nd Y (o.sub r ω);subst e
   have hn:y∉lf.map (·.1):=λm=>by
    have:dQ (lf.map (·.1)) r.2=true:=Oy.mpr ⟨y,O,fZ m⟩;rw[this] at L;cases L
   have:=(o.perm.mem_iff (a:=y)).mpr hs;rcases lx.mp this with h | h
   ·rw[List.take_append,lx];left;rw[RJ @A];exact h
   ·exact ik h hn
theorem ye {α:Type} (p:α->N1):∀l:cc α,0 < (l.filter λx=> !p x).length->(l.filter p).length < l.length:=λl h=>by
 have:=(RE p l).length_eq;rw[hE] at this;omega
structure NetA (H:Hp) (C CI CS CT p:eH) (N:Nt) (od:A6):Prop where
 ho:∃(dx i s t o d tq:eH) (rs:cc Rw) (qs:cc Qs) (ws:G'),H p=ag (.ins C dx [("ins",.ref i),("sums",.ref s),("kept_stores",.ref t),("outs",.ref o),("by_name",.ref d),("sum_order",.ref tq)])/\Kpt H i s t o rs qs N/\WiA H CI CS CT d N ws/\H tq=ag (.tup (od.map V.str))
 g:Gn N
 tp:Topo N.sums od
theorem NetA.same {H H2:Hp} {C Y O L p:eH} {N:Nt} {od:A6} (x:NetA H C Y O L p N od) (h:Same H H2):NetA H2 C Y O L p N od:=
 ⟨let ⟨dx,i,s,t,o,d,Z,rs,qs,ws,a,b,c,e⟩:=x.ho;⟨dx,i,s,t,o,d,Z,rs,qs,ws,h.get a,b.same h,c.same h,h.get e⟩,x.g,x.tp⟩
def Kx (x:eH) (H H2:Hp):Prop:=∀b ob,b≠x->H b=ag ob->H2 b=ag ob
theorem Kx.trans {x:eH} {H H2 L:Hp} (a:Kx x H H2) (b:Kx x H2 L):Kx x H L:=λc o n e=>b c o n (a c o n e)
theorem Kx.same {x:eH} {H H2:Hp} (s:Same H H2):Kx x H H2:=λ_ _ _ e=>s.get e
theorem Kx.upd {x:eH} {H H2:Hp} {o:HO} (u:Upd H H2 x o):Kx x H H2:=u.oth
theorem Kx.tup {x:eH} {H H2:Hp} (k:Kx x H H2) {C dx:eH} {fs:cc (ic×V)} (hx:H x=ag (.ins C dx fs)) {b:eH} {xs:cc V} (e:H b=ag (.tup xs)):H2 b=ag (.tup xs):=k b _ (hU e hx λz=>by cases z) e
theorem Kx.lst {x:eH} {H H2:Hp} (k:Kx x H H2) {C dx:eH} {fs:cc (ic×V)} (hx:H x=ag (.ins C dx fs)) {b:eH} {xs:cc V} (e:H b=ag (.lst xs)):H2 b=ag (.lst xs):=k b _ (hU e hx λz=>by cases z) e
def RwK (H:Hp) (rs:cc Rw):Prop:=∀r∈rs,H r.1=ag (.tup [.str r.2.2.1,.ref r.2.1])/\H r.2.1=ag (.tup (r.2.2.2.map V.str))
def QsK (H:Hp) (qs:cc Qs):Prop:=∀q∈qs,H q.1=ag (.tup [.str q.2.1,.str q.2.2])
theorem RwK.same {H H2:Hp} {rs:cc Rw} (h:RwK H rs) (s:Same H H2):RwK H2 rs:=λr m=>⟨s.get (h r m).1,s.get (h r m).2⟩
theorem QsK.same {H H2:Hp} {qs:cc Qs} (h:QsK H qs) (s:Same H H2):QsK H2 qs:=λq m=>s.get (h q m)
theorem RwK.updL {H H2:Hp} {rs:cc Rw} (h:RwK H rs) {D:eH} {xs:cc V} (L:H D=ag (.lst xs)) (k:∀b o,b≠D->H b=ag o->H2 b=ag o):RwK H2 rs:=λr m=>⟨k _ _ (hU (h r m).1 L λz=>by cases z) (h r m).1,k _ _ (hU (h r m).2 L λz=>by cases z) (h r m).2⟩
theorem QsK.updL {H H2:Hp} {qs:cc Qs} (h:QsK H qs) {D:eH} {xs:cc V} (L:H D=ag (.lst xs)) (k:∀b o,b≠D->H b=ag o->H2 b=ag o):QsK H2 qs:=λq m=>k _ _ (hU (h q m) L λz=>by cases z) (h q m)
theorem Kx.kpt {x:eH} {H H2:Hp} (k:Kx x H H2) {C dx:eH} {fs:cc (ic×V)} (hx:H x=ag (.ins C dx fs)) {i s t o:eH} {rs:cc Rw} {qs:cc Qs} {N:Nt} (h:Kpt H i s t o rs qs N):Kpt H2 i s t o rs qs N:=
 ⟨k.tup hx h.i,k.tup hx h.s,λr m=>⟨k.tup hx (h.sr r m).1,k.tup hx (h.sr r m).2⟩,h.es,k.tup hx h.t,λq m=>k.tup hx (h.tr q m),h.et,k.tup hx h.o⟩
theorem Kx.wia {x:eH} {H H2:Hp} (k:Kx x H H2) {α Z Y d:eH} {N:Nt} {ws:G'} (h:WiA H α Z Y d N ws) (hd:d≠x) (hw:∀q∈ws,q.2≠x) {C dx:eH} {fs:cc (ic×V)} (hx:H x=ag (.ins C dx fs)):WiA H2 α Z Y d N ws:=
 ⟨k _ _ hd h.d,h.nm,λq m=>by
  cases h.ob q m with
  | i O L hk e=>exact .i O L hk (k _ _ (hw q m) e)
  | s ν L tw hk e et=>exact .s ν L tw hk (k _ _ (hw q m) e) (k.tup hx et)
  | t O y L hk e=>exact .t O y L hk (k _ _ (hw q m) e)⟩
noncomputable def xb (f:E') (ws:A6):Bool:=ws.foldl (λa w=>a^^f w) false
structure Val (N:Nt) (row st:Nat) (f:E'):Prop where
 i:∀(k:Nat) z,N.ins[k]? =ag z->f z=row.testBit k
 t:∀(k:Nat) z y,N.sts[k]? =ag (z,y)->f z=st.testBit k
 s:∀z ws,(z,ws)∈N.sums->f z=xb f ws
noncomputable def fv (N:Nt) (Z st:Nat):E':=RM (Val N Z st)
noncomputable def need (N:Nt) (od:A6):A6:=N.ins++N.sts.map (·.1)++od
structure Pre (N:Nt) (row st:Nat) (pre:A6) (f:E'):Prop where
 i:∀(k:Nat) z,N.ins[k]? =ag z->z∈pre->f z=row.testBit k
 t:∀(k:Nat) z y,N.sts[k]? =ag (z,y)->z∈pre->f z=st.testBit k
 s:∀z ws,(z,ws)∈N.sums->z∈pre->f z=xb f ws/\∀w∈ws,w∈pre
structure Bt (N:Nt) (row st:Nat) (pre:A6) (f:E') (z:ic) (v:N1):Prop where
 i:∀k:Nat,N.ins[k]? =ag z->v=row.testBit k
 t:∀(k:Nat) y,N.sts[k]? =ag (z,y)->v=st.testBit k
 s:∀ws,(z,ws)∈N.sums->v=xb f ws/\∀w∈ws,w∈pre
section
variable {N:Nt} (g:Gn N)
include g
variable {od:A6} (tp:Topo N.sums od)
include tp
end
noncomputable abbrev NP:=Hp->eH->Nt->A6->Prop
def z6 (L:NP):Sp:=λvs H Q _=>∃(p:eH) (N:Nt) (od:A6),vs=[.ref p]/\L H p N od/\∀(D:eH) (H2:Hp),H D=gs->Same H H2->H2 D=ag (.lst (N.ins.map V.str))->Q (.ref D) H2
def Ir (L:NP):Sp:=λvs H Q _=>∃(p:eH) (N:Nt) (od:A6),vs=[.ref p]/\L H p N od/\∀(D:eH) (H2:Hp),H D=gs->Same H H2->H2 D=ag (.lst (N.outs.map V.str))->Q (.ref D) H2
def CZ (L:NP):Sp:=λvs H Q _=>∃(p:eH) (N:Nt) (od:A6),vs=[.ref p]/\L H p N od/\∀(D:eH) (H2:Hp) (qs:cc Qs),H D=gs->Same H H2->H2 D=ag (.lst (qs.map λq=>V.ref q.1))->QsK H2 qs->qs.map (·.2)=N.sts->Q (.ref D) H2
structure RunA (NA:NP) (H:Hp) (C p l n:eH) (N:Nt) (od:A6) (st:Nat) (as:A'):Prop where
 ho:∃(dx d:eH),H p=ag (.ins C dx [("net",.ref n),("held",nat st),("bits",.ref d),("given",.ref l)])
 hl:H l=ag (.lst (as.map nat))
 na:NA H n N od
noncomputable def mixV (c k:Int):Int:=((c % 2147483647 * 48271 + 7919 * k + 11) % 2147483647 * ((c % 2147483647 * 48271 + 7919 * k + 11) % 2147483647) % 2147483629) * ((c % 2147483647 * 48271 + 7919 * k + 11) % 2147483647 * ((c % 2147483647 * 48271 + 7919 * k + 11) % 2147483647) % 2147483629 + 48271 * k + 7) % 2147483587
theorem Eg (c k:Int):0<=mixV c k:=M8 _ @C
def C2:Sp:=λvs H Q _=>∃(c k:Int),vs=[.int c,.int k]/\0<=k/\k < 100000/\Q (.int (mixV c k)) H
noncomputable def CA:Str:=("cut x x0 x1 fresh new zero none nil tmp c c0 cut0 cut1 gnd off in out sum store":ic)++(" i0 i1 s0 s1 n0 n1 o0 o1 net wire a b z y0 t0 w w0 k dead open":ic)
noncomputable def W40:A6:=M7 CA " "
theorem uJ:W40.length=40:=by decide +kernel
theorem LQ:W40.Nodup:=by decide +kernel
theorem LP:∀z∈W40,nm z.cps.toList=true:=by decide +kernel
noncomputable def dval (l:A'):Nat:=l.foldl (λa c=>10 * a + (c - 48)) 0
noncomputable def tx (n:Nat):Str:=(toString (n:Int):Np)
noncomputable def txB (n:Nat):Bool:=decide ((dval (tx n).cps.toList=n/\(tx n).cps.toList.all fig=true)/\(tx n).cps.toList.length<=4)
noncomputable def txR (k:Nat):Bool:=(Na 250).all λi=>txB (250 * k + i)
theorem txk:∀k,k < 10->txR k=true
 | 0,_=>by decide +kernel
 | 1,_=>by decide +kernel
 | 2,_=>by decide +kernel
 | 3,_=>by decide +kernel
 | 4,_=>by decide +kernel
 | 5,_=>by decide +kernel
 | 6,_=>by decide +kernel
 | 7,_=>by decide +kernel
 | 8,_=>by decide +kernel
 | 9,_=>by decide +kernel
 | k + 10,h=>ik h @A
theorem CC:∀n:Fin 2500,(dval (tx n.1).cps.toList=n.1/\(tx n.1).cps.toList.all fig=true)/\(tx n.1).cps.toList.length<=4:=λn=>by
 have h:=Nr.mp (txk (n.1 / 250) @A) (n.1 % 250) (Oh.mpr @A);rw[Nat.div_add_mod] at h;exact M3 h
noncomputable def nmf (c k:Int):Str:=if mixV c 402 % 2=0 then W40.getD ((k + mixV c 403) % 40).toNat "" else (⟨#[97 + (mixV c 400 % 26).toNat]⟩:ic)++tx ((mixV c 401 % 1000).toNat + 37 * k.toNat)
theorem Fl (x y:ic):(x++y).cps.toList=x.cps.toList++y.cps.toList:=by
 show(x.cps++y.cps).toList=_;rw[S3]
theorem Lc (c:Int) {k:Int} (Y:0<=k) (h1:k < 40):Nm (nmf c k):=by
 unfold nmf;by_cases h:mixV c 402 % 2=0
 ·rw[kn h]
  have hi:((k + mixV c 403) % 40).toNat < W40.length:=by
   rw[uJ];have:=MS (k + mixV c 403) (show(0:Int) < 40 by decide);have:=M8 (k + mixV c 403) (show(40:Int)≠0 by decide);omega
  rw[hB,c' hi];exact LP _ (Ny hi)
 ·rw[hQ h]
  have hb:(mixV c 401 % 1000).toNat + 37 * k.toNat < 2500:=by
   have:=MS (mixV c 401) (show(0:Int) < 1000 by decide);have:=M8 (mixV c 401) (show(1000:Int)≠0 by decide);omega
  obtain⟨⟨_,h2⟩,O⟩:=CC ⟨_,hb⟩
  have hd:low (97 + (mixV c 400 % 26).toNat)=true:=by
   have:=MS (mixV c 400) (show(0:Int) < 26 by decide);have:=M8 (mixV c 400) (show(26:Int)≠0 by decide);unfold low;rw[fZ @A,fZ @A];rfl
  show nm _=true;rw[Fl];show nm ((97 + (mixV c 400 % 26).toNat)::(tx ((mixV c 401 % 1000).toNat + 37 * k.toNat)).cps.toList)=true;generalize hl:(tx ((mixV c 401 % 1000).toNat + 37 * k.toNat)).cps.toList=l at h2 O;generalize 97 + (mixV c 400 % 26).toNat=d at hd;show(decide ((d::l).length<=6)&&low d&&(d::l).all λc=>low c||fig c)=true;rw[hd,Qf,hd]
  have π:l.all (λc=>low c||fig c)=true:=by
   rw[Nr] at h2 ⊢;intro x L;rw[h2 x L,P8]
  rw[π,y1,fZ @A];rfl
theorem Jh (c:Int) {j k:Int} (Z:0<=j) (γ:j < 40) (k0:0<=k) (k1:k < 40) (e:nmf c j=nmf c k):j=k:=by
 unfold nmf at e;by_cases h:mixV c 402 % 2=0
 ·rw[kn h,kn h] at e;have ζ:=MS (j + mixV c 403) (show(0:Int) < 40 by decide);have χ:=M8 (j + mixV c 403) (show(40:Int)≠0 by decide);have hk:=MS (k + mixV c 403) (show(0:Int) < 40 by decide);have υ:=M8 (k + mixV c 403) (show(40:Int)≠0 by decide);have O:((j + mixV c 403) % 40).toNat < W40.length:=by rw[uJ];omega
  have lk:((k + mixV c 403) % 40).toNat < W40.length:=by rw[uJ];omega
  rw[hB,hB,c' O,c' lk] at e;have L:W40[((j + mixV c 403) % 40).toNat]? =W40[((k + mixV c 403) % 40).toNat]? :=by rw[c' O,c' lk];exact K' ag e
  have:=(List.getElem?_inj O LQ).mp L;omega
 ·rw[hQ h,hQ h] at e;have hm:=MS (mixV c 401) (show(0:Int) < 1000 by decide);have δ:=M8 (mixV c 401) (show(1000:Int)≠0 by decide);have β:(mixV c 401 % 1000).toNat + 37 * j.toNat < 2500:=by omega
  have α:(mixV c 401 % 1000).toNat + 37 * k.toNat < 2500:=by omega
  have L:=K' (λz:ic=>z.cps.toList) e;simp only[Fl] at L;have ε:=List.append_cancel_left L;have Y:=K' dval ε;rw[(CC ⟨_,β⟩).1.1,(CC ⟨_,α⟩).1.1] at Y;have Y:(mixV c 401 % 1000).toNat + 37 * j.toNat=(mixV c 401 % 1000).toNat + 37 * k.toNat:=Y;omega
def sC:Sp:=λvs H Q _=>∃(c k:Int),vs=[.int c,.int k]/\0<=k/\k < 40/\∀H2,Same H H2->Q (.str (nmf c k)) H2
def C3:Sp:=λvs H Q _=>∃(c:Int) (st:Int) (l:eH) (zs:A6) (dg:N1),vs=[.int c,.int st,.ref l,.bl dg]/\0<=st/\st<=900/\H l=ag (.lst (zs.map V.str))/\zs.length<=50/\∀(D:eH) (H2:Hp) (ws:A6),H D=gs->Same H H2->H2 D=ag (.lst (ws.map V.str))->ws.length<=4->(∀w∈ws,w∈zs)->Q (.ref D) H2
theorem AR (i:Int) (L:0<=i) (h1:i < 26):atI ("abcdefghijklmnopqrstuvwxyz":ic).cps.toList i=ag (97 + i.toNat):=by
 have e:("abcdefghijklmnopqrstuvwxyz":ic).cps.toList=Q4 97 26:=by decide +kernel
 obtain⟨j,rfl⟩:=O7 L;rw[e];refine c6 ?_;rw[List.getElem?_range' @A];show ag (97 + 1 * j)=ag (97 + (j:Int).toNat);rw[Nat.one_mul,MW]
def RwL (H:Hp) (rs:cc Rw):Prop:=∀r∈rs,H r.1=ag (.tup [.str r.2.2.1,.ref r.2.1])/\H r.2.1=ag (.lst (r.2.2.2.map V.str))
theorem RwL.same {H H2:Hp} {rs:cc Rw} (h:RwL H rs) (s:Same H H2):RwL H2 rs:=λr m=>⟨s.get (h r m).1,s.get (h r m).2⟩
noncomputable def nms (c:Int) (a n:Nat):A6:=(Na n).map λk=>nmf c ((a + k:Nat):Int)
theorem dh (c:Int) (a n:Nat):(nms c a n).length=n:=by unfold nms;rw[ak,So]
theorem mX (c:Int) (a n:Nat):nms c a (n + 1)=nms c a n++[nmf c ((a + n:Nat):Int)]:=by unfold nms;rw[List.range_succ,hh];rfl
theorem ke {c:Int} {a n:Nat} {z:ic} (h:z∈nms c a n):∃k,k < n/\z=nmf c ((a + k:Nat):Int):=by
 obtain⟨k,hk,rfl⟩:=mw.mp h;exact⟨k,Oh.mp hk,rfl⟩
theorem Lb {c:Int} {a n k:Nat} (h:k < n):nmf c ((a + k:Nat):Int)∈nms c a n:=mw.mpr ⟨k,Oh.mpr h,rfl⟩
theorem tX (c:Int) {j k:Nat} (γ:j < 40) (k1:k < 40) (e:nmf c (j:Int)=nmf c (k:Int)):j=k:=by
 have:=Jh c @A @A @A @A e;omega
structure Mk (c:Int) (ni nt:Nat) (rows:cc (ic×cc ic)):Prop where
 nm:rows.map (·.1)=nms c 22 rows.length
 ws:∀(k:Nat) r,rows[k]? =ag r->r.2.length<=4/\∀w∈r.2,w∈nms c 0 ni++nms c 6 nt++nms c 22 k
theorem Mk.nil (c:Int) (L nt:Nat):Mk c L nt []:=⟨rfl,λk r h=>by simp at h⟩
theorem Mk.put {c:Int} {L nt:Nat} {rows:cc (ic×cc ic)} (m:Mk c L nt rows) {ws:A6} (l:ws.length<=4) (h:∀w∈ws,w∈nms c 0 L++nms c 6 nt++nms c 22 rows.length):Mk c L nt (rows++[(nmf c ((22 + rows.length:Nat):Int),ws)]):=by
 refine⟨by rw[hh,m.nm,hE,M0,mX];rfl,λk r hk=>?_⟩;by_cases O:k < rows.length
 ·rw[vr O] at hk;exact m.ws k r hk
 ·rw[u' @A] at hk
  have:k - rows.length=0:=by
   have:=(b'.mp hk).1;rw[M0] at this;omega
  rw[this] at hk;cases hk;rw[show k=rows.length by omega];exact⟨l,h⟩
noncomputable def xf (f:ic->Nat) (ws:A6):Nat:=ws.foldl (λa w=>a^^^f w) 0
structure Hng (N:Nt) (p:ic->Nat×Nat):Prop where
 i:∀(k:Nat) z,N.ins[k]? =ag z->p z=(0,2 ^ k)
 t:∀(k:Nat) z y,N.sts[k]? =ag (z,y)->p z=(2 ^ k,0)
 s:∀z ws,(z,ws)∈N.sums->p z=(xf (λw=>(p w).1) ws,xf (λw=>(p w).2) ws)
noncomputable def hgp (N:Nt) (z:ic):Nat×Nat:=(M.pk (λk=>fv N 0 (2 ^ k) z) 0 N.sts.length,M.pk (λk=>fv N (2 ^ k) 0 z) 0 N.ins.length)
section
variable {N:Nt} (g:Gn N) {od:A6} (tp:Topo N.sums od) {p:ic->Nat×Nat} (h:Hng N p)
include g tp h
end
structure Hgd (H:Hp) (d:eH) (N:Nt) (zs:A6) (hs:G'):Prop where
 d:H d=ag (.dK (hs.map λq=>(n' q.1,V.ref q.2)))
 nm:hs.map (·.1)=zs
 ob:∀q∈hs,H q.2=ag (.tup [nat (hgp N q.1).1,nat (hgp N q.1).2])
structure Sml (m:Nat) (ps os:A3):Prop where
 m6:m<=6
 lp:ps.length<=16
 lo:os.length<=6
 bn:∀q∈ps++os,q.1 < 2 ^ ps.length/\q.2 < 2 ^ m
section
variable {m:Nat} {ps os:A3} (b:Sml m ps os)
include b
end
section
variable {m:Nat} {ps os:A3} (b:Sml m ps os)
include b
end
end Sx
namespace M
noncomputable def stj (ps:A3):A'->Nat->A'
 | S,0=>S
 | S,j + 1=>(stj ps S j).map λx=>tr2 ps x 0
noncomputable def sg0 (ps:A3) (m:Nat):A':=(Na m).map λw=>tr2 ps 0 (2 ^ w)
noncomputable def rch (ps:A3) (m:Nat):Nat->A'
 | 0=>[]
 | T + 1=>stj ps (sg0 ps m) T++rch ps m T
noncomputable def zs (ps:A3) (x:Nat):Nat->Nat
 | 0=>x
 | n + 1=>tr2 ps (zs ps x n) 0
noncomputable def upk (w q T:Nat):A':=(Na T).map λt=>(q>>>(t * w))&&&(2 ^ w - 1)
structure Kern (R ms:A'):Prop where
 inj:Inj ms
 lt:∀m∈ms,m < 2 ^ R.length
 ev:∀m∈ms,sm R m=0
 all:∀z,z < 2 ^ R.length->sm R z=0->Span ms z
structure Lft (left rows:A'):Prop where
 nz:∀x∈left,x≠0
 pw:left.Pairwise λa b=>b.testBit a.log2=false
 sp:∀x,Span left x↔Span rows x
 len:left.length=(fr rows).length
noncomputable def bm (rows:A') (b:Nat):Nat:=RM (Bar rows b)
structure Fst (ms:A') (p:Nat):Prop where
 lt:p < ms.length
 out:∀k,k < p->¬Span (ms.take k) (ms.getD k 0)
 in_:Span (ms.take p) (ms.getD p 0)
noncomputable def zl (ps:A3) (d n:Nat):A':=(Na (n + 1)).map (zs ps d)
noncomputable def act (ps:A3) (x Q:Nat):Nat:=if Q=0 then 0 else (if Q % 2=1 then x else 0)^^^act ps (tr2 ps x 0) (Q / 2)
termination_by Q
decreasing_by omega
structure Lst (ps:A3) (x P:Nat):Prop where
 nz:P≠0
 dv:∀Q,act ps x Q=0↔Dv P Q
structure Rng (ps:A3) (x l n:Nat):Prop where
 pos:1<=n
 back:zs ps x (l + n)=zs ps x l
 least:∀e,1<=e->e < n->zs ps x (l + e)≠zs ps x l
 early:1<=l->zs ps x (l - 1 + n)≠zs ps x (l - 1)
noncomputable def bl (A:A') (s n:Nat):A':=(Na (n + 1)).map (bkI A s)
end M
namespace Sx
open PySem L2
structure Sgl (H:Hp) (D:eH) (ds:D') (ps os:A3) (n m:Nat):Prop where
 d:H D=ag (.lst (ds.map V.ref))
 len:ds.length=m
 at':∀(w:Nat) (d:eH),ds[w]? =ag d->H d=ag (.lst ((M.wan ps os 0 (M.pulse w n)).map nat))
noncomputable def strD (z:ic):Dt:= .str z
noncomputable def rowD (r:ic×cc ic):Dt:= .tup [.str r.1,.tup (r.2.map strD)]
noncomputable def stoD (r:ic×ic):Dt:= .tup [.str r.1,.str r.2]
noncomputable def netD (N:Nt):Dt:= .tup [.lst (N.ins.map strD),.lst (N.sums.map rowD),.lst (N.sts.map stoD),.lst (N.outs.map strD)]
theorem jr {K:a'} {H:Hp} {D:eH} {zs:A6} (e:H D=ag (.lst (zs.map V.str))):Rep K H (.ref D) (.lst (zs.map strD)):= .lst (SqL.of e) (by rw[ak,ak]) (pZ V.str strD (λz=> .str z) zs)
theorem Gw {K:a'} {H:Hp} {D:eH} {zs:A6} (e:H D=ag (.tup (zs.map V.str))):Rep K H (.ref D) (.tup (zs.map strD)):= .tup (SqT.of e) (by rw[ak,ak]) (pZ V.str strD (λz=> .str z) zs)
theorem Hu {K:a'} {H:Hp} {t:eH} {v w:V} {d e:Dt} (h:H t=ag (.tup [v,w])) (L:Rep K H v d) (υ:Rep K H w e):Rep K H (.ref t) (.tup [d,e]):= .tup (SqT.of h) rfl λi x y h1 h2=>by
 match i,h1,h2 with
 | 0,h1,h2=>cases h1;cases h2;exact L
 | 1,h1,h2=>cases h1;cases h2;exact υ
 | i + 2,h1,_=>simp at h1
theorem KJ {K:a'} {H:Hp} {t:eH} {v w O L:V} {d e d' e':Dt} (h:H t=ag (.tup [v,w,O,L])) (Z:Rep K H v d) (υ:Rep K H w e) (Y:Rep K H O d') (r4:Rep K H L e'):Rep K H (.ref t) (.tup [d,e,d',e']):= .tup (SqT.of h) rfl λi x y h1 h2=>by
 match i,h1,h2 with
 | 0,h1,h2=>cases h1;cases h2;exact Z
 | 1,h1,h2=>cases h1;cases h2;exact υ
 | 2,h1,h2=>cases h1;cases h2;exact Y
 | 3,h1,h2=>cases h1;cases h2;exact r4
 | i + 4,h1,_=>simp at h1
theorem Gy {K:a'} {H:Hp} {D:eH} {rs:cc Rw} (e:H D=ag (.lst (rs.map λr=>V.ref r.1))) (k:RwK H rs):Rep K H (.ref D) (.lst ((rs.map (·.2.2)).map rowD)):= .lst (SqL.of e) (by rw[ak,ak,ak]) λi x y h1 h2=>by
 rw[hH] at h1;rw[qa,hH] at h2;obtain⟨r,L,rfl⟩:=Nn.mp h1;rw[L] at h2;cases h2;have:=k r (hA L);exact Hu this.1 (.str _) (Gw this.2)
theorem Gx {K:a'} {H:Hp} {D:eH} {qs:cc Qs} (e:H D=ag (.lst (qs.map λr=>V.ref r.1))) (k:QsK H qs):Rep K H (.ref D) (.lst ((qs.map (·.2)).map stoD)):= .lst (SqL.of e) (by rw[ak,ak,ak]) λi x y h1 h2=>by
 rw[hH] at h1;rw[qa,hH] at h2;obtain⟨r,L,rfl⟩:=Nn.mp h1;rw[L] at h2;cases h2;exact Hu (k r (hA L)) (.str _) (.str _)
structure TldA (H:Hp) (t D1 D2 D3 D4:eH) (rs:cc Rw) (qs:cc Qs) (N:Nt):Prop where
 t:H t=ag (.tup [.ref D1,.ref D2,.ref D3,.ref D4])
 i:H D1=ag (.lst (N.ins.map V.str))
 s:H D2=ag (.lst (rs.map λr=>V.ref r.1))
 sr:RwK H rs
 es:rs.map (·.2.2)=N.sums
 st:H D3=ag (.lst (qs.map λr=>V.ref r.1))
 tr:QsK H qs
 et:qs.map (·.2)=N.sts
 o:H D4=ag (.lst (N.outs.map V.str))
theorem TldA.same {H H2:Hp} {t O L ψ π:eH} {rs:cc Rw} {qs:cc Qs} {N:Nt} (x:TldA H t O L ψ π rs qs N) (s:Same H H2):TldA H2 t O L ψ π rs qs N:=⟨s.get x.t,s.get x.i,s.get x.s,x.sr.same s,x.es,s.get x.st,λq m=>s.get (x.tr q m),x.et,s.get x.o⟩
theorem TldA.rep {K:a'} {H:Hp} {t Y L ψ π:eH} {rs:cc Rw} {qs:cc Qs} {N:Nt} (x:TldA H t Y L ψ π rs qs N):Rep K H (.ref t) (netD N):=by
 have υ:Rep K H (.ref L) (.lst (N.sums.map rowD)):=by rw[<-x.es];exact Gy x.s x.sr
 have O:Rep K H (.ref ψ) (.lst (N.sts.map stoD)):=by rw[<-x.et];exact Gx x.st x.tr
 exact KJ x.t (jr x.i) υ O (jr x.o)
theorem gO:∀l:A6,dH (l.map strD)=0
 | []=>rfl
 | z::l=>by rw[MU,dH,gO l];rfl
theorem zb:∀l:cc (ic×cc ic),dH (l.map rowD)<=2
 | []=>N2 _
 | r::l=>by
   rw[MU,dH,rowD,depD,dH,dH,depD,gO];have:=zb l;simp[depD,dH];omega
theorem za:∀l:cc (ic×ic),dH (l.map stoD)<=1
 | []=>N2 _
 | r::l=>by
   rw[MU,dH,stoD,depD,dH,dH];have:=za l;simp[depD,dH];omega
theorem E6 (N:Nt):depD (netD N)<=100:=by
 unfold netD;rw[depD,dH,dH,dH,dH,depD,depD,depD,depD,gO,gO];have:=zb N.sums;have:=za N.sts;simp[dH];omega
def F5 (Y:NP):Sp:=λvs H Q _=>∃(p:eH) (N:Nt) (od:A6),vs=[.ref p]/\Y H p N od/\∀(t O L ψ π:eH) (H2:Hp) (rs:cc Rw) (qs:cc Qs),H O=gs->H L=gs->H ψ=gs->H π=gs->H t=gs->Same H H2->TldA H2 t O L ψ π rs qs N->Q (.ref t) H2
def Ip (L:NP):Sp:=λvs H Q _=>∃(p:eH) (N:Nt) (od:A6),vs=[.ref p]/\L H p N od/\∀(D:eH) (H2:Hp) (rs:cc Rw),H D=gs->Same H H2->H2 D=ag (.lst (rs.map λr=>V.ref r.1))->RwK H2 rs->rs.map (·.2.2)=N.sums->Q (.ref D) H2
structure Sumd (rows:A') (x q:Nat):Prop where
 lt:q < 2 ^ rows.length
 sm:M.sm rows q=x
 fr:M.Frs rows q
structure Bard (rows:A') (x m:Nat):Prop where
 ns:¬M.Span rows x
 bar:∃y,M.Span rows y/\x^^^y≠0/\MM rows (x^^^y).log2/\M.Bar rows (x^^^y).log2 m
 ev:∀y,M.Span rows y->M.od (m&&&y)=false
 odd:M.od (m&&&x)=true
 lt:∀W,(∀r∈rows,r < 2 ^ W)->x < 2 ^ W->m < 2 ^ W
end Sx
namespace L2
open PySem
theorem j8 {X:Cx} {K:a'} (h:X.K=K):OpR X (compareOp .NotIn) (rIn K true):=by subst h;exact vz
end L2
namespace Sx
open PySem L2
noncomputable def J (c:Nat):cc A'->A'
 | []=>[]
 | [x]=>x
 | x::y::r=>x++c::J c (y::r)
theorem HG {c:Nat}:∀{x y a b:A'},c∉x->c∉y->x++c::a=y++c::b->x=y/\a=b
 | [],[],a,b,_,_,h=>⟨rfl,(PY h).2⟩
 | [],d::y,a,b,_,hy,h=>ik (by rw[(PY h).1];exact ox) hy
 | d::x,[],a,b,hx,_,h=>ik (by rw[<-(PY h).1];exact ox) hx
 | d::x,e::y,a,b,hx,hy,h=>by
   obtain⟨h1,h2⟩:=PY h;obtain⟨L,ε⟩:=HG (λz=>hx (px _ z)) (λz=>hy (px _ z)) h2;exact⟨by rw[h1,L],ε⟩
theorem LW {c:Nat}:∀(ws vs:cc A'),ws≠[]->vs≠[]->(∀w∈ws,c∉w)->(∀w∈vs,c∉w)->J c ws=J c vs->ws=vs
 | [],_,h,_,_,_,_=>ik rfl h
 | _,[],_,h,_,_,_=>ik rfl h
 | [x],[y],_,_,_,_,h=>by rw[show x=y from h]
 | [x],y::z::r,_,_,hx,_,h=>ik (by rw[show x=y++c::J c (z::r) from h];simp) (hx x ox)
 | x::y::r,[z],_,_,_,hz,h=>ik (by rw[show z=x++c::J c (y::r) from h.symm];simp) (hz z ox)
 | x::y::r,x'::O::r',_,_,hx,hz,h=>by
   obtain⟨h1,h2⟩:=HG (hx x ox) (hz x' ox) (show x++c::J c (y::r)=x'++c::J c (O::r') from h);rw[h1,LW (y::r) (O::r') @F @F (λw L=>hx w (px _ L)) (λw L=>hz w (px _ L)) h2]
theorem i9 (c:Nat):∀ws:A6,(OM ⟨#[c]⟩ ws).cps.toList=J c (ws.map (·.cps.toList))
 | []=>rfl
 | [x]=>rfl
 | x::y::r=>by
   have ih:=i9 c (y::r);show(x.cps++#[c]++(OM ⟨#[c]⟩ (y::r)).cps).toList=x.cps.toList++c::J c ((y::r).map (·.cps.toList));rw[<-ih];simp
theorem sA {c:Nat} {ws:A6} (h:ws≠[]) (hf:∀w∈ws,c∉w.cps.toList):M7 (OM ⟨#[c]⟩ ws) ⟨#[c]⟩=ws:=by
 have α:=RP (OM ⟨#[c]⟩ ws) ⟨#[c]⟩;have Z:=StrLaws.split_free (OM ⟨#[c]⟩ ws) c;have O:=NX (OM ⟨#[c]⟩ ws) ⟨#[c]⟩;generalize M7 (OM ⟨#[c]⟩ ws) ⟨#[c]⟩=vs at α Z O ⊢;have Y:=i9 c vs;rw[α,i9 c ws] at Y;have β:=LW (c:=c) _ _ (by simpa using h) (by intro z;rw[OA] at z;subst z;simp at O) (λw L=>by obtain⟨v,ρ,rfl⟩:=mw.mp L;exact hf v ρ) (λw L=>by obtain⟨v,ρ,rfl⟩:=mw.mp L;exact Z v ρ) Y;have inj:∀x y:ic,x.cps.toList=y.cps.toList->x=y:=λ⟨⟨a⟩⟩ ⟨⟨b⟩⟩ h=>by cases(show a=b from h);rfl
 exact(List.map_inj_right inj).mp β.symm
theorem kB (y:ic) (l:A6):OZ y l=OM y l:=StrLaws.glued_eq_join _ _
theorem iw:(vl " ")=⟨#[32]⟩:=by decide +kernel
theorem jT:(vl "\n")=⟨#[10]⟩:=by decide +kernel
theorem sG {X:Cx} {K:a'} (h:X.K=K):OpR X (compareOp .In) (rIn K false):=by subst h;exact DX
def Wd (z:ic):Prop:=(32:Nat)∉z.cps.toList/\(10:Nat)∉z.cps.toList
theorem Nm.wd {z:ic} (h:Nm z):Wd z:=by
 have h:nm z.cps.toList=true:=h
 have L:∀c:Nat,(low c||fig c)=false->c∉z.cps.toList:=λc O m=>by
  cases e:z.cps.toList with
  | nil=>rw[e] at m;cases m
  | cons d r=>
    rw[e] at h m;unfold nm at h;rw[wb,Nr] at h;have:=h.2 c m;rw[O] at this;cases this
 exact⟨L 32 @C,L 10 @C⟩
theorem Ma:Wd "in":=by unfold Wd;decide +kernel
theorem JY:Wd "out":=by unfold Wd;decide +kernel
theorem JX:Wd "sum":=by unfold Wd;decide +kernel
theorem FW:Wd "store":=by unfold Wd;decide +kernel
theorem JZ:Wd "=":=by unfold Wd;decide +kernel
inductive Fm:A6->Prop where
 | i (z:ic) (h:Nm z):Fm ["in",z]
 | o (z:ic) (h:Nm z):Fm ["out",z]
 | s (z:ic) (ws:A6) (h:Nm z) (hw:∀w∈ws,Nm w) (l:ws.length<=24):Fm ("sum"::z::"="::ws)
 | t (z y:ic) (h:Nm z) (hy:Nm y):Fm ["store",z,"=",y]
theorem Fm.wd {r:A6} (f:Fm r):∀w∈r,Wd w:=by
 cases f with
 | i z h=>intro w hw;simp at hw;rcases hw with rfl | rfl<;>first | exact Ma | exact h.wd
 | o z h=>intro w hw;simp at hw;rcases hw with rfl | rfl<;>first | exact JY | exact h.wd
 | s z ws h L l=>
   intro w hw;simp at hw;rcases hw with rfl | rfl | rfl | hw<;>first | exact JX | exact h.wd | exact JZ | exact(L w hw).wd
 | t z y h O=>intro w hw;simp at hw;rcases hw with rfl | rfl | rfl | rfl<;>first | exact FW | exact h.wd | exact JZ | exact O.wd
theorem Fm.ne {r:A6} (f:Fm r):r≠[]:=by cases f<;>simp
theorem lenS:("in":ic).length=2/\("out":ic).length=3/\("sum":ic).length=3/\("store":ic).length=5/\("=":ic).length=1/\("":ic).length=0:=by decide +kernel
theorem Fm.len {r:A6} (f:Fm r):r.length<=27/\∀w∈r,w.length<=6:=by
 obtain⟨Z,Y,δ,ξ,α,_⟩:=lenS;cases f with
 | i z h=>exact⟨@F,λw hw=>by simp at hw;rcases hw with rfl | rfl<;>first | exact h.len | omega⟩
 | o z h=>exact⟨@F,λw hw=>by simp at hw;rcases hw with rfl | rfl<;>first | exact h.len | omega⟩
 | s z ws h L l=>
   refine⟨by simp only[y1];omega,λw hw=>?_⟩;simp at hw;rcases hw with rfl | rfl | rfl | hw<;>first | exact h.len | exact(L w hw).len | omega
 | t z y h O=>exact⟨@F,λw hw=>by simp at hw;rcases hw with rfl | rfl | rfl | rfl<;>first | exact h.len | exact O.len | omega⟩
noncomputable def rowT (r:A6):Str:=OM ⟨#[32]⟩ r
noncomputable def txtR (rows:cc A6):Str:=OM ⟨#[10]⟩ (rows.map rowT)
theorem LV {c d:Nat} (L:c≠d):∀{ws:cc A'},(∀w∈ws,d∉w)->d∉J c ws
 | [],_=>by simp[J]
 | [x],h=>h x ox
 | x::y::r,h=>by
   show d∉x++c::J c (y::r);intro m;rcases lx.mp m with m | m
   ·exact h x ox m
   ·rcases v9.mp m with m | m
    ·exact L m.symm
    ·exact LV L (ws:=y::r) (λw O=>h w (px _ O)) m
theorem DB {r:A6} (h:∀w∈r,Wd w):(10:Nat)∉(rowT r).cps.toList:=by
 unfold rowT;rw[i9];exact LV @C λw L=>by obtain⟨v,ρ,rfl⟩:=mw.mp L;exact(h v ρ).2
theorem Ak {r:A6} (h:∀w∈r,Wd w) (ne:r≠[]):M7 (rowT r) ⟨#[32]⟩=r:=sA ne λw L=>(h w L).1
theorem zJ {rows:cc A6} (h:∀r∈rows,∀w∈r,Wd w) (ne:rows≠[]):M7 (txtR rows) ⟨#[10]⟩=rows.map rowT:=sA (by simpa using ne) λw L=>by obtain⟨r,O,rfl⟩:=mw.mp L;exact DB (h r O)
theorem JQ (c:Nat) {n:Nat}:∀{ws:cc A'},(∀w∈ws,w.length<=n)->(J c ws).length<=ws.length * (n + 1)
 | [],_=>N2 _
 | [x],h=>by have:=h x ox;show x.length<=1 * (n + 1);omega
 | x::y::r,h=>by
   have h1:=h x ox;have h2:=JQ c (n:=n) (ws:=y::r) λw L=>h w (px _ L);show(x++c::J c (y::r)).length<=_;rw[hE,y1,y1,Nat.succ_mul];omega
theorem tK {r:A6} (h:∀w∈r,w.length<=6):(rowT r).length<=r.length * 7:=by
 rw[<-cM];unfold rowT;rw[i9];have:=JQ 32 (n:=6) (ws:=r.map (·.cps.toList)) λw L=>by obtain⟨v,ρ,rfl⟩:=mw.mp L;rw[cM];exact h v ρ
 rw[ak] at this;exact this
theorem yG {rows:cc A6} (h:∀r∈rows,Fm r):(txtR rows).length<=rows.length * 190:=by
 rw[<-cM];unfold txtR;rw[i9]
 have:=JQ 10 (n:=189) (ws:=(rows.map rowT).map (·.cps.toList)) λw L=>by
  obtain⟨v,ρ,rfl⟩:=mw.mp L;obtain⟨r,O,rfl⟩:=mw.mp ρ;rw[cM];have a:=(h r O).len;have b:=tK a.2;have:r.length * 7<=27 * 7:=Q9 7 a.1;omega
 rw[ak,ak] at this;exact this
theorem F1 {z:ic} (h:z=""):z.cps.toList=[]:=xi.mp h
theorem J_ne (c:Nat):∀{ws:cc A'},(∃w∈ws,w≠[])->J c ws≠[]
 | [],⟨w,h,_⟩=>by cases h
 | [x],⟨w,h,n⟩=>by rw[hC.mp h] at n;exact n
 | x::y::r,_=>by show x++c::J c (y::r)≠[];simp
theorem IR {r:A6} (f:Fm r):(rowT r).cps.toList≠[]:=by
 unfold rowT;rw[i9];refine J_ne 32 ?_;cases f with
 | i z h=>exact⟨("in":ic).cps.toList,@F,@G⟩
 | o z h=>exact⟨("out":ic).cps.toList,@F,@G⟩
 | s z ws h L l=>exact⟨("sum":ic).cps.toList,@F,@G⟩
 | t z y h O=>exact⟨("store":ic).cps.toList,@F,@G⟩
theorem Ih {rows:cc A6} (h:∀r∈rows,Fm r) (ne:rows≠[]):txtR rows≠"":=λe=>by
 have:=F1 e;unfold txtR at this;rw[i9] at this;refine J_ne 10 ?_ this;cases rows with
 | nil=>exact ik rfl ne
 | cons r l=>exact⟨(rowT r).cps.toList,@F,IR (h r ox)⟩
noncomputable def kd (k:ic) (r:A6):Bool:=decide (r.getD 0 ""=k)
noncomputable def insR (rows:cc A6):A6:=(rows.filter (kd "in")).map λr=>r.getD 1 ""
noncomputable def sumR (rows:cc A6):cc (ic×cc ic):=(rows.filter (kd "sum")).map λr=>(r.getD 1 "",r.drop 3)
noncomputable def stoR (rows:cc A6):cc (ic×ic):=(rows.filter (kd "store")).map λr=>(r.getD 1 "",r.getD 3 "")
noncomputable def outR (rows:cc A6):A6:=(rows.filter (kd "out")).map λr=>r.getD 1 ""
noncomputable def netR (rows:cc A6):Nt:=⟨insR rows,sumR rows,stoR rows,outR rows⟩
noncomputable def jm (N:Nt):cc A6:=N.ins.map (λz=>[("in":ic),z])++N.sums.map (λr=>("sum":ic)::r.1::("=":ic)::r.2)++N.sts.map (λr=>[("store":ic),r.1,("=":ic),r.2])++N.outs.map (λz=>[("out":ic),z])
noncomputable def txtN (N:Nt):Str:=txtR (jm N)
theorem w_ne:("in":ic)≠"sum"/\("in":ic)≠"store"/\("in":ic)≠"out"/\("sum":ic)≠"in"/\("sum":ic)≠"store"/\("sum":ic)≠"out"/\("store":ic)≠"in"/\("store":ic)≠"sum"/\("store":ic)≠"out"/\("out":ic)≠"in"/\("out":ic)≠"sum"/\("out":ic)≠"store":=by decide +kernel
theorem pG {α:Type} (f:α->A6) {k:ic} (h:∀x,kd k (f x)=true) (l:cc α):(l.map f).filter (kd k)=l.map f:=by
 rw[List.filter_eq_self];intro r L;obtain⟨x,_,rfl⟩:=mw.mp L;exact h x
theorem cS {α:Type} (f:α->A6) {k:ic} (h:∀x,kd k (f x)=false) (l:cc α):(l.map f).filter (kd k)=[]:=by
 rw[OL];intro r L;obtain⟨x,_,rfl⟩:=mw.mp L;rw[h x];exact hV
theorem kd_t {k:ic} {r:A6}:kd k (k::r)=true:=fZ rfl
theorem kd_f {k j:ic} {r:A6} (h:j≠k):kd k (j::r)=false:=fy h
theorem sI (N:Nt):netR (jm N)=N:=by
 obtain⟨n1,n2,n3,n4,n5,n6,β,α,Z,O,L,Y⟩:=w_ne;cases N with
 | mk a b c d=>
 unfold netR insR sumR stoR outR jm;simp only[M6];rw[pG _ (λ_=>kd_t),cS _ (λ_=>kd_f n4),cS _ (λ_=>kd_f β),cS _ (λ_=>kd_f O)];rw[cS (λz=>[("in":ic),z]) (λ_=>kd_f n1),pG _ (λ_=>kd_t),cS _ (λ_=>kd_f α),cS _ (λ_=>kd_f L)];rw[cS (λz=>[("in":ic),z]) (λ_=>kd_f n2),cS _ (λ_=>kd_f n5),pG _ (λ_=>kd_t),cS _ (λ_=>kd_f Y)];rw[cS (λz=>[("in":ic),z]) (λ_=>kd_f n3),cS _ (λ_=>kd_f n6),cS _ (λ_=>kd_f Z),pG _ (λ_=>kd_t)];simp;exact⟨Py a,Py b,Py c,Py d⟩
theorem kG {N:Nt} (g:Gn N):∀r∈jm N,Fm r:=by
 intro r Y;have ζ:∀z∈N.ins,z∈N.names:=λz h=>by unfold Nt.names;exact pT _ (pT _ h)
 have O:∀q∈N.sums,q.1∈N.names:=λq h=>by unfold Nt.names;exact pT _ (p' _ (mw.mpr ⟨q,h,rfl⟩))
 have ε:∀q∈N.sts,q.1∈N.names:=λq h=>by unfold Nt.names;exact p' _ (mw.mpr ⟨q,h,rfl⟩)
 unfold jm at Y;rcases lx.mp Y with h | h
 ·rcases lx.mp h with h | h
  ·rcases lx.mp h with h | h
   ·obtain⟨z,hz,rfl⟩:=mw.mp h;exact .i z (g.nm z (ζ z hz))
   ·obtain⟨q,L,rfl⟩:=mw.mp h;exact .s q.1 q.2 (g.nm _ (O q L)) (λw Z=>g.nm w (g.ws q L w Z)) (g.lw q L)
  ·obtain⟨q,L,rfl⟩:=mw.mp h;exact .t q.1 q.2 (g.nm _ (ε q L)) (g.nm _ (g.ts q L))
 ·obtain⟨z,hz,rfl⟩:=mw.mp h;exact .o z (g.nm z (g.os z hz))
theorem mQ {N:Nt} (g:Gn N):(jm N).length<=68:=by
 have:=g.li;have:=g.ls;have:=g.lt;have:=g.lo;unfold jm;simp only[hE,ak];omega
def Lrw (L H:Hp) (D:eH) (ys:cc V) (rows:cc A6):Prop:=∃ds:D',ys=ds.map V.ref/\ds.length=rows.length/\(∀d∈ds,d≠D)/\(∀d∈ds,L d=gs)/\∀(j:Nat) (d:eH) (r:A6),ds[j]? =ag d->rows[j]? =ag r->H d=ag (.lst (r.map V.str))
theorem Lrw.nil {L H:Hp} {D:eH}:Lrw L H D [] []:=⟨[],rfl,rfl,λ_ h=>(by cases h),λ_ h=>(by cases h),λj d r h=>(by simp at h)⟩
theorem Lrw.len {L H:Hp} {D:eH} {ys:cc V} {rows:cc A6} (x:Lrw L H D ys rows):ys.length=rows.length:=by obtain⟨ds,rfl,l,_⟩:=x;rw[ak,l]
theorem Lrw.base {L O H:Hp} {D:eH} {ys:cc V} {rows:cc A6} (x:Lrw O H D ys rows) (s:Same L O):Lrw L H D ys rows:=by obtain⟨ds,e,l,n,f,h⟩:=x;exact⟨ds,e,l,n,λd hd=>s.free (f d hd),h⟩
theorem Lrw.put {γ H α:Hp} {D ψ:eH} {ys:cc V} {rows:cc A6} {r:A6} (x:Lrw γ H D ys rows) (O:γ ψ=gs) (e:H D=ag (.lst ys)) (f:H ψ=gs) (s:Same H α) (δ:α ψ=ag (.lst (r.map V.str))):Lrw γ (upd α D (.lst (ys++[.ref ψ]))) D (ys++[.ref ψ]) (rows++[r]):=by
 obtain⟨ds,rfl,ld,nd,fd,hd⟩:=x;have Y:ψ≠D:=λz=>by rw[z,e] at f;cases f
 have k3:∀b ob,b≠D->α b=ag ob->upd α D (.lst (ds.map V.ref++[.ref ψ])) b=ag ob:=λb ob n e=>by rw[ar n];exact e
 refine⟨ds++[ψ],by rw[hh];rfl,by rw[hE,hE,ld];rfl,λd L=>?_,λd L=>?_,λj d r' Z χ=>?_⟩
 ·rcases lx.mp L with h | h
  ·exact nd d h
  ·rw[hC.mp h];exact Y
 ·rcases lx.mp L with h | h
  ·exact fd d h
  ·rw[hC.mp h];exact O
 ·by_cases β:j < ds.length
  ·rw[vr β] at Z;rw[vr @A] at χ;exact k3 _ _ (nd d (hA Z)) (s.get (hd j d r' Z χ))
  ·have hl:=(b'.mp Z).1;rw[hE,M0] at hl;rw[u' @A,show j - ds.length=0 by omega] at Z;rw[u' @A,show j - rows.length=0 by omega] at χ;cases Z;cases χ;exact k3 _ _ Y δ
theorem Lrw.join {ε H H2 ζ:Hp} {D ν:eH} {ys O:cc V} {rows Z:cc A6} (x:Lrw ε H D ys rows) (e:H D=ag (.lst ys)) (θ:Same ε H) (s:Same H H2) (x2:Lrw H H2 ν O Z) (u:Upd H2 ζ D (.lst (ys++O))):Lrw ε ζ D (ys++O) (rows++Z):=by
 obtain⟨ds,rfl,ld,nd,fd,hd⟩:=x;obtain⟨β,rfl,η,ι,α,δ⟩:=x2;have n2:∀d∈β,d≠D:=λd L z=>by have:=α d L;rw[z,e] at this;cases this
 refine⟨ds++β,by rw[hh],by rw[hE,hE,ld,η],λd L=>(lx.mp L).elim (nd d) (n2 d),λd L=>(lx.mp L).elim (fd d) (λh=>θ.free (α d h)),λj d r Y χ=>?_⟩;by_cases γ:j < ds.length
 ·rw[vr γ] at Y;rw[vr @A] at χ;exact u.oth _ _ (nd d (hA Y)) (s.get (hd j d r Y χ))
 ·rw[u' @A] at Y;rw[u' @A,<-ld] at χ;exact u.oth _ _ (n2 d (hA Y)) (δ _ d r Y χ)
def Iq (L:NP):Sp:=λvs H Q _=>∃(p:eH) (N:Nt) (od:A6),vs=[.ref p]/\L H p N od/\∀H2,Same H H2->Q (.str (txtN N)) H2
def C6 (K:a'):Sp:=λvs H Q _=>∃(p:eH) (ns:Dk) (st mo:Nat),vs=[.ref p,nat st,nat mo]/\SqL K H p (ns.map V.int)/\st<=900/\mo<=12/\∀(t i s u o:eH) (H2:Hp) (rs:cc Rw) (qs:cc Qs) (N:Nt),Same H H2->H2 t=ag (.tup [.ref i,.ref s,.ref u,.ref o])->Hnd H2 i s u o rs qs N->Gn N->N.ins.length<=3->N.sums.length<=mo->Q (.ref t) H2
theorem Ef {c:Int} {L nt:Nat} {rows sums:cc (ic×cc ic)} {sts:cc (ic×ic)} {outs:A6} (m:Mk c L nt rows) (h1:L<=3) (h2:nt<=12) (h3:rows.length<=12) (η:sums.Perm rows) (hs:sts.map (·.1)=nms c 6 nt) (ε:outs.length<=6)
  (ψ:∀q∈sts,q.2∈nms c 0 L++nms c 6 nt++nms c 22 rows.length) (ho:∀z∈outs,z∈nms c 0 L++nms c 6 nt++nms c 22 rows.length):Gn ⟨nms c 0 L,sums,sts,outs⟩:=by
 have pn:(sums.map (·.1)).Perm (nms c 22 rows.length):=by rw[<-m.nm];exact η.map _
 have Z:∀z,z∈nms c 0 L++nms c 6 nt++nms c 22 rows.length->z∈Nt.names ⟨nms c 0 L,sums,sts,outs⟩:=λz hz=>by
  unfold Nt.names;show z∈nms c 0 L++sums.map (·.1)++sts.map (·.1);rw[hs];rcases lx.mp hz with h | h
  ·rcases lx.mp h with h | h
   ·exact pT _ (pT _ h)
   ·exact p' _ h
  ·exact pT _ (p' _ (pn.mem_iff.mpr h))
 have τ:sts.length=nt:=by have:=K' Nz hs;rw[ak,dh] at this;exact this
 have υ:∀r∈sums,∃k,rows[k]? =ag r:=λr Y=>List.mem_iff_getElem?.mp (η.mem_iff.mp Y)
 have θ:∀z∈Nt.names ⟨nms c 0 L,sums,sts,outs⟩,∃k:Nat,k < 40/\z=nmf c (k:Int):=λz hz=>by
  unfold Nt.names at hz;have hz:z∈nms c 0 L++sums.map (·.1)++sts.map (·.1):=hz;rw[hs] at hz;rcases lx.mp hz with h | h
  ·rcases lx.mp h with h | h
   ·obtain⟨k,hk,e⟩:=ke h;exact⟨_,@A,e⟩
   ·obtain⟨k,hk,e⟩:=ke (pn.mem_iff.mp h);exact⟨_,@A,e⟩
  ·obtain⟨k,hk,e⟩:=ke h;exact⟨_,@A,e⟩
 have O:∀(a n:Nat),a + n<=40->(nms c a n).Nodup:=λa n h=>by
  unfold nms;refine List.pairwise_map.mpr (List.Pairwise.imp_of_mem (λ{i j} hi γ ω=>?_) List.pairwise_lt_range);intro e;have:=tX c (show a + i < 40 by have:=Oh.mp hi;omega) (show a + j < 40 by have:=Oh.mp γ;omega) e;omega
 have α:∀{a n b k:Nat},a + n<=40->b + k<=40->a + n<=b->∀x∈nms c a n,∀y∈nms c b k,x≠y:=λh1 h2 h3 x ζ y δ e=>by
  obtain⟨i,hi,rfl⟩:=ke ζ;obtain⟨j,γ,rfl⟩:=ke δ;have:=tX c @A @A e;omega
 refine⟨by show(nms c 0 L).length<=6;rw[dh];omega,by show sums.length<=40;rw[η.length_eq];omega,by show sts.length<=16;omega,ε,λr Y=>?_,λz hz=>?_,?_,λr Y z hz=>?_,λr Y=>Z _ (ψ r Y),λz hz=>Z _ (ho z hz),?_⟩
 ·obtain⟨k,hk⟩:=υ r Y;have:=(m.ws k r hk).1;omega
 ·obtain⟨k,hk,rfl⟩:=θ z hz;exact Lc c @A @A
 ·unfold Nt.names;show(nms c 0 L++sums.map (·.1)++sts.map (·.1)).Nodup;rw[hs,NU,NU];refine⟨⟨O _ _ @A,pn.nodup_iff.mpr (O _ _ @A),λx ζ y δ=>α @A @A @A x ζ y (pn.mem_iff.mp δ)⟩,O _ _ @A,λx ζ y δ=>?_⟩;rcases lx.mp ζ with h | h
  ·exact α @A @A @A x h y δ
  ·exactλe=>α (a:=6) (n:=nt) (b:=22) (k:=rows.length) @A @A @A y δ x (pn.mem_iff.mp h) e.symm
 ·obtain⟨k,hk⟩:=υ r Y;have ν:=(b'.mp hk).1;refine Z z ?_;rcases lx.mp ((m.ws k r hk).2 z hz) with h | h
  ·exact pT _ h
  ·obtain⟨j,γ,rfl⟩:=ke h;exact p' _ (Lb @A)
 ·refine⟨λz=>(nms c 22 rows.length).idxOf z,λr Y z hz β=>?_⟩;obtain⟨k,hk⟩:=υ r Y;have ν:=(b'.mp hk).1;have er:(nms c 22 rows.length)[k]? =ag r.1:=by rw[<-m.nm,hH,hk];rfl
  have nd:=O 22 rows.length @A
  have π:∀(j:Nat) y,(nms c 22 rows.length)[j]? =ag y->(nms c 22 rows.length).idxOf y=j:=λj y γ=>by
   obtain⟨ο,ξ⟩:=b'.mp γ;rw[<-ξ];exact nd.idxOf_getElem j ο
  obtain⟨j,γ,ρ⟩:=ke (pn.mem_iff.mp β)
  have ι:j < k:=by
   rcases lx.mp ((m.ws k r hk).2 z hz) with h | h
   ·exfalso;rcases lx.mp h with h | h
    ·exact α (a:=0) (n:=L) (b:=22) (k:=rows.length) @A @A @A z h z (pn.mem_iff.mp β) rfl
    ·exact α (a:=6) (n:=nt) (b:=22) (k:=rows.length) @A @A @A z h z (pn.mem_iff.mp β) rfl
   ·obtain⟨φ,χ,e'⟩:=ke h;have:=tX c (show 22 + j < 40 by omega) (show 22 + φ < 40 by omega) (ρ.symm.trans e');omega
  have ez:(nms c 22 rows.length)[j]? =ag z:=by unfold nms;rw[hH,Qk γ,ρ];rfl
  show(nms c 22 rows.length).idxOf z < (nms c 22 rows.length).idxOf r.1;rw[π j z ez,π k r.1 er];exact ι
inductive Scl:V->Np->Prop where
 | str (z:ic) (l:z.length<=1000):Scl (.str z) "str"
 | int (i:Int):Scl (.int i) "int"
 | bl (b:N1):Scl (.bl b) "bool"
 | non:Scl .non "NoneType"
def Tld (H H2:Hp) (dx:eH) (v:V):Prop:=Same H H2/\H2 dx=ag (.xd [("name",v)])
theorem L9 {H H2:Hp} {x C:eH} {v:V} (f:H x=gs) (e:ExcV H2 x C [("name",v)]) (hk:∀b u,b≠x->H b=ag u->H2 b=ag u):∃dx,H2 x=ag (ExcF x C (ag dx))/\Tld H (del H2 x) dx v:=by
 obtain⟨o,a,b⟩:=e;cases o with
 | none=>cases b
 | some d=>
   have b:H2 d=ag (.xd [("name",v)]):=b;have hd:d≠x:=λz=>by rw[z,a] at b;cases b
   exact⟨d,a,λO u L=>by rw[lC (ao L f)];exact hk _ _ (ao L f) L,by rw[lC hd];exact b⟩
theorem Tld.pre {H H1 H2:Hp} {dx:eH} {v:V} (s:Same H H1) (t:Tld H1 H2 dx v):Tld H H2 dx v:=⟨s.trans t.1,t.2⟩
theorem yg {H H2:Hp} {x C dx:eH} {v:V} (f:H x=gs) (t:H dx=ag (.xd [("name",v)])) (u:Upd H H2 x (ExcO x (.ref C) (ag dx))):ExcC H2 x C [("name",v)]:=⟨dx,u.at',u.oth _ _ (ao t f) t⟩
noncomputable def TupV (K:a') (H:Hp) (y:V):ov (cc V)->Prop
 | some xs=>∃r,y= .ref r/\SqT K H r xs/\LU K H xs
 | none=>∃k,r8 K H y k/\k≠"tuple"
noncomputable def Mz (n m:Nat):ov (cc V)->N1
 | some [x,y]=>Li x n&&Li y m
 | _=>false
noncomputable abbrev It2:=V×ov (cc V)
noncomputable def LstV (K:a') (H:Hp) (y:V):ov (cc It2)->Prop
 | some zs=>∃r,y= .ref r/\H r=ag (.lst (zs.map (·.1)))/\∀z∈zs,TupV K H z.1 z.2
 | none=>∃k,r8 K H y k/\k≠"list"
noncomputable def tabB (x:V) (O L:ov (cc It2)):Bool:=match x,O,L with
 | .int i,ag zs,ag ws=>decide (0<=i)&&decide (i<=6)&&decide (zs.length<=120)&&decide (ws.length<=6)&&(zs++ws).all λz=>Mz zs.length i.toNat z.2
 | _,_,_=>false
end Sx
namespace L2
open PySem
section
variable {σ:St} {H:Hp} {Q:VK}
def FH (C:eH) (sp:Sp) (W:XW) (σ:St) (Q:VK) (vs:cc V) (H:Hp):Prop:=∀x dx,H x=gs->H dx=gs->dx≠x->sp (.ref x::(vs++[])) (upd (upd H dx (.own x)) x (.ins C dx [])) (λv H2=>v= .non/\Q (.ref x) H2) (W σ)
theorem ID {C:eH} {sp:Sp} {W:XW} {tr:TA} (h:tr σ H (FH C sp W σ Q)):Hl C sp [] W tr σ H Q:=h
theorem Dm {C:eH} {sp:Sp} {W:XW} {vs:cc V} (h:∀x dx H2,H x=gs->Same H H2->H2 x=ag (.ins C dx [])->sp (.ref x::vs) H2 (λv H2=>v= .non/\Q (.ref x) H2) (W σ)):FH C sp W σ Q vs H:=by
 intro x dx L O n;rw[z5];exact h x dx _ L (λb o e=>by rw[ar (ao e L),ar (ao e O)];exact e) au
end
end L2
namespace Sx
open PySem L2
structure BadT (K:a') (H:Hp) (x y z:V):Prop where
 ex:∃k on oo,r8 K H x k/\LstV K H y on/\LstV K H z oo/\tabB x on oo=false
end Sx
namespace L2
open PySem
end L2
namespace Sx
open PySem L2
noncomputable def cps (p q k:Nat):A':=if k + 1 < p then [k + 1] else M.pl 1000 q
structure ChS (H:Hp) (S:eH) (p q:Nat) (rs:D'):Prop where
 at_:H S=ag (.lst (rs.map V.ref))
 len:rs.length=p
 get:∀(k:Nat) (r:eH),rs[k]? =ag r->H r=ag (.lst ((cps p q k).map nat))
structure ChT (H:Hp) (D S:eH) (ms:A') (p q:Nat):Prop where
 fs:M.Fst ms p
 sd:Sumd (ms.take p) (ms.getD p 0) q
 d:H D=ag (.lst ((ms.take p).map nat))
 s:∃rs,ChS H S p q rs
structure LA (K:a') (H:Hp) (t n o rr:eH) (m:Nat) (nx os:cc Pr3) (rs:A') (a b:Nat):Prop where
 tt:TabT H t n o m nx os
 sq:SqL K H rr (rs.map nat)
 lr:rs.length=20
 br:∀r∈rs,r < 2 ^ m
 ln:nx.length<=16
 ha:a < 2 ^ nx.length
 hb:b < 2 ^ nx.length
structure ApA (H:Hp) (f:eH) (nx os:cc Pr3) (d k ans:Nat):Prop where
 f:H f=ag (.tup [.str "apart",nat k,nat ans.log2])
 hk:k < nx.length
 an:ans=M.tr2 (prs os) (M.zs (prs nx) d k) 0
 ne:ans≠0
 qu:∀j,j < k->M.tr2 (prs os) (M.zs (prs nx) d j) 0=0
structure ApL (H:Hp) (f D S:eH) (nx os:cc Pr3) (d p q:Nat):Prop where
 f:H f=ag (.tup [.str "alike",.ref D,.ref S])
 ct:ChT H D S (M.zl (prs nx) d nx.length) p q
 qu:∀j,j < p->M.tr2 (prs os) (M.zs (prs nx) d j) 0=0
structure CmA (H:Hp) (t D:eH) (m:Nat) (nx:cc Pr3) (st T q mk:Nat):Prop where
 f:H t=ag (.tup [.str "come",.ref D,nat mk])
 d:H D=ag (.lst ((M.upk m q T).map nat))
 hT:T<=nx.length
 no:∀j,j < T->¬M.Span (M.rch (prs nx) m j) st
 sd:Sumd (M.rch (prs nx) m T) st q
 br:(T=0/\mk=0)∨∃T',T=T' + 1/\Bard (M.rch (prs nx) m T') st mk
structure CmN (H:Hp) (t D S:eH) (m:Nat) (nx:cc Pr3) (st mk p q:Nat):Prop where
 f:H t=ag (.tup [.str "never",.ref D,.ref S])
 no:∀j,j<=nx.length->¬M.Span (M.rch (prs nx) m j) st
 bd:Bard (M.rch (prs nx) m nx.length) st mk
 ct:ChT H D S (M.bl (nA nx) mk nx.length) p q
structure LN (K:a') (H:Hp) (n:eH) (m:Nat) (nx os:cc Pr3) (st:Nat):Prop where
 sq:SqL K H n (refs nx)
 pt:Prt H nx
 g:MaG m nx os
 ln:nx.length<=16
 hs:st < 2 ^ nx.length
end Sx
namespace M
noncomputable def ow (x:Nat) (L:A'):Nat:=pk (λk=>od (x&&&L.getD k 0)) 0 L.length
noncomputable def lk1 (A os:A') (t:Nat):A':=os.map λs=>bkI A s t
noncomputable def lkm (A os:A'):Nat->A'
 | 0=>[]
 | T + 1=>lkm A os T++lk1 A os T
section
variable (ps os:A3) (m:Nat)
noncomputable def msk:A':=lkm (ps.map (·.1)) (os.map (·.1)) ps.length
noncomputable def ldp:A':=fr ((rch ps m ps.length).map (ow · (msk ps os)))
noncomputable def lst_:A':=(ldp ps os m).map λi=>(rch ps m ps.length).getD i 0
noncomputable def lkp:A':=fr ((msk ps os).map (ow · (lst_ ps os m)))
noncomputable def lkL:A':=(lkp ps os m).map λi=>(msk ps os).getD i 0
noncomputable def sen:A':=(lkL ps os m).map (ow · (lst_ ps os m))
end
section
variable {ps os:A3} {m:Nat}
structure Lsr (ps os:A3) (m:Nat) (nx' os':A3):Prop where
 ln:nx'.length=(lkp ps os m).length
 lo:os'.length=os.length
 n1:∀(j:Nat) (q:Nat×Nat),nx'[j]? =ag q->q.1 < 2 ^ (lkp ps os m).length/\sm (sen ps os m) q.1=ow (sm (ps.map (·.1)) ((lkL ps os m).getD j 0)) (lst_ ps os m)/\q.2=sm (ps.map (·.2)) ((lkL ps os m).getD j 0)
 o1:∀(j:Nat) (q:Nat×Nat),os'[j]? =ag q->q.1 < 2 ^ (lkp ps os m).length/\sm (sen ps os m) q.1=ow (os.getD j (0,0)).1 (lst_ ps os m)/\q.2=(os.getD j (0,0)).2
structure Fit (ps os:A3) (m:Nat):Prop where
 ln:ps.length<=120
 bn:∀q∈ps++os,q.1 < 2 ^ ps.length
end
end M
namespace Sx
open PySem L2
structure Lrl (H:Hp) (Dr Dl:eH) (ds es:D') (m:Nat) (nx os:cc Pr3):Prop where
 r:H Dr=ag (.lst (ds.map V.ref))
 l:H Dl=ag (.lst (es.map V.ref))
 dl:ds.length=(M.ldp (prs nx) (prs os) m).length
 el:es.length=(M.lkp (prs nx) (prs os) m).length
 da:∀(j:Nat) (d k:Nat),ds[j]? =ag d->(M.ldp (prs nx) (prs os) m)[j]? =ag k->H d=ag (.lst ((M.upk m (2 ^ k) nx.length).map nat))
 ea:∀(j:Nat) (e k:Nat),es[j]? =ag e->(M.lkp (prs nx) (prs os) m)[j]? =ag k->H e=ag (.tup [nat (k / os.length),nat (k % os.length)])
noncomputable def less (H:Hp) (R:eH->Prop):Hp:=λb=>@ite _ (R b) (QX _) gs (H b)
theorem tZ {H:Hp} {R:eH->Prop} {b:eH} (h:R b):less H R b=none:=by unfold less;rw[kn h]
theorem eS {H:Hp} {R:eH->Prop} {b:eH} (h:¬R b):less H R b=H b:=by unfold less;rw[hQ h]
theorem eR {H:Hp} {R:eH->Prop}:Same (less H R) H:=λb o e=>by
 by_cases h:R b
 ·rw[tZ h] at e;cases e
 ·rw[eS h] at e;exact e
structure Hnd2 (H:Hp) (i s t o:eH) (rs:cc Rw) (qs:cc Qs) (N:Nt):Prop where
 i:H i=ag (.lst (N.ins.map V.str))
 s:H s=ag (.lst (rs.map λr=>V.ref r.1))
 sr:∀r∈rs,H r.1=ag (.tup [.str r.2.2.1,.ref r.2.1])/\(H r.2.1=ag (.lst (r.2.2.2.map V.str))∨H r.2.1=ag (.tup (r.2.2.2.map V.str)))
 es:rs.map (·.2.2)=N.sums
 t:H t=ag (.lst (qs.map λq=>V.ref q.1))
 tr:∀q∈qs,H q.1=ag (.tup [.str q.2.1,.str q.2.2])
 et:qs.map (·.2)=N.sts
 o:H o=ag (.lst (N.outs.map V.str))
inductive Thg (H:Hp):V->Np->Prop where
 | sc {v:V} {k:Np} (s:Scl v k):Thg H v k
 | nil {p:eH} (e:H p=ag (.lst [])):Thg H (.ref p) "list"
inductive Cpy (H H2:Hp):V->V->Prop where
 | sc {v:V} {k:Np} (s:Scl v k):Cpy H H2 v v
 | nil {p p2:eH} (e:H p=ag (.lst [])) (e2:H2 p2=ag (.lst [])):Cpy H H2 (.ref p) (.ref p2)
def Me:Sp:=λ_ _ _ _=>False
inductive Thg2 (H:Hp):V->Np->Prop where
 | sc {v:V} {k:Np} (s:Scl v k):Thg2 H v k
 | nil {p:eH} (e:H p=ag (.lst [])):Thg2 H (.ref p) "list"
 | one {p:eH} {z:ic} (l:z.length<=1000) (e:H p=ag (.tup [.str z])):Thg2 H (.ref p) "tuple"
inductive Cpy2 (H H2:Hp):V->V->Prop where
 | sc {v:V} {k:Np} (s:Scl v k):Cpy2 H H2 v v
 | nil {p p2:eH} (e:H p=ag (.lst [])) (e2:H2 p2=ag (.lst [])):Cpy2 H H2 (.ref p) (.ref p2)
 | one {p p2:eH} {z:ic} (e:H p=ag (.tup [.str z])) (e2:H2 p2=ag (.tup [.str z])):Cpy2 H H2 (.ref p) (.ref p2)
def C9:Sp:=λvs H Q _=>∃(v:V) (k:Np) (d:Int),vs=[v,.int d]/\Scl v k/\Q v H
def yz (sums:cc (ic×cc ic)):Prop:=∃S:A6,S≠[]/\∀z∈S,∃ws,(z,ws)∈sums/\∃w∈ws,w∈S
structure kz (sums:cc (ic×cc ic)) (rg:A6):Prop where
 ne:rg≠[]
 nd:rg.Nodup
 st:∀i,i < rg.length->∃ws,(rg.getD i "",ws)∈sums/\rg.getD ((i + 1) % rg.length) ""∈ws
theorem kz.mono {O L:cc (ic×cc ic)} {Y:A6} (r:kz O Y) (h:∀y∈O,y∈L):kz L Y:=⟨r.ne,r.nd,λi hi=>by obtain⟨ws,a,b⟩:=r.st i hi;exact⟨ws,h _ a,b⟩⟩
theorem kz.ring {sums:cc (ic×cc ic)} {L:A6} (r:kz sums L):yz sums:=by
 refine⟨L,r.ne,λz hz=>?_⟩;obtain⟨i,hi,e⟩:=M9.mp hz;obtain⟨ws,h1,h2⟩:=r.st i hi;rw[hB,c' hi,QW,e] at h1;refine⟨ws,h1,_,h2,?_⟩;have hl:=Nat.mod_lt (i + 1) (show 0 < L.length by omega);rw[hB,c' hl];exact Ny hl
theorem xa {sums:cc (ic×cc ic)} {od:A6} (t:Topo sums od):¬yz sums:=by
 rintro⟨S,Y,h⟩
 have L:∀(i:Nat) (z:ic),od[i]? =ag z->z∉S:=by
  intro i
  induction i using Nat.strongRecOn with
  | _ i ih=>
    intro z hz α;obtain⟨ws,h1,w,h2,O⟩:=h z α;obtain⟨ν,ε,_⟩:=h w O;have hm:=t.need i z hz ws h1 w h2 (mw.mpr ⟨_,ε,rfl⟩);obtain⟨j,Z,e⟩:=M9.mp hm;rw[qo] at Z;rw[QI] at e;exact ih j @A w (by rw[c' @A,e]) O
 cases S with
 | nil=>exact Y rfl
 | cons z S=>
   obtain⟨ws,h1,_⟩:=h z ox;have:z∈od:=t.perm.mem_iff.mpr (mw.mpr ⟨_,h1,rfl⟩);obtain⟨i,hi,e⟩:=M9.mp this;exact L i z (by rw[c' hi,e]) ox
theorem vj {sums:cc (ic×cc ic)} {L:A6} {z:ic} (nd:L.Nodup) (st:∀i,i + 1 < L.length->∃ws,(L.getD i "",ws)∈sums/\L.getD (i + 1) ""∈ws) {k:Nat} (hk:L[k]? =ag z) (last:∃ws,(L.getD (L.length - 1) "",ws)∈sums/\z∈ws):kz sums (L.drop k):=by
 obtain⟨Y,α⟩:=b'.mp hk;have O:∀i,(L.drop k).getD i ""=L.getD (k + i) "":=λi=>by rw[hB,P1,hB]
 refine⟨λe=>?_,nd.sublist (List.drop_sublist _ _),λi hi=>?_⟩
 ·have:=K' Nz e;rw[MX] at this;simp at this;omega
 ·rw[MX] at hi;rw[O,O,MX];by_cases h1:i + 1 < L.length - k
  ·rw[SG h1];exact st (k + i) @A
  ·rw[show i + 1=L.length - k by omega,Nat.mod_self,Nat.add_zero,show k + i=L.length - 1 by omega];obtain⟨ws,Z,ο⟩:=last;exact⟨ws,Z,by rw[hB,hk];exact ο⟩
inductive Tg (H:Hp):V->Dt->Prop where
 | str (z:ic) (l:z.length<=1000):Tg H (.str z) (.str z)
 | int (i:Int):Tg H (.int i) (.int i)
 | bl (b:N1):Tg H (.bl b) (.bl b)
 | non:Tg H .non .non
 | nil {p:eH} (e:H p=ag (.lst [])):Tg H (.ref p) (.lst [])
 | one {p:eH} {z:ic} (l:z.length<=1000) (e:H p=ag (.lst [.str z])):Tg H (.ref p) (.lst [.str z])
theorem Tg.keep {H H2:Hp} {v:V} {d:Dt} (t:Tg H v d) (h:∀p ys,v= .ref p->H p=ag (.lst ys)->H2 p=ag (.lst ys)):Tg H2 v d:=by
 cases t with
 | str z l=>exact .str z l
 | int i=>exact .int i
 | bl b=>exact .bl b
 | non=>exact .non
 | nil e=>exact .nil (h _ _ rfl e)
 | one l e=>exact .one l (h _ _ rfl e)
theorem Tg.same {H H2:Hp} {v:V} {d:Dt} (t:Tg H v d) (s:Same H H2):Tg H2 v d:=t.keep λ_ _ _ e=>s.get e
theorem Tg.kind {K:a'} {H:Hp} {v:V} {d:Dt} (t:Tg H v d):∃k,r8 K H v k:=by
 cases t with
 | str z l=>exact⟨"str",rfl⟩
 | int i=>exact⟨"int",rfl⟩
 | bl b=>exact⟨"bool",rfl⟩
 | non=>exact⟨"NoneType",rfl⟩
 | nil e=>exact⟨"list",.inl ⟨rfl,_,SqL.of e⟩⟩
 | one l e=>exact⟨"list",.inl ⟨rfl,_,SqL.of e⟩⟩
theorem Tg.len {H:Hp} {v:V} {d:Dt} (t:Tg H v d):∀z,v= .str z->z.length<=1000:=λz e=>by
 subst e;cases t with
 | str z l=>exact l
theorem Tg.rep {K:a'} {H:Hp} {v:V} {d:Dt} (t:Tg H v d):Rep K H v d/\depD d<=1:=by
 cases t with
 | str z l=>exact⟨.str z,by simp[depD]⟩
 | int i=>exact⟨.int i,by simp[depD]⟩
 | bl b=>exact⟨.bl b,by simp[depD]⟩
 | non=>exact⟨.non,by simp[depD]⟩
 | nil e=>exact⟨.lst (SqL.of e) rfl (λi x y h=>by simp at h),by simp[depD,dH]⟩
 | one l e=>
   rename_i p z;refine⟨.lst (SqL.of e) rfl λi x y h1 h2=>?_,by simp[depD,dH]⟩
   match i,h1,h2 with
   | 0,h1,h2=>cases h1;cases h2;exact .str z
   | i + 1,h1,_=>simp at h1
noncomputable def xP:Dt->N1
 | .str z=>nm z.cps.toList
 | _=>false
theorem Tg.name {H:Hp} {v:V} {d:Dt} (t:Tg H v d):AH v=xP d:=by cases t<;>rfl
inductive Ft where
 | many | bad (d:Dt) | dbl (d:Dt) | now (d:Dt) | ring
noncomputable def nmsF:cc Dt->A6->ov Ft
 | [],_=>gs
 | .str z::ds,known=>if nm z.cps.toList=true then (if z∈known then ag (.dbl (.str z)) else nmsF ds (known++[z])) else ag (.bad (.str z))
 | d::_,_=>ag (.bad d)
noncomputable def wrsF:cc Dt->A6->ov Ft
 | [],_=>gs
 | .str z::ds,known=>if z∈known then wrsF ds known else ag (.now (.str z))
 | d::_,_=>ag (.now d)
theorem qm:∀{ds:cc Dt} {O:A6},nmsF ds O=gs->∃zs:A6,ds=zs.map Dt.str/\(∀z∈zs,Nm z)/\zs.Nodup/\∀z∈zs,z∉O
 | [],_,_=>⟨[],rfl,λ_ h=>ik h @F,.nil,λ_ h=>ik h @F⟩
 | .str z::ds,O,h=>by
   unfold nmsF at h;by_cases h1:nm z.cps.toList=true
   ·rw[kn h1] at h;by_cases h2:z∈O
    ·rw[kn h2] at h;cases h
    ·rw[hQ h2] at h;obtain⟨zs,rfl,ο,L,Z⟩:=qm h;refine⟨z::zs,rfl,λy Y=>(v9.mp Y).elim (λe=>by rw[e];exact h1) (ο y),Ov.mpr ⟨λm=>Z z m (p' _ ox),L⟩,λy Y=>(v9.mp Y).elim (λe=>by rw[e];exact h2) λm k=>Z y m (pT _ k)⟩
   ·rw[hQ h1] at h;cases h
 | .non::_,_,h=>by cases h
 | .bl _::_,_,h=>by cases h
 | .int _::_,_,h=>by cases h
 | .lst _::_,_,h=>by cases h
 | .tup _::_,_,h=>by cases h
theorem uQ:∀{ds:cc Dt} {L:A6},wrsF ds L=gs->∃zs:A6,ds=zs.map Dt.str/\∀z∈zs,z∈L
 | [],_,_=>⟨[],rfl,λ_ h=>ik h @F⟩
 | .str z::ds,L,h=>by
   unfold wrsF at h;by_cases h2:z∈L
   ·rw[kn h2] at h;obtain⟨zs,rfl,ο⟩:=uQ h;exact⟨z::zs,rfl,λy O=>(v9.mp O).elim (λe=>by rw[e];exact h2) (ο y)⟩
   ·rw[hQ h2] at h;cases h
 | .non::_,_,h=>by cases h
 | .bl _::_,_,h=>by cases h
 | .int _::_,_,h=>by cases h
 | .lst _::_,_,h=>by cases h
 | .tup _::_,_,h=>by cases h
theorem mE (z:ic) (ds:cc Dt) (L:A6):wrsF (.str z::ds) L=if z∈L then wrsF ds L else ag (.now (.str z)):=by rw[wrsF]
theorem yF:∀{ds:cc Dt} {L:A6} {f:Ft},wrsF ds L=ag f->∃d,f= .now d
 | [],_,_,h=>by cases h
 | .str z::ds,L,f,h=>by
   unfold wrsF at h;by_cases h2:z∈L
   ·rw[kn h2] at h;exact yF h
   ·rw[hQ h2] at h;cases h;exact⟨_,rfl⟩
 | .non::_,_,_,h=>by cases h;exact⟨_,rfl⟩
 | .bl _::_,_,_,h=>by cases h;exact⟨_,rfl⟩
 | .int _::_,_,_,h=>by cases h;exact⟨_,rfl⟩
 | .lst _::_,_,_,h=>by cases h;exact⟨_,rfl⟩
 | .tup _::_,_,_,h=>by cases h;exact⟨_,rfl⟩
end Sx
namespace Sv
open PySem L2 Sx
structure Vt where
 ins:A6
 sums:cc (ic×cc V)
 sts:cc (ic×V)
 outs:cc V
noncomputable def Vt.names (N:Vt):A6:=N.ins++N.sums.map (·.1)++N.sts.map (·.1)
structure Gv (N:Vt):Prop where
 li:N.ins.length<=6
 ls:N.sums.length<=40
 lt:N.sts.length<=16
 lo:N.outs.length<=6
 lw:∀r∈N.sums,r.2.length<=24
 nm:∀z∈N.names,Nm z
 nd:N.names.Nodup
noncomputable abbrev Rw:=eH×eH×ic×cc V
noncomputable abbrev Qs:=eH×ic×V
structure Kpt (H:Hp) (i s t o:eH) (rs:cc Rw) (qs:cc Qs) (N:Vt):Prop where
 i:H i=ag (.tup (N.ins.map V.str))
 s:H s=ag (.tup (rs.map λr=>V.ref r.1))
 sr:∀r∈rs,H r.1=ag (.tup [.str r.2.2.1,.ref r.2.1])/\H r.2.1=ag (.tup r.2.2.2)
 es:rs.map (·.2.2)=N.sums
 t:H t=ag (.tup (qs.map λq=>V.ref q.1))
 tr:∀q∈qs,H q.1=ag (.tup [.str q.2.1,q.2.2])
 et:qs.map (·.2)=N.sts
 o:H o=ag (.tup N.outs)
theorem Kpt.same {H H2:Hp} {i s t o:eH} {rs:cc Rw} {qs:cc Qs} {N:Vt} (x:Kpt H i s t o rs qs N) (h:Same H H2):Kpt H2 i s t o rs qs N:=⟨h.get x.i,h.get x.s,λr m=>⟨h.get (x.sr r m).1,h.get (x.sr r m).2⟩,x.es,h.get x.t,λq m=>h.get (x.tr q m),x.et,h.get x.o⟩
inductive Wob (H:Hp) (CI CS CT:eH) (N:Vt) (z:ic) (w:eH):Prop where
 | i (k:Nat) (dx:eH) (hk:N.ins[k]? =ag z) (e:H w=ag (.ins CI dx [("name",.str z),("number",nat k)])):Wob H CI CS CT N z w
 | s (ws:cc V) (dx tw:eH) (hk:(z,ws)∈N.sums) (e:H w=ag (.ins CS dx [("name",.str z),("wires",.ref tw)])) (et:H tw=ag (.tup ws)):Wob H CI CS CT N z w
 | t (k:Nat) (y:V) (dx:eH) (hk:N.sts[k]? =ag (z,y)) (e:H w=ag (.ins CT dx [("name",.str z),("wire",y),("number",nat k)])):Wob H CI CS CT N z w
theorem Wob.same {H H2:Hp} {Y O L:eH} {N:Vt} {z:ic} {w:eH} (x:Wob H Y O L N z w) (h:Same H H2):Wob H2 Y O L N z w:=by
 cases x with
 | i k dx hk e=>exact .i k dx hk (h.get e)
 | s ws dx tw hk e et=>exact .s ws dx tw hk (h.get e) (h.get et)
 | t k y dx hk e=>exact .t k y dx hk (h.get e)
theorem Wob.name {H:Hp} {Y O L:eH} {N:Vt} {z:ic} {w:eH} (x:Wob H Y O L N z w):∃C dx fs,H w=ag (.ins C dx (("name",.str z)::fs))/\(C=Y∨C=O∨C=L):=by
 cases x with
 | i k dx hk e=>exact⟨_,_,_,e,.inl rfl⟩
 | s ws dx tw hk e et=>exact⟨_,_,_,e,.inr (.inl rfl)⟩
 | t k y dx hk e=>exact⟨_,_,_,e,.inr (.inr rfl)⟩
structure WiA (H:Hp) (CI CS CT d:eH) (N:Vt) (ws:G'):Prop where
 d:H d=ag (.dK (ws.map λq=>(n' q.1,V.ref q.2)))
 nm:ws.map (·.1)=N.names
 ob:∀q∈ws,Wob H CI CS CT N q.1 q.2
theorem WiA.knw {H:Hp} {Y O L d:eH} {N:Vt} {ws:G'} (x:WiA H Y O L d N ws):Knw H d N.names:=⟨_,x.d,by rw[qa,<-x.nm,qa];rfl⟩
def sp_wbyname (Y O L:eH):Sp:=λvs H Q _=>∃(i s t o:eH) (rs:cc Rw) (qs:cc Qs) (N:Vt),vs=[.ref i,.ref s,.ref t]/\Kpt H i s t o rs qs N/\Gv N/\∀(d:eH) (H2:Hp) (ws:G'),H d=gs->Same H H2->WiA H2 Y O L d N ws->Q (.ref d) H2
theorem Wob.keep {H H2:Hp} {Z Y O:eH} {N:Vt} {z:ic} {w D:eH} {xs:cc V} (x:Wob H Z Y O N z w) (L:H D=ag (.lst xs)) (h:∀b o,b≠D->H b=ag o->H2 b=ag o):Wob H2 Z Y O N z w:=by
 cases x with
 | i k dx hk e=>exact .i k dx hk (h _ _ (hU e L (λz=>by cases z)) e)
 | s ws dx tw hk e et=>exact .s ws dx tw hk (h _ _ (hU e L (λz=>by cases z)) e) (h _ _ (hU et L (λz=>by cases z)) et)
 | t k y dx hk e=>exact .t k y dx hk (h _ _ (hU e L (λz=>by cases z)) e)
structure WL (H0 H:Hp) (CI CS CT:eH) (N:Vt) (D:eH) (ys:cc V) (zs:A6) (ws:G'):Prop where
 ey:ys=ws.map λq=>V.ref q.2
 nm:ws.map (·.1)=zs
 ob:∀q∈ws,Wob H CI CS CT N q.1 q.2
 same:Same H0 H
 d:H D=ag (.lst ys)
theorem WL.put {Z H L:Hp} {γ β α:eH} {N:Vt} {D:eH} {ys:cc V} {zs:A6} {ws:G'} (c:WL Z H γ β α N D ys zs ws) (ε:Z D=gs) (s:Same H L) {z:ic} {x:eH} (ν:Wob L γ β α N z x) (η:zs.length<=900) {O:A6} (ζ:O=zs++[z]):
  L D=ag (.lst ys)/\ys.length < jF/\∃ws,WL Z (upd L D (.lst (ys++[.ref x]))) γ β α N D (ys++[.ref x]) O ws:=by
 have Y:=s.get c.d;have k:∀b o,b≠D->L b=ag o->upd L D (.lst (ys++[.ref x])) b=ag o:=λb o n e=>by rw[ar n];exact e
 have lw:ys.length=zs.length:=by rw[c.ey,<-c.nm,ak,ak]
 refine⟨Y,bG @A,ws++[(z,x)],by rw[hh,c.ey];rfl,by rw[hh,c.nm,ζ];rfl,λq δ=>?_,λb o e=>?_,au⟩
 ·rcases lx.mp δ with h | h
  ·exact((c.ob q h).same s).keep Y k
  ·rw[hC] at h;subst h;exact ν.keep Y k
 ·exact k _ _ (ao e ε) (s.get (c.same.get e))
theorem WL.join {Y H H2 δ:Hp} {β α Z:eH} {N:Vt} {D θ:eH} {ys L:cc V} {zs O:A6} {ws ζ:G'} (c:WL Y H β α Z N D ys zs ws) (ρ:WL H H2 β α Z N θ L O ζ) (η:Y D=gs) (u:Upd H2 δ D (.lst (ys++L))):
  WL Y δ β α Z N D (ys++L) (zs++O) (ws++ζ):=by
 have γ:=ρ.same.get c.d;refine⟨by rw[hh,c.ey,ρ.ey],by rw[hh,c.nm,ρ.nm],λq ε=>?_,λb o e=>u.oth _ _ (ao e η) (ρ.same.get (c.same.get e)),u.at'⟩;rcases lx.mp ε with h | h
 ·exact((c.ob q h).same ρ.same).keep γ u.oth
 ·exact(ρ.ob q h).keep γ u.oth
def RwK (H:Hp) (rs:cc Rw):Prop:=∀r∈rs,H r.1=ag (.tup [.str r.2.2.1,.ref r.2.1])/\H r.2.1=ag (.tup r.2.2.2)
def QsK (H:Hp) (qs:cc Qs):Prop:=∀q∈qs,H q.1=ag (.tup [.str q.2.1,q.2.2])
theorem RwK.same {H H2:Hp} {rs:cc Rw} (h:RwK H rs) (s:Same H H2):RwK H2 rs:=λr m=>⟨s.get (h r m).1,s.get (h r m).2⟩
theorem QsK.same {H H2:Hp} {qs:cc Qs} (h:QsK H qs) (s:Same H H2):QsK H2 qs:=λq m=>s.get (h q m)
theorem Kx.rw{x:eH} {H H2:Hp} (k:Kx x H H2) {C dx:eH} {fs:cc (ic×V)} (hx:H x=ag (.ins C dx fs)) {rs:cc Rw} (h:RwK H rs):RwK H2 rs:=λr m=>⟨k.tup hx (h r m).1,k.tup hx (h r m).2⟩
theorem Kx.qs {x:eH} {H H2:Hp} (k:Kx x H H2) {C dx:eH} {fs:cc (ic×V)} (hx:H x=ag (.ins C dx fs)) {qs:cc Qs} (h:QsK H qs):QsK H2 qs:=λq m=>k.tup hx (h q m)
theorem RwK.updL {H H2:Hp} {rs:cc Rw} (h:RwK H rs) {D:eH} {xs:cc V} (L:H D=ag (.lst xs)) (k:∀b o,b≠D->H b=ag o->H2 b=ag o):RwK H2 rs:=λr m=>⟨k _ _ (hU (h r m).1 L λz=>by cases z) (h r m).1,k _ _ (hU (h r m).2 L λz=>by cases z) (h r m).2⟩
theorem QsK.updL {H H2:Hp} {qs:cc Qs} (h:QsK H qs) {D:eH} {xs:cc V} (L:H D=ag (.lst xs)) (k:∀b o,b≠D->H b=ag o->H2 b=ag o):QsK H2 qs:=λq m=>k _ _ (hU (h q m) L λz=>by cases z) (h q m)
theorem Kx.kpt {x:eH} {H H2:Hp} (k:Kx x H H2) {C dx:eH} {fs:cc (ic×V)} (hx:H x=ag (.ins C dx fs)) {i s t o:eH} {rs:cc Rw} {qs:cc Qs} {N:Vt} (h:Kpt H i s t o rs qs N):Kpt H2 i s t o rs qs N:=
 ⟨k.tup hx h.i,k.tup hx h.s,λr m=>⟨k.tup hx (h.sr r m).1,k.tup hx (h.sr r m).2⟩,h.es,k.tup hx h.t,λq m=>k.tup hx (h.tr q m),h.et,k.tup hx h.o⟩
theorem Kx.wia {x:eH} {H H2:Hp} (k:Kx x H H2) {α Z Y d:eH} {N:Vt} {ws:G'} (h:WiA H α Z Y d N ws) (hd:d≠x) (hw:∀q∈ws,q.2≠x) {C dx:eH} {fs:cc (ic×V)} (hx:H x=ag (.ins C dx fs)):WiA H2 α Z Y d N ws:=
 ⟨k _ _ hd h.d,h.nm,λq m=>by
  cases h.ob q m with
  | i O L hk e=>exact .i O L hk (k _ _ (hw q m) e)
  | s ν L tw hk e et=>exact .s ν L tw hk (k _ _ (hw q m) e) (k.tup hx et)
  | t O y L hk e=>exact .t O y L hk (k _ _ (hw q m) e)⟩
end Sv
namespace Sx
open PySem L2
noncomputable abbrev RwT:=eH×eH×V×cc V
noncomputable abbrev QsT:=eH×V×V
structure HndT (H:Hp) (i s t o:eH) (is:cc V) (rs:cc RwT) (qs:cc QsT) (os:cc V):Prop where
 i:H i=ag (.lst is)
 s:H s=ag (.lst (rs.map λr=>V.ref r.1))
 sr:∀r∈rs,H r.1=ag (.tup [r.2.2.1,.ref r.2.1])/\(H r.2.1=ag (.lst r.2.2.2)∨H r.2.1=ag (.tup r.2.2.2))
 t:H t=ag (.lst (qs.map λq=>V.ref q.1))
 tr:∀q∈qs,H q.1=ag (.tup [q.2.1,q.2.2])
 o:H o=ag (.lst os)
theorem HndT.same {H H2:Hp} {i s t o:eH} {is:cc V} {rs:cc RwT} {qs:cc QsT} {os:cc V} (x:HndT H i s t o is rs qs os) (h:Same H H2):HndT H2 i s t o is rs qs os:=⟨h.get x.i,h.get x.s,λr m=>⟨h.get (x.sr r m).1,(x.sr r m).2.imp h.get h.get⟩,h.get x.t,λq m=>h.get (x.tr q m),h.get x.o⟩
theorem Kx.tg {x:eH} {H H2:Hp} (k:Kx x H H2) {C dx:eH} {fs:cc (ic×V)} (hx:H x=ag (.ins C dx fs)) {v:V} {d:Dt} (t:Tg H v d):Tg H2 v d:=t.keep λ_ _ _ e=>k.lst hx e
structure Nd where
 ins:cc Dt
 sums:cc (Dt×cc Dt)
 sts:cc (Dt×Dt)
 outs:cc Dt
def TgL (H:Hp) (vs:cc V) (ds:cc Dt):Prop:=vs.length=ds.length/\∀(i:Nat) v d,vs[i]? =ag v->ds[i]? =ag d->Tg H v d
theorem TgL.imp {H H2:Hp} {vs:cc V} {ds:cc Dt} (t:TgL H vs ds) (h:∀v d,v∈vs->Tg H v d->Tg H2 v d):TgL H2 vs ds:=⟨t.1,λi v d a b=>h v d (hA a) (t.2 i v d a b)⟩
theorem TgL.same {H H2:Hp} {vs:cc V} {ds:cc Dt} (t:TgL H vs ds) (s:Same H H2):TgL H2 vs ds:=t.imp λ_ _ _ x=>x.same s
theorem TgL.nil (H:Hp):TgL H [] []:=⟨rfl,λi v d h=>by simp at h⟩
theorem TgL.app {H:Hp} {vs ws:cc V} {ds es:cc Dt} (a:TgL H vs ds) (b:TgL H ws es):TgL H (vs++ws) (ds++es):=by
 refine⟨by rw[hE,hE,a.1,b.1],λi v d h1 h2=>?_⟩;by_cases hi:i < vs.length
 ·rw[vr hi] at h1;rw[vr (by rw[<-a.1];exact hi)] at h2;exact a.2 i v d h1 h2
 ·rw[u' @A] at h1;rw[u' (by rw[<-a.1];omega),<-a.1] at h2;exact b.2 _ v d h1 h2
theorem TgL.strs {H:Hp}:∀{vs:cc V} {zs:A6},TgL H vs (zs.map Dt.str)->vs=zs.map V.str:=λ{vs zs} t=>by
 apply OC;intro i;have hl:=t.1;rw[ak] at hl;by_cases hi:i < vs.length
 ·have hz:i < zs.length:=by omega
  have:=t.2 i vs[i] (.str zs[i]) (c' hi) (by rw[hH,c' hz];rfl);rw[c' hi,hH,c' hz];generalize vs[i]=v at this;cases this;rfl
 ·rw[M' @A,M' (by rw[ak];omega)]
structure DatT (H:Hp) (is:cc V) (rs:cc RwT) (qs:cc QsT) (os:cc V) (N:Nd):Prop where
 i:TgL H is N.ins
 sn:TgL H (rs.map (·.2.2.1)) (N.sums.map (·.1))
 sw:∀(i:Nat) (r:RwT) (x:Dt×cc Dt),rs[i]? =ag r->N.sums[i]? =ag x->TgL H r.2.2.2 x.2
 tn:TgL H (qs.map (·.2.1)) (N.sts.map (·.1))
 tw:TgL H (qs.map (·.2.2)) (N.sts.map (·.2))
 o:TgL H os N.outs
theorem DatT.imp {H H2:Hp} {is:cc V} {rs:cc RwT} {qs:cc QsT} {os:cc V} {N:Nd} (x:DatT H is rs qs os N) (h:∀v d,Tg H v d->Tg H2 v d):DatT H2 is rs qs os N:=
 ⟨x.i.imp λv d _=>h v d,x.sn.imp λv d _=>h v d,λi r y a b=>(x.sw i r y a b).imp λv d _=>h v d,x.tn.imp λv d _=>h v d,x.tw.imp λv d _=>h v d,x.o.imp λv d _=>h v d⟩
theorem DatT.same {H H2:Hp} {is:cc V} {rs:cc RwT} {qs:cc QsT} {os:cc V} {N:Nd} (x:DatT H is rs qs os N) (s:Same H H2):DatT H2 is rs qs os N:=x.imp λ_ _ t=>t.same s
noncomputable def Nd.nms (N:Nd):cc Dt:=N.ins++N.sums.map (·.1)++N.sts.map (·.1)
noncomputable def Nd.wrs (N:Nd):cc Dt:=N.sums.flatMap (·.2)++N.sts.map (·.2)++N.outs
noncomputable def iZ (N:Nd):Bool:=decide (6 < N.ins.length)||decide (40 < N.sums.length)||decide (16 < N.sts.length)||decide (6 < N.outs.length)||N.sums.any λr=>decide (24 < r.2.length)
noncomputable def dStr:Dt->ic
 | .str z=>z
 | _=>""
theorem jD (zs:A6):(zs.map Dt.str).map dStr=zs:=by rw[qa];exact Py zs
noncomputable def Nd.rows (N:Nd):cc (ic×cc ic):=N.sums.map λr=>(dStr r.1,r.2.map dStr)
noncomputable def Nd.nt (N:Nd):Nt:=⟨N.ins.map dStr,N.rows,N.sts.map λr=>(dStr r.1,dStr r.2),N.outs.map dStr⟩
open Classical in
noncomputable def dueF (N:Nd):ov Ft:=if iZ N=true then ag .many else (nmsF N.nms []).or ((wrsF N.wrs (N.nms.map dStr)).or (if yz N.rows then ag .ring else gs))
noncomputable def FtX (Y α Z γ CR:eH) (rows:cc (ic×cc ic)) (H2:Hp):Ft->iv->Dn->Prop
 | .many,C,dx=>C= .ref Y/\dx=gs
 | .bad d,C,dx=>C= .ref α/\∃a v,dx=ag a/\H2 a=ag (.xd [("name",v)])/\Tg H2 v d
 | .dbl d,C,dx=>C= .ref Z/\∃a v,dx=ag a/\H2 a=ag (.xd [("name",v)])/\Tg H2 v d
 | .now d,C,dx=>C= .ref γ/\∃a v,dx=ag a/\H2 a=ag (.xd [("name",v)])/\Tg H2 v d
 | .ring,C,dx=>C= .ref CR/\∃a L O,dx=ag a/\H2 a=ag (.xd [("ring",.ref L)])/\H2 L=ag (.lst (O.map V.str))/\kz rows O
def Da:Sp:=λvs H Q _=>∃(v:V) (d:Dt),vs=[v,.int 12]/\Tg H v d/\∀π H2,Same H H2->Tg H2 π d->Q π H2
def kD (C:eH):Sp:=λvs H Q _=>∃(p:eH) (v:V) (d:Dt),vs=[.ref p,v]/\Tg H v d/\H p=ag (ExcF p C gs)/\∀π H2,ExcV H2 p C [("name",π)]->(∀b u,b≠p->H b=ag u->H2 b=ag u)->Tg H2 π d->Q .non H2
def TldD (H H2:Hp) (dx:eH) (d:Dt):Prop:=∃π,Tld H H2 dx π/\Tg H2 π d
def z7 (γ:eH):Sp:=λvs H Q E=>∃(v:V) (t:Dt) (d:eH) (zs:A6),vs=[v,.ref d]/\Tg H v t/\Knw H d zs/\(∀z∈zs,Nm z)/\(∀z∈zs,t= .str z->∀H2,Same H H2->Q .non H2)/\((∀z∈zs,t≠.str z)->∀H2 dx,TldD H H2 dx t->E (.ref γ) (ag dx) H2)
def xq (O L:eH):Sp:=λvs H Q E=>∃(l:eH) (xs:cc V) (ds:cc Dt),vs=[.ref l]/\H l=ag (.lst xs)/\TgL H xs ds/\xs.length<=1000/\(nmsF ds []=gs->∀H2,Same H H2->Q .non H2)/\
 (∀d,nmsF ds []=ag (.bad d)->∀H2 dx,TldD H H2 dx d->E (.ref O) (ag dx) H2)/\(∀d,nmsF ds []=ag (.dbl d)->∀H2 dx,TldD H H2 dx d->E (.ref L) (ag dx) H2)
def xp (L:eH):Sp:=λvs H Q E=>∃(i s t o:eH) (is:cc V) (rs:cc RwT) (qs:cc QsT) (os:cc V),vs=[.ref i,.ref s,.ref t,.ref o]/\HndT H i s t o is rs qs os/\is.length<=1000000/\rs.length<=1000000/\
 ((decide (6 < is.length)||decide (40 < rs.length)||decide (16 < qs.length)||decide (6 < os.length)||rs.any λr=>decide (24 < r.2.2.2.length))=false->∀H2,Same H H2->Q .non H2)/\
 ((decide (6 < is.length)||decide (40 < rs.length)||decide (16 < qs.length)||decide (6 < os.length)||rs.any λr=>decide (24 < r.2.2.2.length))=true->∀H2,Same H H2->E (.ref L) gs H2)
def xo (γ:eH):Sp:=λvs H Q E=>∃(i s t o d:eH) (rs:cc Sv.Rw) (qs:cc Sv.Qs) (N:Sv.Vt) (zs:A6) (θ:cc (cc Dt)) (φ L:cc Dt),vs=[.ref s,.ref t,.ref o,.ref d]/\Sv.Kpt H i s t o rs qs N/\Knw H d zs/\(∀z∈zs,Nm z)/\
 (∀(i:Nat) (r:Sv.Rw) x,rs[i]? =ag r->θ[i]? =ag x->TgL H r.2.2.2 x)/\rs.length=θ.length/\TgL H (qs.map (·.2.2)) φ/\TgL H N.outs L/\
 (wrsF (θ.flatten++φ++L) zs=gs->∀H2,Same H H2->Q .non H2)/\(∀x,wrsF (θ.flatten++φ++L) zs=ag (.now x)->∀H2 dx,TldD H H2 dx x->E (.ref γ) (ag dx) H2)
structure Ro (sums:cc (ic×cc ic)):Prop where
 ls:sums.length<=40
 lw:∀r∈sums,r.2.length<=24
 nd:(sums.map (·.1)).Nodup
def RwH (H:Hp) (rs:cc Rw):Prop:=∀r∈rs,H r.1=ag (.tup [.str r.2.2.1,.ref r.2.1])/\H r.2.1=ag (.tup (r.2.2.2.map V.str))
def C0:Sp:=λvs H Q _=>∃(l:eH) (rs:cc Rw),vs=[.ref l]/\H l=ag (.lst (rs.map λr=>V.ref r.1))/\RwH H rs/\Ro (rs.map (·.2.2))/\rs≠[]/\(∀r∈rs,dQ (rs.map (·.2.2.1)) r.2.2.2=true)/\
 ∀(D:eH) (H2:Hp) (L:A6),H D=gs->Same H H2->H2 D=ag (.lst (L.map V.str))->kz (rs.map (·.2.2)) L->Q (.ref D) H2
def F2 (C:eH):Sp:=λvs H Q _=>∃(p l:eH) (zs:A6),vs=[.ref p,.ref l]/\H l=ag (.lst (zs.map V.str))/\H p=ag (ExcF p C gs)/\∀L H2,ExcV H2 p C [("ring",.ref L)]->(∀b u,b≠p->H b=ag u->H2 b=ag u)->H2 L=ag (.lst (zs.map V.str))->Q .non H2
def uY (CR:eH):Sp:=λvs H Q E=>∃(s:eH) (rs:cc Rw),vs=[.ref s]/\H s=ag (.tup (rs.map λr=>V.ref r.1))/\RwH H rs/\Ro (rs.map (·.2.2))/\
 (∀(D:eH) (H2:Hp) (od:A6),H D=gs->Same H H2->H2 D=ag (.lst (od.map V.str))->Topo (rs.map (·.2.2)) od->Q (.ref D) H2)/\
 (∀(H2:Hp) (dx L:eH) (O:A6),Same H H2->H2 dx=ag (.xd [("ring",.ref L)])->H2 L=ag (.lst (O.map V.str))->kz (rs.map (·.2.2)) O->E (.ref CR) (ag dx) H2)
def F7 (C Z O L Y β α γ CR:eH):Sp:=λvs H Q E=>∃(x dx i s t o:eH) (is:cc V) (rs:cc RwT) (qs:cc QsT) (os:cc V) (N:Nd),vs=[.ref x,.ref i,.ref s,.ref t,.ref o]/\H x=ag (.ins C dx [])/\HndT H i s t o is rs qs os/\DatT H is rs qs os N/\is.length<=1000000/\rs.length<=1000000/\
 (dueF N=gs->∀(H2:Hp) (od:A6),Kx x H H2->NetA H2 C Z O L x N.nt od->Q .non H2)/\
 (∀f,dueF N=ag f->∀(H2:Hp) C' dx',Kx x H H2->FtX Y β α γ CR N.rows H2 f C' dx'->E C' dx' H2)
theorem qU (z:ic):∀zs:A6,inV (.str z) (zs.map V.str)=decide (z∈zs)
 | []=>rfl
 | y::zs=>by
   unfold inV;rw[MU,P3];have ih:=qU z zs;unfold inV at ih;rw[ih];by_cases e:y=z
   ·subst e;simp[eqV]
   ·simp[eqV,e,J5 e]
theorem wj (zs:A6):(zs.map V.str).all uq=true:=by rw[Nr];intro x L;obtain⟨y,_,rfl⟩:=mw.mp L;rfl
theorem Dq {K:a'} {H:Hp} {Q:VK} {p:eH} {zs:A6} {z:ic} (e:H p=ag (.lst (zs.map V.str))) (h:Q (.bl (decide (z∈zs))) H):rIn K false (.str z) (.ref p) H Q:=⟨p,_,rfl,.inl (SqL.of e),rfl,wj zs,by rw[hQ hV,qU];exact h⟩
theorem pE {K:a'} {H:Hp} {Q:VK} {p:eH} {zs:A6} {z:ic} (e:H p=ag (.lst (zs.map V.str))) (h:Q (.bl (!decide (z∈zs))) H):rIn K true (.str z) (.ref p) H Q:=⟨p,_,rfl,.inl (SqL.of e),rfl,wj zs,by rw[kn rfl,qU];exact h⟩
theorem ur {z:ic}:∀{l:A6},z∈l->∃j:Nat,l[j]? =ag z/\∀i,i < j->l[i]? ≠ag z
 | [],h=>ik h @F
 | y::l,h=>by
   by_cases e:y=z
   ·exact⟨0,by rw[e];rfl,λi hi=>ik hi @A⟩
   ·obtain⟨j,h1,h2⟩:=ur (l:=l) ((v9.mp h).resolve_left λq=>e q.symm);refine⟨j + 1,h1,λi hi=>?_⟩
    match i with
    | 0=>exactλq=>e (ui q)
    | i + 1=>exact h2 i @A
theorem J8 {rs:cc Rw} {z:ic} (h:z∈rs.map (·.2.2.1)):∃r∈rs,r.2.2.1=z/\valV (rs.map λr=>((n' r.2.2.1:Key),V.ref r.2.1)) (n' z)=ag (.ref r.2.1):=by
 induction rs with
 | nil=>simp at h
 | cons r rs ih=>
   by_cases e:r.2.2.1=z
   ·exact⟨r,ox,e,iu (K' n' e)⟩
   ·obtain⟨r',h1,h2,L⟩:=ih ((v9.mp h).resolve_left λq=>e q.symm);refine⟨r',px _ h1,h2,?_⟩;rw[MU,<-L];simp[valV,OI,e]
theorem pD {t:Dt} {zs:A6} (h:∀z∈zs,t≠.str z) (r:cc Dt):wrsF (t::r) zs=ag (.now t):=by
 cases t with
 | str z=>rw[mE,hQ λm=>h z m rfl]
 | non=>rfl
 | bl b=>rfl
 | int i=>rfl
 | lst l=>rfl
 | tup l=>rfl
theorem tW (z:ic) (ds:cc Dt) (L:A6):nmsF (.str z::ds) L=if nm z.cps.toList=true then (if z∈L then ag (.dbl (.str z)) else nmsF ds (L++[z])) else ag (.bad (.str z)):=by rw[nmsF]
theorem yV {t:Dt} (h:xP t=false) (r:cc Dt) (zs:A6):nmsF (t::r) zs=ag (.bad t):=by
 cases t with
 | str z=>rw[tW,hQ (by rw[show nm z.cps.toList=false from h];decide)]
 | non=>rfl
 | bl b=>rfl
 | int i=>rfl
 | lst l=>rfl
 | tup l=>rfl
theorem ij {α:Type} {l:cc α} {i:Nat} {x:α} (h:l[i]? =ag x):l.drop i=x::l.drop (i + 1):=by
 obtain⟨hi,e⟩:=b'.mp h;rw[<-e];exact List.drop_eq_getElem_cons hi
structure yB (sums:cc (ic×cc ic)) (path:A6) (z:ic):Prop where
 nd:path.Nodup
 sub:∀y∈path,y∈sums.map (·.1)
 hz:z∈sums.map (·.1)
 st:∀i,i + 1 < path.length->∃ws,(path.getD i "",ws)∈sums/\path.getD (i + 1) ""∈ws
 last:path≠[]->∃ws,(path.getD (path.length - 1) "",ws)∈sums/\z∈ws
theorem yB.step {sums:cc (ic×cc ic)} {L:A6} {z y:ic} {ws:A6} (p:yB sums L z) (hn:z∉L) (h1:(z,ws)∈sums) (h2:y∈ws) (h3:y∈sums.map (·.1)):yB sums (L++[z]) y:=by
 refine⟨?_,λx O=>?_,h3,λi hi=>?_,λ_=>⟨ws,?_,h2⟩⟩
 ·rw[NU];exact⟨p.nd,Ov.mpr ⟨by simp,.nil⟩,λa ha b hb e=>hn (by rw[hC] at hb;rw[<-hb,<-e];exact ha)⟩
 ·rcases lx.mp O with h | h
  ·exact p.sub x h
  ·rw[hC.mp h];exact p.hz
 ·rw[hE,M0] at hi;have Z:(L++[z]).getD i ""=L.getD i "":=by rw[hB,vr @A,hB]
  rw[Z];by_cases h:i + 1 < L.length
  ·have ε:(L++[z]).getD (i + 1) ""=L.getD (i + 1) "":=by rw[hB,vr h,hB]
   rw[ε];exact p.st i h
  ·have Y:L≠[]:=λe=>by rw[e] at hi;simp at hi
   obtain⟨ν,α,ο⟩:=p.last Y;rw[show i=L.length - 1 by omega];refine⟨ν,α,?_⟩;show(L++[z]).getD (L.length - 1 + 1) ""∈ν;rw[hB,u' @A,show L.length - 1 + 1 - L.length=0 by omega];exact ο
 ·rw[hE,M0,hB,u' @A,show L.length + 1 - 1 - L.length=0 by omega];exact h1
theorem yB.len {sums:cc (ic×cc ic)} {L:A6} {z:ic} (p:yB sums L z):L.length<=sums.length:=by
 have:=Qn p.nd (λy O=>p.sub y O);rw[ak] at this;exact this
noncomputable def toR (r:Sv.Rw):RwT:=(r.1,r.2.1,.str r.2.2.1,r.2.2.2)
noncomputable def toQ (q:Sv.Qs):QsT:=(q.1,.str q.2.1,q.2.2)
theorem yO:∀{rs:cc RwT} {zs:A6},rs.map (·.2.2.1)=zs.map V.str->∃rv:cc Sv.Rw,rs=rv.map toR/\rv.map (·.2.2.1)=zs
 | [],[],_=>⟨[],rfl,rfl⟩
 | [],_::_,h=>by cases h
 | _::_,[],h=>by cases h
 | (a,b,v,ws)::rs,z::zs,h=>by
   injection h with h1 h2
   obtain⟨rv,O,L⟩:=yO h2;have h1:v=V.str z:=h1;subst h1;exact⟨(a,b,z,ws)::rv,by rw[O];rfl,by rw[<-L];rfl⟩
theorem vv:∀{qs:cc QsT} {zs:A6},qs.map (·.2.1)=zs.map V.str->∃qv:cc Sv.Qs,qs=qv.map toQ/\qv.map (·.2.1)=zs
 | [],[],_=>⟨[],rfl,rfl⟩
 | [],_::_,h=>by cases h
 | _::_,[],h=>by cases h
 | (a,v,y)::qs,z::zs,h=>by
   injection h with h1 h2
   obtain⟨qv,O,L⟩:=vv h2;have h1:v=V.str z:=h1;subst h1;exact⟨(a,z,y)::qv,by rw[O];rfl,by rw[<-L];rfl⟩
structure HndV (H:Hp) (i s t o:eH) (is:A6) (rv:cc Sv.Rw) (qv:cc Sv.Qs) (os:cc V):Prop where
 i:H i=ag (.lst (is.map V.str))
 s:H s=ag (.lst (rv.map λr=>V.ref r.1))
 sr:∀r∈rv,H r.1=ag (.tup [.str r.2.2.1,.ref r.2.1])/\(H r.2.1=ag (.lst r.2.2.2)∨H r.2.1=ag (.tup r.2.2.2))
 t:H t=ag (.lst (qv.map λq=>V.ref q.1))
 tr:∀q∈qv,H q.1=ag (.tup [.str q.2.1,q.2.2])
 o:H o=ag (.lst os)
theorem HndV.of {H:Hp} {i s t o:eH} {is:A6} {rv:cc Sv.Rw} {qv:cc Sv.Qs} {os:cc V} (x:HndT H i s t o (is.map V.str) (rv.map toR) (qv.map toQ) os):HndV H i s t o is rv qv os:=
 ⟨x.i,by have:=x.s;rw[qa] at this;exact this,λr m=>x.sr (toR r) (mw.mpr ⟨r,m,rfl⟩),by have:=x.t;rw[qa] at this;exact this,λq m=>x.tr (toQ q) (mw.mpr ⟨q,m,rfl⟩),x.o⟩
theorem HndV.same {H H2:Hp} {i s t o:eH} {is:A6} {rs:cc Sv.Rw} {qs:cc Sv.Qs} {os:cc V} (x:HndV H i s t o is rs qs os) (h:Same H H2):HndV H2 i s t o is rs qs os:=⟨h.get x.i,h.get x.s,λr m=>⟨h.get (x.sr r m).1,(x.sr r m).2.imp h.get h.get⟩,h.get x.t,λq m=>h.get (x.tr q m),h.get x.o⟩
theorem Kx.hndV {x:eH} {H H2:Hp} (k:Kx x H H2) {C dx:eH} {fs:cc (ic×V)} (hx:H x=ag (.ins C dx fs)) {i s t o:eH} {is:A6} {rs:cc Sv.Rw} {qs:cc Sv.Qs} {os:cc V} (h:HndV H i s t o is rs qs os):HndV H2 i s t o is rs qs os:=
 ⟨k.lst hx h.i,k.lst hx h.s,λr m=>⟨k.tup hx (h.sr r m).1,(h.sr r m).2.imp (k.lst hx) (k.tup hx)⟩,k.lst hx h.t,λq m=>k.tup hx (h.tr q m),k.lst hx h.o⟩
noncomputable def toV (M:Nt):Sv.Vt:=⟨M.ins,M.sums.map λr=>(r.1,r.2.map V.str),M.sts.map λr=>(r.1,.str r.2),M.outs.map V.str⟩
theorem gU (M:Nt):(toV M).names=M.names:=by
 unfold Sv.Vt.names Nt.names toV;simp only[qa];rfl
theorem lS:∀{ds:cc Dt},(∀d∈ds,∃z,d=Dt.str z)->ds=(ds.map dStr).map Dt.str
 | [],_=>rfl
 | d::ds,h=>by
   obtain⟨z,e⟩:=h d ox;have:=lS (ds:=ds) λd' m=>h d' (px _ m);rw[MU,MU,<-this,e];rfl
theorem xy:∀{rs:cc Sv.Rw} {sums:cc (ic×cc ic)},rs.map (·.2.2)=sums.map (λr=>(r.1,r.2.map V.str))->∃L:cc Rw,rs=L.map (λr=>(r.1,r.2.1,r.2.2.1,r.2.2.2.map V.str))/\L.map (·.2.2)=sums
 | [],[],_=>⟨[],rfl,rfl⟩
 | [],_::_,h=>by cases h
 | _::_,[],h=>by cases h
 | (a,b,p)::rs,q::zs,h=>by
   injection h with h1 h2
   obtain⟨rv,Y,O⟩:=xy h2;have h1:p=(q.1,q.2.map V.str):=h1;subst h1;exact⟨(a,b,q)::rv,by rw[Y];rfl,by rw[<-O];rfl⟩
theorem tO:∀{qs:cc Sv.Qs} {sts:cc (ic×ic)},qs.map (·.2)=sts.map (λr=>(r.1,V.str r.2))->∃β:cc Qs,qs=β.map (λr=>(r.1,r.2.1,V.str r.2.2))/\β.map (·.2)=sts
 | [],[],_=>⟨[],rfl,rfl⟩
 | [],_::_,h=>by cases h
 | _::_,[],h=>by cases h
 | (a,p)::rs,q::zs,h=>by
   injection h with h1 h2
   obtain⟨rv,O,L⟩:=tO h2;have h1:p=(q.1,V.str q.2):=h1;subst h1;exact⟨(a,q)::rv,by rw[O];rfl,by rw[<-L];rfl⟩
theorem Ll {H:Hp} {i s t o:eH} {rs:cc Sv.Rw} {qs:cc Sv.Qs} {M:Nt} (k:Sv.Kpt H i s t o rs qs (toV M)):∃(L:cc Rw) (β:cc Qs),Kpt H i s t o L β M:=by
 obtain⟨L,ε,γ⟩:=xy k.es;obtain⟨β,α,Z⟩:=tO k.et;have hs:=k.s;have Y:=k.t;have δ:=k.sr;have O:=k.tr;rw[ε] at hs δ;rw[α] at Y O;rw[qa] at hs Y;exact⟨L,β,k.i,hs,λr m=>δ _ (mw.mpr ⟨r,m,rfl⟩),γ,Y,λq m=>O _ (mw.mpr ⟨q,m,rfl⟩),Z,k.o⟩
theorem JW {H:Hp} {β α Z d:eH} {M:Nt} {ws:G'} (w:Sv.WiA H β α Z d (toV M) ws):WiA H β α Z d M ws:=
 ⟨w.d,by rw[w.nm,gU],λq m=>by
  cases w.ob q m with
  | i k dx hk e=>exact .i k dx hk e
  | s vs dx tw hk e et=>
    obtain⟨r,L,er⟩:=mw.mp hk;injection er with Y O
    rw[<-O] at et;exact .s r.2 dx tw (by rw[<-Y];exact L) e et
  | t k y dx hk e=>
    have hk:(M.sts.map λr=>(r.1,V.str r.2))[k]? =ag (q.1,y):=hk;rw[hH] at hk;obtain⟨r,L,er⟩:=Nn.mp hk;injection er with Y O
    rw[<-O] at e;exact .t k r.2 dx (by rw[L,<-Y]) e⟩
theorem CG {sums:cc (ic×cc ic)} {od:A6} (t:Topo sums od) (nd:(sums.map (·.1)).Nodup):∃L:ic->Nat,∀r∈sums,∀z∈r.2,z∈sums.map (·.1)->L z < L r.1:=by
 have ξ:=t.perm.nodup_iff.mpr nd;refine⟨λz=>od.idxOf z,λr Y z hz hm=>?_⟩;have ο:r.1∈od:=t.perm.mem_iff.mpr (mw.mpr ⟨r,Y,rfl⟩);have O:=List.idxOf_lt_length_of_mem ο;have β:od[od.idxOf r.1]? =ag r.1:=by rw[c' O,List.getElem_idxOf]
 have:=t.need _ r.1 β r.2 Y z hz hm;obtain⟨j,α,Z⟩:=M9.mp this;rw[qo] at α;rw[QI] at Z;have:od.idxOf z=j:=by rw[<-Z];exact ξ.idxOf_getElem j @A
 show od.idxOf z < od.idxOf r.1;omega
theorem J0 {H:Hp} {is:cc V} {rs:cc RwT} {qs:cc QsT} {os:cc V} {N:Nd} (d:DatT H is rs qs os N) (hm:iZ N=false) (hn:nmsF N.nms []=gs):
  ∃(Z:A6) (rv:cc Sv.Rw) (qv:cc Sv.Qs),is=Z.map V.str/\rs=rv.map toR/\qs=qv.map toQ/\Sv.Gv ⟨Z,rv.map (·.2.2),qv.map (·.2),os⟩/\N.nms=(Z++rv.map (·.2.2.1)++qv.map (·.2.1)).map Dt.str:=by
 obtain⟨zs,e,ο,L,_⟩:=qm hn;have mem:∀x∈N.nms,∃z,x=Dt.str z:=λx O=>by rw[e] at O;obtain⟨z,_,rfl⟩:=mw.mp O;exact⟨z,rfl⟩
 have γ:=lS (ds:=N.ins) λx O=>mem x (pT _ (pT _ O));have ν:=lS (ds:=N.sums.map (·.1)) λx O=>mem x (pT _ (p' _ O));have ι:=lS (ds:=N.sts.map (·.1)) λx O=>mem x (p' _ O);have Y:=d.i;have ψ:=d.sn;have ζ:=d.tn;rw[γ] at Y;rw[ν] at ψ;rw[ι] at ζ;obtain⟨rv,β,θ⟩:=yO ψ.strs;obtain⟨qv,υ,η⟩:=vv ζ.strs
 have τ:N.nms=(N.ins.map dStr++rv.map (·.2.2.1)++qv.map (·.2.1)).map Dt.str:=by
  rw[hh,hh,θ,η,<-γ,<-ν,<-ι];rfl
 have ρ:zs=N.ins.map dStr++rv.map (·.2.2.1)++qv.map (·.2.1):=by
  have:=K' (OW dStr) (e.symm.trans τ);rw[jD,jD] at this;exact this
 have ξ:=d.sn.1;have δ:=d.tn.1;rw[ak,ak] at ξ δ;rw[β,ak] at ξ;rw[υ,ak] at δ;unfold iZ at hm;simp only[S2,Sb] at hm;obtain⟨⟨⟨⟨h1,h2⟩,h3⟩,ε⟩,χ⟩:=hm;refine⟨N.ins.map dStr,rv,qv,Y.strs,β,υ,⟨by rw[ak];omega,by rw[ak];omega,by rw[ak];omega,?_,λr φ=>?_,?_,?_⟩,τ⟩
 ·have:=d.o.1;show os.length<=6;omega
 ·obtain⟨r',α,rfl⟩:=mw.mp φ;obtain⟨k,hk,ω⟩:=M9.mp α;have O:N.sums[k]? =ag N.sums[k]:=c' @A;have π:=(d.sw k (toR r') N.sums[k] (by rw[β,hH,c' hk,ω];rfl) O).1;have:=QJ.mp χ _ (hA O);simp only[wh] at this;have π:r'.2.2.2.length=N.sums[k].2.length:=π;show r'.2.2.2.length<=24;omega
 ·intro z hz;refine ο z ?_;rw[ρ];unfold Sv.Vt.names at hz;simp only[qa] at hz;exact hz
 ·have:=L;rw[ρ] at this;unfold Sv.Vt.names;simp only[qa];exact this
theorem Hh {H:Hp} {N:Nd} {ι:A6} {rv:cc Sv.Rw} {qv:cc Sv.Qs} {os:cc V} {O:A6} (δ:N.nms=(ι++rv.map (·.2.2.1)++qv.map (·.2.1)).map Dt.str) (li:ι.length=N.ins.length) (lr:rv.length=N.sums.length) (lq:qv.length=N.sts.length)
  (sw:∀(i:Nat) (r:Sv.Rw) x,rv[i]? =ag r->N.sums[i]? =ag x->TgL H r.2.2.2 x.2) (tw:TgL H (qv.map (·.2.2)) (N.sts.map (·.2))) (to:TgL H os N.outs) (χ:wrsF N.wrs O=gs):
  (⟨ι,rv.map (·.2.2),qv.map (·.2),os⟩:Sv.Vt)=toV N.nt/\(∀r∈N.nt.sums,∀z∈r.2,z∈O)/\(∀r∈N.nt.sts,r.2∈O)/\∀z∈N.nt.outs,z∈O:=by
 obtain⟨zs,e,hz⟩:=uQ χ;have mem:∀x∈N.wrs,∃z,x=Dt.str z/\z∈O:=λx Y=>by rw[e] at Y;obtain⟨z,m,rfl⟩:=mw.mp Y;exact⟨z,rfl,hz z m⟩
 have φ:∀r∈N.sums,∀x∈r.2,∃z,x=Dt.str z/\z∈O:=λr ζ x Y=>mem x (pT _ (pT _ (List.mem_flatMap.mpr ⟨r,ζ,Y⟩)));have υ:∀x∈N.sts.map (·.2),∃z,x=Dt.str z/\z∈O:=λx Y=>mem x (pT _ (p' _ Y));have τ:∀x∈N.outs,∃z,x=Dt.str z/\z∈O:=λx Y=>mem x (p' _ Y);have ο:N.nms=N.ins++N.sums.map (·.1)++N.sts.map (·.1):=rfl;rw[ο,hh,hh] at δ;obtain⟨η,π⟩:=SK δ (by simp[li,lr]);obtain⟨θ,ρ⟩:=SK η (by simp[li]);refine⟨?_,λr ζ z Z=>?_,λr ζ=>?_,λz Z=>?_⟩
 ·have ω:ι=N.ins.map dStr:=by rw[θ,jD]
  have ψ:rv.map (·.2.2)=N.rows.map λr=>(r.1,r.2.map V.str):=by
   apply OC;intro k;by_cases hk:k < rv.length
   ·have α:k < N.sums.length:=by omega
    have β:rv[k]? =ag rv[k]:=c' hk;have ε:N.sums[k]? =ag N.sums[k]:=c' α;unfold Nd.rows;rw[hH,hH,hH,β,ε];have t:=sw k _ _ β ε;have hs:=lS (ds:=N.sums[k].2) λx Y=>(φ _ (hA ε) x Y).imp λ_ h=>h.1;rw[hs] at t
    have n1:N.sums[k].1=Dt.str rv[k].2.2.1:=by
     have:=K' (λl=>l[k]?) ρ;simp only[hH,β,ε,QQ] at this;exact ui this
    have n2:=t.strs;show ag (rv[k].2.2)=ag (dStr N.sums[k].1,(N.sums[k].2.map dStr).map V.str);rw[n1,<-n2];rfl
   ·rw[M' (by rw[ak];omega),M' (by unfold Nd.rows;rw[ak,ak];omega)]
  have L:qv.map (·.2)=(N.sts.map λr=>(dStr r.1,dStr r.2)).map λr=>(r.1,V.str r.2):=by
   have hs:=lS (ds:=N.sts.map (·.2)) λx Y=>(υ x Y).imp λ_ h=>h.1;rw[hs] at tw;have tw:=tw.strs;apply OC;intro k;by_cases hk:k < qv.length
   ·have α:k < N.sts.length:=by omega
    have β:qv[k]? =ag qv[k]:=c' hk;have ε:N.sts[k]? =ag N.sts[k]:=c' α;rw[hH,hH,hH,β,ε]
    have n1:N.sts[k].1=Dt.str qv[k].2.1:=by
     have:=K' (λl=>l[k]?) π;simp only[hH,β,ε,QQ] at this;exact ui this
    have n2:qv[k].2.2=V.str (dStr N.sts[k].2):=by
     have:=K' (λl=>l[k]?) tw;simp only[hH,β,ε,QQ] at this;exact ui this
    show ag (qv[k].2)=ag (dStr N.sts[k].1,V.str (dStr N.sts[k].2));rw[n1,<-n2];rfl
   ·rw[M' (by rw[ak];omega),M' (by rw[ak,ak];omega)]
  have ξ:os=(N.outs.map dStr).map V.str:=by
   have hs:=lS (ds:=N.outs) λx Y=>(τ x Y).imp λ_ h=>h.1;rw[hs] at to;exact to.strs
  unfold toV Nd.nt;rw[ω,ψ,L,ξ]
 ·obtain⟨ν,γ,rfl⟩:=mw.mp (show r∈N.sums.map _ from ζ);obtain⟨x,Y,rfl⟩:=mw.mp Z;obtain⟨z,rfl,k⟩:=φ ν γ x Y;exact k
 ·obtain⟨ν,γ,rfl⟩:=mw.mp (show r∈N.sts.map _ from ζ);obtain⟨z,e,k⟩:=υ ν.2 (mw.mpr ⟨ν,γ,rfl⟩);show dStr ν.2∈O;rw[e];exact k
 ·obtain⟨x,Y,rfl⟩:=mw.mp (show z∈N.outs.map dStr from Z);obtain⟨z,rfl,k⟩:=τ x Y;exact k
theorem wQ {α β:Type} {f:α->N1} {g:β->N1}:∀{xs:cc α} {ys:cc β},xs.length=ys.length->(∀(k:Nat) x y,xs[k]? =ag x->ys[k]? =ag y->f x=g y)->xs.any f=ys.any g
 | [],[],_,_=>rfl
 | [],_::_,h,_=>by cases h
 | _::_,[],h,_=>by cases h
 | x::xs,y::ys,h,k=>by
   rw[P3,P3,k 0 x y rfl rfl,wQ (Ol h) λn a b h1 h2=>k (n + 1) a b h1 h2]
theorem ux {N:Nd} (h:iZ N=true):dueF N=ag .many:=by unfold dueF;rw[kn h]
theorem pI {N:Nd} {f:Ft} (h:iZ N=false) (h2:nmsF N.nms []=ag f):dueF N=ag f:=by unfold dueF;rw[hQ (by rw[h];exact hV),h2];rfl
theorem uw {N:Nd} {f:Ft} (h:iZ N=false) (h2:nmsF N.nms []=gs) (h3:wrsF N.wrs (N.nms.map dStr)=ag f):dueF N=ag f:=by unfold dueF;rw[hQ (by rw[h];exact hV),h2,h3];rfl
theorem y6 {N:Nd} (h:iZ N=false) (h2:nmsF N.nms []=gs) (h3:wrsF N.wrs (N.nms.map dStr)=gs) (r:yz N.rows):dueF N=ag .ring:=by unfold dueF;rw[hQ (by rw[h];exact hV),h2,h3,kn r];rfl
theorem y8 {N:Nd} (h:iZ N=false) (h2:nmsF N.nms []=gs) (h3:wrsF N.wrs (N.nms.map dStr)=gs) (r:¬yz N.rows):dueF N=none:=by unfold dueF;rw[hQ (by rw[h];exact hV),h2,h3,hQ r];rfl
def Hb (sums:cc (ic×cc ic)) (L:A6):Prop:=∀r∈sums,r.1∈L->∃w∈r.2,w∈L
structure Peel (sums:cc (ic×cc ic)) (L:A6):Prop where
 nd:L.Nodup
 sub:∀z∈L,z∈sums.map (·.1)
 all:∀S:A6,(∀z∈S,∃ws,(z,ws)∈sums/\∃w∈ws,w∈S)->∀z∈S,z∈L
theorem Peel.start {sums:cc (ic×cc ic)} (nd:(sums.map (·.1)).Nodup):Peel sums (sums.map (·.1)):=⟨nd,λ_ h=>h,λS h z hz=>by obtain⟨ws,h1,_⟩:=h z hz;exact mw.mpr ⟨_,h1,rfl⟩⟩
theorem IQ {sums:cc (ic×cc ic)} (nd:(sums.map (·.1)).Nodup) {z:ic} {a b:A6} (h1:(z,a)∈sums) (h2:(z,b)∈sums):a=b:=by
 induction sums with
 | nil=>simp at h1
 | cons r rs ih=>
   rw[MU,Ov] at nd;rcases v9.mp h1 with e1 | e1<;>rcases v9.mp h2 with e2 | e2
   ·rw[<-e1] at e2;exact(SQ e2).2.symm
   ·exact ik (mw.mpr ⟨_,e2,by rw[<-e1]⟩) nd.1
   ·exact ik (mw.mpr ⟨_,e1,by rw[<-e2]⟩) nd.1
   ·exact ih nd.2 e1 e2
theorem G1 {L:A6} {z:ic} {j:Nat} (Z:L[j]? =ag z) (nd:L.Nodup):∀y,y∈L.eraseIdx j↔y∈L/\y≠z:=by
 intro y;obtain⟨hl,e⟩:=b'.mp Z;rw[List.mem_eraseIdx_iff_getElem];constructor
 ·rintro⟨i,hi,Y,rfl⟩;refine⟨Ny hi,λO=>Y ?_⟩;rw[<-e] at O;have α:=nd.idxOf_getElem i hi;have ο:=nd.idxOf_getElem j hl;rw[O] at α;omega
 ·rintro⟨h1,h2⟩;obtain⟨i,hi,rfl⟩:=M9.mp h1;exact⟨i,hi,λO=>h2 (by subst O;exact e),rfl⟩
theorem Peel.off {sums:cc (ic×cc ic)} {L:A6} {z:ic} {ws:A6} {j:Nat} (p:Peel sums L) (nd:(sums.map (·.1)).Nodup) (hr:(z,ws)∈sums) (Y:L[j]? =ag z) (hn:∀w∈ws,w∉L):Peel sums (L.eraseIdx j):=by
 have mem:=G1 Y p.nd;refine⟨p.nd.sublist (List.eraseIdx_sublist _ _),λy O=>p.sub y ((mem y).mp O).1,λS h y O=>(mem y).mpr ⟨p.all S h y O,λe=>?_⟩⟩;subst e;obtain⟨ν,h1,w,h2,Z⟩:=h y O;rw[IQ nd h1 hr] at h2;exact hn w h2 (p.all S h w Z)
theorem Peel.ring {sums:cc (ic×cc ic)} {L:A6} (p:Peel sums L) (h:Hb sums L∨L=[]):L≠[]↔yz sums:=by
 constructor
 ·intro Y;have st:=h.resolve_right Y;refine⟨L,Y,λz hz=>?_⟩;obtain⟨r,O,rfl⟩:=mw.mp (p.sub z hz);exact⟨r.2,O,st r O hz⟩
 ·rintro⟨S,Y,h⟩ e;cases S with
  | nil=>exact Y rfl
  | cons z S=>
    have:=p.all _ h z ox;rw[e] at this;simp at this
theorem JE (ds:cc Dt):eqD (.lst ds) (.lst [])=decide (ds=[]):=by
 cases ds with
 | nil=>rfl
 | cons w l=>rw[fy @F];rfl
theorem uy {k:Nat}:∀{ds:cc Dt},(∀d∈ds,depD d<=k)->dH ds<=k
 | [],_=>by rw[dH];exact N2 _
 | d::ds,h=>by
   rw[dH];have h1:=h d ox;have h2:=uy λx L=>h x (px d L);omega
theorem DC {K:a'} {H:Hp}:∀{vs:cc V},(∀v∈vs,∃d,Rep K H v d/\depD d<=9)->∃ds:cc Dt,vs.length=ds.length/\(∀(i:Nat) v d,vs[i]? =ag v->ds[i]? =ag d->Rep K H v d)/\∀d∈ds,depD d<=9
 | [],_=>⟨[],rfl,λi v d h=>by simp at h,λ_ h=>ik h @F⟩
 | v::vs,h=>by
   obtain⟨d,h1,h2⟩:=h v ox;obtain⟨ds,α,ο,L⟩:=DC λx Z=>h x (px v Z);refine⟨d::ds,by rw[y1,y1,α],λi x y Y O=>?_,λy hy=>?_⟩
   ·match i,Y,O with
    | 0,Y,O=>cases Y;cases O;exact h1
    | i + 1,Y,O=>exact ο i x y Y O
   ·rcases v9.mp hy with rfl | hy
    ·exact h2
    ·exact L y hy
theorem mM {K:a'} {H:Hp} {Q:VK} {D E:eH} {vs:cc V} {neg:N1} (e:H D=ag (.lst vs)) (h:∀v∈vs,∃d,Rep K H v d/\depD d<=9) (e':H E=ag (.lst [])) (q:Q (.bl (if neg then !vs.isEmpty else vs.isEmpty)) H):rEqD K neg (.ref D) (.ref E) H Q:=by
 obtain⟨ds,O,ο,L⟩:=DC h;have:=uy L;refine lZ (.lst (SqL.of e) O ο) (Rep.lst (ds:=[]) (SqL.of e') rfl λi x d h=>by simp at h) (by rw[depD];omega) ?_;rw[JE]
 have Y:decide (ds=[])=vs.isEmpty:=by
  cases vs<;>cases ds<;>simp at O ⊢
 rw[Y];exact q
theorem yP {K:a'} {H:Hp} {t:eH} {v w:V} (h:H t=ag (.tup [v,w])) (Y:∃d,Rep K H v d/\depD d<=8) (υ:∃d,Rep K H w d/\depD d<=8):∃d,Rep K H (.ref t) d/\depD d<=9:=by
 obtain⟨d,α,ο⟩:=Y;obtain⟨e,Z,β⟩:=υ;refine⟨.tup [d,e],.tup (SqT.of h) rfl λi x y L O=>?_,?_⟩
 ·match i,L,O with
  | 0,L,O=>cases L;cases O;exact α
  | 1,L,O=>cases L;cases O;exact Z
  | i + 2,L,_=>simp at L
 ·rw[depD,dH,dH,dH];omega
theorem IT {K:a'} {H:Hp} {D:eH} {vs:cc V} {ds:cc Dt} (e:H D=ag (.lst vs)) (t:TgL H vs ds):∃d,Rep K H (.ref D) d/\depD d<=8:=by
 have L:∀d∈ds,depD d<=1:=λd hd=>by
  obtain⟨i,hi,rfl⟩:=M9.mp hd;have ρ:i < vs.length:=by rw[t.1];exact hi
  exact((t.2 i vs[i] ds[i] (c' ρ) (c' hi)).rep (K:=K)).2
 exact⟨.lst ds,.lst (SqL.of e) t.1 λi x d h1 h2=>((t.2 i x d h1 h2).rep (K:=K)).1,by rw[depD];have:=uy L;omega⟩
theorem Tg.rep8 {K:a'} {H:Hp} {v:V} {d:Dt} (t:Tg H v d):∃d,Rep K H v d/\depD d<=8:=⟨d,t.rep.1,by have:=(t.rep (K:=K)).2;omega⟩
structure HndL (H:Hp) (i s t o:eH) (is:cc V) (rs:cc RwT) (qs:cc QsT) (os:cc V):Prop where
 i:H i=ag (.lst is)
 s:H s=ag (.lst (rs.map λr=>V.ref r.1))
 sr:∀r∈rs,H r.1=ag (.tup [r.2.2.1,.ref r.2.1])/\H r.2.1=ag (.lst r.2.2.2)
 t:H t=ag (.lst (qs.map λq=>V.ref q.1))
 tr:∀q∈qs,H q.1=ag (.tup [q.2.1,q.2.2])
 o:H o=ag (.lst os)
theorem HndL.same {H H2:Hp} {i s t o:eH} {is:cc V} {rs:cc RwT} {qs:cc QsT} {os:cc V} (x:HndL H i s t o is rs qs os) (h:Same H H2):HndL H2 i s t o is rs qs os:=⟨h.get x.i,h.get x.s,λr m=>⟨h.get (x.sr r m).1,h.get (x.sr r m).2⟩,h.get x.t,λq m=>h.get (x.tr q m),h.get x.o⟩
theorem TgL.flat {H:Hp} {rs:cc RwT} {xs:cc (Dt×cc Dt)} (hl:rs.length=xs.length) (h:∀(i:Nat) (r:RwT) (x:Dt×cc Dt),rs[i]? =ag r->xs[i]? =ag x->TgL H r.2.2.2 x.2):TgL H (rs.map (·.2.2.2)).flatten (xs.flatMap (·.2)):=by
 induction rs generalizing xs with
 | nil=>
   cases xs with
   | nil=>exact TgL.nil H
   | cons x xs=>cases hl
 | cons r rs ih=>
   cases xs with
   | nil=>cases hl
   | cons x xs=>
     rw[MU,NW,List.flatMap_cons];exact(h 0 r x rfl rfl).app (ih (Ol hl) λi r' L a b=>h (i + 1) r' L a b)
theorem GO {H:Hp} {is:cc V} {rs:cc RwT} {qs:cc QsT} {os:cc V} {N:Nd} (d:DatT H is rs qs os N):iZ N=(decide (6 < is.length)||decide (40 < rs.length)||decide (16 < qs.length)||decide (6 < os.length)||rs.any λr=>decide (24 < r.2.2.2.length)):=by
 have ο:=d.i.1;have L:rs.length=N.sums.length:=by have:=d.sn.1;rw[ak,ak] at this;exact this
 have O:qs.length=N.sts.length:=by have:=d.tn.1;rw[ak,ak] at this;exact this
 have τ:=d.o.1;unfold iZ;rw[ο,L,O,τ];congr 1;exact(wQ L λk r x h1 h2=>by rw[(d.sw k r x h1 h2).1]).symm
theorem uo:∀{rs:cc RwT},(∀r∈rs,r.2.2.2.length<=24)->(rs.map (·.2.2.2)).flatten.length<=24 * rs.length
 | [],_=>by simp
 | r::rs,h=>by
   have h1:=h r ox;have h2:=uo λx L=>h x (px r L);rw[MU,NW,hE,y1];omega
theorem yN {H:Hp} {i s t o:eH} {is:cc V} {rs:cc RwT} {qs:cc QsT} {os:cc V} {N:Nd} (hn:HndL H i s t o is rs qs os) (d:DatT H is rs qs os N) (hm:iZ N=false) (h2:nmsF N.nms []=gs) (h3:wrsF N.wrs (N.nms.map dStr)=gs):
  ∃(O:cc Rw) (β:cc Qs),rs=O.map (λr=>(r.1,r.2.1,V.str r.2.2.1,r.2.2.2.map V.str))/\qs=β.map (λq=>(q.1,V.str q.2.1,V.str q.2.2))/\is=N.nt.ins.map V.str/\os=N.nt.outs.map V.str/\O.map (·.2.2)=N.rows/\β.map (·.2)=N.nt.sts/\Ro N.rows/\Sv.Gv (toV N.nt)/\(∀r∈N.nt.sums,∀z∈r.2,z∈N.nt.names)/\(∀r∈N.nt.sts,r.2∈N.nt.names)/\∀z∈N.nt.outs,z∈N.nt.names:=by
 obtain⟨τ,rv,qv,rfl,rfl,rfl,g,δ⟩:=J0 d hm h2;have li:=d.i.1;have lr:=d.sn.1;have Y:=d.tn.1;rw[ak] at li;rw[ak,ak,ak] at lr Y;obtain⟨L,kw,Z,γ⟩:=Hh (H:=H) (rv:=rv) (qv:=qv) δ li lr Y (λk r x a b=>d.sw k (toR r) x (by rw[hH,a];rfl) b) (by have:=d.tw;rw[qa] at this;exact this) d.o h3
 have ι:N.nms.map dStr=N.nt.names:=by
  rw[δ,jD,<-gU,<-L];unfold Sv.Vt.names;simp only[qa];rfl
 rw[ι] at kw Z γ;have α:=L;rw[L] at g;injection L with η π ζ ε
 obtain⟨O,ρ,ο⟩:=xy π;obtain⟨β,ξ,ν⟩:=tO ζ;have χ:=g.nd;rw[gU] at χ;unfold Nt.names at χ;rw[NU] at χ;have χ:=χ.1;rw[NU] at χ;refine⟨O,β,?_,?_,by rw[η],ε,ο,ν,⟨?_,λr θ=>?_,χ.2.1⟩,g,kw,Z,γ⟩
 ·rw[ρ,qa];rfl
 ·rw[ξ,qa];rfl
 ·have:=g.ls;unfold toV at this;rw[ak] at this;exact this
 ·have:=g.lw (r.1,r.2.map V.str) (mw.mpr ⟨r,θ,rfl⟩);rw[ak] at this;exact this
noncomputable def R4 (i s t o:eH):eH->Prop:=λb=>b=i∨b=s∨b=t∨b=o
theorem di {H H2:Hp} {R:eH->Prop} (s:Same H H2):Same (less H R) (less H2 R):=λb o e=>by
 by_cases h:R b
 ·rw[tZ h] at e;cases e
 ·rw[eS h] at e ⊢;exact s.get e
theorem d9 {H H2:Hp} {R:eH->Prop} {x:eH} {ob:HO} (u:Upd H H2 x ob) (hx:R x):Same (less H R) (less H2 R):=λb o e=>by
 by_cases h:R b
 ·rw[tZ h] at e;cases e
 ·rw[eS h] at e ⊢;exact u.oth _ _ (λz=>h (z ▸ hx)) e
def Th (B:Hp) (v:V):Prop:=∃d,Tg B v d
theorem Th.same {B γ:Hp} {v:V} (t:Th B v) (s:Same B γ):Th γ v:=t.imp λ_ h=>h.same s
theorem Th.s {B:Hp} {z:ic} (l:z.length<=1000):Th B (.str z):=⟨_,.str z l⟩
structure LsA (H:Hp) (i s t o:eH) (is:cc V) (rs:cc RwT) (qs:cc QsT) (os:cc V):Prop where
 ei:H i=ag (.lst is)
 es:H s=ag (.lst (rs.map λr=>V.ref r.1))
 et:H t=ag (.lst (qs.map λq=>V.ref q.1))
 eo:H o=ag (.lst os)
 sr:∀r∈rs,less H (R4 i s t o) r.1=ag (.tup [r.2.2.1,.ref r.2.1])/\less H (R4 i s t o) r.2.1=ag (.lst r.2.2.2)
 tr:∀q∈qs,less H (R4 i s t o) q.1=ag (.tup [q.2.1,q.2.2])
 ti:∀v∈is,Th (less H (R4 i s t o)) v
 tn:∀r∈rs,Th (less H (R4 i s t o)) r.2.2.1
 tw:∀r∈rs,∀w∈r.2.2.2,Th (less H (R4 i s t o)) w
 tm:∀q∈qs,Th (less H (R4 i s t o)) q.2.1
 ty:∀q∈qs,Th (less H (R4 i s t o)) q.2.2
 to:∀v∈os,Th (less H (R4 i s t o)) v
 n1:i≠s
 n2:i≠t
 n3:i≠o
 n4:s≠t
 n5:s≠o
 n6:t≠o
theorem LsA.same {H H2:Hp} {i s t o:eH} {is:cc V} {rs:cc RwT} {qs:cc QsT} {os:cc V} (x:LsA H i s t o is rs qs os) (h:Same H H2):LsA H2 i s t o is rs qs os:=
 have b:=di (R:=R4 i s t o) h
 ⟨h.get x.ei,h.get x.es,h.get x.et,h.get x.eo,λr m=>⟨b.get (x.sr r m).1,b.get (x.sr r m).2⟩,λq m=>b.get (x.tr q m),λv m=>(x.ti v m).same b,λr m=>(x.tn r m).same b,λr m w Z=>(x.tw r m w Z).same b,λq m=>(x.tm q m).same b,λq m=>(x.ty q m).same b,λv m=>(x.to v m).same b,x.n1,x.n2,x.n3,x.n4,x.n5,x.n6⟩
theorem LsA.hndL {H:Hp} {i s t o:eH} {is:cc V} {rs:cc RwT} {qs:cc QsT} {os:cc V} (x:LsA H i s t o is rs qs os):HndL H i s t o is rs qs os:=
 ⟨x.ei,x.es,λr m=>⟨eR.get (x.sr r m).1,eR.get (x.sr r m).2⟩,x.et,λq m=>eR.get (x.tr q m),x.eo⟩
theorem LsA.setI {H H2:Hp} {i s t o:eH} {is L:cc V} {rs:cc RwT} {qs:cc QsT} {os:cc V} (x:LsA H i s t o is rs qs os) (u:Upd H H2 i (.lst L)) (h:∀v∈L,Th (less H (R4 i s t o)) v):LsA H2 i s t o L rs qs os:=
 have b:=d9 (R:=R4 i s t o) u (.inl rfl)
 ⟨u.at',u.oth _ _ (J5 x.n1) x.es,u.oth _ _ (J5 x.n2) x.et,u.oth _ _ (J5 x.n3) x.eo,λr m=>⟨b.get (x.sr r m).1,b.get (x.sr r m).2⟩,λq m=>b.get (x.tr q m),λv m=>(h v m).same b,λr m=>(x.tn r m).same b,λr m w Z=>(x.tw r m w Z).same b,λq m=>(x.tm q m).same b,λq m=>(x.ty q m).same b,λv m=>(x.to v m).same b,x.n1,x.n2,x.n3,x.n4,x.n5,x.n6⟩
theorem LsA.setS {H H2:Hp} {i s t o:eH} {is:cc V} {rs rs':cc RwT} {qs:cc QsT} {os:cc V} (x:LsA H i s t o is rs qs os) (u:Upd H H2 s (.lst (rs'.map λr=>V.ref r.1)))
  (h:∀r∈rs',r∈rs∨(less H (R4 i s t o) r.1=ag (.tup [r.2.2.1,.ref r.2.1])/\less H (R4 i s t o) r.2.1=ag (.lst r.2.2.2)/\Th (less H (R4 i s t o)) r.2.2.1/\∀w∈r.2.2.2,Th (less H (R4 i s t o)) w)):LsA H2 i s t o is rs' qs os:=
 have b:=d9 (R:=R4 i s t o) u (.inr (.inl rfl));have h':∀r∈rs',less H (R4 i s t o) r.1=ag (.tup [r.2.2.1,.ref r.2.1])/\less H (R4 i s t o) r.2.1=ag (.lst r.2.2.2)/\Th (less H (R4 i s t o)) r.2.2.1/\∀w∈r.2.2.2,Th (less H (R4 i s t o)) w:=λr m=>(h r m).elim (fun η=>⟨(x.sr r η).1,(x.sr r η).2,x.tn r η,x.tw r η⟩) id
 ⟨u.oth _ _ x.n1 x.ei,u.at',u.oth _ _ (J5 x.n4) x.et,u.oth _ _ (J5 x.n5) x.eo,λr m=>⟨b.get (h' r m).1,b.get (h' r m).2.1⟩,λq m=>b.get (x.tr q m),λv m=>(x.ti v m).same b,λr m=>(h' r m).2.2.1.same b,λr m w Z=>((h' r m).2.2.2 w Z).same b,λq m=>(x.tm q m).same b,λq m=>(x.ty q m).same b,λv m=>(x.to v m).same b,x.n1,x.n2,x.n3,x.n4,x.n5,x.n6⟩
theorem LsA.setT {H H2:Hp} {i s t o:eH} {is:cc V} {rs:cc RwT} {qs qs':cc QsT} {os:cc V} (x:LsA H i s t o is rs qs os) (u:Upd H H2 t (.lst (qs'.map λr=>V.ref r.1)))
  (h:∀r∈qs',r∈qs∨(less H (R4 i s t o) r.1=ag (.tup [r.2.1,r.2.2])/\Th (less H (R4 i s t o)) r.2.1/\Th (less H (R4 i s t o)) r.2.2)):LsA H2 i s t o is rs qs' os:=
 have b:=d9 (R:=R4 i s t o) u (.inr (.inr (.inl rfl)));have h':∀r∈qs',less H (R4 i s t o) r.1=ag (.tup [r.2.1,r.2.2])/\Th (less H (R4 i s t o)) r.2.1/\Th (less H (R4 i s t o)) r.2.2:=λr m=>(h r m).elim (fun η=>⟨x.tr r η,x.tm r η,x.ty r η⟩) id
 ⟨u.oth _ _ x.n2 x.ei,u.oth _ _ x.n4 x.es,u.at',u.oth _ _ (J5 x.n6) x.eo,λr m=>⟨b.get (x.sr r m).1,b.get (x.sr r m).2⟩,λq m=>b.get (h' q m).1,λv m=>(x.ti v m).same b,λr m=>(x.tn r m).same b,λr m w Z=>(x.tw r m w Z).same b,λq m=>(h' q m).2.1.same b,λq m=>(h' q m).2.2.same b,λv m=>(x.to v m).same b,x.n1,x.n2,x.n3,x.n4,x.n5,x.n6⟩
theorem LsA.setO {H H2:Hp} {i s t o:eH} {is:cc V} {rs:cc RwT} {qs:cc QsT} {os ι:cc V} (x:LsA H i s t o is rs qs os) (u:Upd H H2 o (.lst ι)) (h:∀v∈ι,Th (less H (R4 i s t o)) v):LsA H2 i s t o is rs qs ι:=
 have b:=d9 (R:=R4 i s t o) u (.inr (.inr (.inr rfl)))
 ⟨u.oth _ _ x.n3 x.ei,u.oth _ _ x.n5 x.es,u.oth _ _ x.n6 x.et,u.at',λr m=>⟨b.get (x.sr r m).1,b.get (x.sr r m).2⟩,λq m=>b.get (x.tr q m),λv m=>(x.ti v m).same b,λr m=>(x.tn r m).same b,λr m w Z=>(x.tw r m w Z).same b,λq m=>(x.tm q m).same b,λq m=>(x.ty q m).same b,λv m=>(h v m).same b,x.n1,x.n2,x.n3,x.n4,x.n5,x.n6⟩
variable {H H2:Hp} {i s t o:eH} {is:cc V} {rs:cc RwT} {qs:cc QsT} {os:cc V}
theorem LsA.r4 (x:LsA H i s t o is rs qs os) {b:eH} (h:R4 i s t o b):∃xs,H b=ag (.lst xs):=by
 rcases h with rfl | rfl | rfl | rfl
 ·exact⟨_,x.ei⟩
 ·exact⟨_,x.es⟩
 ·exact⟨_,x.et⟩
 ·exact⟨_,x.eo⟩
theorem LsA.fresh (x:LsA H i s t o is rs qs os) {b:eH} (h:H b=gs):¬R4 i s t o b:=λr=>by
 obtain⟨xs,e⟩:=x.r4 r;rw[h] at e;cases e
theorem LsA.addI {H6 H7:Hp} {ys:cc V} (x:LsA H i s t o is rs qs os) (L:Same H H6) (hy:∀w∈ys,∃y:ic,w= .str y/\y.length<=1000) (u:Upd H6 H7 i (.lst (is++ys))):LsA H7 i s t o (is++ys) rs qs os/\Same (less H (R4 i s t o)) (less H7 (R4 i s t o)):=by
 refine⟨(x.same L).setI u λv hv=>?_,(di L).trans (d9 u (.inl rfl))⟩;rcases lx.mp hv with hv | hv
 ·exact(x.same L).ti v hv
 ·obtain⟨y,rfl,h⟩:=hy v hv;exact Th.s h
theorem LsA.addO {H6 H7:Hp} {ys:cc V} (x:LsA H i s t o is rs qs os) (L:Same H H6) (hy:∀w∈ys,Th (less H (R4 i s t o)) w) (u:Upd H6 H7 o (.lst (os++ys))):LsA H7 i s t o is rs qs (os++ys)/\Same (less H (R4 i s t o)) (less H7 (R4 i s t o)):=by
 refine⟨(x.same L).setO u λv hv=>?_,(di L).trans (d9 u (.inr (.inr (.inr rfl))))⟩;rcases lx.mp hv with hv | hv
 ·exact(x.same L).to v hv
 ·exact(hy v hv).same (di L)
theorem ki {α:Type} {l:cc α} {j:Nat} (h:j < l.length):∃r,l[j]? =ag r/\r∈l:=⟨l[j],c' h,Ny h⟩
theorem rA (x y:ic):(x++y).length=x.length + y.length:=by
 have h:(x++y).cps.toList=x.cps.toList++y.cps.toList:=by show(x.cps++y.cps).toList=_;simp
 rw[<-cM,h,hE,cM,cM]
theorem G0 {α:Type} (n:Nat) (v:α):(z1 n [v]).flatten=z1 n v:=by
 induction n with
 | zero=>rfl
 | succ n ih=>rw[Oa,NW,ih];rfl
theorem vC:∀{ds:cc Dt} {L:A6} {f:Ft},nmsF ds L=ag f->f≠.ring
 | [],_,_,h=>by cases h
 | .str z::ds,L,f,h=>by
   unfold nmsF at h;by_cases h1:nm z.cps.toList=true
   ·rw[kn h1] at h;by_cases h2:z∈L
    ·rw[kn h2] at h;cases h;exactλe=>by cases e
    ·rw[hQ h2] at h;exact vC h
   ·rw[hQ h1] at h;cases h;exactλe=>by cases e
 | .non::_,_,_,h=>by cases h;exactλe=>by cases e
 | .bl _::_,_,_,h=>by cases h;exactλe=>by cases e
 | .int _::_,_,_,h=>by cases h;exactλe=>by cases e
 | .lst _::_,_,_,h=>by cases h;exactλe=>by cases e
 | .tup _::_,_,_,h=>by cases h;exactλe=>by cases e
theorem JF {N:Nd} (h:dueF N=gs∨dueF N=ag .ring):iZ N=false/\nmsF N.nms []=gs/\wrsF N.wrs (N.nms.map dStr)=none:=by
 have hm:iZ N=false:=by
  cases e:iZ N with
  | false=>rfl
  | true=>rw[ux e] at h;rcases h with h | h<;>cases h
 have hn:nmsF N.nms []=none:=by
  cases e:nmsF N.nms [] with
  | none=>rfl
  | some f=>
    rw[pI hm e] at h;rcases h with h | h
    ·cases h
    ·cases h;exact ik rfl (vC e)
 refine⟨hm,hn,?_⟩;cases e:wrsF N.wrs (N.nms.map dStr) with
 | none=>rfl
 | some f=>
   rw[uw hm hn e] at h;obtain⟨d,rfl⟩:=yF e;rcases h with h | h<;>cases h
theorem MB {z:ic} (h:Nm z):z.length<=1000:=by
 have h:nm z.cps.toList=true:=h;rw[<-cM];cases hl:z.cps.toList with
 | nil=>exact N2 _
 | cons c r=>
   rw[hl] at h;unfold nm at h;simp only[wb,wh] at h;have:=h.1.1;omega
theorem HndL.hnd {H:Hp} {i s t o:eH} {is:cc V} {rs:cc RwT} {qs:cc QsT} {os:cc V} {N:Nd} (hn:HndL H i s t o is rs qs os) (d:DatT H is rs qs os N) (h:iZ N=false/\nmsF N.nms []=gs/\wrsF N.wrs (N.nms.map dStr)=gs):
  ∃(L:cc Rw) (β:cc Qs),Hnd H i s t o L β N.nt/\Ro N.rows:=by
 obtain⟨L,β,rfl,rfl,rfl,rfl,α,Z,φ,_⟩:=yN hn d h.1 h.2.1 h.2.2;refine⟨L,β,⟨hn.i,by have:=hn.s;rw[qa] at this;exact this,λr O=>hn.sr _ (mw.mpr ⟨r,O,rfl⟩),α,by have:=hn.t;rw[qa] at this;exact this,λq Y=>hn.tr _ (mw.mpr ⟨q,Y,rfl⟩),Z,hn.o⟩,φ⟩
theorem zj {n:Nat} (h:n<=1000000):n < sizeLine:=QB h @C
def uZ (K:a'):Sp:=λvs H Q _=>∃x k,vs=[x]/\r8 K H x k/\(∀z,x= .str z->z.length<=1000000)/\∀H',Same H H'->Q (.bl (AH x)) H'
noncomputable def nmB (z:ic):Bool:=nm z.cps.toList
inductive F6:A6->Prop where
 | i (z:ic) (h:nmB z=true):F6 ["in",z]
 | o (z:ic) (h:nmB z=true):F6 ["out",z]
 | s (z:ic) (ws:A6) (h:nmB z=true) (hw:∀w∈ws,nmB w=true):F6 ("sum"::z::"="::ws)
 | t (z y:ic) (h:nmB z=true) (hy:nmB y=true):F6 ["store",z,"=",y]
noncomputable def cf (r:A6):Bool:=
 if r.getD 0 ""="in"∨r.getD 0 ""="out" then decide (r.length=2)&&nmB (r.getD 1 "")
 else if r.getD 0 ""≠"sum"/\r.getD 0 ""≠"store" then false
 else if r.length < 3 then false else if r.getD 2 ""≠"=" then false
 else if r.getD 0 ""="store"/\r.length≠4 then false
 else nmB (r.getD 1 "")&&(r.drop 3).all nmB
theorem F6.form {r:A6} (f:F6 r):cf r=true:=by
 obtain⟨n1,n2,n3,n4,n5,n6,Z,δ,O,β,α,Y⟩:=w_ne;cases f with
 | i z h=>unfold cf;rw[kn (.inl rfl)];simp[h]
 | o z h=>unfold cf;rw[kn (.inr rfl)];simp[h]
 | s z ws h L=>
   unfold cf;rw[hQ (by rintro(e | e);exact n4 e;exact n6 e),hQ (by rintro⟨e,_⟩;exact e rfl),hQ @F,hQ (by intro e;exact e rfl),hQ (by rintro⟨e,_⟩;exact n5 e)];rw[wb,Nr];exact⟨h,L⟩
 | t z y h γ=>
   unfold cf;rw[hQ (by rintro(e | e);exact Z e;exact O e),hQ (by rintro⟨_,e⟩;exact e rfl),hQ @F,hQ (by intro e;exact e rfl),hQ (by rintro⟨_,e⟩;exact e rfl)];rw[wb,Nr];exact⟨h,λw L=>by rw[hC.mp L];exact γ⟩
theorem len2 {r:A6} (h:r.length=2):r=[r.getD 0 "",r.getD 1 ""]:=by
 match r,h with
 | [a,b],_=>rfl
theorem len4 {r:A6} (h:r.length=4):r=[r.getD 0 "",r.getD 1 "",r.getD 2 "",r.getD 3 ""]:=by
 match r,h with
 | [a,b,c,d],_=>rfl
theorem len3 {r:A6} (h:¬r.length < 3):r=r.getD 0 ""::r.getD 1 ""::r.getD 2 ""::r.drop 3:=by
 match r,h with
 | [],h=>exact ik @F h
 | [_],h=>exact ik @F h
 | [_,_],h=>exact ik @F h
 | a::b::c::d,_=>rfl
theorem yd {r:A6} (h:cf r=true):F6 r:=by
 unfold cf at h;by_cases h1:r.getD 0 ""="in"∨r.getD 0 ""="out"
 ·rw[kn h1,wb,wh] at h;rw[len2 h.1];rcases h1 with e | e
  ·rw[e];exact .i _ h.2
  ·rw[e];exact .o _ h.2
 rw[hQ h1] at h;by_cases h2:r.getD 0 ""≠"sum"/\r.getD 0 ""≠"store"
 ·rw[kn h2] at h;cases h
 rw[hQ h2] at h;by_cases Z:r.length < 3
 ·rw[kn Z] at h;cases h
 rw[hQ Z] at h;by_cases ε:r.getD 2 ""≠"="
 ·rw[kn ε] at h;cases h
 rw[hQ ε] at h;have ε:r.getD 2 ""="=":=Ob.mp ε;by_cases Y:r.getD 0 ""="store"/\r.length≠4
 ·rw[kn Y] at h;cases h
 rw[hQ Y,wb,Nr] at h;by_cases O:r.getD 0 ""="store"
 ·have L:r.length=4:=Ob.mp λe=>Y ⟨O,e⟩;have α:=len4 L;rw[α,O,ε];exact .t _ _ h.1 (h.2 _ (by rw[α];exact ox))
 ·have L:r.getD 0 ""="sum":=Ob.mp λe=>h2 ⟨e,O⟩;rw[len3 Z,L,ε];exact .s _ _ h.1 h.2
theorem Le:nmB "in"=true/\nmB "out"=true/\nmB "sum"=true/\nmB "store"=true/\nmB "="=false:=by decide +kernel
theorem cnt2 {a z:ic} (ha:nmB a=true):([a,z].filter nmB).length=2↔nmB z=true:=by
 rw[M5,kn ha,M5];cases h:nmB z<;>simp[h]
theorem cnt3 {a z:ic} {ws:A6} (ha:nmB a=true):((a::z::"="::ws).filter nmB).length=ws.length + 2↔(nmB z=true/\∀w∈ws,nmB w=true):=by
 have Y:=Le.2.2.2.2;have O:("="::ws:A6).filter nmB=ws.filter nmB:=by rw[M5,hQ (by rw[Y];decide)]
 rw[M5,kn ha,M5,O];have Z:=Nu nmB ws
 have L:(ws.filter nmB).length=ws.length↔∀w∈ws,nmB w=true:=by
  rw[List.length_filter_eq_length_iff]
 cases h:nmB z with
 | false=>simp[h];omega
 | true=>
   simp[h]
noncomputable def cj (z:ic):cc A6:=(if z="" then [] else M7 z ⟨#[10]⟩).map λr=>M7 r ⟨#[32]⟩
noncomputable def wN (rows:cc A6):ov Nat:=rows.findIdx? λr=> !cf r
noncomputable def ndR (rows:cc A6):Nd:=⟨(insR rows).map Dt.str,(sumR rows).map λr=>(Dt.str r.1,r.2.map Dt.str),(stoR rows).map λr=>(Dt.str r.1,Dt.str r.2),(outR rows).map Dt.str⟩
theorem Ec (rows:cc A6):(ndR rows).nt=netR rows:=by
 unfold Nd.nt Nd.rows ndR netR;simp only[qa];congr 1
 ·exact Py _
 ·refine(S7 λr _=>?_).trans (Py _);show(r.1,(r.2.map Dt.str).map dStr)=r;rw[jD]
 ·exact Py _
 ·exact Py _
inductive Fz where
 | line (k:Nat) | ft (f:Ft)
noncomputable def dueZ (z:ic):ov Fz:=match wN (cj z) with
 | some k=>ag (.line k)
 | none=>(dueF (ndR (cj z))).map .ft
noncomputable def FzX (υ L Y O γ CR:eH) (rows:cc (ic×cc ic)) (H2:Hp):Fz->iv->Dn->Prop
 | .line k,C,dx=>C= .ref υ/\∃a,dx=ag a/\H2 a=ag (.xd [("line",.int k)])
 | .ft f,C,dx=>FtX L Y O γ CR rows H2 f C dx
def F3 (C:eH):Sp:=λvs H Q _=>∃(p:eH) (k:Int),vs=[.ref p,.int k]/\H p=ag (ExcF p C gs)/\∀H2,ExcV H2 p C [("line",.int k)]->(∀b u,b≠p->H b=ag u->H2 b=ag u)->Q .non H2
theorem Ib {H H2:Hp} {x C:eH} {v:V} (f:H x=gs) (e:ExcV H2 x C [("line",v)]) (hk:∀b u,b≠x->H b=ag u->H2 b=ag u):∃dx,H2 x=ag (ExcF x C (ag dx))/\Same H (del H2 x)/\del H2 x dx=ag (.xd [("line",v)]):=by
 obtain⟨o,a,b⟩:=e;cases o with
 | none=>cases b
 | some d=>
   have b:H2 d=ag (.xd [("line",v)]):=b;have nd:d≠x:=λz=>by rw[z,a] at b;cases b
   exact⟨d,a,λc u L=>by rw[lC (ao L f)];exact hk c u (ao L f) L,by rw[lC nd];exact b⟩
def uX:Sp:=λvs H Q _=>∃(z:ic),vs=[.str z]/\z.length<=1000000/\∀(D:eH) (H2:Hp),H D=gs->Same H H2->H2 D=ag (.lst ((M7 z ⟨#[32]⟩).map V.str))->Q (.ref D) H2
def xk:Sp:=λvs H Q _=>∃(z:ic),vs=[.str z]/\z.length<=1000000/\∀(D:eH) (H2:Hp),H D=gs->Same H H2->H2 D=ag (.lst ((if z="" then [] else M7 z ⟨#[10]⟩).map V.str))->Q (.ref D) H2
def Dd:Sp:=λvs H Q _=>∃(l:eH) (r:A6),vs=[.ref l]/\H l=ag (.lst (r.map V.str))/\1<=r.length/\r.length<=1000002/\(∀w∈r,w.length<=1000000)/\∀H2,Same H H2->Q (.bl (cf r)) H2
def C1 (L:NP) (υ O Z Y γ CR:eH):Sp:=λvs H Q E=>∃(z:ic),vs=[.str z]/\z.length<=900000/\
 (dueZ z=gs->∀(n:eH) (H2:Hp) (od:A6),H n=gs->Same H H2->L H2 n (netR (cj z)) od->Q (.ref n) H2)/\
 (∀f,dueZ z=ag f->∀(H2:Hp) C' dx',Same H H2->FzX υ O Z Y γ CR (netR (cj z)).sums H2 f C' dx'->E C' dx' H2)
noncomputable def wt (ws:A6):Nat:=(ws.map λw=>w.length + 1).sum
theorem eE (w:ic) (ws:A6):wt (w::ws)=w.length + 1 + wt ws:=by unfold wt;rw[MU,PF]
theorem iq (a b:A6):wt (a++b)=wt a + wt b:=by unfold wt;rw[hh,List.sum_append]
theorem J_wt (c:Nat):∀ws:A6,ws≠[]->(J c (ws.map (·.cps.toList))).length + 1=wt ws
 | [],h=>ik rfl h
 | [x],_=>by
   show x.cps.toList.length + 1=_;rw[eE,cM];rfl
 | x::y::r,_=>by
   have ih:=J_wt c (y::r) @F;show(x.cps.toList++c::J c ((y::r).map (·.cps.toList))).length + 1=_;rw[hE,y1,cM,eE];omega
theorem Ey (c:Nat) (ws:A6):(OM ⟨#[c]⟩ ws).length<=wt ws:=by
 rw[<-cM,i9];by_cases h:ws=[]
 ·rw[h];exact N2 _
 ·have:=J_wt c ws h;omega
theorem kC (z:ic) (c:Nat):wt (M7 z ⟨#[c]⟩)=z.length + 1:=by
 have O:=RP z ⟨#[c]⟩;have L:=NX z ⟨#[c]⟩;have h:=J_wt c (M7 z ⟨#[c]⟩) (λe=>by rw[e] at L;simp at L);rw[<-i9,O,cM] at h;exact h.symm
theorem mD {w:ic}:∀{ws:A6},w∈ws->w.length + 1<=wt ws
 | x::r,h=>by
   rw[eE];rcases v9.mp h with rfl | h
   ·omega
   ·have:=mD h;omega
theorem Ie (n:Nat) (ws:A6):wt (ws.take n)<=wt ws:=by
 have:=iq (ws.take n) (ws.drop n);rw[OD] at this;omega
theorem tu (n:Nat) (ws:A6):wt (ws.drop n)<=wt ws:=by
 have:=iq (ws.take n) (ws.drop n);rw[OD] at this;omega
theorem yE (w:ic):∀(ws:A6) (j:Nat),wt (ws.set j w)<=wt ws + (w.length + 1)
 | [],j=>by simp
 | x::r,0=>by rw[List.set_cons_zero,eE,eE];omega
 | x::r,j + 1=>by
   have:=yE w r j;rw[Sg,eE,eE];omega
theorem uP:∀(ws:A6),ws.length<=wt ws
 | []=>qb _
 | x::r=>by have:=uP r;rw[eE,y1];omega
theorem Cy:∀(ws:A6),(ws.map (·.length)).sum + ws.length=wt ws
 | []=>rfl
 | x::r=>by have:=Cy r;rw[eE,MU,PF,y1];omega
theorem Cz {z w:ic} (h:w∈OH z):w.length<=z.length:=by
 unfold OH at h;split at h
 ·rw[hC.mp h];exact qb _
 ·unfold wordsOf at h;obtain⟨p,_,rfl⟩:=mw.mp h;exact strSub_length_le _ _ _
theorem GK (z y:ic):(NH z y).2.2.length<=z.length:=by
 unfold NH;split
 ·exact strSub_length_le _ _ _
 ·exact N2 _
theorem vh {z:ic} {r:A6} (h:r∈cj z):1<=r.length/\wt r<=z.length + 1:=by
 unfold cj at h;obtain⟨y,L,rfl⟩:=mw.mp h;by_cases e:z=""
 ·rw[kn e] at L;cases L
 ·rw[hQ e] at L;have h1:=mD L;rw[kC] at h1;exact⟨NX _ _,by rw[kC];exact h1⟩
theorem pX (z:ic):(cj z).length<=z.length + 2:=by
 unfold cj;rw[ak];by_cases e:z=""
 ·rw[kn e];simp
 ·rw[hQ e];exact PyProof.Rows.split_le _ _
theorem Ms {K:a'} {H:Hp} {Q:VK} {p:eH} {zs:A6} {z:ic} (e:H p=ag (.tup (zs.map V.str))) (h:Q (.bl (decide (z∈zs))) H):rIn K false (.str z) (.ref p) H Q:=⟨p,_,rfl,.inr (SqT.of e),rfl,by rw[Qp];exact Nr.mpr λ_ _=>rfl,by rw[qU];exact h⟩
theorem Gi {K:a'} {H:Hp} {Q:VK} {p:eH} {zs:A6} {z:ic} (e:H p=ag (.tup (zs.map V.str))) (h:Q (.bl (!decide (z∈zs))) H):rIn K true (.str z) (.ref p) H Q:=⟨p,_,rfl,.inr (SqT.of e),rfl,by rw[Qp];exact Nr.mpr λ_ _=>rfl,by rw[qU];exact h⟩
theorem lL {r:A6} {k:Nat} (h:k < r.length):atI (r.map V.str) (k:Int)=ag (.str (r.getD k "")):=c6 (by rw[hH,c' h,hB,c' h];rfl)
theorem nK (r:A6) (k:Nat) (h:k<=r.length):cutV (r.map V.str) (ag (k:Int)) gs=(r.drop k).map V.str:=by rw[nJ _ k (by rw[ak];exact h),Qe]
theorem wB (r:A6) (k:Nat) (h:k<=r.length):cutV (r.map V.str) gs (ag (k:Int))=(r.take k).map V.str:=by rw[uz _ k (by rw[ak];exact h),Rl]
theorem mY {z:ic} (h:nmB z=true):z.length<=1000:=MB h
theorem F6.names {r:A6} (f:F6 r):2<=r.length/\nmB (r.getD 1 "")=true/\(∀w∈r.drop 3,nmB w=true)/\(kd "store" r=true->4<=r.length/\nmB (r.getD 3 "")=true)/\(kd "sum" r=true->3<=r.length):=by
 obtain⟨n1,n2,n3,n4,n5,n6,δ,γ,β,α,O,Y⟩:=w_ne;cases f with
 | i z h=>exact⟨@F,h,λw L=>by simp at L,λk=>ik (M3 k) n2,λk=>ik (M3 k) n1⟩
 | o z h=>exact⟨@F,h,λw L=>by simp at L,λk=>ik (M3 k) Y,λk=>ik (M3 k) O⟩
 | s z ws h L=>exact⟨@F,h,L,λk=>ik (M3 k) n5,λ_=>by simp⟩
 | t z y h Z=>exact⟨@F,h,λw L=>by rw[hC.mp L];exact Z,λ_=>⟨@F,Z⟩,λk=>by simp⟩
theorem TgL.ofS {H:Hp} {zs:A6} (h:∀z∈zs,z.length<=1000):TgL H (zs.map V.str) (zs.map Dt.str):=by
 refine⟨by rw[ak,ak],λi v d h1 h2=>?_⟩;rw[hH] at h1 h2;obtain⟨z,hz,rfl⟩:=Nn.mp h1;rw[hz] at h2;cases h2;exact .str z (h z (hA hz))
noncomputable def upR (rs:cc Rw):cc RwT:=rs.map λr=>(r.1,r.2.1,V.str r.2.2.1,r.2.2.2.map V.str)
noncomputable def upQ (qs:cc Qs):cc QsT:=qs.map λq=>(q.1,V.str q.2.1,V.str q.2.2)
theorem datR {H:Hp} {rs:cc Rw} {qs:cc Qs} {rows:cc A6} (fm:∀r∈rows,cf r=true) (er:rs.map (·.2.2)=sumR rows) (eq:qs.map (·.2)=stoR rows):DatT H ((insR rows).map V.str) (upR rs) (upQ qs) ((outR rows).map V.str) (ndR rows):=by
 have Z:∀r∈rows,F6 r:=λr L=>yd (fm r L)
 have n1:∀{k:ic} {z:ic},z∈((rows.filter (kd k)).map λr=>r.getD 1 "")->z.length<=1000:=λh=>by
  obtain⟨r,L,rfl⟩:=mw.mp h;exact mY (Z r (Nj.mp L).1).names.2.1
 have δ:(upR rs).map (·.2.2.1)=((sumR rows).map (·.1)).map V.str:=by rw[<-er];unfold upR;simp only[qa];rfl
 have β:(upQ qs).map (·.2.1)=((stoR rows).map (·.1)).map V.str:=by rw[<-eq];unfold upQ;simp only[qa];rfl
 have α:(upQ qs).map (·.2.2)=((stoR rows).map (·.2)).map V.str:=by rw[<-eq];unfold upQ;simp only[qa];rfl
 refine⟨TgL.ofS λz hz=>n1 hz,?_,λi r x h1 h2=>?_,?_,?_,TgL.ofS λz hz=>n1 hz⟩
 ·rw[δ];have:(ndR rows).sums.map (·.1)=((sumR rows).map (·.1)).map Dt.str:=by unfold ndR;simp only[qa];rfl
  rw[this];refine TgL.ofS λz hz=>?_;unfold sumR at hz;rw[qa] at hz;exact n1 hz
 ·unfold upR at h1;rw[hH] at h1;obtain⟨ν,γ,rfl⟩:=Nn.mp h1;have Y:(sumR rows)[i]? =ag ν.2.2:=by rw[<-er,hH,γ];rfl
  unfold ndR at h2;simp only[hH] at h2;rw[Y] at h2;cases h2;refine TgL.ofS λz hz=>?_;unfold sumR at Y;have hm:=hA Y;obtain⟨r,L,e⟩:=mw.mp hm;rw[<-e] at hz;exact mY ((Z r (Nj.mp L).1).names.2.2.1 z hz)
 ·rw[β];have:(ndR rows).sts.map (·.1)=((stoR rows).map (·.1)).map Dt.str:=by unfold ndR;simp only[qa];rfl
  rw[this];refine TgL.ofS λz hz=>?_;unfold stoR at hz;rw[qa] at hz;exact n1 hz
 ·rw[α];have:(ndR rows).sts.map (·.2)=((stoR rows).map (·.2)).map Dt.str:=by unfold ndR;simp only[qa];rfl
  rw[this];refine TgL.ofS λz hz=>?_;unfold stoR at hz;rw[qa] at hz;obtain⟨r,L,rfl⟩:=mw.mp hz;obtain⟨ω,O⟩:=Nj.mp L;exact mY ((Z r ω).names.2.2.2.1 O).2
theorem oF {rows:cc A6} (fm:∀r∈rows,cf r=true):wN rows=none:=by
 unfold wN;rw[Ri];intro r L;rw[fm r L];rfl
theorem tj {rows:cc A6} {i:Nat} {r:A6} (hr:rows[i]? =ag r) (hf:cf r=false) (fm:∀r∈rows.take i,cf r=true):wN rows=ag i:=by
 unfold wN;rw[List.findIdx?_eq_some_iff_getElem];obtain⟨φ,χ⟩:=b'.mp hr;refine⟨φ,by rw[χ,hf];rfl,λj L=>?_⟩;have:=fm (rows[j]' @A) (List.mem_take_iff_getElem.mpr ⟨j,by omega,rfl⟩);rw[this];decide
theorem ub (rows:cc A6):(insR rows).length<=rows.length/\(sumR rows).length<=rows.length/\(stoR rows).length<=rows.length/\(outR rows).length<=rows.length:=by
 unfold insR sumR stoR outR;simp only[ak];exact⟨Nu _ _,Nu _ _,Nu _ _,Nu _ _⟩
theorem xj {x y:ic} (h:x.cps.toList=y.cps.toList):x=y:=by cases x;cases y;congr 1;exact QO.mp h
theorem pN (x y:ic):(x++y).cps.toList=x.cps.toList++y.cps.toList:=by
 show(x.cps++y.cps).toList=_;rw[S3]
theorem tD (x y:ic):(x++y).length=x.length + y.length:=by
 show(x.cps++y.cps).size=_;rw[Array.size_append];rfl
theorem IS (z:ic):("in ":ic)++z=rowT [("in":ic),z]:=xj (by
 unfold rowT;rw[pN,i9,show("in ":ic).cps.toList=("in":ic).cps.toList++[32] by decide +kernel];simp[J])
theorem Gu (z:ic):("out ":ic)++z=rowT [("out":ic),z]:=xj (by
 unfold rowT;rw[pN,i9,show("out ":ic).cps.toList=("out":ic).cps.toList++[32] by decide +kernel];simp[J])
theorem Aj (z w:ic):("store ":ic)++z++(" = ":ic)++w=rowT [("store":ic),z,("=":ic),w]:=xj (by
 unfold rowT;rw[pN,pN,pN,i9,show("store ":ic).cps.toList=("store":ic).cps.toList++[32] by decide +kernel,show(" = ":ic).cps.toList=32::(("=":ic).cps.toList++[32]) by decide +kernel];simp[J])
structure Dl (rows R:cc A6) (l0 l1 l2 l3:cc A6):Prop where
 k0:R.filter (kd "in")++l0=rows.filter (kd "in")
 k1:R.filter (kd "sum")++l1=rows.filter (kd "sum")
 k2:R.filter (kd "store")++l2=rows.filter (kd "store")
 k3:R.filter (kd "out")++l3=rows.filter (kd "out")
 fm:∀r∈R,Fm r
 len:R.length + (l0.length + l1.length + l2.length + l3.length)=rows.length
end Sx
namespace My
open PySem L2 Sx
local macro_rules | `(tactic| walk_at "o") =>`(tactic| first | exact PU rfl | exact Qc rfl)
local macro_rules | `(tactic| walk_at "s") =>`(tactic| exact ⟨rfl,rfl,rfl,by decide +kernel,rfl,by decide +kernel,by decide +kernel⟩)
local macro_rules | `(tactic| walk_at "n") =>`(tactic| (intro vs H Q E h;repeat (first | (obtain ⟨e,_⟩:=h;subst e;rfl) | (obtain ⟨_,h⟩:=h))))
local macro_rules | `(tactic| walk_at "l2side") =>`(tactic| first | assumption | rfl | omega | decide | ((try dsimp only [CDiv,MO,CPow,CMul]);first | omega | decide | (refine (⟨?_,?_⟩)<;>first | omega | decide) | (refine (⟨?_,?_,?_⟩)<;>first | omega | decide) | (left;refine (⟨?_,?_⟩)<;>first | omega | decide) | (right;refine (⟨?_,?_⟩)<;>first | omega | decide)))
local macro_rules | `(tactic| walk_at "l2len") =>`(tactic| ((with_reducible show _ + _≤jF);first | assumption | (rw [hJ];omega) | omega))
local macro_rules | `(tactic| walk_at "l2at") =>`(tactic| first | assumption | exact au | (refine' Same.get (by assumption) ?h;(case h=>walk_at "l2at")))
local macro_rules | `(tactic| walk_at "l2hp") =>`(tactic| first | walk_at "l2at")
local macro_rules | `(tactic| walk_at "l2hp") =>`(tactic| first | (refine' Same.tup (by assumption) ?h;(case h=>walk_at "l2hp")) | (refine' Rep.same (by assumption) ?h;(case h=>walk_at "l2hp")))
local macro_rules | `(tactic| walk_at "l2hp") =>`(tactic| first | assumption | (refine' SqL.of ?h;(case h=>walk_at "l2at")) | (refine' SqT.of ?h;(case h=>walk_at "l2at")) | (refine' Same.seq (by assumption) ?h;(case h=>walk_at "l2hp")))
local macro_rules | `(tactic| walk_at "l2kind") =>`(tactic| first | assumption | exact rfl | (refine' PU ⟨rfl,_,?e⟩;(case e=>walk_at "l2hp")) | (refine' Qc (PU ⟨rfl,_,?e⟩);(case e=>walk_at "l2hp")) | (refine' Qc (Qc ⟨rfl,_,PU ?e⟩);(case e=>walk_at "l2hp")))
local macro_rules | `(tactic| walk_at "l2step") =>`(tactic| first | ((with_reducible refine' s_go ?e ?_);(case e=>assumption)))
local macro_rules | `(tactic| walk_at "l2step") =>`(tactic| first | (with_reducible refine(⟨_,rfl,?_⟩)) | (with_reducible refine(⟨rfl,?_⟩)) | ((with_reducible refine' (⟨⟨_,?e⟩,?_⟩));(case e=>walk_at "l2hp")))
local macro_rules | `(tactic| walk_at "l2step") =>`(tactic| first | (with_reducible refine(⟨_,_,rfl,rfl,?_⟩);(with_reducible refine(⟨?l,?_⟩));(case l=>walk_at "l2len")) | (with_reducible refine(⟨_,_,rfl,rfl,?_⟩)) | (with_reducible refine PU ⟨_,rfl,?_⟩) | (with_reducible refine Qc ⟨_,rfl,?_⟩))
local macro_rules | `(tactic| walk_at "l2step") =>`(tactic| first | (with_reducible refine KF ?_) | ((with_reducible refine' eh ?e ?_);(case e=>first | rfl | decide | assumption)) | ((with_reducible refine' eA ?e ?_);(case e=>first | rfl | decide | assumption)) | ((with_reducible refine' Gr ?a ?b ?_);(case a=>omega);(case b=>omega)))
local macro_rules | `(tactic| walk_at "l2step") =>`(tactic| first | (with_reducible refine IJ ?_) | (with_reducible refine s_intB ?_) | (with_reducible refine s_inS ?_) | ((with_reducible refine' s_addS ?e ?_);(case e=>walk_at "l2side")))
local macro_rules | `(tactic| walk_at "l2step") =>`(tactic| first | (with_reducible refine KC ?_) | (with_reducible refine Mt ?_) | (with_reducible refine Mf ?_) | (with_reducible refine Kl ?_))
local macro_rules | `(tactic| walk_at "l2step") =>`(tactic| first | ((with_reducible refine' Kv ?e ?_);(case e=>walk_at "l2hp")) | ((with_reducible refine' Kt ?e ?_);(case e=>walk_at "l2hp")) | ((with_reducible refine' Ku ?e ?_);(case e=>walk_at "l2side")) | ((with_reducible refine' Mr ?e ?m ?_);(case e=>walk_at "l2kind");(case m=>decide)))
local macro_rules | `(tactic| walk_at "l2step") =>`(tactic| first | ((with_reducible refine' Gm ?e ?a ?_);(case e=>walk_at "l2hp");(case a=>first | assumption | rfl)) | ((with_reducible refine' Mq ?e ?a ?_);(case e=>walk_at "l2hp");(case a=>first | assumption | rfl)) | ((with_reducible refine' s_ty ?e ?_);(case e=>first | exact rfl | (refine' PU ⟨rfl,_,?f⟩;(case f=>walk_at "l2hp")) | (refine' Qc (Qc (PU ⟨rfl,PU ⟨_,?f⟩⟩));(case f=>walk_at "l2hp")))) | (with_reducible refine s_bits ?_))
local macro_rules | `(tactic| walk_at "l2step") =>`(tactic| first | ((with_reducible refine' Hq ?l ?_);(case l=>exact xU (Q2 rfl))) | ((with_reducible refine' Kp ?l ?_);(case l=>exact xU (Q2 rfl))) | ((with_reducible refine' Mj ?e ?_);(case e=>walk_at "l2hp")) | ((with_reducible refine' Mi ?e ?_);(case e=>walk_at "l2side")))
local macro_rules | `(tactic| walk_at "l2step") =>`(tactic| first | (with_reducible refine Kz ?_) | ((with_reducible refine' Ky ?e ?l ?_);(case e=>walk_at "l2hp");(case l=>rfl)) | (with_reducible refine Mh ?_) | (with_reducible refine Mp ?_))
local macro_rules | `(tactic| walk_at "l2step") =>`(tactic| first | ((with_reducible refine' Mm ?e ?_);(case e=>rfl)) | (with_reducible refine s_leS ?_) | ((with_reducible refine' IH ?e ?_);(case e=>repeat constructor)) | (with_reducible refine II ?_))
local macro_rules | `(tactic| walk_at "l2step") =>`(tactic| first | (with_reducible refine Mn ?_) | ((with_reducible refine' s_rI ?e ?_);(case e=>walk_at "l2side")) | (with_reducible refine s_rU ?_) | ((with_reducible refine' Mo ?e ?_);(case e=>rfl)))
local macro_rules | `(tactic| walk_at "l2step") =>`(tactic| first | ((with_reducible refine Km ?_);intro _ _) | (with_reducible refine Ko ?_) | ((with_reducible refine' Mg ?e ?_);(case e=>repeat constructor)) | (with_reducible refine IM ?_))
local macro_rules | `(tactic| walk_at "l2") =>`(tactic| repeat walk_at "l2step")
local macro_rules | `(tactic| walk_at "l2step") =>`(tactic| first | ((with_reducible refine' Kj ?e ?_);(case e=>walk_at "l2hp")))
local macro_rules | `(tactic| walk_at "l2step") =>`(tactic| first | ((with_reducible refine' IF ?e ?_);(case e=>walk_at "l2hp")) | ((with_reducible refine' IE ?e ?_);(case e=>walk_at "l2hp")) | ((with_reducible refine' Kk ?e ?_);(case e=>walk_at "l2hp")))
local macro_rules | `(tactic| walk_at "l2step") =>`(tactic| first | (with_reducible refine Kq ?_) | (with_reducible refine KA ?_) | (with_reducible refine KD ?_) | (with_reducible refine IG ?_))
local macro_rules | `(tactic| walk_at "l2step") =>`(tactic| first | (with_reducible refine Gh ?_) | (with_reducible refine Mu ?_) | (with_reducible refine Kr ?_) | (with_reducible refine Gj ?_))
local macro_rules | `(tactic| walk_at "l2step") =>`(tactic| first | (with_reducible refine Mw ?_) | (with_reducible refine KB ?_) | (with_reducible refine s_disp1I ?_) | ((with_reducible refine' s_listD ?e ?_);(case e=>walk_at "l2at")))
local macro_rules | `(tactic| walk_at "l2step") =>`(tactic| first | (with_reducible refine IC ?_) | (with_reducible refine s_try0 ?_) | (with_reducible refine Dy ?_))
noncomputable def top (i:Nat):Stmt:=PySem.Challenge.pw_sumwires_k16_whole_any_text_read.main.body.getD i (.Pass ⟨0,0,0,0⟩)
noncomputable abbrev vg:Stmt:=top 3
theorem xt:aK ["thing","depth"] ["thing","depth"] (ai vg):=by walk_at "s"
noncomputable abbrev eL:Stmt:=dU (top 6) 0
theorem lW:aK ["self","name"] ["self","name"] (ai eL):=by walk_at "s"
noncomputable abbrev eJ:Stmt:=dU (top 7) 0
theorem lV:aK ["self","name"] ["self","name"] (ai eJ):=by walk_at "s"
noncomputable abbrev fA:Stmt:=dU (top 8) 0
theorem mH:aK ["self","name"] ["self","name"] (ai fA):=by walk_at "s"
noncomputable abbrev eM:Stmt:=dU (top 9) 0
theorem lX:aK ["self","line"] ["self","line"] (ai eM):=by walk_at "s"
noncomputable abbrev gZ:Stmt:=dU (top 10) 0
theorem oX:aK ["self","ring"] ["self","ring"] (ai gZ):=by walk_at "s"
noncomputable abbrev gY:Stmt:=dU (top 12) 0
theorem oW:aK ["self","name"] ["self","name"] (ai gY):=by walk_at "s"
noncomputable abbrev fB:Stmt:=dU (top 13) 0
theorem mI:aK ["self","name","number"] ["self","name","number"] (ai fB):=by walk_at "s"
noncomputable abbrev eI:Stmt:=dU (top 14) 0
theorem lU:aK ["self","name","wires"] ["self","name","wires"] (ai eI):=by walk_at "s"
noncomputable abbrev dG:Stmt:=dU (top 15) 0
theorem jU:aK ["self","name","wire","number"] ["self","name","wire","number"] (ai dG):=by walk_at "s"
noncomputable abbrev mK:Stmt:=top 20
theorem Ae:aK ["thing"] ["thing"] (ai mK):=by walk_at "s"
noncomputable abbrev nT:Stmt:=top 21
theorem xr:aK ["row"] ["row"] (ai nT):=by walk_at "s"
noncomputable abbrev gL:Stmt:=top 28
theorem rM:aK ["ins","sums","stores","outs"] ["ins","sums","stores","outs"] (ai gL):=by walk_at "s"
noncomputable abbrev jk:Stmt:=top 29
theorem iP:aK ["names","known","name"] ["names"] (ai jk):=by walk_at "s"
noncomputable abbrev jZ:Stmt:=top 30
theorem tH:aK ["wire","known"] ["wire","known"] (ai jZ):=by walk_at "s"
noncomputable abbrev jj:Stmt:=top 31
theorem dJ:aK ["sums","stores","outs","known","row","wire"] ["sums","stores","outs","known"] (ai jj):=by walk_at "s"
noncomputable abbrev bY:Stmt:=top 32
theorem jI:aK ["ins","sums","stores","wires"] ["ins","sums","stores"] (ai bY):=by walk_at "s"
noncomputable abbrev tI:Stmt:=top 33
theorem Gf:aK ["row","waiting"] ["row","waiting"] (ai tI):=by walk_at "s"
noncomputable abbrev iz:Stmt:=top 34
theorem eG:aK ["rows","waiting","path","name"] ["rows"] (ai iz):=by walk_at "s"
noncomputable abbrev jY:Stmt:=top 35
theorem gP:aK ["sums","names","left","waiting","ready"] ["sums"] (ai jY):=by walk_at "s"
noncomputable abbrev cv:Stmt:=dU (top 36) 0
theorem pV:aK ["self","ins","sums","stores","outs"] ["self","ins","sums","stores","outs"] (ai cv):=by walk_at "s"
noncomputable abbrev iT:Stmt:=dU (top 36) 1
theorem pU:aK ["self"] ["self"] (ai iT):=by walk_at "s"
noncomputable abbrev iS:Stmt:=dU (top 36) 2
theorem pS:aK ["self"] ["self"] (ai iS):=by walk_at "s"
noncomputable abbrev gD:Stmt:=dU (top 36) 3
theorem nS:aK ["self"] ["self"] (ai gD):=by walk_at "s"
noncomputable abbrev g5:Stmt:=dU (top 36) 4
theorem oY:aK ["self"] ["self"] (ai g5):=by walk_at "s"
noncomputable abbrev nV:Stmt:=dU (top 36) 5
theorem xv:aK ["self"] ["self"] (ai nV):=by walk_at "s"
noncomputable abbrev kE:Stmt:=top 38
theorem xu:aK ["words"] ["words"] (ai kE):=by walk_at "s"
noncomputable abbrev pW:Stmt:=top 39
theorem Ac:aK ["text"] ["text"] (ai pW):=by walk_at "s"
noncomputable abbrev d8:Stmt:=top 40
theorem de:aK ["text","rows","number","words","ins","sums","stores","outs"] ["text"] (ai d8):=by walk_at "s"
noncomputable abbrev d7:Stmt:=top 41
theorem pO:aK ["net","rows"] ["net"] (ai d7):=by walk_at "s"
noncomputable abbrev md:Stmt:=top 43
theorem ve:aK ["_law_script","_law_k"] ["_law_script","_law_k"] (ai md):=by walk_at "s"
noncomputable abbrev nU:Stmt:=top 44
theorem lT:aK ["_law_cell_here","_law_k","_law_number"] ["_law_cell_here","_law_k"] (ai nU):=by walk_at "s"
noncomputable abbrev l6:Stmt:=top 45
theorem iy:aK ["_law_cell_here","_law_k","_law_letters","_law_some"] ["_law_cell_here","_law_k"] (ai l6):=by walk_at "s"
noncomputable abbrev iB:Stmt:=top 46
theorem dy:aK ["_law_cell_here","_law_start","_law_names","_law_digits","_law_left","_law_found","_law_k","_law_many"] ["_law_cell_here","_law_start","_law_names","_law_digits"] (ai iB):=by walk_at "s"
noncomputable abbrev gR:Stmt:=top 47
theorem bc:aK ["_law_script","_law_start","_law_most","_law_cell_here","_law_sizes","_law_ins","_law_stores","_law_known","_law_sums","_law_k","_law_wires_here","_law_at","_law_ends","_law_name_here","_law_outs"] ["_law_script","_law_start","_law_most"] (ai gR):=by walk_at "s"
noncomputable abbrev jl:Stmt:=top 48
theorem vc:aK ["_law_ins","_law_sums","_law_stores","_law_outs"] ["_law_ins","_law_sums","_law_stores","_law_outs"] (ai jl):=by walk_at "s"
noncomputable abbrev fq:Stmt:=top 49
theorem gv:aK ["_law_ins","_law_sums","_law_stores","_law_outs","_law_rows","_law_name_here","_law_wires_here"] ["_law_ins","_law_sums","_law_stores","_law_outs"] (ai fq):=by walk_at "s"
noncomputable abbrev gh:Stmt:=top 50
theorem pR:aK ["_law_thing"] ["_law_thing"] (ai gh):=by walk_at "s"
noncomputable abbrev gC:Stmt:=top 51
theorem i5:aK ["_law_names","_law_known","_law_name_here"] ["_law_names","_law_known"] (ai gC):=by walk_at "s"
noncomputable abbrev df:Stmt:=top 52
theorem cR:aK ["_law_sums","_law_left","_law_k","_law_name_here","_law_wires_here"] ["_law_sums"] (ai df):=by walk_at "s"
noncomputable abbrev fz:Stmt:=top 53
theorem fj:aK ["_law_ins","_law_sums","_law_stores","_law_outs","_law_known","_law_due_here","_law_wires_here","_law_row_here","_law_wire"] ["_law_ins","_law_sums","_law_stores","_law_outs"] (ai fz):=by walk_at "s"
noncomputable abbrev cU:Stmt:=top 54
theorem gW:aK ["_law_ring","_law_sums","_law_one","_law_other"] ["_law_ring","_law_sums"] (ai cU):=by walk_at "s"
noncomputable abbrev kF:Stmt:=top 55
theorem pP:aK ["_law_words","_law_names"] ["_law_words"] (ai kF):=by walk_at "s"
noncomputable abbrev fw:Stmt:=top 56
theorem d6:aK ["_law_text_here","_law_found","_law_k","_law_row_here","_law_told_here","_law_lists"] ["_law_text_here"] (ai fw):=by walk_at "s"
noncomputable abbrev gQ:Stmt:=top 57
theorem pQ:aK ["_law_words","_law_number","_law_some"] ["_law_words","_law_number"] (ai gQ):=by walk_at "s"
noncomputable abbrev gB:Stmt:=top 58
theorem cE:aK ["_law_words","_law_number","_law_some","_law_at","_law_way","_law_other","_law_kept"] ["_law_words","_law_number","_law_some"] (ai gB):=by walk_at "s"
noncomputable abbrev j3:Stmt:=top 59
theorem bu:aK ["_law_text_here","_law_cell_here","_law_digits","_law_number","_law_other","_law_rows","_law_at","_law_way","_law_words","_law_again","_law_fresh"] ["_law_text_here","_law_cell_here","_law_digits"] (ai j3):=by walk_at "s"
noncomputable abbrev iR:Stmt:=top 60
theorem aU:aK ["_law_text_here","_law_told_here","_law_ring","_law_net_here","e"] ["_law_text_here"] (ai iR):=by walk_at "s"
noncomputable abbrev Ai:Stmt:=top 61
theorem gu:aK ["_law_script","_law_cell_here","_law_ins","_law_sums","_law_stores","_law_outs","_law_text_here","_law_k","_law_due_here","_law_lists","_law_told_here","_law_ring","_law_net_here","_law_wish","_law_shown"] ["_law_script"] (ai Ai):=by walk_at "s"
noncomputable abbrev FR (K:a') (x q:ic) (st:OE) (f:eH):Prop:=∃(α:iv) (od:Dn) (kV Y Z:iv) (an:Dn) (L ct:iv) (O:CM),K.lookup f=ag ⟨α,od,.func (NO x q (jC st) (dI st) (ai st) .none kV Y Z an L ct),O⟩/\OG K L q=true/\Nv K (.ref f)=true
theorem FR.mk {K:a'} {x q:ic} {st:OE} {f:eH} {α:iv} {od:Dn} {kV Y Z:iv} {an:Dn} {L ct:iv} {O:CM} (h1:K.lookup f=ag ⟨α,od,.func (NO x q (jC st) (dI st) (ai st) .none kV Y Z an L ct),O⟩) (h2:OG K L q=true) (h3:Nv K (.ref f)=true):FR K x q st f:=⟨_,_,_,_,_,_,_,_,_,h1,h2,h3⟩
structure FT (K:a') (x q:ic) (st:OE) (f:eH) (d:lM) (ps:A6):Prop where
 F:Fun K x q st f d
 b:my K d ps []
theorem FR.ok {K:a'} {x q:ic} {st:OE} {f:eH} {ps:A6} (h:FR K x q st f) (g:∀(kV L Y:iv) (an:Dn) (O ct:iv) (us:CB),us.length=ps.length->bindArgs (NO x q (jC st) (dI st) (ai st) .none kV L Y an O ct) ⟨us,[]⟩=pure (ps.zip us)):∃d,FT K x q st f d ps:=by
 obtain⟨_,_,_,_,_,_,_,_,_,h1,h2,Z⟩:=h;have F:=HB (st:=st) h1 h2 Z;exact⟨_,F,F.binds g⟩
theorem aw {X:Cx} {CX:CXT} {k j:Nat} {f:eH} {fd:lM} {ps:A6} {sp:Sp} {E:XK} {x n q:ic} {st:OE} {p pos:Pos} {e:z3} {es:cc z3} {t:TA} (F:FnOk X.prog X.w X.K X.mg X.base CX k f fd ps sp) (hr:Room j X.A) (hm:X.mg x=ag (.ref f)) (U:FT X.K n q st f fd ps)
  (ha:PA X (e::es) t) (O:nM CX X E:=by exact ip) (Y:k<=j:=by decide) (Z:Gl X x:=by rfl) (ω:(x == ("__debug__":ic))=false:=by decide) (he:oD (e::es) X.env=(false,eval e X.env)::oD es X.env:=by rfl) (L:(backTo pos (oD es X.env)).any (·.1)=false:=by rfl):
  PE X (.Call (.Name x p) (e::es) [] pos) (CU sp [] E t):=Ja F (hr.mono Y) Z hm U.1.2 U.2 .nil O ha ω he L
noncomputable abbrev NI (K:a') (x:ic) (f:eH):Prop:=SD K MV x=ag (ag (.ref f))
noncomputable abbrev NN (K:a') (x:ic):Prop:=SD K MV x=ag gs
noncomputable abbrev FI (K:a') (c:eH) (x:ic) (f:eH):Prop:=wq K (.ref c) x=ag (ag (.ref f))
noncomputable abbrev FN (K:a') (c:eH) (x:ic):Prop:=wq K (.ref c) x=ag gs
theorem bln0 {l:cc Nq} (h:l.length=0):l=[]:=List.eq_nil_of_length_eq_zero h
theorem bln1 {l:cc Nq} (h:l.length=1):∃a,l=[a]:=List.length_eq_one_iff.mp h
theorem bln2 {l:cc Nq} (h:l.length=2):∃a b,l=[a,b]:=by cases l with | nil=>cases h | cons a l=>obtain ⟨b,z⟩:=bln1 (Ol h);exact ⟨a,b,z ▸ rfl⟩
theorem bln3 {l:cc Nq} (h:l.length=3):∃a b c,l=[a,b,c]:=by cases l with | nil=>cases h | cons a l=>obtain ⟨b,c,z⟩:=bln2 (Ol h);exact ⟨a,b,c,z ▸ rfl⟩
theorem bln4 {l:cc Nq} (h:l.length=4):∃a b c d,l=[a,b,c,d]:=by cases l with | nil=>cases h | cons a l=>obtain ⟨b,c,d,z⟩:=bln3 (Ol h);exact ⟨a,b,c,d,z ▸ rfl⟩
theorem bln5 {l:cc Nq} (h:l.length=5):∃a b c d e,l=[a,b,c,d,e]:=by cases l with | nil=>cases h | cons a l=>obtain ⟨b,c,d,e,z⟩:=bln4 (Ol h);exact ⟨a,b,c,d,e,z ▸ rfl⟩
theorem bln6 {l:cc Nq} (h:l.length=6):∃a b c d e f,l=[a,b,c,d,e,f]:=by cases l with | nil=>cases h | cons a l=>obtain ⟨b,c,d,e,f,z⟩:=bln5 (Ol h);exact ⟨a,b,c,d,e,f,z ▸ rfl⟩
theorem bln7 {l:cc Nq} (h:l.length=7):∃a b c d e f g,l=[a,b,c,d,e,f,g]:=by cases l with | nil=>cases h | cons a l=>obtain ⟨b,c,d,e,f,g,z⟩:=bln6 (Ol h);exact ⟨a,b,c,d,e,f,g,z ▸ rfl⟩
local macro_rules | `(tactic| walk_at "b") =>`(tactic| first | (refine fun _ _ _ _ _ _ us hl=>?_;obtain ⟨_,hz⟩:=bln1 hl;subst hz;rfl) | (refine fun _ _ _ _ _ _ us hl=>?_;obtain ⟨_,_,hz⟩:=bln2 hl;subst hz;rfl) | (refine fun _ _ _ _ _ _ us hl=>?_;obtain ⟨_,_,_,hz⟩:=bln3 hl;subst hz;rfl) | (refine fun _ _ _ _ _ _ us hl=>?_;obtain ⟨_,_,_,_,hz⟩:=bln4 hl;subst hz;rfl) | (refine fun _ _ _ _ _ _ us hl=>?_;obtain ⟨_,_,_,_,_,hz⟩:=bln5 hl;subst hz;rfl) | (refine fun _ _ _ _ _ _ us hl=>?_;obtain ⟨_,_,_,_,_,_,hz⟩:=bln6 hl;subst hz;rfl) | (refine fun _ _ _ _ _ _ us hl=>?_;obtain ⟨_,_,_,_,_,_,_,hz⟩:=bln7 hl;subst hz;rfl))
abbrev n10:A6:=["row"]
abbrev n11:A6:=["_law_row_here"]
abbrev n12:A6:=["words"]
abbrev n13:A6:=["row","waiting"]
abbrev n14:A6:=["net","rows"]
abbrev n15:A6:=["text","rows","number","words","ins","sums","stores","outs"]
abbrev n16:A6:=["wire","waiting"]
abbrev n17:A6:=["ins","sums","stores","wires"]
abbrev n18:A6:=["self","ins","sums","stores","outs"]
abbrev n19:A6:=["_law_ins","_law_sums","_law_stores","_law_outs","_law_known","_law_due_here","_law_wires_here","_law_row_here","_law_wire"]
abbrev n20:A6:=["_law_name_here"]
abbrev n21:A6:=["_law_k","_law_cell_here"]
abbrev n22:A6:=["_law_name_here","_law_wires_here"]
abbrev n23:A6:=["_law_ins","_law_sums","_law_stores","_law_outs","_law_rows","_law_name_here","_law_wires_here"]
abbrev n24:A6:=["_law_name_here","_law_wire"]
abbrev n25:A6:=["_law_script","_law_start","_law_most","_law_cell_here","_law_sizes","_law_ins","_law_stores","_law_known","_law_sums","_law_k","_law_wires_here","_law_at","_law_ends","_law_name_here","_law_outs"]
abbrev n26:A6:=["_law_name_here","_law_sums"]
abbrev n27:A6:=["_law_sums","_law_left","_law_k","_law_name_here","_law_wires_here"]
abbrev n28:A6:=["_law_k","_law_names","_law_cell_here","_law_start"]
abbrev n29:A6:=["_law_ring","_law_sums","_law_one","_law_other"]
set_option genInjectivity false in
set_option genSizeOf false in
structure Ad where
 nD:eH
 zd:lM
 bh:eH
 iJ:lM
 bg:eH
 iI:lM
 bz:eH
 jc:lM
 bj:eH
 iK:lM
 bP:eH
 ku:lM
 bO:eH
 cI:lM
 be:eH
 jd:lM
 bb:eH
 iH:lM
 aT:eH
 gJ:lM
 gz:eH
 rh:lM
 fQ:eH
 sN:lM
 cP:eH
 nH:lM
 cQ:eH
 nI:lM
 dk:eH
 oO:lM
 cO:eH
 nG:lM
 bZ:eH
 kq:lM
 mr:eH
 Fd:lM
 dj:eH
 oN:lM
 ig:eH
 wA:lM
 bM:eH
 lK:lM
 bL:eH
 lJ:lM
 bK:eH
 lH:lM
 bw:eH
 jO:lM
 bD:eH
 ky:lM
 dB:eH
 sW:lM
 fU:eH
 sQ:lM
 ie:eH
 wz:lM
 fT:eH
 sP:lM
 fS:eH
 sO:lM
 dZ:eH
 rq:lM
 fX:eH
 sU:lM
 dY:eH
 rp:lM
 dn:eH
 oP:lM
 fW:eH
 sT:lM
 dW:eH
 rj:lM
 dX:eH
 rm:lM
 cy:eH
 lG:lM
 bS:eH
 jN:lM
 b6:eH
 kr:lM
 fY:eH
 sV:lM
 cx:eH
 lE:lM
 fV:eH
 sR:lM
 du:eH
 rn:lM
 ee:eH
 sS:lM
 bR:eH
 jM:lM
 dq:eH
 oQ:lM
 cw:eH
 lD:lM
 BL:eH
 LF:lM
 nL:eH
 bx:eH
 aZ:eH
 aI:eH
 cA:eH
 aW:eH
 aV:eH
 aA:eH
 az:eH
 aG:eH
 aC:eH
 bf:eH
 jS:Tok
 pM:Tok
 iO:Tok
 nQ:Tok
 lR:Tok
 jg:Tok
 lQ:Tok
 jR:Tok
 jQ:Tok
open PySem.W in
structure Tx (K:Frag) (mg:CD) (a:Ad):Prop where
 lP:FT K "kept" "kept" vg a.nD a.zd ["thing","depth"]
 vU:mg "kept"=ag (.ref a.nD)
 c9:FT K "__init__" "BadName.__init__" eL a.bh a.iJ ["self","name"]
 c8:FT K "__init__" "Doubled.__init__" eJ a.bg a.iI ["self","name"]
 dC:FT K "__init__" "NoWire.__init__" fA a.bz a.jc ["self","name"]
 dc:FT K "__init__" "BadLine.__init__" eM a.bj a.iK ["self","line"]
 fg:FT K "__init__" "Ring.__init__" gZ a.bP a.ku ["self","ring"]
 b9:FT K "__init__" "Wire.__init__" gY a.bO a.cI ["self","name"]
 dD:FT K "__init__" "InWire.__init__" fB a.be a.jd ["self","name","number"]
 c7:FT K "__init__" "SumWire.__init__" eI a.bb a.iH ["self","name","wires"]
 cC:FT K "__init__" "StoreWire.__init__" dG a.aT a.gJ ["self","name","wire","number"]
 gA:FT K "is_name" "is_name" mK a.gz a.rh ["thing"]
 kj:mg "is_name"=ag (.ref a.gz)
 kL:FT K "words_of" "words_of" nT a.fQ a.sN ["row"]
 BD:mg "words_of"=ag (.ref a.fQ)
 eZ:FT K "check_sizes" "check_sizes" gL a.cP a.nH ["ins","sums","stores","outs"]
 uf:mg "check_sizes"=ag (.ref a.cP)
 fc:FT K "check_names" "check_names" jk a.cQ a.nI ["names"]
 ug:mg "check_names"=ag (.ref a.cQ)
 cu:FT K "check_wire" "check_wire" jZ a.dk a.oO ["wire","known"]
 kl:mg "check_wire"=ag (.ref a.dk)
 eX:FT K "check_wires" "check_wires" jj a.cO a.nG ["sums","stores","outs","known"]
 ue:mg "check_wires"=ag (.ref a.cO)
 eU:FT K "wires_by_name" "wires_by_name" bY a.bZ a.kq ["ins","sums","stores"]
 qW:mg "wires_by_name"=ag (.ref a.bZ)
 rH:FT K "waits" "waits" tI a.mr a.Fd ["row","waiting"]
 EK:mg "waits"=ag (.ref a.mr)
 iL:FT K "ring_among" "ring_among" iz a.dj a.oN ["rows"]
 vT:mg "ring_among"=ag (.ref a.dj)
 kA:FT K "ordered" "ordered" jY a.ig a.wA ["sums"]
 EM:mg "ordered"=ag (.ref a.ig)
 gq:FT K "__init__" "Net.__init__" cv a.bM a.lK ["self","ins","sums","stores","outs"]
 cX:FT K "in_names" "Net.in_names" iT a.bL a.lJ ["self"]
 cW:FT K "sum_rows" "Net.sum_rows" iS a.bK a.lH ["self"]
 ck:FT K "store_rows" "Net.store_rows" gD a.bw a.jO ["self"]
 cJ:FT K "out_wires" "Net.out_wires" g5 a.bD a.ky ["self"]
 gS:FT K "told" "Net.told" nV a.dB a.sW ["self"]
 kN:FT K "has_form" "has_form" kE a.fU a.sQ ["words"]
 BF:mg "has_form"=ag (.ref a.fU)
 nN:FT K "rows_of" "rows_of" pW a.ie a.wz ["text"]
 EL:mg "rows_of"=ag (.ref a.ie)
 gb:FT K "read_net" "read_net" d8 a.fT a.sP ["text"]
 sL:mg "read_net"=ag (.ref a.fT)
 kM:FT K "show_net" "show_net" d7 a.fS a.sO ["net"]
 BE:mg "show_net"=ag (.ref a.fS)
 d5:FT K "_law_cell" "_law_cell" md a.dZ a.rq ["_law_script","_law_k"]
 jA:mg "_law_cell"=ag (.ref a.dZ)
 bo:FT K "_law_mix" "_law_mix" nU a.fX a.sU ["_law_cell_here","_law_k"]
 bI:mg "_law_mix"=ag (.ref a.fX)
 d4:FT K "_law_name" "_law_name" l6 a.dY a.rp ["_law_cell_here","_law_k"]
 jz:mg "_law_name"=ag (.ref a.dY)
 iM:FT K "_law_wires" "_law_wires" iB a.dn a.oP ["_law_cell_here","_law_start","_law_names","_law_digits"]
 vV:mg "_law_wires"=ag (.ref a.dn)
 kQ:FT K "_law_net" "_law_net" gR a.fW a.sT ["_law_script","_law_start","_law_most"]
 BI:mg "_law_net"=ag (.ref a.fW)
 jE:FT K "_law_told" "_law_told" jl a.dW a.rj ["_law_ins","_law_sums","_law_stores","_law_outs"]
 x8:mg "_law_told"=ag (.ref a.dW)
 il:FT K "_law_text" "_law_text" fq a.dX a.rm ["_law_ins","_law_sums","_law_stores","_law_outs"]
 qX:mg "_law_text"=ag (.ref a.dX)
 cV:FT K "_law_is_name" "_law_is_name" gh a.cy a.lG ["_law_thing"]
 i3:mg "_law_is_name"=ag (.ref a.cy)
 dO:FT K "_law_names_due" "_law_names_due" gC a.bS a.jN ["_law_names","_law_known"]
 pA:mg "_law_names_due"=ag (.ref a.bS)
 ff:FT K "_law_has_ring" "_law_has_ring" df a.b6 a.kr ["_law_sums"]
 qY:mg "_law_has_ring"=ag (.ref a.b6)
 kR:FT K "_law_due" "_law_due" fz a.fY a.sV ["_law_ins","_law_sums","_law_stores","_law_outs"]
 BJ:mg "_law_due"=ag (.ref a.fY)
 gn:FT K "_law_is_ring" "_law_is_ring" cU a.cx a.lE ["_law_ring","_law_sums"]
 se:mg "_law_is_ring"=ag (.ref a.cx)
 kO:FT K "_law_row" "_law_row" kF a.fV a.sR ["_law_words"]
 BG:mg "_law_row"=ag (.ref a.fV)
 jG:FT K "_law_read" "_law_read" fw a.du a.rn ["_law_text_here"]
 x9:mg "_law_read"=ag (.ref a.du)
 kP:FT K "_law_odd" "_law_odd" gQ a.ee a.sS ["_law_words","_law_number"]
 BH:mg "_law_odd"=ag (.ref a.ee)
 dN:FT K "_law_spoil_row" "_law_spoil_row" gB a.bR a.jM ["_law_words","_law_number","_law_some"]
 pq:mg "_law_spoil_row"=ag (.ref a.bR)
 iN:FT K "_law_spoil" "_law_spoil" j3 a.dq a.oQ ["_law_text_here","_law_cell_here","_law_digits"]
 vW:mg "_law_spoil"=ag (.ref a.dq)
 gm:FT K "_law_told_by" "_law_told_by" iR a.cw a.lD ["_law_text_here"]
 r9:mg "_law_told_by"=ag (.ref a.cw)
 Hf:Fun K "law" "law" Ai a.BL a.LF
 EN:mg "Wire"=ag (.ref a.nL)
 GY:mg "InWire"=ag (.ref a.bx)
 uM:Cls K a.bx
 Hd:Mk K a.bx a.be
 nh:bH K a.bx "name"
 qy:bH K a.bx "number"
 EO:mg "SumWire"=ag (.ref a.aZ)
 rJ:Cls K a.aZ
 FJ:Mk K a.aZ a.bb
 kX:bH K a.aZ "name"
 qp:bH K a.aZ "wires"
 ya:mg "StoreWire"=ag (.ref a.aI)
 jH:Cls K a.aI
 yC:Mk K a.aI a.aT
 jK:bH K a.aI "name"
 mZ:bH K a.aI "number"
 o8:bH K a.aI "wire"
 MH:mg "Net"=ag (.ref a.cA)
 fh:Cls K a.cA
 MN:Mk K a.cA a.bM
 lA:Meth K a.cA "in_names" a.bL
 lh:Meth K a.cA "sum_rows" a.bK
 jL:Meth K a.cA "store_rows" a.bw
 kg:Meth K a.cA "out_wires" a.bD
 sJ:Meth K a.cA "told" a.dB
 ng:bH K a.cA "by_name"
 qx:bH K a.cA "ins"
 dA:bH K a.cA "kept_stores"
 oj:bH K a.cA "outs"
 qr:bH K a.cA "sum_order"
 i8:bH K a.cA "sums"
 cI:HR K a.nL "__init__" a.bO
 ia:mg "WireError"=ag (.ref a.aW)
 gT:LO K a.aW
 ja:mg "TooMany"=ag (.ref a.aV)
 eC:excIn K a.aV [.type "ValueError",.type "Exception",.type "BaseException",.type "object"] "ValueError.__new__"=true
 fD:mroIn K a.aV (.ref a.aC)=ag false
 fC:mroIn K a.aV (.ref a.aV)=ag true
 EG:i4 K a.aV
 wa:mg "BadName"=ag (.ref a.aA)
 EI:i4 K a.aA
 rF:XOwn K a.aA a.aW a.bh
 FM:XIsi K a.aA
 oA:hasDictIn K a.aA=true
 fM:mroIn K a.aA (.ref a.aC)=ag false
 fK:mroIn K a.aA (.ref a.aV)=ag false
 fL:mroIn K a.aA (.ref a.aA)=ag true
 k7:bH K a.aA "name"
 vZ:mg "Doubled"=ag (.ref a.az)
 EH:i4 K a.az
 rE:XOwn K a.az a.aW a.bg
 FL:XIsi K a.az
 oz:hasDictIn K a.az=true
 fJ:mroIn K a.az (.ref a.aC)=ag false
 fE:mroIn K a.az (.ref a.aV)=ag false
 fH:mroIn K a.az (.ref a.aA)=ag false
 fG:mroIn K a.az (.ref a.az)=ag true
 kZ:bH K a.az "name"
 y3:mg "NoWire"=ag (.ref a.aG)
 GV:i4 K a.aG
 uL:XOwn K a.aG a.aW a.bz
 He:XIsi K a.aG
 qV:hasDictIn K a.aG=true
 gH:mroIn K a.aG (.ref a.aC)=ag false
 gE:mroIn K a.aG (.ref a.aV)=ag false
 gG:mroIn K a.aG (.ref a.aA)=ag false
 gF:mroIn K a.aG (.ref a.az)=ag false
 g6:mroIn K a.aG (.ref a.aG)=ag true
 nc:bH K a.aG "name"
 wc:mg "BadLine"=ag (.ref a.aC)
 EJ:i4 K a.aC
 rG:XOwn K a.aC a.aW a.bj
 FO:XIsi K a.aC
 oB:hasDictIn K a.aC=true
 fN:mroIn K a.aC (.ref a.aC)=ag true
 lg:bH K a.aC "line"
 HA:mg "Ring"=ag (.ref a.bf)
 Lu:i4 K a.bf
 FD:XOwn K a.bf a.aW a.bP
 LX:XIsi K a.bf
 x6:hasDictIn K a.bf=true
 iX:mroIn K a.bf (.ref a.aC)=ag false
 iU:mroIn K a.bf (.ref a.aV)=ag false
 iW:mroIn K a.bf (.ref a.aA)=ag false
 iV:mroIn K a.bf (.ref a.az)=ag false
 jt:mroIn K a.bf (.ref a.aG)=ag false
 mf:mroIn K a.bf (.ref a.bf)=ag true
 qq:bH K a.bf "ring"
 km:mg "KEPT_DEPTH"=ag (.int 12 a.jS)
 ER:mg "LETTERS"=ag (.str "abcdefghijklmnopqrstuvwxyz" a.pM)
 sf:mg "LONGEST_NAME"=ag (.int 6 a.iO)
 BK:mg "MOST_INS"=ag (.int 6 a.nQ)
 yc:mg "MOST_OUTS"=ag (.int 6 a.lR)
 uh:mg "MOST_STORES"=ag (.int 16 a.jg)
 yb:mg "MOST_SUMS"=ag (.int 40 a.lQ)
 vY:mg "MOST_WIRES"=ag (.int 24 a.jR)
 vX:mg "NAME_SIGNS"=ag (.str "abcdefghijklmnopqrstuvwxyz0123456789" a.jQ)
 Lg:mg "all"=gs
 Lf:mg "any"=gs
 vD:mg "dict"=gs
 hX:mg "enumerate"=gs
 cq:mg "isinstance"=gs
 cK:mg "len"=gs
 gx:mg "list"=gs
 jx:mg "range"=gs
 AI:mg "reversed"=gs
 MD:mg "set"=gs
 Jj:mg "str"=gs
 iY:mg "tuple"=gs
 MC:mg "zip"=gs
section
variable {P:ry} {w:zt} {K:a'} {mg:CD} {base:MT} {a:Ad}
theorem iC (T:Tx K mg a):FnOk P w K mg base CX0 1 a.gz a.rh ["thing"] (uZ K):=by
 refine T.gA.1.okA Ae fun α A outer s H vs Q E β h=>?_;obtain⟨x,k,rfl,hk,hz,q⟩:=h;have L:=q H (Same.refl H)
 refine⟨_,((af (bE (PW.pt (j5 (j6 (dE (aB (eT (K:=K) rfl) @D T.cq L' (aa (pv 0) (aa (jv (v:= .ty "str") @D T.Jj Pm rfl) ae))))) (j5 (ax gN (pv 0) aD (aP _)) (j4 (ax nY (aB (aF (K:=K) rfl) @D T.cK kf (aa (pv 0) ae)) (g8 (v:= .int 6) @D T.sf ⟨_,rfl⟩) (aP _)))))) (aq (aJ p7)) aH)
  (aq (aJ (DS (ju p9 (!j yY (pv 0) ah) (g8 (v:= .str "abcdefghijklmnopqrstuvwxyz") @D T.ER ⟨_,rfl⟩) @D) (DQ (aB (wH (K:=K) rfl rfl) @D T.Lg QV (aa (bq (osc:=ai mK) (ON:=["thing"]) (N:=["sign"]) (n:=1) (fx:=[]) rfl rfl rfl @G (Hx (pv 0)) (aQ @C) (λ_ _ _ _ _=>⟨(av (i:=0) (show oe (["sign"]:A6) from by decide +kernel) rfl @E),bp,(ju p9 (pv 0) (g8 (v:= .str "abcdefghijklmnopqrstuvwxyz0123456789") @D T.vX ⟨_,rfl⟩) @D)⟩)) ae)))))))),aN (σ':=[ag _]) rfl ?_⟩
 lia;cases x with
 | int i=>have hk:k="int":=hk;subst hk;lia;exact L
 | bl b=>have hk:k="bool":=hk;subst hk;lia;exact L
 | non=>have hk:k="NoneType":=hk;subst hk;lia;exact L
 | ref p=>rcases hk with ⟨rfl,_⟩ | ⟨rfl,_⟩ | ⟨rfl,_⟩<;>lia<;>exact L
 | str z=>
   have hk:k="str":=hk;subst hk;have hz:=hz z rfl;have hs:z.length<=sizeLine:=Pj (zj hz);have q:∀H',Same H H'->Q (.bl (nm z.cps.toList)) H':=q;have L:=q H (Same.refl H);lia;by_cases h1:z=""
   ·rw[xi.mp h1] at L;refine eh (by rw[fZ];rw[h1]) ?_;lia;exact L
   ·refine eA (by rw[fy];exactλz=>h1 (V.str.inj z)) ?_;lia
    obtain⟨c,r,ψ⟩:∃c r,z.cps.toList=c::r:=by
     cases hl:z.cps.toList with
     | nil=>exact ik (xi.mpr hl) h1
     | cons c r=>exact⟨c,r,rfl⟩
    have O:=cM z;rw[ψ] at L O;have q:∀H',Same H H'->Q (.bl (decide ((c::r).length<=6)&&low c&&(c::r).all λc=>low c||fig c)) H':=λH' s=>by have:=q H' s;rw[ψ] at this;exact this
    by_cases h2:(6:Int) < z.length
    ·refine eh (fZ h2) ?_;lia;have:=q H (Same.refl H);rw[fy (show ¬(c::r).length<=6 by omega)] at this;exact this
    ·refine eA (fy h2) ?_;rw[fZ (show(c::r).length<=6 by omega)] at q;lia;refine Gk hs (c:=c) (by rw[ψ];exact c6 (j:=0) rfl) ?_;lia;rw[Pd,memL];cases Y:low c
     ·rw[Y] at q;lia;exact q H (Same.refl H)
     ·rw[Y] at q;lia;intro D f;refine ze (Cs (λi ys=>ys=(((c::r).take i).map λc=>low c||fig c).map V.bl) H D) (Cs.zero f rfl) (λi d ys H' hd ⟨e,s,at',len⟩=>?_) (λys H' ⟨e,s,at',len⟩=>?_)
      ·have hi:i < z.cps.size:=(Nw.mp hd).1;have Z:(c::r)[i]? =ag d:=by rw[<-ψ];simpa using hd
       lia;rw[Pd,memN];refine Cs.put f s at' len (by have:z.cps.size=z.length:=rfl;omega) ?_;rw[e,Q5,Z,hh,hh];rfl
      ·have hsz:z.cps.size=(c::r).length:=O.symm;rw[hsz,mu] at e;refine Ht (SqL.of (by rw[at',e])) ?_;have:=q H' s;rw[Qp];exact this
 | _=>exact LI hk
theorem sH (T:Tx K mg a):FnOk P w K mg base CX0 1 a.gz a.rh ["thing"] (Iu K):=
 (iC T).imp λvs H Q E ⟨x,k,e,hk,hz,q⟩=>⟨x,k,e,hk,λz e=>NK (hz z e) @C,q⟩
theorem gI (T:Tx K mg a):FnOk P w K mg base CX0 1 a.bO a.cI ["self","name"] (Ge K):=by
 refine T.b9.1.okA oW λY A outer s H vs Q E Z h=>?_;obtain⟨x,C,dx,nm,rfl,O,hn,L,q⟩:=h;refine⟨_,((aq (g7 (K:=K) rfl (pv 0) (pv 1) rfl))),aN (σ':=[ag _,ag _]) rfl ?_⟩;lia;exact gX L O hn @C rfl q
theorem mV (T:Tx K mg a):FnOk P w K mg base CX0 2 a.be a.jd ["self","name","number"] (Gd a.bx):=by
 refine T.dD.1.okA mI λZ A outer s H vs Q E Y h=>?_;obtain⟨x,dx,nm,k,rfl,O,q⟩:=h
 refine⟨_,((af (bB (p5 @D T.EN T.cI (gI T) (Y.mono @C) T.b9.2 .nil ip (aa (pv 0) (aa (pv 1) ae))))
  (aq (g7 (K:=K) rfl (pv 0) (pv 2) rfl)))),aN (σ':=[ag _,ag _,ag _]) rfl ?_⟩
 lia;refine⟨x,_,dx,nm,rfl,T.uM,T.nh,O,λH2 u=>?_⟩;lia;exact gX u.at' T.uM T.qy (by show 1 < 1000;decide) rfl fun α L=>q α (u.trans L)
theorem ka (T:Tx K mg a):FnOk P w K mg base CX0 2 a.aT a.gJ ["self","name","wire","number"] (Gb a.aI):=by
 refine T.cC.1.okA jU λZ A outer s H vs Q E Y h=>?_;obtain⟨x,dx,nm,wr,k,rfl,O,q⟩:=h
 refine⟨_,((af (bB (p5 @D T.EN T.cI (gI T) (Y.mono @C) T.b9.2 .nil ip (aa (pv 0) (aa (pv 1) ae))))
  (af (g7 (K:=K) rfl (pv 0) (pv 2) rfl)
  (aq (g7 (K:=K) rfl (pv 0) (pv 3) rfl))))),aN (σ':=[ag _,ag _,ag _,ag _]) rfl ?_⟩
 lia;refine⟨x,_,dx,nm,rfl,T.jH,T.jK,O,λH2 u=>?_⟩;lia;refine gX u.at' T.jH T.o8 (by show 1 < 1000;decide) rfl fun β L=>?_;lia;exact gX L.at' T.jH T.mZ (by show 2 < 1000;decide) rfl fun α ι=>q α ((u.trans L).trans ι)
theorem mj (T:Tx K mg a):FnOk P w K mg base CX0 2 a.bb a.iH ["self","name","wires"] (Dc K a.aZ):=by
 refine T.c7.1.okA lU fun β A outer s H vs Q E α h=>?_;obtain⟨x,dx,nm,tw,ws,rfl,O,L,q⟩:=h;have Y:tw≠x:=hU O L λz=>by cases z
 refine⟨_,((af (bB (p5 @D T.EN T.cI (gI T) (α.mono @C) T.b9.2 .nil ip (aa (pv 0) (aa (pv 1) ae))))
  (aq (g7 (K:=K) rfl (pv 0) (aX (dw (K:=K) rfl) @D T.iY M4 (aa (pv 2) ae)) rfl)))),aN (σ':=[ag _,ag _,ag _]) rfl ?_⟩
 lia;refine⟨x,_,dx,nm,rfl,T.rJ,T.kX,L,λH2 u=>?_⟩;have Z:=u.oth _ _ Y O;lia;exact gX u.at' T.rJ T.qp (by show 1 < 1000;decide) rfl fun γ ι=>q γ (u.trans ι)
section
local macro_rules | `(tactic| walk_at "l2step") =>`(tactic| first | ((with_reducible refine' c_whole ?e ?_);(case e=>walk_at "l2kind")) | ((with_reducible refine' c_mask ?e ?_);(case e=>walk_at "l2kind")) | (with_reducible refine bF ?_) | (with_reducible refine s_methX ?_))
theorem xD (T:Tx K mg a):FnOk P w K mg base CX0 1 a.fQ a.sN ["row"] uX:=by
 refine T.kL.1.okA xr λZ A outer s H vs Q E α h=>?_;obtain⟨z,rfl,hl,q⟩:=h;refine⟨_,((aq (aJ (bW (K:=K) rfl ri N8 N7 jy (pv 0) (aa aD ae))))),aN (σ':=[ag _]) rfl ?_⟩;lia;refine lY @G (by rw[hJ];omega) λD H2 Y O L=>?_;rw[iw] at L;exact q D H2 Y O L
theorem Ax (T:Tx K mg a):FnOk P w K mg base CX0 1 a.ie a.wz ["text"] xk:=by
 refine T.nN.1.okA Ac λZ A outer s H vs Q E α h=>?_;obtain⟨z,rfl,hl,q⟩:=h;refine⟨_,((aq (aJ (GH (ax gN (pv 0) aD (aP _)) (bC ae) (bW (K:=K) rfl ri N8 N7 jy (pv 0) (aa aD ae)))))),aN (σ':=[ag _]) rfl ?_⟩;lia;by_cases hz:z=""
 ·refine eh (fZ (by rw[hz])) ?_;rw[kn hz] at q;lia;intro D H2 Y O L;exact q D H2 Y O L
 ·refine eA (fy λe=>hz (V.str.inj e)) ?_;rw[hQ hz] at q;lia;refine lY @G (by rw[hJ];omega) λD H2 Y O L=>?_;rw[jT] at L;exact q D H2 Y O L
theorem xG (T:Tx K mg a):FnOk P w K mg base CX0 2 a.fU a.sQ ["words"] Dd:=by
 refine T.kN.1.okA xu λa3 A outer s H vs Q E ι h=>?_;obtain⟨l,r,rfl,hl,l1,l2,lw,q⟩:=h
 have nms:∀{H':Hp} {k:Nat} {ρ:VK} {φ:XK},k < r.length->(∀H2,Same H' H2->ρ (.bl (nmB (r.getD k ""))) H2)->uZ K [.str (r.getD k "")] H' ρ φ:=λ{H' k ρ φ} hk hq=>
  ⟨_,"str",rfl,rfl,λz e=>by cases e;rw[hB,c' hk];exact lw _ (Ny hk),hq⟩
 have Y:atI (r.map V.str) 0=ag (.str (r.getD 0 "")):=lL (k:=0) @A
 refine⟨_,((af (bE (ax (sG (K:=K) rfl) (!j (ay (K:=K) rfl) (pv 0) ah) (bN (aa aD (aa aD ae))) @D) (aq (aJ (DS (ju gN (aB (aF (K:=K) rfl) @D T.cK kf (aa (pv 0) ae)) ah (aP _)) (DQ (aw (iC T) ι T.kj T.gA (aa (!j (ay (K:=K) rfl) (pv 0) ah) ae)))))) aH)
  (af (bE (PW.pt (j5 (ax (j8 (K:=K) rfl) (!j (ay (K:=K) rfl) (pv 0) ah) (bN (aa aD (aa aD ae))) @D) (j5 (ax Aw (aB (aF (K:=K) rfl) @D T.cK kf (aa (pv 0) ae)) ah (aP _)) (j4 (ax xC (!j (ay (K:=K) rfl) (pv 0) ah) aD (aP _)))))) (aq (aJ p7)) aH)
  (nW (bE (PW.pt (oK (ax gN (!j (ay (K:=K) rfl) (pv 0) ah) aD (aP _)) (mh (ax xC (aB (aF (K:=K) rfl) @D T.cK kf (aa (pv 0) ae)) ah (aP _))))) (aq (aJ p7)) aH)
  (aq (aJ (DS (aw (iC T) ι T.kj T.gA (aa (!j (ay (K:=K) rfl) (pv 0) ah) ae)) (DQ (aB (wH (K:=K) rfl rfl) @D T.Lg QV (aa (bq (osc:=ai kE) (ON:=n12) (N:=["word"]) (n:=1) (fx:=[]) rfl rfl rfl @G (aM (K:=K) rfl (bQ (cB (K:=K) rfl) (pv 0) (cF ah) cG)) (aQ @C) (λ_ _ _ _ _=>⟨(av (i:=0) (show oe (["word"]:A6) from by decide +kernel) rfl @E),bp,(aw (iC T) ι T.kj T.gA (aa (pv 0) ae))⟩)) ae)))))))))),aN (σ':=[ag _]) rfl ?_⟩
 lia;intro D1 H1 f1 β e1;refine Ms (zs:=["in","out"]) e1 ?_;have hl1:=β.get hl;by_cases h1:r.getD 0 ""="in"∨r.getD 0 ""="out"
 ·rw[fZ (show r.getD 0 ""∈(["in","out"]:A6) by rcases h1 with e | e<;>rw[e]<;>simp)];have hf:cf r=(decide (r.length=2)&&nmB (r.getD 1 "")):=by unfold cf;rw[kn h1]
  lia;rw[ak];by_cases h2:r.length=2
  ·rw[fZ (show V.int (r.length:Int)=V.int 2 by rw[h2];rfl)];have a1:atI (r.map V.str) 1=ag (.str (r.getD 1 "")):=lL (k:=1) @A;lia;refine nms @A λH2 α=>?_;rw[hf,fZ h2,Rp] at q;exact q H2 (β.trans α)
  ·rw[fy (λe=>h2 (by have:=V.int.inj e;omega))];rw[hf,fy h2,Pc] at q;lia;exact q H1 β
 ·rw[fy (show ¬r.getD 0 ""∈(["in","out"]:A6) by intro e;simp at e;exact h1 e)];lia;intro D2 H2 f2 α e2;have L:=β.trans α;have hl2:=α.get hl1;refine Gi (zs:=["sum","store"]) e2 ?_;by_cases h2:r.getD 0 ""≠"sum"/\r.getD 0 ""≠"store"
  ·rw[fy (show ¬r.getD 0 ""∈(["sum","store"]:A6) by intro e;simp at e;rcases e with e | e;exact h2.1 e;exact h2.2 e)];have hf:cf r=false:=by unfold cf;rw[hQ h1,kn h2]
   rw[hf] at q;lia;exact q H2 L
  have π:r.getD 0 ""="sum"∨r.getD 0 ""="store":=by
   by_cases e:r.getD 0 ""="sum"
   ·exact .inl e
   ·exact .inr (Ob.mp λe'=>h2 ⟨e,e'⟩)
  rw[fZ (show r.getD 0 ""∈(["sum","store"]:A6) by rcases π with e | e<;>rw[e]<;>simp)];lia;rw[ak];by_cases ζ:r.length < 3
  ·rw[fZ (show(r.length:Int) < 3 by omega)];have hf:cf r=false:=by unfold cf;rw[hQ h1,hQ h2,kn ζ]
   rw[hf] at q;lia;exact q H2 L
  rw[fy (show ¬(r.length:Int) < 3 by omega)];have ο:atI (r.map V.str) 2=ag (.str (r.getD 2 "")):=lL (k:=2) @A;have a1:atI (r.map V.str) 1=ag (.str (r.getD 1 "")):=lL (k:=1) @A;lia;by_cases ε:r.getD 2 ""≠"="
  ·rw[fy (λe=>ε (V.str.inj e))];have hf:cf r=false:=by unfold cf;rw[hQ h1,hQ h2,hQ ζ,kn ε]
   rw[hf] at q;lia;exact q H2 L
  have ν:=Ob.mp ε;rw[fZ (show V.str (r.getD 2 "")=V.str "=" by rw[ν])];lia;refine s_cut (fun σ' H'=>σ'=[ag (.ref l)]/\H'=H2/\¬(r.getD 0 ""="store"/\r.length≠4)) ?_ ?_
  ·lia;by_cases Z:r.getD 0 ""="store"
   ·dsimp only;refine eh (fZ (by rw[Z])) ?_;lia;rw[ak];by_cases δ:r.length=4
    ·rw[fZ (show V.int (r.length:Int)=V.int 4 by rw[δ];rfl)];lia;exactλe=>e.2 δ
    ·rw[fy (λe=>δ (by have:=V.int.inj e;omega))];have hf:cf r=false:=by unfold cf;rw[hQ h1,hQ h2,hQ ζ,hQ ε,kn ⟨Z,δ⟩]
     rw[hf] at q;lia;exact q H2 L
   ·dsimp only;refine eA (fy λe=>Z (V.str.inj e)) ?_;lia;exactλe=>Z e.1
  ·rintro σ' H' ⟨rfl,rfl,Z⟩;have hf:cf r=(nmB (r.getD 1 "")&&(r.drop 3).all nmB):=by unfold cf;rw[hQ h1,hQ h2,hQ ζ,hQ ε,hQ Z]
   rw[hf] at q;lia;refine nms @A λH3 η=>?_;have ψ:=η.get hl2;cases hn:nmB (r.getD 1 "") with
   | false=>
     rw[hn,Pc] at q;lia;exact q H3 (L.trans η)
   | true=>
     rw[hn,Rp] at q;lia;intro D4 H4 f4 χ υ;rw[show cutV (r.map V.str) (ag 3) gs=(r.drop 3).map V.str from nK r 3 @A] at υ;have θ:=L.trans (η.trans χ);lia;intro D5 ξ;refine aL (xs:=(r.drop 3).map V.str) (λi ys H'=>Cs (λi ys=>ys=(((r.drop 3).take i).map nmB).map V.bl) H4 D5 i ys H') (Cs.zero ξ rfl) (λi ys H' _ c=>SqL.of (c.same.get υ)) (λi x ys H' ω c=>?_) (λys H5 c=>?_)
     ·obtain⟨w',O,rfl⟩:=aR ω;have hi:=(b'.mp O).1;rw[MX] at hi;lia;refine⟨_,"str",rfl,rfl,λz e=>by cases e;exact lw _ (List.mem_of_mem_drop (hA O)),λH6 τ=>?_⟩;refine Cs.put ξ (c.same.trans τ) (τ.get c.at') c.len @A ?_;rw[c.pv,take_succ O,hh,hh];rfl
     ·have γ:=c.at';rw[c.pv,ak,mu] at γ;lia;refine Ht (SqL.of γ) ?_;rw[Qp];exact q _ (θ.trans c.same)
section
local macro_rules | `(tactic| walk_at "l2step") =>`(tactic| first | (with_reducible refine s_try ?_))
local macro_rules | `(tactic| walk_at "l2step") =>`(tactic| first | (with_reducible refine jW ?_))
local macro_rules | `(tactic| walk_at "l2step") =>`(tactic| first | (with_reducible refine iA ?_) | (with_reducible refine s_tryH ?_) | (with_reducible refine oI ?_) | (with_reducible refine oG ?_))
theorem GM (T:Tx K mg a):FnOk P w K mg base CX0 1 a.nD a.zd ["thing","depth"] Me:=by
 refine T.lP.1.ok xt (λvs H Q E h=>?_) (λL A outer s H vs Q E O h=>?_)
 ·exact LI h
 ·exact LI h
theorem GL (T:Tx K mg a):FnOk P w K mg base CX0 2 a.nD a.zd ["thing","depth"] C9:=by
 refine T.lP.1.okA xt λO A outer s H vs Q E L h=>?_;obtain⟨v,k,d,rfl,ω,q⟩:=h
 refine⟨_,((af (bE (ax gN (pv 1) ah (aP _)) (aq (aJ (pv 0))) aH)
  (af (bE (dE (aB (eT (K:=K) rfl) @D T.cq L' (aa (pv 0) (aa (jv (v:= .ty "list") @D T.gx qR rfl) ae)))) (aq (aJ (bq (osc:=ai vg) (ON:=["thing","depth"]) (N:=["part","depth"]) (n:=1) (fx:=[1]) rfl rfl rfl @G (aM (K:=K) rfl (pv 0)) (aQ @C) (λ_ _ _ _ _=>⟨(av (i:=0) (show oe (["part","depth"]:A6) from by decide +kernel) rfl @E),bp,(aw (GM T) L T.vU T.lP (aa (pv 0) (aa (aE vx (pv 1) ah) ae)))⟩)))) aH)
  (af (bE (dE (aB (eT (K:=K) rfl) @D T.cq L' (aa (pv 0) (aa (jv (v:= .ty "tuple") @D T.iY M4 rfl) ae)))) (aq tM) aH)
  (af (bE (dE (aB (eT (K:=K) rfl) @D T.cq L' (aa (pv 0) (aa (jv (v:= .ty "dict") @D T.vD NY rfl) ae)))) (aq tM) aH)
  (aq (aJ (pv 0)))))))),aN (σ':=[ag _,ag _]) rfl ?_⟩
 lia;by_cases hd:d=0
 ·refine eh (fZ (by rw[hd])) ?_;lia;exact q
 ·refine eA (fy λz=>hd (V.int.inj z)) ?_;cases ω<;>(lia;exact q)
theorem xF (T:Tx K mg a):FnOk P w K mg base CX0 3 a.nD a.zd ["thing","depth"] Da:=by
 refine T.lP.1.okA xt λZ A outer s H vs Q E Y h=>?_;obtain⟨v,k,rfl,th,q⟩:=h
 refine⟨_,((af (bE (ax gN (pv 1) ah (aP _)) (aq (aJ (pv 0))) aH)
  (af (bE (dE (aB (eT (K:=K) rfl) @D T.cq L' (aa (pv 0) (aa (jv (v:= .ty "list") @D T.gx qR rfl) ae)))) (aq (aJ (bq (osc:=ai vg) (ON:=["thing","depth"]) (N:=["part","depth"]) (n:=1) (fx:=[1]) rfl rfl rfl @G (aM (K:=K) rfl (pv 0)) (aQ @C) (λ_ _ _ _ _=>⟨(av (i:=0) (show oe (["part","depth"]:A6) from by decide +kernel) rfl @E),bp,(aw (GL T) Y T.vU T.lP (aa (pv 0) (aa (aE vx (pv 1) ah) ae)))⟩)))) aH)
  (af (bE (dE (aB (eT (K:=K) rfl) @D T.cq L' (aa (pv 0) (aa (jv (v:= .ty "tuple") @D T.iY M4 rfl) ae)))) (aq tM) aH)
  (af (bE (dE (aB (eT (K:=K) rfl) @D T.cq L' (aa (pv 0) (aa (jv (v:= .ty "dict") @D T.vD NY rfl) ae)))) (aq tM) aH)
  (aq (aJ (pv 0)))))))),aN (σ':=[ag _,ag _]) rfl ?_⟩
 cases th with
 | str z l=>lia;exact q _ H (Same.refl _) (.str z l)
 | int i=>lia;exact q _ H (Same.refl _) (.int i)
 | bl b=>lia;exact q _ H (Same.refl _) (.bl b)
 | non=>lia;exact q _ H (Same.refl _) .non
 | nil e=>
   lia;intro D O;refine aL (xs:=[]) (λi ys H'=>Cs (λi ys=>ys=[]) H D i ys H') (Cs.zero O rfl) (λi ys H' _ c=>SqL.of (c.same.get e)) (λi v ys H' ρ c=>by simp at ρ) (λys H' c=>?_);have L:=c.at';rw[c.pv] at L;lia;exact q _ H' c.same (.nil L)
 | one l e=>
   rename_i p z;lia;intro D O;refine aL (xs:=[.str z]) (λi ys H'=>Cs (λi ys=>ys=([V.str z]).take i) H D i ys H') (Cs.zero O rfl) (λi ys H' _ c=>SqL.of (c.same.get e)) (λi v ys H' ρ c=>?_) (λys H' c=>?_)
   ·have hi:i=0:=by
     have:=(b'.mp ρ).1;simp only[y1,Pk] at this;omega
    subst hi;cases ρ;lia;refine⟨.str z,"str",_,rfl,.str z l,?_⟩;refine Cs.put O c.same c.at' c.len @A ?_;rw[c.pv];rfl
   ·have L:=c.at';rw[c.pv] at L;have L:H' D=ag (.lst [.str z]):=L;lia;exact q _ H' c.same (.one l L)
theorem mU (T:Tx K mg a):FnOk P w K mg base CX0 4 a.bz a.jc ["self","name"] (kD a.aG):=by
 refine T.dC.1.okA mH fun γ A outer s H vs Q E α h=>?_;obtain⟨p,v,k,rfl,ω,e,q⟩:=h
 refine⟨_,((af (bB (mT (K:=K) rfl @D T.ia T.gT (aa (pv 0) (aa aD ae))))
  (aq (p3 (K:=K) rfl (pv 0) (aw (xF T) α T.vU T.lP (aa (pv 1) (aa (g8 (v:= .int 12) @D T.km ⟨_,rfl⟩) ae))) rfl)))),aN (σ':=[ag _,ag _]) rfl ?_⟩
 lia;refine jV e T.uL ?_;lia;refine⟨v,k,rfl,ω,fun π H1 O cp=>?_⟩;have Y:=O.get e;lia;refine mJ Y T.uL T.nc λH2 β L=>?_;lia;refine q π H2 β (λb u hb Z=>L _ _ hb (O.get Z)) (cp.keep fun δ ys _ ο=>L _ _ (λz=>by rw[z,Y] at ο;cases ο) ο)
theorem mm (T:Tx K mg a):FnOk P w K mg base CX0 4 a.bh a.iJ ["self","name"] (kD a.aA):=by
 refine T.c9.1.okA lW fun γ A outer s H vs Q E α h=>?_;obtain⟨p,v,k,rfl,ω,e,q⟩:=h
 refine⟨_,((af (bB (mT (K:=K) rfl @D T.ia T.gT (aa (pv 0) (aa aD ae))))
  (aq (p3 (K:=K) rfl (pv 0) (aw (xF T) α T.vU T.lP (aa (pv 1) (aa (g8 (v:= .int 12) @D T.km ⟨_,rfl⟩) ae))) rfl)))),aN (σ':=[ag _,ag _]) rfl ?_⟩
 lia;refine jV e T.rF ?_;lia;refine⟨v,k,rfl,ω,fun π H1 O cp=>?_⟩;have Y:=O.get e;lia;refine mJ Y T.rF T.k7 λH2 β L=>?_;lia;refine q π H2 β (λb u hb Z=>L _ _ hb (O.get Z)) (cp.keep fun δ ys _ ο=>L _ _ (λz=>by rw[z,Y] at ο;cases ο) ο)
theorem ml (T:Tx K mg a):FnOk P w K mg base CX0 4 a.bg a.iI ["self","name"] (kD a.az):=by
 refine T.c8.1.okA lV fun γ A outer s H vs Q E α h=>?_;obtain⟨p,v,k,rfl,ω,e,q⟩:=h
 refine⟨_,((af (bB (mT (K:=K) rfl @D T.ia T.gT (aa (pv 0) (aa aD ae))))
  (aq (p3 (K:=K) rfl (pv 0) (aw (xF T) α T.vU T.lP (aa (pv 1) (aa (g8 (v:= .int 12) @D T.km ⟨_,rfl⟩) ae))) rfl)))),aN (σ':=[ag _,ag _]) rfl ?_⟩
 lia;refine jV e T.rE ?_;lia;refine⟨v,k,rfl,ω,fun π H1 O cp=>?_⟩;have Y:=O.get e;lia;refine mJ Y T.rE T.kZ λH2 β L=>?_;lia;refine q π H2 β (λb u hb Z=>L _ _ hb (O.get Z)) (cp.keep fun δ ys _ ο=>L _ _ (λz=>by rw[z,Y] at ο;cases ο) ο)
theorem o4 (T:Tx K mg a):FnOk P w K mg base CX0 4 a.bP a.ku ["self","ring"] (F2 a.bf):=by
 refine T.fg.1.okA oX fun γ A outer s H vs Q E δ h=>?_;obtain⟨p,l,zs,rfl,el,e,q⟩:=h
 refine⟨_,((af (bB (mT (K:=K) rfl @D T.ia T.gT (aa (pv 0) (aa aD ae))))
  (aq (p3 (K:=K) rfl (pv 0) (aX (bX (K:=K) rfl) @D T.gx qR (aa (pv 1) ae)) rfl)))),aN (σ':=[ag _,ag _]) rfl ?_⟩
 lia;refine jV e T.FD ?_;lia;intro D H1 ε Y L;have α:=Y.get e;lia;refine mJ α T.FD T.qq λH2 β O=>?_;lia;exact q D H2 β (λb u hb Z=>O _ _ hb (Y.get Z)) (O _ _ (λz=>by rw[z,α] at L;cases L) L)
theorem CH {H H2 β Y:Hp} {C x:eH} {π:V} {d:Dt} (δ:Same H H2) (L:H2 x=gs) (γ:Same H2 β) (ε:ExcV Y x C [("name",π)]) (O:∀b u,b≠x->β b=ag u->Y b=ag u) (cp:Tg Y π d):∃dx,Y x=ag (ExcF x C (ag dx))/\TldD H (del Y x) dx d:=by
 obtain⟨dx,α,ο⟩:=L9 (H:=H2) L ε λb u Z ζ=>O _ _ Z (γ.get ζ);exact⟨dx,α,π,ο.pre δ,cp.keep fun η ys _ ρ=>by rw[lC (λz=>by rw[z,α] at ρ;cases ρ)];exact ρ⟩
theorem jw (T:Tx K mg a):FnOk P w K mg base (CX1 P w) 6 a.dk a.oO ["wire","known"] (z7 a.aG):=by
 refine T.cu.1.okX tH (λvs H Q E h=>?_) (fun τ A outer s H vs Q E γ h=>?_)
 ·obtain⟨v,k,d,zs,rfl,_⟩:=h;rfl
 ·obtain⟨v,k,d,zs,rfl,ω,⟨θ,ν,ι⟩,nms,α,η⟩:=h;have Z:=ED γ
  have fin:∀{H2:Hp} (σ:St),Same H H2->(∀z∈zs,k≠.str z)->uK a.aG (kD a.aG) E0 (λ_=>E) σ [v] H2:=λ{H2} σ Y hb=>i6 λx χ L ζ ρ=>⟨x,v,k,rfl,(ω.same Y).same ζ,ρ,fun π φ ξ O cp=>by
   obtain⟨dx,υ,ο⟩:=CH Y L ζ ξ O cp;exact⟨rfl,ag dx,υ,η hb _ dx ο⟩⟩
  obtain⟨kd,δ⟩:=ω.kind (K:=K);refine⟨_,((aq (bE (PW.pt (j5 (j6 (dE (aw (sH T) γ T.kj T.gA (aa (pv 0) ae)))) (j4 (DN (DT Z (pv 0) (pv 1)))))) (aq (j7 T.uL (mU T) (γ.mono @C) @D T.y3 T.dC.2 ip bU rfl (aa (pv 0) ae))) aH))),aN (σ':=[ag _,ag _]) rfl ?_⟩;lia;refine⟨v,kd,rfl,δ,ω.len,λH2 Y=>?_⟩;by_cases hn:AH v=true
  ·rw[hn];cases ω with
   | nil=>cases hn
   | one=>cases hn
   | int=>cases hn
   | bl=>cases hn
   | non=>cases hn
   | str z l=>
     have ε:=Y.get ν;lia;refine IL ε ?_;rw[mF ι z];by_cases hz:z∈zs
     ·rw[fZ hz];lia;exact α z hz rfl H2 Y
     ·rw[fy hz];lia;exact fin _ Y λy β e=>hz (by cases e;exact β)
  ·rw[show AH v=false by simpa using hn];lia;exact fin _ Y λy β e=>hn (by rw[ω.name,e];exact nms y β)
theorem mn (T:Tx K mg a):FnOk P w K mg base CX0 4 a.bj a.iK ["self","line"] (F3 a.aC):=by
 refine T.dc.1.okA lX λY A outer s H vs Q E Z h=>?_;obtain⟨p,k,rfl,e,q⟩:=h
 refine⟨_,((af (bB (mT (K:=K) rfl @D T.ia T.gT (aa (pv 0) (aa aD ae))))
  (aq (p3 (K:=K) rfl (pv 0) (pv 1) rfl)))),aN (σ':=[ag _,ag _]) rfl ?_⟩
 lia;refine jV e T.rG ?_;lia;refine mJ e T.rG T.lg λH2 O L=>?_;lia;exact q H2 O L
end
section
local macro_rules | `(tactic| walk_at "l2step") =>`(tactic| first | (with_reducible refine s_try ?_))
local macro_rules | `(tactic| walk_at "l2step") =>`(tactic| first | (with_reducible refine jW ?_))
local macro_rules | `(tactic| walk_at "l2step") =>`(tactic| first | (with_reducible refine iA ?_) | (with_reducible refine s_tryH ?_) | (with_reducible refine oI ?_) | (with_reducible refine oG ?_))
theorem rO (T:Tx K mg a):FnOk P w K mg base (CX1 P w) 1 a.cP a.nH ["ins","sums","stores","outs"] (xp a.aV):=by
 refine T.eZ.1.okX rM (λvs H Q E h=>?_) (fun ι A outer s H vs Q E π h=>?_)
 ·obtain⟨i,s,t,o,is,rs,qs,os,rfl,_⟩:=h;rfl
 ·obtain⟨i,s,t,o,is,rs,qs,os,rfl,hn,ξ,ν,α,O⟩:=h;have hi:=hn.i;have hs:=hn.s;have ο:=hn.t;have ho:=hn.o;have line:∀{X:Prop},X->([V.str "a"].length<=jF/\X):=λh=>⟨by rw[hJ];decide,h⟩
  refine⟨_,((af (bE (ax nY (aB (aF (K:=K) rfl) @D T.cK kf (aa (pv 0) ae)) (g8 (v:= .int 6) @D T.BK ⟨_,rfl⟩) (aP _)) (aq (mS N6 T.eC bU rfl @D T.ja (aa aD ae))) aH)
   (af (bE (ax nY (aB (aF (K:=K) rfl) @D T.cK kf (aa (pv 1) ae)) (g8 (v:= .int 40) @D T.yb ⟨_,rfl⟩) (aP _)) (aq (mS N6 T.eC bU rfl @D T.ja (aa aD ae))) aH)
   (af (bE (ax nY (aB (aF (K:=K) rfl) @D T.cK kf (aa (pv 2) ae)) (g8 (v:= .int 16) @D T.uh ⟨_,rfl⟩) (aP _)) (aq (mS N6 T.eC bU rfl @D T.ja (aa aD ae))) aH)
   (af (bE (ax nY (aB (aF (K:=K) rfl) @D T.cK kf (aa (pv 3) ae)) (g8 (v:= .int 6) @D T.yc ⟨_,rfl⟩) (aP _)) (aq (mS N6 T.eC bU rfl @D T.ja (aa aD ae))) aH)
   (aq (bE (dE (aB (wG (K:=K) rfl rfl) @D T.Lf QU (aa (bq (osc:=ai gL) (ON:=["ins","sums","stores","outs"]) (N:=n10) (n:=1) (fx:=[]) rfl rfl rfl @G (aM (K:=K) rfl (pv 1)) (aQ @C) (λ_ _ _ _ _=>⟨(av (i:=0) (show oe (n10:A6) from by decide +kernel) rfl @E),bp,(ju nY (aB (aF (K:=K) rfl) @D T.cK kf (aa (!j (bt (K:=K) rfl) (pv 0) ah) ae)) (g8 (v:= .int 24) @D T.vY ⟨_,rfl⟩) (aP _))⟩)) ae))) (aq (mS N6 T.eC bU rfl @D T.ja (aa aD ae))) aH))))))),aN (σ':=[ag _,ag _,ag _,ag _]) rfl ?_⟩
  lia;by_cases η:6 < is.length
  ·refine eh (fZ @A) ?_;lia;exact⟨by rw[hJ];decide,O (by rw[fZ η];rfl) H (Same.refl _)⟩
  refine eA (fy @A) ?_;lia;rw[ak];by_cases ρ:40 < rs.length
  ·refine eh (fZ @A) ?_;lia;exact⟨by rw[hJ];decide,O (by rw[fZ ρ,P8];rfl) H (Same.refl _)⟩
  refine eA (fy @A) ?_;lia;rw[ak];by_cases ζ:16 < qs.length
  ·refine eh (fZ @A) ?_;lia;exact⟨by rw[hJ];decide,O (by rw[fZ ζ,P8];rfl) H (Same.refl _)⟩
  refine eA (fy @A) ?_;lia;by_cases ε:6 < os.length
  ·refine eh (fZ @A) ?_;lia;exact⟨by rw[hJ];decide,O (by rw[fZ ε,P8];rfl) H (Same.refl _)⟩
  refine eA (fy @A) ?_;lia;intro D Y;refine aL (xs:=rs.map λr=>V.ref r.1) (λi ys H'=>Cs (λi ys=>ys=((rs.take i).map λr=>decide (24 < r.2.2.2.length)).map V.bl) H D i ys H') (Cs.zero Y rfl) (λi ys H' _ c=>SqL.of (c.same.get hs)) (λi x ys H' θ c=>?_) (λys H' c=>?_)
  ·obtain⟨r,L,rfl⟩:=aR θ;have hi:=(b'.mp L).1;have hm:=hA L;have er:=c.same.get (hn.sr r hm).1;have δ:decide ((24:Int) < (r.2.2.2.length:Int))=decide (24 < r.2.2.2.length):=by rw[Nl,wh,wh];omega
   rcases(hn.sr r hm).2 with ew | ew
   ·have ew:=c.same.get ew;lia;rw[δ];refine Cs.put Y c.same c.at' c.len @A ?_;rw[c.pv,take_succ L,hh,hh];rfl
   ·have ew:=c.same.get ew;lia;rw[δ];refine Cs.put Y c.same c.at' c.len @A ?_;rw[c.pv,take_succ L,hh,hh];rfl
  ·have γ:=c.at';rw[c.pv,ak,mu] at γ;have Z:((rs.map λr=>decide (24 < r.2.2.2.length)).any id)=rs.any λr=>decide (24 < r.2.2.2.length):=by rw[T6];rfl
   lia;refine Hs (SqL.of γ) ?_;rw[Z];cases β:rs.any λr=>decide (24 < r.2.2.2.length) with
   | true=>
     lia;exact⟨by rw[hJ];decide,O (by rw[β,P8]) H' c.same⟩
   | false=>
     lia;exact α (by rw[β,fy η,fy ρ,fy ζ,fy ε];rfl) H' c.same
end
section
local macro_rules | `(tactic| walk_at "l2step") =>`(tactic| first | (with_reducible refine s_try ?_))
local macro_rules | `(tactic| walk_at "l2step") =>`(tactic| first | (with_reducible refine jW ?_))
local macro_rules | `(tactic| walk_at "l2step") =>`(tactic| first | (with_reducible refine iA ?_) | (with_reducible refine s_tryH ?_) | (with_reducible refine oI ?_) | (with_reducible refine oG ?_))
theorem rP (T:Tx K mg a):FnOk P w K mg base (CX1 P w) 6 a.cQ a.nI ["names"] (xq a.aA a.az):=by
 refine T.fc.1.okX iP (λvs H Q E h=>?_) (λa0 A outer s H vs Q E ι h=>?_)
 ·obtain⟨l,xs,ds,rfl,_⟩:=h;rfl
 ·obtain⟨l,xs,ds,rfl,hl,tg,ln,α,qB,qD⟩:=h;have Z:=ED ι
  refine⟨_,((af (aO (i:=1) iP.nd rfl @E GI)
   (aq (eO (dS ⟨rfl,rfl⟩) rfl (aM (K:=K) rfl (pv 0)) (av (i:=2) iP.nd rfl @E) (af (bE (j6 (dE (aw (sH T) ι T.kj T.gA (aa (pv 2) ae)))) (aq (j7 T.rF (mm T) (ι.mono @C) @D T.wa T.c9.2 ip bU rfl (aa (pv 2) ae))) aH)
   (af (bE (DN (DU Z (pv 2) (pv 1))) (aq (j7 T.rE (ml T) (ι.mono @C) @D T.vZ T.c8.2 ip bU rfl (aa (pv 2) ae))) aH)
   (aq (IW Z (pv 1) (pv 2) p7 rfl)))))))),aN (σ':=[ag _,gs,gs]) rfl ?_⟩
  lia;intro D H1 f1 ψ e1;have hl1:=ψ.get hl;lia;refine kJ (xs:=xs) (λi σ H'=>∃v zs,σ=[ag (.ref l),ag (.ref D),v]/\Same H H'/\zs.length=i/\(∀z∈zs,Nm z)/\nmsF ds []=nmsF (ds.drop i) zs/\∃γ:cc (Key×V),H' D=ag (.dK γ)/\γ.map (·.1)=zs.map n') ⟨gs,[],rfl,ψ,rfl,λ_ h=>ik h @F,rfl,[],e1,rfl⟩ (λi σ H' _ ⟨_,_,_,s',_⟩=>SqL.of (s'.get hl)) ?_ ?_
  ·rintro i y σ H' θ ⟨v,zs,rfl,s',lz,ν,Y,γ,eD,ξ⟩;have hi:=(b'.mp θ).1;obtain⟨d,hd⟩:∃d,ds[i]? =ag d:=⟨_,c' (by rw[<-tg.1];exact hi)⟩;have ω:=(tg.2 i y d θ hd).same s';rw[ij hd] at Y;obtain⟨kd,τ⟩:=ω.kind (K:=K);have lk:γ.length<=1000:=by have:=K' Nz ξ;rw[ak,ak] at this;omega
   lia;refine⟨y,kd,rfl,τ,ω.len,λH2 δ=>?_⟩;have ζ:=δ.get eD;cases hn:AH y with
   | false=>
     lia;refine i6 λx H3 L η φ=>⟨x,y,d,rfl,(ω.same δ).same η,φ,fun π H4 υ O cp=>?_⟩;obtain⟨dx,χ,ο⟩:=CH (s'.trans δ) L η υ O cp;exact⟨rfl,ag dx,χ,qB d (by rw[Y];exact yV (by rw[<-ω.name];exact hn) _ _) _ dx ο⟩
   | true=>
     obtain⟨z,rfl,rfl,β⟩:∃z,y= .str z/\d= .str z/\z.length<=1000:=by
      cases ω with
      | str z l=>exact⟨z,rfl,rfl,l⟩
      | nil=>cases hn
      | one=>cases hn
      | int=>cases hn
      | bl=>cases hn
      | non=>cases hn
     have ε:nm z.cps.toList=true:=hn;rw[tW,kn ε] at Y;lia;refine Du ζ ?_;rw[mF ξ z];by_cases hz:z∈zs
     ·rw[kn hz] at Y;rw[fZ hz];lia;refine i6 λx H3 L η φ=>⟨x,.str z,.str z,rfl,.str z β,φ,fun π H4 υ O cp=>?_⟩;obtain⟨dx,χ,ο⟩:=CH (s'.trans δ) L η υ O cp;exact⟨rfl,ag dx,χ,qD _ Y _ dx ο⟩
     ·rw[hQ hz] at Y;rw[fy hz];lia;refine IK ζ (bG lk) λH3 ρ=>?_;rw[IV ξ hz] at ρ;lia;refine⟨_,zs++[z],rfl,λb o e=>ρ.oth _ _ (ao e f1) (δ.get (s'.get e)),by rw[hE,lz];rfl,λy θ=>?_,Y,_,ρ.at',?_⟩
      ·rcases lx.mp θ with h | h
       ·exact ν y h
       ·rw[hC.mp h];exact ε
      ·rw[hh,ξ,hh];rfl
  ·rintro σ H' ⟨v,zs,rfl,s',lz,ν,Y,_⟩;rw[tg.1,Ox] at Y;lia;exact α Y H' s'
theorem rN (T:Tx K mg a):FnOk P w K mg base (CX1 P w) 7 a.cO a.nG ["sums","stores","outs","known"] (xo a.aG):=by
 refine T.eX.1.okX dJ (λvs H Q E h=>?_) (λa2 A outer s H vs Q E hr h=>?_)
 ·obtain⟨i,s,t,o,d,rs,qs,N,zs,θ,φ,ξ,rfl,_⟩:=h;rfl
 ·obtain⟨i,s,t,o,d,rs,qs,N,zs,θ,φ,ξ,rfl,kp,Z,ν,Y,l1,ψ,ω,α,qE⟩:=h;have hs:=kp.s;have ht:=kp.t;have ho:=kp.o;have pre:∀{H' H2:Hp} {dx:eH} {x:Dt},Same H H'->TldD H' H2 dx x->TldD H H2 dx x:=λ{H' H2 dx x} s ⟨π,⟨a,b⟩,c⟩=>⟨π,⟨s.trans a,b⟩,c⟩
  refine⟨_,((af (eO (dS ⟨rfl,rfl⟩) rfl (mi (K:=K) rfl (pv 0)) (av (i:=4) dJ.nd rfl @E) (aq (eO (dS ⟨rfl,rfl⟩) rfl (mi (K:=K) rfl (!j (bt (K:=K) rfl) (pv 4) ah)) (av (i:=5) dJ.nd rfl @E) (aq (bB (gM (jw T) (hr.mono @C) @D T.kl T.cu.1.2 T.cu.2 .nil bU (aa (pv 5) (aa (pv 3) ae))))))))
   (af (eO (dS ⟨rfl,rfl⟩) rfl (mi (K:=K) rfl (pv 1)) (av (i:=4) dJ.nd rfl @E) (aq (bB (gM (jw T) (hr.mono @C) @D T.kl T.cu.1.2 T.cu.2 .nil bU (aa (!j (bt (K:=K) rfl) (pv 4) ah) (aa (pv 3) ae))))))
   (aq (eO (dS ⟨rfl,rfl⟩) rfl (mi (K:=K) rfl (pv 2)) (av (i:=5) dJ.nd rfl @E) (aq (bB (gM (jw T) (hr.mono @C) @D T.kl T.cu.1.2 T.cu.2 .nil bU (aa (pv 5) (aa (pv 3) ae)))))))))),aN (σ':=[ag _,ag _,ag _,ag _,gs,gs]) rfl ?_⟩
  lia;refine uk (xs:=rs.map λr=>V.ref r.1) (λi σ H'=>∃τ π,σ=[ag (.ref s),ag (.ref t),ag (.ref o),ag (.ref d),τ,π]/\Same H H'/\wrsF (θ.flatten++φ++ξ) zs=wrsF ((θ.drop i).flatten++φ++ξ) zs) ⟨gs,gs,rfl,Same.refl _,rfl⟩ (λi σ H' _ ⟨_,_,_,s',_⟩=>SqT.of (s'.get hs)) ?_ ?_
  ·rintro i y σ H' ρ ⟨τ,π,rfl,s',ε⟩;obtain⟨r,γ,rfl⟩:=aR ρ;have hi:=(b'.mp γ).1;have hm:=hA γ;have er:=s'.get (kp.sr r hm).1;have ew:=s'.get (kp.sr r hm).2;obtain⟨x,hx⟩:∃x,θ[i]? =ag x:=⟨_,c' (by rw[<-l1];exact hi)⟩;have tx:=Y i r x γ hx;rw[ij hx,NW] at ε;lia;refine uk (xs:=r.2.2.2) (λj σ H2=>∃v,σ=[ag (.ref s),ag (.ref t),ag (.ref o),ag (.ref d),ag (.ref r.1),v]/\Same H' H2/\wrsF (θ.flatten++φ++ξ) zs=wrsF (x.drop j++(θ.drop (i + 1)).flatten++φ++ξ) zs) ⟨_,rfl,Same.refl _,ε⟩ (λj σ H2 _ ⟨_,_,ζ,_⟩=>SqT.of (ζ.get ew)) ?_ ?_
   ·rintro j y σ H2 ρ ⟨v,rfl,ζ,L⟩;have hj:=(b'.mp ρ).1;obtain⟨td,β⟩:∃td,x[j]? =ag td:=⟨_,c' (by rw[<-tx.1];exact hj)⟩;have O:=s'.trans ζ;have tv:=(tx.2 j y td ρ β).same O;rw[ij β,Pu,Pu,Pu] at L;lia;refine⟨y,td,d,zs,rfl,tv,Z.same O,ν,λz hz e ο ι=>?_,fun η ο dx tl=>qE td (by rw[L];exact pD η _) ο dx (pre O tl)⟩;rw[e,mE,kn hz] at L;lia;exact⟨ζ.trans ι,L⟩
   ·rintro σ H2 ⟨v,rfl,ζ,L⟩;rw[tx.1,Ox,PV] at L;lia;exact⟨_,_,rfl,s'.trans ζ,L⟩
  ·rintro σ H' ⟨τ,π,rfl,s',ε⟩;rw[ak,l1,Ox,List.flatten_nil,PV] at ε;have a0:=s'.get ht;lia;refine uk (xs:=qs.map λr=>V.ref r.1) (λi σ H2=>∃τ,σ=[ag (.ref s),ag (.ref t),ag (.ref o),ag (.ref d),τ,π]/\Same H' H2/\wrsF (θ.flatten++φ++ξ) zs=wrsF (φ.drop i++ξ) zs) ⟨_,rfl,Same.refl _,ε⟩ (λi σ H2 _ ⟨_,_,ζ,_⟩=>SqT.of (ζ.get a0)) ?_ ?_
   ·rintro i y σ H2 ρ ⟨τ,rfl,ζ,L⟩;obtain⟨r,γ,rfl⟩:=aR ρ;have hi:=(b'.mp γ).1;have hm:=hA γ;have O:=s'.trans ζ;have er:=O.get (kp.tr r hm);have χ:=ψ.1;rw[ak] at χ;obtain⟨td,β⟩:∃td,φ[i]? =ag td:=⟨_,c' @A⟩;have tv:=(ψ.2 i r.2.2 td (by rw[hH,γ];rfl) β).same O;rw[ij β,Pu] at L;lia;refine⟨r.2.2,td,d,zs,rfl,tv,Z.same O,ν,λz hz e ο ι=>?_,fun η ο dx tl=>qE td (by rw[L];exact pD η _) ο dx (pre O tl)⟩;rw[e,mE,kn hz] at L;lia;exact⟨ζ.trans ι,L⟩
   ·rintro σ H2 ⟨τ,rfl,ζ,L⟩;have χ:=ψ.1;rw[ak] at χ;rw[ak,χ,Ox,PV] at L;have O:=s'.trans ζ;have a1:=O.get ho;lia;refine uk (xs:=N.outs) (λi σ ο=>∃π,σ=[ag (.ref s),ag (.ref t),ag (.ref o),ag (.ref d),τ,π]/\Same H2 ο/\wrsF (θ.flatten++φ++ξ) zs=wrsF (ξ.drop i) zs) ⟨_,rfl,Same.refl _,L⟩ (λi σ ο _ ⟨_,_,ι,_⟩=>SqT.of (ι.get a1)) ?_ ?_
    ·rintro i y σ ο ρ ⟨π,rfl,ι,δ⟩;have hi:=(b'.mp ρ).1;have υ:=O.trans ι;obtain⟨td,β⟩:∃td,ξ[i]? =ag td:=⟨_,c' (by rw[<-ω.1];exact hi)⟩;have tv:=(ω.2 i y td ρ β).same υ;rw[ij β] at δ;lia;refine⟨y,td,d,zs,rfl,tv,Z.same υ,ν,λz hz e H4 s4=>?_,fun η H4 dx tl=>qE td (by rw[δ];exact pD η _) H4 dx (pre υ tl)⟩;rw[e,mE,kn hz] at δ;lia;exact⟨ι.trans s4,δ⟩
    ·rintro σ ο ⟨π,rfl,ι,δ⟩;rw[ω.1,Ox] at δ;lia;exact α δ _ (O.trans ι)
end
theorem yT (T:Tx K mg a):FnOk P w K mg base CX0 1 a.mr a.Fd ["row","waiting"] F4:=by
 refine T.rH.1.okA Gf fun η A outer s H vs Q E γ h=>?_;obtain⟨r,d,zs,rfl,er,δ,lw,⟨α,ζ,ε⟩,q⟩:=h;have Z:=ED γ;refine⟨_,((aq (aJ (aB (wG (K:=K) rfl rfl) @D T.Lf QU (aa (bq (osc:=ai tI) (ON:=n13) (N:=n16) (n:=1) (fx:=[1]) rfl rfl rfl @G (mi (K:=K) rfl (!j (bt (K:=K) rfl) (pv 0) ah)) (aQ @C) (λ_ _ _ _ _=>⟨(av (i:=0) (show oe (n16:A6) from by decide +kernel) rfl @E),bp,(K4 (DU Z (pv 0) (pv 1)))⟩)) ae))))),aN (σ':=[ag _,ag _]) rfl ?_⟩;lia;intro D O;refine uA (xs:=r.2.2.2.map V.str) (λi ys H'=>Cs (λi ys=>ys=((r.2.2.2.take i).map λw=>decide (w∈zs)).map V.bl) H D i ys H') (Cs.zero O rfl) (λi ys H' _ c=>SqT.of (c.same.get δ)) (λi x ys H' β c=>?_) (λys H' c=>?_)
 ·obtain⟨z,hz,rfl⟩:=aR β;have hi:=(b'.mp hz).1;lia;refine Du (c.same.get ζ) ?_;rw[mF ε z];refine Cs.put O c.same c.at' c.len @A ?_;rw[c.pv,take_succ hz,hh,hh];rfl
 ·have Y:=c.at';rw[c.pv,ak,mu] at Y;lia;refine Hs (SqL.of Y) ?_;have L:(r.2.2.2.map λw=>decide (w∈zs)).any id=dQ zs r.2.2.2:=by rw[T6];rfl
  lia;rw[L];exact q H' c.same
theorem oZ (T:Tx K mg a):FnOk P w K mg base CX0 4 a.bZ a.kq ["ins","sums","stores"] (Sv.sp_wbyname a.bx a.aZ a.aI):=by
 refine T.eU.1.okA jI λd2 A outer s H vs Q E hr h=>?_;obtain⟨i,s,t,o,rs,qs,N,rfl,kp,g,q⟩:=h;have hi:=kp.i;have hs:=kp.s;have ht:=kp.t;have li:=g.li;have ls:=g.ls;have lt:=g.lt;have d0:rs.length=N.sums.length:=by rw[<-kp.es,ak]
 have d1:qs.length=N.sts.length:=by rw[<-kp.et,ak]
 refine⟨_,((af (eP (osc:=ai bY) (ON:=n17) (N:=["number","name"]) (n:=2) (fx:=[]) (i:=3) jI.nd rfl rfl rfl rfl rfl rfl @G (pF (K:=K) rfl @D T.hX (pv 0)) (yZ (iG (aQ @C) (iG (aQ @C) ud))) (λ_ _ _ _ _=>⟨(tN (K:=K) (n:=2) rfl rfl (a9 (av (i:=0) (show oe (["number","name"]:A6) from by decide +kernel) rfl @E) (a9 (av (i:=1) (show oe (["number","name"]:A6) from by decide +kernel) rfl @E) fO))),bp,(xB T.Hd (mV T) (hr.mono @C) @D T.GY T.dD.2 .nil ip (aa (pv 1) (aa (pv 0) ae)))⟩))
  (af (bB (bW (K:=K) rfl rx Nh Nf hZ (pv 3) (aa (bq (osc:=ai bY) (ON:=n17) (N:=n10) (n:=1) (fx:=[]) rfl rfl rfl @G (mi (K:=K) rfl (pv 1)) (aQ @C) (λ_ _ _ _ _=>⟨(av (i:=0) (show oe (n10:A6) from by decide +kernel) rfl @E),bp,(xB T.FJ (mj T) (hr.mono @C) @D T.EO T.c7.2 .nil ip (aa (!j (bt (K:=K) rfl) (pv 0) ah) (aa (!j (bt (K:=K) rfl) (pv 0) ah) ae)))⟩)) ae)))
  (af (bB (bW (K:=K) rfl rx Nh Nf hZ (pv 3) (aa (bq (osc:=ai bY) (ON:=n17) (N:=["number","row"]) (n:=2) (fx:=[]) rfl rfl rfl @G (pF (K:=K) rfl @D T.hX (pv 2)) (yZ (iG (aQ @C) (iG (aQ @C) ud))) (λ_ _ _ _ _=>⟨(tN (K:=K) (n:=2) rfl rfl (a9 (av (i:=0) (show oe (["number","row"]:A6) from by decide +kernel) rfl @E) (a9 (av (i:=1) (show oe (["number","row"]:A6) from by decide +kernel) rfl @E) fO))),bp,(xB T.yC (ka T) (hr.mono @C) @D T.ya T.cC.2 .nil ip (aa (!j (bt (K:=K) rfl) (pv 1) ah) (aa (!j (bt (K:=K) rfl) (pv 1) ah) (aa (pv 0) ae))))⟩)) ae)))
  (aq (aJ (aX (oE rfl) @D T.vD NY (aa (bq (osc:=ai bY) (ON:=n17) (N:=["wire"]) (n:=1) (fx:=[]) rfl rfl rfl @G (aM (K:=K) rfl (pv 3)) (aQ @C) (λ_ _ _ _ _=>⟨(av (i:=0) (show oe (["wire"]:A6) from by decide +kernel) rfl @E),bp,(bN (aa (fP (K:=K) rfl (pv 0) rfl) (aa (pv 0) ae)))⟩)) ae)))))))),aN (σ':=[ag _,ag _,ag _,gs]) rfl ?_⟩
 lia;refine .inr ⟨⟨_,SqT.of hi⟩,?_⟩;intro D hD;refine sX (xs:=N.ins.map V.str) (λi ys H'=>∃ws,Sv.WL H H' a.bx a.aZ a.aI N D ys (N.ins.take i) ws) ⟨[],rfl,rfl,λ_ h=>ik h @F,bA hD,au⟩ (λi ys H' _ ⟨ws,c⟩=>SqT.of (c.same.get hi)) (λi x ys H' pz H2 hx ⟨ws,c⟩ fp s2 e2=>?_) (λys H' ⟨ws,c⟩=>?_)
 ·obtain⟨z,hz,rfl⟩:=aR hx;have a0:=(b'.mp hz).1;have lw:ws.length=i:=by have:=K' Nz c.nm;rw[ak,qo] at this;omega
  lia;intro x dx H3 L s3 e3;refine⟨x,dx,.str z,nat i,rfl,e3,λH4 ι=>⟨rfl,?_⟩⟩;have υ:Same H2 H4:=λb o e=>ι.oth _ _ (ao e L) (s3.get e);exact c.put hD (s2.trans υ) (.i i dx hz ι.at') (by rw[qo];omega) (take_succ hz)
 ·rw[ak,mu] at c;have a5:=c.same.get hs;have γ:=c.same.get ht;have b0:=c.d;lia;intro D2 a2;refine uA (xs:=rs.map λr=>V.ref r.1) (λi ys H2=>∃ws,Sv.WL H' H2 a.bx a.aZ a.aI N D2 ys ((rs.take i).map (·.2.2.1)) ws) ⟨[],rfl,rfl,λ_ h=>ik h @F,bA a2,au⟩ (λi ys H2 _ ⟨ws,ρ⟩=>SqT.of (ρ.same.get a5)) (λi x ο H2 hx ⟨a3,ρ⟩=>?_) (fun ο H2 ⟨a3,ρ⟩=>?_)
  ·obtain⟨r,O,rfl⟩:=aR hx;have a0:=(b'.mp O).1;have hm:=hA O;have a4:=c.same.trans ρ.same;have er:=a4.get (kp.sr r hm).1;have ew:=a4.get (kp.sr r hm).2;lia;intro x dx H3 L s3 e3;refine⟨x,dx,.str r.2.2.1,r.2.1,_,rfl,s3.get ew,e3,λH4 ι=>⟨rfl,?_⟩⟩;have υ:Same H2 H4:=λb o e=>ι.oth _ _ (ao e L) (s3.get e);exact ρ.put a2 υ (.s r.2.2.2 dx r.2.1 (by rw[<-kp.es];exact mw.mpr ⟨r,hm,rfl⟩) ι.at' (υ.get ew)) (by rw[ak,qo];omega) (by rw[take_succ O,hh];rfl)
  ·rw[ak,mu] at ρ;have ψ:=ρ.same.get b0;have b2:=ρ.d;have η:ys.length=N.ins.length:=by rw[c.ey,<-c.nm,ak,ak]
   have φ:ο.length=rs.length:=by rw[ρ.ey,ak,<-ak (f:=(·.1)),ρ.nm,ak]
   lia;refine jh ψ b2 (by rw[hJ];omega) λH3 u3=>?_;have c3:=c.join ρ hD u3;have a8:=c3.d;have ω:=c3.same.get ht;have ε:(ys++ο).length=N.ins.length + rs.length:=by rw[hE,η,φ]
   clear c ρ ψ b2 a5 γ b0 η φ a2;generalize ys++ο=ys3 at *
   lia;refine .inr ⟨⟨_,SqT.of ω⟩,?_⟩;intro π a1;refine sX (xs:=qs.map λq=>V.ref q.1) (λi ys H'=>∃ws,Sv.WL H3 H' a.bx a.aZ a.aI N π ys ((qs.take i).map (·.2.1)) ws) ⟨[],rfl,rfl,λ_ h=>ik h @F,bA a1,au⟩ (λi ys H' _ ⟨ws,c⟩=>SqT.of (c.same.get ω)) (λi x ys H4 pz H5 hx ⟨ws,c⟩ fp s5 e5=>?_) (λb3 H4 ⟨b4,c4⟩=>?_)
   ·obtain⟨r,O,rfl⟩:=aR hx;have a0:=(b'.mp O).1;have hm:=hA O;have er:=s5.get (c.same.get (c3.same.get (kp.tr r hm)));lia;intro x dx H6 f6 s6 e6;refine⟨x,dx,.str r.2.1,r.2.2,nat i,rfl,e6,λH7 Z=>⟨rfl,?_⟩⟩;have τ:Same H5 H7:=λb o e=>Z.oth _ _ (ao e f6) (s6.get e);exact c.put a1 (s5.trans τ) (.t i r.2.2 dx (by rw[<-kp.et,hH,O];rfl) Z.at') (by rw[ak,qo];omega) (by rw[take_succ O,hh];rfl)
   ·rw[ak,mu] at c4;have χ:=c4.same.get a8;have b1:=c4.d;have b8:b3.length=qs.length:=by rw[c4.ey,ak,<-ak (f:=(·.1)),c4.nm,ak]
    lia;refine jh χ b1 (by rw[hJ];omega) λH5 u5=>?_;have β:=c3.join c4 hD u5;have a7:=β.d;have b7:=β.ey
    have θ:N.ins++rs.map (·.2.2.1)++qs.map (·.2.1)=N.names:=by
     unfold Sv.Vt.names;rw[<-kp.es,<-kp.et,qa,qa];rfl
    rw[θ] at β;clear c3 c4 χ b1 a8 ω a1;rw[b7] at a7;generalize ws++a3++b4=wl at *
    have c1:wl.length<=100:=by rw[<-ak (f:=(·.1)),β.nm,<-θ,hE,hE,ak,ak];omega
    lia;intro D6 a6;refine aL (xs:=wl.map λq=>V.ref q.2) (λi ys H'=>∃ps:cc (eH×Key×V),ys=ps.map (λq=>V.ref q.1)/\ps.map (·.2)=(wl.take i).map (λq=>((n' q.1:Key),V.ref q.2))/\(∀q∈ps,H' q.1=ag (.tup [kV q.2.1,q.2.2]))/\Same H5 H'/\H' D6=ag (.lst ys)) ⟨[],rfl,rfl,λ_ h=>ik h @F,bA a6,au⟩ (λi ys H' _ ⟨_,_,_,_,s',_⟩=>SqL.of (s'.get a7)) ?_ ?_
    ·rintro i y ys H' hy ⟨ps,rfl,ξ,hq,s',eD⟩;obtain⟨q0,ζ,rfl⟩:=aR hy;have a0:=(b'.mp ζ).1;have c0:ps.length=i:=by have:=K' Nz ξ;rw[ak,ak,qo] at this;omega
     have ν:=(β.ob q0 (hA ζ)).same s'
     have fld:∀{Q:VK},Q (.str q0.1) H'->JR K (vl "name") Q (V.ref q0.2) H':=λh=>by
      cases ν with
      | i k dx hk e=>exact dR e T.uM T.nh rfl h
      | s ws dx tw hk e et=>exact dR e T.rJ T.kX rfl h
      | t k y dx hk e=>exact dR e T.jH T.jK rfl h
     lia;refine fld ?_;lia;intro tt H6 f6 s6 e6;have b5:tt≠D6:=λz=>by rw[z,eD] at f6;cases f6
     refine⟨s6.get eD,by rw[ak];exact bG @A,ps++[(tt,n' q0.1,.ref q0.2)],by rw[hh];rfl,by rw[hh,ξ,take_succ ζ,hh];rfl,fun δ α=>?_,λb o e=>?_,au⟩
     ·rcases lx.mp α with h | h
      ·have e:=hq δ h;rw[ar (hU e eD λz=>by cases z)];exact s6.get e
      ·rw[hC] at h;subst h;rw[ar b5];exact e6
     ·rw[ar (ao e a6)];exact s6.get (s'.get e)
    ·rintro ys H6 ⟨ps,rfl,ξ,hq,s',eD⟩;rw[ak,mu] at ξ
     have ek:ps.map (λq=>q.2.1)=N.names.map Sum.inr:=by
      have:=K' (OW (·.1)) ξ;rw[qa,qa] at this;rw[<-β.nm,qa];exact this
     lia;refine xx eD hq (by rw[ek];exact PR _ (λx y h z=>h (O2 z)) g.nd) λd H7 f7 s7 Y=>?_;have τ:=s'.trans s7;rw[ξ] at Y;exact q d H7 wl ((β.same.trans s').free f7) (β.same.trans τ) ⟨Y,β.nm,fun δ α=>(β.ob δ α).same τ⟩
section
local macro_rules | `(tactic| walk_at "l2step") =>`(tactic| first | (with_reducible refine s_try ?_))
local macro_rules | `(tactic| walk_at "l2step") =>`(tactic| first | (with_reducible refine jW ?_))
local macro_rules | `(tactic| walk_at "l2step") =>`(tactic| first | (with_reducible refine iA ?_) | (with_reducible refine s_tryH ?_) | (with_reducible refine oI ?_) | (with_reducible refine oG ?_))
theorem Ia {H H2:Hp} {x C:eH} {v:V} (f:H x=gs) (e:ExcV H2 x C [("ring",v)]) (hk:∀b u,b≠x->H b=ag u->H2 b=ag u):∃dx,H2 x=ag (ExcF x C (ag dx))/\Same H (del H2 x)/\(del H2 x) dx=ag (.xd [("ring",v)]):=by
 obtain⟨o,a,b⟩:=e;cases o with
 | none=>cases b
 | some d=>
   have b:H2 d=ag (.xd [("ring",v)]):=b;have hd:d≠x:=λz=>by rw[z,a] at b;cases b
   refine⟨d,a,λO o L=>?_,by rw[lC hd];exact b⟩;have hb:O≠x:=ao L f;rw[lC hb];exact hk _ _ hb L
theorem tP (T:Tx K mg a):FnOk P w K mg base CX0 2 a.dj a.oN ["rows"] C0:=by
 refine T.iL.1.okA eG λb8 A outer s H vs Q E hr h=>?_;obtain⟨l,rs,rfl,hl,ζ,φ,Y,hw,q⟩:=h;have ls:=φ.ls;rw[ak] at ls;have ε:(rs.map (·.2.2.1)).Nodup:=by have:=φ.nd;rw[qa] at this;exact this
 have Z:=ED hr
 refine⟨_,((af (aO (i:=1) eG.nd rfl @E (aX (oE rfl) @D T.vD NY (aa (pv 0) ae)))
  (af (aO (i:=2) eG.nd rfl @E (bC ae))
  (af (aO (i:=3) eG.nd rfl @E (!j (bt (K:=K) rfl) (!j (ay (K:=K) rfl) (pv 0) ah) ah))
  (af (yR MY (ax (j8 (K:=K) rfl) (pv 3) (pv 2) @D) (af (bB (bW (K:=K) rfl rx Ni Ng gy (pv 2) (aa (pv 3) ae)))
  (aq (aO (i:=3) eG.nd rfl @E (!j (ay (K:=K) rfl) (bq (osc:=ai iz) (ON:=["rows","waiting","path","name"]) (N:=n16) (n:=1) (fx:=[1]) rfl rfl rfl @G (mi (K:=K) rfl (nX Z (pv 1) (pv 3) (λ_ _=>rfl))) (aQ @C) (λ_ _ _ _ _=>⟨(av (i:=0) (show oe (n16:A6) from by decide +kernel) rfl @E),(eN (DN (DU Z (pv 0) (pv 1)))),(pv 0)⟩)) ah)))))
  (aq (aJ (bQ (cB (K:=K) rfl) (pv 2) (cF (bW (K:=K) rfl rx PySem.F.slot_list_index PySem.F.type_list_index Ee (pv 2) (aa (pv 3) ae))) cG)))))))),aN (σ':=[ag _,gs,gs,gs]) rfl ?_⟩
 lia;refine xx (ps:=rs.map λr=>(r.1,n' r.2.2.1,V.ref r.2.1)) (by rw[qa];exact hl) (λq' α=>?_) ?_ λd H1 f1 θ e1=>?_
 ·obtain⟨r,b1,rfl⟩:=mw.mp α;exact(ζ r b1).1
 ·rw[qa];have:=PR (n':ic->Key) (S:=λa b=>a≠b) (λx y h z=>h (O2 z)) ε;rw[qa] at this;exact this
 lia;intro Dp H2 f2 s2 e2;obtain⟨ν,h0⟩:∃ν,rs[0]? =ag ν:=⟨_,c' (NL.mpr Y)⟩;have hl2:=s2.get (θ.get hl);have ω:=hA h0;have b7:=s2.get (θ.get (ζ ν ω).1);lia;refine Gm (SqL.of hl2) (c6 (j:=0) (by rw[hH,h0];rfl)) ?_;lia;rw[qa] at e1;have e1:H1 d=ag (.dK (rs.map λr=>((n' r.2.2.1:Key),V.ref r.2.1))):=e1;have ι:(rs.map (·.2.2)).map (·.1)=rs.map (·.2.2.1):=by rw[qa];rfl
 refine⟨fun μ σ' H'=>∃(O:A6) (z:ic),σ'=[ag (.ref l),ag (.ref d),ag (.ref Dp),ag (.str z)]/\Same H1 H'/\H' Dp=ag (.lst (O.map V.str))/\yB (rs.map (·.2.2)) O z/\μ=rs.length + 1 - O.length,⟨_,[],ν.2.2.1,rfl,s2,e2,⟨.nil,λ_ h=>ik h @F,by rw[ι];exact mw.mpr ⟨ν,ω,rfl⟩,λi hi=>by simp at hi,λh=>ik rfl h⟩,rfl⟩,?_⟩;rintro μ σ' H3 ⟨O,z,rfl,s3,e3,pw,rfl⟩;have lp:=pw.len;rw[ak] at lp;lia;refine pE e3 ?_;by_cases hz:z∈O
 ·rw[fZ hz];obtain⟨j,hj,hf⟩:=ur hz;have b5:=(b'.mp hj).1;lia;refine Gp e3 hj hf ?_;lia;intro D H4 ξ η e4;rw[nJ _ _ (by rw[ak];omega),<-Qe] at e4;have χ:O≠[]:=λe=>by rw[e] at hz;simp at hz
  exact q D H4 (O.drop j) ((θ.trans s3).free ξ) ((θ.trans s3).trans η) e4 (vj pw.nd pw.st hj (pw.last χ))
 ·rw[fy hz];lia;have π:=pw.hz;rw[ι] at π;obtain⟨r,δ,b3,ρ⟩:=J8 π;have b0:(z,r.2.2.2)∈rs.map (·.2.2):=by rw[<-b3];exact mw.mpr ⟨r,δ,rfl⟩
  refine⟨fun σ' H'=>∃(γ:A6) (z:ic),σ'=[ag (.ref l),ag (.ref d),ag (.ref Dp),ag (.str z)]/\Same H1 H'/\H' Dp=ag (.lst (γ.map V.str))/\yB (rs.map (·.2.2)) γ z/\γ.length=O.length + 1,fun σ' H' ⟨γ,z',a1,ο,L,a4,a5⟩=>⟨_,@A,γ,z',a1,ο,L,a4,rfl⟩,?_⟩;lia;refine gf e3 (by rw[ak];exact bG @A) λH4 u4=>?_;have η:Same H1 H4:=λb o e=>u4.oth _ _ (ao e f2) (s3.get e);have e4:H4 Dp=ag (.lst ((O++[z]).map V.str)):=by rw[u4.at',hh];rfl
  clear u4;have a6:=η.get e1;have b2:=η.get (θ.get (ζ r δ).2);lia;refine ji a6 ρ ?_;lia;intro D hD;refine uA (xs:=r.2.2.2.map V.str) (λi ys H'=>Cs (λi ys=>ys=((r.2.2.2.take i).filter λw=>decide (w∈rs.map (·.2.2.1))).map V.str) H4 D i ys H') (Cs.zero hD rfl) (λi ys H' _ c=>SqT.of (c.same.get b2)) (λi x ys H' hx c=>?_) (λys H' c=>?_)
  ·obtain⟨y,hy,rfl⟩:=aR hx;have hi:=(b'.mp hy).1;have β:=φ.lw r.2.2 (mw.mpr ⟨r,δ,rfl⟩);have b4:=c.same.get a6;lia;refine Du b4 ?_;rw[mF (zs:=rs.map (·.2.2.1)) (by rw[qa,qa];rfl) y];by_cases hm:y∈rs.map (·.2.2.1)
   ·rw[fZ hm];lia;refine Cs.put hD c.same c.at' c.len @A ?_;rw[c.pv,take_succ hy,M6,hh,M5,kn (fZ hm)];rfl
   ·rw[fy hm];lia;refine Cs.skip c.same c.at' c.len ?_;rw[c.pv,take_succ hy,M6,hh,M5,hQ (by simpa using hm)];simp
  ·have ec:=c.at';rw[c.pv,ak,mu] at ec;have υ:=hw r δ;unfold dQ at υ;obtain⟨y,a8,a7⟩:=Oy.mp υ;have ψ:y∈r.2.2.2.filter λw=>decide (w∈rs.map (·.2.2.1)):=Nj.mpr ⟨a8,a7⟩;obtain⟨y0,a0⟩:∃y0,(r.2.2.2.filter λw=>decide (w∈rs.map (·.2.2.1)))[0]? =ag y0:=⟨_,c' (RK ψ)⟩;have τ:=Nj.mp (hA a0);lia;refine Gm (SqL.of ec) (c6 (j:=0) (by rw[hH,a0];rfl)) ?_;lia;exact⟨O++[z],y0,rfl,η.trans c.same,c.same.get e4,pw.step hz b0 τ.1 (by rw[ι];exact M3 τ.2),by rw[hE];rfl⟩
theorem Ay (T:Tx K mg a):FnOk P w K mg base (CX1 P w) 6 a.ig a.wA ["sums"] (uY a.bf):=by
 refine T.kA.1.okX gP (λvs H Q E h=>?_) (λg0 A outer s H vs Q E ν h=>?_)
 ·obtain⟨s,rs,rfl,_⟩:=h;rfl
 ·obtain⟨s,rs,rfl,hs,δ,φ,q,qE⟩:=h;have ls:=φ.ls;rw[ak] at ls
  refine⟨_,((af (aO (i:=1) gP.nd rfl @E (bC ae))
   (af (aO (i:=2) gP.nd rfl @E (aX (bX (K:=K) rfl) @D T.gx qR (aa (pv 0) ae)))
   (af (yR (dS ⟨rfl,rfl⟩) (ax nY (aB (aF (K:=K) rfl) @D T.cK kf (aa (pv 2) ae)) ah (aP _)) (af (aO (i:=3) gP.nd rfl @E (aX (oE rfl) @D T.vD NY (aa (pv 2) ae)))
   (af (eP (osc:=ai jY) (ON:=["sums","names","left","waiting","ready"]) (N:=n13) (n:=1) (fx:=[3]) (i:=4) gP.nd rfl rfl rfl rfl rfl rfl @G (aM (K:=K) rfl (pv 2)) (aQ @C) (λ_ _ _ _ _=>⟨(av (i:=0) (show oe (n13:A6) from by decide +kernel) rfl @E),(eN (j6 (dE (aw (yT T) ν T.EK T.rH (aa (pv 0) (aa (pv 1) ae)))))),(!j (bt (K:=K) rfl) (pv 0) ah)⟩))
   (af (bE (ax gN (aB (aF (K:=K) rfl) @D T.cK kf (aa (pv 4) ae)) ah (aP _)) (aq (j7 T.FD (o4 T) (ν.mono @C) @D T.HA T.fg.2 ip bU rfl (aa (aw (tP T) ν T.vT T.iL (aa (pv 2) ae)) ae))) aH)
   (af (bB (bW (K:=K) rfl rx Nh Nf hZ (pv 1) (aa (pv 4) ae)))
   (aq (eP (osc:=ai jY) (ON:=["sums","names","left","waiting","ready"]) (N:=n13) (n:=1) (fx:=[3]) (i:=2) gP.nd rfl rfl rfl rfl rfl rfl @G (aM (K:=K) rfl (pv 2)) (aQ @C) (λ_ _ _ _ _=>⟨(av (i:=0) (show oe (n13:A6) from by decide +kernel) rfl @E),(eN (dE (aw (yT T) ν T.EK T.rH (aa (pv 0) (aa (pv 1) ae))))),(pv 0)⟩))))))))
   (aq (aJ (pv 1))))))),aN (σ':=[ag _,gs,gs,gs,gs]) rfl ?_⟩
  lia;intro η H1 f1 s1 e1;have f9:=s1.get hs;lia;intro Dl H2 f2 s2 e2;lia;have nd:=φ.nd;refine⟨fun μ σ' H'=>∃(od:A6) (lf:cc Rw) (Dl:eH) (v3 v4:ov V),σ'=[ag (.ref s),ag (.ref η),ag (.ref Dl),v3,v4]/\Same H H'/\H' η=ag (.lst (od.map V.str))/\H' Dl=ag (.lst (lf.map λr=>V.ref r.1))/\Dl≠η/\(∀r∈lf,r∈rs)/\Otp (rs.map (·.2.2)) od (lf.map (·.2.2))/\μ=lf.length,⟨rs.length,[],rs,Dl,gs,gs,rfl,s1.trans s2,s2.get e1,e2,λz=>(by rw[z,e1] at f2;cases f2),λ_ h=>h,Otp.start _,rfl⟩,?_⟩;rintro μ σ' H3 ⟨od,lf,Dl,v3,v4,rfl,s3,en,el,c3,sub,ot,rfl⟩;lia;rw[ak];by_cases h0:lf=[]
  ·subst h0;refine eA (fy @F) ?_;lia;exact q η H3 od f1 s3 en ot.done
  ·have f0:0 < lf.length:=NL.mpr h0;refine eh (fZ @A) ?_;have π:=ot.perm.nodup_iff.mpr nd;rw[NU] at π;have ε:(lf.map (·.2.2.1)).Nodup:=by have:=π.2.1;rw[qa] at this;exact this
   have f5:od.length + lf.length=rs.length:=by have:=ot.perm.length_eq;rw[hE,ak,ak,ak,ak] at this;exact this
   have c1:(lf.map (·.2.2)).map (·.1)=lf.map (·.2.2.1):=by rw[qa];rfl
   have ζ:∀r∈lf,∀{H'},Same H H'->H' r.1=ag (.tup [.str r.2.2.1,.ref r.2.1])/\H' r.2.1=ag (.tup (r.2.2.2.map V.str)):=λr ν H' s'=>⟨s'.get (δ r (sub r ν)).1,s'.get (δ r (sub r ν)).2⟩;have υ:∀r∈lf,r.2.2.2.length<=24:=λr ν=>φ.lw r.2.2 (mw.mpr ⟨r,sub r ν,rfl⟩);refine⟨fun σ' H'=>∃(od:A6) (ι:cc Rw) (Dl:eH) (v3 v4:ov V),σ'=[ag (.ref s),ag (.ref η),ag (.ref Dl),v3,v4]/\Same H H'/\H' η=ag (.lst (od.map V.str))/\H' Dl=ag (.lst (ι.map λr=>V.ref r.1))/\Dl≠η/\(∀r∈ι,r∈rs)/\Otp (rs.map (·.2.2)) od (ι.map (·.2.2))/\ι.length < lf.length,fun σ' H' ⟨od,ι,Dl,v3,v4,a1,ο,a3,a4,a5,a6,a7,a8⟩=>⟨ι.length,a8,od,ι,Dl,v3,v4,a1,ο,a3,a4,a5,a6,a7,rfl⟩,?_⟩;lia;refine xx (ps:=lf.map λr=>(r.1,n' r.2.2.1,V.ref r.2.1)) (by rw[qa];exact el) (λq' α=>?_) ?_ λd H4 f4 s4 e4=>?_
   ·obtain⟨r,O,rfl⟩:=mw.mp α;exact(ζ r O s3).1
   ·rw[qa];have:=PR (n':ic->Key) (S:=λa b=>a≠b) (λx y h z=>h (O2 z)) ε;rw[qa] at this;exact this
   have Z:Knw H4 d (lf.map (·.2.2.1)):=⟨_,e4,by rw[qa,qa,qa];rfl⟩;have b8:=s4.get el;have b5:=s4.get en;have τ:=s3.trans s4;lia;intro D5 ξ;refine aL (xs:=lf.map λr=>V.ref r.1) (λi ys H'=>ys=(((lf.take i).filter λr=> !dQ (lf.map (·.2.2.1)) r.2.2.2).map (·.2.2.1)).map V.str/\Same H4 H'/\H' D5=ag (.lst ys)) ⟨rfl,bA ξ,au⟩ (λi ys H' _ ⟨_,s',_⟩=>SqL.of (s'.get b8)) (λi x ys H' hx ⟨ey,s',e'⟩=>?_) (λys H5 ⟨ey,s5,e5⟩=>?_)
   ·obtain⟨r,O,rfl⟩:=aR hx;have hm:=hA O;have d2:=(b'.mp O).1;have rr:=ζ r hm (τ.trans s');have r1:=rr.1;have fs:(lf.take (i + 1)).filter (λr=> !dQ (lf.map (·.2.2.1)) r.2.2.2)=(lf.take i).filter (λr=> !dQ (lf.map (·.2.2.1)) r.2.2.2)++(if (!dQ (lf.map (·.2.2.1)) r.2.2.2)=true then [r] else []):=by rw[take_succ O,M6,M5];rfl
    lia;refine⟨r,d,lf.map (·.2.2.1),rfl,rr.1,rr.2,υ r hm,Z.same s',λH6 ρ=>?_⟩;have f3:=ρ.get r1;cases hw:dQ (lf.map (·.2.2.1)) r.2.2.2 with
    | true=>
      lia;refine⟨?_,s'.trans ρ,ρ.get e'⟩;rw[fs,hw,ey];simp
    | false=>
      lia;refine⟨ρ.get e',?_,?_,λb o e=>?_,au⟩
      ·rw[ey,ak,ak];have:=Nu (λr:Rw=> !dQ (lf.map (·.2.2.1)) r.2.2.2) (lf.take i);rw[qo] at this;exact bG @A
      ·rw[fs,hw,ey];simp
      ·rw[ar (ao e ξ)];exact ρ.get (s'.get e)
   ·rw[ak,mu] at ey;have fm:((lf.map (·.2.2)).filter λr=> !dQ (lf.map (·.2.2.1)) r.2)=(lf.filter λr=> !dQ (lf.map (·.2.2.1)) r.2.2.2).map (·.2.2):=by rw[SJ];rfl
    have e0:((lf.map (·.2.2)).filter λr=>dQ (lf.map (·.2.2.1)) r.2)=(lf.filter λr=>dQ (lf.map (·.2.2.1)) r.2.2.2).map (·.2.2):=by rw[SJ];rfl
    have b2:ys.length=(lf.filter λr=> !dQ (lf.map (·.2.2.1)) r.2.2.2).length:=by rw[ey,ak,ak]
    have f8:=Nu (λr:Rw=> !dQ (lf.map (·.2.2.1)) r.2.2.2) lf;have b1:=ot.step nd;rw[c1,fm,e0,qa] at b1;have b7:=s5.get b8;have e3:=s5.get b5;lia;by_cases d1:(lf.filter λr=> !dQ (lf.map (·.2.2.1)) r.2.2.2).length=0
    ·refine eh (fZ (by rw[b2,d1];rfl)) ?_
     have c0:∀r∈lf,dQ (lf.map (·.2.2.1)) r.2.2.2=true:=λr ν=>by
      cases hb:dQ (lf.map (·.2.2.1)) r.2.2.2 with
      | true=>rfl
      | false=>
        have:r∈lf.filter λr=> !dQ (lf.map (·.2.2.1)) r.2.2.2:=Nj.mpr ⟨ν,by rw[hb];rfl⟩;have:=RK this;omega
     have b0:=τ.trans s5
     have c2:Ro (lf.map (·.2.2)):=⟨by rw[ak];omega,λx hx=>by
      obtain⟨r,O,rfl⟩:=mw.mp hx;exact υ r O,by rw[qa];exact ε⟩
     lia;refine⟨Dl,lf,rfl,b7,λr ν=>ζ r ν b0,c2,h0,c0,λD H6 rg f6 ρ e6 ir=>?_⟩;lia;refine i6 λx H7 f7 s7 Y=>⟨x,D,rg,rfl,s7.get e6,Y,λL H8 e8 k8 ω=>?_⟩;obtain⟨dx,a1,ο,a3⟩:=Ia (H:=H6) f7 e8 λb u d3 e'=>k8 _ _ d3 (s7.get e');refine⟨rfl,ag dx,a1,qE _ dx L rg ((b0.trans ρ).trans ο) a3 ?_ (ir.mono λy hy=>?_)⟩
     ·rw[lC (λz=>by rw[z,a1] at ω;cases ω)];exact ω
     ·obtain⟨r,O,rfl⟩:=mw.mp hy;exact mw.mpr ⟨r,sub r O,rfl⟩
    have χ:=ye (λr:Rw=>dQ (lf.map (·.2.2.1)) r.2.2.2) lf @A;refine eA (fy λz=>by have:=V.int.inj z;omega) ?_;lia;refine jh e3 e5 (by rw[ak,b2,hJ];omega) λH6 θ=>?_;have a0:∀b o,b≠η->H4 b=ag o->H6 b=ag o:=λb o n e=>θ.oth _ _ n (s5.get e);have γ:Same H H6:=λb o e=>a0 b o (ao e f1) (τ.get e);have e9:=θ.oth _ _ c3 b7;have ψ:=θ.at';rw[ey,<-hh] at ψ
    have d0:Knw H6 d (lf.map (·.2.2.1)):=by
     obtain⟨c5,ed,ek⟩:=Z;exact⟨c5,a0 _ _ (hU ed b5 λz=>by cases z) ed,ek⟩
    lia;intro D7 β;refine aL (xs:=lf.map λr=>V.ref r.1) (λi ys H'=>ys=((lf.take i).filter λr=>dQ (lf.map (·.2.2.1)) r.2.2.2).map (λr=>V.ref r.1)/\Same H6 H'/\H' D7=ag (.lst ys)) ⟨rfl,bA β,au⟩ (λi ys H' _ ⟨_,s',_⟩=>SqL.of (s'.get e9)) (λi x ys H' hx ⟨ey,s',e'⟩=>?_) (λys H7 ⟨b4,s7,Y⟩=>?_)
    ·obtain⟨r,O,rfl⟩:=aR hx;have hm:=hA O;have d2:=(b'.mp O).1;have rr:=ζ r hm (γ.trans s');have fs:(lf.take (i + 1)).filter (λr=>dQ (lf.map (·.2.2.1)) r.2.2.2)=(lf.take i).filter (λr=>dQ (lf.map (·.2.2.1)) r.2.2.2)++(if dQ (lf.map (·.2.2.1)) r.2.2.2=true then [r] else []):=by rw[take_succ O,M6,M5];rfl
     lia;refine⟨r,d,lf.map (·.2.2.1),rfl,rr.1,rr.2,υ r hm,d0.same s',λH8 s8=>?_⟩;cases hw:dQ (lf.map (·.2.2.1)) r.2.2.2 with
     | false=>
       lia;refine⟨?_,s'.trans s8,s8.get e'⟩;rw[fs,hw,ey];simp
     | true=>
       lia;refine⟨s8.get e',?_,?_,λb o e=>?_,au⟩
       ·rw[ey,ak];have:=Nu (λr:Rw=>dQ (lf.map (·.2.2.1)) r.2.2.2) (lf.take i);rw[qo] at this;exact bG @A
       ·rw[fs,hw,ey];simp
       ·rw[ar (ao e β)];exact s8.get (s'.get e)
    ·rw[ak,mu] at b4;rw[b4] at Y;lia;have b3:∀r∈lf.filter (λr=>dQ (lf.map (·.2.2.1)) r.2.2.2),r∈rs:=λr ν=>sub r (Nj.mp ν).1;have c4:D7≠η:=λz=>(by rw[z,ψ] at β;cases β);exact⟨_,_,D7,_,_,rfl,γ.trans s7,s7.get ψ,Y,c4,b3,b1,χ⟩
end
section
local macro_rules | `(tactic| walk_at "l2step") =>`(tactic| first | (with_reducible refine s_try ?_))
local macro_rules | `(tactic| walk_at "l2step") =>`(tactic| first | (with_reducible refine jW ?_))
local macro_rules | `(tactic| walk_at "l2step") =>`(tactic| first | (with_reducible refine iA ?_) | (with_reducible refine s_tryH ?_) | (with_reducible refine oI ?_) | (with_reducible refine oG ?_))
theorem qg (T:Tx K mg a):FnOk P w K mg base (CX1 P w) 9 a.bM a.lK ["self","ins","sums","stores","outs"] (F7 a.cA a.bx a.aZ a.aI a.aV a.aA a.az a.aG a.bf):=by
 refine T.gq.1.okX pV (λvs H Q E h=>?_) (λu2 A outer s H vs Q E hr h=>?_)
 ·obtain⟨x,dx,i,s,t,o,is,rs,qs,os,N,rfl,_⟩:=h;rfl
 ·obtain⟨x,dx,i,s,t,o,is,rs,qs,os,N,rfl,hx,hn,da,r7,m8,q,qE⟩:=h;have lI:=da.i.1;have l5:rs.length=N.sums.length:=by have:=da.sn.1;rw[ak,ak] at this;exact this
  have n0:qs.length=N.sts.length:=by have:=da.tn.1;rw[ak,ak] at this;exact this
  have lO:=da.o.1
  have c3:(decide (6 < is.length)||decide (40 < rs.length)||decide (16 < qs.length)||decide (6 < os.length)||rs.any λr=>decide (24 < r.2.2.2.length))=iZ N:=by
   unfold iZ;rw[lI,l5,n0,lO];congr 1;exact wQ l5 λk r x h1 h2=>by rw[(da.sw k r x h1 h2).1]
  refine⟨_,((af (bB (gM (rO T) (hr.mono @C) @D T.uf T.eZ.1.2 T.eZ.2 .nil bU (aa (pv 1) (aa (pv 2) (aa (pv 3) (aa (pv 4) ae))))))
   (af (bB (gM (rP T) (hr.mono @C) @D T.ug T.fc.1.2 T.fc.2 .nil bU (aa (aE dM (aE dM (aX (bX (K:=K) rfl) @D T.gx qR (aa (pv 1) ae)) (bq (osc:=ai cv) (ON:=n18) (N:=n10) (n:=1) (fx:=[]) rfl rfl rfl @G (aM (K:=K) rfl (pv 2)) (aQ @C) (λ_ _ _ _ _=>⟨(av (i:=0) (show oe (n10:A6) from by decide +kernel) rfl @E),bp,(!j (bt (K:=K) rfl) (pv 0) ah)⟩))) (bq (osc:=ai cv) (ON:=n18) (N:=n10) (n:=1) (fx:=[]) rfl rfl rfl @G (aM (K:=K) rfl (pv 3)) (aQ @C) (λ_ _ _ _ _=>⟨(av (i:=0) (show oe (n10:A6) from by decide +kernel) rfl @E),bp,(!j (bt (K:=K) rfl) (pv 0) ah)⟩))) ae)))
   (af (g7 (K:=K) rfl (pv 0) (aX (dw (K:=K) rfl) @D T.iY M4 (aa (pv 1) ae)) rfl)
   (af (g7 (K:=K) rfl (pv 0) (aX (dw (K:=K) rfl) @D T.iY M4 (aa (bq (osc:=ai cv) (ON:=n18) (N:=n10) (n:=1) (fx:=[]) rfl rfl rfl @G (aM (K:=K) rfl (pv 2)) (aQ @C) (λ_ _ _ _ _=>⟨(av (i:=0) (show oe (n10:A6) from by decide +kernel) rfl @E),bp,(bN (aa (!j (bt (K:=K) rfl) (pv 0) ah) (aa (aX (dw (K:=K) rfl) @D T.iY M4 (aa (!j (bt (K:=K) rfl) (pv 0) ah) ae)) ae)))⟩)) ae)) rfl)
   (af (g7 (K:=K) rfl (pv 0) (aX (dw (K:=K) rfl) @D T.iY M4 (aa (bq (osc:=ai cv) (ON:=n18) (N:=n10) (n:=1) (fx:=[]) rfl rfl rfl @G (aM (K:=K) rfl (pv 3)) (aQ @C) (λ_ _ _ _ _=>⟨(av (i:=0) (show oe (n10:A6) from by decide +kernel) rfl @E),bp,(bN (aa (!j (bt (K:=K) rfl) (pv 0) ah) (aa (!j (bt (K:=K) rfl) (pv 0) ah) ae)))⟩)) ae)) rfl)
   (af (g7 (K:=K) rfl (pv 0) (aX (dw (K:=K) rfl) @D T.iY M4 (aa (pv 4) ae)) rfl)
   (af (g7 (K:=K) rfl (pv 0) (aw (oZ T) hr T.qW T.eU (aa (fP (K:=K) rfl (pv 0) rfl) (aa (fP (K:=K) rfl (pv 0) rfl) (aa (fP (K:=K) rfl (pv 0) rfl) ae)))) rfl)
   (af (bB (gM (rN T) (hr.mono @C) @D T.ue T.eX.1.2 T.eX.2 .nil bU (aa (fP (K:=K) rfl (pv 0) rfl) (aa (fP (K:=K) rfl (pv 0) rfl) (aa (fP (K:=K) rfl (pv 0) rfl) (aa (fP (K:=K) rfl (pv 0) rfl) ae))))))
   (aq (g7 (K:=K) rfl (pv 0) (aX (dw (K:=K) rfl) @D T.iY M4 (aa (gM (Ay T) (hr.mono @C) @D T.EM T.kA.1.2 T.kA.2 .nil bU (aa (fP (K:=K) rfl (pv 0) rfl) ae)) ae)) rfl))))))))))),aN (σ':=[ag _,ag _,ag _,ag _,ag _]) rfl ?_⟩
  lia;refine⟨i,s,t,o,is,rs,qs,os,rfl,hn,@A,@A,λhm H1 s1=>?_,λhm H1 s1=>qE .many (ux (c3 ▸ hm)) H1 _ _ (Kx.same s1) ⟨rfl,rfl⟩⟩;rw[c3] at hm
  have hl:rs.length<=40/\qs.length<=16/\is.length<=6:=by
   have q1:=hm;rw[<-c3] at q1;simp only[S2,Sb] at q1;omega
  obtain⟨ls,lt,li⟩:=hl;have d1:=hn.same s1;have s3:=d1.i;have p1:=d1.s;have o6:=d1.t;lia;intro D2 H2 f2 s2 e2;have p0:=s2.get p1;lia;intro ψ m2;refine aL (xs:=rs.map λr=>V.ref r.1) (λi ys H'=>Cs (λi ys=>ys=(rs.take i).map (·.2.2.1)) H2 ψ i ys H') (Cs.zero m2 rfl) (λi ys H' _ c=>SqL.of (c.same.get p0)) (λi x ys H' hx c=>?_) (λys H3 c=>?_)
  ·obtain⟨r,a0,rfl⟩:=aR hx;have m0:=(b'.mp a0).1;have er:=c.same.get (s2.get (d1.sr r (hA a0)).1);lia;refine Cs.put m2 c.same c.at' c.len @A ?_;rw[c.pv,take_succ a0,hh];rfl
  ·have e3:=c.at';rw[c.pv,ak,mu] at e3;have l3:=c.same;clear c;refine iQ (l3.get e2) e3 (by rw[ak,hJ];omega) λD4 H4 f4 s4 e4=>?_;have δ:=s2.trans (l3.trans s4);have o5:=δ.get o6;lia;intro D5 m1;refine aL (xs:=qs.map λr=>V.ref r.1) (λi ys H'=>Cs (λi ys=>ys=(qs.take i).map (·.2.1)) H4 D5 i ys H') (Cs.zero m1 rfl) (λi ys H' _ c=>SqL.of (c.same.get o5)) (λi x ys H' hx c=>?_) (λys H5 c=>?_)
   ·obtain⟨r,a0,rfl⟩:=aR hx;have m0:=(b'.mp a0).1;have er:=c.same.get (δ.get (d1.tr r (hA a0)));lia;refine Cs.put m1 c.same c.at' c.len @A ?_;rw[c.pv,take_succ a0,hh];rfl
   ·have e5:=c.at';rw[c.pv,ak,mu] at e5;have l2:=c.same;clear c;refine iQ (l2.get e4) e5 (by rw[hE,ak,ak,hJ];omega) λD6 H6 f6 s6 e6=>?_;have a7:=δ.trans (l2.trans s6);have d3:=s1.trans a7;have h0:=da.same d3;lia;refine⟨D6,_,N.nms,rfl,e6,(h0.i.app h0.sn).app h0.tn,by rw[hE,hE,ak,ak];omega,λg1 H7 s7=>?_,λd hd H7 c1 tl=>?_,λd hd H7 c1 tl=>?_⟩
    rotate_left
    ·obtain⟨v2,⟨a1,a2⟩,a3⟩:=tl;exact qE _ (pI hm hd) H7 _ _ (Kx.same (d3.trans a1)) ⟨rfl,c1,v2,rfl,a2,a3⟩
    ·obtain⟨v2,⟨a1,a2⟩,a3⟩:=tl;exact qE _ (pI hm hd) H7 _ _ (Kx.same (d3.trans a1)) ⟨rfl,c1,v2,rfl,a2,a3⟩
    obtain⟨zi,rv,qv,rfl,rfl,rfl,g,q5⟩:=J0 da hm g1;have f7:=d3.trans s7;have l9:=(HndV.of hn).same f7;have l8:=f7.get hx;rw[ak] at lI l5 n0 m8 ls lt li r7;clear h0 d3 e6 e5 e4 e3 e2 a7 δ p0 o5 s3 p1 o6 d1 m2 m1 f2 f4 f6 s1 s2 l3 s4 l2 s6 s7;have s0:=l9.i;lia;intro ti H8 f8 s8 e8;lia;refine gX (s8.get l8) T.fh T.qx (by show 0 < 1000;decide) rfl λH9 u9=>?_;have l7:=s8.get l8;have f0:=(Kx.upd u9).hndV l7 (l9.same s8);have e9:=(Kx.upd u9).tup l7 e8;have o0:=u9.at';have k9:Kx x H H9:=(Kx.same (f7.trans s8)).trans (Kx.upd u9);have o9:=f0.s;clear u9 l7 s8 e8 f8 s0 l8 l9 f7;lia;intro ζ d0;refine aL (xs:=rv.map λr=>V.ref r.1) (λi ys H'=>∃rs':cc Sv.Rw,ys=rs'.map (λr=>V.ref r.1)/\rs'.map (·.2.2)=(rv.take i).map (·.2.2)/\Sv.RwK H' rs'/\Same H9 H'/\H' ζ=ag (.lst ys)) ⟨[],rfl,rfl,λ_ h=>ik h @F,bA d0,au⟩ (λi ys H' _ ⟨_,_,_,_,s',_⟩=>SqL.of (s'.get o9)) ?_ ?_
    ·rintro i y ys H' hy ⟨rs',rfl,b0,hk,s',eD⟩;obtain⟨r,a0,rfl⟩:=aR hy;have m0:=(b'.mp a0).1;have hm:=hA a0;have er:=s'.get (f0.sr r hm).1;have q2:rs'.length=i:=by have:=K' Nz b0;rw[ak,ak,qo] at this;omega
     rcases(f0.sr r hm).2 with ew | ew
     ·have ew:=s'.get ew;lia;intro tw t7 η a5 g4;lia;intro tr h4 f1 b4 d2;have e0:tr≠ζ:=λz=>(by rw[z,a5.get eD] at f1;cases f1);have φ:tw≠ζ:=λz=>(by rw[z,eD] at η;cases η);have τ:=b4.get (a5.get eD);refine⟨τ,by rw[ak];exact bG @A,rs'++[(tr,tw,r.2.2)],by rw[hh];rfl,by rw[hh,b0,take_succ a0,hh];rfl,λr2 h2=>?_,λb ob e=>?_,au⟩
      ·rcases lx.mp h2 with h2 | h2
       ·exact((hk.same a5).same b4).updL τ (λb ob n e=>by rw[ar n];exact e) r2 h2
       ·rw[hC] at h2;subst h2;exact⟨by rw[ar e0];exact d2,by rw[ar φ];exact b4.get g4⟩
      ·rw[ar (ao e d0)];exact b4.get (a5.get (s'.get e))
     ·have ew:=s'.get ew;lia;intro tr h4 f1 b4 d2;have a5:Same H' H':=Same.refl _;have e0:tr≠ζ:=λz=>(by rw[z,a5.get eD] at f1;cases f1);have φ:r.2.1≠ζ:=λz=>(by rw[z,eD] at ew;cases ew);have τ:=b4.get (a5.get eD);refine⟨τ,by rw[ak];exact bG @A,rs'++[(tr,r.2.1,r.2.2)],by rw[hh];rfl,by rw[hh,b0,take_succ a0,hh];rfl,λr2 h2=>?_,λb ob e=>?_,au⟩
      ·rcases lx.mp h2 with h2 | h2
       ·exact((hk.same a5).same b4).updL τ (λb ob n e=>by rw[ar n];exact e) r2 h2
       ·rw[hC] at h2;subst h2;exact⟨by rw[ar e0];exact d2,by rw[ar φ];exact b4.get ew⟩
      ·rw[ar (ao e d0)];exact b4.get (a5.get (s'.get e))
    ·rintro ys u7 ⟨rs',rfl,b0,hk,m4,q7⟩;rw[ak,mu] at b0;lia;intro ts t7 η a5 g4;have b8:=m4.trans a5;have b1:=b8.get o0;lia;refine gX b1 T.fh T.i8 (by show 1 < 1000;decide) rfl λh4 c2=>?_;have c5:=(Kx.upd c2).hndV b1 (f0.same b8);have l1:=(Kx.upd c2).tup b1 (b8.get e9);have d2:=(Kx.upd c2).tup b1 g4;have h6:=Sv.Kx.rw (Kx.upd c2) b1 (hk.same a5);have i0:=c2.at';have n9:Kx x H h4:=k9.trans ((Kx.same b8).trans (Kx.upd c2));have j0:=c5.t;clear c2 b1 b8 m4 a5 g4 η hk q7 d0 f0 o9 o0 e9 k9;lia;intro r3 ε;refine aL (xs:=qv.map λr=>V.ref r.1) (λi ys H'=>∃qs':cc Sv.Qs,ys=qs'.map (λr=>V.ref r.1)/\qs'.map (·.2)=(qv.take i).map (·.2)/\Sv.QsK H' qs'/\Same h4 H'/\H' r3=ag (.lst ys)) ⟨[],rfl,rfl,λ_ h=>ik h @F,bA ε,au⟩ (λi ys H' _ ⟨_,_,_,_,s',_⟩=>SqL.of (s'.get j0)) ?_ ?_
     ·rintro i y ys H' hy ⟨qs',rfl,b5,hk,s',eD⟩;obtain⟨r,a0,rfl⟩:=aR hy;have m0:=(b'.mp a0).1;have er:=s'.get (c5.tr r (hA a0));have q2:qs'.length=i:=by have:=K' Nz b5;rw[ak,ak,qo] at this;omega
      lia;intro tr Z g2 δ g3;have e0:tr≠r3:=λz=>(by rw[z,eD] at g2;cases g2);have l0:=δ.get eD;refine⟨l0,by rw[ak];exact bG @A,qs'++[(tr,r.2)],by rw[hh];rfl,by rw[hh,b5,take_succ a0,hh];rfl,λr2 h2=>?_,λb ob e=>?_,au⟩
      ·rcases lx.mp h2 with h2 | h2
       ·exact(hk.same δ).updL l0 (λb ob n e=>by rw[ar n];exact e) r2 h2
       ·rw[hC] at h2;subst h2;rw[ar e0];exact g3
      ·rw[ar (ao e ε)];exact δ.get (s'.get e)
     ·rintro ys u6 ⟨qs',rfl,b5,p6,m3,q6⟩;rw[ak,mu] at b5;lia;intro tk Z g2 δ g3;have a4:=m3.trans δ;have a6:=a4.get i0;lia;refine gX a6 T.fh T.dA (by show 2 < 1000;decide) rfl λt6 b2=>?_;have j1:=(Kx.upd b2).hndV a6 (c5.same a4);have k8:=(Kx.upd b2).tup a6 (a4.get l1);have k4:=(Kx.upd b2).tup a6 (a4.get d2);have h5:=Sv.Kx.rw (Kx.upd b2) a6 (h6.same a4);have j2:=(Kx.upd b2).tup a6 g3;have h7:=Sv.Kx.qs (Kx.upd b2) a6 (p6.same δ);have h8:=b2.at';have n8:Kx x H t6:=n9.trans ((Kx.same a4).trans (Kx.upd b2));have q0:=j1.o;clear b2 a6 a4 m3 δ g3 g2 p6 q6 ε c5 j0 i0 d2 l1 n9 h6;lia;intro to u5 Y a7 q8;have e7:=a7.get h8;lia;refine gX e7 T.fh T.oj (by show 3 < 1000;decide) rfl λr1 ι=>?_;have ρ:Sv.Kpt r1 ti ts tk to rs' qs' ⟨zi,rv.map (·.2.2),qv.map (·.2),os⟩:=Sv.Kx.kpt (Kx.upd ι) e7 ⟨a7.get k8,a7.get k4,h5.same a7,b0,a7.get j2,h7.same a7,b5,q8⟩;have c0:=ι.at';have n7:Kx x H r1:=n8.trans ((Kx.same a7).trans (Kx.upd ι));clear ι e7 a7 q8 Y h8 n8 k8 k4 h5 j2 h7 q0 j1;lia;refine dR c0 T.fh T.qx rfl ?_;lia;refine dR c0 T.fh T.i8 rfl ?_;lia;refine dR c0 T.fh T.dA rfl ?_;lia;refine⟨ti,ts,tk,to,rs',qs',_,rfl,ρ,g,λdb u4 ws t3 f5 wi=>?_⟩;have γ:=f5.get c0;lia;refine gX γ T.fh T.ng (by show 4 < 1000;decide) rfl λh3 ξ=>?_;have ω:db≠x:=hU wi.d γ λz=>by cases z
      have χ:∀q∈ws,q.2≠x:=λq hq z=>by
       obtain⟨C,c1,fs,e,_⟩:=(wi.ob q hq).name;rw[z,γ] at e;injection e with e
       injection e with _ _ e
       injection e with e _
       injection e with e _
       exact ik e @C
      have b7:=Sv.Kx.wia (Kx.upd ξ) wi ω χ γ;have α:=Sv.Kx.kpt (Kx.upd ξ) γ (ρ.same f5);have β:=ξ.at';have f9:Kx x H h3:=n7.trans ((Kx.same f5).trans (Kx.upd ξ));clear ξ wi ρ c0 γ f5 n7 t3;lia;refine dR β T.fh T.i8 rfl ?_;lia;refine dR β T.fh T.dA rfl ?_;lia;refine dR β T.fh T.oj rfl ?_;lia;refine dR β T.fh T.ng rfl ?_;lia;have O:DatT h3 (zi.map V.str) (rv.map toR) (qv.map toQ) os N:=da.imp λv d t=>Kx.tg f9 hx t
      have ek:N.nms.map dStr=(⟨zi,rv.map (·.2.2),qv.map (·.2),os⟩:Sv.Vt).names:=by
       rw[q5,jD];unfold Sv.Vt.names;simp only[qa];rfl
      have π:∀(k:Nat) (r:Sv.Rw) x,rs'[k]? =ag r->(N.sums.map (·.2))[k]? =ag x->TgL h3 r.2.2.2 x:=λk r x h1 h2=>by
       rw[hH] at h2;obtain⟨y,hy,rfl⟩:=Nn.mp h2;have:=K' (λl=>l[k]?) b0;simp only[hH,h1,QQ] at this;obtain⟨r',a0,er⟩:=Nn.mp this.symm;rw[<-er];exact O.sw k (toR r') y (by rw[hH,a0];rfl) hy
      have υ:rs'.length=N.sums.length:=by have:=K' Nz b0;rw[ak,ak] at this;omega
      have m9:qs'.length=N.sts.length:=by have:=K' Nz b5;rw[ak,ak] at this;omega
      have ο:TgL h3 (qs'.map (·.2.2)) (N.sts.map (·.2)):=by
       have e1:qs'.map (·.2.2)=(qv.map toQ).map (·.2.2):=by
        have:=K' (OW (·.2)) b5;rw[qa,qa] at this;rw[qa];exact this
       rw[e1];exact O.tw
      have θ:(N.sums.map (·.2)).flatten++N.sts.map (·.2)++N.outs=N.wrs:=by unfold Nd.wrs;rw[List.flatMap_def]
      refine⟨ti,ts,tk,to,db,rs',qs',_,_,N.sums.map (·.2),N.sts.map (·.2),N.outs,rfl,α,b7.knw,g.nm,π,by rw[ak];exact υ,ο,O.o,λg0 r0 f3=>?_,λd hd r0 c1 tl=>?_⟩
      rotate_left
      ·obtain⟨v2,⟨a1,a2⟩,a3⟩:=tl;rw[θ,<-ek] at hd;exact qE _ (uw hm g1 hd) r0 _ _ (f9.trans (Kx.same a1)) ⟨rfl,c1,v2,rfl,a2,a3⟩
      rw[θ,<-ek] at g0
      have k6:N.nms=(zi++rs'.map (·.2.2.1)++qs'.map (·.2.1)).map Dt.str:=by
       have e1:rs'.map (·.2.2.1)=rv.map (·.2.2.1):=by have:=K' (OW (·.1)) b0;rw[qa,qa] at this;exact this
       have e2:qs'.map (·.2.1)=qv.map (·.2.1):=by have:=K' (OW (·.1)) b5;rw[qa,qa] at this;exact this
       rw[e1,e2];exact q5
      obtain⟨eV,kw,kt,ko⟩:=Hh k6 @A υ m9 (λk r x h1 h2=>π k r x.2 h1 (by rw[hH,h2];rfl)) ο O.o g0;rw[b0,b5] at eV;rw[eV] at α b7 g ek;rw[gU] at ek;rw[ek] at kw kt ko;obtain⟨m5,r6,α⟩:=Ll α;have b7:=JW b7;clear π ο k6 O
      have m7:(N.rows.map (·.1)).Nodup:=by
       have:=g.nd;rw[gU] at this;unfold Nt.names at this;rw[NU] at this;have:=this.1;rw[NU] at this;exact this.2.1
      have q3:∀r∈N.nt.sums,r.2.length<=24:=λr hr=>by
       have:=g.lw (r.1,r.2.map V.str) (mw.mpr ⟨r,hr,rfl⟩);rw[ak] at this;exact this
      have q4:N.nt.sums.length<=40:=by have:=g.ls;unfold toV at this;rw[ak] at this;exact this
      have t1:N.nt.sts.length<=16:=by have:=g.lt;unfold toV at this;rw[ak] at this;exact this
      have t2:N.nt.outs.length<=6:=by have:=g.lo;unfold toV at this;rw[ak] at this;exact this
      have s5:∀z∈N.nt.names,Nm z:=by have:=g.nm;rw[gU] at this;exact this
      have s9:N.nt.names.Nodup:=by have:=g.nd;rw[gU] at this;exact this
      have o2:=f3.get β;have a8:=α.same f3;lia;refine dR o2 T.fh T.i8 rfl ?_;lia;refine⟨ts,m5,rfl,a8.s,a8.sr,⟨by rw[a8.es];exact q4,by rw[a8.es];exact q3,by rw[a8.es];exact m7⟩,λDo q9 od t9 l4 u0 tp=>?_,λq9 c1 L rg l4 e1 e2 ir=>?_⟩
      rotate_left
      ·rw[a8.es] at ir;exact qE .ring (y6 hm g1 g0 ir.ring) q9 _ _ (f9.trans (Kx.same (f3.trans l4))) ⟨rfl,c1,L,rg,rfl,e1,e2,ir⟩
      rw[a8.es] at tp;have tp:Topo N.rows od:=tp;lia;intro tq u3 t8 r5 t4;have b3:=f3.trans (l4.trans r5);have c4:=b3.get β;lia;refine gX c4 T.fh T.qr (by show 5 < 1000;decide) rfl λt5 ν=>?_;lia;exact q (y8 hm g1 g0 (xa tp)) t5 od (f9.trans ((Kx.same b3).trans (Kx.upd ν))) ⟨⟨dx,ti,ts,tk,to,db,tq,m5,r6,ws,ν.at',(Kx.upd ν).kpt c4 (α.same b3),(Kx.upd ν).wia (b7.same b3) ω χ c4,(Kx.upd ν).tup c4 t4⟩,⟨g.li,q4,t1,t2,q3,s5,s9,kw,kt,ko,CG tp m7⟩,tp⟩
end
noncomputable abbrev NAof (a:Ad):NP:=λH p N od=>NetA H a.cA a.bx a.aZ a.aI p N od
theorem kc (T:Tx K mg a):FnOk P w K mg base CX0 1 a.bL a.lJ ["self"] (z6 (NAof a)):=by
 refine T.cX.1.okA pU λO A outer s H vs Q E Z h=>?_;obtain⟨p,N,od,rfl,na,q⟩:=h;obtain⟨dx,i,s,t,o,d,Y,rs,qs,ws,L,kp,ζ,eq⟩:=na.ho;have hi:=kp.i;refine⟨_,((aq (aJ (aX (bX (K:=K) rfl) @D T.gx qR (aa (fP (K:=K) rfl (pv 0) rfl) ae))))),aN (σ':=[ag _]) rfl ?_⟩;lia;refine dR L T.fh T.qx rfl ?_;lia;exact q
theorem jJ (T:Tx K mg a):FnOk P w K mg base CX0 1 a.bD a.ky ["self"] (Ir (NAof a)):=by
 refine T.cJ.1.okA oY λO A outer s H vs Q E Z h=>?_;obtain⟨p,N,od,rfl,na,q⟩:=h;obtain⟨dx,i,s,t,o,d,Y,rs,qs,ws,L,kp,ζ,eq⟩:=na.ho;have ho:=kp.o;refine⟨_,((aq (aJ (aX (bX (K:=K) rfl) @D T.gx qR (aa (fP (K:=K) rfl (pv 0) rfl) ae))))),aN (σ':=[ag _]) rfl ?_⟩;lia;refine dR L T.fh T.oj rfl ?_;lia;exact q
theorem i7 (T:Tx K mg a):FnOk P w K mg base CX0 1 a.bw a.jO ["self"] (CZ (NAof a)):=by
 refine T.ck.1.okA nS fun α A outer s H vs Q E ε h=>?_;obtain⟨p,N,od,rfl,na,q⟩:=h;obtain⟨dx,i,s,t,o,d,β,rs,qs,ws,O,kp,ζ,eq⟩:=na.ho;have γ:=kp.t;refine⟨_,((aq (aJ (aX (bX (K:=K) rfl) @D T.gx qR (aa (fP (K:=K) rfl (pv 0) rfl) ae))))),aN (σ':=[ag _]) rfl ?_⟩;lia;refine dR O T.fh T.dA rfl ?_;lia;intro D H2 Y L Z;exact q D H2 qs Y L Z (fun δ m=>L.get (kp.tr δ m)) kp.et
theorem kb (T:Tx K mg a):FnOk P w K mg base CX0 1 a.bK a.lH ["self"] (Ip (NAof a)):=by
 refine T.cW.1.okA pS fun α A outer s H vs Q E γ h=>?_;obtain⟨p,N,od,rfl,na,q⟩:=h;obtain⟨dx,i,s,t,o,d,β,rs,qs,ws,O,kp,ζ,eq⟩:=na.ho;have hs:=kp.s;refine⟨_,((aq (aJ (aX (bX (K:=K) rfl) @D T.gx qR (aa (fP (K:=K) rfl (pv 0) rfl) ae))))),aN (σ':=[ag _]) rfl ?_⟩;lia;refine dR O T.fh T.i8 rfl ?_;lia;intro D H2 Y L Z;exact q D H2 rs Y L Z (RwK.same kp.sr L) kp.es
theorem qf (T:Tx K mg a):FnOk P w K mg base CX0 2 a.dB a.sW ["self"] (F5 (NAof a)):=by
 refine T.gS.1.okA xv λa0 A outer s H vs Q E ε h=>?_;obtain⟨p,N,od,rfl,na,q⟩:=h;obtain⟨dx,i,s,t,o,d,tq,rs,qs,ws,η,kp,ζ,eq⟩:=na.ho;refine⟨_,((aq (aJ (bN (aa (gi (pv 0) T.fh T.lA (kc T) (ε.mono @C) T.cX.2 .nil ip) (aa (gi (pv 0) T.fh T.lh (kb T) (ε.mono @C) T.cW.2 .nil ip) (aa (gi (pv 0) T.fh T.jL (i7 T) (ε.mono @C) T.ck.2 .nil ip) (aa (gi (pv 0) T.fh T.kg (jJ T) (ε.mono @C) T.cJ.2 .nil ip) ae)))))))),aN (σ':=[ag _]) rfl ?_⟩;lia;refine gc η rfl ?_;lia;refine⟨p,N,od,rfl,na,λD1 H1 f1 β e1=>?_⟩;lia;refine gc (β.get η) rfl ?_;lia;refine⟨p,N,od,rfl,na.same β,λD2 H2 θ ω φ e2 rk es=>?_⟩;have Z:=β.trans φ;lia;refine gc (Z.get η) rfl ?_;lia;refine⟨p,N,od,rfl,na.same Z,fun ψ H3 ι L υ e3 ρ et=>?_⟩;have O:=Z.trans υ;lia;refine gc (O.get η) rfl ?_;lia;refine⟨p,N,od,rfl,na.same O,fun π H4 ξ τ e4=>?_⟩;lia;intro χ H5 ν ο γ;have Y:=τ.trans ο;have α:=υ.trans Y;exact q χ D1 D2 ψ π H5 θ ι f1 (β.free ω) (Z.free L) (O.free ξ) (O.free (τ.free ν)) (O.trans Y) ⟨γ,α.get (φ.get e1),α.get e2,rk.same α,es,Y.get e3,fun δ m=>Y.get (ρ δ m),et,ο.get e4⟩
theorem xE (T:Tx K mg a):FnOk P w K mg base CX0 2 a.fS a.sO ["net"] (Iq (NAof a)):=by
 refine T.kM.1.okA pO λh6 A outer s H vs Q E hr h=>?_;obtain⟨p,N,od,rfl,na,q⟩:=h;obtain⟨dx,i,s,t,o,d,tq,rs,qs,ws,hp,kp,wi,eq⟩:=na.ho;have g:=na.g;have li:=g.li;have ls:=g.ls;have lt:=g.lt;have lo:=g.lo;have fm:=kG g;have h4:=mQ g
 refine⟨_,((af (eP (osc:=ai d7) (ON:=n14) (N:=["name"]) (n:=1) (fx:=[]) (i:=1) pO.nd rfl rfl rfl rfl rfl rfl @G (aM (K:=K) rfl (gi (pv 0) T.fh T.lA (kc T) (hr.mono @C) T.cX.2 .nil ip)) (aQ @C) (λ_ _ _ _ _=>⟨(av (i:=0) (show oe (["name"]:A6) from by decide +kernel) rfl @E),bp,(bC (aa aD (aa (pv 0) ae)))⟩))
  (af (bB (bW (K:=K) rfl rx Nh Nf hZ (pv 1) (aa (bq (osc:=ai d7) (ON:=n14) (N:=n10) (n:=1) (fx:=[]) rfl rfl rfl @G (aM (K:=K) rfl (gi (pv 0) T.fh T.lh (kb T) (hr.mono @C) T.cW.2 .nil ip)) (aQ @C) (λ_ _ _ _ _=>⟨(av (i:=0) (show oe (n10:A6) from by decide +kernel) rfl @E),bp,(aE dM (bC (aa aD (aa (!j (bt (K:=K) rfl) (pv 0) ah) (aa aD ae)))) (aX (bX (K:=K) rfl) @D T.gx qR (aa (!j (bt (K:=K) rfl) (pv 0) ah) ae)))⟩)) ae)))
  (af (bB (bW (K:=K) rfl rx Nh Nf hZ (pv 1) (aa (bq (osc:=ai d7) (ON:=n14) (N:=n10) (n:=1) (fx:=[]) rfl rfl rfl @G (aM (K:=K) rfl (gi (pv 0) T.fh T.jL (i7 T) (hr.mono @C) T.ck.2 .nil ip)) (aQ @C) (λ_ _ _ _ _=>⟨(av (i:=0) (show oe (n10:A6) from by decide +kernel) rfl @E),bp,(bC (aa aD (aa (!j (bt (K:=K) rfl) (pv 0) ah) (aa aD (aa (!j (bt (K:=K) rfl) (pv 0) ah) ae)))))⟩)) ae)))
  (af (bB (bW (K:=K) rfl rx Nh Nf hZ (pv 1) (aa (bq (osc:=ai d7) (ON:=n14) (N:=["wire"]) (n:=1) (fx:=[]) rfl rfl rfl @G (aM (K:=K) rfl (gi (pv 0) T.fh T.kg (jJ T) (hr.mono @C) T.cJ.2 .nil ip)) (aQ @C) (λ_ _ _ _ _=>⟨(av (i:=0) (show oe (["wire"]:A6) from by decide +kernel) rfl @E),bp,(bC (aa aD (aa (pv 0) ae)))⟩)) ae)))
  (aq (aJ (bW (K:=K) rfl ri Nc Nb (iF (K:=K) rfl) aD (aa (bq (osc:=ai d7) (ON:=n14) (N:=n12) (n:=1) (fx:=[]) rfl rfl rfl @G (aM (K:=K) rfl (pv 1)) (aQ @C) (λ_ _ _ _ _=>⟨(av (i:=0) (show oe (n12:A6) from by decide +kernel) rfl @E),bp,(bW (K:=K) rfl ri Nc Nb (iF (K:=K) rfl) aD (aa (pv 0) ae))⟩)) ae))))))))),aN (σ':=[ag _,gs]) rfl ?_⟩
 lia;refine gc hp rfl ?_;lia;refine⟨p,N,od,rfl,na,λD1 H1 f1 s1 e1=>?_⟩;lia;intro D2 a3;refine aL (xs:=N.ins.map V.str) (λi ys H'=>Same H1 H'/\H' D2=ag (.lst ys)/\Lrw H1 H' D2 ys ((N.ins.take i).map λz=>[("in":ic),z])) ⟨bA a3,au,Lrw.nil⟩ (λi ys H' _ ⟨s',_⟩=>SqL.of (s'.get e1)) ?_ ?_
 ·rintro i y ys H' hy ⟨s',e',lr⟩;obtain⟨z,hz,rfl⟩:=aR hy;have a5:=(b'.mp hz).1;lia;intro D3 H3 L s3 e3;have ο:=lr.len;rw[ak,qo] at ο;refine⟨s3.get e',bG @A,λb ob e=>?_,au,?_⟩
  ·rw[ar (ao e a3)];exact s3.get (s'.get e)
  ·rw[take_succ hz,hh];exact lr.put (s'.free L) e' L s3 e3
 ·rintro ys H2 ⟨s2,e2,χ⟩;rw[ak,mu] at χ;have c5:=s1.trans s2;have l2:=χ.len;rw[ak] at l2;lia;refine gc (c5.get hp) rfl ?_;lia;refine⟨p,N,od,rfl,na.same c5,λD3 H3 ζ L s3 e3 rk es=>?_⟩;have f4:ζ.length=N.sums.length:=by rw[<-es,ak]
  lia;intro π d2;refine aL (xs:=ζ.map λr=>V.ref r.1) (λi ys H'=>Same H3 H'/\H' π=ag (.lst ys)/\Lrw H3 H' π ys ((N.sums.take i).map λr=>("sum":ic)::r.1::("=":ic)::r.2)) ⟨bA d2,au,Lrw.nil⟩ (λi ys H' _ ⟨s',_⟩=>SqL.of (s'.get e3)) ?_ ?_
  ·rintro i y ys H' hy ⟨s',e',lr⟩;obtain⟨r,O,rfl⟩:=aR hy;have a5:=(b'.mp O).1;obtain⟨h0,g3⟩:=rk r (hA O);have b7:=s'.get h0;have a4:N.sums[i]? =ag r.2.2:=by rw[<-es,hH,O];rfl
   have h5:=g.lw _ (hA a4);lia;intro D5 H5 ν s5 e5;have g4:=s5.get b7;have g2:=s5.get (s'.get g3);lia;intro D6 H6 f6 s6 e6;refine iQ (s6.get e5) e6 (by rw[ak,hJ];simp;omega) λD7 H7 f7 s7 e7=>?_;have a0:=s5.trans (s6.trans s7);have ο:=lr.len;rw[ak,qo] at ο;have θ:H' D7=none:=s5.free (s6.free f7);refine⟨a0.get e',bG @A,λb ob e=>?_,au,?_⟩
   ·rw[ar (ao e d2)];exact a0.get (s'.get e)
   ·rw[take_succ a4,hh];exact lr.put (s'.free θ) e' θ a0 e7
  ·rintro β H4 ⟨s4,e4,φ⟩;rw[ak,f4,mu] at φ;have ξ:=φ.len;rw[ak] at ξ;have b8:=s3.trans s4;have a8:Lrw H2 H4 π β _:=φ.base s3;lia;refine jh (b8.get e2) e4 (by rw[hJ];omega) λH5 u5=>?_;have α:=χ.join e2 s2 b8 a8 u5;have c1:Same H1 H5:=λb ob e=>u5.oth _ _ (ao e a3) (b8.get (s2.get e));have c4:=s1.trans c1;have l5:=α.len;clear χ φ a8 e4 e3 rk es L;have e5:=u5.at';lia;refine gc (c4.get hp) rfl ?_;lia;refine⟨p,N,od,rfl,na.same c4,λD6 H6 η f6 s6 e6 ρ et=>?_⟩;have g0:η.length=N.sts.length:=by rw[<-et,ak]
   lia;intro D7 d1;refine aL (xs:=η.map λr=>V.ref r.1) (λi ys H'=>Same H6 H'/\H' D7=ag (.lst ys)/\Lrw H6 H' D7 ys ((N.sts.take i).map λr=>[("store":ic),r.1,("=":ic),r.2])) ⟨bA d1,au,Lrw.nil⟩ (λi ys H' _ ⟨s',_⟩=>SqL.of (s'.get e6)) ?_ ?_
   ·rintro i y ys H' hy ⟨s',e',lr⟩;obtain⟨r,O,rfl⟩:=aR hy;have a5:=(b'.mp O).1;have b7:=s'.get (ρ r (hA O));have a4:N.sts[i]? =ag r.2:=by rw[<-et,hH,O];rfl
    lia;intro D8 H8 f8 s8 e8;have ο:=lr.len;rw[ak,qo] at ο;refine⟨s8.get e',bG @A,λb ob e=>?_,au,?_⟩
    ·rw[ar (ao e d1)];exact s8.get (s'.get e)
    ·rw[take_succ a4,hh];exact lr.put (s'.free f8) e' f8 s8 e8
   ·rintro ι H7 ⟨s7,e7,υ⟩;rw[ak,g0,mu] at υ;have l7:=υ.len;rw[ak] at l7;have a0:=s6.trans s7;simp only[hE,ak] at l5;lia;refine jh (a0.get e5) e7 (by rw[hJ];simp only[hE];omega) λH8 u8=>?_;have Z:=α.join e5 c1 a0 (υ.base s6) u8;have c0:Same H1 H8:=λb ob e=>u8.oth _ _ (ao e a3) (a0.get (c1.get e));have c3:=s1.trans c0;have l8:=Z.len;clear α υ e7 e6 ρ et f6 e5;have e8:=u8.at';lia;refine gc (c3.get hp) rfl ?_;lia;refine⟨p,N,od,rfl,na.same c3,λD9 H9 f9 s9 e9=>?_⟩;lia;intro f0 b5;refine aL (xs:=N.outs.map V.str) (λi ys H'=>Same H9 H'/\H' f0=ag (.lst ys)/\Lrw H9 H' f0 ys ((N.outs.take i).map λz=>[("out":ic),z])) ⟨bA b5,au,Lrw.nil⟩ (λi ys H' _ ⟨s',_⟩=>SqL.of (s'.get e9)) ?_ ?_
    ·rintro i y ys H' hy ⟨s',e',lr⟩;obtain⟨z,hz,rfl⟩:=aR hy;have a5:=(b'.mp hz).1;lia;intro i0 a7 d3 c2 a6;have ο:=lr.len;rw[ak,qo] at ο;refine⟨c2.get e',bG @A,λb ob e=>?_,au,?_⟩
     ·rw[ar (ao e b5)];exact c2.get (s'.get e)
     ·rw[take_succ hz,hh];exact lr.put (s'.free d3) e' d3 c2 a6
    ·rintro γ h8 ⟨f2,ω,a1⟩;rw[ak,mu] at a1;have g1:=a1.len;rw[ak] at g1;have ψ:=s9.trans f2;simp only[hE,ak] at l8;lia;refine jh (ψ.get e8) ω (by rw[hJ];simp only[hE];omega) λa7 τ=>?_;have b0:Lrw H1 a7 D2 _ (jm N):=Z.join e8 c0 ψ (a1.base s9) τ;have δ:Same H1 a7:=λb ob e=>τ.oth _ _ (ao e a3) (ψ.get (c0.get e));have ε:=s1.trans δ;have a6:=τ.at';clear Z a1 ω e9 f9 e8 τ;generalize ys++β++ι++γ=Y at b0 a6;obtain⟨ds,rfl,ld,_,_,hd⟩:=b0;lia;intro h3 b4;refine aL (xs:=ds.map V.ref) (λi ys H'=>Cs (λi ys=>ys=(((jm N).take i).map rowT).map V.str) a7 h3 i ys H') (Cs.zero b4 rfl) (λi ys H' _ c=>SqL.of (c.same.get a6)) (λi y ys H' hy c=>?_) (λys h7 c=>?_)
     ·obtain⟨d,d0,rfl⟩:=aR hy;have a5:=(b'.mp d0).1;obtain⟨r,O⟩:∃r,(jm N)[i]? =ag r:=⟨_,c' @A⟩;have hm:=hA O;have er:=c.same.get (hd i d r d0 O);have b1:=(fm r hm).len
      have a2:∀(l:A6),(∀w∈l,w.length<=6)->(l.map (·.length)).sum<=l.length * 6:=λl=>by
       induction l with
       | nil=>intro _;simp
       | cons x l ih=>intro h;have:=ih λw hw=>h w (px _ hw);have:=h x ox;simp only[MU,PF,y1];omega
      have hs:=a2 r b1.2;lia;refine oH (SqL.of er) (by rw[iw];show _ + r.length * 1<=_;omega) ?_;rw[kB,iw];refine Cs.put b4 c.same c.at' c.len @A ?_;rw[c.pv,take_succ O,hh,hh];rfl
     ·have e0:=c.at';rw[c.pv,ak,ld,mu] at e0
      have a2:∀(l:cc A6),(∀r∈l,Fm r)->((l.map rowT).map (·.length)).sum<=l.length * 189:=λl=>by
       induction l with
       | nil=>intro _;simp
       | cons x l ih=>
         intro h;have:=ih λw hw=>h w (px _ hw);have b1:=(h x ox).len;have b2:=tK b1.2;have b3:x.length * 7<=27 * 7:=Q9 7 b1.1;simp only[MU,PF,y1];omega
      have hs:=a2 (jm N) fm;lia;refine oH (SqL.of e0) (by rw[jT,ak];show _ + (jm N).length * 1<=_;omega) ?_;rw[kB,jT];exact q _ (ε.trans c.same)
section
local macro_rules | `(tactic| walk_at "l2step") =>`(tactic| first | (with_reducible refine s_try ?_))
local macro_rules | `(tactic| walk_at "l2step") =>`(tactic| first | (with_reducible refine jW ?_))
local macro_rules | `(tactic| walk_at "l2step") =>`(tactic| first | (with_reducible refine iA ?_) | (with_reducible refine s_tryH ?_) | (with_reducible refine oI ?_) | (with_reducible refine oG ?_))
local macro_rules | `(tactic| walk_at "l2step") =>`(tactic| (with_reducible refine ID ?_))
theorem qc (T:Tx K mg a):FnOk P w K mg base (CX1 P w) 11 a.fT a.sP ["text"] (C1 (NAof a) a.aC a.aV a.aA a.az a.aG a.bf):=by
 refine T.gb.1.okX de (λvs H Q E h=>?_) (λh7 A outer s H vs Q E hr h=>?_)
 ·obtain⟨z,rfl,_⟩:=h;rfl
 ·obtain⟨z,rfl,lz,qQ,qE⟩:=h;have b7:=pX z;have b1:=λr Z=>vh (z:=z) (r:=r) Z
  refine⟨_,((af (eP (osc:=ai d8) (ON:=n15) (N:=n10) (n:=1) (fx:=[]) (i:=1) de.nd rfl rfl rfl rfl rfl rfl @G (aM (K:=K) rfl (aw (Ax T) hr T.EL T.nN (aa (pv 0) ae))) (aQ @C) (λ_ _ _ _ _=>⟨(av (i:=0) (show oe (n10:A6) from by decide +kernel) rfl @E),bp,(aw (xD T) hr T.BD T.kL (aa (pv 0) ae))⟩))
   (af (eO (dS ⟨rfl,rfl⟩) rfl (IZ (K:=K) rfl @D T.hX (pv 1)) (kW rfl (a9 (av (i:=2) de.nd rfl @E) (a9 (av (i:=3) de.nd rfl @E) fO))) (aq (bE (j6 (dE (aw (xG T) hr T.BF T.kN (aa (pv 3) ae)))) (aq (j7 T.rG (mn T) (hr.mono @C) @D T.wc T.dc.2 ip bU rfl (aa (pv 2) ae))) aH)))
   (af (eP (osc:=ai d8) (ON:=n15) (N:=n12) (n:=1) (fx:=[]) (i:=4) de.nd rfl rfl rfl rfl rfl rfl @G (aM (K:=K) rfl (pv 1)) (aQ @C) (λ_ _ _ _ _=>⟨(av (i:=0) (show oe (n12:A6) from by decide +kernel) rfl @E),(eN (ax gN (!j (ay (K:=K) rfl) (pv 0) ah) aD (aP _))),(!j (ay (K:=K) rfl) (pv 0) ah)⟩))
   (af (eP (osc:=ai d8) (ON:=n15) (N:=n12) (n:=1) (fx:=[]) (i:=5) de.nd rfl rfl rfl rfl rfl rfl @G (aM (K:=K) rfl (pv 1)) (aQ @C) (λ_ _ _ _ _=>⟨(av (i:=0) (show oe (n12:A6) from by decide +kernel) rfl @E),(eN (ax gN (!j (ay (K:=K) rfl) (pv 0) ah) aD (aP _))),(bN (aa (!j (ay (K:=K) rfl) (pv 0) ah) (aa (bQ (cB (K:=K) rfl) (pv 0) (cF ah) cG) ae)))⟩))
   (af (eP (osc:=ai d8) (ON:=n15) (N:=n12) (n:=1) (fx:=[]) (i:=6) de.nd rfl rfl rfl rfl rfl rfl @G (aM (K:=K) rfl (pv 1)) (aQ @C) (λ_ _ _ _ _=>⟨(av (i:=0) (show oe (n12:A6) from by decide +kernel) rfl @E),(eN (ax gN (!j (ay (K:=K) rfl) (pv 0) ah) aD (aP _))),(bN (aa (!j (ay (K:=K) rfl) (pv 0) ah) (aa (!j (ay (K:=K) rfl) (pv 0) ah) ae)))⟩))
   (af (eP (osc:=ai d8) (ON:=n15) (N:=n12) (n:=1) (fx:=[]) (i:=7) de.nd rfl rfl rfl rfl rfl rfl @G (aM (K:=K) rfl (pv 1)) (aQ @C) (λ_ _ _ _ _=>⟨(av (i:=0) (show oe (n12:A6) from by decide +kernel) rfl @E),(eN (ax gN (!j (ay (K:=K) rfl) (pv 0) ah) aD (aP _))),(!j (ay (K:=K) rfl) (pv 0) ah)⟩))
   (aq (aJ (GG T.MN (qg T) (hr.mono @C) @D T.MH T.gq.2 .nil bU (aa (pv 4) (aa (pv 5) (aa (pv 6) (aa (pv 7) ae)))))))))))))),aN (σ':=[ag _,gs,gs,gs,gs,gs,gs,gs]) rfl ?_⟩
  lia;refine⟨z,rfl,@A,λD1 H1 f1 s1 e1=>?_⟩;lia;intro D2 c4;generalize a4:cj z=rows at b7 b1;have ψ:(if z="" then [] else M7 z ⟨#[10]⟩).map (λr=>M7 r ⟨#[32]⟩)=rows:=a4
  have τ:∀y∈(if z="" then [] else M7 z ⟨#[10]⟩),y.length<=z.length:=λy hy=>by
   by_cases e:z=""
   ·rw[kn e] at hy;cases hy
   ·rw[hQ e] at hy;have:=mD hy;rw[kC] at this;omega
  generalize e4:(if z="" then [] else M7 z ⟨#[10]⟩)=ts at e1 ψ τ;have O:ts.length=rows.length:=by rw[<-ψ,ak]
  refine aL (xs:=ts.map V.str) (λi ys H'=>∃ds:D',ys=ds.map V.ref/\Same H1 H'/\H' D2=ag (.lst ys)/\ds.length=i/\(∀d∈ds,d≠D2)/\∀(j:Nat) (d:eH) (r:A6),ds[j]? =ag d->rows[j]? =ag r->H' d=ag (.lst (r.map V.str))) ⟨[],rfl,bA c4,au,rfl,λ_ h=>(by cases h),λj d r h=>(by simp at h)⟩ (λi ys H' _ ⟨_,_,s',_⟩=>SqL.of (s'.get e1)) ?_ ?_
  ·rintro i y ys H' hy ⟨ds,rfl,s',e',ld,nd,hd⟩;obtain⟨y',b4,rfl⟩:=aR hy;have b0:=(b'.mp b4).1;have e7:rows[i]? =ag (M7 y' ⟨#[32]⟩):=by rw[<-ψ,hH,b4];rfl
   have h5:=τ y' (hA b4);lia;refine⟨y',rfl,@A,λD3 H3 c5 s3 e3=>?_⟩;have c3:D3≠D2:=λz=>by rw[z,e'] at c5;cases c5
   have k3:∀b ob,b≠D2->H3 b=ag ob->upd H3 D2 (.lst (ds.map V.ref++[.ref D3])) b=ag ob:=λb ob n e=>by rw[ar n];exact e
   refine⟨s3.get e',by rw[ak,hJ];omega,ds++[D3],by rw[hh];rfl,λb ob e=>k3 _ _ (ao e c4) (s3.get (s'.get e)),au,by rw[hE,ld];rfl,λd ι=>?_,λj d r' hj χ=>?_⟩
   ·rcases lx.mp ι with h | h
    ·exact nd d h
    ·rw[hC.mp h];exact c3
   ·by_cases f2:j < ds.length
    ·rw[vr f2] at hj;exact k3 _ _ (nd d (hA hj)) (s3.get (hd j d r' hj χ))
    ·have hl:=(b'.mp hj).1;rw[hE,M0] at hl;rw[u' @A,show j - ds.length=0 by omega] at hj;cases hj;rw[show j=i by omega,e7] at χ;cases χ;exact k3 _ _ c3 e3
  ·rintro ys H2 ⟨ds,rfl,s2,e2,ld,nd,hd⟩;rw[ak] at ld;have a7:∀{j:Nat} {d:eH} {r:A6},ds[j]? =ag d->rows[j]? =ag r->H2 d=ag (.lst (r.map V.str)):=λ{j d r}=>hd j d r
   have dr:∀{j:Nat} {d:eH},ds[j]? =ag d->∃r,rows[j]? =ag r/\r∈rows:=λ{j d} h=>by
    have hl:=(b'.mp h).1;exact⟨_,c' @A,Ny _⟩
   have b5:=s1.trans s2;clear hd nd e1 s2 s1 f1 e4 τ;lia;refine um (xs:=ds.map V.ref) (λi σ H'=>∃v2 v3 v4 v5 v6 v7,σ=[ag (.str z),ag (.ref D2),v2,v3,v4,v5,v6,v7]/\Same H2 H'/\∀r∈rows.take i,cf r=true) ⟨gs,gs,gs,gs,gs,gs,rfl,Same.refl _,λr h=>by simp at h⟩ (λi σ H' _ ⟨_,_,_,_,_,_,_,s',_⟩=>SqL.of (s'.get e2)) ?_ ?_
   ·rintro i y σ H' pz H3 hy ⟨v2,v3,v4,v5,v6,v7,rfl,s',fm⟩ fp s3 e3;obtain⟨d,ι,rfl⟩:=aR hy;obtain⟨r,Z,hm⟩:=dr ι;obtain⟨m1,m2⟩:=b1 r hm;have m3:=uP r;lia;refine⟨d,r,rfl,s3.get (s'.get (a7 ι Z)),m1,@A,λw hw=>by have:=mD hw;omega,λH4 s4=>?_⟩;cases hf:cf r with
    | true=>
      lia;refine⟨_,_,_,_,_,_,rfl,s'.trans (s3.trans s4),λr' Y=>?_⟩;rw[take_succ Z] at Y;rcases lx.mp Y with h | h
      ·exact fm r' h
      ·rw[hC.mp h];exact hf
    | false=>
      have hb:dueZ z=ag (.line i):=by
       unfold dueZ;rw[a4,tj Z hf fm]
      lia;refine i6 λx H5 ν s5 e5=>⟨x,_,rfl,e5,λH6 e6 η=>?_⟩;obtain⟨dx,a1,a2,a3⟩:=Ib (H:=H4) ν e6 λb u f7 e'=>η _ _ f7 (s5.get e');exact⟨rfl,ag dx,a1,qE _ hb _ _ _ ((((b5.trans s').trans s3).trans s4).trans a2) ⟨rfl,dx,rfl,a3⟩⟩
   ·rintro σ H3 ⟨v2,v3,v4,v5,v6,v7,rfl,s3,fm⟩;rw[ak,ld,O,mu] at fm;have h6:=s3.get e2;have gd:∀(r:A6) (k:Nat),k < r.length->atI (r.map V.str) (k:Int)=ag (.str (r.getD k "")):=λr k hk=>lL hk;have f6:∀r∈rows,F6 r:=λr hr=>yd (fm r hr);have fl:∀r∈rows,2<=r.length:=λr Z=>(f6 r Z).names.1;have f4:∀r∈rows,kd "store" r=true->4<=r.length:=λr Z hk=>((f6 r Z).names.2.2.2.1 hk).1;have f3:∀r∈rows,kd "sum" r=true->3<=r.length:=λr Z hk=>(f6 r Z).names.2.2.2.2 hk
    have fs:∀(k:ic) (i:Nat) (r:A6),rows[i]? =ag r->(rows.take (i + 1)).filter (kd k)=(rows.take i).filter (kd k)++(if kd k r=true then [r] else []):=λk i r h=>by
     rw[take_succ h,M6,M5];rfl
    have ld:ds.length=rows.length:=by omega
    lia;intro Di c2;refine aL (xs:=ds.map V.ref) (λi ys H'=>Cs (λi ys=>ys=(((rows.take i).filter (kd "in")).map λr=>r.getD 1 "").map V.str) H3 Di i ys H') (Cs.zero c2 rfl) (λi ys H' _ c=>SqL.of (c.same.get (s3.get e2))) (λi y ys H' hy c=>?_) (λys H4 c=>?_)
    ·obtain⟨d,ι,rfl⟩:=aR hy;obtain⟨r,Z,hm⟩:=dr ι;have b0:=(b'.mp Z).1;have er:=c.same.get (s3.get (a7 ι Z));have ζ:=fl r hm;have θ:=gd r 0 @A;have g1:=gd r 1 @A;lia;by_cases hk:r.getD 0 ""="in"
     ·refine eh (fZ (by rw[hk])) ?_;lia;refine Cs.put c2 c.same c.at' c.len @A ?_;rw[c.pv,fs "in" i r Z,kn (show kd "in" r=true from fZ hk),hh,hh];rfl
     ·refine eA (fy λe=>hk (V.str.inj e)) ?_;refine Cs.skip c.same c.at' c.len ?_;rw[c.pv,fs "in" i r Z,hQ (show ¬kd "in" r=true from λz=>hk (M3 z)),z5]
    ·have ω:=c.at';rw[c.pv,ak,ld,mu] at ω;have d2:=c.same;clear c;have b2:=s3.trans d2;lia;intro Ds c0;refine aL (xs:=ds.map V.ref) (λi ys H'=>∃rs:cc Rw,ys=rs.map (λr=>V.ref r.1)/\Same H4 H'/\H' Ds=ag (.lst ys)/\rs.length<=i/\RwL H' rs/\(∀r∈rs,r.2.1≠Ds)/\rs.map (·.2.2)=((rows.take i).filter (kd "sum")).map λr=>(r.getD 1 "",r.drop 3)) ⟨[],rfl,bA c0,au,qb _,λ_ h=>(by cases h),λ_ h=>(by cases h),rfl⟩ (λi ys H' _ ⟨_,_,s',_⟩=>SqL.of (s'.get (b2.get e2))) ?_ ?_
     ·rintro i y ys H' hy ⟨rs,ey,s',e',d3,rk,rd,a0⟩;obtain⟨d,ι,rfl⟩:=aR hy;obtain⟨r,Z,hm⟩:=dr ι;have b0:=(b'.mp Z).1;have er:=s'.get (b2.get (a7 ι Z));have ζ:=fl r hm;have θ:=gd r 0 @A;have g1:=gd r 1 @A;lia;by_cases hk:r.getD 0 ""="sum"
      ·have a6:kd "sum" r=true:=fZ hk;refine eh (fZ (by rw[hk])) ?_;lia;intro Dw H5 ν s5 e5;rw[show cutV (r.map V.str) (ag 3) gs=(r.drop 3).map V.str from(nJ (r.map V.str) 3 (by rw[ak];exact f3 r hm a6)).trans (Qe ..).symm] at e5;lia;intro tp H6 f6 s6 e6;have a8:=s5.trans s6;have υ:=a8.get e';have ρ:Dw≠Ds:=λz=>by rw[z,e'] at ν;cases ν
       have η:∀b ob,b≠Ds->H6 b=ag ob->upd H6 Ds (.lst (ys++[.ref tp])) b=ag ob:=λb ob n e=>by rw[ar n];exact e
       refine⟨υ,by rw[ey,ak];(rw[hJ];omega),rs++[(tp,Dw,r.getD 1 "",r.drop 3)],by rw[ey,hh];rfl,λb ob e=>η _ _ (ao e c0) (a8.get (s'.get e)),au,by rw[hE,M0];omega,λr' a5=>?_,λr' a5=>?_,?_⟩
       ·rcases lx.mp a5 with h | h
        ·have t1:=a8.get (rk r' h).1;exact⟨η _ _ (hU t1 υ λz=>by cases z) t1,η _ _ (rd r' h) (a8.get (rk r' h).2)⟩
        ·rw[hC.mp h];exact⟨η _ _ (hU e6 υ λz=>by cases z) e6,η _ _ ρ (s6.get e5)⟩
       ·rcases lx.mp a5 with h | h
        ·exact rd r' h
        ·rw[hC.mp h];exact ρ
       ·rw[hh,a0,fs "sum" i r Z,kn a6,hh];rfl
      ·refine eA (fy λe=>hk (V.str.inj e)) ?_;exact⟨rs,ey,s',e',@A,rk,rd,by rw[a0,fs "sum" i r Z,hQ (show ¬kd "sum" r=true from λz=>hk (M3 z)),z5]⟩
     ·rintro ys H5 ⟨rs,rfl,π,g2,d3,rk,rd,a0⟩;rw[ak,ld,mu] at a0;have ε:=b2.trans π;lia;intro Dt b8;refine aL (xs:=ds.map V.ref) (λi ys H'=>∃qs:cc Qs,ys=qs.map (λr=>V.ref r.1)/\Same H5 H'/\H' Dt=ag (.lst ys)/\qs.length<=i/\QsK H' qs/\qs.map (·.2)=((rows.take i).filter (kd "store")).map λr=>(r.getD 1 "",r.getD 3 "")) ⟨[],rfl,bA b8,au,qb _,λ_ h=>(by cases h),rfl⟩ (λi ys H' _ ⟨_,_,s',_⟩=>SqL.of (s'.get (ε.get e2))) ?_ ?_
      ·rintro i y ys H' hy ⟨qs,ey,s',e',e0,qk,eq0⟩;obtain⟨d,ι,rfl⟩:=aR hy;obtain⟨r,Z,hm⟩:=dr ι;have b0:=(b'.mp Z).1;have er:=s'.get (ε.get (a7 ι Z));have ζ:=fl r hm;have θ:=gd r 0 @A;have g1:=gd r 1 @A;lia;by_cases hk:r.getD 0 ""="store"
       ·have a6:kd "store" r=true:=fZ hk;have g3:=gd r 3 (by have:=f4 r hm a6;omega);refine eh (fZ (by rw[hk])) ?_;lia;intro tp H6 f6 s6 e6;have υ:=s6.get e';refine⟨υ,by rw[ey,ak];(rw[hJ];omega),qs++[(tp,r.getD 1 "",r.getD 3 "")],by rw[ey,hh];rfl,λb ob e=>?_,au,by rw[hE,M0];omega,λq' α=>?_,?_⟩
        ·rw[ar (ao e b8)];exact s6.get (s'.get e)
        ·have:H6 q'.1=ag (.tup [.str q'.2.1,.str q'.2.2]):=by
          rcases lx.mp α with h | h
          ·exact s6.get (qk q' h)
          ·rw[hC.mp h];exact e6
         rw[ar (hU this υ λz=>by cases z)];exact this
        ·rw[hh,eq0,fs "store" i r Z,kn a6,hh];rfl
       ·refine eA (fy λe=>hk (V.str.inj e)) ?_;exact⟨qs,ey,s',e',@A,qk,by rw[eq0,fs "store" i r Z,hQ (show ¬kd "store" r=true from λz=>hk (M3 z)),z5]⟩
      ·rintro ys H6 ⟨qs,rfl,ο,f9,e0,qk,eq0⟩;rw[ak,ld,mu] at eq0;have δ:=ε.trans ο;lia;intro Do c1;refine aL (xs:=ds.map V.ref) (λi ys H'=>Cs (λi ys=>ys=(((rows.take i).filter (kd "out")).map λr=>r.getD 1 "").map V.str) H6 Do i ys H') (Cs.zero c1 rfl) (λi ys H' _ c=>SqL.of (c.same.get (δ.get e2))) (λi y ys H' hy c=>?_) (λys H7 c=>?_)
       ·obtain⟨d,ι,rfl⟩:=aR hy;obtain⟨r,Z,hm⟩:=dr ι;have b0:=(b'.mp Z).1;have er:=c.same.get (δ.get (a7 ι Z));have ζ:=fl r hm;have θ:=gd r 0 @A;have g1:=gd r 1 @A;lia;by_cases hk:r.getD 0 ""="out"
        ·refine eh (fZ (by rw[hk])) ?_;lia;refine Cs.put c1 c.same c.at' c.len @A ?_;rw[c.pv,fs "out" i r Z,kn (show kd "out" r=true from fZ hk),hh,hh];rfl
        ·refine eA (fy λe=>hk (V.str.inj e)) ?_;refine Cs.skip c.same c.at' c.len ?_;rw[c.pv,fs "out" i r Z,hQ (show ¬kd "out" r=true from λz=>hk (M3 z)),z5]
       ·have d0:=c.at';rw[c.pv,ak,ld,mu] at d0;have ξ:=c.same;clear c;obtain⟨n1,n2,n3,n4⟩:=ub rows;have h4:rs.length=(sumR rows).length:=by rw[<-show rs.map (·.2.2)=sumR rows from a0,ak]
        lia;refine Dm λx g4 H8 f8 s8 e8=>?_;have φ:=ξ.trans s8;have γ:=ο.trans φ;have d1:=π.trans γ;have b3:=b5.trans (δ.trans ξ);have hz:dueZ z=(dueF (ndR rows)).map Fz.ft:=by unfold dueZ;rw[a4,oF fm]
        refine⟨x,g4,Di,Ds,Dt,Do,(insR rows).map V.str,upR rs,upQ qs,(outR rows).map V.str,ndR rows,rfl,e8,⟨d1.get ω,by unfold upR;rw[qa];exact γ.get g2,λr' a5=>?_,by unfold upQ;rw[qa];exact φ.get f9,λq' m=>?_,s8.get d0⟩,datR fm a0 eq0,by rw[ak];omega,by unfold upR;rw[ak];omega,λh0 L od k9 na=>⟨rfl,?_⟩,λf hf L C' h3 k9 ft=>?_⟩
        ·obtain⟨r0,e9,rfl⟩:=mw.mp a5;have:=rk.same γ r0 e9;exact⟨this.1,.inl this.2⟩
        ·obtain⟨q0,f0,rfl⟩:=mw.mp m;exact φ.get (qk q0 f0)
        ·have β:Same H7 L:=λb ob e=>k9 _ _ (ao e f8) (s8.get e);rw[Ec] at na;exact qQ (by rw[hz,h0];rfl) x L od (b3.free f8) (b3.trans β) (by rw[a4];exact na)
        ·have β:Same H7 L:=λb ob e=>k9 _ _ (ao e f8) (s8.get e);refine qE (.ft f) (by rw[hz,hf];rfl) L C' h3 (b3.trans β) ?_;show FtX _ _ _ _ _ _ _ _ _ _;rw[a4];have e:(netR rows).sums=(ndR rows).rows:=by rw[<-Ec];rfl
         rw[e];exact ft
end
def C7:Sp:=λvs H Q _=>∃(v:V) (d:Dt),vs=[v]/\(Tg H v d∨∃z:ic,v= .str z/\d= .str z/\z.length<=1000000)/\∀H2,Same H H2->Q (.bl (xP d)) H2
theorem memD (c:Nat):decide (c∈("0123456789":ic).cps.toList)=fig c:=by
 have e:("0123456789":ic).cps.toList=Q4 48 10:=by decide +kernel
 rw[e];unfold fig;rw[Nl,wb,wh,wh,wh,PX];constructor
 ·rintro⟨i,h,rfl⟩;omega
 ·rintro⟨h1,h2⟩;exact⟨c - 48,@A,@A⟩
theorem Jk {c:Nat} (h:fig c=true):low c=false:=by
 unfold fig at h;unfold low;simp at h;simp;omega
theorem Ld {c:Nat} {r:A'} (h:(c::r).length<=6) (hf:fig c=false):nm (c::r)=(c::r).all λc=>low c||fig c:=by
 show(decide ((c::r).length<=6)&&low c&&(c::r).all λc=>low c||fig c)=_;rw[fZ h,Rp,Qf,hf,SZ];cases low c<;>rfl
theorem pH (ws:A6):eqD (.lst (ws.map strD)) (.lst [])=decide (ws=[]):=by
 cases ws with
 | nil=>rfl
 | cons w l=>rw[fy @F];rfl
theorem hG (T:Tx K mg a):FnOk P w K mg base CX0 1 a.cy a.lG ["_law_thing"] C7:=by
 refine T.cV.1.okA pR fun θ A outer s H vs Q E ζ h=>?_;obtain⟨v,d,rfl,tv,q⟩:=h;have γ:=jq ζ
 refine⟨_,((af (bE (PW.pt (j5 (j6 (dE (aB (eT (K:=K) rfl) @D T.cq L' (aa (pv 0) (aa (jv (v:= .ty "str") @D T.Jj Pm rfl) ae))))) (j5 (j6 (GC K7 K7 ah (aB (aF (K:=K) rfl) @D T.cK kf (aa (pv 0) ae)) ah)) (j4 (ax p9 (!j yY (pv 0) ah) aD @D))))) (aq (aJ p7)) aH)
  (aq (aJ (ju (nZ (K:=K) rfl γ) (bq (osc:=ai gh) (ON:=["_law_thing"]) (N:=["_law_sign"]) (n:=1) (fx:=[]) rfl rfl rfl @G (Hx (pv 0)) (aQ @C) (λ_ _ _ _ _=>⟨(av (i:=0) (show oe (["_law_sign"]:A6) from by decide +kernel) rfl @E),(eN (ax vy (pv 0) aD @D)),(pv 0)⟩)) (bC ae) (aP _)))))),aN (σ':=[ag _]) rfl ?_⟩
 have tv:(∃z:ic,v= .str z/\d= .str z/\z.length<=1000000)∨(Tg H v d/\∀z,v≠.str z):=by
  rcases tv with tv | tv
  ·cases tv with
   | str z l=>exact .inl ⟨z,rfl,rfl,NK l @C⟩
   | int i=>exact .inr ⟨.int i,λz e=>by cases e⟩
   | bl b=>exact .inr ⟨.bl b,λz e=>by cases e⟩
   | non=>exact .inr ⟨.non,λz e=>by cases e⟩
   | nil e=>exact .inr ⟨.nil e,λz e=>by cases e⟩
   | one l e=>exact .inr ⟨.one l e,λz e=>by cases e⟩
  ·exact .inl tv
 rcases tv with ⟨z,rfl,rfl,hz⟩ | ⟨tv,nz⟩
 rotate_left
 cases tv with
 | int i=>lia;exact q H (Same.refl _)
 | bl b=>lia;exact q H (Same.refl _)
 | non=>lia;exact q H (Same.refl _)
 | nil e=>lia;exact q H (Same.refl _)
 | one l e=>lia;exact q H (Same.refl _)
 | str z hz=>exact ik rfl (nz z)
 ·have q:∀H',Same H H'->Q (.bl (nm z.cps.toList)) H':=q;have hs:z.length<=sizeLine:=Pj (zj hz);have L:=cM z;lia;by_cases h1:(1:Int)<=z.length
  rotate_left
  ·refine eA (fy h1) ?_;lia;have e:z.cps.toList=[]:=RB.mp @A;have Y:=q H (Same.refl _);rw[e] at Y;exact Y
  ·refine eh (fZ h1) ?_;lia
   obtain⟨c,r,O⟩:∃c r,z.cps.toList=c::r:=by
    cases hl:z.cps.toList with
    | nil=>rw[hl] at L;exact ik L.symm (by simp;omega)
    | cons c r=>exact⟨c,r,rfl⟩
   rw[O] at L;have q:∀H',Same H H'->Q (.bl (nm (c::r))) H':=λH' s=>by have:=q H' s;rw[O] at this;exact this
   by_cases h2:(z.length:Int)<=6
   rotate_left
   ·rw[fy h2];lia;have:=q H (Same.refl H);unfold nm at this;simp only[] at this;rw[fy (show ¬(c::r).length<=6 by omega)] at this;exact this
   ·rw[fZ h2];lia;refine Gk hs (c:=c) (by rw[O];exact c6 (j:=0) rfl) ?_;lia;rw[Pd,memD];cases hf:fig c
    rotate_left
    ·lia;have:=q H (Same.refl H);unfold nm at this;simp only[] at this;rw[Jk hf] at this;simpa using this
    ·rw[Ld (show(c::r).length<=6 by omega) hf] at q;lia;intro D f;refine ze (Cs (λi ys=>ys=(((c::r).take i).filter λc=> !(low c||fig c)).map λc=>V.str ⟨#[c]⟩) H D) (Cs.zero f rfl) (λi d ys H' hd ψ=>?_) (λys H' ψ=>?_)
     ·have hi:i < z.cps.size:=(Nw.mp hd).1;have Z:(c::r)[i]? =ag d:=by rw[<-O];simpa using hd
      lia;rw[Pd,memN];cases hb:(low d||fig d)
      ·lia;refine Cs.put f ψ.same ψ.at' ψ.len (by have:z.cps.size=z.length:=rfl;omega) ?_;have e:[d].filter (λc=> !(low c||fig c))=[d]:=by rw[M5,hb];rfl
       rw[ψ.pv,Q5,Z,M6,hh];show _=_++OW _ ([d].filter _);rw[e];rfl
      ·lia;refine Cs.skip ψ.same ψ.at' ψ.len ?_;have e:[d].filter (λc=> !(low c||fig c))=[]:=by rw[M5,hb];rfl
       rw[ψ.pv,Q5,Z,M6];show _=OW _ (_++[d].filter _);rw[e,z5]
     ·have hsz:z.cps.size=(c::r).length:=L.symm;have α:=ψ.at';rw[ψ.pv,hsz,mu] at α;have α:H' D=ag (.lst ((((c::r).filter λc=> !(low c||fig c)).map λc=>(⟨#[c]⟩:ic)).map V.str)):=by rw[α,qa];rfl
      have ε:=ψ.same;clear ψ;lia;intro ν H2 ι δ η;refine lZ (jr (δ.get α)) (Rep.lst (ds:=[]) (SqL.of η) rfl λi x d h=>by simp at h) (by unfold depD;rw[gO];decide) ?_;rw[pH];have Y:=q H2 (ε.trans δ)
      have e:((c::r).all λc=>low c||fig c)=decide (((c::r).filter λc=> !(low c||fig c)).map (λc=>(⟨#[c]⟩:ic))=[]):=by
       rw[Nl,wh,OA,OL,Nr];constructor
       ·intro h x β;rw[h x β];decide
       ·intro h x β;have:=h x β;cases hb:(low x||fig x);· rw[hb] at this;exact ik rfl this
        ·rfl
      rw[e] at Y;exact Y
noncomputable def ftS:Ft->ic
 | .many=>"TooMany"
 | .bad _=>"BadName"
 | .dbl _=>"Doubled"
 | .now _=>"NoWire"
 | .ring=>"Ring"
noncomputable def ftD:Ft->Dt
 | .many=> .non
 | .bad d=>d
 | .dbl d=>d
 | .now d=>d
 | .ring=> .non
def DueT (H:Hp) (t:eH) (f:Ft):Prop:=∃v,H t=ag (.tup [.str (ftS f),v])/\Tg H v (ftD f)
def va:Sp:=λvs H Q _=>∃(l D:eH) (L:Hp) (xs:cc V) (ds:cc Dt),vs=[.ref l,.ref D]/\Same L H/\L D=gs/\H D=ag (.lst [])/\L l=ag (.lst xs)/\TgL L xs ds/\xs.length<=1000/\
 (nmsF ds []=gs->∀H2,Same L H2->H2 D=ag (.lst ((ds.map dStr).map V.str))->Q .non H2)/\(∀f,nmsF ds []=ag f->∀t H2,Same L H2->DueT H2 t f->Q (.ref t) H2)
theorem og (T:Tx K mg a):FnOk P w K mg base CX0 2 a.bS a.jN ["_law_names","_law_known"] va:=by
 refine T.dO.1.okA i5 fun υ A outer s H vs Q E ρ h=>?_;obtain⟨l,D,φ,xs,ds,rfl,ο,O,θ,hl,tg,χ,π,L⟩:=h
 refine⟨_,((af (eO MY rfl (aM (K:=K) rfl (pv 0)) (av (i:=2) i5.nd rfl @E) (af (bE (j6 (dE (aw (hG T) ρ T.i3 T.cV (aa (pv 2) ae)))) (aq (aJ (bN (aa aD (aa (pv 2) ae))))) aH)
  (af (bE (ax (sG (K:=K) rfl) (pv 2) (pv 1) @D) (aq (aJ (bN (aa aD (aa (pv 2) ae))))) aH)
  (aq (bB (bW (K:=K) rfl rx Ni Ng gy (pv 1) (aa (pv 2) ae)))))))
  (aq (aJ gw)))),aN (σ':=[ag _,ag _,gs]) rfl ?_⟩
 lia;refine kJ (xs:=xs) (λi σ H'=>∃v,σ=[ag (.ref l),ag (.ref D),v]/\Same φ H'/\H' D=ag (.lst (((ds.take i).map dStr).map V.str))/\nmsF ds []=nmsF (ds.drop i) ((ds.take i).map dStr)) ⟨gs,rfl,ο,θ,rfl⟩ (λi σ H' _ ⟨_,_,s',_⟩=>SqL.of (s'.get hl)) ?_ ?_
 ·rintro i y σ H' ξ ⟨v,rfl,s',ε,Y⟩;have hi:=(b'.mp ξ).1;obtain⟨d,hd⟩:∃d,ds[i]? =ag d:=⟨_,c' (by rw[<-tg.1];exact hi)⟩;have t0:=tg.2 i y d ξ hd;rw[ij hd] at Y;lia;refine⟨y,d,rfl,.inl (t0.same s'),λH2 ν=>?_⟩;have Z:=s'.trans ν;have α:=ν.get ε;cases hn:xP d with
  | false=>
    lia;intro t ζ τ δ γ;exact L _ (Y.trans (yV hn _ _)) t ζ (Z.trans δ) ⟨y,γ,t0.same (Z.trans δ)⟩
  | true=>
    obtain⟨z,rfl,rfl,β⟩:∃z,y= .str z/\d= .str z/\z.length<=1000:=by
     cases t0 with
     | str z l=>exact⟨z,rfl,rfl,l⟩
     | nil=>cases hn
     | one=>cases hn
     | int=>cases hn
     | bl=>cases hn
     | non=>cases hn
    have η:nm z.cps.toList=true:=hn;rw[tW,kn η] at Y;lia;refine Dq α ?_;by_cases hz:z∈(ds.take i).map dStr
    ·rw[kn hz] at Y;rw[fZ hz];lia;intro t ζ τ δ γ;exact L _ Y t ζ (Z.trans δ) ⟨.str z,γ,.str z β⟩
    ·rw[hQ hz] at Y;rw[fy hz];lia;refine gf α (by rw[ak,ak,qo];exact bG @A) fun ζ ι=>?_;lia;have γ:=ι.at';refine⟨λb o e=>ι.oth _ _ (ao e O) (Z.get e),?_,?_⟩
     ·rw[γ,take_succ hd,hh,hh];rfl
     ·rw[Y,take_succ hd,hh];rfl
 ·rintro σ H' ⟨v,rfl,s',ε,Y⟩;rw[tg.1,Ox] at Y;rw[tg.1,mu] at ε;lia;exact π Y H' s' ε
def C4:Sp:=λvs H Q _=>∃(l:eH) (r:A6),vs=[.ref l]/\H l=ag (.lst (r.map V.str))/\1<=r.length/\r.length<=1000002/\(∀w∈r,w.length<=1000000)/\(cf r=false->∀H2,Same H H2->Q .non H2)/\
 (∀z:ic,r=[("in":ic),z]->nmB z=true->∀t H2,Same H H2->H2 t=ag (.tup [.str "in",.str z])->Q (.ref t) H2)/\
 (∀z:ic,r=[("out":ic),z]->nmB z=true->∀t H2,Same H H2->H2 t=ag (.tup [.str "out",.str z])->Q (.ref t) H2)/\
 (∀(z:ic) (ws:A6),r=("sum":ic)::z::("=":ic)::ws->nmB z=true->(∀w∈ws,nmB w=true)->∀t u v H2,Same H H2->H2 t=ag (.tup [.str "sum",.ref u])->H u=gs->H2 u=ag (.tup [.str z,.ref v])->H v=gs->H2 v=ag (.lst (ws.map V.str))->Q (.ref t) H2)/\
 (∀z y:ic,r=[("store":ic),z,("=":ic),y]->nmB z=true->nmB y=true->∀t u H2,Same H H2->H2 t=ag (.tup [.str "store",.ref u])->H u=gs->H2 u=ag (.tup [.str z,.str y])->Q (.ref t) H2)
theorem xH (T:Tx K mg a):FnOk P w K mg base CX0 2 a.fV a.sR ["_law_words"] C4:=by
 refine T.kO.1.okA pP λb8 A outer s H vs Q E hr h=>?_;obtain⟨l,r,rfl,hl,l1,l2,lw,q0,qi,τ,qs,qt⟩:=h;have a0:atI (r.map V.str) 0=ag (.str (r.getD 0 "")):=lL (k:=0) @A;obtain⟨n1,n2,n3,n4,n5,n6,n7,n8,n9,b0,a7,Y⟩:=w_ne;obtain⟨b1,b2,b3,δ,b5⟩:=Le
 refine⟨_,((af (eP (osc:=ai kF) (ON:=["_law_words","_law_names"]) (N:=["_law_word"]) (n:=1) (fx:=[]) (i:=1) pP.nd rfl rfl rfl rfl rfl rfl @G (aM (K:=K) rfl (pv 0)) (aQ @C) (λ_ _ _ _ _=>⟨(av (i:=0) (show oe (["_law_word"]:A6) from by decide +kernel) rfl @E),(eN (dE (aw (hG T) hr T.i3 T.cV (aa (pv 0) ae)))),(pv 0)⟩))
  (nW (bE (PW.pt (oK (ax (sG (K:=K) rfl) (!j (ay (K:=K) rfl) (pv 0) ah) (bC (aa aD (aa aD ae))) @D) (oK (ax gN (aB (aF (K:=K) rfl) @D T.cK kf (aa (pv 0) ae)) ah (aP _)) (mh (ax gN (aB (aF (K:=K) rfl) @D T.cK kf (aa (pv 1) ae)) ah (aP _)))))) (aq (aJ (bN (aa (!j (ay (K:=K) rfl) (pv 0) ah) (aa (!j (ay (K:=K) rfl) (pv 0) ah) ae))))) aH)
  (af (bE (PW.pt (j5 (ax (j8 (K:=K) rfl) (!j (ay (K:=K) rfl) (pv 0) ah) (bC (aa aD (aa aD ae))) @D) (j4 (ax Aw (aB (aF (K:=K) rfl) @D T.cK kf (aa (pv 0) ae)) ah (aP _))))) (aq (aJ gw)) aH)
  (af (bE (PW.pt (j5 (ax xC (!j (ay (K:=K) rfl) (pv 0) ah) aD (aP _)) (j4 (ax xC (aB (aF (K:=K) rfl) @D T.cK kf (aa (pv 1) ae)) (aE vx (aB (aF (K:=K) rfl) @D T.cK kf (aa (pv 0) ae)) ah) (aP _))))) (aq (aJ gw)) aH)
  (af (bE (ax gN (!j (ay (K:=K) rfl) (pv 0) ah) aD (aP _)) (aq (aJ (bN (aa aD (aa (bN (aa (!j (ay (K:=K) rfl) (pv 0) ah) (aa (bQ (cB (K:=K) rfl) (pv 0) (cF ah) cG) ae))) ae))))) aH)
  (af (bE (ax gN (aB (aF (K:=K) rfl) @D T.cK kf (aa (pv 0) ae)) ah (aP _)) (aq (aJ (bN (aa aD (aa (bN (aa (!j (ay (K:=K) rfl) (pv 0) ah) (aa (!j (ay (K:=K) rfl) (pv 0) ah) ae))) ae))))) aH)
  (aq (aJ gw))))))))),aN (σ':=[ag _,gs]) rfl ?_⟩
 lia;intro D1 a4;refine aL (xs:=r.map V.str) (λi ys H'=>Cs (λi ys=>ys=((r.take i).filter nmB).map V.str) H D1 i ys H') (Cs.zero a4 rfl) (λi ys H' _ c=>SqL.of (c.same.get hl)) (λi x ys H' hx c=>?_) (λys H1 c=>?_)
 ·obtain⟨χ,ζ,rfl⟩:=aR hx;have hi:=(b'.mp ζ).1;lia;refine⟨_,.str χ,rfl,.inr ⟨χ,rfl,rfl,lw χ (hA ζ)⟩,λH6 Z=>?_⟩;have e:xP (.str χ)=nmB χ:=rfl;rw[e];cases hn:nmB χ with
  | true=>
    lia;refine Cs.put a4 (c.same.trans Z) (Z.get c.at') c.len @A ?_;rw[c.pv,take_succ ζ,M6,hh,M5,kn hn];rfl
  | false=>
    lia;refine Cs.skip (c.same.trans Z) (Z.get c.at') c.len ?_;rw[c.pv,take_succ ζ,M6,M5,hQ (by rw[hn];decide),SH,z5]
 have e1:=c.at';rw[c.pv,ak,mu] at e1;have s1:=c.same;clear c;have hl1:=s1.get hl;lia;refine s_cut (fun σ' H'=>σ'=[ag (.ref l),ag (.ref D1)]/\Same H1 H'/\((r.getD 0 ""="in"∨r.getD 0 ""="out")->cf r=false)) ?_ ?_
 ·lia;intro D2 H2 f2 α e2;have hl2:=α.get hl1;have a5:=α.get e1;refine Dq (zs:=["in","out"]) e2 ?_;by_cases h1:r.getD 0 ""="in"∨r.getD 0 ""="out"
  ·rw[fZ (show r.getD 0 ""∈(["in","out"]:A6) by rcases h1 with e | e<;>rw[e]<;>simp)];have hf:cf r=(decide (r.length=2)&&nmB (r.getD 1 "")):=by unfold cf;rw[kn h1]
   lia;rw[ak];by_cases h2:r.length=2
   ·dsimp only;refine eh (fZ (by rw[h2];rfl)) ?_;have β:=len2 h2;have a1:atI (r.map V.str) 1=ag (.str (r.getD 1 "")):=lL (k:=1) @A
    have hc:(r.filter nmB).length=2↔nmB (r.getD 1 "")=true:=by
     have:=cnt2 (a:=r.getD 0 "") (z:=r.getD 1 "") (by rcases h1 with e | e<;>rw[e]<;>assumption);rw[<-β] at this;exact this
    lia;rw[ak];cases hn:nmB (r.getD 1 "") with
    | true=>
      refine eh (fZ (by rw[hc.mpr hn];rfl)) ?_;lia;intro t θ L ω e3;rcases h1 with e | e
      ·rw[e] at e3 β;exact qi _ β hn t θ ((s1.trans α).trans ω) e3
      ·rw[e] at e3 β;exact τ _ β hn t θ ((s1.trans α).trans ω) e3
    | false=>
      refine eA (fy λe=>?_) ?_
      ·have:=hc.mp (by have:=V.int.inj e;omega);rw[hn] at this;cases this
      lia;exact⟨α,λ_=>by rw[hf,hn,Ou]⟩
   ·dsimp only;refine eA (fy λe=>h2 (by have:=V.int.inj e;omega)) ?_;lia;exact⟨α,λ_=>by rw[hf,fy h2,Pc]⟩
  ·rw[fy (show ¬r.getD 0 ""∈(["in","out"]:A6) by intro e;simp at e;exact h1 e)];lia;exact⟨α,λe=>ik e h1⟩
 rintro σ' H2 ⟨rfl,α,a8⟩;have a6:=s1.trans α;have hl2:=α.get hl1;have a5:=α.get e1;lia;intro D3 θ L ω e3;have O:=a6.trans ω;have ψ:=ω.get hl2;have b7:=ω.get a5;refine pE (zs:=["sum","store"]) e3 ?_;by_cases h2:r.getD 0 ""="sum"∨r.getD 0 ""="store"
 rotate_left
 ·rw[fy (show ¬r.getD 0 ""∈(["sum","store"]:A6) by intro e;simp at e;exact h2 e)]
  have hf:cf r=false:=by
   by_cases h1:r.getD 0 ""="in"∨r.getD 0 ""="out"
   ·exact a8 h1
   ·unfold cf;rw[hQ h1,kn ⟨λe=>h2 (.inl e),λe=>h2 (.inr e)⟩]
  lia;exact q0 hf θ O
 have h1:¬(r.getD 0 ""="in"∨r.getD 0 ""="out"):=by
  rintro(e | e)<;>rcases h2 with e' | e'<;>rw[e] at e'
  ·exact n1 e'
  ·exact n2 e'
  ·exact a7 e'
  ·exact Y e'
 have π:¬(r.getD 0 ""≠"sum"/\r.getD 0 ""≠"store"):=λe=>h2.elim e.1 e.2;rw[fZ (show r.getD 0 ""∈(["sum","store"]:A6) by rcases h2 with e | e<;>rw[e]<;>simp)];lia;rw[ak];by_cases h3:r.length < 3
 ·dsimp only;refine eh (fZ @A) ?_;have hf:cf r=false:=by unfold cf;rw[hQ h1,hQ π,kn h3]
  lia;exact q0 hf θ O
 dsimp only;refine eA (fy @A) ?_;have ο:atI (r.map V.str) 2=ag (.str (r.getD 2 "")):=lL (k:=2) @A;have a1:atI (r.map V.str) 1=ag (.str (r.getD 1 "")):=lL (k:=1) @A;lia;by_cases ε:r.getD 2 ""≠"="
 ·dsimp only;rw[fy (λe=>ε (V.str.inj e))];have hf:cf r=false:=by unfold cf;rw[hQ h1,hQ π,hQ h3,kn ε]
  lia;exact q0 hf θ O
 have η:=Ob.mp ε;dsimp only;rw[fZ (show V.str (r.getD 2 "")=V.str "=" by rw[η])];have ρ:=len3 h3
 have hc:(r.filter nmB).length=r.length - 1↔(nmB (r.getD 1 "")=true/\∀w∈r.drop 3,nmB w=true):=by
  have:=cnt3 (a:=r.getD 0 "") (z:=r.getD 1 "") (ws:=r.drop 3) (by rcases h2 with e | e<;>rw[e]<;>assumption);rw[<-η,<-ρ,MX] at this;rw[<-this];constructor<;>intro h<;>omega
 lia;rw[ak,ak];by_cases φ:nmB (r.getD 1 "")=true/\∀w∈r.drop 3,nmB w=true
 rotate_left
 ·dsimp only;rw[fy (λe=>φ (hc.mp (by have:=V.int.inj e;omega)))]
  have hf:cf r=false:=by
   cases hf:cf r with
   | false=>rfl
   | true=>
     obtain⟨_,m1,m2,_⟩:=(yd hf).names;exact ik ⟨m1,m2⟩ φ
  lia;exact q0 hf θ O
 dsimp only;rw[fZ (show V.int ((r.filter nmB).length:Int)=V.int ((r.length:Int) - 1) by congr 1;have:=hc.mpr φ;omega)];lia;by_cases h6:r.getD 0 ""="sum"
 ·dsimp only;refine eh (fZ (by rw[h6])) ?_;lia;intro v H4 ξ s4 e4;rw[show cutV (r.map V.str) (ag 3) gs=(r.drop 3).map V.str from nK r 3 @A] at e4;lia;intro u H5 ν s5 γ;lia;intro t H6 f6 Z e6;rw[h6,η] at ρ;exact qs _ _ ρ φ.1 φ.2 t u v H6 (((O.trans s4).trans s5).trans Z) e6 ((O.trans s4).free ν) (Z.get γ) (O.free ξ) (Z.get (s5.get e4))
 have h7:r.getD 0 ""="store":=h2.resolve_left h6;dsimp only;refine eA (fy λe=>h6 (V.str.inj e)) ?_;lia;rw[ak];by_cases υ:r.length=4
 ·dsimp only;refine eh (fZ (by rw[υ];rfl)) ?_;have ι:=len4 υ;have a3:atI (r.map V.str) 3=ag (.str (r.getD 3 "")):=lL (k:=3) @A;lia;intro u H5 ν s5 γ;lia;intro t H6 f6 Z e6;rw[h7,η] at ι;exact qt _ _ ι φ.1 (φ.2 _ (by rw[ι];exact ox)) t u H6 ((O.trans s5).trans Z) e6 (O.free ν) (Z.get γ)
 ·dsimp only;refine eA (fy λe=>υ (by have:=V.int.inj e;omega)) ?_;have hf:cf r=false:=by unfold cf;rw[hQ h1,hQ π,hQ h3,hQ ε,kn ⟨h7,υ⟩]
  lia;exact q0 hf θ O
def xn:Sp:=λvs H Q _=>∃(l:eH) (rs:cc Rw),vs=[.ref l]/\H l=ag (.lst (rs.map λr=>V.ref r.1))/\RwL H rs/\Ro (rs.map (·.2.2))/\∀(b:N1) H2,Same H H2->(b=true↔yz (rs.map (·.2.2)))->Q (.bl b) H2
theorem o3 (T:Tx K mg a):FnOk P w K mg base CX0 1 a.b6 a.kr ["_law_sums"] xn:=by
 refine T.ff.1.okA cR λb0 A outer s H vs Q E hr h=>?_;obtain⟨l,rs,rfl,hl,ζ,ro,q⟩:=h;have a0:=jq hr;have ls:=ro.ls;rw[ak] at ls;have ι:(rs.map (·.2.2)).map (·.1)=rs.map (·.2.2.1):=by rw[qa];rfl
 refine⟨_,((af (aO (i:=1) cR.nd rfl @E (bq (osc:=ai df) (ON:=n27) (N:=n11) (n:=1) (fx:=[]) rfl rfl rfl @G (aM (K:=K) rfl (pv 0)) (aQ @C) (λ_ _ _ _ _=>⟨(av (i:=0) (show oe (n11:A6) from by decide +kernel) rfl @E),bp,(!j (bt (K:=K) rfl) (pv 0) ah)⟩)))
  (af (eO MY rfl (eQ @D T.jx (aa (aB (aF (K:=K) rfl) @D T.cK kf (aa (pv 0) ae)) ae)) (av (i:=2) cR.nd rfl @E) (aq (eO MY rfl (aM (K:=K) rfl (pv 0)) (kW rfl (a9 (av (i:=3) cR.nd rfl @E) (a9 (av (i:=4) cR.nd rfl @E) fO))) (aq (bE (PW.pt (oK (ax (sG (K:=K) rfl) (pv 3) (pv 1) @D) (mh (ax (nZ (K:=K) rfl a0) (bq (osc:=ai df) (ON:=n27) (N:=["_law_wire","_law_left"]) (n:=1) (fx:=[1]) rfl rfl rfl @G (aM (K:=K) rfl (pv 4)) (aQ @C) (λ_ _ _ _ _=>⟨(av (i:=0) (show oe (["_law_wire","_law_left"]:A6) from by decide +kernel) rfl @E),(eN (ax (sG (K:=K) rfl) (pv 0) (pv 1) @D)),(pv 0)⟩)) (bC ae) (aP _))))) (aq (bB (bW (K:=K) rfl rx PySem.F.slot_list_remove PySem.F.type_list_remove AJ (pv 1) (aa (pv 3) ae)))) aH)))))
  (aq (aJ (ju (j9 (K:=K) rfl a0) (pv 1) (bC ae) (aP _))))))),aN (σ':=[ag _,gs,gs,gs,gs]) rfl ?_⟩
 lia;intro D hD;refine aL (xs:=rs.map λr=>V.ref r.1) (λi ys H'=>Cs (λi ys=>ys=((rs.take i).map (·.2.2.1)).map V.str) H D i ys H') (Cs.zero hD rfl) (λi ys H' _ c=>SqL.of (c.same.get hl)) (λi x ys H' ρ c=>?_) (λys H1 c=>?_)
 ·obtain⟨r,O,rfl⟩:=aR ρ;have a8:=(b'.mp O).1;have er:=c.same.get (ζ r (hA O)).1;lia;refine Cs.put hD c.same c.at' c.len @A ?_;rw[c.pv,take_succ O,hh,hh];rfl
 ·have e1:=c.at';rw[c.pv,ak,mu] at e1;have s1:=c.same;clear c;have hl1:=s1.get hl;lia;rw[ak,show((rs.length:Nat):Int)=((rs.length:Nat):Int) from rfl];refine⟨@A,@A,?_⟩;refine ib (n:=rs.length) (λk σ H'=>∃(π Z Y:ov V) (L:A6),σ=[ag (.ref l),ag (.ref D),π,Z,Y]/\Same H H'/\H' D=ag (.lst (L.map V.str))/\Peel (rs.map (·.2.2)) L/\(Hb (rs.map (·.2.2)) L∨L.length + k<=rs.length)) ⟨gs,gs,gs,rs.map (·.2.2.1),rfl,s1,e1,by rw[<-ι];exact Peel.start ro.nd,.inr (by rw[ak];omega)⟩ ?_ ?_
  ·rintro k σ H2 hk ⟨π,Z,Y,L0,rfl,s2,e2,ν,pr⟩;have hl2:=s2.get hl;lia;refine kJ (xs:=rs.map λr=>V.ref r.1) (λi σ H'=>∃(Z Y:ov V) (L:A6),σ=[ag (.ref l),ag (.ref D),ag (.int (0 + ↑k)),Z,Y]/\Same H H'/\H' D=ag (.lst (L.map V.str))/\Peel (rs.map (·.2.2)) L/\((L=L0/\∀r∈(rs.take i).map (·.2.2),r.1∈L0->∃w∈r.2,w∈L0)∨(L.length < L0.length/\¬Hb (rs.map (·.2.2)) L0))) ⟨Z,Y,L0,rfl,s2,e2,ν,.inl ⟨rfl,λ_ h=>ik h @F⟩⟩ (λi σ H' _ ⟨_,_,_,_,s',_⟩=>SqL.of (s'.get hl)) ?_ ?_
   ·rintro i y σ H3 ψ ⟨Z,Y,L,rfl,β,τ,pl,st⟩;obtain⟨r,O,rfl⟩:=aR ψ;have hm:=hA O;have er:=β.get (ζ r hm).1;have ew:=β.get (ζ r hm).2;have ο:(r.2.2.1,r.2.2.2)∈rs.map (·.2.2):=mw.mpr ⟨r,hm,rfl⟩;have χ:r.2.2.2.length<=24:=ro.lw _ ο
    have keep:(r.2.2.1∈L->∃w∈r.2.2.2,w∈L)->((L=L0/\∀r∈(rs.take (i + 1)).map (·.2.2),r.1∈L0->∃w∈r.2,w∈L0)∨(L.length < L0.length/\¬Hb (rs.map (·.2.2)) L0)):=λh=>by
     rcases st with ⟨e,h2⟩ | h2
     ·refine .inl ⟨e,λx ρ ε=>?_⟩;rw[take_succ O,hh] at ρ;rcases lx.mp ρ with h3 | h3
      ·exact h2 x h3 ε
      ·rw[List.map_singleton,hC] at h3;subst h3;rw[<-e];rw[<-e] at ε;exact h ε
     ·exact .inr h2
    lia;refine Dq τ ?_;by_cases φ:r.2.2.1∈L
    rotate_left
    ·rw[fy φ];lia;exact⟨_,_,L,rfl,β,τ,pl,keep λh=>ik h φ⟩
    ·rw[fZ φ];lia;intro D5 ξ;refine aL (xs:=r.2.2.2.map V.str) (λi ys H'=>Cs (λi ys=>ys=((r.2.2.2.take i).filter λw=>decide (w∈L)).map V.str) H3 D5 i ys H') (Cs.zero ξ rfl) (λi ys H' _ c=>SqL.of (c.same.get ew)) (λi x ys H' ρ c=>?_) (λys H4 c=>?_)
     ·obtain⟨y,ψ,rfl⟩:=aR ρ;have hi:=(b'.mp ψ).1;have η:=c.same.get τ;lia;refine Dq η ?_;by_cases hm:y∈L
      ·rw[fZ hm];lia;refine Cs.put ξ c.same c.at' c.len @A ?_;rw[c.pv,take_succ ψ,M6,hh,M5,kn (fZ hm)];rfl
      ·rw[fy hm];lia;refine Cs.skip c.same c.at' c.len ?_;rw[c.pv,take_succ ψ,M6,hh,M5,hQ (by simpa using hm)];simp
     ·have ec:=c.at';rw[c.pv,ak,mu] at ec;have a3:=c.same;clear c;lia;intro δ H5 f5 υ γ;refine lZ (jr (υ.get ec)) (Rep.lst (ds:=[]) (SqL.of γ) rfl λi x d h=>by simp at h) (by unfold depD;rw[gO];decide) ?_;rw[pH];have α:=a3.trans υ;have a2:=α.get τ;by_cases hf:(r.2.2.2.filter λw=>decide (w∈L))=[]
      ·rw[fZ hf]
       have a1:∀w∈r.2.2.2,w∉L:=λw ω=>by
        have:=OL.mp hf w ω;simpa using this
       obtain⟨j,hj,a6⟩:=ur φ;have a5:=(b'.mp hj).1;lia;refine Dj a2 hj a6 λH6 θ=>?_;lia;refine⟨_,_,L.eraseIdx j,rfl,λb o e=>θ.oth _ _ (ao e hD) ((β.trans α).get e),θ.at',pl.off ro.nd ο hj a1,.inr ?_⟩;have a7:(L.eraseIdx j).length=L.length - 1:=List.length_eraseIdx_of_lt a5;rcases st with ⟨e,_⟩ | ⟨h1,h2⟩
       ·subst e;refine⟨@A,λhs=>?_⟩;obtain⟨w,ω,a4⟩:=hs _ ο φ;exact a1 w ω a4
       ·exact⟨@A,h2⟩
      ·rw[fy hf];lia;refine⟨_,_,L,rfl,β.trans α,a2,pl,keep λ_=>?_⟩;obtain⟨w,ω⟩:=List.exists_mem_of_ne_nil _ hf;have:=Nj.mp ω;exact⟨w,this.1,M3 this.2⟩
   ·rintro σ H3 ⟨Z,Y,L,rfl,β,τ,pl,st⟩;rw[ak,mu] at st;refine⟨_,Z,Y,L,rfl,β,τ,pl,?_⟩;rcases st with ⟨e,h2⟩ | ⟨h1,h2⟩
    ·left;rw[e];exact h2
    ·have:=pr.resolve_left h2;right;omega
  ·rintro σ H2 ⟨π,Z,Y,L,rfl,s2,e2,pl,st⟩;lia;intro δ H5 f5 υ γ;refine lZ (neg:=true) (jr (υ.get e2)) (Rep.lst (ds:=[]) (SqL.of γ) rfl λi x d h=>by simp at h) (by unfold depD;rw[gO];decide) ?_;rw[pH,kn rfl];refine q _ H5 (s2.trans υ) ?_;rw[<-pl.ring (st.imp id λh=>RB.mp @A)];simp
def C8:Sp:=λvs H Q _=>∃(i s t o:eH) (is:cc V) (rs:cc RwT) (qs:cc QsT) (os:cc V) (N:Nd),vs=[.ref i,.ref s,.ref t,.ref o]/\HndL H i s t o is rs qs os/\DatT H is rs qs os N/\is.length<=1000002/\rs.length<=1000002/\qs.length<=1000002/\os.length<=1000002/\
 (dueF N=gs->∀H2,Same H H2->Q .non H2)/\(∀f,dueF N=ag f->∀t H2,Same H H2->DueT H2 t f->Q (.ref t) H2)
theorem xK (T:Tx K mg a):FnOk P w K mg base CX0 3 a.fY a.sV ["_law_ins","_law_sums","_law_stores","_law_outs"] C8:=by
 refine T.kR.1.okA fj λm2 A outer s H vs Q E hr h=>?_;obtain⟨i,s,t,o,is,rs,qs,os,N,rfl,hn,da,li,ls,lt,lo,qN,qF⟩:=h;have j0:=jq hr;have em:=GO da;have hi:=hn.i;have hs:=hn.s;have ht:=hn.t;have ho:=hn.o;have ζ:∀(t:eH) (H2:Hp),iZ N=true->Same H H2->H2 t=ag (.tup [.str "TooMany",.non])->Q (.ref t) H2:=λt H2 hm s2 e=>qF .many (ux hm) t H2 s2 ⟨.non,e,.non⟩
 refine⟨_,((af (bE (PW.pt (j5 (ax nY (aB (aF (K:=K) rfl) @D T.cK kf (aa (pv 0) ae)) ah (aP _)) (j5 (ax nY (aB (aF (K:=K) rfl) @D T.cK kf (aa (pv 1) ae)) ah (aP _)) (j5 (ax nY (aB (aF (K:=K) rfl) @D T.cK kf (aa (pv 2) ae)) ah (aP _)) (j4 (ax nY (aB (aF (K:=K) rfl) @D T.cK kf (aa (pv 3) ae)) ah (aP _))))))) (aq (aJ (bN (aa aD (aa gw ae))))) aH)
  (af (bE (ax (j9 (K:=K) rfl j0) (bq (osc:=ai fz) (ON:=n19) (N:=n11) (n:=1) (fx:=[]) rfl rfl rfl @G (aM (K:=K) rfl (pv 1)) (aQ @C) (λ_ _ _ _ _=>⟨(av (i:=0) (show oe (n11:A6) from by decide +kernel) rfl @E),(eN (ax nY (aB (aF (K:=K) rfl) @D T.cK kf (aa (!j (bt (K:=K) rfl) (pv 0) ah) ae)) ah (aP _))),(pv 0)⟩)) (bC ae) (aP _)) (aq (aJ (bN (aa aD (aa gw ae))))) aH)
  (af (aO (i:=4) fj.nd rfl @E (bC ae))
  (af (aO (i:=5) fj.nd rfl @E (aw (og T) hr T.pA T.dO (aa (aE dM (aE dM (pv 0) (bq (osc:=ai fz) (ON:=n19) (N:=n11) (n:=1) (fx:=[]) rfl rfl rfl @G (aM (K:=K) rfl (pv 1)) (aQ @C) (λ_ _ _ _ _=>⟨(av (i:=0) (show oe (n11:A6) from by decide +kernel) rfl @E),bp,(!j (bt (K:=K) rfl) (pv 0) ah)⟩))) (bq (osc:=ai fz) (ON:=n19) (N:=n11) (n:=1) (fx:=[]) rfl rfl rfl @G (aM (K:=K) rfl (pv 2)) (aQ @C) (λ_ _ _ _ _=>⟨(av (i:=0) (show oe (n11:A6) from by decide +kernel) rfl @E),bp,(!j (bt (K:=K) rfl) (pv 0) ah)⟩))) (aa (pv 4) ae))))
  (af (bE (ax Jc (pv 5) gw (aP _)) (aq (aJ (pv 5))) aH)
  (af (aO (i:=6) fj.nd rfl @E (bC ae))
  (af (eO MY rfl (aM (K:=K) rfl (pv 1)) (av (i:=7) fj.nd rfl @E) (aq (bB (bW (K:=K) rfl rx Nh Nf hZ (pv 6) (aa (!j (bt (K:=K) rfl) (pv 7) ah) ae)))))
  (af (eO MY rfl (aM (K:=K) rfl (aE dM (aE dM (pv 6) (bq (osc:=ai fz) (ON:=n19) (N:=n11) (n:=1) (fx:=[]) rfl rfl rfl @G (aM (K:=K) rfl (pv 2)) (aQ @C) (λ_ _ _ _ _=>⟨(av (i:=0) (show oe (n11:A6) from by decide +kernel) rfl @E),bp,(!j (bt (K:=K) rfl) (pv 0) ah)⟩))) (pv 3))) (av (i:=8) fj.nd rfl @E) (aq (bE (PW.pt (j5 (j6 (dE (aw (hG T) hr T.i3 T.cV (aa (pv 8) ae)))) (j4 (ax (j8 (K:=K) rfl) (pv 8) (pv 4) @D)))) (aq (aJ (bN (aa aD (aa (pv 8) ae))))) aH)))
  (af (bE (dE (aw (o3 T) hr T.qY T.ff (aa (pv 1) ae))) (aq (aJ (bN (aa aD (aa gw ae))))) aH)
  (aq (aJ gw)))))))))))),aN (σ':=[ag _,ag _,ag _,ag _,gs,gs,gs,gs,gs]) rfl ?_⟩
 lia;by_cases h1:(6:Int) < is.length
 ·rw[fZ h1];lia;intro t' H1 f1 s1 e1;exact ζ t' H1 (by rw[em,fZ (show 6 < is.length by omega)];simp) s1 e1
 rw[fy h1];lia;rw[ak];by_cases h2:(40:Int) < rs.length
 ·rw[fZ h2];lia;intro t' H1 f1 s1 e1;exact ζ t' H1 (by rw[em,fZ (show 40 < rs.length by omega)];simp) s1 e1
 rw[fy h2];lia;rw[ak];by_cases h3:(16:Int) < qs.length
 ·rw[fZ h3];lia;intro t' H1 f1 s1 e1;exact ζ t' H1 (by rw[em,fZ (show 16 < qs.length by omega)];simp) s1 e1
 rw[fy h3];lia;by_cases ε:(6:Int) < os.length
 ·rw[fZ ε];lia;intro t' H1 f1 s1 e1;exact ζ t' H1 (by rw[em,fZ (show 6 < os.length by omega)];simp) s1 e1
 rw[fy ε];replace li:is.length<=100:=by omega
 replace ls:rs.length<=100:=by omega
 replace lt:qs.length<=100:=by omega
 replace lo:os.length<=100:=by omega
 lia;have em:iZ N=rs.any λr=>decide (24 < r.2.2.2.length):=by rw[em,fy (show ¬6 < is.length by omega),fy (show ¬40 < rs.length by omega),fy (show ¬16 < qs.length by omega),fy (show ¬6 < os.length by omega)];simp
 intro D1 d1;refine aL (xs:=rs.map λr=>V.ref r.1) (λi ys H'=>Cs (λi ys=>ys=((rs.take i).filter λr=>decide (24 < r.2.2.2.length)).map λr=>V.ref r.1) H D1 i ys H') (Cs.zero d1 rfl) (λi ys H' _ c=>SqL.of (c.same.get hs)) (λi x ys H' hx c=>?_) (λys H1 c=>?_)
 ·obtain⟨r,O,rfl⟩:=aR hx;have a7:=(b'.mp O).1;have er:=c.same.get (hn.sr r (hA O)).1;have ew:=c.same.get (hn.sr r (hA O)).2;lia;by_cases χ:(24:Int) < r.2.2.2.length
  ·rw[fZ χ];lia;refine Cs.put d1 c.same c.at' c.len @A ?_;rw[c.pv,take_succ O,M6,hh,M5,kn (fZ @A)];rfl
  ·rw[fy χ];lia;refine Cs.skip c.same c.at' c.len ?_;rw[c.pv,take_succ O,M6,hh,M5,hQ (by simp;omega)];simp
 ·have ec:=c.at';rw[c.pv,ak,mu] at ec;have s1:=c.same;clear c;lia;intro D2 H2 f2 s2 e2;have η:=s1.trans s2;refine mM (neg:=true) (s2.get ec) (λv ρ=>?_) e2 ?_
  ·obtain⟨r,hr,rfl⟩:=mw.mp ρ;have hm:=(Nj.mp hr).1;obtain⟨k,hk,ek⟩:=M9.mp hm;have b8:rs.length=N.sums.length:=by have:=da.sn.1;rw[ak,ak] at this;exact this
   have g1:rs[k]? =ag r:=by rw[c' hk,ek]
   have g2:N.sums[k]? =ag N.sums[k]:=c' @A;have d2:=da.same η;exact yP (η.get (hn.sr r hm).1) (d2.sn.2 k r.2.2.1 N.sums[k].1 (by rw[hH,g1];rfl) (by rw[hH,g2];rfl)).rep8 (IT (η.get (hn.sr r hm).2) (d2.sw k r _ g1 g2))
  ·by_cases χ:iZ N=true
   ·have Y:((rs.filter λr=>decide (24 < r.2.2.2.length)).map λr=>V.ref r.1).isEmpty=false:=by
     rw[Rh];intro e;rw[OA] at e;rw[em] at χ;obtain⟨ν,γ,h0⟩:=Oy.mp χ;have:ν∈rs.filter λr=>decide (24 < r.2.2.2.length):=Nj.mpr ⟨γ,h0⟩;rw[e] at this;simp at this
    rw[Y];lia;intro t' H3 L s3 e3;exact ζ t' H3 χ (η.trans s3) e3
   ·have χ:iZ N=false:=by simpa using χ
    have a6:∀r∈rs,r.2.2.2.length<=24:=λr hr=>by
     rw[em] at χ;have:=QJ.mp χ r hr;simp at this;omega
    have Y:((rs.filter λr=>decide (24 < r.2.2.2.length)).map λr=>V.ref r.1).isEmpty=true:=by
     rw[List.isEmpty_iff,OA,OL];intro r hr;have:=a6 r hr;simp;omega
    rw[Y];clear ec e2 ζ h1 h2 h3 ε;lia;intro ψ H3 L s3 e3;have υ:=η.trans s3;have ο:=υ.get hi;have c2:=υ.get hs;have d3:H ψ=none:=η.free L;lia;intro D4 c5;refine aL (xs:=rs.map λr=>V.ref r.1) (λi ys H'=>Cs (λi ys=>ys=(rs.take i).map (·.2.2.1)) H3 D4 i ys H') (Cs.zero c5 rfl) (λi ys H' _ c=>SqL.of (c.same.get c2)) (λi x ys H' hx c=>?_) (λys H4 c=>?_)
    ·obtain⟨r,O,rfl⟩:=aR hx;have a7:=(b'.mp O).1;have er:=(υ.trans c.same).get (hn.sr r (hA O)).1;lia;refine Cs.put c5 c.same c.at' c.len @A ?_;rw[c.pv,take_succ O,hh];rfl
    have e4:=c.at';rw[c.pv,ak,mu] at e4;have a8:=c.same;clear c;refine iQ (a8.get ο) e4 (by rw[ak,hJ];omega) λD5 H5 f5 s5 e5=>?_;have a0:=a8.trans s5;have c0:=a0.get (υ.get ht);lia;intro D6 c4;refine aL (xs:=qs.map λr=>V.ref r.1) (λi ys H'=>Cs (λi ys=>ys=(qs.take i).map (·.2.1)) H5 D6 i ys H') (Cs.zero c4 rfl) (λi ys H' _ c=>SqL.of (c.same.get c0)) (λi x ys H' hx c=>?_) (λys H6 c=>?_)
    ·obtain⟨r,O,rfl⟩:=aR hx;have a7:=(b'.mp O).1;have er:=((υ.trans a0).trans c.same).get (hn.tr r (hA O));lia;refine Cs.put c4 c.same c.at' c.len @A ?_;rw[c.pv,take_succ O,hh];rfl
    have e6:=c.at';rw[c.pv,ak,mu] at e6;have a4:=c.same;clear c;refine iQ (a4.get e5) e6 (by rw[hE,ak,ak,hJ];omega) λD7 H7 f7 s7 e7=>?_;have ξ:=a0.trans (a4.trans s7);have f6:=ξ.get e3
    have a5:Same H (less H7 (λb=>b=ψ)):=λb ob e=>by
     rw[eS (λz=>by rw[z,d3] at e;cases e)];exact(υ.trans ξ).get e
    have d0:=da.same a5;have b7:D7≠ψ:=λz=>by rw[z,(a0.trans a4).get e3] at f7;cases f7
    lia;refine⟨D7,ψ,less H7 (λb=>b=ψ),_,N.nms,rfl,eR,tZ rfl,f6,by rw[eS (R:=λb=>b=ψ) b7];exact e7,(d0.i.app d0.sn).app d0.tn,by rw[hE,hE,ak,ak];omega,λa3 H8 s8 e8=>?_,λf hf t' H8 s8 dt=>?_⟩
    rotate_left
    ·lia;exact qF f (pI χ hf) t' H8 (a5.trans s8) dt
    have b2:=a5.trans s8;have j1:=b2.get hs;clear s8 a5 d0 b7 f6 e7 e6 e5 e4 e3 s7 a4 s5 a0 a8 ξ s3 L d3 ο c2 c0 υ η s1 s2;lia;intro D9 H9 f9 s9 e9;have j2:H D9=none:=b2.free f9;have g4:=b2.trans s9;have k6:=s9.get e8;have h8:ψ≠D9:=λz=>by rw[<-z,e8] at f9;cases f9
    have l8:=s9.get j1;lia;refine kJ (xs:=rs.map λr=>V.ref r.1) (λk σ H'=>∃v7:ov V,σ=[ag (.ref i),ag (.ref s),ag (.ref t),ag (.ref o),ag (.ref ψ),ag .non,ag (.ref D9),v7,gs]/\Same H H'/\H' ψ=ag (.lst ((N.nms.map dStr).map V.str))/\H' D9=ag (.lst ((rs.take k).map (·.2.2.2)).flatten)) ⟨gs,rfl,g4,k6,e9⟩ (λk σ H' _ ⟨_,_,s',_⟩=>SqL.of (s'.get hs)) ?_ ?_
    ·rintro k y σ H' hy ⟨v7,rfl,s',eK,φ⟩;obtain⟨r,O,rfl⟩:=aR hy;have hm:=hA O;have a7:=(b'.mp O).1;have er:=s'.get (hn.sr r hm).1;have ew:=s'.get (hn.sr r hm).2;have hf:=uo (rs:=rs.take k) λx hx=>a6 x (List.mem_of_mem_take hx);rw[qo] at hf;have hw:=a6 r hm;lia;refine jh φ ew (by rw[hJ];omega) λH2 u2=>?_;lia;refine⟨λb ob e=>u2.oth _ _ (ao e j2) (s'.get e),u2.oth _ _ h8 eK,?_⟩;rw[u2.at',take_succ O,hh,List.flatten_append];simp
    rintro σ l3 ⟨v7,rfl,b1,eK,φ⟩;rw[ak,mu] at φ;have c1:=b1.get ht;have hf:=uo a6;lia;intro l4 β;refine aL (xs:=qs.map λr=>V.ref r.1) (λi ys H'=>Cs (λi ys=>ys=(qs.take i).map (·.2.2)) l3 l4 i ys H') (Cs.zero β rfl) (λi ys H' _ c=>SqL.of (c.same.get c1)) (λi x ys H' hx c=>?_) (λys m5 c=>?_)
    ·obtain⟨r,O,rfl⟩:=aR hx;have a7:=(b'.mp O).1;have er:=(b1.trans c.same).get (hn.tr r (hA O));lia;refine Cs.put β c.same c.at' c.len @A ?_;rw[c.pv,take_succ O,hh];rfl
    have f8:=c.at';rw[c.pv,ak,mu] at f8;have b0:=c.same;clear c;refine iQ (b0.get φ) f8 (by rw[ak,hJ];omega) fun ω m4 m1 b5 l0=>?_;have Z:=b1.trans (b0.trans b5);have c3:=Z.get ho;lia;refine iQ l0 c3 (by rw[hE,ak,hJ];omega) λm7 π m0 b4 k9=>?_;have a1:=Z.trans b4;have f4:=b4.get (b5.get (b0.get eK));have b8:rs.length=N.sums.length:=by have:=da.sn.1;rw[ak,ak] at this;exact this
    have tg:TgL π ((rs.map (·.2.2.2)).flatten++qs.map (·.2.2)++os) N.wrs:=(((TgL.flat b8 da.sw).app da.tw).app da.o).same a1
    have h7:∀z∈N.nms.map dStr,Nm z:=λz hz=>by
     obtain⟨zs,e,a2,_,_⟩:=qm a3;rw[e,jD] at hz;exact a2 z hz
    lia;refine kJ (xs:=(rs.map (·.2.2.2)).flatten++qs.map (·.2.2)++os) (λk σ H'=>∃v8:ov V,σ=[ag (.ref i),ag (.ref s),ag (.ref t),ag (.ref o),ag (.ref ψ),ag .non,ag (.ref D9),v7,v8]/\Same π H'/\wrsF N.wrs (N.nms.map dStr)=wrsF (N.wrs.drop k) (N.nms.map dStr)) ⟨_,rfl,Same.refl _,rfl⟩ (λk σ H' _ ⟨_,_,s',_⟩=>SqL.of (s'.get k9)) ?_ ?_
    ·rintro k y σ H' hy ⟨v8,rfl,s',θ⟩;have hk:=(b'.mp hy).1;obtain⟨d,hd⟩:∃d,N.wrs[k]? =ag d:=⟨_,c' (by rw[<-tg.1];exact hk)⟩;have t0:=tg.2 k y d hy hd;rw[ij hd] at θ;lia;refine⟨y,d,rfl,.inl (t0.same s'),λH2 s2=>?_⟩;have η:=s'.trans s2;have g0:(∀z∈N.nms.map dStr,d≠.str z)->∀t' H3,Same H2 H3->H3 t'=ag (.tup [.str "NoWire",y])->Q (.ref t') H3:=λhb t' H3 s3 e3=>qF (.now d) (uw χ a3 (θ.trans (pD hb _))) t' H3 ((a1.trans η).trans s3) ⟨y,e3,t0.same (η.trans s3)⟩;cases τ:xP d with
     | false=>
       lia;intro t' H3 L s3 e3;exact g0 (λz hz e=>by rw[e] at τ;rw[show xP (.str z)=true from h7 z hz] at τ;cases τ) t' H3 s3 e3
     | true=>
       obtain⟨z,rfl,rfl,l7⟩:∃z,y= .str z/\d= .str z/\z.length<=1000:=by
        cases t0 with
        | str z l=>exact⟨z,rfl,rfl,l⟩
        | nil=>cases τ
        | one=>cases τ
        | int=>cases τ
        | bl=>cases τ
        | non=>cases τ
       have k4:=η.get f4;rw[mE] at θ;lia;refine pE k4 ?_;by_cases hz:z∈N.nms.map dStr
       ·rw[kn hz] at θ;rw[fZ hz];lia;exact⟨η,θ⟩
       ·rw[fy hz];lia;intro t' H3 L s3 e3;exact g0 (λz' i0 e=>hz (by cases e;exact i0)) t' H3 s3 e3
    rintro σ m3 ⟨v8,rfl,g3,θ⟩;rw[tg.1,Ox] at θ;have ι:=a1.trans g3;obtain⟨h6,l5,f0,_,_,_,e0,_,ro,_⟩:=yN hn da χ a3 θ;have α:=ι.get hs;rw[f0,qa] at α;lia;refine⟨s,h6,rfl,α,λr hr=>?_,by rw[e0];exact ro,λb l2 b3 hb=>?_⟩
    ·have:=hn.sr (r.1,r.2.1,V.str r.2.2.1,r.2.2.2.map V.str) (by rw[f0];exact mw.mpr ⟨r,hr,rfl⟩);exact⟨ι.get this.1,ι.get this.2⟩
    ·rw[e0] at hb;cases b with
     | true=>
       lia;intro t' l1 l9 δ k8;exact qF .ring (y6 χ a3 θ (hb.mp rfl)) t' l1 ((ι.trans b3).trans δ) ⟨.non,k8,.non⟩
     | false=>
       lia;exact qN (y8 χ a3 θ λh=>by have:=hb.mpr h;cases this) l2 (ι.trans b3)
noncomputable def fzS:Fz->ic
 | .line _=>"BadLine"
 | .ft f=>ftS f
noncomputable def fzD:Fz->Dt
 | .line k=> .int k
 | .ft f=>ftD f
def DueZ (H:Hp) (t:eH) (f:Fz):Prop:=∃v,H t=ag (.tup [.str (fzS f),v])/\Tg H v (fzD f)
theorem jb {H H2:Hp} {t:eH} {f:Fz} (d:DueZ H t f) (s:Same H H2):DueZ H2 t f:=by
 obtain⟨v,e,g⟩:=d;exact⟨v,s.get e,g.same s⟩
structure RdA (H:Hp) (L i s u o:eH) (rs:cc Rw) (qs:cc Qs) (rows:cc A6):Prop where
 l:H L=ag (.lst [.ref i,.ref s,.ref u,.ref o])
 h:HndL H i s u o ((insR rows).map V.str) (upR rs) (upQ qs) ((outR rows).map V.str)
 er:rs.map (·.2.2)=sumR rows
 eq:qs.map (·.2)=stoR rows
theorem zk {H H2:Hp} {L i s u o:eH} {rs:cc Rw} {qs:cc Qs} {rows:cc A6} (x:RdA H L i s u o rs qs rows) (k:Same H H2):RdA H2 L i s u o rs qs rows:=⟨k.get x.l,x.h.same k,x.er,x.eq⟩
def Ga:Sp:=λvs H Q _=>∃(z:ic),vs=[.str z]/\z.length<=900000/\
 (∀k,wN (cj z)=ag k->∀p t L H2,Same H H2->H2 p=ag (.tup [.ref t,.ref L])->DueZ H2 t (.line k)->Q (.ref p) H2)/\
 (wN (cj z)=gs->∀p v L i s u o rs qs H2,Same H H2->H2 p=ag (.tup [v,.ref L])->RdA H2 L i s u o rs qs (cj z)->(dueF (ndR (cj z))=gs->v= .non)->(∀f,dueF (ndR (cj z))=ag f->∃t,v= .ref t/\DueT H2 t f)->Q (.ref p) H2)
theorem mP (rows:cc A6) (r:A6):insR (rows++[r])=insR rows++(if kd "in" r=true then [r.getD 1 ""] else [])/\sumR (rows++[r])=sumR rows++(if kd "sum" r=true then [(r.getD 1 "",r.drop 3)] else [])/\stoR (rows++[r])=stoR rows++(if kd "store" r=true then [(r.getD 1 "",r.getD 3 "")] else [])/\outR (rows++[r])=outR rows++(if kd "out" r=true then [r.getD 1 ""] else []):=by
 unfold insR sumR stoR outR;simp only[M6,hh,M5,SH];refine⟨?_,?_,?_,?_⟩<;>split<;>rfl
noncomputable abbrev wI (z:ic):A6:=["in",z]
noncomputable abbrev wO (z:ic):A6:=["out",z]
noncomputable abbrev wS (z:ic) (ws:A6):A6:="sum"::z::"="::ws
noncomputable abbrev wT (z y:ic):A6:=["store",z,"=",y]
section
variable {H H6 H7:Hp} {i s u o:eH} {rows:cc A6} {rs:cc Rw} {qs:cc Qs}
theorem fd_i (τ:LsA H i s u o ((insR rows).map V.str) (upR rs) (upQ qs) ((outR rows).map V.str)) (δ:Same H H6) {z:ic} (hz:nmB z=true) (Z:Upd H6 H7 i (.lst ((insR rows).map V.str++[.str z]))):
  LsA H7 i s u o ((insR (rows++[wI z])).map V.str) (upR rs) (upQ qs) ((outR (rows++[wI z])).map V.str)/\sumR (rows++[wI z])=sumR rows/\stoR (rows++[wI z])=stoR rows/\Same (less H (R4 i s u o)) (less H7 (R4 i s u o)):=by
 obtain⟨n1,n2,n3,n4,n5,n6,ξ,ν,ι,ζ,ε,Y⟩:=w_ne;obtain⟨β,α,O,L⟩:=mP rows (wI z);rw[kn kd_t] at β;rw[hQ (by rw[kd_f n1];decide),z5] at α;rw[hQ (by rw[kd_f n2];decide),z5] at O;rw[hQ (by rw[kd_f n3];decide),z5] at L;obtain⟨η,γ⟩:=τ.addI δ (ys:=[.str z]) (λw θ=>⟨z,hC.mp θ,mY hz⟩) Z;rw[β,L,hh];exact⟨η,α,O,γ⟩
theorem fd_o (τ:LsA H i s u o ((insR rows).map V.str) (upR rs) (upQ qs) ((outR rows).map V.str)) (ζ:Same H H6) {z:ic} (hz:nmB z=true) (Z:Upd H6 H7 o (.lst ((outR rows).map V.str++[.str z]))):
  LsA H7 i s u o ((insR (rows++[wO z])).map V.str) (upR rs) (upQ qs) ((outR (rows++[wO z])).map V.str)/\sumR (rows++[wO z])=sumR rows/\stoR (rows++[wO z])=stoR rows/\Same (less H (R4 i s u o)) (less H7 (R4 i s u o)):=by
 obtain⟨n1,n2,n3,n4,n5,n6,ξ,ν,ι,O,L,Y⟩:=w_ne;obtain⟨δ,γ,β,α⟩:=mP rows (wO z);rw[hQ (by rw[kd_f O];decide),z5] at δ;rw[hQ (by rw[kd_f L];decide),z5] at γ;rw[hQ (by rw[kd_f Y];decide),z5] at β;rw[kn kd_t] at α;obtain⟨η,ε⟩:=τ.addO ζ (ys:=[.str z]) (λw θ=>by rw[hC.mp θ];exact Th.s (mY hz)) Z;rw[δ,α,hh];exact⟨η,γ,β,ε⟩
theorem fd_s (τ:LsA H i s u o ((insR rows).map V.str) (upR rs) (upQ qs) ((outR rows).map V.str)) (er:rs.map (·.2.2)=sumR rows) (O:Same H H6) {z:ic} {ws:A6} {b v:eH} (hz:nmB z=true) (hw:∀w∈ws,nmB w=true) (ι:H b=gs) (fv:H v=gs) (ξ:H6 b=ag (.tup [.str z,.ref v])) (ev:H6 v=ag (.lst (ws.map V.str))) (Z:Upd H6 H7 s (.lst ((upR rs).map (λr=>V.ref r.1)++[.ref b]))):
  LsA H7 i s u o ((insR (rows++[wS z ws])).map V.str) (upR (rs++[(b,v,z,ws)])) (upQ qs) ((outR (rows++[wS z ws])).map V.str)/\(rs++[(b,v,z,ws)]).map (·.2.2)=sumR (rows++[wS z ws])/\stoR (rows++[wS z ws])=stoR rows/\Same (less H (R4 i s u o)) (less H7 (R4 i s u o)):=by
 obtain⟨n1,n2,n3,n4,n5,n6,ρ,π,ο,ζ,ε,Y⟩:=w_ne;obtain⟨δ,γ,β,α⟩:=mP rows (wS z ws);rw[hQ (by rw[kd_f n4];decide),z5] at δ;rw[kn kd_t] at γ;rw[hQ (by rw[kd_f n5];decide),z5] at β;rw[hQ (by rw[kd_f n6];decide),z5] at α;have ν:upR (rs++[(b,v,z,ws)])=upR rs++[(b,v,.str z,ws.map V.str)]:=by unfold upR;rw[hh];rfl
 have η:=(τ.same O).setS (rs':=upR rs++[(b,v,.str z,ws.map V.str)]) (by rw[hh];exact Z) λr hr=>by
  rcases lx.mp hr with hr | hr
  ·exact .inl hr
  ·rw[hC.mp hr];refine .inr ⟨by rw[eS (τ.fresh ι)];exact ξ,by rw[eS (τ.fresh fv)];exact ev,Th.s (mY hz),λw L=>?_⟩;obtain⟨y,θ,rfl⟩:=mw.mp L;exact Th.s (mY (hw y θ))
 rw[δ,α,ν];exact⟨η,by rw[γ,hh,er];rfl,β,(di O).trans (d9 Z (.inr (.inl rfl)))⟩
theorem fd_t (τ:LsA H i s u o ((insR rows).map V.str) (upR rs) (upQ qs) ((outR rows).map V.str)) (eq:qs.map (·.2)=stoR rows) (L:Same H H6) {z y:ic} {b:eH} (hz:nmB z=true) (hy:nmB y=true) (ν:H b=gs) (ο:H6 b=ag (.tup [.str z,.str y])) (Z:Upd H6 H7 u (.lst ((upQ qs).map (λr=>V.ref r.1)++[.ref b]))):
  LsA H7 i s u o ((insR (rows++[wT z y])).map V.str) (upR rs) (upQ (qs++[(b,z,y)])) ((outR (rows++[wT z y])).map V.str)/\sumR (rows++[wT z y])=sumR rows/\(qs++[(b,z,y)]).map (·.2)=stoR (rows++[wT z y])/\Same (less H (R4 i s u o)) (less H7 (R4 i s u o)):=by
 obtain⟨n1,n2,n3,n4,n5,n6,ζ,ε,δ,θ,η,Y⟩:=w_ne;obtain⟨γ,β,α,O⟩:=mP rows (wT z y);rw[hQ (by rw[kd_f ζ];decide),z5] at γ;rw[hQ (by rw[kd_f ε];decide),z5] at β;rw[kn kd_t] at α;rw[hQ (by rw[kd_f δ];decide),z5] at O;have ξ:upQ (qs++[(b,z,y)])=upQ qs++[(b,.str z,.str y)]:=by unfold upQ;rw[hh];rfl
 have ι:=(τ.same L).setT (qs':=upQ qs++[(b,.str z,.str y)]) (by rw[hh];exact Z) λr hr=>by
  rcases lx.mp hr with hr | hr
  ·exact .inl hr
  ·rw[hC.mp hr];exact .inr ⟨by rw[eS (τ.fresh ν)];exact ο,Th.s (mY hz),Th.s (mY hy)⟩
 rw[γ,O,ξ];exact⟨ι,β,by rw[α,hh,eq];rfl,(di L).trans (d9 Z (.inr (.inr (.inl rfl))))⟩
end
noncomputable def rdL:cc (ic×Pos×Pos):=[("in",⟨350,18,350,22⟩,⟨350,24,350,26⟩),("sum",⟨350,28,350,33⟩,⟨350,35,350,37⟩),("store",⟨350,39,350,46⟩,⟨350,48,350,50⟩),("out",⟨350,52,350,57⟩,⟨350,59,350,61⟩)]
theorem Fj:dI fw= .Assign [.Name "_law_found" ⟨350,4,350,14⟩] (.Dict (rdL.map eKey) (rdL.map eNil) ⟨350,17,350,62⟩) ⟨350,4,350,62⟩::(dI fw).tail:=rfl
theorem Lh (i s u o:V):qz [] [(n' ("in":ic),i),(n' ("sum":ic),s),(n' ("store":ic),u),(n' ("out":ic),o)]=[(n' ("in":ic),i),(n' ("sum":ic),s),(n' ("store":ic),u),(n' ("out":ic),o)]:=rfl
theorem vB (T:Tx K mg a):FnOk P w K mg base CX0 4 a.du a.rn ["_law_text_here"] Ga:=by
 refine T.jG.1.okA d6 λg4 A outer s H vs Q E hr h=>?_;obtain⟨z,rfl,lz,qB,ζ⟩:=h;have hu:=ED hr;have i0:=jq hr;have β:z.length<=sizeLine:=by rw[hJ];omega
 rw[Fj];have hp:=@GJ (cxOf CX0 P w K mg base ["_law_text_here","_law_found","_law_k","_law_row_here","_law_told_here","_law_lists"] "_law_read" (ai fw) a.du g4 A outer s H E).nox ⟨350,17,350,62⟩ rdL @C @C;have ho:rdL.map tKN=[(tC (.str "in"),tLst tNil),(tC (.str "sum"),tLst tNil),(tC (.str "store"),tLst tNil),(tC (.str "out"),tLst tNil)]:=rfl;rw[ho] at hp;generalize rdL.map eKey=eks at hp ⊢;generalize rdL.map eNil=evs at hp ⊢
 refine⟨_,((af (aO (i:=1) d6.nd rfl @E hp)
  (nW (bE (ax xC (pv 0) aD (aP _)) (aq (eO MY rfl (pF (K:=K) rfl @D T.hX (bW (K:=K) rfl ri N8 N7 jy (pv 0) (aa aD ae))) (kW rfl (a9 (av (i:=2) d6.nd rfl @E) (a9 (av (i:=3) d6.nd rfl @E) fO))) (af (aO (i:=4) d6.nd rfl @E (aw (xH T) hr T.BG T.kO (aa (bW (K:=K) rfl ri N8 N7 jy (pv 3) (aa aD ae)) ae)))
  (af (bE (ax Hy (pv 4) gw (aP _)) (aq (aJ (bN (aa (bN (aa aD (aa (pv 2) ae))) (aa (bC (aa (bC ae) (aa (bC ae) (aa (bC ae) (aa (bC ae) ae))))) ae))))) aH)
  (aq (bB (bW (K:=K) rfl rx Ni Ng gy (nX hu (pv 1) (!j (bt (K:=K) rfl) (pv 4) ah) (λ_ _=>rfl)) (aa (!j (bt (K:=K) rfl) (pv 4) ah) ae)))))))) aH)
  (af (aO (i:=5) d6.nd rfl @E (bC (aa (nX hu (pv 1) aD (λ_ _=>rfl)) (aa (nX hu (pv 1) aD (λ_ _=>rfl)) (aa (nX hu (pv 1) aD (λ_ _=>rfl)) (aa (nX hu (pv 1) aD (λ_ _=>rfl)) ae))))))
  (aq (aJ (bN (aa (aw (xK T) hr T.BJ T.kR (aa (!j (ay (K:=K) rfl) (pv 5) ah) (aa (!j (ay (K:=K) rfl) (pv 5) ah) (aa (!j (ay (K:=K) rfl) (pv 5) ah) (aa (!j (ay (K:=K) rfl) (pv 5) ah) ae))))) (aa (pv 5) ae))))))))),aN (σ':=[ag _,gs,gs,gs,gs,gs]) rfl ?_⟩
 lia;refine Gq Lh λF i s u o H1 fF fi fs fu fo n1 n2 n3 n4 n5 n6 n7 n8 n9 d3 s1 eF ei es eu eo=>?_;have τ:LsA H1 i s u o [] [] [] []:=⟨ei,es,eu,eo,λ_ h=>(by cases h),λ_ h=>(by cases h),λ_ h=>(by cases h),λ_ h=>(by cases h),λ_ h=>(by cases h),λ_ h=>(by cases h),λ_ h=>(by cases h),λ_ h=>(by cases h),n5,n6,n7,n8,n9,d3⟩
 have nR:∀{b:eH} {ob:HO},H b=ag ob->¬R4 i s u o b:=λ{b ob} e=>by
  rintro(z' | z' | z' | z')
  ·rw[z',fi] at e;cases e
  ·rw[z',fs] at e;cases e
  ·rw[z',fu] at e;cases e
  ·rw[z',fo] at e;cases e
 have hF:less H1 (R4 i s u o) F=ag (.dK [(n' "in",.ref i),(n' "sum",.ref s),(n' "store",.ref u),(n' "out",.ref o)]):=by
  rw[eS]
  ·exact eF
  ·rintro(z' | z' | z' | z')
   ·exact n1 z'
   ·exact n2 z'
   ·exact n3 z'
   ·exact n4 z'
 have b4:Same H (less H1 (R4 i s u o)):=λb ob e=>by rw[eS (nR e)];exact s1.get e
 obtain⟨m1,m2,Y,m4,ο,m6,m7,m8,m9,h6,h5,h4⟩:=w_ne;have vi:valV (κ:=Key) [(n' ("in":ic),V.ref i),(n' ("sum":ic),.ref s),(n' ("store":ic),.ref u),(n' ("out":ic),.ref o)] (n' ("in":ic))=ag (.ref i):=iu rfl;have vs:valV (κ:=Key) [(n' ("in":ic),V.ref i),(n' ("sum":ic),.ref s),(n' ("store":ic),.ref u),(n' ("out":ic),.ref o)] (n' ("sum":ic))=ag (.ref s):=(gK λe=>m1 (O2 e)).trans (iu rfl);have vu:valV (κ:=Key) [(n' ("in":ic),V.ref i),(n' ("sum":ic),.ref s),(n' ("store":ic),.ref u),(n' ("out":ic),.ref o)] (n' ("store":ic))=ag (.ref u):=(gK λe=>m2 (O2 e)).trans ((gK λe=>ο (O2 e)).trans (iu rfl));have vo:valV (κ:=Key) [(n' ("in":ic),V.ref i),(n' ("sum":ic),.ref s),(n' ("store":ic),.ref u),(n' ("out":ic),.ref o)] (n' ("out":ic))=ag (.ref o):=(gK λe=>Y (O2 e)).trans ((gK λe=>m6 (O2 e)).trans ((gK λe=>m9 (O2 e)).trans (iu rfl)));lia;refine s_cut (fun σ' H'=>∃(π v3 v4:ov V) (rs:cc Rw) (qs:cc Qs),σ'=[ag (.str z),ag (.ref F),π,v3,v4,gs]/\Same (less H1 (R4 i s u o)) (less H' (R4 i s u o))/\LsA H' i s u o ((insR (cj z)).map V.str) (upR rs) (upQ qs) ((outR (cj z)).map V.str)/\rs.map (·.2.2)=sumR (cj z)/\qs.map (·.2)=stoR (cj z)/\∀r∈cj z,cf r=true) ?_ ?_
 ·lia;by_cases hz:z=""
  ·dsimp only;have er:cj z=[]:=by unfold cj;rw[kn hz];rfl
   rw[fZ (show V.str z=V.str "" by rw[hz])];lia;rw[er];exact⟨gs,gs,gs,[],[],rfl,Same.refl _,τ,rfl,rfl,λ_ h=>(by cases h)⟩
  dsimp only;rw[fy (λe=>hz (V.str.inj e))];lia;refine lY @G (by rw[hJ];omega) λD2 H2 f2 s2 e2=>?_;rw[jT] at e2;have ψ:cj z=(M7 z ⟨#[10]⟩).map λr=>M7 r ⟨#[32]⟩:=by unfold cj;rw[hQ hz]
  have a7:=pX z;have a6:=λr υ=>vh (z:=z) (r:=r) υ
  have c2:∀y∈M7 z ⟨#[10]⟩,y.length<=z.length:=λy hy=>by
   have:=mD hy;rw[kC] at this;omega
  generalize M7 z ⟨#[10]⟩=ts at e2 ψ c2;generalize cj z=rows at ψ a7 a6 qB ζ ⊢;have O:ts.length=rows.length:=by rw[ψ,ak]
  have f0:less H2 (R4 i s u o) D2=ag (.lst (ts.map V.str)):=by rw[eS (τ.fresh f2)];exact e2
  have b0:=di (R:=R4 i s u o) s2;lia;refine PU ⟨⟨_,SqL.of e2⟩,?_⟩;refine um (xs:=ts.map V.str) (λk σ H'=>∃(π v3 v4:ov V) (rs:cc Rw) (qs:cc Qs),σ=[ag (.str z),ag (.ref F),π,v3,v4,gs]/\Same (less H2 (R4 i s u o)) (less H' (R4 i s u o))/\LsA H' i s u o ((insR (rows.take k)).map V.str) (upR rs) (upQ qs) ((outR (rows.take k)).map V.str)/\rs.map (·.2.2)=sumR (rows.take k)/\qs.map (·.2)=stoR (rows.take k)/\∀r∈rows.take k,cf r=true) ⟨gs,gs,gs,[],[],rfl,Same.refl _,τ.same s2,rfl,rfl,λr h=>by simp at h⟩ (λk σ H' _ ⟨_,_,_,_,_,_,s',_⟩=>SqL.of (eR.get (s'.get f0))) ?_ ?_
  ·rintro k y σ H' pz H3 hy ⟨π,v3,v4,rs,qs,rfl,s',la,er,eq,fm⟩ fp s3 e3;obtain⟨y',b1,rfl⟩:=aR hy;have j0:=(b'.mp b1).1;have χ:rows[k]? =ag (M7 y' ⟨#[32]⟩):=by rw[ψ,hH,b1];rfl
   obtain⟨q1,φ⟩:=a6 _ (hA χ);have h8:=c2 y' (hA b1);have a3:=take_succ χ;generalize γ:M7 y' ⟨#[32]⟩=r at χ q1 φ a3;have q3:=uP r;obtain⟨c1,c0,b8,b7⟩:=ub (rows.take k);rw[qo] at c1 c0 b8 b7;have e0:rs.length=(sumR (rows.take k)).length:=by rw[<-er,ak]
   have e1:qs.length=(stoR (rows.take k)).length:=by rw[<-eq,ak]
   have η:=la.same s3;lia;refine lY @G (by rw[hJ];omega) λD4 H4 f4 s4 e4=>?_;rw[iw,γ] at e4;have c5:=s3.trans s4;have a0:=η.same s4;have ω:=s'.trans (di (R:=R4 i s u o) c5);have d0:Same H H4:=(b4.trans b0).trans (ω.trans eR);have a4:=eR.get (ω.get (b0.get hF));lia;refine⟨D4,r,rfl,e4,q1,@A,λw hw=>by have:=mD hw;omega,λhf H5 α=>?_,λz' ez δ t H5 α et=>?_,λz' ez δ t H5 α et=>?_,λz' ws ez δ c3 t b v H5 α et fb eb fv ev=>?_,λz' ρ ez δ a8 t b H5 α et fb eb=>?_⟩
   ·lia;intro ξ H6 f6 s6 e6;lia;intro l7 H7 f7 s7 e7;lia;intro l8 H8 f8 s8 e8;lia;intro l9 H9 f9 s9 e9;lia;intro h7 l0 k4 b3 k8;lia;intro L k9 j2 b2 k6;lia;intro p h3 j1 a2 g0;exact qB k (tj χ hf fm) p ξ L h3 (d0.trans (α.trans (s6.trans (s7.trans (s8.trans (s9.trans (b3.trans (b2.trans a2)))))))) g0 ⟨_,(s7.trans (s8.trans (s9.trans (b3.trans (b2.trans a2))))).get e6,.int _⟩
   ·have a1:=α.get a4;have ν:=(a0.same α).ei;lia;refine ji a1 vi ?_;lia;refine gf ν (by rw[ak,hJ];omega) λH7 Z=>?_;obtain⟨l7,g1,ε,g3⟩:=fd_i a0 α δ Z;lia;have ez:r=wI z':=ez;rw[a3,ez]
    exact⟨_,_,_,rs,qs,rfl,ω.trans g3,l7,by rw[g1];exact er,by rw[ε];exact eq,λr' υ=>by
     rcases lx.mp υ with h | h
     ·exact fm r' h
     ·rw[hC.mp h];exact(F6.i z' δ).form⟩
   ·have a1:=α.get a4;have f1:=(a0.same α).eo;lia;refine ji a1 vo ?_;lia;refine gf f1 (by rw[ak,hJ];omega) λH7 Z=>?_;obtain⟨l7,g1,ε,g3⟩:=fd_o a0 α δ Z;lia;have ez:r=wO z':=ez;rw[a3,ez]
    exact⟨_,_,_,rs,qs,rfl,ω.trans g3,l7,by rw[g1];exact er,by rw[ε];exact eq,λr' υ=>by
     rcases lx.mp υ with h | h
     ·exact fm r' h
     ·rw[hC.mp h];exact(F6.o z' δ).form⟩
   ·have a1:=α.get a4;have ι:=(a0.same α).es;lia;refine ji a1 vs ?_;lia;refine gf ι (by unfold upR;rw[ak,ak,hJ];omega) λH7 Z=>?_;obtain⟨l7,g1,ε,g3⟩:=fd_s a0 er α δ c3 fb fv eb ev Z;lia;have ez:r=wS z' ws:=ez;rw[a3,ez]
    exact⟨_,_,_,rs++[(b,v,z',ws)],qs,rfl,ω.trans g3,l7,g1,by rw[ε];exact eq,λr' υ=>by
     rcases lx.mp υ with h | h
     ·exact fm r' h
     ·rw[hC.mp h];exact(F6.s z' ws δ c3).form⟩
   ·have a1:=α.get a4;have θ:=(a0.same α).et;lia;refine ji a1 vu ?_;lia;refine gf θ (by unfold upQ;rw[ak,ak,hJ];omega) λH7 Z=>?_;obtain⟨l7,g1,ε,g3⟩:=fd_t a0 eq α δ a8 fb eb Z;lia;have ez:r=wT z' ρ:=ez;rw[a3,ez]
    exact⟨_,_,_,rs,qs++[(b,z',ρ)],rfl,ω.trans g3,l7,by rw[g1];exact er,ε,λr' υ=>by
     rcases lx.mp υ with h | h
     ·exact fm r' h
     ·rw[hC.mp h];exact(F6.t z' ρ δ a8).form⟩
  ·rintro σ H' ⟨π,v3,v4,rs,qs,rfl,s',la,er,eq,fm⟩;rw[ak,O,mu] at la er eq fm;exact⟨π,v3,v4,rs,qs,rfl,b0.trans s',la,er,eq,fm⟩
 ·rintro σ' H2 ⟨π,v3,v4,rs,qs,rfl,a2,la,er,eq,fm⟩;have a5:=eR.get (a2.get hF);have b5:Same H H2:=b4.trans (a2.trans eR);have a7:=pX z;obtain⟨c1,c0,b8,b7⟩:=ub (cj z);have e0:rs.length=(sumR (cj z)).length:=by rw[<-er,ak]
  have e1:qs.length=(stoR (cj z)).length:=by rw[<-eq,ak]
  have hb:=oF fm;have hl:=la.hndL;have da:=datR (H:=H2) fm er eq;lia;refine ji a5 vi ?_;lia;refine ji a5 vs ?_;lia;refine ji a5 vu ?_;lia;refine ji a5 vo ?_;lia;intro L H3 f3 s3 e3;lia;refine⟨i,s,u,o,_,_,_,_,ndR (cj z),rfl,hl.same s3,da.same s3,by rw[ak];omega,by unfold upR;rw[ak];omega,by unfold upQ;rw[ak];omega,by rw[ak];omega,λh0 H4 s4=>?_,λf hf t H4 s4 dt=>?_⟩
  ·have e4:=s4.get e3;lia;intro p H5 f5 α e5;exact ζ hb p .non L i s u o rs qs H5 (b5.trans (s3.trans (s4.trans α))) e5 ⟨α.get e4,hl.same (s3.trans (s4.trans α)),er,eq⟩ (λ_=>rfl) (λf hf=>by rw[h0] at hf;cases hf)
  ·have e4:=s4.get e3;lia;intro p H5 f5 α e5;obtain⟨vd,d1,d2⟩:=dt;exact ζ hb p (.ref t) L i s u o rs qs H5 (b5.trans (s3.trans (s4.trans α))) e5 ⟨α.get e4,hl.same (s3.trans (s4.trans α)),er,eq⟩ (λh=>by rw[hf] at h;cases h) (λf' c4=>by rw[hf] at c4;cases c4;exact⟨t,rfl,vd,α.get d1,d2.same α⟩)
section
local macro_rules | `(tactic| walk_at "l2step") =>`(tactic| first | (with_reducible refine s_try ?_))
local macro_rules | `(tactic| walk_at "l2step") =>`(tactic| first | (with_reducible refine jW ?_))
local macro_rules | `(tactic| walk_at "l2step") =>`(tactic| first | (with_reducible refine iA ?_) | (with_reducible refine s_tryH ?_) | (with_reducible refine oI ?_) | (with_reducible refine oG ?_))
local macro_rules | `(tactic| walk_at "l2step") =>`(tactic| (with_reducible refine IB ?_))
theorem tJ {K:a'} {G c:eH} {Wo:XW} {ts:TS} {D:Ends} {σ:L2.St} {H:Hp} {dx:Dn} (m:MZ K c (.ref G)=ag false) (h:Wo σ (.ref c) dx H):JO K G Wo ts D σ (.ref c) dx H:=⟨c,rfl,.inr ⟨m,h⟩⟩
def zY (O:NP):Sp:=λvs H Q _=>∃(z:ic),vs=[.str z]/\z.length<=900000/\
 (dueZ z=gs->∀p n od H2,Same H H2->H2 p=ag (.tup [.non,.non,.ref n])->O H2 n (netR (cj z)) od->Q (.ref p) H2)/\
 (∀f,dueZ z=ag f->∀p t v H2,Same H H2->H2 p=ag (.tup [.ref t,v,.non])->DueZ H2 t f->(f= .ft .ring->∃g L,v= .ref g/\H2 g=ag (.lst (L.map V.str))/\kz (netR (cj z)).sums L)->Q (.ref p) H2)
theorem qd (T:Tx K mg a):FnOk P w K mg base CX0 13 a.cw a.lD ["_law_text_here"] (zY (NAof a)):=by
 refine T.gm.1.okA aU λa1 A outer s H vs Q E hr h=>?_;obtain⟨z,rfl,lz,qN,φ⟩:=h
 refine⟨_,((af (aO (i:=1) aU.nd rfl @E gw)
  (af (aO (i:=2) aU.nd rfl @E gw)
  (af (aO (i:=3) aU.nd rfl @E gw)
  (af (GD ⟨rfl,rfl⟩ thr0 aU.nd (PH2.cons (i:=4) T.EJ @D T.wc rfl rfl (λ_ _=>(aq (aO (i:=1) aU.nd rfl @E (bN (aa aD (aa (p4 (K:=K) rfl (pv 4) rfl) ae)))))) @C (PH2.cons0 T.EG @D T.ja (λ_ _=>(aq (aO (i:=1) aU.nd rfl @E (bN (aa aD (aa gw ae)))))) @C (PH2.cons (i:=4) T.EI @D T.wa rfl rfl (λ_ _=>(aq (aO (i:=1) aU.nd rfl @E (bN (aa aD (aa (p4 (K:=K) rfl (pv 4) rfl) ae)))))) @C (PH2.cons (i:=4) T.EH @D T.vZ rfl rfl (λ_ _=>(aq (aO (i:=1) aU.nd rfl @E (bN (aa aD (aa (p4 (K:=K) rfl (pv 4) rfl) ae)))))) @C (PH2.cons (i:=4) T.GV @D T.y3 rfl rfl (λ_ _=>(aq (aO (i:=1) aU.nd rfl @E (bN (aa aD (aa (p4 (K:=K) rfl (pv 4) rfl) ae)))))) @C (PH2.cons (i:=4) T.Lu @D T.HA rfl rfl (λ_ _=>(af (aO (i:=1) aU.nd rfl @E (bN (aa aD (aa gw ae))))
  (aq (aO (i:=2) aU.nd rfl @E (p4 (K:=K) rfl (pv 4) rfl))))) @C PH2.nil)))))) (λ_ _ _ _ _ h=>let ⟨c,e,_⟩:=h;⟨c,e⟩) (λ_ _=>(aq (aO (i:=3) aU.nd rfl @E (gM (qc T) (hr.mono @C) @D T.sL T.gb.1.2 T.gb.2 .nil bU (aa (pv 0) ae))))))
  (aq (aJ (bN (aa (pv 1) (aa (pv 2) (aa (pv 3) ae))))))))))),aN (σ':=[ag _,gs,gs,gs,gs]) rfl ?_⟩
 lia;refine⟨z,rfl,lz,λh0 n H2 od fn ι na=>?_,λf hf H2 θ a0 ι fx=>?_⟩
 ·lia;intro p ο L ψ χ;exact qN h0 p n od ο (ι.trans ψ) χ (na.same ψ)
 cases f with
 | line k=>
   obtain⟨rfl,β,rfl,ζ⟩:=fx;refine mO T.fN fun υ ο L α=>?_;have O:=jP L α;have π:ExcC ο υ a.aC [("line",.int k)]:=⟨β,α.at',O.get ζ⟩;lia;refine mL π T.FO T.oB T.lg rfl ?_;lia;intro ε τ ξ Z δ;lia;refine vf ?_;lia;intro p η ν Y γ;exact φ (.line k) hf p ε .non η (((ι.trans O).trans Z).trans Y) γ ⟨_,Y.get δ,.int _⟩ λz=>by cases z
 | ft f=>
   cases f with
   | many=>
     obtain⟨rfl,rfl⟩:=fx;refine jX T.fD ?_;refine Dx T.fC ?_;lia;intro t3 ο L ψ χ;lia;intro p τ ξ Z δ;exact φ (.ft .many) hf p t3 .non τ ((ι.trans ψ).trans Z) δ ⟨.non,Z.get χ,.non⟩ λz=>by cases z
   | bad d=>
     obtain⟨rfl,β,v,rfl,ζ,tg⟩:=fx;refine jX T.fM ?_;refine tJ T.fK ?_;refine mO T.fL fun υ ο L α=>?_;have π:=yg L ζ α;have O:=jP L α;lia;refine mL π T.FM T.oA T.k7 rfl ?_;lia;intro ε τ ξ Z δ;lia;refine vf ?_;lia;intro p η ν Y γ;exact φ (.ft (.bad d)) hf p ε .non η (((ι.trans O).trans Z).trans Y) γ ⟨v,Y.get δ,tg.same ((O.trans Z).trans Y)⟩ λz=>by cases z
   | dbl d=>
     obtain⟨rfl,β,v,rfl,ζ,tg⟩:=fx;refine jX T.fJ ?_;refine tJ T.fE ?_;refine jX T.fH ?_;refine mO T.fG fun υ ο L α=>?_;have π:=yg L ζ α;have O:=jP L α;lia;refine mL π T.FL T.oz T.kZ rfl ?_;lia;intro ε τ ξ Z δ;lia;refine vf ?_;lia;intro p η ν Y γ;exact φ (.ft (.dbl d)) hf p ε .non η (((ι.trans O).trans Z).trans Y) γ ⟨v,Y.get δ,tg.same ((O.trans Z).trans Y)⟩ λz=>by cases z
   | now d=>
     obtain⟨rfl,β,v,rfl,ζ,tg⟩:=fx;refine jX T.gH ?_;refine tJ T.gE ?_;refine jX T.gG ?_;refine jX T.gF ?_;refine mO T.g6 fun υ ο L α=>?_;have π:=yg L ζ α;have O:=jP L α;lia;refine mL π T.He T.qV T.nc rfl ?_;lia;intro ε τ ξ Z δ;lia;refine vf ?_;lia;intro p η ν Y γ;exact φ (.ft (.now d)) hf p ε .non η (((ι.trans O).trans Z).trans Y) γ ⟨v,Y.get δ,tg.same ((O.trans Z).trans Y)⟩ λz=>by cases z
   | ring=>
     obtain⟨rfl,β,ω,rg,rfl,ζ,χ,ir⟩:=fx;refine jX T.iX ?_;refine tJ T.iU ?_;refine jX T.iW ?_;refine jX T.iV ?_;refine jX T.jt ?_;refine mO T.mf fun υ ο L α=>?_;have O:=jP L α;lia;intro ε τ ξ Z δ;have ρ:ExcC τ υ a.bf [("ring",.ref ω)]:=⟨β,Z.get α.at',Z.get (O.get ζ)⟩;lia;refine mL ρ T.LX T.x6 T.qq rfl ?_;lia;refine vf ?_;lia;intro p η ν Y γ;exact φ (.ft .ring) hf p ε (.ref ω) η (((ι.trans O).trans Z).trans Y) γ ⟨.non,Y.get δ,.non⟩ λ_=>⟨ω,rg,rfl,((O.trans Z).trans Y).get χ,ir⟩
end
end
section
theorem iE (T:Tx K mg a):FnOk P w K mg base CX0 1 a.dZ a.rq ["_law_script","_law_k"] (yL K):=by
 refine T.d5.1.okA ve λZ A outer s H vs Q E α h=>?_;obtain⟨p,ns,k,rfl,β,Y,q⟩:=h
 refine⟨_,((af (bE (ax Aw (pv 1) (aB (aF (K:=K) rfl) @D T.cK kf (aa (pv 0) ae)) (aP _)) (aq (aJ (!j (ay (K:=K) rfl) (pv 0) (pv 1)))) aH)
  (aq (aJ (aE cn (aE p8 ah (pv 1)) ah))))),aN (σ':=[ag _,ag _]) rfl ?_⟩
 lia;rw[ak];unfold cell at q;refine ite2 (λL=>?_) (λL=>?_)
 ·have L:=M3 L
  have ha:atI (ns.map V.int) k=ag (.int (ns.getD k.toNat 0)):=by
   obtain⟨j,rfl⟩:=O7 Y;have O:j < ns.length:=by omega
   exact c6 (by rw[hH,c' O,hB,MW,c' O];rfl)
  rw[kn L] at q;lia;exact q
 ·have L:¬k < ns.length:=λz=>L (fZ z);rw[hQ L] at q;lia;exact q
theorem zh {H:Hp} {Q:VK} {E:XK} {c k:Int} (L:0<=k) (h1:k < 100000) (q:Q (.int (mixV c k)) H):C2 [.int c,.int k] H Q E:=⟨c,k,rfl,L,h1,q⟩
local macro_rules | `(tactic| walk_at "l2step") =>`(tactic| first | ((with_reducible refine' zh ?a ?b ?_);(case a=>walk_at "l2side");(case b=>walk_at "l2side")) | ((with_reducible refine' uE ?e ?a ?_);(case e=>walk_at "l2hp");(case a=>walk_at "l2side")))
theorem cL (T:Tx K mg a):FnOk P w K mg base CX0 1 a.fX a.sU ["_law_cell_here","_law_k"] C2:=by
 refine T.bo.1.okA lT λL A outer s H vs Q E O h=>?_;obtain⟨c,k,rfl,Y,h1,q⟩:=h
 refine⟨_,((af (aO (i:=2) lT.nd rfl @E (aE bJ (aE cn (aE cn (aE p8 (aE bJ (pv 0) ah) ah) (aE p8 ah (pv 1))) ah) ah))
  (af (aO (i:=2) lT.nd rfl @E (aE bJ (aE p8 (pv 2) (pv 2)) ah))
  (aq (aJ (aE bJ (aE p8 (pv 2) (aE cn (aE cn (pv 2) (aE p8 ah (pv 1))) ah)) ah)))))),aN (σ':=[ag _,ag _,gs]) rfl ?_⟩
 lia;exact q
theorem iD (T:Tx K mg a):FnOk P w K mg base CX0 2 a.dY a.rp ["_law_cell_here","_law_k"] sC:=by
 refine T.d4.1.okA iy fun ι A outer s H vs Q E Y h=>?_;obtain⟨c,k,rfl,ν,h1,q⟩:=h;have hk:decide (k < 40)=true:=fZ h1
 refine⟨_,((af (aO (i:=2) iy.nd rfl @E aD)
  (af (aO (i:=3) iy.nd rfl @E aD)
  (af (aO (i:=3) iy.nd rfl @E (aE cH (pv 3) aD))
  (af (bE (PW.pt (oK (ax Aw (pv 1) ah (aP _)) (mh (ax gN (aE bJ (aw (cL T) Y T.bI T.bo (aa (pv 0) (aa ah ae))) ah) ah (aP _))))) (aq (aJ (!j (ay (K:=K) rfl) (bW (K:=K) rfl ri N8 N7 jy (pv 3) (aa aD ae)) (aE bJ (aE cn (pv 1) (aw (cL T) Y T.bI T.bo (aa (pv 0) (aa ah ae)))) ah)))) aH)
  (aq (aJ (aE cH (!j yY (pv 2) (aE bJ (aw (cL T) Y T.bI T.bo (aa (pv 0) (aa ah ae))) ah)) (aX wD @D T.Jj Pm (aa (aE cn (aE bJ (aw (cL T) Y T.bI T.bo (aa (pv 0) (aa ah ae))) ah) (aE p8 ah (pv 1))) ae)))))))))),aN (σ':=[ag _,ag _,gs,gs]) rfl ?_⟩
 lia;refine⟨@G,?_⟩;lia;generalize O:((_:ic)++_)=words;have O:words=CA:=O.symm;by_cases h2:mixV c 402 % 2=0
 ·refine eh (fZ (by rw[h2])) ?_;lia;refine lY @G (by rw[O];decide +kernel) λD H2 ξ β Z=>?_;have hm:=MS (k + mixV c 403) (show(0:Int) < 40 by decide);have L:=M8 (k + mixV c 403) (show(40:Int)≠0 by decide);rw[O] at Z
  have θ:atI (W40.map V.str) ((k + mixV c 403) % 40)=ag (.str (nmf c k)):=by
   obtain⟨j,η⟩:=O7 L;have ε:j < W40.length:=by rw[uJ];omega
   unfold nmf;rw[kn h2,η];refine c6 ?_;rw[hH,hB,MW,c' ε];rfl
  have Z:H2 D=ag (.lst (W40.map V.str)):=Z;lia;exact q H2 β
 ·refine eA (fy λz=>h2 (V.int.inj z)) ?_;have hm:=MS (mixV c 400) (show(0:Int) < 26 by decide);have L:=M8 (mixV c 400) (show(26:Int)≠0 by decide);have ω:=MS (mixV c 401) (show(0:Int) < 1000 by decide);have ζ:=M8 (mixV c 401) (show(1000:Int)≠0 by decide);lia;refine Gk @G (AR _ L hm) ?_;lia;have hn:(mixV c 401 % 1000 + 37 * k).natAbs < 10 ^ 4:=by omega
  have γ:(mixV c 401 % 1000 + 37 * k).natAbs.log2 < 1920:=by
   rcases Nat.eq_zero_or_pos (mixV c 401 % 1000 + 37 * k).natAbs with z | z
   ·rw[z];decide
   ·exact(Nat.log2_lt @A).mpr (uj hn (NK (by decide:10 ^ 4<=2 ^ 14) (Nat.pow_le_pow_right @C @C)))
  have α:=PyProof.Rows.int_text_len_1921 γ;refine⟨γ,?_⟩;lia;refine⟨by rw[hJ];have:(⟨#[97 + (mixV c 400 % 26).toNat]⟩:ic).length=1:=rfl;omega,?_⟩;have e:(mixV c 401 % 1000 + 37 * k)=(((mixV c 401 % 1000).toNat + 37 * k.toNat:Nat):Int):=by omega
  have δ:=q H (Same.refl _);unfold nmf at δ;rw[hQ h2] at δ;rw[e];exact δ
end
section
local macro_rules | `(tactic| walk_at "l2step") =>`(tactic| first | ((with_reducible refine' c_whole ?e ?_);(case e=>walk_at "l2kind")) | ((with_reducible refine' c_mask ?e ?_);(case e=>walk_at "l2kind")) | (with_reducible refine bF ?_) | (with_reducible refine s_methX ?_))
section
local macro_rules | `(tactic| walk_at "l2step") =>`(tactic| (with_reducible refine Ho ?_))
def C5:Sp:=λvs H Q _=>∃(l:eH) (ws:A6) (n:Int),vs=[.ref l,.int n]/\H l=ag (.lst (ws.map V.str))/\∀(z:ic) (H2:Hp),Same H H2->(z∈ws∨z.length<=10)->Q (.str z) H2
noncomputable def oddL:cc (ic×Pos):=[("in",⟨360,17,360,21⟩),("out",⟨360,23,360,28⟩),("sum",⟨360,30,360,35⟩),("store",⟨360,37,360,44⟩),("=",⟨360,46,360,49⟩),("",⟨360,51,360,53⟩),("A",⟨360,55,360,58⟩),("1a",⟨360,60,360,64⟩),("abcdefg",⟨360,66,360,75⟩),("a",⟨360,77,360,80⟩),("zz",⟨360,82,360,86⟩),("==",⟨360,88,360,92⟩),("in ",⟨360,94,360,99⟩)]
noncomputable def oddS:A6:=oddL.map Q3
theorem Jg:∀z∈oddS,z.length<=10:=by decide +kernel
theorem GN:oddS.length=13:=rfl
theorem G8:dI gQ= .Assign [.Name "_law_some" ⟨360,4,360,13⟩] (.List (oddL.map eStr) ⟨360,16,360,100⟩) ⟨360,4,360,100⟩::(dI gQ).tail:=rfl
theorem xI (T:Tx K mg a):FnOk P w K mg base CX0 1 a.ee a.sS ["_law_words","_law_number"] C5:=by
 refine T.kP.1.okA pQ fun ε A outer s H vs Q E ι h=>?_;obtain⟨l,ws,n,rfl,hl,q⟩:=h;have α:=jq ι;rw[G8];have β:=@GF (cxOf CX0 P w K mg base ["_law_words","_law_number","_law_some"] "_law_odd" (ai gQ) a.ee ε A outer s H E).nox (oddL.map eStr) ⟨360,16,360,100⟩ oddL rfl;have ho:oddL.map Q3=oddS:=rfl;rw[ho] at β;generalize oddL.map eStr=es at β ⊢
 refine⟨_,((af (aO (i:=2) pQ.nd rfl @E β)
  (af (bE (PW.pt (oK (ax gN (aE bJ (pv 1) ah) ah (aP _)) (mh (ax (j9 (K:=K) rfl α) (pv 0) (bC ae) (aP _))))) (aq (aJ (!j (ay (K:=K) rfl) (pv 0) (aE bJ (aE g9 (pv 1) ah) (aB (aF (K:=K) rfl) @D T.cK kf (aa (pv 0) ae)))))) aH)
  (aq (aJ (!j (ay (K:=K) rfl) (pv 2) (aE bJ (aE g9 (pv 1) ah) ah))))))),aN (σ':=[ag _,ag _,gs]) rfl ?_⟩
 have ζ:=Jg;have os:=GN;generalize oddS=od at ζ os ⊢;lia;refine Hq (by rw[ak,os];exact xU @C) fun ξ H1 π Z ν=>?_;have hl1:=Z.get hl;lia
 have fin:∀H2,Same H1 H2->rIxL K (.ref ξ) (.int (n / 2 % 13)) H2 Q:=λH2 O=>by
  have δ:=O.get ν;obtain⟨j,γ,η⟩:=cb (c:=n / 2) (m:=13) @C;obtain⟨r,ω,L⟩:=ki (l:=od) (j:=j) @A;have Y:atI (od.map V.str) (j:Int)=ag (.str r):=c6 (by rw[hH,ω];rfl);rw[γ];exact Gm (SqL.of δ) Y (q r H2 (Z.trans O) (.inr (ζ r L)))
 by_cases θ:n % 2=0
 ·dsimp only;refine eh (fZ (by rw[θ])) ?_;lia;intro τ H2 ο O δ;have hl2:=O.get hl1;refine mM (neg:=true) hl2 (λv ρ=>by obtain⟨z,_,rfl⟩:=mw.mp ρ;exact⟨.str z,.str z,by unfold depD;exact N2 _⟩) δ ?_;cases ws with
  | nil=>
    lia;exact fin H2 O
  | cons y ys=>
    obtain⟨j,γ,η⟩:=cb (c:=n / 2) (m:=(((y::ys).map V.str).length:Int)) (by rw[ak,y1];omega);obtain⟨r,ω,L⟩:=ki (l:=y::ys) (j:=j) (by rw[ak] at η;omega);have Y:atI ((y::ys).map V.str) (j:Int)=ag (.str r):=c6 (by rw[hH,ω];rfl);lia;rw[γ];lia;exact q r H2 (Z.trans O) (.inl L)
 ·dsimp only;refine eA (fy λe=>θ (V.int.inj e)) ?_;lia;exact fin H1 (Same.refl _)
end
section
local macro_rules | `(tactic| walk_at "l2step") =>`(tactic| (with_reducible refine Hr ?_))
def u1:Sp:=λvs H Q _=>∃(l o:eH) (ws os:A6) (n:Int) (M:Nat),vs=[.ref l,.int n,.ref o]/\H l=ag (.lst (ws.map V.str))/\H o=ag (.lst (os.map V.str))/\1<=ws.length/\0<=n/\wt ws<=M + 1/\(∀w∈os,w.length<=M)/\M<=900000/\
 ∀(D:eH) (rs:A6) (H2:Hp),H D=gs->Same H H2->H2 D=ag (.lst (rs.map V.str))->wt rs<=3 * M + 15->Q (.ref D) H2
theorem oa (T:Tx K mg a):FnOk P w K mg base CX0 2 a.bR a.jM ["_law_words","_law_number","_law_some"] u1:=by
 refine T.dN.1.okA cE λa5 A outer s H vs Q E hr h=>?_;obtain⟨l,o,ws,os,n,M,rfl,hl,ho,l1,hn,hw,τ,hM,q⟩:=h;have lw:=uP ws;obtain⟨j,hj,lj⟩:=cb (c:=n / 100) (m:=(ws.length:Int)) @A;obtain⟨Z,υ,φ⟩:=cb (c:=n) (m:=5) @C;have ζ:j < ws.length:=by omega
 have χ:n / 100 % (((ws.map V.str).length:Nat):Int)=(j:Int):=by rw[ak];exact hj
 refine⟨_,((af (aO (i:=3) cE.nd rfl @E (aE bJ (aE g9 (pv 1) ah) (aB (aF (K:=K) rfl) @D T.cK kf (aa (pv 0) ae))))
  (af (aO (i:=4) cE.nd rfl @E (aE bJ (pv 1) ah))
  (af (bE (ax gN (pv 4) ah (aP _)) (aq (aJ (aE dM (bQ (cB (K:=K) rfl) (pv 0) cG (cF (pv 3))) (bQ (cB (K:=K) rfl) (pv 0) (cF (aE cn (pv 3) ah)) cG)))) aH)
  (af (bE (ax Aw (pv 4) ah (aP _)) (aq (aJ (aE dM (aE dM (bQ (cB (K:=K) rfl) (pv 0) cG (cF (pv 3))) (bC (aa (aw (xI T) hr T.BH T.kP (aa (pv 2) (aa (aE g9 (pv 1) ah) ae))) ae))) (bQ (cB (K:=K) rfl) (pv 0) (cF (aE vx (aE cn (pv 3) (pv 4)) ah)) cG)))) aH)
  (af (aO (i:=5) cE.nd rfl @E (aE bJ (aE g9 (pv 1) ah) (aB (aF (K:=K) rfl) @D T.cK kf (aa (pv 0) ae))))
  (af (aO (i:=6) cE.nd rfl @E (aX (bX (K:=K) rfl) @D T.gx qR (aa (pv 0) ae)))
  (af (sF (!j (ay (K:=K) rfl) (pv 0) (pv 5)) (DP (pv 6) (pv 3) tG))
  (af (sF (!j (ay (K:=K) rfl) (pv 0) (pv 3)) (DP (pv 6) (pv 5) tG))
  (aq (aJ (pv 6)))))))))))),aN (σ':=[ag _,ag _,ag _,gs,gs,gs,gs]) rfl ?_⟩
 lia;refine s_rI (by rw[ak];omega) ?_;dsimp only;rw[χ];lia;rw[υ];have hT:=Ie j ws;have a4:=tu j ws;have a3:=tu (j + 1) ws;have cT:cutV (ws.map V.str) gs (ag (j:Int))=(ws.take j).map V.str:=wB ws j @A;have cD:∀k:Nat,k<=ws.length->cutV (ws.map V.str) (ag (k:Int)) gs=(ws.drop k).map V.str:=λk hk=>nK ws k hk;by_cases h0:Z=0
 ·subst h0;lia;intro A1 H1 ο Y δ;rw[cT] at δ;have hl1:=Y.get hl;lia;intro A2 H2 f2 O π;rw[show((j:Int) + 1)=((j + 1:Nat):Int) by omega,cD _ @A] at π;refine iQ (O.get δ) π (by rw[ak,ak,qo,MX,hJ];omega) fun ξ ψ L ρ β=>?_;rw[<-hh] at β;exact q ξ _ ψ ((Y.trans O).free L) ((Y.trans O).trans ρ) β (by rw[iq];omega)
 have d0:decide (V.int (Z:Int)=V.int 0)=false:=fy λe=>h0 (by have:=V.int.inj e;omega);lia;by_cases h1:Z < 3
 ·dsimp only;refine eh (fZ @A) ?_;lia;intro A1 H1 ο Y δ;rw[cT] at δ;lia;refine⟨o,os,_,rfl,Y.get ho,λz H2 O hz=>?_⟩
  have lz:z.length<=M + 10:=by
   rcases hz with h | h
   ·have:=τ z h;omega
   ·omega
  lia;intro ξ ψ L ρ β;refine iQ (ρ.get (O.get δ)) β (by rw[ak,qo,M0,hJ];omega) λA4 H4 f4 s4 e4=>?_;have α:=(Y.trans (O.trans ρ)).trans s4;have a1:=α.get hl;lia;intro A5 H5 f5 s5 γ;rw[show((j:Int) + (Z:Int) - 1)=((j + Z - 1:Nat):Int) by omega,cD _ @A] at γ;refine iQ (s5.get e4) γ (by rw[hE,ak,ak,qo,MX,M0,hJ];omega) fun ν H6 f6 s6 e6=>?_;have a2:=tu (j + Z - 1) ws;have e6:H6 ν=ag (.lst ((ws.take j++[z]++ws.drop (j + Z - 1)).map V.str)):=by rw[e6,hh,hh];rfl
  have w1:wt [z]=z.length + 1:=by rw[eE];rfl
  exact q ν _ H6 ((α.trans s5).free f6) ((α.trans s5).trans s6) e6 (by rw[iq,iq,w1];omega)
 ·dsimp only;refine eA (fy @A) ?_;lia;obtain⟨k,hk,lk⟩:=cb (c:=n / 10000) (m:=(ws.length:Int)) @A;have ε:k < ws.length:=by omega
  obtain⟨r,ω,a0⟩:=ki ζ;obtain⟨r',θ,η⟩:=ki ε;have aj:atI (ws.map V.str) (j:Int)=ag (.str r):=c6 (by rw[hH,ω];rfl);have ι:atI (ws.map V.str) (k:Int)=ag (.str r'):=c6 (by rw[hH,θ];rfl);rw[ak];refine s_rI @A ?_;dsimp only;rw[hk];lia;intro A1 H1 ο Y δ;have hl1:=Y.get hl;lia;refine Dh (j:=j) δ (by rw[ak];exact ζ) λH2 u2=>?_;have O:Same H H2:=λb ob e=>u2.oth _ _ (ao e ο) (Y.get e);have hl2:=O.get hl;have π:=u2.at';rw[show(ws.map V.str).set j (.str r')=(ws.set j r').map V.str by rw[RX]] at π;lia;refine Dh (j:=k) π (by rw[ak,QF];exact ε) fun ψ u3=>?_;have β:=u3.at';rw[show((ws.set j r').map V.str).set k (.str r)=((ws.set j r').set k r).map V.str from RX.symm] at β;lia;refine q A1 _ ψ ο (λb ob e=>u3.oth _ _ (ao e ο) (O.get e)) β ?_;have w1:=yE r (ws.set j r') k;have w2:=yE r' ws j;have w3:=mD a0;have w4:=mD η;omega
end
section
local macro_rules | `(tactic| walk_at "l2step") =>`(tactic| first | (with_reducible refine Hr ?_) | ((with_reducible refine' zh ?a ?b ?_);(case a=>omega);(case b=>omega)))
def xl:Sp:=λvs H Q _=>∃(z:ic) (c:Int) (b:N1) (M:Nat),vs=[.str z,.int c,.bl b]/\z.length<=M/\M<=220000/\∀(y:ic) (H2:Hp),Same H H2->y.length<=4 * M + 20->Q (.str y) H2
theorem tR (T:Tx K mg a):FnOk P w K mg base CX0 3 a.dq a.oQ ["_law_text_here","_law_cell_here","_law_digits"] xl:=by
 refine T.iN.1.okA bu λb0 A outer s H vs Q E hr h=>?_;obtain⟨z,c,b,M,rfl,lz,ο,q⟩:=h
 refine⟨_,((af (aO (i:=3) bu.nd rfl @E (aw (cL T) hr T.bI T.bo (aa (pv 1) (aa ah ae))))
  (af (aO (i:=4) bu.nd rfl @E (aw (cL T) hr T.bI T.bo (aa (pv 1) (aa ah ae))))
  (nW (bE (dE (pv 2)) (af (aO (i:=3) bu.nd rfl @E (aE bJ (pv 1) (aE yS ah ah)))
  (aq (aO (i:=4) bu.nd rfl @E (aE bJ (aE g9 (pv 1) (aE yS ah ah)) (aE yS ah ah))))) aH)
  (af (aO (i:=5) bu.nd rfl @E (bW (K:=K) rfl ri N8 N7 jy (pv 0) (aa aD ae)))
  (af (aO (i:=6) bu.nd rfl @E (aE bJ (pv 4) (aB (aF (K:=K) rfl) @D T.cK kf (aa (pv 5) ae))))
  (af (aO (i:=7) bu.nd rfl @E (aE bJ (pv 3) ah))
  (af (bE (ax Aw (pv 7) ah (aP _)) (af (aO (i:=8) bu.nd rfl @E (aw (oa T) hr T.pq T.dN (aa (bW (K:=K) rfl ri N8 N7 jy (!j (ay (K:=K) rfl) (pv 5) (pv 6)) (aa aD ae)) (aa (aE g9 (pv 3) ah) (aa (Jb (K:=K) rfl ri N8 N7 Ed (pv 0)) ae)))))
  (af (sF (bW (K:=K) rfl ri Nc Nb (iF (K:=K) rfl) aD (aa (pv 8) ae)) (DP (pv 5) (pv 6) tG))
  (aq (aJ (bW (K:=K) rfl ri Nc Nb (iF (K:=K) rfl) aD (aa (pv 5) ae)))))) aH)
  (af (bE (ax gN (pv 7) ah (aP _)) (af (aO (i:=9) bu.nd rfl @E (aE K6 (bC (aa (!j (ay (K:=K) rfl) (pv 5) (pv 6)) ae)) (aE bJ (aE g9 (pv 3) ah) ah)))
  (aq (aJ (bW (K:=K) rfl ri Nc Nb (iF (K:=K) rfl) aD (aa (aE dM (aE dM (bQ (cB (K:=K) rfl) (pv 5) cG (cF (pv 6))) (bQ (cB (K:=K) rfl) (pv 5) (cF (aE cn (pv 6) ah)) cG)) (pv 9)) ae))))) aH)
  (af (bE (ax gN (pv 7) ah (aP _)) (af (aO (i:=10) bu.nd rfl @E (bC (aa (aE cH aD (!j (bt (K:=K) rfl) (bW (K:=K) rfl ri PySem.F.slot_str_partition PySem.F.type_str_partition vE (!j (ay (K:=K) rfl) (pv 5) (pv 6)) (aa aD ae)) ah)) ae)))
  (aq (aJ (bW (K:=K) rfl ri Nc Nb (iF (K:=K) rfl) aD (aa (aE dM (aE dM (bQ (cB (K:=K) rfl) (pv 5) cG (cF (pv 6))) (pv 10)) (bQ (cB (K:=K) rfl) (pv 5) (cF (pv 6)) cG)) ae))))) aH)
  (af (aO (i:=6) bu.nd rfl @E (aE bJ (pv 4) (aE cn (aB (aF (K:=K) rfl) @D T.cK kf (aa (pv 0) ae)) ah)))
  (af (bE (ax gN (pv 7) ah (aP _)) (aq (aJ (aE cH (aE cH (bQ yM (pv 0) cG (cF (pv 6))) (!j yY aD (aE bJ (aE g9 (pv 3) ah) ah))) (bQ yM (pv 0) (cF (pv 6)) cG)))) aH)
  (aq (aJ (aE cH (bQ yM (pv 0) cG (cF (pv 6))) (bQ yM (pv 0) (cF (aE cn (pv 6) ah)) cG)))))))))))))))),aN (σ':=[ag _,ag _,ag _,gs,gs,gs,gs,gs,gs,gs,gs]) rfl ?_⟩
 lia;refine s_cut (fun σ' H'=>∃n o:Int,0<=n/\0<=o/\H'=H/\σ'=[ag (.str z),ag (.int c),ag (.bl b),ag (.int n),ag (.int o),gs,gs,gs,gs,gs,gs]) ?_ ?_
 ·have n0:=Eg c 600;have n1:=Eg c 601;cases b with
  | true=>
    lia;exact⟨_,_,M8 _ @C,M8 _ @C,rfl,rfl⟩
  | false=>
    lia;exact⟨_,_,n0,n1,rfl,rfl⟩
 rintro σ' H' ⟨n,o,hn,ho,rfl,rfl⟩;lia;refine lY @G (by rw[hJ];omega) λD1 H1 f1 s1 e1=>?_;rw[jT] at e1;have ψ:=kC z 10;have hp:=NX z ⟨#[10]⟩;generalize M7 z ⟨#[10]⟩=rows at e1 ψ hp;have τ:=uP rows;obtain⟨j,hj,lj⟩:=cb (c:=o) (m:=(rows.length:Int)) @A;have a0:j < rows.length:=by omega
 obtain⟨r,ω,a2⟩:=ki a0;have aj:atI (rows.map V.str) (j:Int)=ag (.str r):=c6 (by rw[hH,ω];rfl);have lr:=mD a2;obtain⟨wy,υ,a3⟩:=cb (c:=n) (m:=8) @C;lia;rw[ak];refine s_rI @A ?_;dsimp only;rw[hj];lia;rw[υ];have β:z.length<=sizeLine:=by rw[hJ];omega
 have lB:(vl " ").length=1:=by decide +kernel
 have lF:(vl "\n").length=1:=by decide +kernel
 have jB:∀ys:A6,wt ys<=1000000->(ys.map (·.length)).sum + ys.length * (vl " ").length<=16777216/\(OZ (vl " ") ys).length<=wt ys:=λys hy=>by
  have:=Cy ys;refine⟨by rw[lB];omega,?_⟩;rw[kB,iw];exact Ey 32 ys
 have χ:∀ys:A6,wt ys<=1000000->(ys.map (·.length)).sum + ys.length * (vl "\n").length<=16777216/\(OZ (vl "\n") ys).length<=wt ys:=λys hy=>by
  have:=Cy ys;refine⟨by rw[lF];omega,?_⟩;rw[kB,jT];exact Ey 10 ys
 have a6:wt (rows.take j) + wt (rows.drop j)=wt rows:=by rw[<-iq,OD]
 have a7:wt (rows.drop (j + 1))<=wt (rows.drop j):=by rw[show rows.drop (j + 1)=(rows.drop j).drop 1 by rw[List.drop_drop]];exact tu 1 _
 have cT:cutV (rows.map V.str) gs (ag (j:Int))=(rows.take j).map V.str:=wB rows j @A;have cD:∀k:Nat,k<=rows.length->cutV (rows.map V.str) (ag (k:Int)) gs=(rows.drop k).map V.str:=λk hk=>nK rows k hk;by_cases h1:wy < 4
 ·dsimp only;refine eh (fZ @A) ?_;lia;refine lY @G (by rw[hJ];omega) λD2 H2 f2 α ρ=>?_;rw[iw] at ρ;have w2:=kC r 32;lia;refine Gg (by rw[hJ];omega) λD3 H3 L Z ι=>?_;lia;refine⟨D2,D3,_,_,_,M,rfl,Z.get ρ,ι,NX _ _,@A,by rw[w2];omega,λw hw=>NK (Cz hw) lz,@A,fun π rs H4 ξ O ζ w4=>?_⟩;have a1:=O.get (Z.get (α.get e1));obtain⟨j1,j2⟩:=jB rs @A;lia;refine oH (SqL.of ζ) j1 ?_;lia;refine Dh (j:=j) a1 (by rw[ak];exact a0) λH5 u5=>?_;have γ:=u5.at';rw[show(rows.map V.str).set j (.str (OZ (vl " ") rs))=(rows.set j (OZ (vl " ") rs)).map V.str from RX.symm] at γ;have w5:=yE (OZ (vl " ") rs) rows j;obtain⟨k1,k2⟩:=χ (rows.set j (OZ (vl " ") rs)) @A;lia;refine oH (SqL.of γ) k1 ?_;exact q _ H5 (λb ob e=>u5.oth _ _ (ao e f1) (O.get (Z.get (α.get (s1.get e))))) @A
 dsimp only;refine eA (fy @A) ?_;lia;by_cases ε:wy=4
 ·dsimp only;refine eh (fZ (by rw[ε];rfl)) ?_;lia;intro D2 H2 f2 α ρ;obtain⟨m,hm,lm⟩:=cb (c:=n / 8) (m:=3) @C;lia;rw[hm];refine Ml ρ @A @A (by rw[M0,hJ];omega) λD3 H3 L Z ι=>?_;rw[G0,MW] at ι;have η:=Z.get (α.get e1);lia;intro π H4 ξ O ζ;rw[cT] at ζ;have a1:=O.get η;lia;intro D5 H5 ν θ γ;rw[show((j:Int) + 1)=((j + 1:Nat):Int) by omega,cD _ @A] at γ;refine iQ (θ.get ζ) γ (by rw[ak,ak,qo,MX,hJ];omega) fun δ H6 f6 s6 e6=>?_;lia;refine iQ e6 (s6.get (θ.get (O.get ι))) (by rw[hE,ak,ak,qo,MX,PZ,hJ];omega) λD7 H7 f7 s7 Y=>?_;have Y:H7 D7=ag (.lst ((rows.take j++rows.drop (j + 1)++z1 m r).map V.str)):=by rw[Y,hh,hh,List.map_replicate]
  have wr:wt (z1 m r)<=2 * (r.length + 1):=by
   rcases(show m=0∨m=1∨m=2 by omega) with rfl | rfl | rfl
   ·exact N2 _
   ·show wt [r]<=_;rw[eE];show r.length + 1 + 0<=_;omega
   ·show wt [r,r]<=_;rw[eE,eE];show r.length + 1 + (r.length + 1 + 0)<=_;omega
  obtain⟨k1,k2⟩:=χ (rows.take j++rows.drop (j + 1)++z1 m r) (by rw[iq,iq];omega);lia;refine oH (SqL.of Y) k1 ?_;rw[iq,iq] at k2;exact q _ H7 (s1.trans (α.trans (Z.trans (O.trans (θ.trans (s6.trans s7)))))) @A
 dsimp only;refine eA (fy λe=>ε (by have:=V.int.inj e;omega)) ?_;lia;by_cases h5:wy=5
 ·dsimp only;refine eh (fZ (by rw[h5];rfl)) ?_;lia;refine xw @G (by rw[hJ];omega) λD2 H2 f2 α ρ=>?_;have lp:=GK r (vl " ");generalize NH r (vl " ")=pt at ρ lp;have lq:(vl "sum q9q = ").length=10:=by decide +kernel
  lia;intro D3 H3 L Z ι;have η:=Z.get (α.get e1);lia;intro π H4 ξ O ζ;rw[cT] at ζ;lia;refine iQ ζ (O.get ι) (by rw[ak,qo,M0,hJ];omega) λD5 H5 ν θ γ=>?_;have a8:=θ.get (O.get η);lia;intro δ H6 f6 s6 e6;rw[cD _ @A] at e6;refine iQ (s6.get γ) e6 (by rw[hE,ak,ak,qo,MX,M0,hJ];omega) λD7 H7 f7 s7 Y=>?_;have Y:H7 D7=ag (.lst ((rows.take j++[vl "sum q9q = "++pt.2.2]++rows.drop j).map V.str)):=by rw[Y,hh,hh];rfl
  have wr:wt [vl "sum q9q = "++pt.2.2]<=M + 12:=by
   rw[eE,rA,lq];show 10 + pt.2.2.length + 1 + 0<=_;omega
  obtain⟨k1,k2⟩:=χ (rows.take j++[vl "sum q9q = "++pt.2.2]++rows.drop j) (by rw[iq,iq];omega);lia;refine oH (SqL.of Y) k1 ?_;rw[iq,iq] at k2;exact q _ H7 (s1.trans (α.trans (Z.trans (O.trans (θ.trans (s6.trans s7)))))) @A
 dsimp only;refine eA (fy λe=>h5 (by have:=V.int.inj e;omega)) ?_;lia;obtain⟨p,φ,a4⟩:=cb (c:=o) (m:=(z.length:Int) + 1) @A;rw[φ];have sl:∀lo hi,(Qg z lo hi).length<=z.length:=λlo hi=>Txt.slice_le z lo hi;by_cases h6:wy=6
 ·dsimp only;refine eh (fZ (by rw[h6];rfl)) ?_;have t1:=sl gs (ag (p:Int));have t2:=sl (ag (p:Int)) gs;lia;obtain⟨m,hm,lm⟩:=cb (c:=n / 8) (m:=10) @C;rw[hm]
  obtain⟨d,hd⟩:∃d,(vl " \n=09azqA_").cps.toList[m]? =ag d:=by
   have hl:(vl " \n=09azqA_").cps.toList.length=10:=by decide +kernel
   exact⟨_,c' @A⟩
  refine Gk @G (c6 hd) ?_;have ld:(⟨#[d]⟩:ic).length=1:=rfl;have a5:=rA (Qg z gs (ag (p:Int))) ⟨#[d]⟩;lia;exact q _ H1 s1 (by rw[rA,rA];omega)
 ·dsimp only;refine eA (fy λe=>h6 (by have:=V.int.inj e;omega)) ?_;have t1:=sl gs (ag (p:Int));have t2:=sl (ag ((p:Int) + 1)) gs;lia;exact q _ H1 s1 (by rw[rA];omega)
end
def F8:Sp:=λvs H Q _=>∃(i s u o:eH) (rs:cc Rw) (qs:cc Qs) (N:Nt),vs=[.ref i,.ref s,.ref u,.ref o]/\Hnd H i s u o rs qs N/\Gn N/\∀(t O L ψ π:eH) (H2:Hp) (rs:cc Rw) (qs:cc Qs),Same H H2->TldA H2 t O L ψ π rs qs N->Q (.ref t) H2
theorem vA (T:Tx K mg a):FnOk P w K mg base CX0 1 a.dW a.rj ["_law_ins","_law_sums","_law_stores","_law_outs"] F8:=by
 refine T.jE.1.okA vc λb0 A outer s H vs Q E hr h=>?_;obtain⟨i,s,u,o,rs,qs,N,rfl,hn,g,q⟩:=h;have li:=g.li;have ls:=g.ls;have lt:=g.lt;have lo:=g.lo;have hi:=hn.i;have hs:=hn.s;have Z:=hn.t;have ho:=hn.o;refine⟨_,((aq (aJ (bN (aa (aX (bX (K:=K) rfl) @D T.gx qR (aa (pv 0) ae)) (aa (bq (osc:=ai jl) (ON:=["_law_ins","_law_sums","_law_stores","_law_outs"]) (N:=n22) (n:=2) (fx:=[]) rfl rfl rfl @G (aM (K:=K) rfl (pv 1)) (yZ (iG (aQ @C) (iG (aQ @C) ud))) (λ_ _ _ _ _=>⟨(tN (K:=K) (n:=2) rfl rfl (a9 (av (i:=0) (show oe (n22:A6) from by decide +kernel) rfl @E) (a9 (av (i:=1) (show oe (n22:A6) from by decide +kernel) rfl @E) fO))),bp,(bN (aa (pv 0) (aa (aX (dw (K:=K) rfl) @D T.iY M4 (aa (pv 1) ae)) ae)))⟩)) (aa (aX (bX (K:=K) rfl) @D T.gx qR (aa (pv 2) ae)) (aa (aX (bX (K:=K) rfl) @D T.gx qR (aa (pv 3) ae)) ae)))))))),aN (σ':=[ag _,ag _,ag _,ag _]) rfl ?_⟩;lia;intro D1 H1 f1 s1 e1;have O:=hn.same s1;have a0:=O.s;lia;intro χ ρ;refine aL (xs:=rs.map λr=>V.ref r.1) (λi ys H'=>∃rs':cc Rw,ys=rs'.map (λr=>V.ref r.1)/\rs'.map (·.2.2)=(rs.take i).map (·.2.2)/\RwK H' rs'/\Same H1 H'/\H' χ=ag (.lst ys)) ⟨[],rfl,rfl,λ_ h=>ik h @F,bA ρ,au⟩ (λi ys H' _ ⟨_,_,_,_,s',_⟩=>SqL.of (s'.get a0)) ?_ ?_
 ·rintro j y ys H' hy ⟨rs',rfl,α,hk,s',eD⟩;obtain⟨r,θ,rfl⟩:=aR hy;have a8:=(b'.mp θ).1;have hm:=hA θ;have er:=s'.get (O.sr r hm).1;have ew:=s'.get (O.sr r hm).2;have a5:rs'.length=j:=by have:=K' Nz α;rw[ak,ak,qo] at this;omega
  lia;intro tw b2 η ζ a4;lia;intro tr b1 ε β a3;have ω:tr≠χ:=λz=>(by rw[z,ζ.get eD] at ε;cases ε);have φ:tw≠χ:=λz=>(by rw[z,eD] at η;cases η);have τ:=β.get (ζ.get eD);refine⟨τ,by rw[ak];exact bG (by have:=K' Nz hn.es;rw[ak] at this;omega),rs'++[(tr,tw,r.2.2)],by rw[hh];rfl,by rw[hh,α,take_succ θ,hh];rfl,fun υ h2=>?_,λb ob e=>?_,au⟩
  ·rcases lx.mp h2 with h2 | h2
   ·exact((hk.same ζ).same β).updL τ (λb ob n e=>by rw[ar n];exact e) υ h2
   ·rw[hC] at h2;subst h2;exact⟨by rw[ar ω];exact a3,by rw[ar φ];exact β.get a4⟩
  ·rw[ar (ao e ρ)];exact β.get (ζ.get (s'.get e))
 ·rintro ys H2 ⟨rs',rfl,α,hk,ο,a2⟩;rw[ak,mu,hn.es] at α;have a6:=ο.get O.t;have a1:=ο.get O.o;lia;intro ψ H3 L s3 e3;have a7:=s3.get a1;lia;intro π H4 ξ s4 e4;lia;intro t5 H5 ν s5 γ;have ι:=s4.trans s5;have Y:=s3.trans ι;exact q t5 D1 χ ψ π H5 rs' qs (s1.trans (ο.trans Y)) ⟨γ,Y.get (ο.get e1),Y.get a2,hk.same Y,α,ι.get e3,fun δ m=>Y.get (ο.get (O.tr δ m)),hn.et,s5.get e4⟩
def F9:Sp:=λvs H Q _=>∃(i s u o:eH) (rs:cc Rw) (qs:cc Qs) (N:Nt),vs=[.ref i,.ref s,.ref u,.ref o]/\Hnd H i s u o rs qs N/\Gn N/\∀(H2:Hp),Same H H2->Q (.str (txtN N)) H2
theorem oM (T:Tx K mg a):FnOk P w K mg base CX0 1 a.dX a.rm ["_law_ins","_law_sums","_law_stores","_law_outs"] F9:=by
 refine T.il.1.okA gv λa6 A outer s H vs Q E hr h=>?_;obtain⟨i,s,u,o,rs,qs,N,rfl,hn,g,q⟩:=h;have li:=g.li;have ls:=g.ls;have lt:=g.lt;have lo:=g.lo;have hi:=hn.i;have hs:=hn.s;have Z:=hn.t;have ho:=hn.o;have fm:=kG g;have τ:=mQ g
 refine⟨_,((af (eP (osc:=ai fq) (ON:=n23) (N:=n20) (n:=1) (fx:=[]) (i:=4) gv.nd rfl rfl rfl rfl rfl rfl @G (aM (K:=K) rfl (pv 0)) (aQ @C) (λ_ _ _ _ _=>⟨(av (i:=0) (show oe (n20:A6) from by decide +kernel) rfl @E),bp,(aE cH aD (pv 0))⟩))
  (af (eO MY rfl (aM (K:=K) rfl (pv 1)) (kW rfl (a9 (av (i:=5) gv.nd rfl @E) (a9 (av (i:=6) gv.nd rfl @E) fO))) (aq (bB (bW (K:=K) rfl rx Ni Ng gy (pv 4) (aa (bW (K:=K) rfl ri Nc Nb (iF (K:=K) rfl) aD (aa (aE dM (bC (aa aD (aa (pv 5) (aa aD ae)))) (aX (bX (K:=K) rfl) @D T.gx qR (aa (pv 6) ae))) ae)) ae)))))
  (af (aO (i:=4) gv.nd rfl @E (aE dM (pv 4) (bq (osc:=ai fq) (ON:=n23) (N:=n24) (n:=2) (fx:=[]) rfl rfl rfl @G (aM (K:=K) rfl (pv 2)) (yZ (iG (aQ @C) (iG (aQ @C) ud))) (λ_ _ _ _ _=>⟨(tN (K:=K) (n:=2) rfl rfl (a9 (av (i:=0) (show oe (n24:A6) from by decide +kernel) rfl @E) (a9 (av (i:=1) (show oe (n24:A6) from by decide +kernel) rfl @E) fO))),bp,(aE cH (aE cH (aE cH aD (pv 0)) aD) (pv 1))⟩))))
  (aq (aJ (bW (K:=K) rfl ri Nc Nb (iF (K:=K) rfl) aD (aa (aE dM (pv 4) (bq (osc:=ai fq) (ON:=n23) (N:=n20) (n:=1) (fx:=[]) rfl rfl rfl @G (aM (K:=K) rfl (pv 3)) (aQ @C) (λ_ _ _ _ _=>⟨(av (i:=0) (show oe (n20:A6) from by decide +kernel) rfl @E),bp,(aE cH aD (pv 0))⟩))) ae)))))))),aN (σ':=[ag _,ag _,ag _,ag _,gs,gs,gs]) rfl ?_⟩
 lia;intro D1 η;refine aL (xs:=N.ins.map V.str) (λi ys H'=>Cs (λi ys=>ys=((N.ins.take i).map λz=>rowT [("in":ic),z]).map V.str) H D1 i ys H') (Cs.zero η rfl) (λi ys H' _ c=>SqL.of (c.same.get hi)) (λj x ys H' χ c=>?_) (λys H1 c=>?_)
 ·obtain⟨z,hz,rfl⟩:=aR χ;lia;have lz:=((fm _ (pT _ (pT _ (pT _ (mw.mpr ⟨z,hA hz,rfl⟩))))).len.2 z @F);have ζ:=(b'.mp hz).1;refine⟨by rw[show(vl "in ").length=3 by decide +kernel,hJ];omega,Cs.put η c.same c.at' c.len @A ?_⟩;rw[c.pv,take_succ hz,hh,hh,IS];rfl
 ·have e1:=c.at';rw[c.pv] at e1;have s1:=c.same;clear c;lia;rw[ak,mu] at e1;refine kJ (xs:=rs.map λr=>V.ref r.1) (λj σ H'=>∃v1 π,σ=[ag (.ref i),ag (.ref s),ag (.ref u),ag (.ref o),ag (.ref D1),v1,π]/\Same H H'/\H' D1=ag (.lst (((N.ins.map λz=>rowT [("in":ic),z])++(N.sums.take j).map λr=>rowT (("sum":ic)::r.1::("=":ic)::r.2)).map V.str))) ⟨gs,gs,rfl,s1,by rw[List.take_zero,Qo,z5];exact e1⟩ (λj σ H' _ ⟨_,_,_,s',_⟩=>SqL.of (s'.get hs)) ?_ ?_
  ·rintro j y σ H' hy ⟨v1,π,rfl,s',e'⟩;obtain⟨r,O,rfl⟩:=aR hy;have ζ:=(b'.mp O).1;have hm:=hA O;have er:=s'.get (hn.sr r hm).1;have ew:=s'.get (hn.sr r hm).2;have ε:N.sums[j]? =ag r.2.2:=by rw[<-hn.es,hH,O];rfl
   have a4:=g.lw _ (hA ε);have ο:=(fm _ (pT _ (pT _ (p' _ (mw.mpr ⟨r.2.2,hA ε,rfl⟩))))).len;lia;intro ψ H3 L υ e3;have a5:=υ.get ew;lia;intro D4 H4 f4 s4 e4;refine iQ (s4.get e3) e4 (by rw[ak,hJ];simp;omega) λD5 H5 ν s5 γ=>?_;have a3:H5 D5=ag (.lst ((("sum":ic)::r.2.2.1::("=":ic)::r.2.2.2).map V.str)):=γ
   have β:∀(l:A6),(∀w∈l,w.length<=6)->(l.map (·.length)).sum<=l.length * 6:=λl=>by
    induction l with
    | nil=>intro _;simp
    | cons x l ih=>intro h;have:=ih λw hw=>h w (px _ hw);have:=h x ox;simp only[MU,PF,y1];omega
   have a1:=β _ ο.2;have ρ:=υ.trans (s4.trans s5);have a2:=ρ.get e';clear γ e4 e3;lia;refine oH (SqL.of a3) (by rw[iw];show _ + (("sum":ic)::r.2.2.1::("=":ic)::r.2.2.2).length * 1<=_;omega) ?_;rw[kB,iw];lia;refine gf a2 (by rw[ak,hE,ak,ak,qo,hJ];omega) λH6 θ=>?_;lia;refine⟨_,_,rfl,θ.same η (s'.trans ρ),?_⟩;rw[θ.at',take_succ ε,hh (l₂:=[r.2.2]),<-Pb,hh (l₂:=OW _ [r.2.2])];rfl
  ·rintro σ H2 ⟨v1,π,rfl,s2,e2⟩;rw[ak,show rs.length=N.sums.length by rw[<-hn.es,ak],mu] at e2;have a0:=s2.get Z;lia;intro ψ α;refine aL (xs:=qs.map λq=>V.ref q.1) (λi ys H'=>Cs (λi ys=>ys=((N.sts.take i).map λr=>rowT [("store":ic),r.1,("=":ic),r.2]).map V.str) H2 ψ i ys H') (Cs.zero α rfl) (λi ys H' _ c=>SqL.of (c.same.get a0)) (λj x ys H' χ c=>?_) (λys H3 c=>?_)
   ·obtain⟨r,O,rfl⟩:=aR χ;have er:=c.same.get (s2.get (hn.tr r (hA O)));have ι:N.sts[j]? =ag r.2:=by rw[<-hn.et,hH,O];rfl
    have ζ:=(b'.mp ι).1;have ο:=(fm _ (pT _ (p' _ (mw.mpr ⟨r.2,hA ι,rfl⟩)))).len.2;have l1:=ο r.2.1 @F;have l2:=ο r.2.2 @F;lia;have Y:(vl "store ").length=6:=by decide +kernel
    have z2:(vl " = ").length=3:=by decide +kernel
    refine⟨by rw[Y,hJ];omega,?_⟩;lia;refine⟨by rw[tD,Y,z2,hJ];omega,?_⟩;lia;refine⟨by rw[tD,tD,Y,z2,hJ];omega,Cs.put α c.same c.at' c.len @A ?_⟩;rw[c.pv,take_succ ι,hh,hh,Aj];rfl
   ·have e3:=c.at';rw[c.pv,ak,show qs.length=N.sts.length by rw[<-hn.et,ak],mu] at e3;have υ:=c.same;clear c;refine iQ (υ.get e2) e3 (by rw[ak,ak,ak,hE,ak,ak,hJ];omega) λD4 H4 f4 s4 e4=>?_;rw[<-hh] at e4;have φ:=s2.trans (υ.trans s4);have ω:=φ.get ho;lia;intro D5 ξ;refine aL (xs:=N.outs.map V.str) (λi ys H'=>Cs (λi ys=>ys=((N.outs.take i).map λz=>rowT [("out":ic),z]).map V.str) H4 D5 i ys H') (Cs.zero ξ rfl) (λi ys H' _ c=>SqL.of (c.same.get ω)) (λj x ys H' χ c=>?_) (λys H5 c=>?_)
    ·obtain⟨z,hz,rfl⟩:=aR χ;lia;have lz:=(fm _ (p' _ (mw.mpr ⟨z,hA hz,rfl⟩))).len.2 z @F;have ζ:=(b'.mp hz).1;refine⟨by rw[show(vl "out ").length=4 by decide +kernel,hJ];omega,Cs.put ξ c.same c.at' c.len @A ?_⟩;rw[c.pv,take_succ hz,hh,hh,Gu];rfl
    ·have γ:=c.at';rw[c.pv,ak,mu] at γ;have s5:=c.same;clear c;refine iQ (s5.get e4) γ (by simp only[ak,hE];rw[hJ];omega) fun δ H6 f6 s6 e6=>?_;rw[<-hh] at e6
     have hR:((N.ins.map λz=>rowT [("in":ic),z])++(N.sums.map λr=>rowT (("sum":ic)::r.1::("=":ic)::r.2)))++(N.sts.map λr=>rowT [("store":ic),r.1,("=":ic),r.2])++(N.outs.map λz=>rowT [("out":ic),z])=(jm N).map rowT:=by
      unfold jm;simp only[hh,qa];rfl
     rw[hR] at e6
     have β:∀(l:cc A6),(∀r∈l,Fm r)->((l.map rowT).map (·.length)).sum<=l.length * 189:=λl=>by
      induction l with
      | nil=>intro _;simp
      | cons x l ih=>
        intro h;have:=ih λw hw=>h w (px _ hw);have ο:=(h x ox).len;have b2:=tK ο.2;have b3:x.length * 7<=27 * 7:=Q9 7 ο.1;simp only[MU,PF,y1];omega
     have a1:=β (jm N) fm;lia;refine oH (SqL.of e6) (by rw[jT,ak];show _ + (jm N).length * 1<=_;omega) ?_;rw[kB,jT];exact q _ (φ.trans (s5.trans s6))
end
section
local macro_rules | `(tactic| walk_at "l2step") =>`(tactic| first | ((with_reducible refine' zh ?a ?b ?_);(case a=>walk_at "l2side");(case b=>walk_at "l2side")) | ((with_reducible refine' uE ?e ?a ?_);(case e=>walk_at "l2hp");(case a=>walk_at "l2side")))
theorem tL {K:a'} {H:Hp} {D:eH} {ws:A6} (h:H D=ag (.lst (ws.map V.str))):Rep K H (.ref D) (.lst (ws.map Dt.str)):= .lst (SqL.of h) (by rw[ak,ak]) (pZ V.str Dt.str (λz=> .str z) ws)
theorem yi:∀ws:A6,dH (ws.map Dt.str)=0
 | []=>rfl
 | w::ws=>by rw[MU,dH,yi ws];rfl
theorem y4 (ws:A6):eqD (.lst (ws.map Dt.str)) (.lst [])=decide (ws=[]):=by
 cases ws with
 | nil=>rfl
 | cons w l=>rw[fy @F];rfl
theorem tQ (T:Tx K mg a):FnOk P w K mg base CX0 2 a.dn a.oP ["_law_cell_here","_law_start","_law_names","_law_digits"] C3:=by
 refine T.iM.1.okA dy λa4 A outer s H vs Q E ο h=>?_;obtain⟨c,st,l,zs,dg,rfl,a1,a0,hl,τ,q⟩:=h;have ξ:=jq ο;have δ:(((zs.map V.str).length:Nat):Int)=(zs.length:Int):=by rw[ak]
 refine⟨_,((af (bE (dE (pv 3)) (af (aO (i:=4) dy.nd rfl @E (aE bJ (pv 0) (aE yS (aE cn (aB (aF (K:=K) rfl) @D T.cK kf (aa (pv 2) ae)) ah) ah)))
  (af (aO (i:=5) dy.nd rfl @E (bC ae))
  (af (eO MY rfl (eQ @D T.jx (aa ah ae)) (av (i:=6) dy.nd rfl @E) (nW (bE (ax nY (aE bJ (pv 4) (aE cn (aB (aF (K:=K) rfl) @D T.cK kf (aa (pv 2) ae)) ah)) ah (aP _)) (aq (bB (bW (K:=K) rfl rx Ni Ng gy (pv 5) (aa (!j (ay (K:=K) rfl) (pv 2) (aE vx (aE bJ (pv 4) (aE cn (aB (aF (K:=K) rfl) @D T.cK kf (aa (pv 2) ae)) ah)) ah)) ae)))) aH)
  (aq (aO (i:=4) dy.nd rfl @E (aE g9 (pv 4) (aE cn (aB (aF (K:=K) rfl) @D T.cK kf (aa (pv 2) ae)) ah))))))
  (aq (aJ (pv 5)))))) aH)
  (af (aO (i:=7) dy.nd rfl @E (aE bJ (aw (cL T) ο T.bI T.bo (aa (pv 0) (aa (pv 1) ae))) ah))
  (aq (aJ (bq (osc:=ai iB) (ON:=["_law_cell_here","_law_start","_law_names","_law_digits","_law_left","_law_found","_law_k","_law_many"]) (N:=n28) (n:=1) (fx:=[2,0,1]) rfl rfl rfl @G (eQ @D T.jx (aa (pv 7) ae)) (aQ @C) (λ_ _ _ _ _=>⟨(av (i:=0) (show oe (n28:A6) from by decide +kernel) rfl @E),(eN (ax (j9 (K:=K) rfl ξ) (pv 1) (bC ae) (aP _))),(!j (ay (K:=K) rfl) (pv 1) (aE bJ (aw (cL T) ο T.bI T.bo (aa (pv 2) (aa (aE cn (aE cn (pv 3) ah) (pv 0)) ae))) (aB (aF (K:=K) rfl) @D T.cK kf (aa (pv 1) ae))))⟩))))))),aN (σ':=[ag _,ag _,ag _,ag _,gs,gs,gs,gs]) rfl ?_⟩
 have ε:(0:Int) < ((((zs.map V.str).length:Nat):Int) + 1) ^ (4:Int).toNat:=Int.pow_pos @A;have ζ:(0:Int) < (((zs.map V.str).length:Nat):Int) + 1:=by omega
 lia;cases dg with
 | true=>
   lia;generalize c % ((((zs.map V.str).length:Nat):Int) + 1) ^ (4:Int).toNat=left;clear ε;intro D H1 ω ψ e1;have hl1:=ψ.get hl;lia;refine ib (λi σ H'=>∃(v:ov V) (left:Int) (ws:A6),σ=[ag (V.int c),ag (V.int st),ag (V.ref l),ag (V.bl true),ag (V.int left),ag (V.ref D),v,gs]/\Same H H'/\H' D=ag (.lst (ws.map V.str))/\ws.length<=i/\∀w∈ws,w∈zs) ⟨gs,left,[],rfl,ψ,e1,qb _,λ_ h=>ik h @F⟩ ?_ ?_
   ·rintro i σ H' hi ⟨v,left,ws,rfl,s',α,lw,Y⟩;have η:=s'.get hl;have a3:i < 4:=hi;lia;refine L2.s_cut (fun σ H2=>∃ν:A6,σ=[ag (V.int c),ag (V.int st),ag (V.ref l),ag (V.bl true),ag (V.int left),ag (V.ref D),ag (V.int (0 + (i:Int))),gs]/\Same H H2/\H2 D=ag (.lst (ν.map V.str))/\ν.length<=i + 1/\∀w∈ν,w∈zs) ?_ ?_
    ·have r0:=M8 left (Int.ne_of_gt ζ);have r1:=MS left ζ;lia;by_cases γ:0 < left % ((((zs.map V.str).length:Nat):Int) + 1)
     ·refine eh (fZ γ) ?_;obtain⟨j,π⟩:=O7 (show 0<=left % ((((zs.map V.str).length:Nat):Int) + 1) - 1 by omega);have L:j < zs.length:=by omega
      have υ:atI (zs.map V.str) (left % ((((zs.map V.str).length:Nat):Int) + 1) - 1)=ag (.str zs[j]):=by
       rw[π];exact c6 (by rw[hH,c' L];rfl)
      lia;refine gf α (by rw[ak,hJ];omega) λH3 χ=>?_;lia;refine⟨ws++[zs[j]],rfl,λb o e=>χ.oth _ _ (ao e ω) (s'.get e),by rw[χ.at',hh];rfl,by rw[hE];show _ + 1<=_;omega,λw O=>?_⟩;rcases lx.mp O with h | h
      ·exact Y w h
      ·rw[hC.mp h];exact Ny L
     ·refine eA (fy γ) ?_;lia;exact⟨ws,rfl,s',α,@A,Y⟩
    ·rintro σ H2 ⟨ν,rfl,β,Z,θ,O⟩;have hl2:=β.get hl;lia;exact⟨_,_,ν,rfl,β,Z,θ,O⟩
   ·rintro σ H' ⟨v,left,ws,rfl,s',α,lw,Y⟩;lia;exact q D H' ws ω s' α lw Y
 | false=>
   have ρ:=M8 (mixV c st) (show(5:Int)≠0 by decide);have m1:=MS (mixV c st) (show(0:Int) < 5 by decide);lia;intro D φ;refine kK (λi ys H'=>∃ws:A6,ys=ws.map V.str/\Same H H'/\H' D=ag (.lst ys)/\ws.length<=i/\∀w∈ws,w∈zs) ⟨[],rfl,bA φ,au,qb _,λ_ h=>ik h @F⟩ ?_ ?_
   ·rintro i ys H' hi ⟨ws,rfl,s',α,lw,Y⟩;have η:=s'.get hl;lia;intro L2 H2 f2 β e2;have hl2:=β.get η;have Z:=β.get α;refine lZ (tL hl2) (tL (ws:=[]) e2) (by rw[depD,yi];decide) ?_;rw[show(OW Dt.str [])=[] from rfl,y4];by_cases hz:zs=[]
    ·rw[fZ hz];lia;exact⟨s'.trans β,Z,@A,Y⟩
    ·rw[fy hz];have a2:0 < zs.length:=NL.mpr hz;have ι:(0:Int) < (((zs.map V.str).length:Nat):Int):=by omega
     lia;obtain⟨j,π,L⟩:=cb (c:=mixV c (st + 1 + (0 + (i:Int)))) ι;have L:j < zs.length:=by omega
     have υ:atI (zs.map V.str) (mixV c (st + 1 + (0 + (i:Int))) % (((zs.map V.str).length:Nat):Int))=ag (.str zs[j]):=by
      rw[π];exact c6 (by rw[hH,c' L];rfl)
     lia;refine⟨Z,by rw[ak];exact bG @A,ws++[zs[j]],by rw[hh];rfl,λb o e=>?_,au,by rw[hE];show _ + 1<=_;omega,λw O=>?_⟩
     ·rw[ar (ao e φ)];exact β.get (s'.get e)
     ·rcases lx.mp O with h | h
      ·exact Y w h
      ·rw[hC.mp h];exact Ny L
   ·rintro ys H' ⟨ws,rfl,s',α,lw,Y⟩;exact q D H' ws φ s' α @A Y
end
section
theorem uD {H:Hp} {Q:VK} {E:XK} {c k:Int} (L:0<=k) (h1:k < 40) (q:∀H2,Same H H2->Q (.str (nmf c k)) H2):sC [.int c,.int k] H Q E:=⟨c,k,rfl,L,h1,q⟩
local macro_rules | `(tactic| walk_at "l2step") =>`(tactic| first | (with_reducible refine bF ?_) | ((with_reducible refine' zh ?a ?b ?_);(case a=>omega);(case b=>omega)) | ((with_reducible refine' uE ?e ?a ?_);(case e=>walk_at "l2hp");(case a=>walk_at "l2side")))
theorem xJ (T:Tx K mg a):FnOk P w K mg base CX0 3 a.fW a.sT ["_law_script","_law_start","_law_most"] (C6 K):=by
 have χ:=@cL P w K mg base a T;refine T.kQ.1.okA bc λq9 A outer s H vs Q E τ h=>?_;obtain⟨p,ns,st,mo,rfl,hS,q1,q2,q⟩:=h;have m3:=jq τ
 refine⟨_,((af (aO (i:=3) bc.nd rfl @E (aw (iE T) τ T.jA T.d5 (aa (pv 0) (aa (pv 1) ae))))
  (af (aO (i:=4) bc.nd rfl @E (bC (aa (aE bJ (aw χ τ T.bI T.bo (aa (pv 3) (aa ah ae))) ah) (aa (aE bJ (aw χ τ T.bI T.bo (aa (pv 3) (aa ah ae))) (aE cn (pv 2) ah)) (aa (aE bJ (aw χ τ T.bI T.bo (aa (pv 3) (aa ah ae))) (aE cn (pv 2) ah)) ae)))))
  (af (eP (osc:=ai gR) (ON:=n25) (N:=n21) (n:=1) (fx:=[3]) (i:=5) bc.nd rfl rfl rfl rfl rfl rfl @G (eQ @D T.jx (aa (!j (ay (K:=K) rfl) (pv 4) ah) ae)) (aQ @C) (λ_ _ _ _ _=>⟨(av (i:=0) (show oe (n21:A6) from by decide +kernel) rfl @E),bp,(aw (iD T) τ T.jz T.d4 (aa (pv 1) (aa (pv 0) ae)))⟩))
  (af (eP (osc:=ai gR) (ON:=n25) (N:=n21) (n:=1) (fx:=[3]) (i:=6) bc.nd rfl rfl rfl rfl rfl rfl @G (eQ @D T.jx (aa (!j (ay (K:=K) rfl) (pv 4) ah) ae)) (aQ @C) (λ_ _ _ _ _=>⟨(av (i:=0) (show oe (n21:A6) from by decide +kernel) rfl @E),bp,(aw (iD T) τ T.jz T.d4 (aa (pv 1) (aa (aE cn ah (pv 0)) ae)))⟩))
  (af (aO (i:=7) bc.nd rfl @E (aE dM (pv 5) (pv 6)))
  (af (aO (i:=8) bc.nd rfl @E (bC ae))
  (af (eO MY rfl (eQ @D T.jx (aa (!j (ay (K:=K) rfl) (pv 4) ah) ae)) (av (i:=9) bc.nd rfl @E) (af (aO (i:=10) bc.nd rfl @E (aw (tQ T) τ T.vV T.iM (aa (aw (iE T) τ T.jA T.d5 (aa (pv 0) (aa (aE cn (aE cn (pv 1) ah) (pv 9)) ae))) (aa ah (aa (pv 7) (aa (ju gN (aE bJ (pv 3) ah) ah (aP _)) ae))))))
  (af (bB (bW (K:=K) rfl rx Ni Ng gy (pv 8) (aa (bN (aa (aw (iD T) τ T.jz T.d4 (aa (pv 3) (aa (aE cn ah (pv 9)) ae))) (aa (pv 10) ae))) ae)))
  (aq (aO (i:=7) bc.nd rfl @E (aE dM (pv 7) (bC (aa (aw (iD T) τ T.jz T.d4 (aa (pv 3) (aa (aE cn ah (pv 9)) ae))) ae))))))))
  (af (aO (i:=11) bc.nd rfl @E (aE bJ (aw χ τ T.bI T.bo (aa (pv 3) (aa ah ae))) (aE cn (aB (aF (K:=K) rfl) @D T.cK kf (aa (pv 8) ae)) ah)))
  (af (aO (i:=8) bc.nd rfl @E (aE dM (bQ (cB (K:=K) rfl) (pv 8) (cF (pv 11)) cG) (Au @D @D T.gx T.AI rfl (bQ (cB (K:=K) rfl) (pv 8) cG (cF (pv 11))))))
  (af (aO (i:=12) bc.nd rfl @E (bC ae))
  (af (eO MY rfl (pF (K:=K) rfl @D T.hX (pv 6)) (kW rfl (a9 (av (i:=9) bc.nd rfl @E) (a9 (av (i:=13) bc.nd rfl @E) fO))) (aq (bB (bW (K:=K) rfl rx Ni Ng gy (pv 12) (aa (bN (aa (pv 13) (aa (!j (ay (K:=K) rfl) (pv 7) (aE bJ (aw χ τ T.bI T.bo (aa (pv 3) (aa (aE cn ah (pv 9)) ae))) (aB (aF (K:=K) rfl) @D T.cK kf (aa (pv 7) ae)))) ae))) ae)))))
  (af (aO (i:=14) bc.nd rfl @E (bC ae))
  (nW (bE (ax (j9 (K:=K) rfl m3) (pv 7) (bC ae) (aP _)) (aq (eP (osc:=ai gR) (ON:=n25) (N:=["_law_k","_law_known","_law_cell_here"]) (n:=1) (fx:=[7,3]) (i:=14) bc.nd rfl rfl rfl rfl rfl rfl @G (eQ @D T.jx (aa (aE bJ (aw χ τ T.bI T.bo (aa (pv 3) (aa ah ae))) ah) ae)) (aQ @C) (λ_ _ _ _ _=>⟨(av (i:=0) (show oe (["_law_k","_law_known","_law_cell_here"]:A6) from by decide +kernel) rfl @E),bp,(!j (ay (K:=K) rfl) (pv 1) (aE bJ (aw χ τ T.bI T.bo (aa (pv 2) (aa (aE cn ah (pv 0)) ae))) (aB (aF (K:=K) rfl) @D T.cK kf (aa (pv 1) ae))))⟩))) aH)
  (aq (aJ (bN (aa (pv 5) (aa (pv 8) (aa (pv 12) (aa (pv 14) ae))))))))))))))))))))),aN (σ':=[ag _,ag _,ag _,gs,gs,gs,gs,gs,gs,gs,gs,gs,gs,gs,gs]) rfl ?_⟩
 lia;generalize cell ns ((st:Nat):Int)=c;intro Z H1 f1 s1 e1;obtain⟨ni,g4,l9⟩:=cb (c:=mixV c 1) (m:=4) @C;obtain⟨nt,g3,l8⟩:=cb (c:=mixV c 2) (m:=(mo:Int) + 1) @A;obtain⟨nz,g1,l7⟩:=cb (c:=mixV c 3) (m:=(mo:Int) + 1) @A;rw[g4,g3,g1] at e1;have η:ni<=3:=by omega
 have g2:nt<=12:=by omega
 have g0:nz<=12:=by omega
 have f3:nz<=mo:=by omega
 have h4:=Same.seq s1 hS;clear g4 g3 g1 l9 l8 l7;lia;intro D2 c5;refine kK (λi ys H'=>Cs (λi ys=>ys=(nms c 0 i).map V.str) H1 D2 i ys H') (Cs.zero c5 rfl) (λi ys H' hi cs=>?_) (λys H2 cs=>?_)
 ·have q5:i < 3:=by omega
  lia;refine uD @A @A λH3 s3=>?_;refine Cs.put c5 (cs.same.trans s3) (s3.get cs.at') cs.len @A ?_;rw[cs.pv,mX,hh,show(0:Int) + (i:Int)=((0 + i:Nat):Int) by push_cast;rfl];rfl
 ·have e2:=cs.at';rw[cs.pv,MW] at e2;have υ:=cs.same;clear cs;have a0:=υ.get e1;lia;intro D3 c4;refine kK (λi ys H'=>Cs (λi ys=>ys=(nms c 6 i).map V.str) H2 D3 i ys H') (Cs.zero c4 rfl) (λi ys H' hi cs=>?_) (λys H3 cs=>?_)
  ·have m5:i < 12:=by omega
   lia;refine uD @A @A λH4 s4=>?_;refine Cs.put c4 (cs.same.trans s4) (s4.get cs.at') cs.len @A ?_;rw[cs.pv,mX,hh,show(6:Int) + (0 + (i:Int))=((6 + i:Nat):Int) by push_cast;omega];rfl
  ·have e3:=cs.at';rw[cs.pv,MW] at e3;have a8:=cs.same;clear cs;lia;refine iQ (a8.get e2) e3 (by rw[ak,ak,dh,dh,hJ];omega) λD4 H4 f4 s4 e4=>?_;rw[<-hh] at e4;have δ:=υ.trans (a8.trans s4);have k9:=δ.get e1;have k6:=s4.get (a8.get e2);have O:=s4.get e3;have c2:=Same.seq δ h4;have b2:=s1.trans δ;clear a0 c5 c4 f1 f4 υ a8 s4 δ e1 e2 e3 h4 s1;lia;intro D5 H5 ν s5 γ;have o5:=s5.get k9;have l1:=b2.trans s5;have m8:H D5=none:=b2.free ν;lia;refine ib (λi σ H'=>∃(ε ω:ov V) (ι:eH) (rs:cc Rw),σ=[ag (V.ref p),ag (nat st),ag (nat mo),ag (V.int c),ag (V.ref Z),ag (V.ref D2),ag (V.ref D3),ag (V.ref ι),ag (V.ref D5),ε,ω,gs,gs,gs,gs]/\Same H4 H'/\H' ι=ag (.lst ((nms c 0 ni++nms c 6 nt++nms c 22 i).map V.str))/\ι≠D5/\H' D5=ag (.lst (rs.map λr=>V.ref r.1))/\RwL H' rs/\(∀r∈rs,r.2.1≠D5)/\Mk c ni nt (rs.map (·.2.2))/\rs.length=i) ⟨gs,gs,D4,[],rfl,s5,by rw[show nms c 22 0=[] from rfl,z5];exact s5.get e4,ao e4 ν,γ,λ_ h=>ik h @F,λ_ h=>ik h @F,Mk.nil ..,rfl⟩ ?_ ?_
   ·rintro i σ H' hi ⟨ε,ω,ι,rs,rfl,s',ek,nk,eD,rl,nr,mk,lr⟩;have m5:i < 12:=by omega
    have c3:=Same.seq s' c2;lia;refine⟨_,10,ι,_,_,rfl,@C,@C,ek,by rw[hE,hE,dh,dh,dh];omega,λDw H6 ws f6 s6 e6 ξ hw=>?_⟩;have b5:=s6.get eD;lia;refine uD @A @A λH7 s7=>?_;lia;intro tr H8 f8 s8 e8;have Y:=s7.trans s8;have b4:=Y.get b5;have i0:=Y.get (s6.get ek);have h6:=Y.get e6;lia;refine gf b4 (by rw[ak,hJ];omega) λH9 u9=>?_;have nw:Dw≠D5:=(ao eD f6).symm;have a2:Same H4 H9:=λb o e=>u9.oth _ _ (ao e ν) (Y.get (s6.get (s'.get e)));have a6:=u9.oth _ _ nk i0;have h7:=u9.oth _ _ (hU e8 b4 λz=>by cases z) e8;have n7:=u9.oth _ _ nw h6;have b3:RwL H9 rs:=λr τ=>⟨u9.oth _ _ (hU ((rl.same s6).same Y r τ).1 b4 λz=>by cases z) ((rl.same s6).same Y r τ).1,u9.oth _ _ (nr r τ) ((rl.same s6).same Y r τ).2⟩;have j0:=u9.at';clear u9 e8 h6 i0 b4 Y s7 s8 f8 b5 e6 c3;lia;refine uD @A @A λp6 b1=>?_;lia;intro l0 p1 m9 b0 d1;have a4:=b1.trans b0;refine iQ (a4.get a6) d1 (by rw[ak,hE,hE,dh,dh,dh,hJ];show _ + 1<=_;omega) λq0 d2 h5 υ a0=>?_;have a1:=a4.trans υ;have ei:(22:Int) + (0 + (i:Int))=((22 + i:Nat):Int):=by push_cast;omega
    rw[ei] at a0 h7
    have n8:(nms c 0 ni++nms c 6 nt++nms c 22 i).map V.str++[V.str (nmf c ((22 + i:Nat):Int))]=(nms c 0 ni++nms c 6 nt++nms c 22 (i + 1)).map V.str:=by
     rw[mX,<-Pb,hh (l₂:=[_])];rfl
    rw[n8] at a0;lia;refine⟨_,_,q0,rs++[(tr,Dw,nmf c ((22 + i:Nat):Int),ws)],rfl,a2.trans a1,a0,(ao (a4.get j0) h5).symm,by rw[a1.get j0,hh];rfl,λr τ=>?_,λr τ=>?_,?_,by rw[hE,lr];rfl⟩
    ·rcases lx.mp τ with h | h
     ·exact b3.same a1 r h
     ·rw[hC] at h;subst h;exact⟨a1.get h7,a1.get n7⟩
    ·rcases lx.mp τ with h | h
     ·exact nr r h
     ·rw[hC] at h;subst h;exact nw
    ·have lm:(rs.map (·.2.2)).length=i:=by rw[ak,lr]
     have:=mk.put (ws:=ws) ξ (by rw[lm];exact hw);rw[lm] at this;rw[hh];exact this
   ·rintro σ H' ⟨ε,ω,ι,rs,rfl,s',ek,nk,eD,rl,nr,mk,lr⟩;rw[MW] at lr;rw[MW] at ek;have θ:=s'.get k6;have k4:=s'.get O;have c3:=Same.seq s' c2;have d3:=b2.trans s';obtain⟨j,hj,q3⟩:=cb (c:=mixV c 4) (m:=(((rs.map λr=>V.ref r.1).length:Nat):Int) + 1) @A;have e0:(rs.map λr=>V.ref r.1).length=rs.length:=ak ..
    have h3:j<=rs.length:=by omega
    clear k9 k6 O e4 γ c2 b2 l1 s5 ν m8 o5;lia;rw[hj];intro D6 H6 f6 s6 e6;rw[nJ _ j (by rw[e0];exact h3),<-Qe] at e6;have b5:=s6.get eD;lia;refine Kn ?_;lia;intro D7 H7 f7 s7 e7;rw[uz _ j (by rw[e0];exact h3),<-Rl] at e7;refine⟨D7,_,rfl,SqL.of e7,λD8 f8=>?_⟩;rw[<-List.map_reverse];have s8:=bA (o:=HO.lst ((rs.take j).reverse.map λr=>V.ref r.1)) f8;have e8:upd H7 D8 (HO.lst ((rs.take j).reverse.map λr=>V.ref r.1)) D8=ag (HO.lst ((rs.take j).reverse.map λr=>V.ref r.1)):=au;generalize upd H7 D8 (HO.lst ((rs.take j).reverse.map λr=>V.ref r.1))=H8 at s8 e8 ⊢;refine iQ (s8.get (s7.get e6)) e8 (by rw[ak,ak,S8,MX,qo,hJ];omega) λD9 H9 f9 s9 e9=>?_;rw[<-hh] at e9;have a2:=s6.trans (s7.trans (s8.trans s9));have o2:=a2.get θ;have j1:=a2.get k4;have a6:=a2.get ek;have b3:=rl.same a2;have π:=d3.trans a2
    have perm:(rs.drop j++(rs.take j).reverse).Perm rs:=by
     refine Pq (Ra _ (List.reverse_perm _)) ?_;refine Pq RT ?_;rw[OD]
    generalize f0:rs.drop j++(rs.take j).reverse=rs' at e9 perm;have l3:RwL H9 rs':=λr τ=>b3 r (perm.mem_iff.mp τ);clear b3 rl s8 e8 e7 f7 f8 s7 e6 f6 s6 s9 f9 a2 θ k4 eD b5 nr nk s' d3 c3 ek f0;lia;intro ζ p6 n0 b1 o9;have j2:=b1.get j1;lia;refine .inl ⟨⟨_,SqL.of j2⟩,?_⟩;have lk:(nms c 0 ni++nms c 6 nt++nms c 22 nz).length=ni + nt + nz:=by rw[hE,hE,dh,dh,dh]
    generalize m4:nms c 0 ni++nms c 6 nt++nms c 22 nz=φ at a6 lk;refine um (xs:=(nms c 6 nt).map V.str) (λi σ H'=>∃(ε a7:ov V) (qs:cc Qs),σ=[ag (V.ref p),ag (nat st),ag (nat mo),ag (V.int c),ag (V.ref Z),ag (V.ref D2),ag (V.ref D3),ag (V.ref ι),ag (V.ref D9),ε,ω,ag (V.int j),ag (V.ref ζ),a7,gs]/\Same H9 H'/\H' ζ=ag (.lst (qs.map λq=>V.ref q.1))/\QsK H' qs/\qs.map (·.2.1)=nms c 6 i/\∀q∈qs,q.2.2∈φ) ⟨_,gs,[],rfl,b1,o9,λ_ h=>ik h @F,rfl,λ_ h=>ik h @F⟩ (λi σ H' _ ⟨_,_,_,_,s',_⟩=>SqL.of (s'.get j1)) ?_ ?_
    ·rintro i y σ H' pz H7 hy ⟨ε,a7,qs,rfl,s',eq,ρ,qn,qw⟩ fp s7 e7;obtain⟨z,hz,rfl⟩:=aR hy;have h0:=(b'.mp hz).1;rw[dh] at h0
     have ez:z=nmf c ((6 + i:Nat):Int):=by
      unfold nms at hz;rw[hH,Qk h0] at hz;exact(ui hz).symm
     have lq:qs.length=i:=by have:=K' Nz qn;rw[ak,dh] at this;exact this
     have q7:=s7.get (s'.get a6);have h8:(φ.map V.str).length=ni + nt + nz:=by rw[ak,lk]
     have ψ:=s7.get eq;lia;obtain⟨m,hm,β⟩:=cb (c:=mixV c (50 + (i:Int))) (m:=(((φ.map V.str).length:Nat):Int)) @A;have β:m < φ.length:=by rw[ak] at β;omega
     have m7:atI (φ.map V.str) (mixV c (50 + (i:Int)) % (((φ.map V.str).length:Nat):Int))=ag (.str φ[m]):=by
      rw[hm];exact c6 (by rw[hH,c' β];rfl)
     lia;intro tq H8 f8 s8 e8;lia;refine gf (s8.get ψ) (by rw[ak,hJ];omega) λr1 u9=>?_;lia;refine⟨_,_,qs++[(tq,z,φ[m])],rfl,λb o e=>u9.oth _ _ (ao e n0) (s8.get (s7.get (s'.get e))),by rw[u9.at',hh];rfl,?_,?_,λq' a3=>?_⟩
     ·intro q' a3;rcases lx.mp a3 with h | h
      ·exact((ρ.same s7).same s8).updL (s8.get ψ) u9.oth q' h
      ·rw[hC] at h;subst h;exact u9.oth _ _ (hU e8 (s8.get ψ) λz=>by cases z) e8
     ·rw[hh,qn,mX,ez];rfl
     ·rcases lx.mp a3 with h | h
      ·exact qw q' h
      ·rw[hC] at h;subst h;exact Ny β
    ·rintro σ H' ⟨ε,a7,qs,rfl,s',eq,ρ,qn,qw⟩;rw[ak,dh] at qn;have n9:=s'.get a6;have θ:=s'.get o2;have o0:=s'.get e9;have l2:=l3.same s';lia;intro l0 p1 m9 b0 d1;lia;refine s_cut (fun σ H2=>∃(Do:eH) (outs:A6),σ=[ag (V.ref p),ag (nat st),ag (nat mo),ag (V.int c),ag (V.ref Z),ag (V.ref D2),ag (V.ref D3),ag (V.ref ι),ag (V.ref D9),ε,ω,ag (V.int j),ag (V.ref ζ),a7,ag (V.ref Do)]/\Same H' H2/\H2 Do=ag (.lst (outs.map V.str))/\outs.length<=3/\∀z∈outs,z∈φ) ?_ ?_
     ·have L:=b0.get n9;lia;intro r0 d2 h5 υ a0;have c0:=υ.get L;refine lZ (tL c0) (tL (ws:=[]) a0) (by rw[depD,yi];decide) ?_;rw[show(OW Dt.str [])=[] from rfl,y4];have b7:=b0.trans υ;have d0:=υ.get d1;by_cases hz:φ=[]
      ·rw[fZ hz];lia;exact⟨l0,[],rfl,b7,d0,N2 _,λ_ h=>ik h @F⟩
      ·rw[fy hz];have m0:=M8 (mixV c 5) (show(4:Int)≠0 by decide);have m1:=MS (mixV c 5) (show(0:Int) < 4 by decide);have a5:1<=φ.length:=NL.mpr hz;have h8:(φ.map V.str).length=φ.length:=ak ..
       lia;intro ο b8;refine kK (λi ys H2=>∃ws:A6,ys=ws.map V.str/\Same d2 H2/\H2 ο=ag (.lst ys)/\ws.length=i/\∀w∈ws,w∈φ) ⟨[],rfl,bA b8,au,rfl,λ_ h=>ik h @F⟩ ?_ ?_
       ·rintro i ys H2 hi ⟨ws,rfl,s2,eD,lw,hw⟩;have q8:=s2.get c0;have q4:i < 4:=by omega
        lia;obtain⟨m,hm,β⟩:=cb (c:=mixV c (80 + (0 + (i:Int)))) (m:=(((φ.map V.str).length:Nat):Int)) @A;have β:m < φ.length:=by omega
        have m7:atI (φ.map V.str) (mixV c (80 + (0 + (i:Int))) % (((φ.map V.str).length:Nat):Int))=ag (.str φ[m]):=by
         rw[hm];exact c6 (by rw[hH,c' β];rfl)
        lia;refine⟨eD,by rw[ak];exact bG @A,ws++[φ[m]],by rw[hh];rfl,λb o e=>?_,au,by rw[hE,lw];rfl,λw m2=>?_⟩
        ·rw[ar (ao e b8)];exact s2.get e
        ·rcases lx.mp m2 with h | h
         ·exact hw w h
         ·rw[hC.mp h];exact Ny β
       ·rintro ys H2 ⟨ws,rfl,s2,eD,lw,hw⟩;lia;exact⟨ο,ws,rfl,b7.trans s2,eD,@A,hw⟩
     ·rintro σ d2 ⟨Do,outs,rfl,υ,a0,lo,ho⟩;have k8:=υ.get θ;lia;intro tt p0 q6 c1 o6;have α:=υ.trans c1;have a5:(rs.map (·.2.2)).length=nz:=by rw[ak,lr]
      subst m4;refine q tt D2 D9 ζ Do p0 rs' qs ⟨nms c 0 ni,rs'.map (·.2.2),qs.map (·.2),outs⟩ (π.trans (s'.trans α)) o6 ⟨c1.get k8,α.get o0,λr τ=>l2.same α r τ,rfl,α.get eq,λq' a3=>ρ.same α q' a3,rfl,c1.get a0⟩ (Ef mk η g2 (by rw[a5];exact g0) (perm.map _) (by rw[qa];exact qn) @A (λq' a3=>?_) (by rw[a5];exact ho)) (by show(nms c 0 ni).length<=3;rw[dh];exact η) (by show(rs'.map (·.2.2)).length<=mo;rw[(perm.map _).length_eq,a5];exact f3);obtain⟨l5,f2,rfl⟩:=mw.mp a3;rw[a5];exact qw l5 f2
end
section
local macro_rules | `(tactic| walk_at "l2step") =>`(tactic| first | ((with_reducible refine' c_whole ?e ?_);(case e=>walk_at "l2kind")) | ((with_reducible refine' c_mask ?e ?_);(case e=>walk_at "l2kind")) | (with_reducible refine bF ?_) | (with_reducible refine s_methX ?_))
section
local macro_rules | `(tactic| walk_at "l2step") =>`(tactic| (with_reducible refine Kw ?_))
def zZ:Sp:=λvs H Q _=>∃(g l:eH) (L:A6) (rs:cc Rw),vs=[.ref g,.ref l]/\H g=ag (.lst (L.map V.str))/\H l=ag (.lst (rs.map λr=>V.ref r.1))/\(∀r∈rs,H r.1=ag (.tup [.str r.2.2.1,.ref r.2.1])/\H r.2.1=ag (.lst (r.2.2.2.map V.str)))/\Ro (rs.map (·.2.2))/\kz (rs.map (·.2.2)) L/\∀H2,Same H H2->Q (.bl true) H2
theorem qe (T:Tx K mg a):FnOk P w K mg base CX0 1 a.cx a.lE ["_law_ring","_law_sums"] zZ:=by
 refine T.gn.1.okA gW λc0 A outer s H vs Q E hr h=>?_;obtain⟨g,l,O,rs,rfl,hg,hl,α,ro,ο,q⟩:=h;have χ:=jq hr
 refine⟨_,((af (bE (PW.pt (j5 (j6 (dE (aB (eT (K:=K) rfl) @D T.cq L' (aa (pv 0) (aa (jv (v:= .ty "list") @D T.gx qR rfl) ae))))) (j5 (ax (nZ (K:=K) rfl χ) (pv 0) (bC ae) (aP _)) (j4 (ax xC (DR rfl @D @D T.cK T.MD (pv 0)) (aB (aF (K:=K) rfl) @D T.cK kf (aa (pv 0) ae)) (aP _)))))) (aq (aJ p7)) aH)
  (af (eO MY rfl (KZ (K:=K) rfl @D T.MC (pv 0) (aE dM (bQ (cB (K:=K) rfl) (pv 0) (cF ah) cG) (bQ (cB (K:=K) rfl) (pv 0) cG (cF ah)))) (kW rfl (a9 (av (i:=2) gW.nd rfl @E) (a9 (av (i:=3) gW.nd rfl @E) fO))) (aq (bE (ax (nZ (K:=K) rfl χ) (bq (osc:=ai cU) (ON:=n29) (N:=["_law_row_here","_law_one","_law_other"]) (n:=1) (fx:=[2,3]) rfl rfl rfl @G (aM (K:=K) rfl (pv 1)) (aQ @C) (λ_ _ _ _ _=>⟨(av (i:=0) (show oe (["_law_row_here","_law_one","_law_other"]:A6) from by decide +kernel) rfl @E),(eN (PW.pt (oK (ax gN (!j (bt (K:=K) rfl) (pv 0) ah) (pv 1) (aP _)) (mh (ax (sG (K:=K) rfl) (pv 2) (!j (bt (K:=K) rfl) (pv 0) ah) @D))))),(pv 0)⟩)) (bC ae) (aP _)) (aq (aJ p7)) aH)))
  (aq (aJ (ju (nZ (K:=K) rfl χ) (bq (osc:=ai cU) (ON:=n29) (N:=n26) (n:=1) (fx:=[1]) rfl rfl rfl @G (aM (K:=K) rfl (pv 0)) (aQ @C) (λ_ _ _ _ _=>⟨(av (i:=0) (show oe (n26:A6) from by decide +kernel) rfl @E),(eN (ax (j8 (K:=K) rfl) (pv 0) (bq (osc:=_) (ON:=n26) (N:=n11) (n:=1) (fx:=[]) rfl (JI (osc:=ai cU) rfl) rfl @G (aM (K:=K) rfl (pv 1)) (aQ @C) (λ_ _ _ _ _=>⟨(av (i:=0) (show oe (n11:A6) from by decide +kernel) rfl @E),bp,(!j (bt (K:=K) rfl) (pv 0) ah)⟩)) @D)),(pv 0)⟩)) (bC ae) (aP _))))))),aN (σ':=[ag _,ag _,gs,gs]) rfl ?_⟩
 have b5:O.length<=40:=by
  have h1:=Qn ο.nd (l₂:=(rs.map (·.2.2)).map (·.1)) λz hz=>by
   obtain⟨i,hi,e⟩:=M9.mp hz;obtain⟨ws,h1,_⟩:=ο.st i hi;rw[hB,c' hi,QW,e] at h1;exact mw.mpr ⟨_,h1,rfl⟩
  have:=ro.ls;rw[ak] at h1;omega
 lia;intro D1 H1 f1 s1 e1;refine lZ (jr (s1.get hg)) (Rep.lst (ds:=[]) (SqL.of e1) rfl λi x d h=>by simp at h) (by unfold depD;rw[gO];decide) ?_;rw[pH,fy ο.ne];lia;refine Ks ?_;lia;refine⟨g,O,rfl,s1.get hg,ο.nd,@A,?_⟩;have b3:=s1.get hg;lia;rw[ak,fZ rfl];lia;intro D2 H2 f2 s2 e2;rw[show cutV (O.map V.str) (ag 1) gs=(O.map V.str).drop 1 from nJ _ 1 (by rw[ak];exact NL.mpr ο.ne),<-Qe] at e2;have b8:=s2.get b3;lia;intro ψ H3 f3 s3 e3;rw[show cutV (O.map V.str) gs (ag 1)=(O.map V.str).take 1 from uz _ 1 (by rw[ak];exact NL.mpr ο.ne),<-Rl] at e3;refine iQ (s3.get e2) e3 (by rw[ak,ak,MX,qo,hJ];omega) λD4 H4 ξ s4 e4=>?_;rw[<-hh] at e4;have υ:(O.drop 1++O.take 1).length=O.length:=by rw[hE,MX,qo];have:=NL.mpr ο.ne;omega
 have θ:=s1.trans (s2.trans (s3.trans s4));refine⟨g,D4,_,_,rfl,rfl,SqL.of (θ.get hg),SqL.of e4,by rw[ak,ak,υ],?_⟩;refine JB (xs:=O.map V.str) (ys:=(O.drop 1++O.take 1).map V.str) (by rw[ak,ak,υ]) (λj σ H'=>∃(π v3:ov V),σ=[ag (.ref g),ag (.ref l),π,v3]/\Same H4 H') ⟨gs,gs,rfl,Same.refl _⟩ (λi σ H' _ ⟨_,_,_,s'⟩=>⟨SqL.of (s'.get (θ.get hg)),SqL.of (s'.get e4)⟩) ?_ ?_
 ·rintro j v1 π σ H5 p1 H6 h1 h2 ⟨τ,v6,rfl,s5⟩ fp sp ep;obtain⟨one,ho,rfl⟩:=aR h1;obtain⟨oth,ht,rfl⟩:=aR h2;have hj:=(b'.mp ho).1;have γ:=θ.trans (s5.trans sp);have a0:=γ.get hl;obtain⟨ws,a4,a3⟩:=ο.st j hj;have g1:O.getD j ""=one:=by rw[hB,ho];rfl
  have ε:O.getD ((j + 1) % O.length) ""=oth:=by
   rw[hB];by_cases hl:j + 1 < O.length
   ·rw[SG hl];rw[vr (by rw[MX];omega),P1,Nat.add_comm] at ht;rw[ht];rfl
   ·have b1:j + 1=O.length:=by omega
    rw[b1,Nat.mod_self];rw[u' (by rw[MX];omega),MX,show j - (O.length - 1)=0 by omega,List.getElem?_take,kn @C] at ht;rw[ht];rfl
  rw[g1] at a4;rw[ε] at a3;obtain⟨ν,ω,a1⟩:=mw.mp a4;lia;intro D7 β;refine aL (xs:=rs.map λr=>V.ref r.1) (λi ys H'=>Cs (λi ys=>ys=((rs.take i).filter λr=>decide (r.2.2.1=one)&&decide (oth∈r.2.2.2)).map λr=>V.ref r.1) H6 D7 i ys H') (Cs.zero β rfl) (λi ys H' _ c=>SqL.of (c.same.get a0)) (λi x ys H' hx c=>?_) (λys H7 c=>?_)
  ·obtain⟨r,Z,rfl⟩:=aR hx;have hi:=(b'.mp Z).1;have hm:=hA Z;have ls:=ro.ls;rw[ak] at ls;have er:=(γ.trans c.same).get (α r hm).1;have ew:=(γ.trans c.same).get (α r hm).2
   have skip:(decide (r.2.2.1=one)&&decide (oth∈r.2.2.2))=false->Cs (λi ys=>ys=((rs.take i).filter λr=>decide (r.2.2.1=one)&&decide (oth∈r.2.2.2)).map λr=>V.ref r.1) H6 D7 (i + 1) ys H':=λhb=>Cs.skip c.same c.at' c.len (by
    rw[c.pv,take_succ Z,M6,hh,M5,hQ (by rw[hb];exact hV)];simp)
   lia;by_cases h1:r.2.2.1=one
   ·rw[fZ (K' V.str h1)];lia;refine Dq ew ?_;by_cases h2:oth∈r.2.2.2
    ·rw[fZ h2];lia;refine Cs.put β c.same c.at' c.len @A ?_;rw[c.pv,take_succ Z,M6,hh,M5,kn (by rw[fZ h1,fZ h2];rfl)];rfl
    ·rw[fy h2];lia;exact skip (by rw[fy h2,Ou])
   ·rw[fy λz=>h1 (V.str.inj z)];lia;exact skip (by rw[fy h1,Pc])
  ·have ec:=c.at';rw[c.pv,ak,mu] at ec;have a5:=c.same;clear c;lia;intro D8 H8 f8 s8 e8;have φ:=a5.trans s8;have a2:=γ.trans φ;refine mM (s8.get ec) (λv ρ=>?_) e8 ?_
   ·obtain⟨r,hr,rfl⟩:=mw.mp ρ;have hm:=(Nj.mp hr).1;refine yP (a2.get (α r hm).1) ⟨_,.str _,by simp[depD]⟩ ⟨_,jr (a2.get (α r hm).2),by rw[depD,gO];decide⟩
   ·have a8:((rs.filter λr=>decide (r.2.2.1=one)&&decide (oth∈r.2.2.2)).map λr=>V.ref r.1).isEmpty=false:=by
     rw[Rh];intro e;rw[OA] at e;have:ν∈rs.filter λr=>decide (r.2.2.1=one)&&decide (oth∈r.2.2.2):=Nj.mpr ⟨ω,by rw[a1,fZ rfl,fZ a3];rfl⟩;rw[e] at this;simp at this
    rw[a8];lia;exact⟨_,_,rfl,(s5.trans sp).trans φ⟩
 ·rintro σ H5 ⟨π,v3,rfl,s5⟩;have η:=θ.trans s5;have b2:=η.get hg;have b0:=η.get hl;have ls:=ro.ls;rw[ak] at ls;lia;intro δ b4;refine aL (xs:=O.map V.str) (λi ys H'=>Cs (λi ys=>ys=[]) H5 δ i ys H') (Cs.zero b4 rfl) (λi ys H' _ c=>SqL.of (c.same.get b2)) (λi x ys H6 hx c=>?_) (λys H6 c=>?_)
  ·obtain⟨z,hz,rfl⟩:=aR hx;have hi:=(b'.mp hz).1;have a0:=c.same.get b0;lia;intro D7 β;refine aL (xs:=rs.map λr=>V.ref r.1) (λi ys H'=>Cs (λi ys=>ys=((rs.take i).map (·.2.2.1)).map V.str) H6 D7 i ys H') (Cs.zero β rfl) (λi ys H' _ c=>SqL.of (c.same.get a0)) (λi x ys H' hx ζ=>?_) (fun ι H7 ζ=>?_)
   ·obtain⟨r,Z,rfl⟩:=aR hx;have b7:=(b'.mp Z).1;have er:=((η.trans c.same).trans ζ.same).get (α r (hA Z)).1;lia;refine Cs.put β ζ.same ζ.at' ζ.len @A ?_;rw[ζ.pv,take_succ Z,hh,hh];rfl
   ·have Y:=ζ.at';rw[ζ.pv,ak,mu] at Y
    have a7:z∈rs.map (·.2.2.1):=by
     obtain⟨ws,h1,_⟩:=ο.st i hi;rw[hB,hz,QW] at h1;obtain⟨ν,ω,a1⟩:=mw.mp h1;exact mw.mpr ⟨ν,ω,by rw[a1]⟩
    lia;refine pE Y ?_;rw[fZ a7];lia;exact Cs.skip (c.same.trans ζ.same) (ζ.same.get c.at') c.len c.pv
  ·have e6:=c.at';rw[c.pv] at e6;have a6:=c.same;clear c;lia;intro D7 H7 L s7 Y;refine mM (s7.get e6) (λv ρ=>ik ρ @F) Y ?_;exact q H7 ((η.trans a6).trans s7)
end
section
local macro_rules | `(tactic| walk_at "l2step") =>`(tactic| first | (with_reducible refine s_try ?_))
local macro_rules | `(tactic| walk_at "l2step") =>`(tactic| first | (with_reducible refine jW ?_))
local macro_rules | `(tactic| walk_at "l2step") =>`(tactic| first | (with_reducible refine iA ?_) | (with_reducible refine s_tryH ?_) | (with_reducible refine oI ?_) | (with_reducible refine oG ?_))
local macro_rules | `(tactic| walk_at "l2step") =>`(tactic| first | (with_reducible refine Dy ?_) | ((with_reducible refine' uE ?e ?a ?_);(case e=>walk_at "l2hp");(case a=>walk_at "l2side")))
noncomputable def dueE (f:Fz):Dt:= .tup [.str (fzS f),fzD f]
theorem gj {K:a'} {H:Hp} {t:eH} {f:Fz} (d:DueZ H t f):Rep K H (.ref t) (dueE f)/\depD (dueE f)<=100:=by
 obtain⟨v,e,g⟩:=d;have Y:=g.rep (K:=K);refine⟨.tup (SqT.of e) rfl λi x y L O=>?_,?_⟩
 ·match i,L,O with
  | 0,L,O=>cases L;cases O;exact .str _
  | 1,L,O=>cases L;cases O;exact Y.1
  | i + 2,L,_=>simp at L
 ·have h2:=Y.2;unfold dueE;simp only[depD,dH];omega
theorem qZ (f:Fz):eqD (dueE f) (.tup [.str "Ring",.non])=true->f= .ft .ring:=by
 cases f with
 | line k=>intro h;simp[dueE,fzS,eqD,eqDs] at h;exact ik h.1 @G
 | ft f=>
   cases f with
   | ring=>exactλ_=>rfl
   | many=>intro h;exact ik h @G
   | bad d=>intro h;simp[dueE,fzS,ftS,eqD,eqDs] at h;exact ik h.1 @G
   | dbl d=>intro h;simp[dueE,fzS,ftS,eqD,eqDs] at h;exact ik h.1 @G
   | now d=>intro h;simp[dueE,fzS,ftS,eqD,eqDs] at h;exact ik h.1 @G
theorem FC {H:Hp} {L i s u o:eH} {rs:cc Rw} {qs:cc Qs} {rows:cc A6} (x:RdA H L i s u o rs qs rows):Hnd H i s u o rs qs (netR rows):=by
 have h:=x.h;refine⟨h.i,?_,λr O=>?_,x.er,?_,λq Y=>?_,x.eq,h.o⟩
 ·have:=h.s;unfold upR at this;rw[qa] at this;exact this
 ·exact h.sr (r.1,r.2.1,V.str r.2.2.1,r.2.2.2.map V.str) (mw.mpr ⟨r,O,rfl⟩)
 ·have:=h.t;unfold upQ at this;rw[qa] at this;exact this
 ·exact h.tr (q.1,V.str q.2.1,V.str q.2.2) (mw.mpr ⟨q,Y,rfl⟩)
theorem JC {r:A6} (f:Fm r):cf r=true:=by
 cases f with
 | i z h=>exact(F6.i z h).form
 | o z h=>exact(F6.o z h).form
 | s z ws h O l=>exact(F6.s z ws h O).form
 | t z y h L=>exact(F6.t z y h L).form
theorem sD {N:Nt} (g:Gn N):cj (txtN N)=jm N:=by
 have fm:=kG g;unfold cj txtN;by_cases e:jm N=[]
 ·rw[e,kn (show txtR []="" from rfl)];rfl
 ·rw[hQ (Ih fm e),zJ (λr L=>(fm r L).wd) e,qa];refine(S7 λr O=>?_).trans (Py _);exact Ak (fm r O).wd (fm r O).ne
noncomputable def ndN (N:Nt):Nd:=⟨N.ins.map Dt.str,N.sums.map λr=>(Dt.str r.1,r.2.map Dt.str),N.sts.map λr=>(Dt.str r.1,Dt.str r.2),N.outs.map Dt.str⟩
theorem EY {N:Nt} (g:Gn N):dueZ (txtN N)=(dueF (ndN N)).map .ft:=by
 unfold dueZ;rw[sD g,oF λr L=>JC (kG g r L)];show RY Fz.ft (dueF (ndN (netR (jm N))))=_;rw[sI]
theorem K8 (T:Tx K mg a):FnOk P w K mg base CX0 15 a.BL a.LF ["_law_script"] (yK K):=by
 refine T.Hf.okA gu λj1 A outer s H vs Q E hr h=>?_;obtain⟨p0,ns,rfl,hS,f5,q⟩:=h;have a6:=jq hr
 refine⟨_,((af (aO (i:=1) gu.nd rfl @E (aw (iE T) hr T.jA T.d5 (aa (pv 0) (aa ah ae))))
  (af (sF (aw (xJ T) hr T.BI T.kQ (aa (pv 0) (aa ah (aa ah ae)))) (kW rfl (a9 (av (i:=2) gu.nd rfl @E) (a9 (av (i:=3) gu.nd rfl @E) (a9 (av (i:=4) gu.nd rfl @E) (a9 (av (i:=5) gu.nd rfl @E) fO))))))
  (af (aO (i:=6) gu.nd rfl @E (aw (oM T) hr T.qX T.il (aa (pv 2) (aa (pv 3) (aa (pv 4) (aa (pv 5) ae))))))
  (af (eO MY rfl (eQ @D T.jx (aa (aE bJ (pv 1) ah) ae)) (av (i:=7) gu.nd rfl @E) (aq (aO (i:=6) gu.nd rfl @E (aw (tR T) hr T.vW T.iN (aa (pv 6) (aa (aw (iE T) hr T.jA T.d5 (aa (pv 0) (aa (aE cn ah (pv 7)) ae))) (aa (ju gN (aE bJ (aE g9 (pv 1) ah) ah) ah (aP _)) ae)))))))
  (af (sF (aw (vB T) hr T.x9 T.jG (aa (pv 6) ae)) (kW rfl (a9 (av (i:=8) gu.nd rfl @E) (a9 (av (i:=9) gu.nd rfl @E) fO))))
  (af (eO MY rfl (eQ @D T.jx (aa ah ae)) (av (i:=7) gu.nd rfl @E) (af (sF (aw (qd T) hr T.r9 T.gm (aa (pv 6) ae)) (kW rfl (a9 (av (i:=10) gu.nd rfl @E) (a9 (av (i:=11) gu.nd rfl @E) (a9 (av (i:=12) gu.nd rfl @E) fO)))))
  (af (bE (PW.pt (j5 (ax (j9 (K:=K) rfl a6) (pv 10) (pv 8) (aP _)) (j4 (PW.pt (oK (ax (nZ (K:=K) rfl a6) (pv 8) (bN (aa aD (aa gw ae))) (aP _)) (mh (j6 (dE (aw (qe T) hr T.se T.gn (aa (pv 11) (aa (!j (ay (K:=K) rfl) (pv 9) ah) ae))))))))))) (aq (aJ p7)) aH)
  (aq (bE (ax Hy (pv 8) gw (aP _)) (af (aO (i:=13) gu.nd rfl @E (aw (vA T) hr T.x8 T.jE (aa (!j (ay (K:=K) rfl) (pv 9) ah) (aa (!j (ay (K:=K) rfl) (pv 9) ah) (aa (!j (ay (K:=K) rfl) (pv 9) ah) (aa (!j (ay (K:=K) rfl) (pv 9) ah) ae))))))
  (af (aO (i:=14) gu.nd rfl @E (aw (oM T) hr T.qX T.il (aa (!j (ay (K:=K) rfl) (pv 9) ah) (aa (!j (ay (K:=K) rfl) (pv 9) ah) (aa (!j (ay (K:=K) rfl) (pv 9) ah) (aa (!j (ay (K:=K) rfl) (pv 9) ah) ae))))))
  (af (bE (PW.pt (j5 (ax (j9 (K:=K) rfl a6) (gi (pv 12) T.fh T.sJ (qf T) (hr.mono @C) T.gS.2 .nil ip) (pv 13) (aP _)) (j4 (ax xC (aw (xE T) hr T.BE T.kM (aa (pv 12) ae)) (pv 14) (aP _))))) (aq (aJ p7)) aH)
  (aq (bE (ax (j9 (K:=K) rfl a6) (gi (gM (qc T) (hr.mono @C) @D T.sL T.gb.1.2 T.gb.2 .nil thr0 (aa (pv 14) ae)) T.fh T.sJ (qf T) (hr.mono @C) T.gS.2 .nil ip) (pv 13) (aP _)) (aq (aJ p7)) aH))))) aH)))))
  (aq (aJ p7))))))))),aN (σ':=[ag _,gs,gs,gs,gs,gs,gs,gs,gs,gs,gs,gs,gs,gs,gs]) rfl ?_⟩
 lia;refine⟨p0,ns,4,6,rfl,hS,@C,@C,λt0 β s0 u0 α H1 d0 d1 N0 s1 O e8 θ h5 h4=>?_⟩;have f0:=Same.seq s1 hS;lia;refine⟨β,s0,u0,α,d0,d1,N0,rfl,e8,θ,λH2 s2=>?_⟩
 have a8:(txtN N0).length<=12920:=by
  have h1:=yG (kG θ);have h2:=mQ θ;unfold txtN;omega
 generalize txtN N0=z0 at a8 ⊢;have e9:=Same.seq s2 f0;obtain⟨m,hm,lm⟩:=cb (c:=cell ns 0) (m:=4) @C;lia;rw[hm,MW];refine ib (n:=m) (λk σ H'=>∃(z:ic) (v7:ov V),σ=[ag (.ref p0),ag (.int (cell ns 0)),ag (.ref β),ag (.ref s0),ag (.ref u0),ag (.ref α),ag (.str z),v7,gs,gs,gs,gs,gs,gs,gs]/\Same H2 H'/\(k=0->z.length<=12920)/\(k<=1->z.length<=51700)/\(k<=2->z.length<=206820)/\z.length<=827300) ⟨z0,gs,rfl,Same.refl _,λ_=>a8,λ_=>by omega,λ_=>by omega,by omega⟩ ?_ ?_
 ·rintro k σ H3 hk ⟨z,v7,rfl,s3,b0,b1,b2,b3⟩;have h6:=Same.seq s3 e9
  have lz:∃M,z.length<=M/\M<=220000/\(k=0->M=12920)/\(k=1->M=51700)/\(k=2->M=206820):=by
   rcases(show k=0∨k=1∨k=2 by omega) with rfl | rfl | rfl
   ·exact⟨12920,b0 rfl,@C,λ_=>rfl,λh=>by omega,λh=>by omega⟩
   ·exact⟨51700,b1 @C,@C,λh=>by omega,λ_=>rfl,λh=>by omega⟩
   ·exact⟨206820,b2 @C,@C,λh=>by omega,λh=>by omega,λ_=>rfl⟩
  obtain⟨M,m1,m2,m3,m4,ο⟩:=lz;lia;refine⟨z,_,_,M,rfl,m1,m2,λy H4 s4 ly=>?_⟩;lia;exact⟨y,_,rfl,s3.trans s4,λh=>by omega,λh=>by have:=m3 @A;omega,λh=>by rcases(show k=0∨k=1 by omega) with e | e;(have:=m3 e;omega);(have:=m4 e;omega),by rcases(show k=0∨k=1∨k=2 by omega) with e | e | e;(have:=m3 e;omega);(have:=m4 e;omega);(have:=ο e;omega)⟩
 rintro σ H3 ⟨z,v7,rfl,s3,_,_,_,lz⟩;clear a8 hm lm;lia;refine⟨z,rfl,@A,λk hb p t L H4 s4 e4 dz=>?_,λhb p v L i s u o rs qs H4 s4 e4 rd vN vF=>?_⟩
 ·have hz:dueZ z=ag (.line k):=by unfold dueZ;rw[hb]
  lia;refine ib (n:=2) (λk' σ H'=>∃(v7 ω ι η ε δ:ov V),σ=[ag (.ref p0),ag (.int (cell ns 0)),ag (.ref β),ag (.ref s0),ag (.ref u0),ag (.ref α),ag (.str z),v7,ag (.ref t),ag (.ref L),ω,ι,η,ε,δ]/\Same H4 H') ⟨_,_,_,_,_,_,rfl,Same.refl _⟩ ?_ ?_
  ·rintro k' σ H5 hk ⟨v7,ω,ι,η,ε,δ,rfl,s5⟩;have b4:=jb dz s5;lia;refine⟨z,rfl,@A,(λh0=>by rw[hz] at h0;cases h0),λf' a0 χ ξ v6 H6 s6 e6 a4 _=>?_⟩;rw[hz] at a0;cases a0;have a1:=jb b4 s6;lia;refine lZ (gj a4).1 (gj a1).1 (gj (K:=K) a4).2 ?_;rw[nE];lia;intro b7 H7 f7 s7 e7;refine lZ (gj (jb a1 s7)).1 (Rep.tup (ds:=[.str "Ring",.non]) (SqT.of e7) rfl λi x y e1 e2=>?_) (gj (K:=K) a1).2 ?_
   ·match i,e1,e2 with
    | 0,e1,e2=>cases e1;cases e2;exact .str _
    | 1,e1,e2=>cases e1;cases e2;exact .non
    | i + 2,e1,_=>simp at e1
   cases hq:eqD (dueE (.line k)) (.tup [.str "Ring",.non]) with
   | false=>
     lia;exact⟨_,_,_,_,_,_,rfl,s5.trans (s6.trans s7)⟩
   | true=>exact ik (qZ _ hq) (λe=>by cases e)
  ·rintro σ H5 ⟨v7,ω,ι,η,ε,δ,rfl,s5⟩;lia;exact q _
 have hz:dueZ z=(dueF (ndR (cj z))).map .ft:=by unfold dueZ;rw[hb]
 cases hd:dueF (ndR (cj z)) with
 | some f=>
   obtain⟨t,rfl,dt⟩:=vF f hd;have dz:DueZ H4 t (.ft f):=dt;rw[hd] at hz;have hz:dueZ z=ag (.ft f):=hz;lia;refine ib (n:=2) (λk' σ H'=>∃(v7 ω ι η ε δ:ov V),σ=[ag (.ref p0),ag (.int (cell ns 0)),ag (.ref β),ag (.ref s0),ag (.ref u0),ag (.ref α),ag (.str z),v7,ag (.ref t),ag (.ref L),ω,ι,η,ε,δ]/\Same H4 H') ⟨_,_,_,_,_,_,rfl,Same.refl _⟩ ?_ ?_
   ·rintro k' σ H5 hk ⟨v7,ω,ι,η,ε,δ,rfl,s5⟩;have b4:=jb dz s5;lia;refine⟨z,rfl,@A,(λh0=>by rw[hz] at h0;cases h0),λf' a0 χ ξ v6 H6 s6 e6 a4 rr=>?_⟩;rw[hz] at a0;cases a0;have a1:=jb b4 s6;lia;refine lZ (gj a4).1 (gj a1).1 (gj (K:=K) a4).2 ?_;rw[nE];lia;intro b7 H7 f7 s7 e7;refine lZ (gj (jb a1 s7)).1 (Rep.tup (ds:=[.str "Ring",.non]) (SqT.of e7) rfl λi x y e1 e2=>?_) (gj (K:=K) a1).2 ?_
    ·match i,e1,e2 with
     | 0,e1,e2=>cases e1;cases e2;exact .str _
     | 1,e1,e2=>cases e1;cases e2;exact .non
     | i + 2,e1,_=>simp at e1
    cases hq:eqD (dueE (.ft f)) (.tup [.str "Ring",.non]) with
    | false=>
      lia;exact⟨_,_,_,_,_,_,rfl,s5.trans (s6.trans s7)⟩
    | true=>
      have ef:=qZ _ hq;cases ef;obtain⟨g,rg,rfl,eg,ir⟩:=rr rfl;have a2:=zk rd (s5.trans (s6.trans s7));have hnd:=FC a2;have γ:=a2.l
      have fm:∀r∈cj z,cf r=true:=λr hr=>by
       unfold wN at hb;rw[Ri] at hb;have:=hb r hr;cases hf:cf r with
       | true=>rfl
       | false=>rw[hf] at this;exact ik this @C
      obtain⟨_,_,_,ro⟩:=HndL.hnd a2.h (datR fm a2.er a2.eq) (JF (.inr hd));have f1:(ndR (cj z)).rows=(netR (cj z)).sums:=by rw[<-Ec];rfl
      rw[f1] at ro;lia;refine⟨g,s,rg,rs,rfl,s7.get eg,hnd.s,hnd.sr,by rw[hnd.es];exact ro,by rw[hnd.es];exact ir,λH8 s8=>?_⟩;lia;exact⟨_,_,_,_,_,_,rfl,s5.trans (s6.trans (s7.trans s8))⟩
   ·rintro σ H5 ⟨v7,ω,ι,η,ε,δ,rfl,s5⟩;lia;exact q _
 | none=>
   have ev:=vN hd;subst ev;rw[hd] at hz;have hz:dueZ z=none:=hz;lia;refine ib (n:=2) (λk' σ H'=>∃(v7 ω ι η ε δ:ov V),σ=[ag (.ref p0),ag (.int (cell ns 0)),ag (.ref β),ag (.ref s0),ag (.ref u0),ag (.ref α),ag (.str z),v7,ag .non,ag (.ref L),ω,ι,η,ε,δ]/\Same H4 H') ⟨_,_,_,_,_,_,rfl,Same.refl _⟩ ?_ ?_
   ·rintro k' σ H5 hk ⟨v7,ω,ι,η,ε,δ,rfl,s5⟩;lia;refine⟨z,rfl,@A,λh0 χ n6 od H6 s6 e6 na=>?_,λf' a0=>by rw[hz] at a0;cases a0⟩;have Y:=zk rd (s5.trans s6);have hnd:=FC Y;have f2:=Y.l;have g:=na.g;lia;refine lZ .non .non @C ?_;lia;intro b7 H7 f7 s7 e7;refine lZ .non (Rep.tup (ds:=[.str "Ring",.non]) (SqT.of e7) rfl λi x y e1 e2=>?_) @C ?_
    ·match i,e1,e2 with
     | 0,e1,e2=>cases e1;cases e2;exact .str _
     | 1,e1,e2=>cases e1;cases e2;exact .non
     | i + 2,e1,_=>simp at e1
    have γ:=s7.get f2;have ν:=hnd.same s7;lia;refine⟨i,s,u,o,rs,qs,netR (cj z),rfl,ν,g,λb8 E1 E2 E3 E4 H8 g2 g4 s8 b5=>?_⟩;have h7:=s8.get γ;lia;refine⟨i,s,u,o,rs,qs,netR (cj z),rfl,ν.same s8,g,λH9 s9=>?_⟩;have c2:=s7.trans (s8.trans s9);have a7:=na.same c2;obtain⟨j0,i',s',t',o',d',f9,f3,f4,f6,φ,_⟩:=id a7.ho;lia;refine gc φ rfl ?_;lia;refine⟨n6,_,od,rfl,a7,λk4 D1 D2 D3 D4 l0 ρ υ _ _ _ _ _ a5 c1=>?_⟩;lia;refine lZ c1.rep (b5.same (s9.trans a5)).rep (E6 _) ?_;rw[nE];lia;refine⟨n6,_,od,rfl,a7.same a5,λk9 c5=>?_⟩;lia;dsimp only;rw[fZ rfl]
    have e0:dueZ (txtN (netR (cj z)))=none:=by
     rw[EY g];show RY Fz.ft (dueF (ndR (cj z)))=gs;rw[hd];rfl
    have lN:(txtN (netR (cj z))).length<=900000:=by
     have h1:=yG (kG g);have h2:=mQ g;unfold txtN;omega
    have e3:netR (cj (txtN (netR (cj z))))=netR (cj z):=by rw[sD g,sI]
    lia;refine⟨_,rfl,lN,λ_ d3 k8 Z ψ c4 a3=>?_,λf' a0=>by rw[e0] at a0;cases a0⟩;rw[e3] at a3;obtain⟨h8,i2,g1,t2,o2,d2,f8,g3,h3,ζ,e5,_⟩:=id a3.ho;lia;refine gc e5 rfl ?_;lia;refine⟨d3,_,Z,rfl,a3,λj2 D1 D2 D3 D4 k6 π τ _ _ _ _ _ c3 c0=>?_⟩;lia;refine lZ c0.rep (b5.same (s9.trans (a5.trans (c5.trans (c4.trans c3))))).rep (E6 _) ?_;rw[nE];lia;exact⟨_,_,_,_,_,_,rfl,s5.trans (s6.trans (c2.trans (a5.trans (c5.trans (c4.trans c3)))))⟩
   ·rintro σ H5 ⟨v7,ω,ι,η,ε,δ,rfl,s5⟩;lia;exact q _
end
end
end
open PySem.W in
theorem all_mk {l:Si} {w:zt} {K:Frag} {h:MT} {mg:CD} {fa:eH} (X:K.In h) (G:h.Ns MV mg) (hfa:mg "law"=ag (.ref fa)){nD bh bg bz bj bP bO be bb aT gz fQ cP cQ dk cO bZ mr dj ig bM bL bK bw bD dB fU ie fT fS dZ fX dY dn fW dW dX cy bS b6 fY cx fV du ee bR dq cw:eH}{K9 LH:Dn}{Ki:CM}{La Lk LD KY HH LG:iv}{BL nL:eH}(LL:NI K "Wire" nL){bx:eH}(Ha:NI K "InWire" bx){aZ:eH}(Fu:NI K "SumWire" aZ){aI:eH}(yw:NI K "StoreWire" aI){cA:eH}(ML:NI K "Net" cA){aW:eH}(yv:NI K "WireError" aW){aV:eH}(Fs:NI K "TooMany" aV){aA:eH}(Fx:NI K "BadName" aA){az:eH}(Fw:NI K "Doubled" az){aG:eH}(G9:NI K "NoWire" aG){aC:eH}(Fy:NI K "BadLine" aC){bf:eH}(LM:NI K "Ring" bf)(LK:NI K "kept" nD)(Lj:FR K "kept" "kept" vg nD)(mB:FI K aA "__init__" bh)(ny:FR K "__init__" "BadName.__init__" eL bh)(mz:FI K az "__init__" bg)(nv:FR K "__init__" "Doubled.__init__" eJ bg)(nP:FI K aG "__init__" bz)(ou:FR K "__init__" "NoWire.__init__" fA bz)(mC:FI K aC "__init__" bj)(nC:FR K "__init__" "BadLine.__init__" eM bj)(pK:FI K bf "__init__" bP)(qO:FR K "__init__" "Ring.__init__" gZ bP)(Cv:FI K nL "__init__" bO)(qM:FR K "__init__" "Wire.__init__" gY bO)(zI:FI K bx "__init__" be)(oy:FR K "__init__" "InWire.__init__" fB be)(yD:FI K aZ "__init__" bb)(nu:FR K "__init__" "SumWire.__init__" eI bb)(w8:FI K aI "__init__" aT)(kT:FR K "__init__" "StoreWire.__init__" dG aT)(Fq:NI K "is_name" gz)(Em:FR K "is_name" "is_name" mK gz)(B5:NI K "words_of" fQ)(AS:FR K "words_of" "words_of" nT fQ)(uG:NI K "check_sizes" cP)(t8:FR K "check_sizes" "check_sizes" gL cP)(uH:NI K "check_names" cQ)(t9:FR K "check_names" "check_names" jk cQ)(wU:NI K "check_wire" dk)(vM:FR K "check_wire" "check_wire" jZ dk)(uF:NI K "check_wires" cO)(t7:FR K "check_wires" "check_wires" jj cO)(rC:NI K "wires_by_name" bZ)(qK:FR K "wires_by_name" "wires_by_name" bY bZ)(JM:NI K "waits" mr)(Jn:FR K "waits" "waits" tI mr)(wR:NI K "ring_among" dj)(vL:FR K "ring_among" "ring_among" iz dj)(Fp:NI K "ordered" ig)(El:FR K "ordered" "ordered" jY ig)(FS:FI K cA "__init__" bM)(r6:FR K "__init__" "Net.__init__" cv bM)(FQ:FI K cA "in_names" bL)(rZ:FR K "in_names" "Net.in_names" iT bL)(FP:FI K cA "sum_rows" bK)(rY:FR K "sum_rows" "Net.sum_rows" iS bK)(Ck:FI K cA "store_rows" bw)(pj:FR K "store_rows" "Net.store_rows" gD bw)(Cw:FI K cA "out_wires" bD)(qP:FR K "out_wires" "Net.out_wires" g5 bD)(JS:FI K cA "told" dB)(A9:FR K "told" "Net.told" nV dB)(B8:NI K "has_form" fU)(AW:FR K "has_form" "has_form" kE fU)(Fo:NI K "rows_of" ie)(Ek:FR K "rows_of" "rows_of" pW ie)(B7:NI K "read_net" fT)(AV:FR K "read_net" "read_net" d8 fT)(B6:NI K "show_net" fS)(AU:FR K "show_net" "show_net" d7 fS)(yu:NI K "_law_cell" dZ)(x3:FR K "_law_cell" "_law_cell" md dZ)(Cc:NI K "_law_mix" fX)(A7:FR K "_law_mix" "_law_mix" nU fX)(yt:NI K "_law_name" dY)(xZ:FR K "_law_name" "_law_name" l6 dY)(wV:NI K "_law_wires" dn)(vO:FR K "_law_wires" "_law_wires" iB dn)(Cb:NI K "_law_net" fW)(AZ:FR K "_law_net" "_law_net" gR fW)(yp:NI K "_law_told" dW)(xV:FR K "_law_told" "_law_told" jl dW)(yq:NI K "_law_text" dX)(xW:FR K "_law_text" "_law_text" fq dX)(si:NI K "_law_is_name" cy)(rX:FR K "_law_is_name" "_law_is_name" gh cy)(pC:NI K "_law_names_due" bS)(pf:FR K "_law_names_due" "_law_names_due" gC bS)(rD:NI K "_law_has_ring" b6)(qL:FR K "_law_has_ring" "_law_has_ring" df b6)(Cd:NI K "_law_due" fY)(A8:FR K "_law_due" "_law_due" fz fY)(sh:NI K "_law_is_ring" cx)(rW:FR K "_law_is_ring" "_law_is_ring" cU cx)(B9:NI K "_law_row" fV)(AX:FR K "_law_row" "_law_row" kF fV)(yr:NI K "_law_read" du)(xX:FR K "_law_read" "_law_read" fw du)(Ca:NI K "_law_odd" ee)(AY:FR K "_law_odd" "_law_odd" gQ ee)(pB:NI K "_law_spoil_row" bR)(pe:FR K "_law_spoil_row" "_law_spoil_row" gB bR)(wW:NI K "_law_spoil" dq)(vP:FR K "_law_spoil" "_law_spoil" j3 dq)(sg:NI K "_law_told_by" cw)(rV:FR K "_law_told_by" "_law_told_by" iR cw)(MK:NI K "law" BL)(ME:K.lookup BL=ag ⟨La,K9,.func (fnOf "law" "law" (jC Ai) (dI Ai) (ai Ai) .none Lk LD KY LH HH LG),Ki⟩)(MJ:codeIn K HH "law"=true)(MA:keepIn K (.ref BL)=true)(DM:plainGet K bx PB=true)(DL:hasDictIn K bx=true)(DK:plainOver K bx=true)(DJ:findIn K (.ref bx) "__setattr__"=ag (ag (.builtin "object.__setattr__")))(EX:makesIn K bx=true)(EW:FI K bx "__init__" be)(EV:isFn K (.ref be)=true)(EU:keepIn K (.ref bx)=true)(tU:FN K bx "name")(ql:FN K bx "number")(As:plainGet K aZ PB=true)(Ar:hasDictIn K aZ=true)(Aq:plainOver K aZ=true)(Ap:findIn K (.ref aZ) "__setattr__"=ag (ag (.builtin "object.__setattr__")))(BQ:makesIn K aZ=true)(BP:FI K aZ "__init__" bb)(BO:isFn K (.ref bb)=true)(BN:keepIn K (.ref aZ)=true)(rQ:FN K aZ "name")(qh:FN K aZ "wires")(vp:plainGet K aI PB=true)(vn:hasDictIn K aI=true)(vm:plainOver K aI=true)(vk:findIn K (.ref aI) "__setattr__"=ag (ag (.builtin "object.__setattr__")))(wx:makesIn K aI=true)(wu:FI K aI "__init__" aT)(wo:isFn K (.ref aT)=true)(wm:keepIn K (.ref aI)=true)(o6:FN K aI "name")(mW:FN K aI "number")(o5:FN K aI "wire")(KU:plainGet K cA PB=true)(KS:hasDictIn K cA=true)(KR:plainOver K cA=true)(KQ:findIn K (.ref cA) "__setattr__"=ag (ag (.builtin "object.__setattr__")))(LB:makesIn K cA=true)(Lz:FI K cA "__init__" bM)(Ly:isFn K (.ref bM)=true)(Lx:keepIn K (.ref cA)=true)(qH:FI K cA "in_names" bL)(qC:isFn K (.ref bL)=true)(qG:FI K cA "sum_rows" bK)(qA:isFn K (.ref bK)=true)(oq:FI K cA "store_rows" bw)(om:isFn K (.ref bw)=true)(pd:FI K cA "out_wires" bD)(o9:isFn K (.ref bD)=true)(xT:FI K cA "told" dB)(xS:isFn K (.ref dB)=true)(tT:FN K cA "by_name")(D0:FN K cA "ins")(oh:FN K cA "kept_stores")(AD:FN K cA "outs")(qj:FN K cA "sum_order")(AC:FN K cA "sums")(w1:specialIn K (.builtin "object.__class__") "__get__"=ag (ag (.builtin "getset_descriptor.__get__")))(w2:takesIn K (.builtin "object.__class__")=ag true)(dP:excIn K aW [.type "ValueError",.type "Exception",.type "BaseException",.type "object"] "ValueError.__new__"=true)(zT:isClsIn K aV=true)(zP:typeIn K (.ref aV)=ag (.type "type"))(zV:isClsIn K aA=true)(zR:typeIn K (.ref aA)=ag (.type "type"))(zU:isClsIn K az=true)(zQ:typeIn K (.ref az)=ag (.type "type"))(CW:isClsIn K aG=true)(CV:typeIn K (.ref aG)=ag (.type "type"))(zW:isClsIn K aC=true)(zS:typeIn K (.ref aC)=ag (.type "type"))(Im:isClsIn K bf=true)(Il:typeIn K (.ref bf)=ag (.type "type"))(uU:specialIn K (.ref aW) "__getattribute__"=ag (ag (.builtin "type.__getattribute__")))(uT:readsIn K aW (.type "type")=true)(uS:findCls K (.ref aW) (.type "type") "__init__"=ag (.val (.builtin "ValueError.__init__")))(eC:excIn K aV [.type "ValueError",.type "Exception",.type "BaseException",.type "object"] "ValueError.__new__"=true)(fD:mroIn K aV (.ref aC)=ag false)(fC:mroIn K aV (.ref aV)=ag true)(Bx:mroIn K aV (.type "BaseException")=ag true)(Bz:mroIn K aA (.type "BaseException")=ag true){AF An:ic}{FF:eH}{BZ:CB}{z9:A6}{xg:CB}{B3:N1}{ym:ov N1}{BS:Dn}{Br Bo Bl Bi Bf:J2}(AO:K.lookup aA=ag (OJ AF An aA FF BZ (.ref aW::xBM) true z9 xg B3 ym BS Br Bo Bl Bi Bf "ValueError.__new__"))(AA:isFn K (.ref bh)=true)(Bb:keepIn K (.ref aA)=true)(Ag:findIn K (.ref aA) "__setattr__"=ag (ag (.builtin "object.__setattr__")))(so:mroIn K aA (.type "object")=ag true)(Bv:mroIn K aA (.type "ValueError")=ag true)(zG:isClsIn K aA=true)(zD:findIn K (.ref aA) "__getattribute__"=ag (ag (.builtin "BaseException.__getattribute__")))(zA:FN K aA "__getattr__")(zw:findIn K (.ref aA) "__class__"=ag (ag (.builtin "object.__class__")))(zr:mroIn K aA (.type "BaseException")=ag true)(oA:hasDictIn K aA=true)(fM:mroIn K aA (.ref aC)=ag false)(fK:mroIn K aA (.ref aV)=ag false)(fL:mroIn K aA (.ref aA)=ag true)(rS:FN K aA "name")(By:mroIn K az (.type "BaseException")=ag true){AE Am:ic}{FE:eH}{BY:CB}{z8:A6}{xc:CB}{B1:N1}{yl:ov N1}{BR:Dn}{Bq Bn Bk Bh Be:J2}(AN:K.lookup az=ag (OJ AE Am az FE BY (.ref aW::xBM) true z8 xc B1 yl BR Bq Bn Bk Bh Be "ValueError.__new__"))(Az:isFn K (.ref bg)=true)(Ba:keepIn K (.ref az)=true)(Af:findIn K (.ref az) "__setattr__"=ag (ag (.builtin "object.__setattr__")))(sk:mroIn K az (.type "object")=ag true)(Bu:mroIn K az (.type "ValueError")=ag true)(zF:isClsIn K az=true)(zC:findIn K (.ref az) "__getattribute__"=ag (ag (.builtin "BaseException.__getattribute__")))(zz:FN K az "__getattr__")(zv:findIn K (.ref az) "__class__"=ag (ag (.builtin "object.__class__")))(zq:mroIn K az (.type "BaseException")=ag true)(oz:hasDictIn K az=true)(fJ:mroIn K az (.ref aC)=ag false)(fE:mroIn K az (.ref aV)=ag false)(fH:mroIn K az (.ref aA)=ag false)(fG:mroIn K az (.ref az)=ag true)(rR:FN K az "name")(EF:mroIn K aG (.type "BaseException")=ag true){Eb DI:ic}{Hc:eH}{Fh:CB}{De:A6}{zX:CB}{Fn:N1}{BX:ov N1}{Fc:Dn}{Ex Ew Eu Et Es:J2}(Ej:K.lookup aG=ag (OJ Eb DI aG Hc Fh (.ref aW::xBM) true De zX Fn BX Fc Ex Ew Eu Et Es "ValueError.__new__"))(DZ:isFn K (.ref bz)=true)(Eo:keepIn K (.ref aG)=true)(Dg:findIn K (.ref aG) "__setattr__"=ag (ag (.builtin "object.__setattr__")))(uO:mroIn K aG (.type "object")=ag true)(EA:mroIn K aG (.type "ValueError")=ag true)(Cu:isClsIn K aG=true)(Ct:findIn K (.ref aG) "__getattribute__"=ag (ag (.builtin "BaseException.__getattribute__")))(Cr:FN K aG "__getattr__")(Cq:findIn K (.ref aG) "__class__"=ag (ag (.builtin "object.__class__")))(Cm:mroIn K aG (.type "BaseException")=ag true)(qV:hasDictIn K aG=true)(gH:mroIn K aG (.ref aC)=ag false)(gE:mroIn K aG (.ref aV)=ag false)(gG:mroIn K aG (.ref aA)=ag false)(gF:mroIn K aG (.ref az)=ag false)(g6:mroIn K aG (.ref aG)=ag true)(tS:FN K aG "name")(BA:mroIn K aC (.type "BaseException")=ag true){AG Ao:ic}{FG:eH}{B0:CB}{Aa:A6}{xh:CB}{B4:N1}{yn:ov N1}{BU:Dn}{Bs Bp Bm Bj Bg:J2}(AQ:K.lookup aC=ag (OJ AG Ao aC FG B0 (.ref aW::xBM) true Aa xh B4 yn BU Bs Bp Bm Bj Bg "ValueError.__new__"))(AB:isFn K (.ref bj)=true)(Bc:keepIn K (.ref aC)=true)(Ah:findIn K (.ref aC) "__setattr__"=ag (ag (.builtin "object.__setattr__")))(su:mroIn K aC (.type "object")=ag true)(Bw:mroIn K aC (.type "ValueError")=ag true)(zH:isClsIn K aC=true)(zE:findIn K (.ref aC) "__getattribute__"=ag (ag (.builtin "BaseException.__getattribute__")))(zB:FN K aC "__getattr__")(zy:findIn K (.ref aC) "__class__"=ag (ag (.builtin "object.__class__")))(zu:mroIn K aC (.type "BaseException")=ag true)(oB:hasDictIn K aC=true)(fN:mroIn K aC (.ref aC)=ag true)(rT:FN K aC "line")(Jy:mroIn K bf (.type "BaseException")=ag true){Ji IU:ic}{LS:eH}{JJ:CB}{Iv:A6}{F0:CB}{JL:N1}{G4:ov N1}{JG:Dn}{Ju Jt Js Jr Jq:J2}(Jl:K.lookup bf=ag (OJ Ji IU bf LS JJ (.ref aW::xBM) true Iv F0 JL G4 JG Ju Jt Js Jr Jq "ValueError.__new__"))(Jf:isFn K (.ref bP)=true)(Jp:keepIn K (.ref bf)=true)(IA:findIn K (.ref bf) "__setattr__"=ag (ag (.builtin "object.__setattr__")))(Cn:mroIn K bf (.type "object")=ag true)(Jx:mroIn K bf (.type "ValueError")=ag true)(HZ:isClsIn K bf=true)(HY:findIn K (.ref bf) "__getattribute__"=ag (ag (.builtin "BaseException.__getattribute__")))(HX:FN K bf "__getattr__")(HW:findIn K (.ref bf) "__class__"=ag (ag (.builtin "object.__class__")))(HV:mroIn K bf (.type "BaseException")=ag true)(x6:hasDictIn K bf=true)(iX:mroIn K bf (.ref aC)=ag false)(iU:mroIn K bf (.ref aV)=ag false)(iW:mroIn K bf (.ref aA)=ag false)(iV:mroIn K bf (.ref az)=ag false)(jt:mroIn K bf (.ref aG)=ag false)(mf:mroIn K bf (.ref bf)=ag true)(xM:FN K bf "ring")(oV:specialIn K (.ref nL) "__getattribute__"=ag (ag (.builtin "type.__getattribute__")))(oU:readsIn K nL (.type "type")=true)(oR:findCls K (.ref nL) (.type "type") "__init__"=ag (.val (.ref bO))){jS:Tok}(w6:nsIn K MV "KEPT_DEPTH"=ag (ag (.int 12 jS))){pM:Tok}(Fv:nsIn K MV "LETTERS"=ag (ag (.str "abcdefghijklmnopqrstuvwxyz" pM))){iO:Tok}(sj:nsIn K MV "LONGEST_NAME"=ag (ag (.int 6 iO))){nQ:Tok}(Ce:nsIn K MV "MOST_INS"=ag (ag (.int 6 nQ))){lR:Tok}(yy:nsIn K MV "MOST_OUTS"=ag (ag (.int 6 lR))){jg:Tok}(uI:nsIn K MV "MOST_STORES"=ag (ag (.int 16 jg))){lQ:Tok}(yx:nsIn K MV "MOST_SUMS"=ag (ag (.int 40 lQ))){jR:Tok}(wZ:nsIn K MV "MOST_WIRES"=ag (ag (.int 24 jR))){jQ:Tok}(wX:nsIn K MV "NAME_SIGNS"=ag (ag (.str "abcdefghijklmnopqrstuvwxyz0123456789" jQ)))(L8:NN K "all")(L7:NN K "any")(JV:NN K "dict")(w9:NN K "enumerate")(uN:NN K "isinstance")(L6:NN K "len")(JU:NN K "list")(HU:NN K "range")(zo:NN K "reversed")(L5:NN K "set")(L4:NN K "str")(HS:NN K "tuple")(LZ:NN K "zip"):∃fd:lM,(∀(s:hN) (v:iv),BindsTo s fd ⟨[v],[]⟩ [("_law_script",v)])/\∀base:MT,K.In base->base.Ns MV mg->FnOk l.prog w K mg base CX0 15 fa fd ["_law_script"] (yK K):=by
 have e:=hfa.symm.trans (N4 X G MK);cases e;obtain⟨_,lP⟩:=Lj.ok (ps:=["thing","depth"]) (by walk_at "b");obtain⟨_,c9⟩:=ny.ok (ps:=["self","name"]) (by walk_at "b");obtain⟨_,c8⟩:=nv.ok (ps:=["self","name"]) (by walk_at "b");obtain⟨_,dC⟩:=ou.ok (ps:=["self","name"]) (by walk_at "b");obtain⟨_,dc⟩:=nC.ok (ps:=["self","line"]) (by walk_at "b");obtain⟨_,fg⟩:=qO.ok (ps:=["self","ring"]) (by walk_at "b");obtain⟨_,b9⟩:=qM.ok (ps:=["self","name"]) (by walk_at "b");obtain⟨_,dD⟩:=oy.ok (ps:=["self","name","number"]) (by walk_at "b");obtain⟨_,c7⟩:=nu.ok (ps:=["self","name","wires"]) (by walk_at "b");obtain⟨_,cC⟩:=kT.ok (ps:=["self","name","wire","number"]) (by walk_at "b");obtain⟨_,gA⟩:=Em.ok (ps:=["thing"]) (by walk_at "b");obtain⟨_,kL⟩:=AS.ok (ps:=["row"]) (by walk_at "b");obtain⟨_,eZ⟩:=t8.ok (ps:=["ins","sums","stores","outs"]) (by walk_at "b");obtain⟨_,fc⟩:=t9.ok (ps:=["names"]) (by walk_at "b");obtain⟨_,cu⟩:=vM.ok (ps:=["wire","known"]) (by walk_at "b");obtain⟨_,eX⟩:=t7.ok (ps:=["sums","stores","outs","known"]) (by walk_at "b");obtain⟨_,eU⟩:=qK.ok (ps:=["ins","sums","stores"]) (by walk_at "b");obtain⟨_,rH⟩:=Jn.ok (ps:=["row","waiting"]) (by walk_at "b");obtain⟨_,iL⟩:=vL.ok (ps:=["rows"]) (by walk_at "b");obtain⟨_,kA⟩:=El.ok (ps:=["sums"]) (by walk_at "b");obtain⟨_,gq⟩:=r6.ok (ps:=["self","ins","sums","stores","outs"]) (by walk_at "b");obtain⟨_,cX⟩:=rZ.ok (ps:=["self"]) (by walk_at "b");obtain⟨_,cW⟩:=rY.ok (ps:=["self"]) (by walk_at "b");obtain⟨_,ck⟩:=pj.ok (ps:=["self"]) (by walk_at "b");obtain⟨_,cJ⟩:=qP.ok (ps:=["self"]) (by walk_at "b");obtain⟨_,gS⟩:=A9.ok (ps:=["self"]) (by walk_at "b");obtain⟨_,kN⟩:=AW.ok (ps:=["words"]) (by walk_at "b");obtain⟨_,nN⟩:=Ek.ok (ps:=["text"]) (by walk_at "b");obtain⟨_,gb⟩:=AV.ok (ps:=["text"]) (by walk_at "b");obtain⟨_,kM⟩:=AU.ok (ps:=["net"]) (by walk_at "b");obtain⟨_,d5⟩:=x3.ok (ps:=["_law_script","_law_k"]) (by walk_at "b");obtain⟨_,bo⟩:=A7.ok (ps:=["_law_cell_here","_law_k"]) (by walk_at "b");obtain⟨_,d4⟩:=xZ.ok (ps:=["_law_cell_here","_law_k"]) (by walk_at "b");obtain⟨_,iM⟩:=vO.ok (ps:=["_law_cell_here","_law_start","_law_names","_law_digits"]) (by walk_at "b");obtain⟨_,kQ⟩:=AZ.ok (ps:=["_law_script","_law_start","_law_most"]) (by walk_at "b");obtain⟨_,jE⟩:=xV.ok (ps:=["_law_ins","_law_sums","_law_stores","_law_outs"]) (by walk_at "b");obtain⟨_,il⟩:=xW.ok (ps:=["_law_ins","_law_sums","_law_stores","_law_outs"]) (by walk_at "b");obtain⟨_,cV⟩:=rX.ok (ps:=["_law_thing"]) (by walk_at "b");obtain⟨_,dO⟩:=pf.ok (ps:=["_law_names","_law_known"]) (by walk_at "b");obtain⟨_,ff⟩:=qL.ok (ps:=["_law_sums"]) (by walk_at "b");obtain⟨_,kR⟩:=A8.ok (ps:=["_law_ins","_law_sums","_law_stores","_law_outs"]) (by walk_at "b");obtain⟨_,gn⟩:=rW.ok (ps:=["_law_ring","_law_sums"]) (by walk_at "b");obtain⟨_,kO⟩:=AX.ok (ps:=["_law_words"]) (by walk_at "b");obtain⟨_,jG⟩:=xX.ok (ps:=["_law_text_here"]) (by walk_at "b");obtain⟨_,kP⟩:=AY.ok (ps:=["_law_words","_law_number"]) (by walk_at "b");obtain⟨_,dN⟩:=pe.ok (ps:=["_law_words","_law_number","_law_some"]) (by walk_at "b");obtain⟨_,iN⟩:=vP.ok (ps:=["_law_text_here","_law_cell_here","_law_digits"]) (by walk_at "b");obtain⟨_,gm⟩:=rV.ok (ps:=["_law_text_here"]) (by walk_at "b");have Hf:=HB (st:=Ai) ME MJ MA;have b_law:=Hf.binds (ps:=["_law_script"]) λ_ _ _ _ _ _ us hl=>match us,hl with | [_],_=>rfl
 have T:Tx K mg ⟨nD,_,bh,_,bg,_,bz,_,bj,_,bP,_,bO,_,be,_,bb,_,aT,_,gz,_,fQ,_,cP,_,cQ,_,dk,_,cO,_,bZ,_,mr,_,dj,_,ig,_,bM,_,bL,_,bK,_,bw,_,bD,_,dB,_,fU,_,ie,_,fT,_,fS,_,dZ,_,fX,_,dY,_,dn,_,fW,_,dW,_,dX,_,cy,_,bS,_,b6,_,fY,_,cx,_,fV,_,du,_,ee,_,bR,_,dq,_,cw,_,fa,_,nL,bx,aZ,aI,cA,aW,aV,aA,az,aG,aC,bf,_,_,_,_,_,_,_,_,_⟩:=⟨lP,N4 X G LK,c9,c8,dC,dc,fg,b9,dD,c7,cC,gA,N4 X G Fq,kL,N4 X G B5,eZ,N4 X G uG,fc,N4 X G uH,cu,N4 X G wU,eX,N4 X G uF,eU,N4 X G rC,rH,N4 X G JM,iL,N4 X G wR,kA,N4 X G Fp,gq,cX,cW,ck,cJ,gS,kN,N4 X G B8,nN,N4 X G Fo,gb,N4 X G B7,kM,N4 X G B6,d5,N4 X G yu,bo,N4 X G Cc,d4,N4 X G yt,iM,N4 X G wV,kQ,N4 X G Cb,jE,N4 X G yp,il,N4 X G yq,cV,N4 X G si,dO,N4 X G pC,ff,N4 X G rD,kR,N4 X G Cd,gn,N4 X G sh,kO,N4 X G B9,jG,N4 X G yr,kP,N4 X G Ca,dN,N4 X G pB,iN,N4 X G wW,gm,N4 X G sg,Hf,N4 X G LL,N4 X G Ha,⟨DM,DL,DK,DJ⟩,⟨EX,EW,EV,EU⟩,tU,ql,N4 X G Fu,⟨As,Ar,Aq,Ap⟩,⟨BQ,BP,BO,BN⟩,rQ,qh,N4 X G yw,⟨vp,vn,vm,vk⟩,⟨wx,wu,wo,wm⟩,o6,mW,o5,N4 X G ML,⟨KU,KS,KR,KQ⟩,⟨LB,Lz,Ly,Lx⟩,⟨qH,qC,cX.1.2⟩,⟨qG,qA,cW.1.2⟩,⟨oq,om,ck.1.2⟩,⟨pd,o9,cJ.1.2⟩,⟨xT,xS,gS.1.2⟩,tT,D0,oh,AD,qj,AC,⟨oV,oU,oR,@D,b9.1.2⟩,N4 X G yv,⟨uU,uT,uS⟩,N4 X G Fs,eC,fD,fC,⟨zP,zT,Bx⟩,N4 X G Fx,⟨zR,zV,Bz⟩,⟨⟨_,_,_,_,_,_,_,_,_,_,_,_,_,_,AO⟩,dP,mB,AA,Bb,Ag,so,Bv⟩,⟨zG,zD,zA,zw,w1,w2,so,zr⟩,oA,fM,fK,fL,rS,N4 X G Fw,⟨zQ,zU,By⟩,⟨⟨_,_,_,_,_,_,_,_,_,_,_,_,_,_,AN⟩,dP,mz,Az,Ba,Af,sk,Bu⟩,⟨zF,zC,zz,zv,w1,w2,sk,zq⟩,oz,fJ,fE,fH,fG,rR,N4 X G G9,⟨CV,CW,EF⟩,⟨⟨_,_,_,_,_,_,_,_,_,_,_,_,_,_,Ej⟩,dP,nP,DZ,Eo,Dg,uO,EA⟩,⟨Cu,Ct,Cr,Cq,w1,w2,uO,Cm⟩,qV,gH,gE,gG,gF,g6,tS,N4 X G Fy,⟨zS,zW,BA⟩,⟨⟨_,_,_,_,_,_,_,_,_,_,_,_,_,_,AQ⟩,dP,mC,AB,Bc,Ah,su,Bw⟩,⟨zH,zE,zB,zy,w1,w2,su,zu⟩,oB,fN,rT,N4 X G LM,⟨Il,Im,Jy⟩,⟨⟨_,_,_,_,_,_,_,_,_,_,_,_,_,_,Jl⟩,dP,pK,Jf,Jp,IA,Cn,Jx⟩,⟨HZ,HY,HX,HW,w1,w2,Cn,HV⟩,x6,iX,iU,iW,iV,jt,mf,xM,N4 X G w6,N4 X G Fv,N4 X G sj,N4 X G Ce,N4 X G yy,N4 X G uI,N4 X G yx,N4 X G wZ,N4 X G wX,NQ X G L8,NQ X G L7,NQ X G JV,NQ X G w9,NQ X G uN,NQ X G L6,NQ X G JU,NQ X G HU,NQ X G zo,NQ X G L5,NQ X G L4,NQ X G HS,NQ X G LZ⟩;exact⟨_,λs v=> .of_eq rfl,λbase _ _=>K8 T⟩
open PySem.W in
theorem walk {l:Si} {q:ry} {loose:A6} {XP:CD->MT->Prop} {YP:zt->MT->Prop} {d:DefRec} {K:Params->Frag} (hn:l.most=ag 63) (hdf:d.params.defaults=[])
  (hY:∀(w:zt) (h:MT),YP w h->(K w.params).In h)
  (F:∀(w:zt) (mg:CD) (fa:eH) (h:MT),(K w.params).In h->h.Ns MV mg->mg d.name=ag (.ref fa)->
   ∃fd:lM,(∀(s:hN) (u:iv),BindsTo s fd ⟨[u],[]⟩ [("_law_script",u)])/\∀base:MT,(K w.params).In base->base.Ns MV mg->FnOk l.prog w (K w.params) mg base CX0 15 fa fd ["_law_script"] (yK (K w.params))):
  WalkO q loose XP YP l.row.toRowW d [] (λf vs=>S5 f vs):=
 L2.walk_of (n:=63) (k:=15) (x:="_law_script") (CX:=λ_=>CX0) (sp:=λw=>yK (K w.params)) hn @C hdf ⟨rfl,@C,@C⟩ hY F (λ_ _ a ns hl _ hS=>⟨a,ns,rfl,hS,hl,λ_=>rfl⟩) λ_ _ _ _ _ z=>z
end My
structure PySem.W.Fast:Prop where(tw10052504308161027987 tw10088127228743792411 tw10126647844227781377 tw10167686527344459437 tw10171841667543205675 tw10179671109139731146 tw10180621832225633479 tw10182130224408433017 tw10201590033253401344 tw10220991435399144326 tw10223877267167675560 tw10237063850573349761 tw10345672456148560356 tw10361244325427485887 tw10371394059567024082 tw10390480319303314799 tw10393719812372894658 tw10403472753989944735 tw1046094682133758064 tw10477467734238807511 tw10588178142763708085 tw10618425704302603813 tw10631782727728539415 tw10656566175037073664 tw10727587377312653559 tw10821729531646696939 tw10825055422644109542 tw10841148696599688930 tw10914638216499737503 tw11015345519441557255 tw11057923530145960810 tw11087093649894300661 tw11118288745627155393 tw11171092437802908827 tw11171446176099658016 tw11227108510976240249 tw11268269095846735258 tw11398345706233709844 tw11463358204916547219 tw11491084542042520682 tw11565590877468030753 tw1158861271024857793 tw1166618736326981134 tw11666357057824559318 tw11669623145662210842 tw11725439531615775793 tw11781340590931442772 tw11807426206091432382 tw11881288340872348022 tw11904395993166582760 tw11908507730695228662 tw11984660866792424967 tw11991161801378963313 tw12073262358834374197 tw12078949224539662700 tw12186393032082467336 tw12246377790123353129 tw12319308093793616662 tw12590649533132836386 tw12601444327906321802 tw12618437744135610355 tw12701610909833599707 tw12724304385119012958 tw12841058277559337790 tw12909562096759429382 tw13036867735652441422 tw13062327104975148621 tw13101529391693198196 tw13123274543114541417 tw13123620706092387118 tw1315514217476310909 tw13159240505985420290 tw13235540643964464722 tw13243329658867252559 tw13299711540232322774 tw13302060106731788158 tw13331296122986934947 tw13400962969174715019 tw13414339782701684939 tw1346685867006641552 tw1347171141338999668 tw1359194820596017590 tw13677697142223867686 tw13751487849354170290 tw13752792519355757547 tw13777419882863580930 tw13793185318626033889 tw13948281798812732823 tw1394973763185502318 tw13979936615408751028 tw13982788932092931204 tw14013295485379364659 tw1403086342558219216 tw14067988652024353760 tw14146391702223317282 tw14164094510239995443 tw14189639268945863454 tw14269198032086051825 tw14312081904280754215 tw14365636783686047045 tw14377071110986646943 tw14479756949159880650 tw14531653406959732445 tw14539415436854350753 tw14557066762466275897 tw14572723034668127232 tw14574926013705019668 tw14585381197909800730 tw14627249557154347815 tw147085007922682982 tw14761275475710926569 tw1477485156238788798 tw14799393610248502698 tw14905534509443658487 tw1491180880383384828 tw1491888219347127311 tw14928731687436538019 tw14946709087031751084 tw14955668866284414817 tw14955763258985468956 tw15008036326247599739 tw15015191544770124653 tw15023427905065801991 tw15027346978593344130 tw15048984447648364765 tw15103321964763626344 tw15104573133304800364 tw15121572092725576107 tw15199443188418363822 tw15208676211687716324 tw15271582656728253965 tw1529710944785389112 tw15340394351639810244 tw15344665858940275013 tw15354576368004411535 tw15361960672350429899 tw15375231221825242688 tw15383973697279838580 tw15495751890484074313 tw15554199620057456913 tw15609744689401942631 tw1561026578846610463 tw15624378500121615502 tw15639004543927717887 tw15683828094082369606 tw15737798256170019685 tw15745900261599560599 tw1582337368817098103 tw15874012158818349112 tw15899036984540712765 tw16013015649031111109 tw16079756111999920349 tw16113424312760257333 tw16122152823145110283 tw16134761505520726997 tw16203881364818561364 tw16253244224202519215 tw16367972447292046531 tw16369816753659451838 tw16379991086528704082 tw16387174337912130074 tw16420729844113536125 tw16511177720836988247 tw1652403358614016895 tw16529511741427860020 tw16551259558993650596 tw16563521744207156307 tw16594804688290483353 tw1660494363928129934 tw16617915472084284099 tw16624568026088144587 tw16629106869844364045 tw16645711403035281078 tw16790563347242183151 tw16792570223718765873 tw16796592508279533020 tw16816817499067698442 tw16842539453037321461 tw16858409978158684492 tw16866236065981229231 tw16912160627248001187 tw16919144604957548880 tw16932063199667551511 tw16941027005265146283 tw17003179239560892185 tw17005189824859251974 tw17025024259457301634 tw17097618231615271255 tw17155746621778389292 tw17180064286027990224 tw17180125021216944240 tw17192097153958187982 tw17280635972437094336 tw17384507853210270580 tw1741203373770442956 tw17475342202326577050 tw17477605551424447008 tw17508121685631419328 tw17520786748200941295 tw17521481113205703921 tw17527595779554741902 tw17544104238067184479 tw17640958475605486768 tw17703604546805920449 tw17719737687842610367 tw17839540359165937776 tw17878644907540363400 tw17911920092236567250 tw17953813047311184011 tw18024912121910183295 tw18037571021452681962 tw18092755844509993234 tw18094747241333970356 tw18146261588126381297 tw181585744216800601 tw18201609056500533905 tw18202453535012466008 tw18252995907405395264 tw18263191248427718048 tw18281017123693642488 tw18334512902674633795 tw18352336238498580953 tw18386531209455789102 tw18416997534414998250 tw1845614131224577813 tw1846431958093431152 tw1870253715641761308 tw1941780878062934549 tw1977067768837539024 tw212548293509383329 tw2125560119894538042 tw2129367008321700930 tw2144482517408966216 tw2368771015321251327 tw240796251914119842 tw2426533803250963713 tw2473408951542741867 tw2541981503829536528 tw2560584497010492648 tw2798361730706450328 tw2852036686635815717 tw2935522321793299757 tw2945324599868898759 tw3041395147387496265 tw3054300057652262896 tw3083830119424188321 tw3124745105224152119 tw3144943843737051332 tw3186919983929556787 tw3294704889352178749 tw3348413470978288892 tw3411545548835762979 tw34136228984271142 tw3423097436115385198 tw356602364397234460 tw3661107501313454110 tw367278294833434679 tw3678229395088036185 tw3690210397440813036 tw3708561162807291861 tw3778201696064819532 tw379202202155188940 tw3803402824414327356 tw3816037633847497241 tw3824901725132306274 tw3830758390918610250 tw3908036081350886506 tw4004130960913652336 tw4056900959990092119 tw410473777813753978 tw4125986355265413367 tw4126814409949816759 tw4139327292957796639 tw415794869029977708 tw4169619099639408798 tw4259067577916741727 tw4337691363405672835 tw4520499882427196392 tw4536096537000108232 tw4546167131893706738 tw4584151455431661891 tw4604544372208811597 tw4607168479007098213 tw4629409158912914798 tw4645198486932469062 tw4649617669881946929 tw4660719979776864238 tw4712088393426180720 tw4751595923984129849 tw4774017937693864983 tw4853934184652808156 tw4859219760101048103 tw4939086601221025097 tw4958914320845086763 tw4996432896591020687 tw5052947358578997775 tw5090157063878160318 tw5101690220352603272 tw5163700309316405287 tw5217193359732719399 tw5265776677273944726 tw5288640246124534292 tw5357504762426740062 tw539471364707125859 tw5440011174715309105 tw5452384584717738749 tw5473485618501064201 tw5521354161096127915 tw5660293705534640810 tw5688203521783000645 tw5690535835472786038 tw5727828124155037164 tw5756767150416800658 tw5779241375048885064 tw5848443142211080711 tw5861767767277368805 tw5948903331232339157 tw6083274700598147343 tw6088247597677315590 tw610046830192915004 tw621069362518002882 tw6243419913419957556 tw6260335916405293193 tw6268890498675953649 tw6297147222438920221 tw6347494179746175093 tw6403042910344470029 tw6442614058290920102 tw6484256920255164265 tw660707387886310443 tw6690518597400056526 tw6732146634831179656 tw6823373150197465612 tw6846408760826726326 tw6854993863398862723 tw6882873930018656426 tw6946770755840526021 tw6960540492482538561 tw7177099421207713089 tw7260221754685218306 tw7273646870701906779 tw728489216722951298 tw7486467543801660133 tw7493018166685672951 tw7552313328889246226 tw7722991921388003625 tw7730280909011511864 tw7765016766598801702 tw776704241812941323 tw7767310131372284039 tw7801749757472125743 tw7878861115007759927 tw7890991957720055926 tw7925216994368062820 tw7973569599217065802 tw8086985542559643678 tw8164262843580522548 tw8202455703664213938 tw8206090775142264561 tw8223899596565323377 tw8231268574568703456 tw8240008804164760734 tw8396285479352674622 tw8436093551797237987 tw8441725279404376406 tw8516155147984469259 tw8547124991954324633 tw8615681718492985990 tw8702860657631715414 tw8789788347919177847 tw882498701882901531 tw8841008011188261151 tw8864242460336844572 tw8911032449152093903 tw9018232496742957514 tw9057119190720361114 tw9169459686739385693 tw917750446064387397 tw9191371025614250937 tw9254101741183130022 tw927161386762702354 tw9308761858496583617 tw9321279117943134075 tw9363736003476859395 tw9378131910443342180 tw9402443779657238355 tw9428952951454362291 tw9468785283510913509 tw953086182841182097 tw9585682094534065295 tw9590334821584683058 tw9633468484790470410 tw9686830501038994952 tw9687125408385496912 tw9708061166068285873 tw9734944512211459714 tw9750310363139640821 tw975896411990176823 tw9821850243988188022 tw9857617715339736341 tw9887899147244278276 tw9907013726524551617 tw9923447565681975579 tw9948433948593736582:True)
open PySem PySem.W PyProof.Rows
set_option maxRecDepth 100000 in
set_option maxHeartbeats 0 in
theorem PySem.Challenge.cw_sumwires_k16_whole_any_text_read_holds : PySem.Challenge.rw_sumwires_k16_whole_any_text_read.Holds := by
 w_on;o_law;k_head;(case hw=>w_witness2)
 k_fill
 refine My.walk (l:=PySem.Challenge.rw_sumwires_k16_whole_any_text_read) rfl rfl (λw h Y=>PySem.W.kIn_of Y) ?F
 case F=>
  intro w mg fa h KX G hmg;refine' My.all_mk KX G hmg _ _ _ _ _ _ _ _ _ _ _ _ _ _ _ _ _ _ _ _ _ _ _ _ _ _ _ _ _ _ _ _ _ _ _ _ _ _ _ _ _ _ _ _ _ _ _ _ _ _ _ _ _ _ _ _ _ _ _ _ _ _ _ _ _ _ _ _ _ _ _ _ _ _ _ _ _ _ _ _ _ _ _ _ _ _ _ _ _ _ _ _ _ _ _ _ _ _ _ _ _ _ _ _ _ _ _ _ _ _ _ _ _ _ _ _ _ _ _ _ _ _ _ _ _ _ _ _ _ _ _ _ _ _ _ _ _ _ _ _ _ _ _ _ _ _ _ _ _ _ _ _ _ _ _ _ _ _ _ _ _ _ _ _ _ _ _ _ _ ?dP _ _ _ _ _ _ _ _ _ _ _ _ _ _ _ ?eC _ _ _ _ _ _ _ _ _ _ _ _ _ _ _ _ _ _ _ _ _ _ _ _ _ _ _ _ _ _ _ _ _ _ _ _ _ _ _ _ _ _ _ _ _ _ _ _ _ _ _ _ _ _ _ _ _ _ _ _ _ _ _ _ _ _ _ _ _ _ _ _ _ _ _ _ _ _ _ _ _ _ _ _ _ _ _ _ _ _ _ _ _ _ _ _ _ _ _ _ _ _ _ _ _ _ _ _ _ _ _ _ _ _ _ _ _
  any_goals ((with_reducible show _=_);k_is)
  any_goals (refine' My.FR.mk ?u ?v ?w;(case u=>k_is);(case v=>k_is);(case w=>k_is))
  (case dP=>k_exc)
  (case eC=>k_exc)
